import PyProof.Rows.All
import Wide.All
import OpenK.AllK
import Wide.FinOn
import HandS.ForMost
import HandS.Walk
import HandS.Deep
import HandS.Star
import KE.DataEq
import HandS.TupAny
import HandS.IsInst
import HandS.Style
import HandS.RaiseMore
import KE.GoesZip
import KE.GoesMore
import HandS.Zip
import KE.KCallOwn
import KE.KFmtOwn
import HandS.OwnEq
import HandS.StrMore
import HandS.FStr
import HandS.ClsMeth
import HandS.Set
import HandS.SetKeys
import PyProof.Rows.SortStr
import HandS.Comp
import HandS.SetBool
import PyProof.Rows.SetFrom
import PySem.Challenge.RW_poisonruns_k17_texts_of_evidences
import HandS.Iter
import HandS.Dict
import HandS.DictComp
import PyProof.SetRoads
import PyProof.CallFns
import HandS.Text
import PyProof.Rows.StrMeet
import KE.KEqNest
import PyProof.Rows.TupIter
import PyProof.DictUpdate
import KE.GoesEnum
import HandS.Defaults
import PyProof.WalksMore
import PyProof.NeKinds
import HandS.Exc
set_option Elab.async false
set_option linter.all false
set_option maxRecDepth 100000
/-! Data: values with all that they hold, as one term; the readings of the hand layer told over such terms. -/
namespace DL
open PySem L2

/-- a value with all that it holds -/
inductive D where
  | non | bl (b : Bool) | int (i : Int) | str (x : Str) | lst (ds : List D) | tup (ds : List D)
  | obj (C : Addr) (ns : List Str) (ds : List D)
  | dct (ks : List Key) (ds : List D)
  | raw (v : V)
  /-- the script -/
  | scr (ns : List Int)

/-- a tuple of the written part -/
def KTup (K : PySem.W.Frag) (a : Addr) (xs : List V) : Prop :=
  ∃ (o : Obj) (its : Array Value) (n : Nat), K.lookup a = some o ∧ o.cls = .type "tuple" ∧ o.data = .seq its n ∧ its.size ≤ sizeLine ∧ Vals xs its.toList

/-- a list of the written part -/
def KLst (K : PySem.W.Frag) (a : Addr) (xs : List V) : Prop :=
  ∃ (o : Obj) (its : Array Value) (n : Nat), K.lookup a = some o ∧ o.cls = .type "list" ∧ o.dict = none ∧ o.data = .seq its n ∧ its.size ≤ sizeLine ∧ Vals xs its.toList
mutual
/-- v holds d in H, nothing of it at a place of M -/
inductive Rp (K : PySem.W.Frag) (M : Addr → Prop) (H : Hp) : V → D → Prop
  | non : Rp K M H .non .non
  | bl (b : Bool) : Rp K M H (.bl b) (.bl b)
  | int (i : Int) : Rp K M H (.int i) (.int i)
  | str (x : Str) : Rp K M H (.str x) (.str x)
  | raw (v : V) : Rp K M H v (.raw v)
  | scr {a : Addr} {o : Obj} {ns : List Int} : ¬ M a → H a = some (.frz o (.lst (ns.map V.int))) → Rp K M H (.ref a) (.scr ns)
  | scrK {a : Addr} {ns : List Int} : KLst K a (ns.map V.int) → Rp K M H (.ref a) (.scr ns)
  | lst {a : Addr} {xs : List V} {ds : List D} : ¬ M a → H a = some (.lst xs) → RpAll K M H xs ds → Rp K M H (.ref a) (.lst ds)
  | tup {a : Addr} {xs : List V} {ds : List D} : ¬ M a → H a = some (.tup xs) → RpAll K M H xs ds → Rp K M H (.ref a) (.tup ds)
  | tupK {a : Addr} {xs : List V} {ds : List D} : KTup K a xs → RpAll K M H xs ds → Rp K M H (.ref a) (.tup ds)
  | obj {a C dx : Addr} {ns : List Str} {xs : List V} {ds : List D} : ¬ M a → H a = some (.ins C dx (ns.zip xs)) → ns.length = xs.length → RpAll K M H xs ds → Rp K M H (.ref a) (.obj C ns ds)
  | dct {a : Addr} {ks : List Key} {xs : List V} {ds : List D} : ¬ M a → H a = some (.dK (ks.zip xs)) → ks.length = xs.length → RpAll K M H xs ds → Rp K M H (.ref a) (.dct ks ds)
inductive RpAll (K : PySem.W.Frag) (M : Addr → Prop) (H : Hp) : List V → List D → Prop
  | nil : RpAll K M H [] []
  | cons {v : V} {vs : List V} {d : D} {ds : List D} : Rp K M H v d → RpAll K M H vs ds → RpAll K M H (v :: vs) (d :: ds)
end

section
variable {K : PySem.W.Frag} {M M' : Addr → Prop} {H H' : Hp}
/-- what is not at M stays -/
def Keep (M : Addr → Prop) (H H' : Hp) : Prop := ∀ a o, H a = some o → ¬ M a → H' a = some o
theorem Keep.refl : Keep M H H := fun _ _ e _ => e
theorem Keep.trans {H2 : Hp} (h : Keep M H H') (h' : Keep M H' H2) : Keep M H H2 := fun a o e m => h' a o (h a o e m) m
theorem Keep.mono (h : Keep M H H') (hm : ∀ a, M a → M' a) : Keep M' H H' := fun a o e m => h a o e fun z => m (hm a z)
theorem Keep.of_same (h : Same H H') : Keep M H H' := fun a o e _ => h a o e
theorem Keep.rd {a : Addr} {u : HO} (k : Keep M H H') (m : ¬ M a) (r : Rd H a u) : Rd H' a u := by
  rcases r with r | ⟨o, r⟩
  · exact .inl (k a _ r m)
  · exact .inr ⟨o, k a _ r m⟩
mutual
theorem Rp.keep (k : Keep M H H') : ∀ {v : V} {d : D}, Rp K M H v d → Rp K M H' v d
  | _, _, .non => .non
  | _, _, .bl b => .bl b
  | _, _, .int b => .int b
  | _, _, .str b => .str b
  | _, _, .raw b => .raw b
  | _, _, .scr m r => .scr m (k _ _ r m)
  | _, _, .scrK r => .scrK r
  | _, _, .lst m r a => .lst m (k _ _ r m) (RpAll.keep k a)
  | _, _, .tup m r a => .tup m (k _ _ r m) (RpAll.keep k a)
  | _, _, .tupK r a => .tupK r (RpAll.keep k a)
  | _, _, .obj m r e a => .obj m (k _ _ r m) e (RpAll.keep k a)
  | _, _, .dct m r e a => .dct m (k _ _ r m) e (RpAll.keep k a)
theorem RpAll.keep (k : Keep M H H') : ∀ {vs : List V} {ds : List D}, RpAll K M H vs ds → RpAll K M H' vs ds
  | _, _, .nil => .nil
  | _, _, .cons a b => .cons (Rp.keep k a) (RpAll.keep k b)
end
mutual
/-- other places: those of M' that hold something are of M -/
theorem Rp.anti (hm : ∀ a o, H a = some o → M' a → M a) : ∀ {v : V} {d : D}, Rp K M H v d → Rp K M' H v d
  | _, _, .non => .non
  | _, _, .bl b => .bl b
  | _, _, .int b => .int b
  | _, _, .str b => .str b
  | _, _, .raw b => .raw b
  | _, _, .scr m r => .scr (fun z => m (hm _ _ r z)) r
  | _, _, .scrK r => .scrK r
  | _, _, .lst m r a => .lst (fun z => m (hm _ _ r z)) r (RpAll.anti hm a)
  | _, _, .tup m r a => .tup (fun z => m (hm _ _ r z)) r (RpAll.anti hm a)
  | _, _, .tupK r a => .tupK r (RpAll.anti hm a)
  | _, _, .obj m r e a => .obj (fun z => m (hm _ _ r z)) r e (RpAll.anti hm a)
  | _, _, .dct m r e a => .dct (fun z => m (hm _ _ r z)) r e (RpAll.anti hm a)
theorem RpAll.anti (hm : ∀ a o, H a = some o → M' a → M a) : ∀ {vs : List V} {ds : List D}, RpAll K M H vs ds → RpAll K M' H vs ds
  | _, _, .nil => .nil
  | _, _, .cons a b => .cons (Rp.anti hm a) (RpAll.anti hm b)
end
theorem Rp.scr_seq {v : V} {ns : List Int} (r : Rp K M H v (.scr ns)) : ∃ a, v = .ref a ∧ SqL K H a (ns.map V.int) := by
  cases r with
  | scr m r => exact ⟨_, rfl, .inl (.inr ⟨_, r⟩)⟩
  | scrK r => exact ⟨_, rfl, .inr r⟩
theorem RpAll.ints : ∀ ns : List Int, RpAll K M H (ns.map V.int) (ns.map D.int)
  | [] => .nil
  | n :: ns => .cons (.int n) (RpAll.ints ns)
theorem RpAll.length : ∀ {vs : List V} {ds : List D}, RpAll K M H vs ds → vs.length = ds.length
  | _, _, .nil => rfl
  | _, _, .cons _ b => by simp [RpAll.length b]
theorem RpAll.get : ∀ {vs : List V} {ds : List D} {i : Nat} {v : V}, RpAll K M H vs ds → vs[i]? = some v → ∃ d, ds[i]? = some d ∧ Rp K M H v d
  | _, _, _, _, .nil, h => by simp at h
  | _, _, 0, _, .cons a b, h => by simp at h; subst h; exact ⟨_, rfl, a⟩
  | _, _, i + 1, _, .cons a b, h => RpAll.get (i := i) b (by simpa using h)
theorem RpAll.get' : ∀ {vs : List V} {ds : List D} {i : Nat} {d : D}, RpAll K M H vs ds → ds[i]? = some d → ∃ v, vs[i]? = some v ∧ Rp K M H v d
  | _, _, _, _, .nil, h => by simp at h
  | _, _, 0, _, .cons a b, h => by simp at h; subst h; exact ⟨_, rfl, a⟩
  | _, _, i + 1, _, .cons a b, h => RpAll.get' (i := i) b (by simpa using h)
theorem RpAll.append : ∀ {vs ws : List V} {ds es : List D}, RpAll K M H vs ds → RpAll K M H ws es → RpAll K M H (vs ++ ws) (ds ++ es)
  | _, _, _, _, .nil, h => h
  | _, _, _, _, .cons a b, h => .cons a (RpAll.append b h)
theorem RpAll.take : ∀ {vs : List V} {ds : List D} (n : Nat), RpAll K M H vs ds → RpAll K M H (vs.take n) (ds.take n)
  | _, _, 0, _ => .nil
  | _, _, _ + 1, .nil => .nil
  | _, _, n + 1, .cons a b => .cons a (RpAll.take n b)
theorem RpAll.drop : ∀ {vs : List V} {ds : List D} (n : Nat), RpAll K M H vs ds → RpAll K M H (vs.drop n) (ds.drop n)
  | _, _, 0, h => h
  | _, _, _ + 1, .nil => .nil
  | _, _, n + 1, .cons _ b => RpAll.drop n b
theorem RpAll.eraseIdx : ∀ {vs : List V} {ds : List D} (n : Nat), RpAll K M H vs ds → RpAll K M H (vs.eraseIdx n) (ds.eraseIdx n)
  | _, _, _, .nil => .nil
  | _, _, 0, .cons _ b => b
  | _, _, n + 1, .cons a b => .cons a (RpAll.eraseIdx n b)
theorem RpAll.reverse : ∀ {vs : List V} {ds : List D}, RpAll K M H vs ds → RpAll K M H vs.reverse ds.reverse
  | _, _, .nil => .nil
  | _, _, .cons a b => by rw [List.reverse_cons, List.reverse_cons]; exact RpAll.append (RpAll.reverse b) (.cons a .nil)
theorem Keep.upd_new {a : Addr} {o : HO} (h : H a = none) : Keep M H (upd H a o) := fun b u e _ => by rw [upd_ne (ne_of_none e h)]; exact e
end
end DL

namespace DL
open PySem L2

/-- a region that callees may change, and what is always true of it -/
structure Rg where
  R : Addr → Prop
  J : Hp → Prop
structure Rg.Ok (r : Rg) : Prop where
  stay : ∀ H H', r.J H → (∀ a o, H a = some o → r.R a → H' a = some o) → r.J H'
  dom : ∀ H, r.J H → ∀ a, r.R a → H a ≠ none
def Rg.pure : Rg := ⟨fun _ => False, fun _ => True⟩
theorem Rg.pure_ok : Rg.pure.Ok := ⟨fun _ _ _ _ => trivial, fun _ _ _ h => h.elim⟩
/-- where one stands: places that no data may hold, the object that is made, the region -/
structure Dc where
  M : Addr → Prop
  P : Option Addr
  rg : Rg
structure Dc.Ok (c : Dc) : Prop where
  sub : ∀ a, c.rg.R a → c.M a
  rg : c.rg.Ok
  pm : ∀ a, c.P = some a → c.M a ∧ ¬ c.rg.R a
/-- what a slot holds: data; a list of one's own; the object that is made -/
inductive Sl where
  | dat (d : D) | own (a : Addr) (ds : List D) | ownD (a : Addr) (ks : List Key) (ds : List D) | self (a C : Addr) (ns : List Str) (ds : List D)
def Sl.at : Sl → Option Addr
  | .dat _ => none
  | .own a _ => some a
  | .ownD a _ _ => some a
  | .self a _ _ _ => some a
abbrev En := List (Option Sl)
def Mof (c : Dc) (env : En) (a : Addr) : Prop := c.M a ∨ ∃ (i : Nat) (s : Sl), env[i]? = some (some s) ∧ s.at = some a
abbrev Rw (c : Dc) : Addr → Prop := fun a => c.rg.R a ∨ c.P = some a
def SlOk (K : PySem.W.Frag) (c : Dc) (env : En) (H0 H : Hp) : Sl → V → Prop
  | .dat d, v => Rp K (Mof c env) H v d
  | .own a ds, v => v = .ref a ∧ H0 a = none ∧ ¬ c.M a ∧ ∃ vs, H a = some (.lst vs) ∧ RpAll K (Mof c env) H vs ds
  | .ownD a ks ds, v => v = .ref a ∧ H0 a = none ∧ ¬ c.M a ∧ ∃ vs, H a = some (.dK (ks.zip vs)) ∧ ks.length = vs.length ∧ RpAll K (Mof c env) H vs ds
  | .self a C ns ds, v => v = .ref a ∧ c.P = some a ∧ ∃ dx vs, H a = some (.ins C dx (ns.zip vs)) ∧ ns.length = vs.length ∧ RpAll K (Mof c env) H vs ds
/-- what is held through all: stable -/
abbrev Pin := (Addr → Prop) → Hp → Prop
def PinOk (p : Pin) : Prop := ∀ M H M' H', p M H → Keep M H H' → (∀ a o, H a = some o → M' a → M a) → p M' H'
structure Sd (K : PySem.W.Frag) (c : Dc) (pn : Pin) (H0 : Hp) (env : En) (σ : St) (H : Hp) : Prop where
  ok : c.Ok
  len : σ.length = env.length
  sl : ∀ (i : Nat) (s : Sl), env[i]? = some (some s) → ∃ v, σ[i]? = some (some v) ∧ SlOk K c env H0 H s v
  j : c.rg.J H
  kp : Keep (Rw c) H0 H
  dom : ∀ a, c.M a → H a ≠ none
  apart : ∀ (i j : Nat) (s t : Sl) (a : Addr), env[i]? = some (some s) → env[j]? = some (some t) → s.at = some a → t.at = some a → i = j
  pk : PinOk pn
  pn : pn (Mof c env) H
section
variable {K : PySem.W.Frag} {c : Dc} {pn : Pin} {H0 : Hp} {env env' : En} {σ : St} {H H' : Hp} {i : Nat} {s : Sl} {a : Addr} {d : D} {v : V}
theorem Mof.of_R (ok : c.Ok) {a : Addr} (h : c.rg.R a) : Mof c env a := .inl (ok.sub a h)
theorem Sd.domM (S : Sd K c pn H0 env σ H) : ∀ a, Mof c env a → H a ≠ none := fun a h e => by
  rcases h with h | ⟨i, s, h1, h2⟩
  · exact S.dom a h e
  · obtain ⟨v, _, q⟩ := S.sl i s h1
    cases s with
    | dat d => cases h2
    | own b ds =>
      cases h2
      obtain ⟨_, _, _, vs, hb, _⟩ := q
      rw [hb] at e; cases e
    | ownD b kz ds =>
      cases h2
      obtain ⟨_, _, _, vs, hb, _⟩ := q
      rw [hb] at e; cases e
    | self b C ns ds =>
      cases h2
      obtain ⟨_, _, dx, vs, hb, _⟩ := q
      rw [hb] at e; cases e
/-- the heap grows: a callee ran, objects were made -/
theorem Sd.grow (S : Sd K c pn H0 env σ H) (k : Keep c.rg.R H H') (j : c.rg.J H') : Sd K c pn H0 env σ H' := by
  have kM : Keep (Mof c env) H H' := k.mono fun a h => Mof.of_R S.ok h
  refine ⟨S.ok, S.len, fun i s e => ?_, j, S.kp.trans (k.mono fun a h => .inl h), fun a h e => ?_, S.apart, S.pk, S.pk _ _ _ _ S.pn kM fun a o _ h => h⟩
  · obtain ⟨v, h1, h2⟩ := S.sl i s e
    refine ⟨v, h1, ?_⟩
    cases s with
    | dat d => exact Rp.keep kM h2
    | own b ds =>
      obtain ⟨q1, q2, q3, vs, q4, q5⟩ := h2
      exact ⟨q1, q2, q3, vs, k b _ q4 fun z => q3 (S.ok.sub b z), RpAll.keep kM q5⟩
    | ownD b kz ds =>
      obtain ⟨q1, q2, q3, vs, q4, ql, q5⟩ := h2
      exact ⟨q1, q2, q3, vs, k b _ q4 fun z => q3 (S.ok.sub b z), ql, RpAll.keep kM q5⟩
    | self b C ns ds =>
      obtain ⟨q1, q2, dx, vs, q4, q5, q6⟩ := h2
      exact ⟨q1, q2, dx, vs, k b _ q4 (S.ok.pm b q2).2, q5, RpAll.keep kM q6⟩
  · by_cases hr : c.rg.R a
    · exact S.ok.rg.dom H' j a hr e
    · cases q : H a with
      | none => exact S.dom a h q
      | some o => rw [k a o q hr] at e; cases e
theorem Sd.same (S : Sd K c pn H0 env σ H) (k : Same H H') : Sd K c pn H0 env σ H' :=
  S.grow (Keep.of_same k) (S.ok.rg.stay H H' S.j fun a o e _ => k a o e)
/-- all slots but i as they were: data anew at i -/
theorem Sd.setD (S : Sd K c pn H0 env σ H) (i : Nat) (hi : i < env.length) (r : Rp K (Mof c env) H v d) : Sd K c pn H0 (env.set i (some (.dat d))) (σ.set i (some v)) H := by
  have hM : ∀ a, Mof c (env.set i (some (.dat d))) a → Mof c env a := fun a h => by
    rcases h with h | ⟨j, s, h1, h2⟩
    · exact .inl h
    · by_cases e : i = j
      · subst e
        rw [List.getElem?_set_self hi] at h1; cases h1; cases h2
      · rw [List.getElem?_set_ne e] at h1
        exact .inr ⟨j, s, h1, h2⟩
  have hM' : ∀ a o, H a = some o → Mof c (env.set i (some (.dat d))) a → Mof c env a := fun a o _ h => hM a h
  refine ⟨S.ok, by simp [S.len], fun j s e => ?_, S.j, S.kp, S.dom, fun j k s t a e1 e2 e3 e4 => ?_, S.pk, S.pk _ _ _ _ S.pn Keep.refl hM'⟩
  · by_cases e' : i = j
    · subst e'
      rw [List.getElem?_set_self hi] at e; cases e
      exact ⟨v, by rw [List.getElem?_set_self (by rw [S.len]; exact hi)], Rp.anti hM' r⟩
    · rw [List.getElem?_set_ne e'] at e
      obtain ⟨w, h1, h2⟩ := S.sl j s e
      refine ⟨w, by rw [List.getElem?_set_ne e']; exact h1, ?_⟩
      cases s with
      | dat d => exact Rp.anti hM' h2
      | own b ds => obtain ⟨q1, q2, q3, vs, q4, q5⟩ := h2; exact ⟨q1, q2, q3, vs, q4, RpAll.anti hM' q5⟩
      | ownD b kz ds => obtain ⟨q1, q2, q3, vs, q4, ql, q5⟩ := h2; exact ⟨q1, q2, q3, vs, q4, ql, RpAll.anti hM' q5⟩
      | self b C ns ds => obtain ⟨q1, q2, dx, vs, q4, q5, q6⟩ := h2; exact ⟨q1, q2, dx, vs, q4, q5, RpAll.anti hM' q6⟩
  · by_cases h1 : i = j
    · subst h1
      rw [List.getElem?_set_self hi] at e1; cases e1; cases e3
    · by_cases h2 : i = k
      · subst h2
        rw [List.getElem?_set_self hi] at e2; cases e2; cases e4
      · rw [List.getElem?_set_ne h1] at e1
        rw [List.getElem?_set_ne h2] at e2
        exact S.apart j k s t a e1 e2 e3 e4
/-- a slot's value is forgotten -/
theorem Sd.setN (S : Sd K c pn H0 env σ H) (i : Nat) : Sd K c pn H0 (env.set i none) (σ.set i none) H := by
  have hM : ∀ a, Mof c (env.set i none) a → Mof c env a := fun a h => by
    rcases h with h | ⟨j, s, h1, h2⟩
    · exact .inl h
    · by_cases e : i = j
      · subst e
        by_cases hi : i < env.length
        · rw [List.getElem?_set_self hi] at h1; cases h1
        · rw [List.getElem?_eq_none (by simpa using hi)] at h1; cases h1
      · rw [List.getElem?_set_ne e] at h1
        exact .inr ⟨j, s, h1, h2⟩
  have hM' : ∀ a o, H a = some o → Mof c (env.set i none) a → Mof c env a := fun a o _ h => hM a h
  have old : ∀ (j : Nat) (s : Sl), (env.set i none)[j]? = some (some s) → i ≠ j ∧ env[j]? = some (some s) := fun j s e => by
    by_cases e' : i = j
    · subst e'
      by_cases hi : i < env.length
      · rw [List.getElem?_set_self hi] at e; cases e
      · rw [List.getElem?_eq_none (by simpa using hi)] at e; cases e
    · rw [List.getElem?_set_ne e'] at e
      exact ⟨e', e⟩
  refine ⟨S.ok, by simp [S.len], fun j s e => ?_, S.j, S.kp, S.dom, fun j k s t a e1 e2 e3 e4 => S.apart j k s t a (old j s e1).2 (old k t e2).2 e3 e4, S.pk, S.pk _ _ _ _ S.pn Keep.refl hM'⟩
  obtain ⟨e', e⟩ := old j s e
  obtain ⟨w, h1, h2⟩ := S.sl j s e
  refine ⟨w, by rw [List.getElem?_set_ne e']; exact h1, ?_⟩
  cases s with
  | dat d => exact Rp.anti hM' h2
  | own b ds => obtain ⟨q1, q2, q3, vs, q4, q5⟩ := h2; exact ⟨q1, q2, q3, vs, q4, RpAll.anti hM' q5⟩
  | ownD b kz ds => obtain ⟨q1, q2, q3, vs, q4, ql, q5⟩ := h2; exact ⟨q1, q2, q3, vs, q4, ql, RpAll.anti hM' q5⟩
  | self b C ns ds => obtain ⟨q1, q2, dx, vs, q4, q5, q6⟩ := h2; exact ⟨q1, q2, dx, vs, q4, q5, RpAll.anti hM' q6⟩
def wipeE (env : En) : List Nat → En
  | [] => env
  | v :: vs => (wipeE env vs).set v none
theorem Sd.wipe (S : Sd K c pn H0 env σ H) : ∀ vs : List Nat, Sd K c pn H0 (wipeE env vs) (L2.wipe σ vs) H
  | [] => S
  | v :: vs => (S.wipe vs).setN v
/-- a new list of one's own at slot i; it was laid at a while all else grew -/
theorem Sd.setO {ds : List D} {vs : List V} (S : Sd K c pn H0 env σ H) (i : Nat) (hi : i < env.length) (ha : H a = none) (k : Keep c.rg.R H H') (j : c.rg.J H') (hl : H' a = some (.lst vs)) (r : RpAll K (fun b => Mof c env b ∨ b = a) H' vs ds) :
    Sd K c pn H0 (env.set i (some (.own a ds))) (σ.set i (some (.ref a))) H' := by
  have hM : ∀ b, Mof c (env.set i (some (.own a ds))) b → Mof c env b ∨ b = a := fun b h => by
    rcases h with h | ⟨j, s, h1, h2⟩
    · exact .inl (.inl h)
    · by_cases e : i = j
      · subst e
        rw [List.getElem?_set_self hi] at h1; cases h1; cases h2; exact .inr rfl
      · rw [List.getElem?_set_ne e] at h1
        exact .inl (.inr ⟨j, s, h1, h2⟩)
  have hMH : ∀ b o, H b = some o → Mof c (env.set i (some (.own a ds))) b → Mof c env b := fun b o e h => by
    rcases hM b h with z | rfl
    · exact z
    · rw [ha] at e; cases e
  have hM2 : ∀ b o, H' b = some o → Mof c (env.set i (some (.own a ds))) b → Mof c env b ∨ b = a := fun b o _ h => hM b h
  have kM : Keep (Mof c (env.set i (some (.own a ds)))) H H' := k.mono fun b h => .inl (S.ok.sub b h)
  have nM : ¬ Mof c env a := fun z => S.domM a z ha
  have S' := S.grow k j
  have H0a : H0 a = none := by
    cases q : H0 a with
    | none => rfl
    | some o =>
      by_cases h : Rw c a
      · rcases h with h | h
        · exact absurd ha (S.ok.rg.dom H S.j a h)
        · exact absurd ha (S.dom a (S.ok.pm a h).1)
      · rw [S.kp a o q h] at ha; cases ha
  refine ⟨S.ok, by simp [S.len], fun j' s e => ?_, j, S'.kp, S'.dom, fun j k s t b e1 e2 e3 e4 => ?_, S.pk, S.pk _ _ _ _ (S.pk _ _ _ _ S.pn Keep.refl hMH) kM fun _ _ _ z => z⟩
  · by_cases e' : i = j'
    · subst e'
      rw [List.getElem?_set_self hi] at e; cases e
      refine ⟨.ref a, by rw [List.getElem?_set_self (by rw [S.len]; exact hi)], rfl, H0a, fun z => nM (.inl z), vs, hl, RpAll.anti hM2 r⟩
    · rw [List.getElem?_set_ne e'] at e
      obtain ⟨w, h1, h2⟩ := S.sl j' s e
      refine ⟨w, by rw [List.getElem?_set_ne e']; exact h1, ?_⟩
      cases s with
      | dat d => exact Rp.keep kM (Rp.anti hMH h2)
      | own b es =>
        obtain ⟨q1, q2, q3, vs', q4, q5⟩ := h2
        exact ⟨q1, q2, q3, vs', k b _ q4 (fun z => q3 (S.ok.sub b z)), RpAll.keep kM (RpAll.anti hMH q5)⟩
      | ownD b kz es =>
        obtain ⟨q1, q2, q3, vs', q4, ql, q5⟩ := h2
        exact ⟨q1, q2, q3, vs', k b _ q4 (fun z => q3 (S.ok.sub b z)), ql, RpAll.keep kM (RpAll.anti hMH q5)⟩
      | self b C ns es =>
        obtain ⟨q1, q2, dx, vs', q4, q5, q6⟩ := h2
        exact ⟨q1, q2, dx, vs', k b _ q4 (S.ok.pm b q2).2, q5, RpAll.keep kM (RpAll.anti hMH q6)⟩
  · have fresh : ∀ (l : Nat) (s : Sl), env[l]? = some (some s) → s.at ≠ some a := fun l s e z => nM (.inr ⟨l, s, e, z⟩)
    by_cases h1 : i = j
    · by_cases h2 : i = k
      · exact h1.symm.trans h2
      · subst h1
        rw [List.getElem?_set_self hi] at e1; cases e1; cases e3
        rw [List.getElem?_set_ne h2] at e2
        exact absurd e4 (fresh k t e2)
    · by_cases h2 : i = k
      · subst h2
        rw [List.getElem?_set_self hi] at e2; cases e2; cases e4
        rw [List.getElem?_set_ne h1] at e1
        exact absurd e3 (fresh j s e1)
      · rw [List.getElem?_set_ne h1] at e1
        rw [List.getElem?_set_ne h2] at e2
        exact S.apart j k s t b e1 e2 e3 e4
/-- a list of one's own is changed -/
theorem Sd.updO {ds es : List D} {ws : List V} (S : Sd K c pn H0 env σ H) (hi : env[i]? = some (some (.own a ds))) (r : RpAll K (Mof c env) H ws es) :
    Sd K c pn H0 (env.set i (some (.own a es))) σ (upd H a (.lst ws)) := by
  have hi' : i < env.length := (List.getElem?_eq_some_iff.mp hi).1
  obtain ⟨v, hv, rfl, h0, hm, vs, hl, rv⟩ := S.sl i _ hi
  have hat : ∀ (j : Nat) (s : Sl), (env.set i (some (.own a es)))[j]? = some (some s) → ∃ t, env[j]? = some (some t) ∧ t.at = s.at := fun j s e => by
    by_cases e' : i = j
    · subst e'
      rw [List.getElem?_set_self hi'] at e; cases e
      exact ⟨_, hi, rfl⟩
    · rw [List.getElem?_set_ne e'] at e
      exact ⟨s, e, rfl⟩
  have hM : ∀ b, Mof c (env.set i (some (.own a es))) b → Mof c env b := fun b h => by
    rcases h with h | ⟨j, s, h1, h2⟩
    · exact .inl h
    · obtain ⟨t, e1, e2⟩ := hat j s h1
      exact .inr ⟨j, t, e1, e2.trans h2⟩
  have Ma : Mof c env a := .inr ⟨i, _, hi, rfl⟩
  have kM : Keep (Mof c env) H (upd H a (.lst ws)) := fun b o e m => by
    rw [upd_ne (fun z => m (by rw [z]; exact Ma))]; exact e
  have hMH : ∀ (G : Hp) b o, G b = some o → Mof c (env.set i (some (.own a es))) b → Mof c env b := fun _ b o _ h => hM b h
  have ne : ∀ (j : Nat) (s : Sl) (b : Addr), i ≠ j → env[j]? = some (some s) → s.at = some b → b ≠ a := fun j s b hij e1 e2 z => by
    subst z
    exact hij (S.apart i j _ _ b hi e1 rfl e2)
  refine ⟨S.ok, by simp [S.len], fun j s e => ?_, ?_, fun b o e m => ?_, fun b h e => ?_, fun j k s t b e1 e2 e3 e4 => ?_, S.pk, S.pk _ _ _ _ S.pn kM (hMH H)⟩
  · by_cases e' : i = j
    · subst e'
      rw [List.getElem?_set_self hi'] at e; cases e
      exact ⟨_, hv, rfl, h0, hm, ws, upd_same, RpAll.anti (hMH _) (RpAll.keep kM r)⟩
    · rw [List.getElem?_set_ne e'] at e
      obtain ⟨w, h1, h2⟩ := S.sl j s e
      refine ⟨w, h1, ?_⟩
      cases s with
      | dat d => exact Rp.anti (hMH _) (Rp.keep kM h2)
      | own b es =>
        obtain ⟨q1, q2, q3, vs', q4, q5⟩ := h2
        exact ⟨q1, q2, q3, vs', by rw [upd_ne (ne j _ b e' e rfl)]; exact q4, RpAll.anti (hMH _) (RpAll.keep kM q5)⟩
      | ownD b kz es =>
        obtain ⟨q1, q2, q3, vs', q4, ql, q5⟩ := h2
        exact ⟨q1, q2, q3, vs', by rw [upd_ne (ne j _ b e' e rfl)]; exact q4, ql, RpAll.anti (hMH _) (RpAll.keep kM q5)⟩
      | self b C ns es =>
        obtain ⟨q1, q2, dx, vs', q4, q5, q6⟩ := h2
        exact ⟨q1, q2, dx, vs', by rw [upd_ne (ne j _ b e' e rfl)]; exact q4, q5, RpAll.anti (hMH _) (RpAll.keep kM q6)⟩
  · exact S.ok.rg.stay H _ S.j fun b o e hr => by
      rw [upd_ne (fun z => hm (by rw [← z]; exact S.ok.sub b hr))]; exact e
  · have hb : b ≠ a := fun z => by rw [z, h0] at e; cases e
    rw [upd_ne hb]; exact S.kp b o e m
  · by_cases hb : b = a
    · rw [hb, upd_same] at e; cases e
    · rw [upd_ne hb] at e; exact S.dom b h e
  · obtain ⟨s', f1, g1⟩ := hat j s e1
    obtain ⟨t', f2, g2⟩ := hat k t e2
    exact S.apart j k s' t' b f1 f2 (g1.trans e3) (g2.trans e4)
end
end DL

namespace DL
open PySem L2

/-- what an expression may say of data: a reading told over slots of data -/
abbrev TD := En → (D → Prop) → Prop
abbrev TDs := En → (List D → Prop) → Prop
abbrev TB := En → (Bool → Prop) → Prop

/-- v holds d, or is a list of one's own that holds it -/
def RpO (K : PySem.W.Frag) (M0 M : Addr → Prop) (H : Hp) (v : V) (d : D) : Prop :=
  Rp K M H v d ∨ ∃ a vs ds, v = .ref a ∧ d = .lst ds ∧ ¬ M0 a ∧ H a = some (.lst vs) ∧ RpAll K M H vs ds
inductive RpOs (K : PySem.W.Frag) (M0 M : Addr → Prop) (H : Hp) : List V → List D → Prop
  | nil : RpOs K M0 M H [] []
  | cons {v : V} {vs : List V} {d : D} {ds : List D} : RpO K M0 M H v d → RpOs K M0 M H vs ds → RpOs K M0 M H (v :: vs) (d :: ds)

def Rf (K : PySem.W.Frag) (rg : Rg) (te : TE) (t : TD) : Prop :=
  ∀ (c : Dc), c.rg = rg → ∀ (pn : Pin) (H0 : Hp) (env : En) (σ : St) (H : Hp) (Qd : D → Prop) (Q : VK), Sd K c pn H0 env σ H → t env Qd →
    (∀ d v H', Qd d → Keep c.rg.R H H' → c.rg.J H' → Rp K (Mof c env) H' v d → Q v H') → te σ H Q
def RfO (K : PySem.W.Frag) (rg : Rg) (te : TE) (t : TD) : Prop :=
  ∀ (c : Dc), c.rg = rg → ∀ (pn : Pin) (H0 : Hp) (env : En) (σ : St) (H : Hp) (Qd : D → Prop) (Q : VK), Sd K c pn H0 env σ H → t env Qd →
    (∀ d v H', Qd d → Keep c.rg.R H H' → c.rg.J H' → RpO K c.M (Mof c env) H' v d → Q v H') → te σ H Q
def RfF (K : PySem.W.Frag) (rg : Rg) (te : TE) (t : TDs) : Prop :=
  ∀ (c : Dc), c.rg = rg → ∀ (pn : Pin) (H0 : Hp) (env : En) (σ : St) (H : Hp) (Qd : List D → Prop) (Q : VK), Sd K c pn H0 env σ H → t env Qd →
    (∀ ds a vs H', Qd ds → H a = none → Keep c.rg.R H H' → c.rg.J H' → H' a = some (.lst vs) → RpAll K (fun b => Mof c env b ∨ b = a) H' vs ds → Q (.ref a) H') → te σ H Q
def RfA (K : PySem.W.Frag) (rg : Rg) (ta : TA) (t : TDs) : Prop :=
  ∀ (c : Dc), c.rg = rg → ∀ (pn : Pin) (H0 : Hp) (env : En) (σ : St) (H : Hp) (Qd : List D → Prop) (Q : List V → Hp → Prop), Sd K c pn H0 env σ H → t env Qd →
    (∀ ds vs H', Qd ds → Keep c.rg.R H H' → c.rg.J H' → RpAll K (Mof c env) H' vs ds → Q vs H') → ta σ H Q
def RfAO (K : PySem.W.Frag) (rg : Rg) (ta : TA) (t : TDs) : Prop :=
  ∀ (c : Dc), c.rg = rg → ∀ (pn : Pin) (H0 : Hp) (env : En) (σ : St) (H : Hp) (Qd : List D → Prop) (Q : List V → Hp → Prop), Sd K c pn H0 env σ H → t env Qd →
    (∀ ds vs H', Qd ds → Keep c.rg.R H H' → c.rg.J H' → RpOs K c.M (Mof c env) H' vs ds → Q vs H') → ta σ H Q
def RfT (K : PySem.W.Frag) (rg : Rg) (tt : TT) (t : TB) : Prop :=
  ∀ (c : Dc), c.rg = rg → ∀ (pn : Pin) (H0 : Hp) (env : En) (σ : St) (H : Hp) (Qd : Bool → Prop) (Q : Bool → Hp → Prop), Sd K c pn H0 env σ H → t env Qd →
    (∀ b H', Qd b → Keep c.rg.R H H' → c.rg.J H' → Q b H') → tt σ H Q

structure DP (X : Cx) (K : PySem.W.Frag) (rg : Rg) (e : Expr) (te : TE) (t : TD) : Prop where
  kx : X.K = K
  pe : PE X e te
  rf : Rf K rg te t
structure DO (X : Cx) (K : PySem.W.Frag) (rg : Rg) (e : Expr) (te : TE) (t : TD) : Prop where
  kx : X.K = K
  pe : PE X e te
  rf : RfO K rg te t
structure DF (X : Cx) (K : PySem.W.Frag) (rg : Rg) (e : Expr) (te : TE) (t : TDs) : Prop where
  kx : X.K = K
  pe : PE X e te
  rf : RfF K rg te t
structure DA (X : Cx) (K : PySem.W.Frag) (rg : Rg) (es : List Expr) (ta : TA) (t : TDs) : Prop where
  kx : X.K = K
  pa : PA X es ta
  rf : RfA K rg ta t
structure DAO (X : Cx) (K : PySem.W.Frag) (rg : Rg) (es : List Expr) (ta : TA) (t : TDs) : Prop where
  kx : X.K = K
  pa : PA X es ta
  rf : RfAO K rg ta t
structure DT (X : Cx) (K : PySem.W.Frag) (rg : Rg) (e : Expr) (tt : TT) (t : TB) : Prop where
  kx : X.K = K
  pt : PT X e tt
  rf : RfT K rg tt t
structure DW (X : Cx) (K : PySem.W.Frag) (rg : Rg) (e : Expr) (tt : TT) (t : TB) : Prop where
  kx : X.K = K
  pw : PW X e tt
  rf : RfT K rg tt t

section
variable {K : PySem.W.Frag} {M0 M : Addr → Prop} {H H' : Hp}
theorem RpO.keep {R : Addr → Prop} (k : Keep R H H') (h0 : ∀ a, R a → M0 a) (h1 : ∀ a, R a → M a) {v : V} {d : D} : RpO K M0 M H v d → RpO K M0 M H' v d
  | .inl r => .inl (Rp.keep (k.mono h1) r)
  | .inr ⟨a, vs, ds, e1, e2, m, e3, r⟩ => .inr ⟨a, vs, ds, e1, e2, m, k a _ e3 fun z => m (h0 a z), RpAll.keep (k.mono h1) r⟩
theorem RpOs.keep {R : Addr → Prop} (k : Keep R H H') (h0 : ∀ a, R a → M0 a) (h1 : ∀ a, R a → M a) {vs : List V} {ds : List D} (r : RpOs K M0 M H vs ds) : RpOs K M0 M H' vs ds := by
  induction r with
  | nil => exact .nil
  | cons a _ ih => exact .cons (RpO.keep k h0 h1 a) ih
theorem RpO.lst {v : V} {ds : List D} : RpO K M0 M H v (.lst ds) → ∃ a vs, v = .ref a ∧ H a = some (.lst vs) ∧ RpAll K M H vs ds
  | .inl r => by cases r with | lst m e a => exact ⟨_, _, rfl, e, a⟩
  | .inr ⟨a, vs, ds', e1, e2, m, e3, r⟩ => by cases e2; exact ⟨a, vs, e1, e3, r⟩
theorem RpO.tup {v : V} {ds : List D} : RpO K M0 M H v (.tup ds) → ∃ a vs, v = .ref a ∧ SqT K H a vs ∧ RpAll K M H vs ds
  | .inl r => by
    cases r with
    | tup m e a => exact ⟨_, _, rfl, SqT.of e, a⟩
    | tupK e a => exact ⟨_, _, rfl, .inr e, a⟩
  | .inr ⟨a, vs, ds', e1, e2, m, e3, r⟩ => by cases e2
theorem RpO.int {v : V} {i : Int} : RpO K M0 M H v (.int i) → v = .int i
  | .inl r => by cases r; rfl
  | .inr ⟨a, vs, ds', e1, e2, m, e3, r⟩ => by cases e2
theorem RpO.str {v : V} {i : Str} : RpO K M0 M H v (.str i) → v = .str i
  | .inl r => by cases r; rfl
  | .inr ⟨a, vs, ds', e1, e2, m, e3, r⟩ => by cases e2
theorem RpO.bl {v : V} {i : Bool} : RpO K M0 M H v (.bl i) → v = .bl i
  | .inl r => by cases r; rfl
  | .inr ⟨a, vs, ds', e1, e2, m, e3, r⟩ => by cases e2
theorem RpO.non {v : V} : RpO K M0 M H v .non → v = .non
  | .inl r => by cases r; rfl
  | .inr ⟨a, vs, ds', e1, e2, m, e3, r⟩ => by cases e2
end

section
variable {X : Cx} {K : PySem.W.Frag} {rg : Rg} {e a b : Expr} {es : List Expr} {te ta tb : TE} {ts tr : TA} {t t1 t2 : TD} {u u1 u2 : TDs} {tt tt1 tt2 : TT} {b1 b2 : TB} {pos : Pos}
/-! ### from one judgement to another -/
theorem DP.o (h : DP X K rg e te t) : DO X K rg e te t := by
  cases h.kx
  exact ⟨rfl, h.pe, fun c hc pn H0 env σ H Qd Q S ht k => h.rf c hc pn H0 env σ H Qd Q S ht fun d v H' q k1 j r => k d v H' q k1 j (.inl r)⟩
/-- a new list, as data -/
def sF (u : TDs) : TD := fun env Q => u env fun ds => Q (.lst ds)
theorem DF.p (h : DF X K rg e te u) : DP X K rg e te (sF u) := by
  cases h.kx
  exact ⟨rfl, h.pe, fun c hc pn H0 env σ H Qd Q S ht k => h.rf c hc pn H0 env σ H _ Q S ht fun ds a vs H' q ha k1 j e r =>
  k (.lst ds) (.ref a) H' q k1 j (.lst (fun z => S.domM a z ha) e (RpAll.anti (fun _ _ _ z => .inl z) r))⟩
theorem DF.o (h : DF X K rg e te u) : DO X K rg e te (sF u) := h.p.o

end
end DL

namespace DL
open PySem L2
section
variable {X : Cx} {K : PySem.W.Frag} {rg : Rg} {e a b : Expr} {es : List Expr} {te ta tb : TE} {ts tr : TA} {t t1 t2 : TD} {u u1 u2 : TDs} {tt tt1 tt2 : TT} {b1 b2 : TB} {pos : Pos}
/-! ### names, constants -/
def sVar (i : Nat) : TD := fun env Q => match env[i]? with | some (some (.dat d)) => Q d | _ => False
def sVarO (i : Nat) : TD := fun env Q => match env[i]? with | some (some (.dat d)) => Q d | some (some (.own _ ds)) => Q (.lst ds) | _ => False
def sC (d : D) : TD := fun _ Q => Q d
theorem d_var {i : Nat} (h : PE X e (tVar i)) (hK : X.K = K := by rfl) : DP X K rg e (tVar i) (sVar i) := by
  cases hK
  exact ⟨rfl, h, fun c hc pn H0 env σ H Qd Q S ht k => by
  unfold sVar at ht
  split at ht
  · rename_i d he
    obtain ⟨v, h1, h2⟩ := S.sl i _ he
    exact ⟨v, h1, k d v H ht Keep.refl S.j h2⟩
  · exact ht.elim⟩
theorem do_var {i : Nat} (h : PE X e (tVar i)) (hK : X.K = K := by rfl) : DO X K rg e (tVar i) (sVarO i) := by
  cases hK
  exact ⟨rfl, h, fun c hc pn H0 env σ H Qd Q S ht k => by
  unfold sVarO at ht
  split at ht
  · rename_i d he
    obtain ⟨v, h1, h2⟩ := S.sl i _ he
    exact ⟨v, h1, k d v H ht Keep.refl S.j (.inl h2)⟩
  · rename_i p ds he
    obtain ⟨v, h1, rfl, _, h3, vs, h4, h5⟩ := S.sl i _ he
    exact ⟨_, h1, k _ _ H ht Keep.refl S.j (.inr ⟨p, vs, ds, rfl, rfl, h3, h4, h5⟩)⟩
  · exact ht.elim⟩
theorem d_const {v : V} {d : D} (h : PE X e (tC v)) (r : ∀ M H, Rp K M H v d) (hK : X.K = K := by rfl) : DP X K rg e (tC v) (sC d) := by
  cases hK
  exact ⟨rfl, h, fun c hc pn H0 env σ H Qd Q S ht k => k d v H ht Keep.refl S.j (r _ _)⟩
theorem d_int {i j} (hK : X.K = K := by rfl) : DP X K rg (.Constant (.int i) j pos) (tC (.int i)) (sC (.int i)) := d_const pe_int (fun _ _ => .int _) hK
theorem d_bl {i j} (hK : X.K = K := by rfl) : DP X K rg (.Constant (.bool i) j pos) (tC (.bl i)) (sC (.bl i)) := d_const pe_bl (fun _ _ => .bl _) hK
theorem d_str {i j} (hK : X.K = K := by rfl) : DP X K rg (.Constant (.str i) j pos) (tC (.str i)) (sC (.str i)) := d_const pe_str (fun _ _ => .str _) hK
theorem d_non {j} (hK : X.K = K := by rfl) : DP X K rg (.Constant .none j pos) (tC .non) (sC .non) := d_const pe_non (fun _ _ => .non) hK
/-! ### arguments -/
def sNil : TDs := fun _ Q => Q []
def sCons (t : TD) (u : TDs) : TDs := fun env Q => t env fun d => u env fun ds => Q (d :: ds)
theorem da_nil (hK : X.K = K := by rfl) : DA X K rg [] tNil sNil := by
  cases hK
  exact ⟨rfl, pa_nil, fun c hc pn H0 env σ H Qd Q S ht k => k [] [] H ht Keep.refl S.j .nil⟩
theorem dao_nil (hK : X.K = K := by rfl) : DAO X K rg [] tNil sNil := by
  cases hK
  exact ⟨rfl, pa_nil, fun c hc pn H0 env σ H Qd Q S ht k => k [] [] H ht Keep.refl S.j .nil⟩
theorem da_cons (h1 : DP X K rg e te t) (h2 : DA X K rg es ts u) (hs : starEach (e :: es) X.env = (false, eval e X.env) :: starEach es X.env := by rfl) : DA X K rg (e :: es) (tCons te ts) (sCons t u) := by
  cases h1.kx
  exact ⟨rfl, pa_cons h1.pe h2.pa hs, fun c hc pn H0 env σ H Qd Q S ht k => by
    refine h1.rf c hc pn H0 env σ H _ _ S ht fun d v H1 q1 k1 j1 r1 => ?_
    subst hc
    refine h2.rf c rfl pn H0 env σ H1 _ _ (S.grow k1 j1) q1 fun ds vs H2 q2 k2 j2 r2 => ?_
    exact k _ _ H2 q2 (k1.trans k2) j2 (.cons (Rp.keep (k2.mono fun a h => Mof.of_R S.ok h) r1) r2)⟩
theorem dao_cons (h1 : DO X K rg e te t) (h2 : DAO X K rg es ts u) (hs : starEach (e :: es) X.env = (false, eval e X.env) :: starEach es X.env := by rfl) : DAO X K rg (e :: es) (tCons te ts) (sCons t u) := by
  cases h1.kx
  exact ⟨rfl, pa_cons h1.pe h2.pa hs, fun c hc pn H0 env σ H Qd Q S ht k => by
    refine h1.rf c hc pn H0 env σ H _ _ S ht fun d v H1 q1 k1 j1 r1 => ?_
    subst hc
    refine h2.rf c rfl pn H0 env σ H1 _ _ (S.grow k1 j1) q1 fun ds vs H2 q2 k2 j2 r2 => ?_
    exact k _ _ H2 q2 (k1.trans k2) j2 (.cons (RpO.keep k2 (S.ok.sub) (fun a h => Mof.of_R S.ok h) r1) r2)⟩
/-- *e among the items -/
def sStar (t : TD) (u : TDs) : TDs := fun env Q => t env fun d => match d with | .lst xs => u env fun ds => Q (xs ++ ds) | .tup xs => u env fun ds => Q (xs ++ ds) | _ => False
theorem RpAll.keep' {K : PySem.W.Frag} {c : Dc} (ok : c.Ok) {env : En} {H H' : Hp} (k : Keep c.rg.R H H') {vs : List V} {ds : List D} (r : RpAll K (Mof c env) H vs ds) : RpAll K (Mof c env) H' vs ds := RpAll.keep (k.mono fun a h => Mof.of_R ok h) r
theorem da_star {p : Pos} (h1 : DO X K rg e te t) (h2 : DA X K rg es ts u) (hs : starEach (.Starred e p :: es) X.env = (true, eval e X.env) :: starEach es X.env := by rfl) : DA X K rg (.Starred e p :: es) (StX.tStar K te ts) (sStar t u) := by
  cases h1.kx
  exact ⟨rfl, StX.pa_star h1.pe h2.pa hs, fun c hc pn H0 env σ H Qd Q S ht k => by
    refine h1.rf c hc pn H0 env σ H _ _ S ht fun d v H1 q1 k1 j1 r1 => ?_
    subst hc
    cases d with
    | lst xs =>
      obtain ⟨a, vs, rfl, hl, rr⟩ := r1.lst
      refine ⟨a, vs, rfl, .inr (SqL.of hl), h2.rf c rfl pn H0 env σ H1 _ _ (S.grow k1 j1) q1 fun ds ws H2 q2 k2 j2 r2 => ?_⟩
      exact k _ _ H2 q2 (k1.trans k2) j2 (RpAll.append (RpAll.keep' S.ok k2 rr) r2)
    | tup xs =>
      obtain ⟨a, vs, rfl, hl, rr⟩ := r1.tup
      refine ⟨a, vs, rfl, .inl hl, h2.rf c rfl pn H0 env σ H1 _ _ (S.grow k1 j1) q1 fun ds ws H2 q2 k2 j2 r2 => ?_⟩
      exact k _ _ H2 q2 (k1.trans k2) j2 (RpAll.append (RpAll.keep' S.ok k2 rr) r2)
    | _ => exact q1.elim⟩
/-! ### displays -/
theorem fresh_keep {R : Addr → Prop} {H H1 : Hp} (k : Keep R H H1) {p : Addr} {o : HO} (hp : H1 p = none) : Keep R H (upd H1 p o) := k.trans (Keep.upd_new hp)
theorem fresh_j {c : Dc} (ok : c.Ok) {H1 : Hp} (j : c.rg.J H1) {p : Addr} {o : HO} (hp : H1 p = none) : c.rg.J (upd H1 p o) :=
  ok.rg.stay H1 _ j fun a o e _ => by rw [upd_ne (ne_of_none e hp)]; exact e
/-- what was not there behind is not there ahead -/
theorem none_back {K : PySem.W.Frag} {c : Dc} {pn : Pin} {H0 : Hp} {env : En} {σ : St} {H H1 : Hp} (S : Sd K c pn H0 env σ H) (k : Keep c.rg.R H H1) (j : c.rg.J H1) {p : Addr} (hp : H1 p = none) : H p = none := by
  cases q : H p with
  | none => rfl
  | some o =>
    by_cases hr : c.rg.R p
    · exact absurd hp (S.ok.rg.dom H1 j p hr)
    · rw [k p o q hr] at hp; cases hp
def sTup (u : TDs) : TD := fun env Q => u env fun ds => ds.length ≤ sizeLine ∧ Q (.tup ds)
def sLst (u : TDs) : TDs := fun env Q => u env fun ds => ds.length ≤ sizeLine ∧ Q ds
theorem d_tup {x1} (h : DA X K rg es ts u) : DP X K rg (.Tuple es x1 pos) (tTup ts) (sTup u) := by
  cases h.kx
  exact ⟨rfl, pe_tup h.pa, fun c hc pn H0 env σ H Qd Q S ht k => by
  refine h.rf c hc pn H0 env σ H _ _ S ht fun ds vs H1 q1 k1 j1 r1 => ?_
  subst hc
  refine ⟨by rw [RpAll.length r1]; exact q1.1, fun p hp => ?_⟩
  have S1 := S.grow k1 j1
  exact k _ _ _ q1.2 (fresh_keep k1 hp) (fresh_j S.ok j1 hp) (.tup (fun z => S1.domM p z hp) upd_same (RpAll.keep (Keep.upd_new hp) r1))⟩
theorem df_lst (h : DA X K rg es ts u) : DF X K rg (.List es pos) (tLst ts) (sLst u) := by
  cases h.kx
  exact ⟨rfl, pe_lst h.pa, fun c hc pn H0 env σ H Qd Q S ht k => by
  refine h.rf c hc pn H0 env σ H _ _ S ht fun ds vs H1 q1 k1 j1 r1 => ?_
  subst hc
  refine ⟨by rw [RpAll.length r1]; exact q1.1, fun p hp => ?_⟩
  refine k ds p vs _ q1.2 (none_back S k1 j1 hp) (fresh_keep k1 hp) (fresh_j S.ok j1 hp) upd_same (RpAll.keep (Keep.upd_new hp) (RpAll.anti (fun b o e z => ?_) r1))
  rcases z with z | rfl
  · exact z
  · rw [hp] at e; cases e⟩
/-! ### operators by values -/
abbrev F2 := D → D → (D → Prop) → Prop
/-- the rule r does f to data -/
def OpD (K : PySem.W.Frag) (r : R2) (f : F2) : Prop := ∀ (M0 M : Addr → Prop) (H : Hp) (v w : V) (d e : D) (Qd : D → Prop) (Q : VK), (∀ a, M a → H a ≠ none) → RpO K M0 M H v d → RpO K M0 M H w e → f d e Qd →
  (∀ d' v' H', Qd d' → Same H H' → Rp K M H' v' d' → Q v' H') → r v w H Q
def sOp (f : F2) (t1 t2 : TD) : TD := fun env Q => t1 env fun d => t2 env fun e => f d e Q
theorem rf_op {K : PySem.W.Frag} {r : R2} {f : F2} (hd : OpD K r f) (h1 : RfO K rg ta t1) (h2 : RfO K rg tb t2) : Rf K rg (tOp r ta tb) (sOp f t1 t2) := fun c hc pn H0 env σ H Qd Q S ht k => by
  refine h1 c hc pn H0 env σ H _ _ S ht fun d v H1 q1 k1 j1 r1 => ?_
  subst hc
  refine h2 c rfl pn H0 env σ H1 _ _ (S.grow k1 j1) q1 fun e w H2 q2 k2 j2 r2 => ?_
  have S2 := S.grow (k1.trans k2) j2
  refine hd c.M (Mof c env) H2 v w d e Qd Q S2.domM (RpO.keep k2 S.ok.sub (fun a h => Mof.of_R S.ok h) r1) r2 q2 fun d' v' H3 q3 s3 r3 => ?_
  have S3 := S2.same s3
  exact k d' v' H3 q3 ((k1.trans k2).trans (Keep.of_same s3)) S3.j r3
theorem d_op {op : Operator} {r : R2} {f : F2} (ho : OpR X (binaryOp op) r) (hd : OpD K r f) (h1 : DO X K rg a ta t1) (h2 : DO X K rg b tb t2) : DP X K rg (.BinOp a op b pos) (tOp r ta tb) (sOp f t1 t2) := by
  cases h1.kx
  exact ⟨rfl, pe_op ho h1.pe h2.pe, rf_op hd h1.rf h2.rf⟩
theorem d_cmp {op : CmpOp} {r : R2} {f : F2} (ho : OpR X (compareOp op) r) (hd : OpD K r f) (h1 : DO X K rg a ta t1) (h2 : DO X K rg b tb t2) (hm : behindInMarks op b = false) : DP X K rg (.Compare a [op] [b] pos) (tOp r ta tb) (sOp f t1 t2) := by
  cases h1.kx
  exact ⟨rfl, pe_cmpR ho h1.pe h2.pe hm, rf_op hd h1.rf h2.rf⟩
/-- a value that is a bool, as a test -/
def sTest (t : TD) : TB := fun env Q => t env fun d => match d with | .bl k => Q k | _ => False
theorem rf_test {K : PySem.W.Frag} (h : Rf K rg te t) : RfT K rg (tTest te) (sTest t) := fun c hc pn H0 env σ H Qd Q S ht k => by
  refine h c hc pn H0 env σ H _ _ S ht fun d v H1 q1 k1 j1 r1 => ?_
  cases d with
  | bl b => cases r1; exact ⟨b, rfl, k b H1 q1 k1 j1⟩
  | _ => exact q1.elim
theorem dt_cmp {op : CmpOp} {r : R2} {f : F2} (ho : OpR X (compareOp op) r) (hd : OpD K r f) (h1 : DO X K rg a ta t1) (h2 : DO X K rg b tb t2) (hm : behindInMarks op b = false) : DT X K rg (.Compare a [op] [b] pos) (tTest (tOp r ta tb)) (sTest (sOp f t1 t2)) := by
  cases h1.kx
  exact ⟨rfl, pt_cmpR ho h1.pe h2.pe hm, rf_test (rf_op hd h1.rf h2.rf)⟩
theorem dt_val (h : DP X K rg e te t) (he : ∀ whole, isTrue e X.env whole = (do let v ← whole; standAt e.pos; holding [v] (truthy v)) := by intro _; rfl) : DT X K rg e (tB te) (sTest t) := by
  cases h.kx
  exact ⟨rfl, pt_val h.pe he, rf_test h.rf⟩
theorem OpR.or {f : Value → Value → Sem Value} {r r' : R2} (h : OpR X f r) (h' : OpR X f r') : OpR X f (fun x y H Q => r x y H Q ∨ r' x y H Q) := by
  intro pins s σ H x y v u Q I rx ry q
  rcases q with q | q
  · exact h pins s σ H x y v u Q I rx ry q
  · exact h' pins s σ H x y v u Q I rx ry q
/-! ### + -/
def rAdd' : R2 := fun x y H Q => ∃ i j, x = .int i ∧ y = .int j ∧ Q (.int (i + j)) H
def rAddS : R2 := fun x y H Q => ∃ i j, x = .str i ∧ y = .str j ∧ i.length + j.length ≤ sizeLine ∧ Q (.str (i ++ j)) H
def rAddU (K : PySem.W.Frag) : R2 := fun x y H Q => (rAdd' x y H Q ∨ rAddS x y H Q) ∨ (rCat x y H Q ∨ rCatA K x y H Q)
theorem op_addU (hK : X.K = K := by rfl) : OpR X (binaryOp .Add) (rAddU K) := by
  cases hK
  exact OpR.or (OpR.or op_add op_add_str) (OpR.or op_cat op_catA)
def fAdd : F2 := fun d e Q => match d, e with
  | .int i, .int j => Q (.int (i + j))
  | .str x, .str y => x.length + y.length ≤ sizeLine ∧ Q (.str (x ++ y))
  | .lst xs, .lst ys => xs.length + ys.length ≤ sizeLine ∧ Q (.lst (xs ++ ys))
  | .tup xs, .tup ys => xs.length + ys.length ≤ sizeLine ∧ Q (.tup (xs ++ ys))
  | _, _ => False
theorem opd_add {K : PySem.W.Frag} : OpD K (rAddU K) fAdd := by
  intro M0 M H v w d e Qd Q hM r1 r2 hf k
  unfold fAdd at hf
  split at hf
  · rw [r1.int, r2.int]
    exact .inl (.inl ⟨_, _, rfl, rfl, k _ _ H hf (Same.refl H) (.int _)⟩)
  · rw [r1.str, r2.str]
    exact .inl (.inr ⟨_, _, rfl, rfl, hf.1, k _ _ H hf.2 (Same.refl H) (.str _)⟩)
  · obtain ⟨p, xs, rfl, h1, a1⟩ := r1.lst
    obtain ⟨q, ys, rfl, h2, a2⟩ := r2.lst
    refine .inr (.inl ⟨p, q, xs, ys, rfl, rfl, h1, h2, by rw [RpAll.length a1, RpAll.length a2]; exact hf.1, fun l hl => ?_⟩)
    exact k _ _ _ hf.2 (fun b o e => by rw [upd_ne (ne_of_none e hl)]; exact e) (.lst (fun z => hM l z hl) upd_same (RpAll.keep (Keep.upd_new hl) (RpAll.append a1 a2)))
  · obtain ⟨p, xs, rfl, h1, a1⟩ := r1.tup
    obtain ⟨q, ys, rfl, h2, a2⟩ := r2.tup
    refine .inr (.inr ⟨p, q, xs, ys, rfl, rfl, h1, h2, by rw [RpAll.length a1, RpAll.length a2]; exact hf.1, fun hx => ?_, fun hx hy => ?_, fun _ _ l hl => ?_⟩)
    · subst hx
      cases a1
      rcases r2 with r2 | ⟨_, _, _, _, e, _⟩
      · exact k _ _ H (by simpa using hf.2) (Same.refl H) r2
      · cases e
    · subst hy
      cases a2
      rcases r1 with r1 | ⟨_, _, _, _, e, _⟩
      · exact k _ _ H (by simpa using hf.2) (Same.refl H) r1
      · cases e
    · exact k _ _ _ hf.2 (fun b o e => by rw [upd_ne (ne_of_none e hl)]; exact e) (.tup (fun z => hM l z hl) upd_same (RpAll.keep (Keep.upd_new hl) (RpAll.append a1 a2)))
  · exact hf.elim
/-! ### ints -/
theorem opd_int {K : PySem.W.Frag} {C : Int → Int → Prop} {g : Int → Int → Int} : OpD K (rI C fun i j => .int (g i j)) (fun d e Q => match d, e with | .int i, .int j => C i j ∧ Q (.int (g i j)) | _, _ => False) := by
  intro M0 M H v w d e Qd Q hM r1 r2 hf k
  split at hf
  · rw [r1.int, r2.int]
    exact ⟨_, _, rfl, rfl, hf.1, k _ _ H hf.2 (Same.refl H) (.int _)⟩
  · exact hf.elim
theorem opd_int0 {K : PySem.W.Frag} {g : Int → Int → Int} : OpD K (rI0 fun i j => .int (g i j)) (fun d e Q => match d, e with | .int i, .int j => Q (.int (g i j)) | _, _ => False) := by
  intro M0 M H v w d e Qd Q hM r1 r2 hf k
  split at hf
  · rw [r1.int, r2.int]
    exact ⟨_, _, rfl, rfl, k _ _ H hf (Same.refl H) (.int _)⟩
  · exact hf.elim
def fCmpI (g : Int → Int → Bool) : F2 := fun d e Q => match d, e with | .int i, .int j => Q (.bl (g i j)) | _, _ => False
theorem opd_cmpI {K : PySem.W.Frag} {g : Int → Int → Bool} : OpD K (rI0 fun i j => .bl (g i j)) (fCmpI g) := by
  intro M0 M H v w d e Qd Q hM r1 r2 hf k
  unfold fCmpI at hf
  split at hf
  · rw [r1.int, r2.int]
    exact ⟨_, _, rfl, rfl, k _ _ H hf (Same.refl H) (.bl _)⟩
  · exact hf.elim
def fIntC (C : Int → Int → Prop) (g : Int → Int → Int) : F2 := fun d e Q => match d, e with | .int i, .int j => C i j ∧ Q (.int (g i j)) | _, _ => False
def fInt0 (g : Int → Int → Int) : F2 := fun d e Q => match d, e with | .int i, .int j => Q (.int (g i j)) | _, _ => False
/-! ### ==, in -/
mutual
def toPy : D → PyData
  | .non => .none
  | .bl b => .bool b
  | .int i => .int i
  | .str x => .str x
  | .lst ds => .list (toPys ds)
  | .tup ds => .tuple (toPys ds)
  | .obj _ _ _ => .none
  | .dct _ _ => .none
  | .raw _ => .none
  | .scr _ => .none
def toPys : List D → List PyData
  | [] => []
  | d :: ds => toPy d :: toPys ds
end
mutual
/-- plain data -/
def isPl : D → Bool
  | .obj _ _ _ => false
  | .dct _ _ => false
  | .raw _ => false
  | .scr _ => false
  | .lst ds => isPls ds
  | .tup ds => isPls ds
  | .non => true
  | .bl _ => true
  | .int _ => true
  | .str _ => true
def isPls : List D → Bool
  | [] => true
  | d :: ds => isPl d && isPls ds
end
mutual
theorem plain_toPy : ∀ d : D, (toPy d).plain = true
  | .non => rfl
  | .bl _ => rfl
  | .int _ => rfl
  | .str _ => rfl
  | .lst ds => by simp only [toPy, PyData.plain]; exact plain_toPys ds
  | .tup ds => by simp only [toPy, PyData.plain]; exact plain_toPys ds
  | .obj _ _ _ => rfl
  | .dct _ _ => rfl
  | .raw _ => rfl
  | .scr _ => rfl
theorem plain_toPys : ∀ ds : List D, PyData.plainAll (toPys ds) = true
  | [] => rfl
  | d :: ds => by simp only [toPys, PyData.plainAll, plain_toPy d, plain_toPys ds, Bool.and_self]
end
mutual
theorem Rp.dp {K : PySem.W.Frag} {M : Addr → Prop} {H : Hp} : ∀ {v : V} {d : D}, Rp K M H v d → isPl d = true → Dp K H v (toPy d)
  | _, _, .non, _ => .non
  | _, _, .bl b, _ => .bl b
  | _, _, .int b, _ => .int b
  | _, _, .str b, _ => .str b
  | _, _, .raw b, h => by simp [isPl] at h
  | _, _, .scr _ _, h => by simp [isPl] at h
  | _, _, .scrK _, h => by simp [isPl] at h
  | _, _, .lst m r a, h => by simp only [toPy]; exact .lst (SqL.of r) (RpAll.dp a (by simpa [isPl] using h))
  | _, _, .tup m r a, h => by simp only [toPy]; exact .tup (SqT.of r) (RpAll.dp a (by simpa [isPl] using h))
  | _, _, .tupK r a, h => by simp only [toPy]; exact .tup (.inr r) (RpAll.dp a (by simpa [isPl] using h))
  | _, _, .obj m r e a, h => by simp [isPl] at h
  | _, _, .dct m r e a, h => by simp [isPl] at h
theorem RpAll.dp {K : PySem.W.Frag} {M : Addr → Prop} {H : Hp} : ∀ {vs : List V} {ds : List D}, RpAll K M H vs ds → isPls ds = true → DpAll K H vs (toPys ds)
  | _, _, .nil, _ => by simp only [toPys]; exact .nil
  | _, _, .cons a b, h => by
    simp only [isPls, Bool.and_eq_true] at h
    simp only [toPys]
    exact .cons (Rp.dp a h.1) (RpAll.dp b h.2)
end
theorem RpO.dp {K : PySem.W.Frag} {M0 M : Addr → Prop} {H : Hp} {v : V} {d : D} : RpO K M0 M H v d → isPl d = true → Dp K H v (toPy d)
  | .inl r, h => Rp.dp r h
  | .inr ⟨a, vs, ds, e1, e2, m, e3, r⟩, h => by
    subst e1 e2
    simp only [toPy]
    exact .lst (SqL.of e3) (RpAll.dp r (by simpa [isPl] using h))
/-- == of plain data -/
def deq (d e : D) : Bool := PyData.eqv (toPy d) (toPy e)
def rEqP (K : PySem.W.Frag) : R2 := fun x y H Q => ∃ d e : PyData, Dp K H x d ∧ Dp K H y e ∧ d.plain = true ∧ e.plain = true ∧ min d.depth e.depth ≤ 60 ∧ Q (.bl (PyData.eqv d e)) H
def rNeP (K : PySem.W.Frag) : R2 := fun x y H Q => ∃ d e : PyData, Dp K H x d ∧ Dp K H y e ∧ d.plain = true ∧ e.plain = true ∧ min d.depth e.depth ≤ 60 ∧ Q (.bl (!PyData.eqv d e)) H
theorem op_eqP (hu : X.A.units + 64 < cLine) (hK : X.K = K := by rfl) : OpR X (compareOp .Eq) (rEqP K) := by
  cases hK
  intro pins s σ H x y v u Q I rx ry h
  obtain ⟨d, e, hd, he, sd, se, hz, q⟩ := h
  obtain ⟨as, r1⟩ := Dp.reads I d x v hd rx
  obtain ⟨bs, r2⟩ := Dp.reads I e y u he ry
  exact SeqAt.eq_plain r1 r2 sd se (by omega) ⟨.bl _, H, I, rfl, q⟩
theorem op_neP (hu : X.A.units + 64 < cLine) (hK : X.K = K := by rfl) : OpR X (compareOp .NotEq) (rNeP K) := by
  cases hK
  intro pins s σ H x y v u Q I rx ry h
  obtain ⟨d, e, hd, he, sd, se, hz, q⟩ := h
  obtain ⟨as, r1⟩ := Dp.reads I d x v hd rx
  obtain ⟨bs, r2⟩ := Dp.reads I e y u he ry
  exact SeqAt.ne_plain r1 r2 sd se (by omega) ⟨.bl _, H, I, rfl, q⟩
def fEq (neg : Bool) : F2 := fun d e Q => isPl d = true ∧ isPl e = true ∧ min (toPy d).depth (toPy e).depth ≤ 60 ∧ Q (.bl (if neg then !deq d e else deq d e))
theorem opd_eq {K : PySem.W.Frag} : OpD K (rEqP K) (fEq false) := fun M0 M H v w d e Qd Q hM r1 r2 ⟨h1, h2, h3, h4⟩ k =>
  ⟨_, _, r1.dp h1, r2.dp h2, plain_toPy d, plain_toPy e, h3, k _ _ H h4 (Same.refl H) (.bl _)⟩
theorem opd_ne {K : PySem.W.Frag} : OpD K (rNeP K) (fEq true) := fun M0 M H v w d e Qd Q hM r1 r2 ⟨h1, h2, h3, h4⟩ k =>
  ⟨_, _, r1.dp h1, r2.dp h2, plain_toPy d, plain_toPy e, h3, k _ _ H h4 (Same.refl H) (.bl _)⟩
/-- x in a list or a tuple -/
def rInP (K : PySem.W.Frag) (neg : Bool) : R2 := fun x y H Q => ∃ (d : PyData) (ds : List PyData), Dp K H x d ∧ (Dp K H y (.list ds) ∨ Dp K H y (.tuple ds)) ∧ d.plain = true ∧ PyData.plainAll ds = true ∧ min (PyData.depthAll ds) d.depth ≤ 60 ∧
  Q (.bl (if neg then !(ds.any fun z => PyData.eqv z d) else (ds.any fun z => PyData.eqv z d))) H
theorem op_inP (hu : X.A.units + 64 < cLine) (hK : X.K = K := by rfl) : OpR X (compareOp .In) (rInP K false) := by
  cases hK
  intro pins s σ H x y v u Q I rx ry h
  obtain ⟨d, ds, hd, he, sd, se, hz, q⟩ := h
  obtain ⟨as, r1⟩ := Dp.reads I d x v hd rx
  rcases he with he | he
  · obtain ⟨bs, r2⟩ := Dp.reads I _ y u he ry
    exact SeqAt.in_list_data r2 r1 se sd (by omega) ⟨.bl _, H, I, rfl, q⟩
  · obtain ⟨bs, r2⟩ := Dp.reads I _ y u he ry
    exact SeqAt.in_tuple_data r2 r1 se sd (by omega) ⟨.bl _, H, I, rfl, q⟩
theorem op_notInP (hu : X.A.units + 64 < cLine) (hK : X.K = K := by rfl) : OpR X (compareOp .NotIn) (rInP K true) := by
  cases hK
  intro pins s σ H x y v u Q I rx ry h
  obtain ⟨d, ds, hd, he, sd, se, hz, q⟩ := h
  obtain ⟨as, r1⟩ := Dp.reads I d x v hd rx
  rcases he with he | he
  · obtain ⟨bs, r2⟩ := Dp.reads I _ y u he ry
    exact SeqAt.notIn_list_data r2 r1 se sd (by omega) ⟨.bl _, H, I, rfl, q⟩
  · obtain ⟨bs, r2⟩ := Dp.reads I _ y u he ry
    exact SeqAt.notIn_tuple_data r2 r1 se sd (by omega) ⟨.bl _, H, I, rfl, q⟩
def inD (d : D) (ds : List D) : Bool := ds.any fun z => deq z d
theorem any_toPys (d : D) : ∀ ds : List D, ((toPys ds).any fun z => PyData.eqv z (toPy d)) = inD d ds
  | [] => rfl
  | e :: ds => by simp only [toPys, List.any_cons, inD, deq, any_toPys d ds]
def fIn (neg : Bool) : F2 := fun d e Q => match e with
  | .lst ds => isPl d = true ∧ isPls ds = true ∧ min (PyData.depthAll (toPys ds)) (toPy d).depth ≤ 60 ∧ Q (.bl (if neg then !inD d ds else inD d ds))
  | .tup ds => isPl d = true ∧ isPls ds = true ∧ min (PyData.depthAll (toPys ds)) (toPy d).depth ≤ 60 ∧ Q (.bl (if neg then !inD d ds else inD d ds))
  | _ => False
theorem opd_in {K : PySem.W.Frag} (neg : Bool) : OpD K (rInP K neg) (fIn neg) := by
  intro M0 M H v w d e Qd Q hM r1 r2 hf k
  unfold fIn at hf
  split at hf
  · obtain ⟨h1, h2, h3, h4⟩ := hf
    have r := r2.dp (by simpa [isPl] using h2)
    simp only [toPy] at r
    exact ⟨_, _, r1.dp h1, .inl r, plain_toPy d, plain_toPys _, h3, by rw [any_toPys]; exact k _ _ H h4 (Same.refl H) (.bl _)⟩
  · obtain ⟨h1, h2, h3, h4⟩ := hf
    have r := r2.dp (by simpa [isPl] using h2)
    simp only [toPy] at r
    exact ⟨_, _, r1.dp h1, .inr r, plain_toPy d, plain_toPys _, h3, by rw [any_toPys]; exact k _ _ H h4 (Same.refl H) (.bl _)⟩
  · exact hf.elim
/-! ### is None -/
def rIsNP : R2 := fun x y H Q => y = .non ∧ Q (.bl (decide (x = .non))) H
def fIsN (neg : Bool) : F2 := fun d e Q => match d, e with
  | .non, .non => Q (.bl (!neg)) | .bl _, .non => Q (.bl neg) | .int _, .non => Q (.bl neg) | .str _, .non => Q (.bl neg)
  | .lst _, .non => Q (.bl neg) | .tup _, .non => Q (.bl neg) | .obj _ _ _, .non => Q (.bl neg) | .dct _ _, .non => Q (.bl neg) | _, _ => False
theorem RpO.isNon {K : PySem.W.Frag} {M0 M : Addr → Prop} {H : Hp} {v : V} {d : D} (r : RpO K M0 M H v d) (hd : ∀ w, d ≠ .raw w) (hn : d ≠ .non) : v ≠ .non := by
  intro e
  subst e
  rcases r with r | ⟨a, vs, ds, e1, _⟩
  · cases r with
    | non => exact hn rfl
    | raw _ => exact hd _ rfl
  · cases e1
theorem opd_isN {K : PySem.W.Frag} : OpD K rIsNP (fIsN false) := by
  intro M0 M H v w d e Qd Q hM r1 r2 hf k
  unfold fIsN at hf
  split at hf <;> first
    | exact hf.elim
    | (rw [r1.non, r2.non]; exact ⟨rfl, k _ _ H hf (Same.refl H) (.bl _)⟩)
    | (rw [r2.non]; exact ⟨rfl, by rw [decide_eq_false (r1.isNon (by intro w z; cases z) (by intro z; cases z))]; exact k _ _ H hf (Same.refl H) (.bl _)⟩)
theorem opd_notN {K : PySem.W.Frag} : OpD K (fun x y H Q => y = .non ∧ Q (.bl (!decide (x = .non))) H) (fIsN true) := by
  intro M0 M H v w d e Qd Q hM r1 r2 hf k
  unfold fIsN at hf
  split at hf <;> first
    | exact hf.elim
    | (rw [r1.non, r2.non]; exact ⟨rfl, k _ _ H hf (Same.refl H) (.bl _)⟩)
    | (rw [r2.non]; exact ⟨rfl, by rw [decide_eq_false (r1.isNon (by intro w z; cases z) (by intro z; cases z))]; exact k _ _ H hf (Same.refl H) (.bl _)⟩)
end
end DL

namespace DL
open PySem L2
section
variable {X : Cx} {K : PySem.W.Frag} {rg : Rg} {e a b : Expr} {es rest : List Expr} {te ta tb : TE} {ts tr : TA} {t t1 t2 : TD} {u u1 u2 : TDs} {tt tt1 tt2 : TT} {b1 b2 : TB} {pos : Pos}
/-! ### tests -/
def sNot (b : TB) : TB := fun env Q => b env fun k => Q (!k)
def sAnd (b1 b2 : TB) : TB := fun env Q => b1 env fun k => if k = true then b2 env Q else Q false
def sOr (b1 b2 : TB) : TB := fun env Q => b1 env fun k => if k = true then Q true else b2 env Q
theorem dt_not (h : DT X K rg e tt b1) : DT X K rg (.UnaryOp .Not e pos) (tNot tt) (sNot b1) := by
  cases h.kx
  exact ⟨rfl, pt_not h.pt, fun c hc pn H0 env σ H Qd Q S ht k => h.rf c hc pn H0 env σ H _ _ S ht fun d H1 q k1 j1 => k _ H1 q k1 j1⟩
theorem rf_and {K : PySem.W.Frag} (h1 : RfT K rg tt1 b1) (h2 : RfT K rg tt2 b2) : RfT K rg (tAnd tt1 tt2) (sAnd b1 b2) := fun c hc pn H0 env σ H Qd Q S ht k => by
  refine h1 c hc pn H0 env σ H _ _ S ht fun d H1 q1 k1 j1 => ?_
  subst hc
  cases d with
  | true =>
    rw [if_pos rfl] at q1 ⊢
    exact h2 c rfl pn H0 env σ H1 _ _ (S.grow k1 j1) q1 fun d2 H2 q2 k2 j2 => k d2 H2 q2 (k1.trans k2) j2
  | false =>
    rw [if_neg Bool.false_ne_true] at q1 ⊢
    exact k false H1 q1 k1 j1
theorem rf_or {K : PySem.W.Frag} (h1 : RfT K rg tt1 b1) (h2 : RfT K rg tt2 b2) : RfT K rg (tOr tt1 tt2) (sOr b1 b2) := fun c hc pn H0 env σ H Qd Q S ht k => by
  refine h1 c hc pn H0 env σ H _ _ S ht fun d H1 q1 k1 j1 => ?_
  subst hc
  cases d with
  | false =>
    rw [if_neg Bool.false_ne_true] at q1 ⊢
    exact h2 c rfl pn H0 env σ H1 _ _ (S.grow k1 j1) q1 fun d2 H2 q2 k2 j2 => k d2 H2 q2 (k1.trans k2) j2
  | true =>
    rw [if_pos rfl] at q1 ⊢
    exact k true H1 q1 k1 j1
theorem dw_and1 (h : DT X K rg e tt b1) : DW X K rg (.BoolOp .And [e] pos) tt b1 := by
  cases h.kx
  exact ⟨rfl, pw_and1 h.pt, h.rf⟩
theorem dw_or1 (h : DT X K rg e tt b1) : DW X K rg (.BoolOp .Or [e] pos) tt b1 := by
  cases h.kx
  exact ⟨rfl, pw_or1 h.pt, h.rf⟩
theorem dw_and (h1 : DT X K rg a tt1 b1) (h2 : DW X K rg (.BoolOp .And (b :: rest) pos) tt2 b2) : DW X K rg (.BoolOp .And (a :: b :: rest) pos) (tAnd tt1 tt2) (sAnd b1 b2) := by
  cases h1.kx
  exact ⟨rfl, pw_and h1.pt h2.pw, rf_and h1.rf h2.rf⟩
theorem dw_or (h1 : DT X K rg a tt1 b1) (h2 : DW X K rg (.BoolOp .Or (b :: rest) pos) tt2 b2) : DW X K rg (.BoolOp .Or (a :: b :: rest) pos) (tOr tt1 tt2) (sOr b1 b2) := by
  cases h1.kx
  exact ⟨rfl, pw_or h1.pt h2.pw, rf_or h1.rf h2.rf⟩
theorem DW.dt (h : DW X K rg e tt b1) : DT X K rg e tt b1 := by
  cases h.kx
  exact ⟨rfl, h.pw.pt, h.rf⟩
/-- a and b, a or b as values: bools but for the last -/
def sAndV (t1 t2 : TD) : TD := fun env Q => t1 env fun d => match d with | .bl k => if k = true then t2 env Q else Q (.bl false) | _ => False
def sOrV (t1 t2 : TD) : TD := fun env Q => t1 env fun d => match d with | .bl k => if k = true then Q (.bl true) else t2 env Q | _ => False
def sNotV (t1 : TD) : TD := fun env Q => t1 env fun d => match d with | .bl k => Q (.bl (!k)) | _ => False
theorem d_one {op} (h : DP X K rg a ta t) : DP X K rg (.BoolOp op [a] pos) ta t := by
  cases h.kx
  exact ⟨rfl, pe_one h.pe, h.rf⟩
theorem d_and (h1 : DP X K rg a ta t1) (h2 : DP X K rg (.BoolOp .And (b :: rest) pos) tb t2) : DP X K rg (.BoolOp .And (a :: b :: rest) pos) (tAndV ta tb) (sAndV t1 t2) := by
  cases h1.kx
  exact ⟨rfl, pe_and h1.pe h2.pe, fun c hc pn H0 env σ H Qd Q S ht k => by
  refine h1.rf c hc pn H0 env σ H _ _ S ht fun d v H1 q1 k1 j1 r1 => ?_
  subst hc
  cases d with
  | bl x =>
    cases r1
    refine ⟨x, rfl, ?_⟩
    cases x with
    | true =>
      rw [if_pos rfl]
      exact h2.rf c rfl pn H0 env σ H1 _ _ (S.grow k1 j1) (by simpa using q1) fun d2 v2 H2 q2 k2 j2 r2 => k d2 v2 H2 q2 (k1.trans k2) j2 r2
    | false => exact k _ _ H1 (by simpa using q1) k1 j1 (.bl _)
  | _ => exact q1.elim⟩
theorem d_or (h1 : DP X K rg a ta t1) (h2 : DP X K rg (.BoolOp .Or (b :: rest) pos) tb t2) : DP X K rg (.BoolOp .Or (a :: b :: rest) pos) (tOrV ta tb) (sOrV t1 t2) := by
  cases h1.kx
  exact ⟨rfl, pe_or h1.pe h2.pe, fun c hc pn H0 env σ H Qd Q S ht k => by
  refine h1.rf c hc pn H0 env σ H _ _ S ht fun d v H1 q1 k1 j1 r1 => ?_
  subst hc
  cases d with
  | bl x =>
    cases r1
    refine ⟨x, rfl, ?_⟩
    cases x with
    | false =>
      rw [if_neg Bool.false_ne_true]
      exact h2.rf c rfl pn H0 env σ H1 _ _ (S.grow k1 j1) (by simpa using q1) fun d2 v2 H2 q2 k2 j2 r2 => k d2 v2 H2 q2 (k1.trans k2) j2 r2
    | true => exact k _ _ H1 (by simpa using q1) k1 j1 (.bl _)
  | _ => exact q1.elim⟩
theorem d_not (h1 : DP X K rg a ta t1) : DP X K rg (.UnaryOp .Not a pos) (tNotV ta) (sNotV t1) := by
  cases h1.kx
  exact ⟨rfl, pe_not h1.pe, fun c hc pn H0 env σ H Qd Q S ht k => by
  refine h1.rf c hc pn H0 env σ H _ _ S ht fun d v H1 q1 k1 j1 r1 => ?_
  cases d with
  | bl x => cases r1; exact ⟨x, rfl, k _ _ H1 q1 k1 j1 (.bl _)⟩
  | _ => exact q1.elim⟩
/-- truth -/
def sTru (t : TD) : TB := fun env Q => t env fun d => match d with
  | .non => Q false | .bl k => Q k | .int i => Q (i != 0) | .str x => x.length ≤ sizeLine ∧ Q ((x.length : Int) != 0) | .lst ds => Q (!ds.isEmpty) | .tup ds => Q (!ds.isEmpty) | _ => False
theorem empty_eq {K : PySem.W.Frag} {M : Addr → Prop} {H : Hp} {vs : List V} {ds : List D} (r : RpAll K M H vs ds) : (!vs.isEmpty) = !ds.isEmpty := by cases r <;> rfl
theorem dt_truth (h : DO X K rg e te t) (he : ∀ whole, isTrue e X.env whole = (do let v ← whole; standAt e.pos; holding [v] (truthy v)) := by intro _; rfl) : DT X K rg e (fun σ H Q => te σ H fun x H' => ∃ k, TruV K x H' k ∧ Q k H') (sTru t) := by
  cases h.kx
  exact ⟨rfl, pt_truth h.pe he, fun c hc pn H0 env σ H Qd Q S ht k => by
    refine h.rf c hc pn H0 env σ H _ _ S ht fun d v H1 q1 k1 j1 r1 => ?_
    cases d with
    | non => rw [r1.non]; exact ⟨false, rfl, k _ H1 q1 k1 j1⟩
    | bl x => rw [r1.bl]; exact ⟨x, rfl, k _ H1 q1 k1 j1⟩
    | int x => rw [r1.int]; exact ⟨_, rfl, k _ H1 q1 k1 j1⟩
    | str x => rw [r1.str]; exact ⟨_, ⟨q1.1, rfl⟩, k _ H1 q1.2 k1 j1⟩
    | lst ds =>
      obtain ⟨p, vs, rfl, h1, a1⟩ := r1.lst
      exact ⟨_, .inl ⟨vs, SqL.of h1, rfl⟩, by rw [empty_eq a1]; exact k _ H1 q1 k1 j1⟩
    | tup ds =>
      obtain ⟨p, vs, rfl, h1, a1⟩ := r1.tup
      exact ⟨_, .inr (.inl ⟨vs, h1, rfl⟩), by rw [empty_eq a1]; exact k _ H1 q1 k1 j1⟩
    | _ => exact q1.elim⟩
/-- a if c else b -/
def sIf (b : TB) (t1 t2 : TD) : TD := fun env Q => b env fun k => if k = true then t1 env Q else t2 env Q
theorem d_if {x : Expr} (hc : DT X K rg x tt b1) (h1 : DP X K rg a ta t1) (h2 : DP X K rg b tb t2) : DP X K rg (.IfExp x a b pos) (tIf tt ta tb) (sIf b1 t1 t2) := by
  cases hc.kx
  exact ⟨rfl, pe_ifExp hc.pt h1.pe h2.pe, fun c hcc pn H0 env σ H Qd Q S ht k => by
  refine hc.rf c hcc pn H0 env σ H _ _ S ht fun d H1 q1 k1 j1 => ?_
  subst hcc
  cases d with
  | true => rw [if_pos rfl] at q1 ⊢; exact h1.rf c rfl pn H0 env σ H1 _ _ (S.grow k1 j1) q1 fun d2 v2 H2 q2 k2 j2 r2 => k d2 v2 H2 q2 (k1.trans k2) j2 r2
  | false => rw [if_neg Bool.false_ne_true] at q1 ⊢; exact h2.rf c rfl pn H0 env σ H1 _ _ (S.grow k1 j1) q1 fun d2 v2 H2 q2 k2 j2 r2 => k d2 v2 H2 q2 (k1.trans k2) j2 r2⟩
/-! ### items, slices -/
def fIx : F2 := fun d e Q => match d, e with
  | .lst ds, .int i => ∃ x, atI ds i = some x ∧ Q x
  | .tup ds, .int i => ∃ x, atI ds i = some x ∧ Q x
  | .str z, .int i => ∃ c, z.length ≤ sizeLine ∧ atI z.cps.toList i = some c ∧ Q (.str ⟨#[c]⟩)
  | _, _ => False
theorem atI_all {K : PySem.W.Frag} {M : Addr → Prop} {H : Hp} {vs : List V} {ds : List D} (r : RpAll K M H vs ds) {i : Int} {x : D} (h : atI ds i = some x) : ∃ v, atI vs i = some v ∧ Rp K M H v x := by
  unfold atI at h ⊢
  rw [RpAll.length r]
  cases q : ixN ds.length i with
  | none => rw [q] at h; cases h
  | some j =>
    rw [q] at h
    exact RpAll.get' r h
theorem opd_ix {K : PySem.W.Frag} : OpD K (rIx K) fIx := by
  intro M0 M H v w d e Qd Q hM r1 r2 hf k
  unfold fIx at hf
  split at hf
  · obtain ⟨x, hx, q⟩ := hf
    obtain ⟨p, xs, rfl, h1, a1⟩ := r1.lst
    rw [r2.int]
    obtain ⟨y, hy, ry⟩ := atI_all a1 hx
    exact .inl ⟨p, xs, _, y, rfl, rfl, SqL.of h1, hy, k _ _ H q (Same.refl H) ry⟩
  · obtain ⟨x, hx, q⟩ := hf
    obtain ⟨p, xs, rfl, h1, a1⟩ := r1.tup
    rw [r2.int]
    obtain ⟨y, hy, ry⟩ := atI_all a1 hx
    exact .inr (.inl ⟨p, xs, _, y, rfl, rfl, h1, hy, k _ _ H q (Same.refl H) ry⟩)
  · obtain ⟨x, hz, hx, q⟩ := hf
    rw [r1.str, r2.int]
    exact .inr (.inr ⟨_, _, x, rfl, rfl, hz, hx, k _ _ H q (Same.refl H) (.str _)⟩)
  · exact hf.elim
theorem d_ix (h1 : DO X K rg a ta t1) (h2 : DO X K rg b tb t2) (hs : PlainIx b := by intro _ _; rfl) : DP X K rg (.Subscript a b pos) (tOp (rIx K) ta tb) (sOp fIx t1 t2) := by
  cases h1.kx
  exact ⟨rfl, pe_ix ix_seq h1.pe h2.pe hs, rf_op opd_ix h1.rf h2.rf⟩
/-- an end of a slice -/
structure DPo (X : Cx) (K : PySem.W.Frag) (rg : Rg) (e : Option Expr) (to : TO) (t : En → (Option Int → Prop) → Prop) : Prop where
  kx : X.K = K
  po : PO X e to
  rf : ∀ (c : Dc), c.rg = rg → ∀ (pn : Pin) (H0 : Hp) (env : En) (σ : St) (H : Hp) (Qd : Option Int → Prop) (Q : Option Int → Hp → Prop), Sd K c pn H0 env σ H → t env Qd →
    (∀ d H', Qd d → Keep c.rg.R H H' → c.rg.J H' → Q d H') → to σ H Q
def sPn : En → (Option Int → Prop) → Prop := fun _ Q => Q none
def sPs (t : TD) : En → (Option Int → Prop) → Prop := fun env Q => t env fun d => match d with | .int i => Q (some i) | _ => False
theorem dpo_none (hK : X.K = K := by rfl) : DPo X K rg none tNoPart sPn := by
  cases hK
  exact ⟨rfl, po_none, fun c hc pn H0 env σ H Qd Q S ht k => k none H ht Keep.refl S.j⟩
theorem dpo_some (h : DP X K rg e te t) : DPo X K rg (some e) (tPart te) (sPs t) := by
  cases h.kx
  exact ⟨rfl, po_some h.pe, fun c hc pn H0 env σ H Qd Q S ht k => by
  refine h.rf c hc pn H0 env σ H _ _ S ht fun d v H1 q1 k1 j1 r1 => ?_
  cases d with
  | int i => cases r1; exact ⟨i, rfl, k _ H1 q1 k1 j1⟩
  | _ => exact q1.elim⟩
def cutD (ds : List D) (lo hi : Option Int) : List D := (ds.drop (HT.sIx ds.length 0 lo)).take (HT.sIx ds.length ds.length hi - HT.sIx ds.length 0 lo)
theorem cut_all {K : PySem.W.Frag} {M : Addr → Prop} {H : Hp} {vs : List V} {ds : List D} (r : RpAll K M H vs ds) (lo hi : Option Int) : RpAll K M H (cutV vs lo hi) (cutD ds lo hi) := by
  unfold cutV cutD
  rw [RpAll.length r]
  exact RpAll.take _ (RpAll.drop _ r)
def rSlU (K : PySem.W.Frag) : V → Option Int → Option Int → Hp → VK → Prop := fun x lo hi H Q => rSlL K x lo hi H Q ∨ rSlA K x lo hi H Q
theorem sl_U : SlR X (rSlU X.K) := SlR.or sl_list sl_tupA
def sSl (t : TD) (l h : En → (Option Int → Prop) → Prop) : TD := fun env Q => t env fun d => l env fun lo => h env fun hi => match d with
  | .lst ds => Q (.lst (cutD ds lo hi)) | .scr ns => Q (.lst (cutD (ns.map .int) lo hi)) | .tup ds => Q (.tup (cutD ds lo hi)) | _ => False
theorem cut_whole {ds : List D} {lo hi : Option Int} (h : HT.sIx ds.length 0 lo = 0 ∧ HT.sIx ds.length ds.length hi = ds.length) : cutD ds lo hi = ds := by
  unfold cutD
  rw [h.1, h.2]
  simp
theorem d_slice {lo hi : Option Expr} {tl th : TO} {l h : En → (Option Int → Prop) → Prop} {p2 : Pos} (h1 : DO X K rg e te t) (hl : DPo X K rg lo tl l) (hh : DPo X K rg hi th h) : DP X K rg (.Subscript e (.Slice lo hi none p2) pos) (tSl (rSlU K) te tl th) (sSl t l h) := by
  cases h1.kx
  exact ⟨rfl, pe_slice sl_U h1.pe hl.po hh.po, fun c hc pn H0 env σ H Qd Q S ht k => by
    refine h1.rf c hc pn H0 env σ H _ _ S ht fun d v H1 q1 k1 j1 r1 => ?_
    subst hc
    have S1 := S.grow k1 j1
    refine hl.rf c rfl pn H0 env σ H1 _ _ S1 q1 fun i H2 q2 k2 j2 => ?_
    have S2 := S1.grow k2 j2
    refine hh.rf c rfl pn H0 env σ H2 _ _ S2 q2 fun j H3 q3 k3 j3 => ?_
    have S3 := S2.grow k3 j3
    have r3 := RpO.keep (k2.trans k3) S.ok.sub (fun a h => Mof.of_R S.ok h) r1
    have k13 := (k1.trans k2).trans k3
    cases d with
    | lst ds =>
      obtain ⟨p, vs, rfl, hp, aa⟩ := r3.lst
      refine .inl ⟨p, vs, rfl, SqL.of hp, fun l hl => ?_⟩
      exact k _ _ _ q3 (fresh_keep k13 hl) (fresh_j S.ok j3 hl) (.lst (fun z => S3.domM l z hl) upd_same (RpAll.keep (Keep.upd_new hl) (cut_all aa _ _)))
    | scr ns =>
      rcases r3 with r3 | ⟨_, _, _, _, e, _⟩
      · obtain ⟨p, rfl, hp⟩ := r3.scr_seq
        refine .inl ⟨p, _, rfl, hp, fun l hl => ?_⟩
        exact k _ _ _ q3 (fresh_keep k13 hl) (fresh_j S.ok j3 hl) (.lst (fun z => S3.domM l z hl) upd_same (RpAll.keep (Keep.upd_new hl) (cut_all (RpAll.ints ns) _ _)))
      · cases e
    | tup ds =>
      obtain ⟨p, vs, rfl, hp, aa⟩ := r3.tup
      have el := RpAll.length aa
      refine .inr ⟨p, vs, rfl, hp, fun hw => ?_, fun _ l hl => ?_⟩
      · rw [el] at hw
        have q3' : Qd (.tup ds) := by rw [← cut_whole hw]; exact q3
        rcases r3 with r3 | ⟨_, _, _, _, e, _⟩
        · exact k _ _ H3 q3' k13 j3 r3
        · cases e
      · exact k _ _ _ q3 (fresh_keep k13 hl) (fresh_j S.ok j3 hl) (.tup (fun z => S3.domM l z hl) upd_same (RpAll.keep (Keep.upd_new hl) (cut_all aa _ _)))
    | _ => exact q3.elim⟩
/-! ### calls of what is built in -/
abbrev FL := List D → (D → Prop) → Prop
def CaD (K : PySem.W.Frag) (r : List V → Hp → VK → Prop) (f : FL) : Prop := ∀ (M0 M : Addr → Prop) (H : Hp) (vs : List V) (ds : List D) (Qd : D → Prop) (Q : VK), (∀ a, M a → H a ≠ none) → RpOs K M0 M H vs ds → f ds Qd →
  (∀ d' v' H', Qd d' → Same H H' → Rp K M H' v' d' → Q v' H') → r vs H Q
def sCall (f : FL) (u : TDs) : TD := fun env Q => u env fun ds => f ds Q
theorem rf_cb {K : PySem.W.Frag} {r : List V → Hp → VK → Prop} {f : FL} (hd : CaD K r f) (h : RfAO K rg ts u) : Rf K rg (tCB r ts) (sCall f u) := fun c hc pn H0 env σ H Qd Q S ht k => by
  refine h c hc pn H0 env σ H _ _ S ht fun ds vs H1 q1 k1 j1 r1 => ?_
  subst hc
  have S1 := S.grow k1 j1
  refine hd c.M (Mof c env) H1 vs ds Qd Q S1.domM r1 q1 fun d' v' H2 q2 s2 r2 => ?_
  exact k d' v' H2 q2 (k1.trans (Keep.of_same s2)) (S1.same s2).j r2
theorem d_callB {id : String} {x : Str} {p : Pos} {r : List V → Hp → VK → Prop} {f : FL} (hc : CallR X (.builtin id) r) (hd : CaD K r f) (hg : Gl X x) (hm : X.mg x = none) (hv : bootBuiltins x = some (.builtin id)) (ha : DAO X K rg (e :: es) ts u) (hn : x ≠ "__name__" := by decide) (hdb : (x == ("__debug__" : Str)) = false := by decide)
    (he : starEach (e :: es) X.env = (false, eval e X.env) :: starEach es X.env := by rfl) (hpl : (backTo pos (starEach es X.env)).any (·.1) = false := by rfl) : DP X K rg (.Call (.Name x p) (e :: es) [] pos) (tCB r ts) (sCall f u) := by
  cases ha.kx
  exact ⟨rfl, pe_callB hc hg hm hv ha.pa hn hdb he hpl, rf_cb hd ha.rf⟩
theorem d_callTy {T : String} {x : Str} {p : Pos} {r : List V → Hp → VK → Prop} {f : FL} (hc : CallR X (.type T) r) (hd : CaD K r f) (hg : Gl X x) (hm : X.mg x = none) (hv : bootBuiltins x = some (.type T)) (ha : DAO X K rg (e :: es) ts u) (hn : x ≠ "__name__" := by decide) (hdb : (x == ("__debug__" : Str)) = false := by decide)
    (he : starEach (e :: es) X.env = (false, eval e X.env) :: starEach es X.env := by rfl) (hpl : (backTo pos (starEach es X.env)).any (·.1) = false := by rfl) : DP X K rg (.Call (.Name x p) (e :: es) [] pos) (tCB r ts) (sCall f u) := by
  cases ha.kx
  exact ⟨rfl, pe_callTy hc hg hm hv ha.pa hn hdb he hpl, rf_cb hd ha.rf⟩
theorem RpOs.one {K : PySem.W.Frag} {M0 M : Addr → Prop} {H : Hp} {vs : List V} {d : D} (r : RpOs K M0 M H vs [d]) : ∃ v, vs = [v] ∧ RpO K M0 M H v d := by
  cases r with | cons a b => cases b; exact ⟨_, rfl, a⟩
theorem RpOs.two {K : PySem.W.Frag} {M0 M : Addr → Prop} {H : Hp} {vs : List V} {d e : D} (r : RpOs K M0 M H vs [d, e]) : ∃ v w, vs = [v, w] ∧ RpO K M0 M H v d ∧ RpO K M0 M H w e := by
  cases r with | cons a b => cases b with | cons a' b => cases b; exact ⟨_, _, rfl, a, a'⟩
/-- len -/
def fLen : FL := fun ds Q => match ds with
  | [.lst xs] => Q (.int xs.length) | [.scr xs] => Q (.int xs.length) | [.tup xs] => Q (.int xs.length) | [.str z] => z.length ≤ sizeLine ∧ Q (.int z.length) | _ => False
theorem cad_len {K : PySem.W.Frag} : CaD K (fun xs H Q => ∃ x n, xs = [x] ∧ LenV K x H n ∧ Q (.int n) H) fLen := by
  intro M0 M H vs ds Qd Q hM r hf k
  unfold fLen at hf
  split at hf
  · obtain ⟨v, rfl, r1⟩ := r.one
    obtain ⟨p, xs, rfl, h1, a1⟩ := r1.lst
    exact ⟨_, _, rfl, .inl ⟨xs, SqL.of h1, rfl⟩, by rw [RpAll.length a1]; exact k _ _ H hf (Same.refl H) (.int _)⟩
  · obtain ⟨v, rfl, r1⟩ := r.one
    rcases r1 with r1 | ⟨_, _, _, _, e, _⟩
    · obtain ⟨p, rfl, h1⟩ := r1.scr_seq
      exact ⟨_, _, rfl, .inl ⟨_, h1, rfl⟩, by rw [List.length_map]; exact k _ _ H hf (Same.refl H) (.int _)⟩
    · cases e
  · obtain ⟨v, rfl, r1⟩ := r.one
    obtain ⟨p, xs, rfl, h1, a1⟩ := r1.tup
    exact ⟨_, _, rfl, .inr ⟨xs, h1, rfl⟩, by rw [RpAll.length a1]; exact k _ _ H hf (Same.refl H) (.int _)⟩
  · obtain ⟨v, rfl, r1⟩ := r.one
    rw [r1.str]
    exact ⟨_, _, rfl, ⟨hf.1, rfl⟩, k _ _ H hf.2 (Same.refl H) (.int _)⟩
  · exact hf.elim
/-- tuple(..) -/
def fTuple : FL := fun ds Q => match ds with | [.lst xs] => Q (.tup xs) | [.tup xs] => Q (.tup xs) | _ => False
theorem cad_tuple {K : PySem.W.Frag} : CaD K (fun xs H Q => ∃ p ys, xs = [.ref p] ∧ ((SqL K H p ys ∧ ∀ l, H l = none → Q (.ref l) (upd H l (.tup ys))) ∨ (SqT K H p ys ∧ Q (.ref p) H))) fTuple := by
  intro M0 M H vs ds Qd Q hM r hf k
  unfold fTuple at hf
  split at hf
  · obtain ⟨v, rfl, r1⟩ := r.one
    obtain ⟨p, xs, rfl, h1, a1⟩ := r1.lst
    exact ⟨p, xs, rfl, .inl ⟨SqL.of h1, fun l hl => k _ _ _ hf (fun b o e => by rw [upd_ne (ne_of_none e hl)]; exact e) (.tup (fun z => hM l z hl) upd_same (RpAll.keep (Keep.upd_new hl) a1))⟩⟩
  · obtain ⟨v, rfl, r1⟩ := r.one
    obtain ⟨p, xs, rfl, h1, a1⟩ := r1.tup
    rcases r1 with r1 | ⟨_, _, _, _, e, _⟩
    · exact ⟨p, xs, rfl, .inr ⟨h1, k _ _ H hf (Same.refl H) r1⟩⟩
    · cases e
  · exact hf.elim
/-- list(..): a new one -/
def sListOf (t : TD) : TDs := fun env Q => t env fun d => match d with | .lst xs => Q xs | .tup xs => Q xs | _ => False
theorem fresh_all {K : PySem.W.Frag} {M : Addr → Prop} {H : Hp} {p : Addr} {o : HO} (hp : H p = none) {vs : List V} {ds : List D} (r : RpAll K M H vs ds) : RpAll K (fun b => M b ∨ b = p) (upd H p o) vs ds :=
  RpAll.keep (Keep.upd_new hp) (RpAll.anti (fun b o e z => by rcases z with z | rfl; exact z; rw [hp] at e; cases e) r)
theorem df_list {x : Str} {p : Pos} (hg : Gl X x) (hm : X.mg x = none) (hv : bootBuiltins x = some (.type "list")) (h : DO X K rg e te t) (hn : x ≠ "__name__" := by decide) (hdb : (x == ("__debug__" : Str)) = false := by decide)
    (he : starEach [e] X.env = (false, eval e X.env) :: starEach [] X.env := by rfl) : DF X K rg (.Call (.Name x p) [e] [] pos) (tCB (fun xs H Q => ∃ p ys, xs = [.ref p] ∧ (SqL K H p ys ∨ SqT K H p ys) ∧ ∀ l, H l = none → Q (.ref l) (upd H l (.lst ys))) (tCons te tNil)) (sListOf t) := by
  cases h.kx
  exact ⟨rfl, pe_callTy call_list_of hg hm hv (pa_cons h.pe pa_nil he) hn hdb he rfl, fun c hc pn H0 env σ H Qd Q S ht k => by
    refine h.rf c hc pn H0 env σ H _ _ S ht fun d v H1 q1 k1 j1 r1 => ?_
    subst hc
    cases d with
    | lst xs =>
      obtain ⟨p, vs, rfl, h1, a1⟩ := r1.lst
      exact ⟨p, vs, rfl, .inl (SqL.of h1), fun l hl => k xs l vs _ q1 (none_back S k1 j1 hl) (fresh_keep k1 hl) (fresh_j S.ok j1 hl) upd_same (fresh_all hl a1)⟩
    | tup xs =>
      obtain ⟨p, vs, rfl, h1, a1⟩ := r1.tup
      exact ⟨p, vs, rfl, .inr h1, fun l hl => k xs l vs _ q1 (none_back S k1 j1 hl) (fresh_keep k1 hl) (fresh_j S.ok j1 hl) upd_same (fresh_all hl a1)⟩
    | _ => exact q1.elim⟩
/-- a slice of a list: a new one -/
def sSlF (t : TD) (l h : En → (Option Int → Prop) → Prop) : TDs := fun env Q => t env fun d => l env fun lo => h env fun hi => match d with | .lst ds => Q (cutD ds lo hi) | _ => False
theorem df_slice {lo hi : Option Expr} {tl th : TO} {l h : En → (Option Int → Prop) → Prop} {p2 : Pos} (h1 : DO X K rg e te t) (hl : DPo X K rg lo tl l) (hh : DPo X K rg hi th h) : DF X K rg (.Subscript e (.Slice lo hi none p2) pos) (tSl (rSlL K) te tl th) (sSlF t l h) := by
  cases h1.kx
  exact ⟨rfl, pe_slice sl_list h1.pe hl.po hh.po, fun c hc pn H0 env σ H Qd Q S ht k => by
    refine h1.rf c hc pn H0 env σ H _ _ S ht fun d v H1 q1 k1 j1 r1 => ?_
    subst hc
    have S1 := S.grow k1 j1
    refine hl.rf c rfl pn H0 env σ H1 _ _ S1 q1 fun i H2 q2 k2 j2 => ?_
    have S2 := S1.grow k2 j2
    refine hh.rf c rfl pn H0 env σ H2 _ _ S2 q2 fun j H3 q3 k3 j3 => ?_
    have r3 := RpO.keep (k2.trans k3) S.ok.sub (fun a h => Mof.of_R S.ok h) r1
    have k13 := (k1.trans k2).trans k3
    cases d with
    | lst ds =>
      obtain ⟨p, vs, rfl, hp, aa⟩ := r3.lst
      refine ⟨p, vs, rfl, SqL.of hp, fun l hl => ?_⟩
      exact k _ l _ _ q3 (none_back S k13 j3 hl) (fresh_keep k13 hl) (fresh_j S.ok j3 hl) upd_same (fresh_all hl (cut_all aa _ _))
    | _ => exact q3.elim⟩
theorem cl_len (hK : X.K = K := by rfl) : CallR X (.builtin "len") (fun xs H Q => ∃ x n, xs = [x] ∧ LenV K x H n ∧ Q (.int n) H) := by
  cases hK
  exact call_len
theorem cl_tuple (hK : X.K = K := by rfl) : CallR X (.type "tuple") (fun xs H Q => ∃ p ys, xs = [.ref p] ∧ ((SqL K H p ys ∧ ∀ l, H l = none → Q (.ref l) (upd H l (.tup ys))) ∨ (SqT K H p ys ∧ Q (.ref p) H))) := by
  cases hK
  exact call_tuple_of
theorem cl_sortedS (hK : X.K = K := by rfl) : CallR X (.builtin "sorted") (rSortedS K) := by
  cases hK
  exact cr_sortedS
end
end DL

namespace DL
open PySem L2
/-! ### targets -/
abbrev SG := D → En → (En → Prop) → Prop
abbrev SGs := List D → En → (En → Prop) → Prop
def slotFree (env : En) (i : Nat) : Bool := match env[i]? with | some none => true | some (some (.dat _)) => true | _ => false
def RfG (K : PySem.W.Frag) (rg : Rg) (g : TG) (sg : SG) (vs : List Nat) : Prop :=
  ∀ (c : Dc), c.rg = rg → ∀ (pn : Pin) (H0 : Hp) (env : En) (σ : St) (H : Hp) (v : V) (d : D) (Qe : En → Prop) (Q : St → Hp → Prop), Sd K c pn H0 env σ H → Rp K (Mof c env) H v d → sg d env Qe →
    (∀ env' σ', Qe env' → Sd K c pn H0 env' σ' H → (∀ a, Mof c env a ↔ Mof c env' a) → L2.wipe σ' vs = L2.wipe σ vs → Q σ' H) → g v σ H Q
def RfGs (K : PySem.W.Frag) (rg : Rg) (g : TGs) (sg : SGs) (vs : List Nat) : Prop :=
  ∀ (c : Dc), c.rg = rg → ∀ (pn : Pin) (H0 : Hp) (env : En) (σ : St) (H : Hp) (xs : List V) (ds : List D) (Qe : En → Prop) (Q : St → Hp → Prop), Sd K c pn H0 env σ H → RpAll K (Mof c env) H xs ds → sg ds env Qe →
    (∀ env' σ', Qe env' → Sd K c pn H0 env' σ' H → (∀ a, Mof c env a ↔ Mof c env' a) → L2.wipe σ' vs = L2.wipe σ vs → Q σ' H) → g xs σ H Q
structure DG (X : Cx) (K : PySem.W.Frag) (rg : Rg) (tg : Expr) (g : TG) (sg : SG) (vs : List Nat) : Prop where
  kx : X.K = K
  pg : PG X tg g
  rf : RfG K rg g sg vs
structure DGs (X : Cx) (K : PySem.W.Frag) (rg : Rg) (tg : List Expr) (g : TGs) (sg : SGs) (vs : List Nat) : Prop where
  kx : X.K = K
  pg : PGs X tg g
  rf : RfGs K rg g sg vs
theorem wipe_get (σ : St) : ∀ (vs : List Nat) (j : Nat), (L2.wipe σ vs)[j]? = if j ∈ vs ∧ j < σ.length then some none else σ[j]?
  | [], j => by simp [L2.wipe]
  | v :: vs, j => by
    have ih := wipe_get σ vs j
    unfold L2.wipe
    rw [List.getElem?_set, wipe_length]
    by_cases h : v = j
    · subst h
      by_cases hl : v < σ.length
      · simp [hl]
      · simp [hl]
    · rw [if_neg h, ih]
      have : (j ∈ v :: vs) ↔ j ∈ vs := by
        rw [List.mem_cons]
        exact ⟨fun z => z.elim (fun e => absurd e.symm h) id, .inr⟩
      simp only [this]
theorem wipe_set {σ : St} {i : Nat} {x : Option V} {vs : List Nat} (h : i ∈ vs) : L2.wipe (σ.set i x) vs = L2.wipe σ vs := by
  apply List.ext_getElem?
  intro j
  rw [wipe_get, wipe_get, List.length_set, List.getElem?_set]
  by_cases e : i = j
  · subst e
    by_cases hl : i < σ.length
    · simp [h, hl]
    · simp [hl]
  · simp [e]
theorem mof_set {c : Dc} {env : En} {i : Nat} {d : D} (h : slotFree env i = true) (a : Addr) : Mof c env a ↔ Mof c (env.set i (some (.dat d))) a := by
  constructor
  · rintro (m | ⟨j, s, h1, h2⟩)
    · exact .inl m
    · refine .inr ⟨j, s, ?_, h2⟩
      rw [List.getElem?_set_ne]
      · exact h1
      · rintro rfl
        unfold slotFree at h
        rw [h1] at h
        cases s with
        | dat d => cases h2
        | _ => cases h
  · rintro (m | ⟨j, s, h1, h2⟩)
    · exact .inl m
    · by_cases e : i = j
      · subst e
        by_cases hl : i < env.length
        · rw [List.getElem?_set_self hl] at h1; cases h1; cases h2
        · rw [List.getElem?_eq_none (by simpa using hl)] at h1; cases h1
      · rw [List.getElem?_set_ne e] at h1
        exact .inr ⟨j, s, h1, h2⟩
def sgName (i : Nat) : SG := fun d env Q => slotFree env i = true ∧ Q (env.set i (some (.dat d)))
section
variable {X : Cx} {K : PySem.W.Frag} {rg : Rg} {tg : Expr} {es : List Expr} {g : TG} {gs : TGs} {sg : SG} {sgs : SGs} {vs : List Nat} {pos : Pos}
theorem slot_lt {env : En} {i : Nat} (h : slotFree env i = true) : i < env.length := by
  unfold slotFree at h
  cases e : env[i]? with
  | none => rw [e] at h; cases h
  | some s => exact (List.getElem?_eq_some_iff.mp e).1
theorem dg_name {i : Nat} (h : PG X tg (gName i)) (hi : i ∈ vs) (hK : X.K = K := by rfl) : DG X K rg tg (gName i) (sgName i) vs := by
  cases hK
  exact ⟨rfl, h, fun c hc pn H0 env σ H v d Qe Q S r ht k => by
  obtain ⟨h1, h2⟩ := ht
  exact k _ _ h2 (S.setD i (slot_lt h1) r) (mof_set h1) (wipe_set hi)⟩
def sgNil : SGs := fun ds env Q => ds = [] ∧ Q env
def sgCons (sg : SG) (sgs : SGs) : SGs := fun ds env Q => match ds with | d :: ds => sg d env fun env' => sgs ds env' Q | [] => False
def sgTup (n : Nat) (sgs : SGs) : SG := fun d env Q => match d with | .tup ds => ds.length = n ∧ sgs ds env Q | _ => False
theorem dgs_nil (hK : X.K = K := by rfl) : DGs X K rg [] gNil sgNil vs := by
  cases hK
  exact ⟨rfl, pgs_nil, fun c hc pn H0 env σ H xs ds Qe Q S r ht k => by
  obtain ⟨rfl, h⟩ := ht
  cases r
  exact ⟨rfl, k _ _ h S (fun _ => Iff.rfl) rfl⟩⟩
theorem dgs_cons {e : Expr} (h1 : DG X K rg e g sg vs) (h2 : DGs X K rg es gs sgs vs) (hs : (assignEach (e :: es) X.env).map (·.2) = assign e X.env :: (assignEach es X.env).map (·.2) := by rfl) : DGs X K rg (e :: es) (gCons g gs) (sgCons sg sgs) vs := by
  cases h1.kx
  exact ⟨rfl, pgs_cons h1.pg h2.pg hs, fun c hc pn H0 env σ H xs ds Qe Q S r ht k => by
    cases r with
    | nil => exact ht.elim
    | cons r1 r2 =>
      refine ⟨_, _, rfl, h1.rf c hc pn H0 env σ H _ _ _ _ S r1 ht fun env1 σ1 q1 S1 m1 w1 => ?_⟩
      exact h2.rf c hc pn H0 env1 σ1 H _ _ _ _ S1 (RpAll.anti (fun a o e z => (m1 a).mpr z) r2) q1 fun env2 σ2 q2 S2 m2 w2 => k env2 σ2 q2 S2 (fun a => (m1 a).trans (m2 a)) (w2.trans w1)⟩
theorem dg_tup {k n : Nat} (hc : X.calm = true) (h : DGs X K rg es gs sgs vs) (hn : (assignEach es X.env).length = n := by rfl) (hst : (assignEach es X.env).findIdx? (·.1) = none := by rfl) : DG X K rg (.Tuple es k pos) (gTup K n gs) (sgTup n sgs) vs := by
  cases h.kx
  exact ⟨rfl, pg_tup hc h.pg hn hst, fun c hcc pn H0 env σ H v d Qe Q S r ht k => by
    cases d with
    | tup ds =>
      obtain ⟨h1, h2⟩ := ht
      cases r with
      | tup m e a => exact ⟨_, _, rfl, SqT.of e, (RpAll.length a).trans h1, h.rf c hcc pn H0 env σ H _ _ _ _ S a h2 k⟩
      | tupK e a => exact ⟨_, _, rfl, .inr e, (RpAll.length a).trans h1, h.rf c hcc pn H0 env σ H _ _ _ _ S a h2 k⟩
    | _ => exact ht.elim⟩
end
/-! ### what is walked -/
def Zof (o : Bool) (c : Dc) (env : En) : Addr → Prop := if o then c.M else Mof c env
def RfI (K : PySem.W.Frag) (rg : Rg) (o : Bool) (wi : TI) (ti : TDs) : Prop :=
  ∀ (c : Dc), c.rg = rg → ∀ (pn : Pin) (H0 : Hp) (env : En) (σ : St) (H : Hp) (Qd : List D → Prop) (R : It → Hp → Prop), Sd K c pn H0 env σ H → ti env Qd →
    (∀ (xs : List D) (J : It) (G : Hp → Prop) (Y : Nat → Hp → V → Hp → Prop) (H1 : Hp), Qd xs → Keep c.rg.R H H1 → c.rg.J H1 → Walk J xs.length G Y → (∀ H2, Keep (Zof o c env) H1 H2 → G H2) →
      (∀ (M : Addr → Prop) (i : Nat) (H2 : Hp) (x : V) (H3 : Hp), i < xs.length → Keep (Zof o c env) H1 H2 → Keep (Mof c env) H1 H2 → (∀ a o, H1 a = some o → M a → Mof c env a) → (∀ a, M a → H2 a ≠ none) → Y i H2 x H3 → ∃ d, xs[i]? = some d ∧ Same H2 H3 ∧ Rp K M H3 x d) → R J H1) → wi σ H R
structure DI (X : Cx) (K : PySem.W.Frag) (rg : Rg) (o : Bool) (tg iter : Expr) (wi : TI) (ti : TDs) : Prop where
  kx : X.K = K
  pi : PI X tg iter wi
  rf : RfI K rg o wi ti
/-- over a list or a tuple -/
def iSeqU (K : PySem.W.Frag) (te : TE) : TI := fun σ H R => te σ H fun x H1 => ∃ a, x = .ref a ∧ ((∃ xs, SqL K H1 a xs ∧ R (Itl K a) H1) ∨ (∃ xs, SqT K H1 a xs ∧ R (Itt K a) H1))
section
variable {X : Cx} {K : PySem.W.Frag} {rg : Rg} {tg e : Expr} {te : TE} {t : TD} {pos : Pos}
theorem pi_seqU (h : PE X e te) : PI X tg e (iSeqU X.K te) := by
  refine ⟨fun pins s σ H R I hw => ?_⟩
  refine thn (h.run pins s σ H _ I hw) fun v s1 ⟨x, H1, I1, r1, q1⟩ => ?_
  obtain ⟨a, rfl, q1⟩ := q1
  cases r1
  rcases q1 with ⟨xs, hq, q⟩ | ⟨xs, hq, q⟩
  · obtain ⟨its, rv, p, hz⟩ := I1.list hq
    refine wpAny_pyIter_list p.isList ?_
    refine ⟨s1.heap.objs.size, [s1.heap.objs.size], _, _, H1, rfl, I1.kept (t' := s1.toks) fun b o e => Heap.get?_push_of_some _ e, turn_list a _, ⟨_, Heap.get?_push_size _ rfl, rfl, rfl⟩, fun b hb => ?_, q⟩
    have e : b = s1.heap.objs.size := by simpa using hb
    subst e
    exact I1.fpOk (Nat.le_refl _) (I1.hok.fresh (Nat.le_refl _))
  · obtain ⟨its, rv, p, hz⟩ := I1.tuple hq
    refine wpAny_pyIter_tuple (show s1.heap.IsTuple a its.toArray from p) ?_
    refine ⟨s1.heap.objs.size, [s1.heap.objs.size], _, _, H1, rfl, I1.kept (t' := s1.toks) fun b o e => Heap.get?_push_of_some _ e, turn_tuple a _, ⟨_, Heap.get?_push_size _ rfl, rfl, rfl⟩, fun b hb => ?_, q⟩
    have e : b = s1.heap.objs.size := by simpa using hb
    subst e
    exact I1.fpOk (Nat.le_refl _) (I1.hok.fresh (Nat.le_refl _))
def sSeq (t : TD) : TDs := fun env Q => t env fun d => match d with | .lst xs => Q xs | .tup xs => Q xs | _ => False
/-- what a walk over items gives -/
theorem walk_facts {K : PySem.W.Frag} {c : Dc} {env : En} {o : Bool} {H1 : Hp} {vs : List V} {xs : List D} (r : RpAll K (Mof c env) H1 vs xs) (M : Addr → Prop) (i : Nat) (H2 : Hp) (x : V) (H3 : Hp) (k : Keep (Mof c env) H1 H2) (hm : ∀ a o, H1 a = some o → M a → Mof c env a)
    (y : YAt vs i H2 x H3) : ∃ d, xs[i]? = some d ∧ Same H2 H3 ∧ Rp K M H3 x d := by
  obtain ⟨rfl, hx⟩ := y
  obtain ⟨d, hd, rd⟩ := RpAll.get r hx
  have rd1 : Rp K (fun b => Mof c env b ∨ M b) H1 x d := Rp.anti (fun b o e z => z.elim id (hm b o e)) rd
  have rd2 : Rp K (fun b => Mof c env b ∨ M b) _ x d := Rp.keep (k.mono fun b z => .inl z) rd1
  exact ⟨d, hd, Same.refl _, Rp.anti (fun _ _ _ z => .inr z) rd2⟩
theorem di_data (h : DP X K rg e te t) : DI X K rg false tg e (iSeqU K te) (sSeq t) := by
  cases h.kx
  exact ⟨rfl, pi_seqU h.pe, fun c hc pn H0 env σ H Qd R S ht k => by
  refine h.rf c hc pn H0 env σ H _ _ S ht fun d v H1 q1 k1 j1 r1 => ?_
  cases d with
  | lst xs =>
    cases r1 with
    | lst m e a =>
      refine ⟨_, rfl, .inl ⟨_, SqL.of e, k xs _ _ _ H1 q1 k1 j1 (by rw [← RpAll.length a]; exact walk_list) (fun H2 z => SqL.of (z _ _ e m)) fun M i H2 x H3 _ _ k2 hm _ y => walk_facts (o := false) a M i H2 x H3 k2 hm y⟩⟩
  | tup xs =>
    cases r1 with
    | tup m e a =>
      refine ⟨_, rfl, .inr ⟨_, SqT.of e, k xs _ _ _ H1 q1 k1 j1 (by rw [← RpAll.length a]; exact walk_tup) (fun H2 z => SqT.of (z _ _ e m)) fun M i H2 x H3 _ _ k2 hm _ y => walk_facts (o := false) a M i H2 x H3 k2 hm y⟩⟩
    | tupK e a =>
      refine ⟨_, rfl, .inr ⟨_, .inr e, k xs _ _ _ H1 q1 k1 j1 (by rw [← RpAll.length a]; exact walk_tup) (fun H2 z => (Or.inr e : SqT X.K H2 _ _)) fun M i H2 x H3 _ _ k2 hm _ y => walk_facts (o := false) a M i H2 x H3 k2 hm y⟩⟩
  | _ => exact q1.elim⟩
theorem di_op (h : DO X K rg e te t) : DI X K rg true tg e (iSeqU K te) (sSeq t) := by
  cases h.kx
  exact ⟨rfl, pi_seqU h.pe, fun c hc pn H0 env σ H Qd R S ht k => by
  refine h.rf c hc pn H0 env σ H _ _ S ht fun d v H1 q1 k1 j1 r1 => ?_
  have nR : ∀ a, ¬ Mof c env a → ¬ c.M a := fun a m z => m (.inl z)
  cases d with
  | lst xs =>
    rcases r1 with r1 | ⟨p, vs, ds, rfl, e2, m, e, a⟩
    · cases r1 with
      | lst m e a =>
        exact ⟨_, rfl, .inl ⟨_, SqL.of e, k xs _ _ _ H1 q1 k1 j1 (by rw [← RpAll.length a]; exact walk_list) (fun H2 z => SqL.of (z _ _ e (nR _ m))) fun M i H2 x H3 _ _ k2 hm _ y => walk_facts (o := true) a M i H2 x H3 k2 hm y⟩⟩
    · cases e2
      exact ⟨_, rfl, .inl ⟨_, SqL.of e, k xs _ _ _ H1 q1 k1 j1 (by rw [← RpAll.length a]; exact walk_list) (fun H2 z => SqL.of (z _ _ e m)) fun M i H2 x H3 _ _ k2 hm _ y => walk_facts (o := true) a M i H2 x H3 k2 hm y⟩⟩
  | tup xs =>
    rcases r1 with r1 | ⟨p, vs, ds, rfl, e2, m, e, a⟩
    · cases r1 with
      | tup m e a =>
        exact ⟨_, rfl, .inr ⟨_, SqT.of e, k xs _ _ _ H1 q1 k1 j1 (by rw [← RpAll.length a]; exact walk_tup) (fun H2 z => SqT.of (z _ _ e (nR _ m))) fun M i H2 x H3 _ _ k2 hm _ y => walk_facts (o := true) a M i H2 x H3 k2 hm y⟩⟩
      | tupK e a =>
        exact ⟨_, rfl, .inr ⟨_, .inr e, k xs _ _ _ H1 q1 k1 j1 (by rw [← RpAll.length a]; exact walk_tup) (fun H2 z => (Or.inr e : SqT X.K H2 _ _)) fun M i H2 x H3 _ _ k2 hm _ y => walk_facts (o := true) a M i H2 x H3 k2 hm y⟩⟩
    · cases e2
  | _ => exact q1.elim⟩
/-- range(n) -/
def intsD (lo : Int) (n : Nat) : List D := (List.range n).map fun i => .int (lo + (i : Nat))
def sRng1 (u : TDs) : TDs := fun env Q => u env fun ds => match ds with | [.int j] => -(2 ^ 62) ≤ j ∧ j < 2 ^ 62 ∧ Q (intsD 0 j.toNat) | _ => False
def sRng2 (u : TDs) : TDs := fun env Q => u env fun ds => match ds with | [.int i, .int j] => (-(2 ^ 62) ≤ i ∧ i < 2 ^ 62 ∧ -(2 ^ 62) ≤ j ∧ j < 2 ^ 62) ∧ Q (intsD i (j - i).toNat) | _ => False
theorem intsD_length {lo : Int} {n : Nat} : (intsD lo n).length = n := by simp [intsD]
theorem rng_facts {K : PySem.W.Frag} {lo : Int} {n : Nat} (M : Addr → Prop) (i : Nat) (H2 : Hp) (x : V) (H3 : Hp) (hi : i < (intsD lo n).length) (y : YFn (fun i => V.int (lo + (i : Nat))) i H2 x H3) : ∃ d, (intsD lo n)[i]? = some d ∧ Same H2 H3 ∧ Rp K M H3 x d := by
  obtain ⟨rfl, rfl⟩ := y
  rw [intsD_length] at hi
  exact ⟨.int (lo + i), by simp [intsD, hi], Same.refl _, .int _⟩
theorem di_range1 {o : Bool} {a : Expr} {ta : TA} {u : TDs} {p : Pos} (hg : Gl X "range") (hm : X.mg "range" = none) (ha : DA X K rg [a] ta u) (hs : starEach [a] X.env = [(false, eval a X.env)] := by rfl) : DI X K rg o tg (.Call (.Name "range" p) [a] [] pos) (iRng1 ta) (sRng1 u) := by
  cases ha.kx
  exact ⟨rfl, pi_range1 hg hm ha.pa hs, fun c hc pn H0 env σ H Qd R S ht k => by
    refine ha.rf c hc pn H0 env σ H _ _ S ht fun ds vs H1 q1 k1 j1 r1 => ?_
    unfold sRng1 at ht
    match ds, q1 with
    | [.int j], q1 =>
      cases r1 with
      | cons r1 r2 =>
        cases r1; cases r2
        exact ⟨j, rfl, q1.1, q1.2.1, k _ _ _ _ H1 q1.2.2 k1 j1 (by rw [intsD_length]; exact walk_range) (fun _ _ => trivial) fun M i H2 x H3 hi _ _ _ _ y => rng_facts M i H2 x H3 hi y⟩⟩
theorem di_range2 {o : Bool} {a b : Expr} {ta : TA} {u : TDs} {p : Pos} (hg : Gl X "range") (hm : X.mg "range" = none) (ha : DA X K rg [a, b] ta u) (hs : starEach [a, b] X.env = [(false, eval a X.env), (false, eval b X.env)] := by rfl) (hs2 : starEach [b] X.env = [(false, eval b X.env)] := by rfl) :
    DI X K rg o tg (.Call (.Name "range" p) [a, b] [] pos) (iRng2 ta) (sRng2 u) := by
  cases ha.kx
  exact ⟨rfl, pi_range2 hg hm ha.pa hs hs2, fun c hc pn H0 env σ H Qd R S ht k => by
    refine ha.rf c hc pn H0 env σ H _ _ S ht fun ds vs H1 q1 k1 j1 r1 => ?_
    match ds, q1 with
    | [.int i, .int j], q1 =>
      cases r1 with
      | cons r1 r2 =>
        cases r2 with
        | cons r2 r3 =>
          cases r1; cases r2; cases r3
          exact ⟨i, j, rfl, q1.1, k _ _ _ _ H1 q1.2 k1 j1 (by rw [intsD_length]; exact walk_range) (fun _ _ => trivial) fun M i H2 x H3 hi _ _ _ _ y => rng_facts M i H2 x H3 hi y⟩⟩
end
end DL

namespace DL
open PySem L2
def Dc.with (c : Dc) (D : Addr) : Dc := ⟨fun a => c.M a ∨ a = D, c.P, c.rg⟩
section
variable {K : PySem.W.Frag} {c : Dc} {pn : Pin} {H0 : Hp} {env env' : En} {σ : St} {H H' : Hp} {i : Nat} {s : Sl} {a D' : Addr} {d : D} {v : V}
theorem mof_with {b : Addr} : Mof (c.with D') env b ↔ Mof c env b ∨ b = D' := by
  constructor
  · rintro ((h | h) | h)
    · exact .inl (.inl h)
    · exact .inr h
    · exact .inl (.inr h)
  · rintro ((h | h) | h)
    · exact .inl (.inl h)
    · exact .inr h
    · exact .inl (.inr h)
/-- what was not there at the entry -/
theorem Sd.h0 (S : Sd K c pn H0 env σ H) (h : H a = none) : H0 a = none := by
  cases q : H0 a with
  | none => rfl
  | some o =>
    by_cases hr : Rw c a
    · rcases hr with hr | hr
      · exact absurd h (S.ok.rg.dom H S.j a hr)
      · exact absurd h (S.dom a (S.ok.pm a hr).1)
    · rw [S.kp a o q hr] at h; cases h
/-- a new object that no data may hold -/
theorem Sd.inComp (S : Sd K c pn H0 env σ H) (hD : H D' = none) {o : HO} : Sd K (c.with D') pn H0 env σ (upd H D' o) := by
  have hM : ∀ b u, H b = some u → Mof (c.with D') env b → Mof c env b := fun b u e z => by
    rcases mof_with.mp z with z | rfl
    · exact z
    · rw [hD] at e; cases e
  have kM : ∀ M : Addr → Prop, Keep M H (upd H D' o) := fun M => Keep.upd_new hD
  refine ⟨⟨fun a h => .inl (S.ok.sub a h), S.ok.rg, fun a h => ⟨.inl (S.ok.pm a h).1, (S.ok.pm a h).2⟩⟩, S.len, fun i s e => ?_, fresh_j S.ok S.j hD, S.kp.trans (kM _), fun a h e => ?_, S.apart, S.pk, S.pk _ _ _ _ (S.pk _ _ _ _ S.pn Keep.refl hM) (kM _) fun _ _ _ z => z⟩
  · obtain ⟨v, h1, h2⟩ := S.sl i s e
    refine ⟨v, h1, ?_⟩
    cases s with
    | dat d => exact Rp.keep (kM _) (Rp.anti hM h2)
    | own b ds =>
      obtain ⟨q1, q2, q3, vs, q4, q5⟩ := h2
      refine ⟨q1, q2, ?_, vs, kM (fun _ => False) b _ q4 id, RpAll.keep (kM _) (RpAll.anti hM q5)⟩
      rintro (z | rfl)
      · exact q3 z
      · rw [hD] at q4; cases q4
    | ownD b kz ds =>
      obtain ⟨q1, q2, q3, vs, q4, ql, q5⟩ := h2
      refine ⟨q1, q2, ?_, vs, kM (fun _ => False) b _ q4 id, ql, RpAll.keep (kM _) (RpAll.anti hM q5)⟩
      rintro (z | rfl)
      · exact q3 z
      · rw [hD] at q4; cases q4
    | self b C ns ds =>
      obtain ⟨q1, q2, dx, vs, q4, q5, q6⟩ := h2
      exact ⟨q1, q2, dx, vs, kM (fun _ => False) b _ q4 id, q5, RpAll.keep (kM _) (RpAll.anti hM q6)⟩
  · by_cases ea : a = D'
    · rw [ea, upd_same] at e; cases e
    · rw [upd_ne ea] at e
      rcases h with h | h
      · exact S.dom a h e
      · exact ea h
/-- that object is changed -/
theorem Sd.updD (S : Sd K (c.with D') pn H0 env σ H) (n0 : H0 D' = none) (nr : ¬ c.rg.R D') (np : c.P ≠ some D') {o : HO} : Sd K (c.with D') pn H0 env σ (upd H D' o) := by
  have kM : Keep (Mof (c.with D') env) H (upd H D' o) := fun b u e m => by
    rw [upd_ne (fun z => m (mof_with.mpr (.inr z)))]; exact e
  refine ⟨S.ok, S.len, fun i s e => ?_, S.ok.rg.stay H _ S.j (fun b u e hr => by rw [upd_ne (fun z => nr (by rw [← z]; exact hr))]; exact e), fun b u e m => ?_, fun a h e => ?_, S.apart, S.pk, S.pk _ _ _ _ S.pn kM fun _ _ _ z => z⟩
  · obtain ⟨v, h1, h2⟩ := S.sl i s e
    refine ⟨v, h1, ?_⟩
    cases s with
    | dat d => exact Rp.keep kM h2
    | own b ds =>
      obtain ⟨q1, q2, q3, vs, q4, q5⟩ := h2
      exact ⟨q1, q2, q3, vs, by rw [upd_ne (fun z => q3 (.inr z))]; exact q4, RpAll.keep kM q5⟩
    | ownD b kz ds =>
      obtain ⟨q1, q2, q3, vs, q4, ql, q5⟩ := h2
      exact ⟨q1, q2, q3, vs, by rw [upd_ne (fun z => q3 (.inr z))]; exact q4, ql, RpAll.keep kM q5⟩
    | self b C ns ds =>
      obtain ⟨q1, q2, dx, vs, q4, q5, q6⟩ := h2
      have q2' : c.P = some b := q2
      exact ⟨q1, q2, dx, vs, by rw [upd_ne (fun z => np (by rw [q2', z]))]; exact q4, q5, RpAll.keep kM q6⟩
  · have hb : b ≠ D' := fun z => by rw [z, n0] at e; cases e
    rw [upd_ne hb]; exact S.kp b u e m
  · by_cases ea : a = D'
    · rw [ea, upd_same] at e; cases e
    · rw [upd_ne ea] at e; exact S.dom a h e
/-- .. and all else grows -/
theorem Sd.growD (S : Sd K (c.with D') pn H0 env σ H) (k : Keep (fun a => c.rg.R a ∨ a = D') H H') (j : c.rg.J H') (hD : H' D' ≠ none) (n0 : H0 D' = none) (np : c.P ≠ some D') : Sd K (c.with D') pn H0 env σ H' := by
  have sub : ∀ a, (c.rg.R a ∨ a = D') → Mof (c.with D') env a := fun a z => mof_with.mpr (z.elim (fun z => by
    rcases S.ok.sub a z with z | z
    · exact .inl (.inl z)
    · exact .inr z) .inr)
  have kM : Keep (Mof (c.with D') env) H H' := k.mono sub
  refine ⟨S.ok, S.len, fun i s e => ?_, j, fun b u e m => ?_, fun a h e => ?_, S.apart, S.pk, S.pk _ _ _ _ S.pn kM fun _ _ _ z => z⟩
  · obtain ⟨v, h1, h2⟩ := S.sl i s e
    refine ⟨v, h1, ?_⟩
    cases s with
    | dat d => exact Rp.keep kM h2
    | own b ds =>
      obtain ⟨q1, q2, q3, vs, q4, q5⟩ := h2
      exact ⟨q1, q2, q3, vs, k b _ q4 (fun z => q3 (z.elim (fun z => S.ok.sub b z) .inr)), RpAll.keep kM q5⟩
    | ownD b kz ds =>
      obtain ⟨q1, q2, q3, vs, q4, ql, q5⟩ := h2
      exact ⟨q1, q2, q3, vs, k b _ q4 (fun z => q3 (z.elim (fun z => S.ok.sub b z) .inr)), ql, RpAll.keep kM q5⟩
    | self b C ns ds =>
      obtain ⟨q1, q2, dx, vs, q4, q5, q6⟩ := h2
      have q2' : c.P = some b := q2
      exact ⟨q1, q2, dx, vs, k b _ q4 (fun z => z.elim (S.ok.pm b q2).2 fun z => np (by rw [q2', z])), q5, RpAll.keep kM q6⟩
  · have hb : b ≠ D' := fun z => by rw [z, n0] at e; cases e
    exact k b u (S.kp b u e m) fun z => z.elim (fun z => m (.inl z)) hb
  · by_cases ea : a = D'
    · rw [ea] at e; exact hD e
    · by_cases hr : c.rg.R a
      · exact S.ok.rg.dom H' j a hr e
      · cases q : H a with
        | none => exact S.dom a h q
        | some o => rw [k a o q fun z => z.elim hr ea] at e; cases e
/-- none of these slots holds a list of one's own -/
def ownFree (env : En) (vs : List Nat) : Bool := vs.all fun i => match env[i]? with | some (some (.own _ _)) => false | some (some (.ownD _ _ _)) => false | some (some (.self _ _ _ _)) => false | _ => true
theorem wipeE_get : ∀ (vs : List Nat) (j : Nat), (wipeE env vs)[j]? = if j ∈ vs ∧ j < env.length then some none else env[j]?
  | [], j => by simp [wipeE]
  | v :: vs, j => by
    have ih := wipeE_get vs j
    have hl : ∀ vs, (wipeE env vs).length = env.length := fun vs => by
      induction vs with
      | nil => rfl
      | cons v vs ih => unfold wipeE; rw [List.length_set, ih]
    unfold wipeE
    rw [List.getElem?_set, hl]
    by_cases h : v = j
    · subst h
      by_cases hl : v < env.length
      · simp [hl]
      · simp [hl]
    · rw [if_neg h, ih]
      have : (j ∈ v :: vs) ↔ j ∈ vs := by
        rw [List.mem_cons]
        exact ⟨fun z => z.elim (fun e => absurd e.symm h) id, .inr⟩
      simp only [this]
theorem mof_wipe {vs : List Nat} (h : ownFree env vs = true) (b : Addr) : Mof c env b ↔ Mof c (wipeE env vs) b := by
  constructor
  · rintro (m | ⟨j, s, h1, h2⟩)
    · exact .inl m
    · refine .inr ⟨j, s, ?_, h2⟩
      rw [wipeE_get]
      by_cases hj : j ∈ vs ∧ j < env.length
      · have q := (List.all_eq_true.mp h) j hj.1
        rw [h1] at q
        cases s with
        | dat d => cases h2
        | _ => cases q
      · rw [if_neg hj]; exact h1
  · rintro (m | ⟨j, s, h1, h2⟩)
    · exact .inl m
    · rw [wipeE_get] at h1
      split at h1
      · cases h1
      · exact .inr ⟨j, s, h1, h2⟩
end
/-! ### comprehensions -/
structure DTs (X : Cx) (K : PySem.W.Frag) (rg : Rg) (ifs : List Expr) (tt : TT) (t : TB) : Prop where
  kx : X.K = K
  pt : PTs X ifs tt
  rf : RfT K rg tt t
def sYes : TB := fun _ Q => Q true
theorem dts_nil {X : Cx} {rg : Rg} (hK : X.K = K := by rfl) : DTs X K rg [] tYes sYes := by
  cases hK
  exact ⟨rfl, pts_nil, fun c hc pn H0 env σ H Qd Q S ht k => k true H ht Keep.refl S.j⟩
theorem dts_one {X : Cx} {rg : Rg} {e : Expr} {tt : TT} {t : TB} (h : DT X K rg e tt t) : DTs X K rg [e] tt t := by
  cases h.kx
  exact ⟨rfl, pts_one h.pt, h.rf⟩
/-- [elt for target in iter if ..]: I holds of the turn and what is made so far -/
def sLc (ti : TDs) (sg : SG) (st : TB) (t : TD) (vs : List Nat) : TDs := fun env Q => ownFree env vs = true ∧ ti env fun xs => ∃ I : Nat → List D → Prop, I 0 [] ∧
  (∀ i x acc, xs[i]? = some x → I i acc → sg x (wipeE env vs) fun env2 => st env2 fun b => if b = true then t env2 fun y => acc.length < sizeLine ∧ I (i + 1) (acc ++ [y]) else I (i + 1) acc) ∧ ∀ acc, I xs.length acc → Q acc
section
variable {X : Cx} {K : PySem.W.Frag} {rg : Rg} {o : Bool} {wi : TI} {g : TG} {tt : TT} {te : TE} {ti : TDs} {sg : SG} {st : TB} {t : TD} {vs : List Nat}
theorem rf_lc (hi : RfI K rg o wi ti) (hg : RfG K rg g sg vs) (ht : RfT K rg tt st) (he : Rf K rg te t) (ho : o = true) : RfF K rg (tLc wi g tt te vs) (sLc ti sg st t vs) := fun c hc pn H0 env σ H Qd Q S hq k => by
  obtain ⟨hown, hq⟩ := hq
  subst ho
  refine hi c hc pn H0 env σ H _ _ S hq fun xs J G Y H1 q1 k1 j1 W hG hY => ?_
  intro D' hD
  obtain ⟨I, i0, turn, fin⟩ := q1
  have S1 := S.grow k1 j1
  have nD : H D' = none := none_back S k1 j1 hD
  have n0 : H0 D' = none := S.h0 nD
  have nR : ¬ c.rg.R D' := fun z => S1.domM D' (Mof.of_R S.ok z) hD
  have nP : c.P ≠ some D' := fun z => S1.dom D' (S.ok.pm D' z).1 hD
  have S2 : Sd K (c.with D') pn H0 (wipeE env vs) (L2.wipe σ vs) (upd H1 D' (.lst [])) := (S1.inComp hD).wipe vs
  refine lc_it W (fun i H5 => ∃ acc ws, I i acc ∧ H5 D' = some (.lst ws) ∧ RpAll K (fun b => Mof c env b ∨ b = D') H5 ws acc ∧ Keep c.rg.R H1 H5 ∧ Sd K (c.with D') pn H0 (wipeE env vs) (L2.wipe σ vs) H5)
    ⟨[], [], i0, upd_same, .nil, Keep.upd_new hD, S2⟩ (fun i H5 _ ⟨_, _, _, _, _, k5, _⟩ => hG H5 (k5.mono S.ok.sub)) ?_ ?_
  · rintro i x H5 H6 hlt ⟨acc, ws, hI, hl, ra, k5, S5⟩ y
    have mD : ∀ b, Mof (c.with D') (wipeE env vs) b ↔ Mof c env b ∨ b = D' := fun b => mof_with.trans (by rw [← mof_wipe hown b])
    have k5M : Keep (Mof c env) H1 H5 := k5.mono fun b z => Mof.of_R S.ok z
    obtain ⟨d, hd, s6, rd⟩ := hY (Mof (c.with D') (wipeE env vs)) i H5 x H6 hlt (k5.mono S.ok.sub) k5M (fun b u e z => by
      rcases (mD b).mp z with z | rfl
      · exact z
      · rw [hD] at e; cases e) S5.domM y
    have S6 := S5.same s6
    refine hg (c.with D') hc pn H0 _ _ H6 x d _ _ S6 rd (turn i d acc hd hI) fun env2 σ2 q2 S7 m2 w2 => ⟨w2.trans ?_, ?_⟩
    · apply List.ext_getElem?
      intro j
      rw [wipe_get, wipe_get, wipe_length]
      split <;> rfl
    refine ht (c.with D') hc pn H0 env2 σ2 H6 _ _ S7 q2 fun b H8 q8 k8 j8 => ?_
    have S8 := S7.grow k8 j8
    have l8 : ∀ {G6 G8 : Hp}, Keep c.rg.R G6 G8 → ∀ {u}, G6 D' = some u → G8 D' = some u := fun kk u e => kk D' u e nR
    have ra6 : RpAll K (fun b => Mof c env b ∨ b = D') H6 ws acc := RpAll.keep (Keep.of_same s6) ra
    have sub : ∀ a, c.rg.R a → Mof c env a ∨ a = D' := fun a z => .inl (Mof.of_R S.ok z)
    have ra8 : RpAll K (fun b => Mof c env b ∨ b = D') H8 ws acc := RpAll.keep (Keep.mono (show Keep c.rg.R H6 H8 from k8) sub) ra6
    have hl8 : H8 D' = some (.lst ws) := l8 (show Keep c.rg.R H6 H8 from k8) (s6 _ _ hl)
    have k18 : Keep c.rg.R H1 H8 := (k5.trans (Keep.of_same s6)).trans (show Keep c.rg.R H6 H8 from k8)
    -- back to the block's slots
    cases b with
    | false =>
      rw [if_neg Bool.false_ne_true] at q8 ⊢
      refine ⟨acc, ws, q8, hl8, ra8, k18, ?_⟩
      have k58 : Keep c.rg.R H5 H8 := (Keep.of_same s6).trans (show Keep c.rg.R H6 H8 from k8)
      exact S5.grow k58 S8.j
    | true =>
      rw [if_pos rfl] at q8 ⊢
      refine he (c.with D') hc pn H0 env2 σ2 H8 _ _ S8 q8 fun y v H9 q9 k9 j9 r9 => ?_
      have k9' : Keep c.rg.R H8 H9 := k9
      have hl9 : H9 D' = some (.lst ws) := l8 k9' hl8
      have ra9 : RpAll K (fun b => Mof c env b ∨ b = D') H9 ws acc := RpAll.keep (k9'.mono sub) ra8
      have r9' : Rp K (fun b => Mof c env b ∨ b = D') H9 v y := Rp.anti (fun b u e z => (m2 b).mp ((mD b).mpr z)) r9
      have kD : Keep (fun b => Mof c env b ∨ b = D') H9 (upd H9 D' (.lst (ws ++ [v]))) := fun b u e m => by rw [upd_ne fun z => m (.inr z)]; exact e
      have k59 : Keep c.rg.R H5 H9 := ((Keep.of_same s6).trans (show Keep c.rg.R H6 H8 from k8)).trans k9'
      have S9 : Sd K (c.with D') pn H0 (wipeE env vs) (L2.wipe σ vs) H9 := S5.grow k59 j9
      refine ⟨ws, hl9, by rw [RpAll.length ra9]; exact q9.1, acc ++ [y], ws ++ [v], q9.2, upd_same, RpAll.append (RpAll.keep kD ra9) (.cons (Rp.keep kD r9') .nil), ?_, S9.updD n0 nR nP⟩
      intro b u e m
      have hb : b ≠ D' := fun z => by rw [z, hD] at e; cases e
      rw [upd_ne hb]
      exact (k18.trans k9') b u e m
  · rintro H5 ⟨acc, ws, hI, hl, ra, k5, S5⟩
    exact k acc D' ws H5 (fin acc hI) nD (k1.trans k5) S5.j hl ra
theorem df_lc {elt tg iter : Expr} {ifs : List Expr} {scope : Scope} {own : List (Str × Nat)} {pos : Pos} (hc : X.calm = true) (hN : X.N.Nodup) (ok : BlkOk X.N X.env.scope scope own) (hi : DI X K rg true tg iter wi ti)
    (hg : ∀ (s : Shared) (H : Hp) (C : Addr) (cl : List (Str × Addr)) (fp : List Addr), DG (X.blk s H scope (compEnvC scope cl C X.env) fp) K rg tg g sg (own.map (·.2)))
    (ht : ∀ (s : Shared) (H : Hp) (C : Addr) (cl : List (Str × Addr)) (fp : List Addr), DTs (X.blk s H scope (compEnvC scope cl C X.env) fp) K rg ifs tt st)
    (he : ∀ (s : Shared) (H : Hp) (C : Addr) (cl : List (Str × Addr)) (fp : List Addr), DP (X.blk s H scope (compEnvC scope cl C X.env) fp) K rg elt te t) (hs : ∀ x, foldedSetIterable iter X.env x = pure x := by intro _; rfl) :
    DF X K rg (.ListComp elt [⟨tg, iter, ifs, 0⟩] scope pos) (tLc wi g tt te (own.map (·.2))) (sLc ti sg st t (own.map (·.2))) := by
  cases hi.kx
  exact ⟨rfl, pe_lc hc hN hi.pi ok (fun s H C cl fp => (hg s H C cl fp).pg) (fun s H C cl fp => (ht s H C cl fp).pt) (fun s H C cl fp => (he s H C cl fp).pe) hs,
   rf_lc hi.rf (hg X.s_0 X.H_0 0 [] []).rf (ht X.s_0 X.H_0 0 [] []).rf (he X.s_0 X.H_0 0 [] []).rf rfl⟩
end
end DL

namespace DL
open PySem L2
structure DEnds where
  nx : En → Prop
  rt : D → Prop
  ro : List D → Prop := fun _ => False
  bk : En → Prop := fun _ => False
  ct : En → Prop := fun _ => False
abbrev TDS := DEnds → En → Prop
def RfS (K : PySem.W.Frag) (rg : Rg) (ts : TS) (t : TDS) : Prop :=
  ∀ (c : Dc), c.rg = rg → ∀ (pn : Pin) (H0 : Hp) (env : En) (σ : St) (H : Hp) (Dd : DEnds) (De : Ends), Sd K c pn H0 env σ H → t Dd env →
    (∀ env' σ' H', Dd.nx env' → Sd K c pn H0 env' σ' H' → De.nx σ' H') →
    (∀ d v H', Dd.rt d → Keep (Rw c) H0 H' → c.rg.J H' → (∀ a, c.M a → H' a ≠ none) → Rp K c.M H' v d → De.rt v H') →
    (∀ ds a vs H', Dd.ro ds → H0 a = none → Keep (Rw c) H0 H' → c.rg.J H' → (∀ b, c.M b → H' b ≠ none) → ¬ c.M a → H' a = some (.lst vs) → RpAll K (fun b => c.M b ∨ b = a) H' vs ds → De.rt (.ref a) H') →
    (∀ env' σ' H', Dd.bk env' → Sd K c pn H0 env' σ' H' → De.bk σ' H') →
    (∀ env' σ' H', Dd.ct env' → Sd K c pn H0 env' σ' H' → De.ct σ' H') → ts De σ H
structure DS (X : Cx) (K : PySem.W.Frag) (rg : Rg) (st : Stmt) (ts : TS) (t : TDS) : Prop where
  kx : X.K = K
  ps : PS X st ts
  rf : RfS K rg ts t
structure DSs (X : Cx) (K : PySem.W.Frag) (rg : Rg) (st : List Stmt) (ts : TS) (t : TDS) : Prop where
  kx : X.K = K
  ps : PSs X st ts
  rf : RfS K rg ts t
section
variable {X : Cx} {K : PySem.W.Frag} {rg : Rg} {st : Stmt} {rest body els : List Stmt} {ts us : TS} {t u : TDS} {e a b : Expr} {te : TE} {x : TD} {xs : TDs} {tt : TT} {bt : TB} {pos : Pos} {i : Nat}
def sNext : TDS := fun Dd env => Dd.nx env
def sSeqS (t u : TDS) : TDS := fun Dd env => t { Dd with nx := u Dd } env
theorem dss_nil (hK : X.K = K := by rfl) : DSs X K rg [] tNext sNext := by
  cases hK
  exact ⟨rfl, pss_nil, fun c hc pn H0 env σ H Dd De S h n r ro bk ct => n _ _ _ h S⟩
theorem dss_cons (h1 : DS X K rg st ts t) (h2 : DSs X K rg rest us u) : DSs X K rg (st :: rest) (tSeq ts us) (sSeqS t u) := by
  cases h1.kx
  exact ⟨rfl, pss_cons h1.ps h2.ps, fun c hc pn H0 env σ H Dd De S h n r ro bk ct =>
  h1.rf c hc pn H0 env σ H _ _ S h (fun env' σ' H' q S' => h2.rf c hc pn H0 env' σ' H' Dd De S' q n r ro bk ct) r ro bk ct⟩
theorem dss_one (h1 : DS X K rg st ts t) : DSs X K rg [st] ts t := by
  cases h1.kx
  exact ⟨rfl, pss_one h1.ps, h1.rf⟩
def sBreak : TDS := fun Dd env => Dd.bk env
def sCont : TDS := fun Dd env => Dd.ct env
theorem ds_pass (hK : X.K = K := by rfl) : DS X K rg (.Pass pos) tNext sNext := by
  cases hK
  exact ⟨rfl, ps_pass, fun c hc pn H0 env σ H Dd De S h n r ro bk ct => n _ _ _ h S⟩
theorem ds_break (hK : X.K = K := by rfl) : DS X K rg (.Break pos) tBreak sBreak := by
  cases hK
  exact ⟨rfl, ps_break, fun c hc pn H0 env σ H Dd De S h n r ro bk ct => bk _ _ _ h S⟩
theorem ds_continue (hK : X.K = K := by rfl) : DS X K rg (.Continue pos) tCont sCont := by
  cases hK
  exact ⟨rfl, ps_continue, fun c hc pn H0 env σ H Dd De S h n r ro bk ct => ct _ _ _ h S⟩
def sNever : TDS := fun _ _ => False
theorem ds_never (hK : X.K = K := by rfl) : DS X K rg st tNever sNever := by
  cases hK
  exact ⟨rfl, ps_never, fun c hc pn H0 env σ H Dd De S h n r ro bk ct => h⟩
def sDrop (x : TD) : TDS := fun Dd env => x env fun _ => Dd.nx env
theorem ds_expr (h : DP X K rg e te x) (hs : swapsWith e none pos.line X.env = pure false := by rfl) : DS X K rg (.Expr e pos) (tDrop te) (sDrop x) := by
  cases h.kx
  exact ⟨rfl, ps_expr h.pe hs, fun c hc pn H0 env σ H Dd De S h' n r ro bk ct =>
  h.rf c hc pn H0 env σ H _ _ S h' fun d v H' q k j _ => n _ _ _ q (by subst hc; exact S.grow k j)⟩
def sRet (x : TD) : TDS := fun Dd env => x env Dd.rt
theorem RpO.out {c : Dc} {env : En} {H : Hp} {v : V} {d : D} : RpO K c.M (Mof c env) H v d → Rp K c.M H v d
  | .inl r => Rp.anti (fun _ _ _ z => .inl z) r
  | .inr ⟨a, vs, ds, e1, e2, m, e3, r⟩ => by subst e1 e2; exact .lst m e3 (RpAll.anti (fun _ _ _ z => .inl z) r)
theorem ds_ret (h : DO X K rg e te x) : DS X K rg (.Return (some e) pos) (tRet te) (sRet x) := by
  cases h.kx
  exact ⟨rfl, ps_ret h.pe, fun c hc pn H0 env σ H Dd De S h' n r ro bk ct =>
  h.rf c hc pn H0 env σ H _ _ S h' fun d v H' q k j rr => by
    subst hc
    have S' := S.grow k j
    exact r d v H' q S'.kp j S'.dom rr.out⟩
def sRetO (i : Nat) : TDS := fun Dd env => match env[i]? with | some (some (.own _ ds)) => Dd.ro ds | _ => False
theorem ds_retO {nm : Expr} (h : PE X nm (tVar i)) (hK : X.K = K := by rfl) : DS X K rg (.Return (some nm) pos) (tRet (tVar i)) (sRetO i) := by
  cases hK
  exact ⟨rfl, ps_ret h, fun c hc pn H0 env σ H Dd De S h' n r ro bk ct => by
    unfold sRetO at h'
    split at h'
    · rename_i a ds he
      obtain ⟨v, hv, rfl, h0, hm, vs, hl, ra⟩ := S.sl i _ he
      exact ⟨_, hv, ro ds a vs H h' h0 S.kp S.j S.dom hm hl (RpAll.anti (fun b _ _ z => z.elim .inl fun z => .inr ⟨i, _, he, by rw [z]; rfl⟩) ra)⟩
    · exact h'.elim⟩
def sRetN : TDS := fun Dd _ => Dd.rt .non
theorem ds_retN (hK : X.K = K := by rfl) : DS X K rg (.Return none pos) tRetN sRetN := by
  cases hK
  exact ⟨rfl, ps_retN, fun c hc pn H0 env σ H Dd De S h' n r ro bk ct => r .non .non H h' S.kp S.j S.dom .non⟩
def sIfS (b : TB) (t u : TDS) : TDS := fun Dd env => b env fun k => if k = true then t Dd env else u Dd env
theorem ds_if {cnd : Expr} (hc : DT X K rg cnd tt bt) (h1 : DSs X K rg body ts t) (h2 : DSs X K rg els us u) : DS X K rg (.If cnd body els pos) (tIfS tt ts us) (sIfS bt t u) := by
  cases hc.kx
  exact ⟨rfl, ps_if hc.pt h1.ps h2.ps, fun c hcc pn H0 env σ H Dd De S h n r ro bk ct => by
  refine hc.rf c hcc pn H0 env σ H _ _ S h fun k H1 q1 k1 j1 => ?_
  have S1 : Sd X.K c pn H0 env σ H1 := by subst hcc; exact S.grow k1 j1
  cases k with
  | true => rw [if_pos rfl] at q1 ⊢; exact h1.rf c hcc pn H0 env σ H1 Dd De S1 q1 n r ro bk ct
  | false => rw [if_neg Bool.false_ne_true] at q1 ⊢; exact h2.rf c hcc pn H0 env σ H1 Dd De S1 q1 n r ro bk ct⟩
/-- name = e -/
def sSet (i : Nat) (x : TD) : TDS := fun Dd env => x env fun d => i < env.length ∧ Dd.nx (env.set i (some (.dat d)))
theorem ds_set (hp : PS X st (tAsg te (gName i))) (he : Rf K rg te x) (hK : X.K = K := by rfl) : DS X K rg st (tAsg te (gName i)) (sSet i x) := by
  cases hK
  exact ⟨rfl, hp, fun c hc pn H0 env σ H Dd De S h n r ro bk ct =>
  he c hc pn H0 env σ H _ _ S h fun d v H' q k j rr => n _ _ _ q.2 (by subst hc; exact (S.grow k j).setD i q.1 rr)⟩
/-- name = a new list -/
def sSetO (i : Nat) (x : TDs) : TDS := fun Dd env => x env fun ds => i < env.length ∧ ∀ a, Dd.nx (env.set i (some (.own a ds)))
theorem ds_setO (hp : PS X st (tAsg te (gName i))) (he : RfF K rg te xs) (hK : X.K = K := by rfl) : DS X K rg st (tAsg te (gName i)) (sSetO i xs) := by
  cases hK
  exact ⟨rfl, hp, fun c hc pn H0 env σ H Dd De S h n r ro bk ct =>
  he c hc pn H0 env σ H _ _ S h fun ds a vs H' q ha k j hl rr => n _ _ _ (q.2 a) (by subst hc; exact S.setO i q.1 ha k j hl rr)⟩
/-- target = e -/
def sAsg (x : TD) (sg : SG) : TDS := fun Dd env => x env fun d => sg d env Dd.nx
theorem ds_asg {tg : Expr} {g : TG} {sg : SG} {vs : List Nat} (he : DP X K rg e te x) (hg : DG X K rg tg g sg vs) (hs : swapsWithSole [tg] e pos.line X.env = pure false := by rfl) (hw : swappedStores [tg] e X.env = pure none := by rfl)
    (h1 : (assignEach [tg] X.env).map (·.2) = [assign tg X.env] := by rfl) : DS X K rg (.Assign [tg] e pos) (tAsg te g) (sAsg x sg) := by
  cases he.kx
  exact ⟨rfl, ps_asg he.pe hg.pg hs hw h1, fun c hc pn H0 env σ H Dd De S h n r ro bk ct =>
  he.rf c hc pn H0 env σ H _ _ S h fun d v H' q k j rr => by
    have S1 : Sd X.K c pn H0 env σ H' := by subst hc; exact S.grow k j
    exact hg.rf c hc pn H0 env σ H' v d _ _ S1 rr q fun env' σ' q' S' _ _ => n _ _ _ q' S'⟩
/-- name += e, ints -/
def sAugI (i : Nat) (f : F2) (x : TD) : TDS := fun Dd env => match env[i]? with | some (some (.dat d)) => x env fun e => f d e fun z => Dd.nx (env.set i (some (.dat z))) | _ => False
theorem ds_augI {f : Int → Int → Int} (hp : PS X st (tAug i te (ipI f))) (he : Rf K rg te x) (hK : X.K = K := by rfl) : DS X K rg st (tAug i te (ipI f)) (sAugI i (fInt0 f) x) := by
  cases hK
  exact ⟨rfl, hp, fun c hc pn H0 env σ H Dd De S h n r ro bk ct => by
  unfold sAugI at h
  split at h
  · rename_i d hd
    obtain ⟨v, hv, rv⟩ := S.sl i _ hd
    refine ⟨v, hv, he c hc pn H0 env σ H _ _ S h fun d2 v2 H' q k j rr => ?_⟩
    have S1 : Sd X.K c pn H0 env σ H' := by subst hc; exact S.grow k j
    cases d with
    | int m =>
      cases d2 with
      | int m2 =>
        cases rv
        cases rr
        exact ⟨m, m2, rfl, rfl, n _ _ _ q (S1.setD i (List.getElem?_eq_some_iff.mp hd).1 (.int _))⟩
      | _ => exact q.elim
    | _ => exact q.elim
  · exact h.elim⟩
/-! ### for, while -/
def sFor (ti : TDs) (sg : SG) (tb : TDS) : TDS := fun Dd env => ti env fun xs => ∃ I : Nat → En → Prop, I 0 env ∧
  (∀ i x env', xs[i]? = some x → I i env' → sg x env' fun env2 => tb { Dd with nx := I (i + 1), ct := I (i + 1), bk := Dd.nx } env2) ∧ ∀ env', I xs.length env' → Dd.nx env'
theorem rf_for {wi : TI} {g : TG} {sg : SG} {ti : TDs} {vs : List Nat} (hi : RfI K rg false wi ti) (hg : RfG K rg g sg vs) (hb : RfS K rg ts t) : RfS K rg (tFor wi g ts) (sFor ti sg t) := fun c hc pn H0 env σ H Dd De S h n r ro bk ct => by
  refine hi c hc pn H0 env σ H _ _ S h fun xs J G Y H1 q1 k1 j1 W hG hY => ?_
  obtain ⟨I, i0, turn, fin⟩ := q1
  have S1 : Sd K c pn H0 env σ H1 := by subst hc; exact S.grow k1 j1
  let pn' : Pin := fun M H => pn M H ∧ (∀ b o, H1 b = some o → M b → Mof c env b) ∧ Keep (Mof c env) H1 H
  have pk' : PinOk pn' := fun M G M' G' ⟨p1, p2, p3⟩ k m => by
    refine ⟨S.pk _ _ _ _ p1 k m, fun b o e z => ?_, fun b o e z => ?_⟩
    · by_cases hb : Mof c env b
      · exact hb
      · exact p2 b o e (m b o (p3 b o e hb) z)
    · exact k b o (p3 b o e z) fun zm => z (p2 b o e zm)
  have out : ∀ {env' σ' H'}, Sd K c pn' H0 env' σ' H' → Sd K c pn H0 env' σ' H' := fun S' => ⟨S'.ok, S'.len, S'.sl, S'.j, S'.kp, S'.dom, S'.apart, S.pk, S'.pn.1⟩
  have S1' : Sd K c pn' H0 env σ H1 := ⟨S1.ok, S1.len, S1.sl, S1.j, S1.kp, S1.dom, S1.apart, pk', S1.pn, fun _ _ _ z => z, Keep.refl⟩
  refine for_it W (fun i σ' H' => ∃ env', I i env' ∧ Sd K c pn' H0 env' σ' H') ⟨env, i0, S1'⟩ (fun i σ' H' _ ⟨_, _, S'⟩ => hG H' S'.pn.2.2) ?_ ?_
  · rintro i x σ5 H5 H6 hlt ⟨env5, hI, S5⟩ y
    obtain ⟨d, hd, s6, rd⟩ := hY (Mof c env5) i H5 x H6 hlt S5.pn.2.2 S5.pn.2.2 S5.pn.2.1 S5.domM y
    have S6 := S5.same s6
    refine hg c hc pn' H0 env5 σ5 H6 x d _ _ S6 rd (turn i d env5 hd hI) fun env7 σ7 q7 S7 _ _ => ?_
    exact hb c hc pn' H0 env7 σ7 H6 _ _ S7 q7 (fun env' σ' H' q S' => ⟨env', q, S'⟩) r ro (fun env' σ' H' q S' => n env' σ' H' q (out S')) (fun env' σ' H' q S' => ⟨env', q, S'⟩)
  · rintro σ5 H5 ⟨env5, hI, S5⟩
    exact n env5 σ5 H5 (fin env5 hI) (out S5)
end
end DL

namespace DL
open PySem L2 PySem.Spec PyProof.Rows
section
variable {X : Cx} {K : PySem.W.Frag} {rg : Rg} {st : Stmt} {rest body els : List Stmt} {ts us : TS} {t u : TDS} {e a b : Expr} {es : List Expr} {te : TE} {ta : TA} {x : TD} {xs : TDs} {tt : TT} {bt : TB} {pos : Pos} {i j : Nat}
/-! ### while -/
def sWhile (b : TB) (t : TDS) : TDS := fun Dd env => ∃ I : Nat → En → Prop, (∃ m, I m env) ∧ ∀ m env', I m env' → b env' fun k => if k = true then t { Dd with nx := fun e => ∃ m', m' < m ∧ I m' e, ct := fun e => ∃ m', m' < m ∧ I m' e, bk := Dd.nx } env' else Dd.nx env'
theorem rf_while (hc : RfT K rg tt bt) (hb : RfS K rg ts t) : RfS K rg (tWhile tt ts) (sWhile bt t) := fun c hcc pn H0 env σ H Dd De S h n r ro bk ct => by
  obtain ⟨I, ⟨m0, i0⟩, turn⟩ := h
  refine ⟨fun m σ' H' => ∃ env', I m env' ∧ Sd K c pn H0 env' σ' H', ⟨m0, env, i0, S⟩, ?_⟩
  rintro m σ1 H1 ⟨env1, hI, S1⟩
  refine hc c hcc pn H0 env1 σ1 H1 _ _ S1 (turn m env1 hI) fun k H2 q2 k2 j2 => ?_
  have S2 : Sd K c pn H0 env1 σ1 H2 := by subst hcc; exact S1.grow k2 j2
  cases k with
  | true =>
    rw [if_pos rfl] at q2 ⊢
    refine ⟨fun σ' H' => ∃ m' env', m' < m ∧ I m' env' ∧ Sd K c pn H0 env' σ' H', fun σ' H' ⟨m', env', hm, hi, S'⟩ => ⟨m', hm, env', hi, S'⟩, ?_⟩
    exact hb c hcc pn H0 env1 σ1 H2 _ _ S2 q2 (fun env' σ' H' ⟨m', hm, hi⟩ S' => ⟨m', env', hm, hi, S'⟩) r ro n (fun env' σ' H' ⟨m', hm, hi⟩ S' => ⟨m', env', hm, hi, S'⟩)
  | false =>
    rw [if_neg Bool.false_ne_true] at q2 ⊢
    exact n _ _ _ q2 S2
theorem ds_while {cnd : Expr} (hp : PassesOwn (model X.prog X.w) X.A X.env X.xe) (hc : DT X K rg cnd tt bt) (hb : DSs X K rg body ts t) : DS X K rg (.While cnd body [] pos) (tWhile tt ts) (sWhile bt t) := by
  cases hc.kx
  exact ⟨rfl, ps_while hp hc.pt hb.ps, rf_while hc.rf hb.rf⟩
theorem ds_for {tg iter : Expr} {wi : TI} {g : TG} {sg : SG} {ti : TDs} {vs : List Nat} (hp : PassesOwn (model X.prog X.w) X.A X.env X.xe) (hc : X.calm = true) (hi : DI X K rg false tg iter wi ti) (hg : DG X K rg tg g sg vs) (hb : DSs X K rg body ts t)
    (hs : ∀ x, foldedSetIterable iter X.env x = pure x := by intro _; rfl) : DS X K rg (.For tg iter body [] pos) (tFor wi g ts) (sFor ti sg t) := by
  cases hi.kx
  exact ⟨rfl, ps_for hp hc hi.pi hg.pg hb.ps hs, rf_for hi.rf hg.rf hb.rf⟩
/-! ### lists of one's own -/
theorem Sd.ownAt {c : Dc} {pn : Pin} {H0 : Hp} {env : En} {σ : L2.St} {H : Hp} {i : Nat} {p : Addr} {ds : List D} (S : Sd K c pn H0 env σ H) (h : env[i]? = some (some (.own p ds))) : σ[i]? = some (some (.ref p)) ∧ ∃ vs, H p = some (.lst vs) ∧ RpAll K (Mof c env) H vs ds := by
  obtain ⟨v, hv, rfl, _, _, vs, h4, h5⟩ := S.sl i _ h
  exact ⟨hv, vs, h4, h5⟩
def sApp (i : Nat) (x : TD) : TDS := fun Dd env => match env[i]? with | some (some (.own p ds)) => x env fun d => ds.length < sizeLine ∧ Dd.nx (env.set i (some (.own p (ds ++ [d])))) | _ => False
theorem rf_app (he : Rf K rg te x) : RfS K rg (tDrop (tBM K "list" rAppend (tVar i) (tCons te tNil))) (sApp i x) := fun c hc pn H0 env σ H Dd De S h n r ro bk ct => by
  unfold sApp at h
  split at h
  · rename_i p ds hi
    obtain ⟨hv, vs, hl, _⟩ := S.ownAt hi
    refine ⟨_, hv, .inl ⟨rfl, vs, SqL.of hl⟩, he c hc pn H0 env σ H _ _ S h fun d v H' q k j rr => ?_⟩
    have S1 : Sd K c pn H0 env σ H' := by subst hc; exact S.grow k j
    obtain ⟨_, ws, hl', ra⟩ := S1.ownAt hi
    refine ⟨p, ws, v, rfl, rfl, hl', by rw [RpAll.length ra]; exact q.1, ?_⟩
    exact n _ _ _ q.2 (S1.updO hi (RpAll.append ra (.cons rr .nil)))
  · exact h.elim
theorem ds_app (hp : PS X st (tDrop (tBM K "list" rAppend (tVar i) (tCons te tNil)))) (he : Rf K rg te x) (hK : X.K = K := by rfl) : DS X K rg st (tDrop (tBM K "list" rAppend (tVar i) (tCons te tNil))) (sApp i x) := by
  cases hK
  exact ⟨rfl, hp, rf_app he⟩
/-- x.append(y.pop(e)) -/
def sAppPop (i j : Nat) (x : TD) : TDS := fun Dd env => match env[i]?, env[j]? with
  | some (some (.own p ds)), some (some (.own q es)) => i ≠ j ∧ x env fun d => match d with
    | .int z => 0 ≤ z ∧ z < es.length ∧ ds.length < sizeLine ∧ z < 2 ^ 63 ∧ ∀ y, es[z.toNat]? = some y → Dd.nx ((env.set j (some (.own q (es.eraseIdx z.toNat)))).set i (some (.own p (ds ++ [y]))))
    | _ => False
  | _, _ => False
theorem rf_appPop (he : Rf K rg te x) : RfS K rg (tDrop (tBM K "list" rAppend (tVar i) (tCons (tBM K "list" rPopAt (tVar j) (tCons te tNil)) tNil))) (sAppPop i j x) := fun c hc pn H0 env σ H Dd De S h n r ro bk ct => by
  unfold sAppPop at h
  split at h
  · rename_i p ds q es hi hj
    obtain ⟨hij, h⟩ := h
    obtain ⟨hv, vs, hl, _⟩ := S.ownAt hi
    obtain ⟨hw, ws, hm, _⟩ := S.ownAt hj
    refine ⟨_, hv, .inl ⟨rfl, vs, SqL.of hl⟩, _, hw, .inl ⟨rfl, ws, SqL.of hm⟩, he c hc pn H0 env σ H _ _ S h fun d v H' qq k jj rr => ?_⟩
    have S1 : Sd K c pn H0 env σ H' := by subst hc; exact S.grow k jj
    cases d with
    | int z =>
      cases rr
      obtain ⟨q1, q2, q3, q5, q4⟩ := qq
      obtain ⟨_, vs1, hl1, ra1⟩ := S1.ownAt hi
      obtain ⟨_, ws1, hm1, rb1⟩ := S1.ownAt hj
      have lw : ws1.length = es.length := RpAll.length rb1
      have hk : seqIndex? z ws1.length = some z.toNat := PySem.StrLaws.seqIndex_nonneg q1 (by rw [lw]; exact q2)
      have hlt : z.toNat < es.length := by omega
      obtain ⟨y, hy, ry⟩ := RpAll.get' rb1 (List.getElem?_eq_getElem hlt)
      refine ⟨q, ws1, z, z.toNat, _, rfl, rfl, hm1, by omega, q5, hk, hy, ?_⟩
      have S2 := S1.updO hj (RpAll.eraseIdx z.toNat rb1)
      have hi2 : (env.set j (some (.own q (es.eraseIdx z.toNat))))[i]? = some (some (.own p ds)) := by
        rw [List.getElem?_set_ne (Ne.symm hij)]; exact hi
      obtain ⟨_, vs2, hl2, ra2⟩ := S2.ownAt hi2
      have ry2 : Rp K (Mof c (env.set j (some (.own q (es.eraseIdx z.toNat))))) (upd H' q (.lst (ws1.eraseIdx z.toNat))) y (es[z.toNat]'hlt) := by
        have Mq : Mof c env q := .inr ⟨j, _, hj, rfl⟩
        refine Rp.anti (fun b o _ z' => ?_) (Rp.keep (M := Mof c env) (fun b o e m => by rw [upd_ne (fun z' => m (by rw [z']; exact Mq))]; exact e) ry)
        rcases z' with z' | ⟨k, s, e1, e2⟩
        · exact .inl z'
        · by_cases hjk : j = k
          · subst hjk
            rw [List.getElem?_set_self (List.getElem?_eq_some_iff.mp hj).1] at e1
            cases e1; cases e2
            exact Mq
          · rw [List.getElem?_set_ne hjk] at e1
            exact .inr ⟨k, s, e1, e2⟩
      refine ⟨p, vs2, y, rfl, rfl, hl2, by rw [RpAll.length ra2]; exact q3, ?_⟩
      exact n _ _ _ (q4 _ (List.getElem?_eq_getElem hlt)) (S2.updO hi2 (RpAll.append ra2 (.cons ry2 .nil)))
    | _ => exact qq.elim
  · exact h.elim
theorem ds_appPop (hp : PS X st (tDrop (tBM K "list" rAppend (tVar i) (tCons (tBM K "list" rPopAt (tVar j) (tCons te tNil)) tNil)))) (he : Rf K rg te x) (hK : X.K = K := by rfl) : DS X K rg st (tDrop (tBM K "list" rAppend (tVar i) (tCons (tBM K "list" rPopAt (tVar j) (tCons te tNil)) tNil))) (sAppPop i j x) := by
  cases hK
  exact ⟨rfl, hp, rf_appPop he⟩
/-- x.extend(e) -/
def sExt (i : Nat) (x : TD) : TDS := fun Dd env => match env[i]? with | some (some (.own p ds)) => x env fun d => (match d with | .lst es => ds.length + es.length ≤ sizeLine ∧ Dd.nx (env.set i (some (.own p (ds ++ es)))) | _ => False) | _ => False
theorem rf_ext (he : Rf K rg te x) : RfS K rg (tDrop (tBM K "list" rExtend (tVar i) (tCons te tNil))) (sExt i x) := fun c hc pn H0 env σ H Dd De S h n r ro bk ct => by
  unfold sExt at h
  split at h
  · rename_i p ds hi
    obtain ⟨hv, vs, hl, _⟩ := S.ownAt hi
    refine ⟨_, hv, .inl ⟨rfl, vs, SqL.of hl⟩, he c hc pn H0 env σ H _ _ S h fun d v H' q k j rr => ?_⟩
    have S1 : Sd K c pn H0 env σ H' := by subst hc; exact S.grow k j
    obtain ⟨_, ws, hl', ra⟩ := S1.ownAt hi
    cases d with
    | lst es =>
      cases rr with
      | lst m e2 aa =>
        refine ⟨p, _, ws, _, rfl, rfl, hl', e2, by rw [RpAll.length ra, RpAll.length aa]; exact q.1, ?_⟩
        exact n _ _ _ q.2 (S1.updO hi (RpAll.append ra aa))
    | _ => exact q.elim
  · exact h.elim
theorem ds_ext (hp : PS X st (tDrop (tBM K "list" rExtend (tVar i) (tCons te tNil)))) (he : Rf K rg te x) (hK : X.K = K := by rfl) : DS X K rg st (tDrop (tBM K "list" rExtend (tVar i) (tCons te tNil))) (sExt i x) := by
  cases hK
  exact ⟨rfl, hp, rf_ext he⟩
/-! ### calls of defs of one's own -/
abbrev Tf := Rg → FL
/-- a def's promise, told of data -/
def spD (K : PySem.W.Frag) (n : Nat) (tf : Tf) : Sp := fun vs H Q _ => ∃ (c : Dc) (ds : List D) (Qd : D → Prop), c.Ok ∧ c.P = none ∧ RpAll K c.M H vs ds ∧ c.rg.J H ∧ (∀ a, c.M a → H a ≠ none) ∧ vs.length = n ∧ tf c.rg ds Qd ∧
  ∀ v d H', Qd d → Keep c.rg.R H H' → c.rg.J H' → Rp K c.M H' v d → Q v H'
theorem spD_len {n : Nat} {tf : Tf} : ∀ vs H Q E, spD K n tf vs H Q E → vs.length = n := fun vs H Q E ⟨_, _, _, _, _, _, _, _, h, _⟩ => h
def sCallD (n : Nat) (tf : Tf) (rg : Rg) (xs : TDs) : TD := fun env Q => xs env fun ds => ds.length = n ∧ tf rg ds Q
theorem rf_call {n : Nat} {tf : Tf} {E : XK} (h : RfA K rg ta xs) : Rf K rg (tCall (spD K n tf) [] E ta) (sCallD n tf rg xs) := fun c hc pn H0 env σ H Qd Q S ht k => by
  refine h c hc pn H0 env σ H _ _ S ht fun ds vs H1 q1 k1 j1 r1 => ?_
  subst hc
  have S1 := S.grow k1 j1
  refine ⟨⟨Mof c env, none, c.rg⟩, ds, Qd, ⟨fun a z => Mof.of_R S.ok z, S.ok.rg, fun a z => by cases z⟩, rfl, by rw [List.append_nil]; exact r1, j1, S1.domM, by rw [List.append_nil, RpAll.length r1]; exact q1.1, q1.2, fun v d H' q k' j' r' => ?_⟩
  exact k d v H' q (k1.trans k') j' r'
theorem d_call {CX : CXT} {lv : Nat} {f : Addr} {fd : FuncData} {ps : List Str} {n : Nat} {tf : Tf} {nm : Str} {p : Pos} {E : XK} (F : FnOk X.prog X.w K X.mg X.base CX lv f fd ps (spD K n tf)) (hr : Room lv X.A) (hg : Gl X nm) (hm : X.mg nm = some (.ref f)) (hk : PySem.W.keepIn K (.ref f) = true) (hb : Binds K fd ps []) (hx : Passes CX X E)
    (ha : DA X K rg (e :: es) ta xs) (hdb : (nm == ("__debug__" : Str)) = false := by decide) (he : starEach (e :: es) X.env = (false, eval e X.env) :: starEach es X.env := by rfl) (hpl : (backTo pos (starEach es X.env)).any (·.1) = false := by rfl) :
    DP X K rg (.Call (.Name nm p) (e :: es) [] pos) (tCall (spD K n tf) [] E ta) (sCallD n tf rg xs) := by
  cases ha.kx
  exact ⟨rfl, pe_call F hr hg hm hk hb .nil hx ha.pa hdb he hpl, rf_call ha.rf⟩
/-! .. lists of one's own may be handed in, where no list comes back -/
mutual
def noL : D → Bool
  | .lst _ => false
  | .obj _ _ _ => false
  | .dct _ _ => false
  | .scr _ => false
  | .tup ds => noLs ds
  | .non => true
  | .bl _ => true
  | .int _ => true
  | .str _ => true
  | .raw _ => true
def noLs : List D → Bool
  | [] => true
  | d :: ds => noL d && noLs ds
end
mutual
theorem Rp.noL {M M' : Addr → Prop} {H : Hp} (hm : ∀ a xs, H a = some (.tup xs) → M' a → M a) : ∀ {v : V} {d : D}, Rp K M H v d → DL.noL d = true → Rp K M' H v d
  | _, _, .non, _ => .non
  | _, _, .bl b, _ => .bl b
  | _, _, .int b, _ => .int b
  | _, _, .str b, _ => .str b
  | _, _, .raw b, _ => .raw b
  | _, _, .scr m r, h => by simp [DL.noL] at h
  | _, _, .scrK r, h => by simp [DL.noL] at h
  | _, _, .lst m r a, h => by simp [DL.noL] at h
  | _, _, .tup m r a, h => .tup (fun z => m (hm _ _ r z)) r (RpAll.noL hm a (by simpa [DL.noL] using h))
  | _, _, .tupK r a, h => .tupK r (RpAll.noL hm a (by simpa [DL.noL] using h))
  | _, _, .obj m r e a, h => by simp [DL.noL] at h
  | _, _, .dct m r e a, h => by simp [DL.noL] at h
theorem RpAll.noL {M M' : Addr → Prop} {H : Hp} (hm : ∀ a xs, H a = some (.tup xs) → M' a → M a) : ∀ {vs : List V} {ds : List D}, RpAll K M H vs ds → noLs ds = true → RpAll K M' H vs ds
  | _, _, .nil, _ => .nil
  | _, _, .cons a b, h => by
    simp only [noLs, Bool.and_eq_true] at h
    exact .cons (Rp.noL hm a h.1) (RpAll.noL hm b h.2)
end
theorem RpOs.out {c : Dc} {env : En} {H : Hp} {vs : List V} {ds : List D} (r : RpOs K c.M (Mof c env) H vs ds) : RpAll K c.M H vs ds := by
  induction r with
  | nil => exact .nil
  | cons a _ ih => exact .cons a.out ih
theorem Sd.tupFree {c : Dc} {pn : Pin} {H0 : Hp} {env : En} {σ : L2.St} {H : Hp} (S : Sd K c pn H0 env σ H) : ∀ a ys, H a = some (.tup ys) → Mof c env a → c.M a := fun a ys e z => by
  rcases z with z | ⟨i, s, h1, h2⟩
  · exact z
  · obtain ⟨v, _, q⟩ := S.sl i s h1
    cases s with
    | dat d => cases h2
    | own b ds =>
      cases h2
      obtain ⟨_, _, _, vs, hb, _⟩ := q
      rw [hb] at e; cases e
    | ownD b kz ds =>
      cases h2
      obtain ⟨_, _, _, vs, hb, _⟩ := q
      rw [hb] at e; cases e
    | self b C ns ds =>
      cases h2
      obtain ⟨_, _, dx, vs, hb, _⟩ := q
      rw [hb] at e; cases e
def sCallO (n : Nat) (tf : Tf) (rg : Rg) (xs : TDs) : TD := fun env Q => xs env fun ds => ds.length = n ∧ tf rg ds fun d => noL d = true ∧ Q d
theorem rf_callO {n : Nat} {tf : Tf} {E : XK} (h : RfAO K rg ta xs) : Rf K rg (tCall (spD K n tf) [] E ta) (sCallO n tf rg xs) := fun c hc pn H0 env σ H Qd Q S ht k => by
  refine h c hc pn H0 env σ H _ _ S ht fun ds vs H1 q1 k1 j1 r1 => ?_
  subst hc
  have S1 := S.grow k1 j1
  have ra := r1.out
  refine ⟨⟨c.M, none, c.rg⟩, ds, fun d => noL d = true ∧ Qd d, ⟨S.ok.sub, S.ok.rg, fun a z => by cases z⟩, rfl, by rw [List.append_nil]; exact ra, j1, S1.dom, by rw [List.append_nil, RpAll.length ra]; exact q1.1, q1.2, fun v d H' q k' j' r' => ?_⟩
  exact k d v H' q.2 (k1.trans k') j' (Rp.noL (S1.grow k' j').tupFree r' q.1)
theorem d_callO {CX : CXT} {lv : Nat} {f : Addr} {fd : FuncData} {ps : List Str} {n : Nat} {tf : Tf} {nm : Str} {p : Pos} {E : XK} (F : FnOk X.prog X.w K X.mg X.base CX lv f fd ps (spD K n tf)) (hr : Room lv X.A) (hg : Gl X nm) (hm : X.mg nm = some (.ref f)) (hk : PySem.W.keepIn K (.ref f) = true) (hb : Binds K fd ps []) (hx : Passes CX X E)
    (ha : DAO X K rg (e :: es) ta xs) (hdb : (nm == ("__debug__" : Str)) = false := by decide) (he : starEach (e :: es) X.env = (false, eval e X.env) :: starEach es X.env := by rfl) (hpl : (backTo pos (starEach es X.env)).any (·.1) = false := by rfl) :
    DP X K rg (.Call (.Name nm p) (e :: es) [] pos) (tCall (spD K n tf) [] E ta) (sCallO n tf rg xs) := by
  cases ha.kx
  exact ⟨rfl, pe_call F hr hg hm hk hb .nil hx ha.pa hdb he hpl, rf_callO ha.rf⟩
end
/-! ### a def by its body -/
def startE (n : Nat) (ds : List D) : En := ds.map (fun d => some (.dat d)) ++ List.replicate (n - ds.length) none
section
variable {P : Program} {w : World} {K : PySem.W.Frag} {mg : Str → Option Value} {base : Heap}
theorem sd_start {c : Dc} {H : Hp} {vs : List V} {ds : List D} {N : List Str} (ok : c.Ok) (hP : c.P = none) (r : RpAll K c.M H vs ds) (j : c.rg.J H) (dom : ∀ a, c.M a → H a ≠ none) : Sd K c (fun _ _ => True) H (startE N.length ds) (L2.start N vs) H := by
  have hl := RpAll.length r
  have noat : ∀ (i : Nat) (s : Sl), (startE N.length ds)[i]? = some (some s) → ∃ d, s = .dat d ∧ ds[i]? = some d := fun i s e => by
    unfold startE at e
    by_cases hi : i < ds.length
    · rw [List.getElem?_append_left (by simpa using hi), List.getElem?_map, List.getElem?_eq_getElem hi] at e
      cases e
      exact ⟨_, rfl, List.getElem?_eq_getElem hi⟩
    · rw [List.getElem?_append_right (by simpa using hi), List.getElem?_replicate] at e
      split at e <;> cases e
  have mof : ∀ a, Mof c (startE N.length ds) a → c.M a := fun a z => by
    rcases z with z | ⟨i, s, h1, h2⟩
    · exact z
    · obtain ⟨d, rfl, _⟩ := noat i s h1; cases h2
  refine ⟨ok, by unfold startE L2.start; simp [hl], fun i s e => ?_, j, Keep.refl, dom, fun i j s t a e1 _ e3 _ => ?_, fun _ _ _ _ _ _ _ => trivial, trivial⟩
  · obtain ⟨d, rfl, hd⟩ := noat i s e
    obtain ⟨v, hv, rv⟩ := RpAll.get' r hd
    refine ⟨v, ?_, Rp.anti (fun a _ _ z => mof a z) rv⟩
    unfold L2.start
    rw [List.getElem?_append_left (by simpa using (List.getElem?_eq_some_iff.mp hv).1), List.getElem?_map, hv]
    rfl
  · obtain ⟨d, rfl, _⟩ := noat i s e1; cases e3
/-- THE RULE for a def whose promise is told of data -/
theorem fn_D {x qual : Str} {st : Stmt} {f : Addr} {fd : FuncData} {N ps : List Str} {k n : Nat} {tf : Tf} (F : Fun K x qual st f fd) (S : FnScope N ps (defScope st)) (hn : ps.length = n)
    (hbody : ∀ (rg : Rg) (cdv : Value) (A : Around) (outer : List Env) (s : Shared) (H : Hp) (E : XK), Room k (A.deeper (envOfC qual (defScope st) s.heap.objs.size f cdv)) →
      ∃ ts t, DSs (cxOf CX0 P w K mg base N qual (defScope st) f cdv A outer s H E).nox K rg (defBody st) ts t ∧ ∀ ds Qd, tf rg ds Qd → ds.length = n → t { nx := fun _ => Qd .non, rt := Qd } (startE N.length ds)) :
    FnOk P w K mg base CX0 (k + 1) f fd ps (spD K n tf) := by
  refine F.ok S (fun vs H Q E h => by rw [hn]; exact spD_len vs H Q E h) (fun cdv A outer s H vs Q E hr h => ?_)
  obtain ⟨c, ds, Qd, ok, hP, r, j, dom, hl, ht, out⟩ := h
  obtain ⟨ts, t, hd, hs⟩ := hbody c.rg cdv A outer s H E hr
  refine ⟨ts, hd.ps, ?_⟩
  have rw0 : ∀ a, Rw c a → c.rg.R a := fun a z => z.elim id fun e => by rw [hP] at e; cases e
  refine hd.rf c rfl _ H _ _ H _ _ (sd_start ok hP r j dom) (hs ds Qd ht (by rw [← RpAll.length r]; exact hl)) (fun env' σ' H' q S' => ?_) (fun d v H' q kk jj dd rr => ?_) (fun _ _ _ _ q => q.elim) (fun _ _ _ q _ => q.elim) (fun _ _ _ q _ => q.elim)
  · exact out .non .non H' q (S'.kp.mono rw0) S'.j .non
  · exact out v d H' q (kk.mono rw0) jj rr
end
end DL

namespace DL
open PySem L2
/-! ### comprehensions of two clauses -/
theorem walk_any {J : It} {n : Nat} {G : Hp → Prop} {Y : Nat → Hp → V → Hp → Prop} (w : Walk J n G Y) {B : (Hp → Prop) → V → Hp → Prop} {H1 : Hp} {Qd : Hp → Prop} (Pv : Nat → Hp → Prop) (h0 : Pv 0 H1) (hG : ∀ i H, i ≤ n → Pv i H → G H)
    (hs : ∀ i x H H', i < n → Pv i H → Y i H x H' → B (Pv (i + 1)) x H') (hd : ∀ H, Pv n H → Qd H) :
    ∃ W : Nat → Nat → Hp → Prop, (∃ m, W 0 m H1) ∧ ∀ i m H, W i m H → (J.stop i H ∧ Qd H) ∨ (J.go i H ∧ ∃ Nx : Hp → Prop, (∀ H', Nx H' → ∃ m', m' < m ∧ W (i + 1) m' H') ∧ ∀ x H', J.yld i H x H' → B Nx x H') := by
  refine ⟨fun i m H => m = n - i ∧ i ≤ n ∧ Pv i H, ⟨n, by simp, Nat.zero_le _, h0⟩, ?_⟩
  rintro i m H ⟨rfl, hi, p⟩
  have q := hG i H hi p
  by_cases hlt : i < n
  · exact .inr ⟨w.goes i H hlt q, Pv (i + 1), fun H' p' => ⟨n - (i + 1), by omega, rfl, hlt, p'⟩, fun x H' y => hs i x H H' hlt p (w.yields i H x H' hlt q y)⟩
  · have e : i = n := by omega
    subst e
    exact .inl ⟨w.stops H q, hd H p⟩
def sLc2 (ti : TDs) (sg : SG) (st : TB) (ti1 : TDs) (sg1 : SG) (st1 : TB) (t : TD) (vs vs1 : List Nat) : TDs := fun env Q => ownFree env vs = true ∧ ti env fun xs => ∃ I : Nat → List D → Prop, I 0 [] ∧
  (∀ i x acc, xs[i]? = some x → I i acc → sg x (wipeE env vs) fun env2 => st env2 fun b => if b = true then (ownFree env2 vs1 = true ∧ ti1 env2 fun ys => ∃ I1 : Nat → List D → Prop, I1 0 acc ∧
    (∀ j y acc1, ys[j]? = some y → I1 j acc1 → sg1 y (wipeE env2 vs1) fun env3 => st1 env3 fun b1 => if b1 = true then t env3 fun z => acc1.length < sizeLine ∧ I1 (j + 1) (acc1 ++ [z]) else I1 (j + 1) acc1) ∧ ∀ acc1, I1 ys.length acc1 → I (i + 1) acc1) else I (i + 1) acc) ∧
  ∀ acc, I xs.length acc → Q acc
section
variable {X : Cx} {K : PySem.W.Frag} {rg : Rg} {wi wi1 : TI} {g g1 : TG} {tt tt1 : TT} {te : TE} {ti ti1 : TDs} {sg sg1 : SG} {st st1 : TB} {t : TD} {vs vs1 : List Nat}
/-- one turn's heap: D' holds what is made so far -/
structure LcAt (K : PySem.W.Frag) (c : Dc) (pn : Pin) (H0 : Hp) (env : En) (D' : Addr) (H1 : Hp) (envB : En) (σB : L2.St) (acc : List D) (H : Hp) : Prop where
  ws : ∃ ws, H D' = some (.lst ws) ∧ RpAll K (fun b => Mof c env b ∨ b = D') H ws acc
  kp : Keep c.rg.R H1 H
  sd : Sd K (c.with D') pn H0 envB σB H
theorem LcAt.grow {c : Dc} {pn : Pin} {H0 : Hp} {env : En} {D' : Addr} {H1 : Hp} {envB envC : En} {σB σC : L2.St} {acc : List D} {H H' : Hp} (L : LcAt K c pn H0 env D' H1 envB σB acc H) (sub : ∀ a, c.rg.R a → Mof c env a ∨ a = D') (nR : ¬ c.rg.R D')
    (k : Keep c.rg.R H H') (S : Sd K (c.with D') pn H0 envC σC H') : LcAt K c pn H0 env D' H1 envC σC acc H' := by
  obtain ⟨⟨ws, h1, h2⟩, h3, h4⟩ := L
  exact ⟨⟨ws, k _ _ h1 nR, RpAll.keep (k.mono sub) h2⟩, h3.trans k, S⟩
theorem rf_lc2 (hi : RfI K rg true wi ti) (hg : RfG K rg g sg vs) (ht : RfT K rg tt st) (hi1 : RfI K rg true wi1 ti1) (hg1 : RfG K rg g1 sg1 vs1) (ht1 : RfT K rg tt1 st1) (he : Rf K rg te t) : RfF K rg (tLc2 wi g tt wi1 g1 tt1 te vs vs1) (sLc2 ti sg st ti1 sg1 st1 t vs vs1) := fun c hc pn H0 env σ H Qd Q S hq k => by
  obtain ⟨hown, hq⟩ := hq
  refine hi c hc pn H0 env σ H _ _ S hq fun xs J G Y H1 q1 k1 j1 W hG hY => ?_
  subst hc
  intro D' hD
  obtain ⟨I, i0, turn, fin⟩ := q1
  have S1 := S.grow k1 j1
  have nD : H D' = none := none_back S k1 j1 hD
  have n0 : H0 D' = none := S.h0 nD
  have nR : ¬ c.rg.R D' := fun z => S1.domM D' (Mof.of_R S.ok z) hD
  have nP : c.P ≠ some D' := fun z => S1.dom D' (S.ok.pm D' z).1 hD
  have sub : ∀ a, c.rg.R a → Mof c env a ∨ a = D' := fun a z => .inl (Mof.of_R S.ok z)
  have S2 : Sd K (c.with D') pn H0 (wipeE env vs) (L2.wipe σ vs) (upd H1 D' (.lst [])) := (S1.inComp hD).wipe vs
  have mD : ∀ b, Mof (c.with D') (wipeE env vs) b ↔ Mof c env b ∨ b = D' := fun b => mof_with.trans (by rw [← mof_wipe hown b])
  have toD : ∀ {G G' : Hp}, Keep c.rg.R G G' → Keep (fun a => c.rg.R a ∨ a = D') G G' := fun k => k.mono fun a z => .inl z
  have updK : ∀ {G : Hp} {o : HO}, Keep (fun a => c.rg.R a ∨ a = D') G (upd G D' o) := fun {G o} b u e m => by rw [upd_ne fun z => m (.inr z)]; exact e
  -- an item is put behind
  have put : ∀ {envB envC : En} {σB : L2.St} {acc : List D} {H8 H9 : Hp} {v : V} {y : D}, LcAt K c pn H0 env D' H1 envB σB acc H8 → (∀ b, Mof (c.with D') envC b ↔ Mof c env b ∨ b = D') → Keep c.rg.R H8 H9 → Rp K (Mof (c.with D') envC) H9 v y → Sd K (c.with D') pn H0 envB σB H9 → acc.length < sizeLine →
      ∃ ws, H9 D' = some (.lst ws) ∧ ws.length < sizeLine ∧ LcAt K c pn H0 env D' H1 envB σB (acc ++ [y]) (upd H9 D' (.lst (ws ++ [v]))) := by
    intro envB envC σB acc H8 H9 v y L hm kk r S9 hz
    obtain ⟨⟨ws, h1, h2⟩, h3, h4⟩ := L
    have ra9 : RpAll K (fun b => Mof c env b ∨ b = D') H9 ws acc := RpAll.keep (kk.mono sub) h2
    have r9' : Rp K (fun b => Mof c env b ∨ b = D') H9 v y := Rp.anti (fun b u e z => (hm b).mpr z) r
    have kD : Keep (fun b => Mof c env b ∨ b = D') H9 (upd H9 D' (.lst (ws ++ [v]))) := fun b u e m => by rw [upd_ne fun z => m (.inr z)]; exact e
    refine ⟨ws, kk _ _ h1 nR, by rw [RpAll.length ra9]; exact hz, ⟨ws ++ [v], upd_same, RpAll.append (RpAll.keep kD ra9) (.cons (Rp.keep kD r9') .nil)⟩, fun b u e m => ?_, S9.updD n0 nR nP⟩
    have hb : b ≠ D' := fun z => by rw [z, hD] at e; cases e
    rw [upd_ne hb]
    exact (h3.trans kk) b u e m
  refine walk_any (B := fun Nx x H' => g x (L2.wipe σ vs) H' fun σ2 H2 => L2.wipe σ2 vs = L2.wipe σ vs ∧ tt σ2 H2 fun b H3 =>
    if b = true then wi1 σ2 H3 fun J1 H4 => ∃ W1 : Nat → Nat → Hp → Prop, (∃ m, W1 0 m H4) ∧ ∀ j k H, W1 j k H →
      (J1.stop j H ∧ Nx H) ∨ (J1.go j H ∧ ∃ Nx1 : Hp → Prop, (∀ H', Nx1 H' → ∃ k', k' < k ∧ W1 (j + 1) k' H') ∧ ∀ x H', J1.yld j H x H' → g1 x (L2.wipe σ2 vs1) H' fun σ3 H5 => L2.wipe σ3 vs1 = L2.wipe σ2 vs1 ∧ tt1 σ3 H5 fun b H6 =>
        if b = true then te σ3 H6 fun y H7 => ∃ acc, H7 D' = some (.lst acc) ∧ acc.length < sizeLine ∧ Nx1 (upd H7 D' (.lst (acc ++ [y]))) else Nx1 H6)
    else Nx H3) W (fun i H5 => ∃ acc, I i acc ∧ LcAt K c pn H0 env D' H1 (wipeE env vs) (L2.wipe σ vs) acc H5)
    ⟨[], i0, ⟨[], upd_same, .nil⟩, Keep.upd_new hD, S2⟩ (fun i H5 _ ⟨_, _, L⟩ => hG H5 (L.kp.mono S.ok.sub)) ?_ ?_
  · rintro i x H5 H6 hlt ⟨acc, hI, L5⟩ y
    have S5 := L5.sd
    obtain ⟨d, hd, s6, rd⟩ := hY (Mof (c.with D') (wipeE env vs)) i H5 x H6 hlt (L5.kp.mono S.ok.sub) (L5.kp.mono fun b z => Mof.of_R S.ok z) (fun b u e z => by
      rcases (mD b).mp z with z | rfl
      · exact z
      · rw [hD] at e; cases e) S5.domM y
    have S6 := S5.same s6
    refine hg (c.with D') rfl pn H0 _ _ H6 x d _ _ S6 rd (turn i d acc hd hI) fun env2 σ2 q2 S7 m2 w2 => ⟨w2.trans ?_, ?_⟩
    · apply List.ext_getElem?
      intro j
      rw [wipe_get, wipe_get, wipe_length]
      split <;> rfl
    have L7 := L5.grow sub nR (Keep.of_same s6) S7
    have mD2 : ∀ b, Mof (c.with D') env2 b ↔ Mof c env b ∨ b = D' := fun b => (m2 b).symm.trans (mD b)
    refine ht (c.with D') rfl pn H0 env2 σ2 H6 _ _ S7 q2 fun b H8 q8 k8 j8 => ?_
    have k8' : Keep c.rg.R H6 H8 := k8
    have S8 := S7.grow k8 j8
    have k58 : Keep c.rg.R H5 H8 := (Keep.of_same s6).trans k8'
    cases b with
    | false =>
      rw [if_neg Bool.false_ne_true] at q8 ⊢
      exact ⟨acc, q8, L5.grow sub nR k58 (S5.grow k58 S8.j)⟩
    | true =>
      rw [if_pos rfl] at q8 ⊢
      obtain ⟨hown2, q8⟩ := q8
      refine hi1 (c.with D') rfl pn H0 env2 σ2 H8 _ _ S8 q8 fun ys J1 G1 Y1 H9 q9 k9 j9 W1 hG1 hY1 => ?_
      have k9' : Keep c.rg.R H8 H9 := k9
      obtain ⟨I1, i10, turn1, fin1⟩ := q9
      have S9 := S8.grow k9 j9
      have L9 : LcAt K c pn H0 env D' H1 (wipeE env2 vs1) (L2.wipe σ2 vs1) acc H9 := L7.grow sub nR (k8'.trans k9') (S9.wipe vs1)
      have mD3 : ∀ b, Mof (c.with D') (wipeE env2 vs1) b ↔ Mof c env b ∨ b = D' := fun b => (mof_wipe hown2 b).symm.trans (mD2 b)
      have subM : ∀ a, (c.rg.R a ∨ a = D') → (c.with D').M a := fun a z => z.elim (fun z => .inl (S.ok.sub a z)) .inr
      refine walk_any (B := fun Nx1 x H' => g1 x (L2.wipe σ2 vs1) H' fun σ3 H5 => L2.wipe σ3 vs1 = L2.wipe σ2 vs1 ∧ tt1 σ3 H5 fun b H6 =>
        if b = true then te σ3 H6 fun y H7 => ∃ acc, H7 D' = some (.lst acc) ∧ acc.length < sizeLine ∧ Nx1 (upd H7 D' (.lst (acc ++ [y]))) else Nx1 H6) W1
        (fun j H10 => ∃ acc1, I1 j acc1 ∧ Keep (fun a => c.rg.R a ∨ a = D') H5 H10 ∧ Keep (fun a => c.rg.R a ∨ a = D') H9 H10 ∧ LcAt K c pn H0 env D' H1 (wipeE env2 vs1) (L2.wipe σ2 vs1) acc1 H10)
        ⟨acc, i10, toD (k58.trans k9'), Keep.refl, L9⟩ (fun j H10 _ ⟨_, _, _, k10, _⟩ => hG1 H10 (k10.mono subM)) ?_ ?_
      · rintro j x1 H10 H11 hlt1 ⟨acc1, hI1, k510, k10, L10⟩ y1
        have S10 := L10.sd
        obtain ⟨d1, hd1, s11, rd1⟩ := hY1 (Mof (c.with D') (wipeE env2 vs1)) j H10 x1 H11 hlt1 (k10.mono subM) (k10.mono fun b z => .inl (subM b z)) (fun b u e z => (mof_wipe hown2 b).mpr z) S10.domM y1
        have S11 := S10.same s11
        refine hg1 (c.with D') rfl pn H0 _ _ H11 x1 d1 _ _ S11 rd1 (turn1 j d1 acc1 hd1 hI1) fun env3 σ3 q3 S12 m3 w3 => ⟨w3.trans ?_, ?_⟩
        · apply List.ext_getElem?
          intro j
          rw [wipe_get, wipe_get, wipe_length]
          split <;> rfl
        have mD4 : ∀ b, Mof (c.with D') env3 b ↔ Mof c env b ∨ b = D' := fun b => (m3 b).symm.trans (mD3 b)
        refine ht1 (c.with D') rfl pn H0 env3 σ3 H11 _ _ S12 q3 fun b1 H13 q13 k13 j13 => ?_
        have k13' : Keep c.rg.R H11 H13 := k13
        have S13 := S12.grow k13 j13
        have k1013 : Keep c.rg.R H10 H13 := (Keep.of_same s11).trans k13'
        cases b1 with
        | false =>
          rw [if_neg Bool.false_ne_true] at q13 ⊢
          exact ⟨acc1, q13, k510.trans (toD k1013), k10.trans (toD k1013), L10.grow sub nR k1013 (S10.grow k1013 S13.j)⟩
        | true =>
          rw [if_pos rfl] at q13 ⊢
          refine he (c.with D') rfl pn H0 env3 σ3 H13 _ _ S13 q13 fun z v H14 q14 k14 j14 r14 => ?_
          have k14' : Keep c.rg.R H13 H14 := k14
          have k1014 := k1013.trans k14'
          obtain ⟨ws, e1, e2, L⟩ := put (L10.grow sub nR k1013 (S10.grow k1013 S13.j)) mD4 k14' r14 (S10.grow k1014 j14) q14.1
          exact ⟨ws, e1, e2, acc1 ++ [z], q14.2, (k510.trans (toD k1014)).trans updK, (k10.trans (toD k1014)).trans updK, L⟩
      · rintro H10 ⟨acc1, hI1, k510, k10, L10⟩
        obtain ⟨⟨ws, h1, h2⟩, h3, h4⟩ := L10
        exact ⟨acc1, fin1 acc1 hI1, ⟨ws, h1, h2⟩, h3, S5.growD k510 h4.j (by rw [h1]; exact fun z => by cases z) n0 nP⟩
  · rintro H5 ⟨acc, hI, L5⟩
    obtain ⟨⟨ws, h1, h2⟩, h3, h4⟩ := L5
    exact k acc D' ws H5 (fin acc hI) nD (k1.trans h3) h4.j h1 h2
theorem df_lc2 {elt tg iter tg1 iter1 : Expr} {ifs ifs1 : List Expr} {scope : Scope} {own : List (Str × Nat)} {pos : Pos} (hc : X.calm = true) (hN : X.N.Nodup) (ok : BlkOk X.N X.env.scope scope own) (hv : ∀ i ∈ vs1, i ∈ own.map (·.2)) (hi : DI X K rg true tg iter wi ti)
    (hg : ∀ (s : Shared) (H : Hp) (C : Addr) (cl : List (Str × Addr)) (fp : List Addr), DG (X.blk s H scope (compEnvC scope cl C X.env) fp) K rg tg g sg (own.map (·.2)))
    (ht : ∀ (s : Shared) (H : Hp) (C : Addr) (cl : List (Str × Addr)) (fp : List Addr), DTs (X.blk s H scope (compEnvC scope cl C X.env) fp) K rg ifs tt st)
    (hi1 : ∀ (s : Shared) (H : Hp) (C : Addr) (cl : List (Str × Addr)) (fp : List Addr), DI (X.blk s H scope (compEnvC scope cl C X.env) fp) K rg true tg1 iter1 wi1 ti1)
    (hg1 : ∀ (s : Shared) (H : Hp) (C : Addr) (cl : List (Str × Addr)) (fp : List Addr), DG (X.blk s H scope (compEnvC scope cl C X.env) fp) K rg tg1 g1 sg1 vs1)
    (ht1 : ∀ (s : Shared) (H : Hp) (C : Addr) (cl : List (Str × Addr)) (fp : List Addr), DTs (X.blk s H scope (compEnvC scope cl C X.env) fp) K rg ifs1 tt1 st1)
    (he : ∀ (s : Shared) (H : Hp) (C : Addr) (cl : List (Str × Addr)) (fp : List Addr), DP (X.blk s H scope (compEnvC scope cl C X.env) fp) K rg elt te t) (hs : ∀ x, foldedSetIterable iter X.env x = pure x := by intro _; rfl) (hs1 : ∀ env x, foldedSetIterable iter1 env x = pure x := by intro _ _; rfl) :
    DF X K rg (.ListComp elt [⟨tg, iter, ifs, 0⟩, ⟨tg1, iter1, ifs1, 0⟩] scope pos) (tLc2 wi g tt wi1 g1 tt1 te (own.map (·.2)) vs1) (sLc2 ti sg st ti1 sg1 st1 t (own.map (·.2)) vs1) := by
  cases hi.kx
  exact ⟨rfl, pe_lc2 hc hN hi.pi ok hv (fun s H C cl fp => (hg s H C cl fp).pg) (fun s H C cl fp => (ht s H C cl fp).pt) (fun s H C cl fp => (hi1 s H C cl fp).pi) (fun s H C cl fp => (hg1 s H C cl fp).pg) (fun s H C cl fp => (ht1 s H C cl fp).pt) (fun s H C cl fp => (he s H C cl fp).pe) hs hs1,
   rf_lc2 hi.rf (hg X.s_0 X.H_0 0 [] []).rf (ht X.s_0 X.H_0 0 [] []).rf (hi1 X.s_0 X.H_0 0 [] []).rf (hg1 X.s_0 X.H_0 0 [] []).rf (ht1 X.s_0 X.H_0 0 [] []).rf (he X.s_0 X.H_0 0 [] []).rf⟩
end
end DL

namespace DL
open PySem L2 PySem.Spec PyProof.Rows
section
variable {X : Cx} {K : PySem.W.Frag} {rg : Rg} {st : Stmt} {rest body els : List Stmt} {ts us : TS} {t u : TDS} {e a b : Expr} {es : List Expr} {te ua ub : TE} {ta : TA} {x y : TD} {xs ys : TDs} {tt : TT} {bt : TB} {pos tpos : Pos} {i j : Nat}
/-! ### statements in short -/
theorem ds_setP {n : Str} (he : DP X K rg e te x) (hN : X.N.Nodup) (hi : X.N[i]? = some n) (hx : Loc X.env.scope n) (hs : swapsWith e (some (.Name n tpos)) pos.line X.env = pure false := by rfl) (hf : X.fn n = true ∨ X.env.scope.names.lookup n = some .local := by first | exact .inl rfl | exact .inr rfl) :
    DS X K rg (.Assign [.Name n tpos] e pos) (tAsg te (gName i)) (sSet i x) := ds_set (ps_set hN hi hx he.pe hs hf) he.rf he.kx
theorem ds_setFO {n : Str} (he : DF X K rg e te xs) (hN : X.N.Nodup) (hi : X.N[i]? = some n) (hx : Loc X.env.scope n) (hs : swapsWith e (some (.Name n tpos)) pos.line X.env = pure false := by rfl) (hf : X.fn n = true ∨ X.env.scope.names.lookup n = some .local := by first | exact .inl rfl | exact .inr rfl) :
    DS X K rg (.Assign [.Name n tpos] e pos) (tAsg te (gName i)) (sSetO i xs) := ds_setO (ps_set hN hi hx he.pe hs hf) he.rf he.kx
theorem ds_augP {f : Int → Int → Int} {op : Operator} {n : Str} (he : DP X K rg e te x) (ho : PIp X op (ipI f)) (hN : X.N.Nodup) (hi : X.N[i]? = some n) (hx : Loc X.env.scope n) (hf : X.fn n = true ∨ X.env.scope.names.lookup n = some .local := by first | exact .inl rfl | exact .inr rfl) :
    DS X K rg (.AugAssign (.Name n tpos) op e pos) (tAug i te (ipI f)) (sAugI i (fInt0 f) x) := ds_augI (ps_aug hN hi hx he.pe ho hf) he.rf he.kx
section
variable {elt tg iter tg1 iter1 o : Expr} {ifs ifs1 : List Expr} {scope : Scope} {own : List (Str × Nat)} {vs1 : List Nat} {y : Str} {py pos' spos apos cpos : Pos} {wi wi1 : TI} {g g1 : TG} {tt1 : TT} {ti ti1 : TDs} {sg sg1 : SG} {st0 st1 : TB}
theorem ds_setLcG {R : TDS} (mk : PS X (.Assign [.Name y py] (.ListComp elt [⟨tg, iter, ifs, 0⟩] scope pos) spos) (tAsg (tLc wi g tt te (own.map (·.2))) (gName i)) → RfF K rg (tLc wi g tt te (own.map (·.2))) (sLc ti sg st0 x (own.map (·.2))) → DS X K rg (.Assign [.Name y py] (.ListComp elt [⟨tg, iter, ifs, 0⟩] scope pos) spos) (tAsg (tLc wi g tt te (own.map (·.2))) (gName i)) R)
    (hc : X.calm = true) (hN : X.N.Nodup) (hy : X.N[i]? = some y) (hyl : X.env.scope.names.lookup y = some .local) (hsw : swapsWith (.ListComp elt [⟨tg, iter, ifs, 0⟩] scope pos) (some (.Name y py)) spos.line X.env = pure true) (ok : BlkOk X.N X.env.scope scope own) (hi : DI X K rg true tg iter wi ti)
    (hg : ∀ (s : Shared) (H : Hp) (C : Addr) (cl : List (Str × Addr)) (fp : List Addr), DG (X.blk s H scope (compEnvC scope cl C X.env) fp) K rg tg g sg (own.map (·.2)))
    (ht : ∀ (s : Shared) (H : Hp) (C : Addr) (cl : List (Str × Addr)) (fp : List Addr), DTs (X.blk s H scope (compEnvC scope cl C X.env) fp) K rg ifs tt st0)
    (he : ∀ (s : Shared) (H : Hp) (C : Addr) (cl : List (Str × Addr)) (fp : List Addr), DP (X.blk s H scope (compEnvC scope cl C X.env) fp) K rg elt te x) (hs : ∀ x, foldedSetIterable iter X.env x = pure x := by intro _; rfl) :
    DS X K rg (.Assign [.Name y py] (.ListComp elt [⟨tg, iter, ifs, 0⟩] scope pos) spos) (tAsg (tLc wi g tt te (own.map (·.2))) (gName i)) R :=
  mk (ps_setLc hc hN hy hyl hsw hi.pi ok (fun s H C cl fp => (hg s H C cl fp).pg) (fun s H C cl fp => (ht s H C cl fp).pt) (fun s H C cl fp => (he s H C cl fp).pe) hs)
    (rf_lc hi.rf (hg X.s_0 X.H_0 0 [] []).rf (ht X.s_0 X.H_0 0 [] []).rf (he X.s_0 X.H_0 0 [] []).rf rfl)
theorem RfF.rf {te : TE} {u : TDs} (h : RfF K rg te u) : Rf K rg te (sF u) := fun c hc pn H0 env σ H Qd Q S ht k => h c hc pn H0 env σ H _ Q S ht fun ds a vs H' q ha k1 j e r =>
  k (.lst ds) (.ref a) H' q k1 j (.lst (fun z => S.domM a z ha) e (RpAll.anti (fun _ _ _ z => .inl z) r))
theorem ds_setLcO (hc : X.calm = true) (hN : X.N.Nodup) (hy : X.N[i]? = some y) (hyl : X.env.scope.names.lookup y = some .local) (hsw : swapsWith (.ListComp elt [⟨tg, iter, ifs, 0⟩] scope pos) (some (.Name y py)) spos.line X.env = pure true) (ok : BlkOk X.N X.env.scope scope own) (hi : DI X K rg true tg iter wi ti)
    (hg : ∀ (s : Shared) (H : Hp) (C : Addr) (cl : List (Str × Addr)) (fp : List Addr), DG (X.blk s H scope (compEnvC scope cl C X.env) fp) K rg tg g sg (own.map (·.2)))
    (ht : ∀ (s : Shared) (H : Hp) (C : Addr) (cl : List (Str × Addr)) (fp : List Addr), DTs (X.blk s H scope (compEnvC scope cl C X.env) fp) K rg ifs tt st0)
    (he : ∀ (s : Shared) (H : Hp) (C : Addr) (cl : List (Str × Addr)) (fp : List Addr), DP (X.blk s H scope (compEnvC scope cl C X.env) fp) K rg elt te x) (hs : ∀ x, foldedSetIterable iter X.env x = pure x := by intro _; rfl) :
    DS X K rg (.Assign [.Name y py] (.ListComp elt [⟨tg, iter, ifs, 0⟩] scope pos) spos) (tAsg (tLc wi g tt te (own.map (·.2))) (gName i)) (sSetO i (sLc ti sg st0 x (own.map (·.2)))) := ds_setLcG (fun p r => ds_setO p r hi.kx) hc hN hy hyl hsw ok hi hg ht he hs
theorem ds_setLc (hc : X.calm = true) (hN : X.N.Nodup) (hy : X.N[i]? = some y) (hyl : X.env.scope.names.lookup y = some .local) (hsw : swapsWith (.ListComp elt [⟨tg, iter, ifs, 0⟩] scope pos) (some (.Name y py)) spos.line X.env = pure true) (ok : BlkOk X.N X.env.scope scope own) (hi : DI X K rg true tg iter wi ti)
    (hg : ∀ (s : Shared) (H : Hp) (C : Addr) (cl : List (Str × Addr)) (fp : List Addr), DG (X.blk s H scope (compEnvC scope cl C X.env) fp) K rg tg g sg (own.map (·.2)))
    (ht : ∀ (s : Shared) (H : Hp) (C : Addr) (cl : List (Str × Addr)) (fp : List Addr), DTs (X.blk s H scope (compEnvC scope cl C X.env) fp) K rg ifs tt st0)
    (he : ∀ (s : Shared) (H : Hp) (C : Addr) (cl : List (Str × Addr)) (fp : List Addr), DP (X.blk s H scope (compEnvC scope cl C X.env) fp) K rg elt te x) (hs : ∀ x, foldedSetIterable iter X.env x = pure x := by intro _; rfl) :
    DS X K rg (.Assign [.Name y py] (.ListComp elt [⟨tg, iter, ifs, 0⟩] scope pos) spos) (tAsg (tLc wi g tt te (own.map (·.2))) (gName i)) (sSet i (sF (sLc ti sg st0 x (own.map (·.2))))) := ds_setLcG (fun p r => ds_set p r.rf hi.kx) hc hN hy hyl hsw ok hi hg ht he hs
theorem ds_setLc2 (hc : X.calm = true) (hN : X.N.Nodup) (hy : X.N[i]? = some y) (hyl : X.env.scope.names.lookup y = some .local) (hsw : swapsWith (.ListComp elt [⟨tg, iter, ifs, 0⟩, ⟨tg1, iter1, ifs1, 0⟩] scope pos) (some (.Name y py)) spos.line X.env = pure true) (ok : BlkOk X.N X.env.scope scope own) (hv : ∀ i ∈ vs1, i ∈ own.map (·.2)) (hi : DI X K rg true tg iter wi ti)
    (hg : ∀ (s : Shared) (H : Hp) (C : Addr) (cl : List (Str × Addr)) (fp : List Addr), DG (X.blk s H scope (compEnvC scope cl C X.env) fp) K rg tg g sg (own.map (·.2)))
    (ht : ∀ (s : Shared) (H : Hp) (C : Addr) (cl : List (Str × Addr)) (fp : List Addr), DTs (X.blk s H scope (compEnvC scope cl C X.env) fp) K rg ifs tt st0)
    (hi1 : ∀ (s : Shared) (H : Hp) (C : Addr) (cl : List (Str × Addr)) (fp : List Addr), DI (X.blk s H scope (compEnvC scope cl C X.env) fp) K rg true tg1 iter1 wi1 ti1)
    (hg1 : ∀ (s : Shared) (H : Hp) (C : Addr) (cl : List (Str × Addr)) (fp : List Addr), DG (X.blk s H scope (compEnvC scope cl C X.env) fp) K rg tg1 g1 sg1 vs1)
    (ht1 : ∀ (s : Shared) (H : Hp) (C : Addr) (cl : List (Str × Addr)) (fp : List Addr), DTs (X.blk s H scope (compEnvC scope cl C X.env) fp) K rg ifs1 tt1 st1)
    (he : ∀ (s : Shared) (H : Hp) (C : Addr) (cl : List (Str × Addr)) (fp : List Addr), DP (X.blk s H scope (compEnvC scope cl C X.env) fp) K rg elt te x) (hs : ∀ x, foldedSetIterable iter X.env x = pure x := by intro _; rfl) (hs1 : ∀ env x, foldedSetIterable iter1 env x = pure x := by intro _ _; rfl) :
    DS X K rg (.Assign [.Name y py] (.ListComp elt [⟨tg, iter, ifs, 0⟩, ⟨tg1, iter1, ifs1, 0⟩] scope pos) spos) (tAsg (tLc2 wi g tt wi1 g1 tt1 te (own.map (·.2)) vs1) (gName i)) (sSet i (sF (sLc2 ti sg st0 ti1 sg1 st1 x (own.map (·.2)) vs1))) :=
  ds_set (ps_setLc2 hc hN hy hyl hsw hi.pi ok hv (fun s H C cl fp => (hg s H C cl fp).pg) (fun s H C cl fp => (ht s H C cl fp).pt) (fun s H C cl fp => (hi1 s H C cl fp).pi) (fun s H C cl fp => (hg1 s H C cl fp).pg) (fun s H C cl fp => (ht1 s H C cl fp).pt) (fun s H C cl fp => (he s H C cl fp).pe) hs hs1)
    (RfF.rf (rf_lc2 hi.rf (hg X.s_0 X.H_0 0 [] []).rf (ht X.s_0 X.H_0 0 [] []).rf (hi1 X.s_0 X.H_0 0 [] []).rf (hg1 X.s_0 X.H_0 0 [] []).rf (ht1 X.s_0 X.H_0 0 [] []).rf (he X.s_0 X.H_0 0 [] []).rf)) hi.kx
/-! methods of lists of one's own, as statements -/
theorem ds_appP {apos : Pos} {oo : Expr} (ho : PE X oo (tVar i)) (he : DP X K rg e te x) (hbase : attributeBase oo "append" X.env (eval oo X.env) = eval oo X.env := by rfl)
    (hfew : ((backTo cpos (starEach [e] X.env)).all (fun x => !x.1) && (backToKw cpos (keywordEach [] X.env)).all (fun x => x.1.isSome) && decide ([e].length + ([] : List Keyword).length + (if ([] : List Keyword).isEmpty then 0 else 1) < 30)) = true := by rfl)
    (hline : (apos.endLine == cpos.line) = true := by rfl) (hs : starEach [e] X.env = (false, eval e X.env) :: starEach [] X.env := by rfl) (hplain : (backTo cpos (starEach [] X.env)).any (·.1) = false := by rfl)
    (hsw : swapsWith (.Call (.Attribute oo "append" apos) [e] [] cpos) none pos.line X.env = pure false := by rfl) :
    DS X K rg (.Expr (.Call (.Attribute oo "append" apos) [e] [] cpos) pos) (tDrop (tBM K "list" rAppend (tVar i) (tCons te tNil))) (sApp i x) := by
  cases he.kx
  exact ds_app (ps_expr (pe_bm PySem.F.plainAttrs_list PySem.F.slot_list_append PySem.F.type_list_append mt_append ho (pa_cons he.pe pa_nil hs) hbase hfew hline hs hplain) hsw) he.rf rfl
theorem ds_extP {apos : Pos} {oo : Expr} (ho : PE X oo (tVar i)) (he : DP X K rg e te x) (hbase : attributeBase oo "extend" X.env (eval oo X.env) = eval oo X.env := by rfl)
    (hfew : ((backTo cpos (starEach [e] X.env)).all (fun x => !x.1) && (backToKw cpos (keywordEach [] X.env)).all (fun x => x.1.isSome) && decide ([e].length + ([] : List Keyword).length + (if ([] : List Keyword).isEmpty then 0 else 1) < 30)) = true := by rfl)
    (hline : (apos.endLine == cpos.line) = true := by rfl) (hs : starEach [e] X.env = (false, eval e X.env) :: starEach [] X.env := by rfl) (hplain : (backTo cpos (starEach [] X.env)).any (·.1) = false := by rfl)
    (hsw : swapsWith (.Call (.Attribute oo "extend" apos) [e] [] cpos) none pos.line X.env = pure false := by rfl) :
    DS X K rg (.Expr (.Call (.Attribute oo "extend" apos) [e] [] cpos) pos) (tDrop (tBM K "list" rExtend (tVar i) (tCons te tNil))) (sExt i x) := by
  cases he.kx
  exact ds_ext (ps_expr (pe_bm PySem.F.plainAttrs_list PySem.F.slot_list_extend PySem.F.type_list_extend mt_extend ho (pa_cons he.pe pa_nil hs) hbase hfew hline hs hplain) hsw) he.rf rfl
theorem ds_appPopP {apos apos2 cpos2 : Pos} {oo o2 : Expr} (ho : PE X oo (tVar i)) (ho2 : PE X o2 (tVar j)) (he : DP X K rg e te x) (hbase2 : attributeBase o2 "pop" X.env (eval o2 X.env) = eval o2 X.env := by rfl)
    (hfew2 : ((backTo cpos2 (starEach [e] X.env)).all (fun x => !x.1) && (backToKw cpos2 (keywordEach [] X.env)).all (fun x => x.1.isSome) && decide ([e].length + ([] : List Keyword).length + (if ([] : List Keyword).isEmpty then 0 else 1) < 30)) = true := by rfl)
    (hline2 : (apos2.endLine == cpos2.line) = true := by rfl) (hs2 : starEach [e] X.env = (false, eval e X.env) :: starEach [] X.env := by rfl) (hplain2 : (backTo cpos2 (starEach [] X.env)).any (·.1) = false := by rfl)
    (hbase : attributeBase oo "append" X.env (eval oo X.env) = eval oo X.env := by rfl)
    (hfew : ((backTo cpos (starEach [.Call (.Attribute o2 "pop" apos2) [e] [] cpos2] X.env)).all (fun x => !x.1) && (backToKw cpos (keywordEach [] X.env)).all (fun x => x.1.isSome) && decide ([Expr.Call (.Attribute o2 "pop" apos2) [e] [] cpos2].length + ([] : List Keyword).length + (if ([] : List Keyword).isEmpty then 0 else 1) < 30)) = true := by rfl)
    (hline : (apos.endLine == cpos.line) = true := by rfl) (hs : starEach [.Call (.Attribute o2 "pop" apos2) [e] [] cpos2] X.env = (false, eval (.Call (.Attribute o2 "pop" apos2) [e] [] cpos2) X.env) :: starEach [] X.env := by rfl) (hplain : (backTo cpos (starEach [] X.env)).any (·.1) = false := by rfl)
    (hsw : swapsWith (.Call (.Attribute oo "append" apos) [.Call (.Attribute o2 "pop" apos2) [e] [] cpos2] [] cpos) none pos.line X.env = pure false := by rfl) :
    DS X K rg (.Expr (.Call (.Attribute oo "append" apos) [.Call (.Attribute o2 "pop" apos2) [e] [] cpos2] [] cpos) pos) (tDrop (tBM K "list" rAppend (tVar i) (tCons (tBM K "list" rPopAt (tVar j) (tCons te tNil)) tNil))) (sAppPop i j x) := by
  cases he.kx
  exact ds_appPop (ps_expr (pe_bm PySem.F.plainAttrs_list PySem.F.slot_list_append PySem.F.type_list_append mt_append ho (pa_cons (pe_bm PySem.F.plainAttrs_list PySem.F.slot_list_pop PySem.F.type_list_pop mt_popAt ho2 (pa_cons he.pe pa_nil hs2) hbase2 hfew2 hline2 hs2 hplain2) pa_nil hs) hbase hfew hline hs hplain) hsw) he.rf rfl
end
/-! ### a, b = x, y -/
section
variable {nx ny : Str} {px py pt : Pos} {kt k2 : Nat} {pt2 : Pos}
theorem Sd.hide {c : Dc} {pn : Pin} {H0 : Hp} {env : En} {σ : L2.St} {H H1 : Hp} {a : Addr} (S : Sd K c pn H0 env σ H) (ha : H a = none) (k : Keep c.rg.R H H1) (jj : c.rg.J H1) (hl : H1 a ≠ none) : Sd K (c.with a) pn H0 env σ H1 := by
  have T : Sd K (c.with a) pn H0 env σ (upd H a (.lst [])) := S.inComp ha
  refine T.growD (fun b o e m => ?_) jj hl (S.h0 ha) (fun z => S.dom a (S.ok.pm a z).1 ha)
  by_cases hb : b = a
  · exact absurd (.inr hb) m
  · rw [upd_ne hb] at e
    exact k b o e fun z => m (.inl z)
theorem mof_setO {c : Dc} {env : En} {i : Nat} {a b : Addr} {ds : List D} (h : Mof c (env.set i (some (.own a ds))) b) : Mof (c.with a) env b := by
  rcases h with h | ⟨k, s, e1, e2⟩
  · exact .inl (.inl h)
  · by_cases hk : i = k
    · subst hk
      by_cases hl : i < env.length
      · rw [List.getElem?_set_self hl] at e1
        cases e1; cases e2
        exact .inl (.inr rfl)
      · rw [List.getElem?_eq_none (by simpa using hl)] at e1; cases e1
    · rw [List.getElem?_set_ne hk] at e1
      exact .inr ⟨k, s, e1, e2⟩
theorem mof_setD {c : Dc} {env : En} {i : Nat} {b : Addr} {d : D} (h : Mof c (env.set i (some (.dat d))) b) : Mof c env b := by
  rcases h with h | ⟨k, s, e1, e2⟩
  · exact .inl h
  · by_cases hk : i = k
    · subst hk
      by_cases hl : i < env.length
      · rw [List.getElem?_set_self hl] at e1
        cases e1; cases e2
      · rw [List.getElem?_eq_none (by simpa using hl)] at e1; cases e1
    · rw [List.getElem?_set_ne hk] at e1
      exact .inr ⟨k, s, e1, e2⟩
def sParFF (i j : Nat) (xs ys : TDs) : TDS := fun Dd env => xs env fun ds => ys env fun es => i < env.length ∧ j < env.length ∧ ∀ p q, Dd.nx ((env.set i (some (.own p ds))).set j (some (.own q es)))
theorem rf_parFF (h1 : RfF K rg ua xs) (h2 : RfF K rg ub ys) : RfS K rg (tPar i j (tCons ua (tCons ub tNil))) (sParFF i j xs ys) := fun c hc pn H0 env σ H Dd De S h n r ro bk ct => by
  refine h1 c hc pn H0 env σ H _ _ S h fun ds a vs H1 q1 ha k1 j1 hl1 r1 => ?_
  subst hc
  have T0 := S.hide ha k1 j1 (by rw [hl1]; exact fun z => nomatch z)
  refine h2 (c.with a) rfl pn H0 env σ H1 _ _ T0 q1 fun es b ws H2 q2 hb k2 j2 hl2 r2 => ?_
  obtain ⟨qi, qj, q⟩ := q2
  have T1 := S.setO i qi ha k1 j1 hl1 r1
  have T2 := T1.setO j (by simpa using qj) hb k2 j2 hl2 (RpAll.anti (fun d o e z => z.elim (fun z => .inl (mof_setO z)) .inr) r2)
  exact ⟨.ref a, .ref b, rfl, n _ _ _ (q a b) T2⟩
def sParPF (i j : Nat) (x : TD) (ys : TDs) : TDS := fun Dd env => x env fun d => ys env fun es => i < env.length ∧ j < env.length ∧ ∀ q, Dd.nx ((env.set i (some (.dat d))).set j (some (.own q es)))
theorem rf_parPF (h1 : Rf K rg ua x) (h2 : RfF K rg ub ys) : RfS K rg (tPar i j (tCons ua (tCons ub tNil))) (sParPF i j x ys) := fun c hc pn H0 env σ H Dd De S h n r ro bk ct => by
  refine h1 c hc pn H0 env σ H _ _ S h fun d v H1 q1 k1 j1 r1 => ?_
  subst hc
  have S1 := S.grow k1 j1
  refine h2 c rfl pn H0 env σ H1 _ _ S1 q1 fun es b ws H2 q2 hb k2 j2 hl2 r2 => ?_
  obtain ⟨qi, qj, q⟩ := q2
  have T1 := S1.setD i qi r1
  have T2 := T1.setO j (by simpa using qj) hb k2 j2 hl2 (RpAll.anti (fun d o e z => z.elim (fun z => .inl (mof_setD z)) .inr) r2)
  exact ⟨v, .ref b, rfl, n _ _ _ (q b) T2⟩
def sParFP (i j : Nat) (xs : TDs) (y : TD) : TDS := fun Dd env => xs env fun ds => y env fun d => i < env.length ∧ j < env.length ∧ ∀ q, Dd.nx ((env.set i (some (.own q ds))).set j (some (.dat d)))
theorem rf_parFP (h1 : RfF K rg ua xs) (h2 : Rf K rg ub y) : RfS K rg (tPar i j (tCons ua (tCons ub tNil))) (sParFP i j xs y) := fun c hc pn H0 env σ H Dd De S h n r ro bk ct => by
  refine h1 c hc pn H0 env σ H _ _ S h fun ds a vs H1 q1 ha k1 j1 hl1 r1 => ?_
  subst hc
  have T0 := S.hide ha k1 j1 (by rw [hl1]; exact fun z => nomatch z)
  refine h2 (c.with a) rfl pn H0 env σ H1 _ _ T0 q1 fun d v H2 q2 k2 j2 r2 => ?_
  obtain ⟨qi, qj, q⟩ := q2
  have T1 := (S.setO i qi ha k1 j1 hl1 r1).grow k2 j2
  have T2 := T1.setD j (by simpa using qj) (Rp.anti (fun _ _ _ z => mof_setO z) r2)
  exact ⟨.ref a, v, rfl, n _ _ _ (q a) T2⟩
def sParPP (i j : Nat) (x y : TD) : TDS := fun Dd env => x env fun d => y env fun e => i < env.length ∧ j < env.length ∧ Dd.nx ((env.set i (some (.dat d))).set j (some (.dat e)))
theorem rf_parPP (h1 : Rf K rg ua x) (h2 : Rf K rg ub y) : RfS K rg (tPar i j (tCons ua (tCons ub tNil))) (sParPP i j x y) := fun c hc pn H0 env σ H Dd De S h n r ro bk ct => by
  refine h1 c hc pn H0 env σ H _ _ S h fun d v H1 q1 k1 j1 r1 => ?_
  subst hc
  have S1 := S.grow k1 j1
  refine h2 c rfl pn H0 env σ H1 _ _ S1 q1 fun e w H2 q2 k2 j2 r2 => ?_
  obtain ⟨qi, qj, q⟩ := q2
  have T1 := (S1.setD i qi r1).grow k2 j2
  have T2 := T1.setD j (by simpa using qj) (Rp.anti (fun _ _ _ z => mof_setD z) r2)
  exact ⟨v, w, rfl, n _ _ _ q T2⟩
variable (hc : X.calm = true) (hN : X.N.Nodup) (hi : X.N[i]? = some nx) (hj : X.N[j]? = some ny) (hij : i ≠ j) (hx : X.env.scope.names.lookup nx = some .local) (hy : X.env.scope.names.lookup ny = some .local)
include hc hN hi hj hij hx hy
theorem ds_parFF (h1 : DF X K rg a ua xs) (h2 : DF X K rg b ub ys) (hw : swappedStores [.Tuple [.Name nx px, .Name ny py] kt pt] (.Tuple [a, b] k2 pt2) X.env = pure (some [nx, ny])) (hs1 : starEach [a, b] X.env = (false, eval a X.env) :: starEach [b] X.env := by rfl) (hs2 : starEach [b] X.env = (false, eval b X.env) :: starEach [] X.env := by rfl)
    (hs : swapsWithSole [.Tuple [.Name nx px, .Name ny py] kt pt] (.Tuple [a, b] k2 pt2) pos.line X.env = pure false := by rfl) :
    DS X K rg (.Assign [.Tuple [.Name nx px, .Name ny py] kt pt] (.Tuple [a, b] k2 pt2) pos) (tPar i j (tCons ua (tCons ub tNil))) (sParFF i j xs ys) := by
  cases h1.kx
  exact ⟨rfl, ps_par hc hN hi hj hij hx hy (pa_cons h1.pe (pa_cons h2.pe pa_nil hs2) hs1) hw hs, rf_parFF h1.rf h2.rf⟩
theorem ds_parPF (h1 : DP X K rg a ua x) (h2 : DF X K rg b ub ys) (hw : swappedStores [.Tuple [.Name nx px, .Name ny py] kt pt] (.Tuple [a, b] k2 pt2) X.env = pure (some [nx, ny])) (hs1 : starEach [a, b] X.env = (false, eval a X.env) :: starEach [b] X.env := by rfl) (hs2 : starEach [b] X.env = (false, eval b X.env) :: starEach [] X.env := by rfl)
    (hs : swapsWithSole [.Tuple [.Name nx px, .Name ny py] kt pt] (.Tuple [a, b] k2 pt2) pos.line X.env = pure false := by rfl) :
    DS X K rg (.Assign [.Tuple [.Name nx px, .Name ny py] kt pt] (.Tuple [a, b] k2 pt2) pos) (tPar i j (tCons ua (tCons ub tNil))) (sParPF i j x ys) := by
  cases h1.kx
  exact ⟨rfl, ps_par hc hN hi hj hij hx hy (pa_cons h1.pe (pa_cons h2.pe pa_nil hs2) hs1) hw hs, rf_parPF h1.rf h2.rf⟩
theorem ds_parFP (h1 : DF X K rg a ua xs) (h2 : DP X K rg b ub y) (hw : swappedStores [.Tuple [.Name nx px, .Name ny py] kt pt] (.Tuple [a, b] k2 pt2) X.env = pure (some [nx, ny])) (hs1 : starEach [a, b] X.env = (false, eval a X.env) :: starEach [b] X.env := by rfl) (hs2 : starEach [b] X.env = (false, eval b X.env) :: starEach [] X.env := by rfl)
    (hs : swapsWithSole [.Tuple [.Name nx px, .Name ny py] kt pt] (.Tuple [a, b] k2 pt2) pos.line X.env = pure false := by rfl) :
    DS X K rg (.Assign [.Tuple [.Name nx px, .Name ny py] kt pt] (.Tuple [a, b] k2 pt2) pos) (tPar i j (tCons ua (tCons ub tNil))) (sParFP i j xs y) := by
  cases h1.kx
  exact ⟨rfl, ps_par hc hN hi hj hij hx hy (pa_cons h1.pe (pa_cons h2.pe pa_nil hs2) hs1) hw hs, rf_parFP h1.rf h2.rf⟩
theorem ds_par (h1 : DP X K rg a ua x) (h2 : DP X K rg b ub y) (hw : swappedStores [.Tuple [.Name nx px, .Name ny py] kt pt] (.Tuple [a, b] k2 pt2) X.env = pure (some [nx, ny])) (hs1 : starEach [a, b] X.env = (false, eval a X.env) :: starEach [b] X.env := by rfl) (hs2 : starEach [b] X.env = (false, eval b X.env) :: starEach [] X.env := by rfl)
    (hs : swapsWithSole [.Tuple [.Name nx px, .Name ny py] kt pt] (.Tuple [a, b] k2 pt2) pos.line X.env = pure false := by rfl) :
    DS X K rg (.Assign [.Tuple [.Name nx px, .Name ny py] kt pt] (.Tuple [a, b] k2 pt2) pos) (tPar i j (tCons ua (tCons ub tNil))) (sParPP i j x y) := by
  cases h1.kx
  exact ⟨rfl, ps_par hc hN hi hj hij hx hy (pa_cons h1.pe (pa_cons h2.pe pa_nil hs2) hs1) hw hs, rf_parPP h1.rf h2.rf⟩
end
/-! ### further calls -/
def fInt : FL := fun ds Q => match ds with | [.int i] => Q (.int i) | _ => False
theorem cad_int : CaD K (fun xs H Q => (∃ i, xs = [.int i] ∧ Q (.int i) H) ∨ ∃ k, xs = [.bl k] ∧ Q (.int (if k then 1 else 0)) H) fInt := by
  intro M0 M H vs ds Qd Q hM r hf k
  unfold fInt at hf
  split at hf
  · obtain ⟨v, rfl, r1⟩ := r.one
    rw [r1.int]
    exact .inl ⟨_, rfl, k _ _ H hf (Same.refl H) (.int _)⟩
  · exact hf.elim
def fAbs : FL := fun ds Q => match ds with | [.int i] => Q (.int (if i < 0 then -i else i)) | _ => False
theorem cad_abs : CaD K (fun xs H Q => ∃ i, xs = [.int i] ∧ Q (.int (if i < 0 then -i else i)) H) fAbs := by
  intro M0 M H vs ds Qd Q hM r hf k
  unfold fAbs at hf
  split at hf
  · obtain ⟨v, rfl, r1⟩ := r.one
    rw [r1.int]
    exact ⟨_, rfl, k _ _ H hf (Same.refl H) (.int _)⟩
  · exact hf.elim
def fStr : FL := fun ds Q => match ds with | [.str i] => Q (.str i) | _ => False
theorem cad_str : CaD K (fun xs H Q => ∃ a, xs = [.str a] ∧ Q (.str a) H) fStr := by
  intro M0 M H vs ds Qd Q hM r hf k
  unfold fStr at hf
  split at hf
  · obtain ⟨v, rfl, r1⟩ := r.one
    rw [r1.str]
    exact ⟨_, rfl, k _ _ H hf (Same.refl H) (.str _)⟩
  · exact hf.elim
def fMax2 : FL := fun ds Q => match ds with | [.int i, .int j] => Q (.int (if j > i then j else i)) | _ => False
theorem cad_max2 : CaD K (fun xs H Q => ∃ i j, xs = [.int i, .int j] ∧ Q (.int (if j > i then j else i)) H) fMax2 := by
  intro M0 M H vs ds Qd Q hM r hf k
  unfold fMax2 at hf
  split at hf
  · obtain ⟨v, w, rfl, r1, r2⟩ := r.two
    rw [r1.int, r2.int]
    exact ⟨_, _, rfl, k _ _ H hf (Same.refl H) (.int _)⟩
  · exact hf.elim
def fMin2 : FL := fun ds Q => match ds with | [.int i, .int j] => Q (.int (if j < i then j else i)) | _ => False
theorem cad_min2 : CaD K (fun xs H Q => ∃ i j, xs = [.int i, .int j] ∧ Q (.int (if j < i then j else i)) H) fMin2 := by
  intro M0 M H vs ds Qd Q hM r hf k
  unfold fMin2 at hf
  split at hf
  · obtain ⟨v, w, rfl, r1, r2⟩ := r.two
    rw [r1.int, r2.int]
    exact ⟨_, _, rfl, k _ _ H hf (Same.refl H) (.int _)⟩
  · exact hf.elim
theorem RpAll.strs {M : Addr → Prop} {H : Hp} : ∀ zs : List Str, RpAll K M H (zs.map V.str) (zs.map D.str)
  | [] => .nil
  | n :: ns => .cons (.str n) (RpAll.strs ns)
theorem RpAll.ofStrs {M : Addr → Prop} {H : Hp} : ∀ {vs : List V} (zs : List Str), RpAll K M H vs (zs.map D.str) → vs = zs.map V.str
  | _, [], .nil => rfl
  | _, z :: zs, .cons a b => by cases a; rw [RpAll.ofStrs zs b]; rfl
/-- sorted(a list of texts) -/
def fSortS : FL := fun ds Q => match ds with | [.lst es] => ∃ zs : List Str, es = zs.map D.str ∧ zs.length < 64 ∧ ∀ ys : List Str, ys.Perm zs → sortedS ys = true → Q (.lst (ys.map .str)) | _ => False
theorem cad_sortedS : CaD K (rSortedS K) fSortS := by
  intro M0 M H vs ds Qd Q hM r hf k
  unfold fSortS at hf
  split at hf
  · obtain ⟨zs, rfl, hz, q⟩ := hf
    obtain ⟨v, rfl, r1⟩ := r.one
    obtain ⟨p, ws, rfl, h1, a1⟩ := r1.lst
    have e := RpAll.ofStrs zs a1
    subst e
    refine ⟨p, zs, rfl, SqL.of h1, hz, fun ys l hp hs hl => ?_⟩
    exact k _ _ _ (q ys hp hs) (fun b o e => by rw [upd_ne (ne_of_none e hl)]; exact e) (.lst (fun z => hM l z hl) upd_same (RpAll.strs ys))
  · exact hf.elim
/-- -n -/
def sNeg (x : TD) : TD := fun env Q => x env fun d => match d with | .int i => Q (.int (-i)) | _ => False
theorem d_neg (h : DP X K rg e te x) : DP X K rg (.UnaryOp .USub e pos) (tUn (rU fun i => .int (-i)) te) (sNeg x) := by
  cases h.kx
  exact ⟨rfl, pe_un un_neg h.pe, fun c hc pn H0 env σ H Qd Q S ht k => by
  refine h.rf c hc pn H0 env σ H _ _ S ht fun d v H1 q1 k1 j1 r1 => ?_
  cases d with
  | int i => cases r1; exact ⟨i, rfl, k _ _ H1 q1 k1 j1 (.int _)⟩
  | _ => exact q1.elim⟩
/-- xs[::-1] -/
def sRev (x : TD) : TDs := fun env Q => x env fun d => match d with | .lst ds => Q ds.reverse | _ => False
theorem df_rev {kk : Nat} {p1 p2 p3 : Pos} (h : DO X K rg e te x) : DF X K rg (.Subscript e (.Slice none none (some (.UnaryOp .USub (.Constant (.int 1) kk p1) p2)) p3) pos) (tRevL K te) (sRev x) := by
  cases h.kx
  exact ⟨rfl, pe_revL h.pe, fun c hc pn H0 env σ H Qd Q S ht k => by
  refine h.rf c hc pn H0 env σ H _ _ S ht fun d v H1 q1 k1 j1 r1 => ?_
  subst hc
  cases d with
  | lst ds =>
    obtain ⟨p, vs, rfl, h1, a1⟩ := r1.lst
    exact ⟨p, vs, rfl, SqL.of h1, fun l hl => k _ l _ _ q1 (none_back S k1 j1 hl) (fresh_keep k1 hl) (fresh_j S.ok j1 hl) upd_same (fresh_all hl (RpAll.reverse a1))⟩
  | _ => exact q1.elim⟩
/-! ### isinstance of a built-in type -/
def tyD : D → Option String
  | .non => some "NoneType" | .bl _ => some "bool" | .int _ => some "int" | .str _ => some "str" | .lst _ => some "list" | .tup _ => some "tuple" | _ => none
theorem tyD_ok {M0 M : Addr → Prop} {H : Hp} {v : V} {d : D} {T : String} (r : RpO K M0 M H v d) (h : tyD d = some T) : TyX K H v (.type T) := by
  cases d with
  | non => cases h; rw [r.non]; exact .base .non
  | bl b => cases h; rw [r.bl]; exact .base (.bl b)
  | int b => cases h; rw [r.int]; exact .base (.int b)
  | str b => cases h; rw [r.str]; exact .base (.str b)
  | lst ds => cases h; obtain ⟨p, vs, rfl, h1, _⟩ := r.lst; exact .base (.lst h1)
  | tup ds =>
    cases h
    rcases r with r | ⟨_, _, _, _, e, _⟩
    · cases r with
      | tup m e a => exact .base (.tup e)
      | tupK e a => obtain ⟨o, its, n, e1, e2, _⟩ := e; exact .kTuple e1 e2
    · cases e
  | _ => cases h
def sIsi (T : String) (x : TD) : TD := fun env Q => x env fun d => ∃ S b, tyD d = some S ∧ kitB S T = some b ∧ Q (.bl b)
theorem d_isi {T : String} {nm : Str} {p p2 : Pos} (hg : Gl X "isinstance") (hm : X.mg "isinstance" = none) (hg2 : Gl X nm) (hm2 : X.mg nm = none) (hv2 : bootBuiltins nm = some (.type T)) (h : DO X K rg e te x) (hn : nm ≠ "__name__" := by decide) (hd : (nm == ("__debug__" : Str)) = false := by decide)
    (hs1 : starEach [e, .Name nm p2] X.env = (false, eval e X.env) :: starEach [.Name nm p2] X.env := by rfl) (hs2 : starEach [.Name nm p2] X.env = (false, eval (.Name nm p2) X.env) :: starEach [] X.env := by rfl)
    (hpl : (backTo pos (starEach [.Name nm p2] X.env)).any (·.1) = false := by rfl) :
    DP X K rg (.Call (.Name "isinstance" p) [e, .Name nm p2] [] pos) (tCB (rIsi K) (tCons te (tCons (tC (.ty T)) tNil))) (sIsi T x) := by
  cases h.kx
  exact ⟨rfl, pe_callB call_isi hg hm (by decide +kernel) (pa_cons h.pe (pa_cons (pe_bltn (v := .ty T) hg2 hm2 hv2 rfl hn hd) pa_nil hs2) hs1) (by decide) (by decide) hs1 hpl, fun c hc pn H0 env σ H Qd Q S ht k => by
    refine h.rf c hc pn H0 env σ H _ _ S ht fun d v H1 q1 k1 j1 r1 => ?_
    obtain ⟨T', b, e1, e2, q⟩ := q1
    exact ⟨v, .ty T, .type T', .type T, b, rfl, .ty T, tyD_ok r1 e1, kit_ty e2, k _ _ H1 q k1 j1 (.bl b)⟩⟩
/-! ### calls, in short -/
/-- a def of the module that keeps a promise told of data -/
structure Cal (P : Program) (w : World) (K : PySem.W.Frag) (mg : Str → Option Value) (base : Heap) (nm : Str) (lv n : Nat) (tf : Tf) : Prop where
  ex : ∃ (f : Addr) (fd : FuncData) (ps : List Str), FnOk P w K mg base CX0 lv f fd ps (spD K n tf) ∧ mg nm = some (.ref f) ∧ PySem.W.keepIn K (.ref f) = true ∧ Binds K fd ps []
theorem d_callC {lv n : Nat} {tf : Tf} {nm : Str} {p : Pos} (C : Cal X.prog X.w K X.mg X.base nm lv n tf) (hr : Room lv X.A) (hg : Gl X nm) (ha : DA X K rg (e :: es) ta xs) (hdb : (nm == ("__debug__" : Str)) = false := by decide) (he : starEach (e :: es) X.env = (false, eval e X.env) :: starEach es X.env := by rfl) (hpl : (backTo pos (starEach es X.env)).any (·.1) = false := by rfl) :
    DP X K rg (.Call (.Name nm p) (e :: es) [] pos) (tCall (spD K n tf) [] E0 ta) (sCallD n tf rg xs) := by
  obtain ⟨f, fd, ps, F, hm, hk, hb⟩ := C.ex
  exact d_call F hr hg hm hk hb pass0 ha hdb he hpl
theorem d_callCO {lv n : Nat} {tf : Tf} {nm : Str} {p : Pos} (C : Cal X.prog X.w K X.mg X.base nm lv n tf) (hr : Room lv X.A) (hg : Gl X nm) (ha : DAO X K rg (e :: es) ta xs) (hdb : (nm == ("__debug__" : Str)) = false := by decide) (he : starEach (e :: es) X.env = (false, eval e X.env) :: starEach es X.env := by rfl) (hpl : (backTo pos (starEach es X.env)).any (·.1) = false := by rfl) :
    DP X K rg (.Call (.Name nm p) (e :: es) [] pos) (tCall (spD K n tf) [] E0 ta) (sCallO n tf rg xs) := by
  obtain ⟨f, fd, ps, F, hm, hk, hb⟩ := C.ex
  exact d_callO F hr hg hm hk hb pass0 ha hdb he hpl
end
end DL

set_option maxHeartbeats 2000000
/-! zip whose last pair may still be held by somebody -/
namespace ZL
open PySem
open Sem (wp)
abbrev ZAt (h : Heap) (z TI TO : Addr) (f0 : Value) (k : Bool) : Prop := h.get? z = some ⟨.type "zip", none, .fields #[f0, .bool k, .bool false, .ref TI, .ref TO], #[]⟩
def Hold (f0 : Value) : Prop := f0 = .none ∨ ∃ t : Int, f0 = rawInt t
section
variable {prog : Program} {w : World} {A : Around} {E : Value → Shared → Prop} {s : Shared} {z TI TO i1 i2 : Addr} {fp1 fp2 : List Addr} {n1 n2 i : Nat} {P1 P2 : Nat → Value → Prop} {St1 St2 : Nat → Heap → Prop} {a1 a2 f0 : Value} {k : Bool}
theorem alive_ {M : Model} {a : Addr} {Q : Option Obj → Shared → Prop} (h : Q (s.heap.get? a) s) : wpAny M A (loadIfAlive a) Q E s := fun _ _ _ => h
theorem free_ {Q : Bool → Shared → Prop} (hz : ZAt s.heap z TI TO f0 k) (ho : Hold f0) (h1 : Q true s) (h2 : ∀ h', ZAt h' z TI TO f0 true → Heap.SameBut z s.heap h' → Q false { s with heap := h' }) :
    wpAny (model prog w) A (Builtin.SmallTypes.ownedTupleIsFree (.ref z)) Q E s := by
  unfold Builtin.SmallTypes.ownedTupleIsFree
  rcases ho with rfl | ⟨t, rfl⟩
  · exact wpAny_bind (wpAny_field hz rfl (x := Value.none) rfl (wpAny_pure h1))
  · refine wpAny_bind (wpAny_field hz rfl (x := rawInt t) rfl ?_)
    show wpAny _ _ (loadIfAlive t.toNat >>= _) _ _ s
    refine wpAny_bind (alive_ ?_)
    cases q : s.heap.get? t.toNat with
    | none => exact wpAny_pure h1
    | some o =>
      show wpAny _ _ (field (.ref z) 1 >>= _) _ _ s
      refine wpAny_bind (wpAny_field hz rfl (x := Value.bool k) rfl ?_)
      cases k with
      | true => exact wpAny_pure (h2 s.heap hz (Heap.SameBut.refl ..))
      | false =>
        refine wpAny_bind (wpAny_setField_rec hz (by simp) fun g0 hz0 hs0 => ?_)
        exact wpAny_pure (h2 g0 hz0 hs0)
/-- one pair more -/
theorem zip_item {Q : Value → Shared → Prop} (S : ZipSep2 z TI TO i1 i2 fp1 fp2) (D1 : Draws prog w A i1 fp1 n1 P1 St1) (D2 : Draws prog w A i2 fp2 n2 P2 St2) (hz : ZAt s.heap z TI TO f0 k) (ho : Hold f0)
    (hTI : IsTupOf2 s.heap TI (.ref i1) (.ref i2)) (hTO : IsTupOf2 s.heap TO a1 a2) (st1 : St1 i s.heap) (st2 : St2 i s.heap) (l1 : i < n1) (l2 : i < n2)
    (hQ : ∀ y1 y2 b1 b2 g0 k' h' tk, P1 i y1 → P2 i y2 → ZAt h' z TI TO g0 k' → Hold g0 → IsTupOf2 h' TO b1 b2 → St1 (i + 1) h' → St2 (i + 1) h' → IsTupOf2 h' s.heap.objs.size y1 y2 → h'.objs.size = s.heap.objs.size + 1 →
      (∀ b o, b ≠ z → b ≠ TO → b ≠ i1 → b ≠ i2 → s.heap.get? b = some o → h'.get? b = some o) → Q (.ref s.heap.objs.size) { s with heap := h', toks := tk }) :
    wpAny (model prog w) A (Builtin.«zip.__next__» ⟨[.ref z], []⟩) (fun fin s' => ∃ v, fin = .done (.ret v) ∧ Q v s') E s := by
  obtain ⟨hp, gg, dd, tk0, oo⟩ := s
  show wpAny _ _ (field (.ref z) 2 >>= _) _ _ _
  refine wpAny_bind (wpAny_field hz rfl (x := Value.bool false) rfl ?_)
  show wpAny _ _ (field (.ref z) 3 >>= _) _ _ _
  refine wpAny_bind (wpAny_field hz rfl (x := Value.ref TI) rfl ?_)
  refine wpAny_bind (wpAny_seqItems hTI rfl ?_)
  show wpAny _ _ (Builtin.SmallTypes.ownedTupleIsFree (.ref z) >>= _) _ _ _
  refine wpAny_bind (free_ hz ho ?_ fun g9 hz9 hs9 => ?_)
  · -- its own tuple is used again
    simp only [if_true]
    refine wpAny_bind (wpAny_rule (wpAny_bind (wpAny_field hz rfl (x := Value.ref TO) rfl (wpAny_bind (wpAny_setField_rec hz (by simp) fun m0 z0 e0 => ?_)))))
    replace z0 : ZAt m0 z TI TO .ellipsis k := z0
    replace e0 : Heap.SameBut z hp m0 := e0
    refine wpAny_bind ?_
    simp only [List.zipIdx_cons, List.zipIdx_nil, List.forIn_cons, List.forIn_nil]
    refine wpAny_bind (wpAny_bind (wpAny_onRaise ?_))
    show wpAny _ _ (Builtin.SmallTypes.nextOf (.ref i1) >>= _) _ _ ⟨m0, gg, dd, tk0, oo⟩
    refine wpAny_bind (D1.item i _ _ _ l1 (D1.over st1 e0 S.zf1) fun y1 m1 t1 p1 c1 e1 => wpAny_pure ?_)
    replace e1 : Heap.SameBut i1 m0 m1 := e1
    have u1 : IsTupOf2 m1 TO a1 a2 := e1.extBut _ _ S.Ti1 (e0.extBut _ _ S.TOz hTO)
    refine wpAny_bind (wpAny_seqItems (s := ⟨m1, gg, dd, t1, oo⟩) u1 rfl (wpAny_bind (updateSeq_IsTupOf2 (s := ⟨m1, gg, dd, t1, oo⟩) u1 fun m2 u2 e2 => ?_)))
    replace u2 : IsTupOf2 m2 TO y1 a2 := u2
    replace e2 : Heap.SameBut TO m1 m2 := e2
    refine wpAny_bind (wpAny_letGo (wpAny_pure (wpAny_bind (wpAny_bind (wpAny_onRaise ?_)))))
    show wpAny _ _ (Builtin.SmallTypes.nextOf (.ref i2) >>= _) _ _ ⟨m2, gg, dd, t1, oo⟩
    refine wpAny_bind (D2.item i _ _ _ l2 (D2.over (D2.over (D2.over st2 e0 S.zf2) e1 S.sep1_2) e2 S.Tf2) fun y2 m3 t2 p2 c2 e3 => wpAny_pure ?_)
    replace e3 : Heap.SameBut i2 m2 m3 := e3
    have u3 : IsTupOf2 m3 TO y1 a2 := e3.extBut _ _ S.Ti2 u2
    refine wpAny_bind (wpAny_seqItems (s := ⟨m3, gg, dd, t2, oo⟩) u3 rfl (wpAny_bind (updateSeq_IsTupOf2 (s := ⟨m3, gg, dd, t2, oo⟩) u3 fun m4 u4 e4 => ?_)))
    replace u4 : IsTupOf2 m4 TO y1 y2 := u4
    replace e4 : Heap.SameBut TO m3 m4 := e4
    refine wpAny_bind (wpAny_letGo (wpAny_pure (wpAny_pure ?_)))
    refine wpAny_bind (wpAny_seqItems (s := ⟨m4, gg, dd, t2, oo⟩) u4 rfl (wpAny_bind (wpAny_newTuple ?_)))
    have sz : m4.objs.size = hp.objs.size := by rw [e4.1, e3.1, e2.1, e1.1, e0.1]
    have z4 : ZAt m4 z TI TO .ellipsis k := e4.extBut _ _ S.TOz.symm (e3.extBut _ _ S.zi2 (e2.extBut _ _ S.TOz.symm (e1.extBut _ _ S.zi1 z0)))
    have kp4 : ∀ b o, b ≠ z → b ≠ TO → b ≠ i1 → b ≠ i2 → hp.get? b = some o → m4.get? b = some o := fun b o bz bT b1 b2 q =>
      e4.extBut _ _ bT (e3.extBut _ _ b2 (e2.extBut _ _ bT (e1.extBut _ _ b1 (e0.extBut _ _ bz q))))
    have f1 : St1 (i + 1) m4 := D1.over (D1.over (D1.over c1 e2 S.Tf1) e3 S.sep2_1) e4 S.Tf1
    have f2 : St2 (i + 1) m4 := D2.over c2 e4 S.Tf2
    have zlt : z < m4.objs.size := Heap.lt_size z4
    show wpAny _ _ (Builtin.SmallTypes.ownedTupleHandOut (.ref z) (.ref m4.objs.size) >>= _) _ _ ⟨m4.push ⟨.type "tuple", none, .seq #[y1, y2] 0, #[]⟩, gg, dd, t2, oo⟩
    refine wpAny_bind ?_
    unfold Builtin.SmallTypes.ownedTupleHandOut
    have z5 : ZAt (m4.push ⟨.type "tuple", none, .seq #[y1, y2] 0, #[]⟩) z TI TO .ellipsis k := Heap.get?_push_of_some _ z4
    refine wpAny_bind (wpAny_setField_rec z5 (by simp) fun m6 z6 e6 => ?_)
    replace z6 : ZAt m6 z TI TO (rawInt m4.objs.size) k := z6
    replace e6 : Heap.SameBut z (m4.push ⟨.type "tuple", none, .seq #[y1, y2] 0, #[]⟩) m6 := e6
    refine wpAny_setField_rec z6 (by simp) fun m7 z7 e7 => ?_
    replace z7 : ZAt m7 z TI TO (rawInt m4.objs.size) false := z7
    replace e7 : Heap.SameBut z m6 m7 := e7
    have up : ∀ b o, b ≠ z → m4.get? b = some o → m7.get? b = some o := fun b o hb q => e7.extBut _ _ hb (e6.extBut _ _ hb (Heap.get?_push_of_some _ q))
    have T7 : IsTupOf2 m7 m4.objs.size y1 y2 := e7.extBut _ _ (Nat.ne_of_gt zlt) (e6.extBut _ _ (Nat.ne_of_gt zlt) (Heap.get?_push_size _ rfl))
    have sz7 : m7.objs.size = m4.objs.size + 1 := by rw [e7.1, e6.1, Heap.size_push]
    rw [sz] at T7 sz7
    refine wpAny_pure ⟨_, rfl, ?_⟩
    show Q (.ref m4.objs.size) ⟨m7, gg, dd, t2, oo⟩
    rw [sz]
    exact hQ y1 y2 y1 y2 _ _ m7 t2 p1 p2 z7 (.inr ⟨_, rfl⟩) (up _ _ S.TOz u4) (D1.frame _ _ _ f1 fun b hb o q => up b o (fun e => S.zf1 (e ▸ hb)) q) (D2.frame _ _ _ f2 fun b hb o q => up b o (fun e => S.zf2 (e ▸ hb)) q) T7 sz7
      fun b o bz bT b1 b2 q => up b o bz (kp4 b o bz bT b1 b2 q)
  · -- somebody holds it
    simp only [Bool.false_eq_true, if_false]
    replace hz9 : ZAt g9 z TI TO f0 true := hz9
    replace hs9 : Heap.SameBut z hp g9 := hs9
    refine wpAny_bind ?_
    rw [← Array.forIn_toList]
    simp only [List.forIn_cons, List.forIn_nil]
    refine wpAny_bind (wpAny_bind (wpAny_holding ?_))
    show wpAny _ _ (Builtin.SmallTypes.nextOf (.ref i1) >>= _) _ _ ⟨g9, gg, dd, tk0, oo⟩
    refine wpAny_bind (D1.item i _ _ _ l1 (D1.over st1 hs9 S.zf1) fun y1 m1 t1 p1 c1 e1 => wpAny_pure (wpAny_pure ?_))
    replace e1 : Heap.SameBut i1 g9 m1 := e1
    refine wpAny_bind (wpAny_bind (wpAny_holding ?_))
    show wpAny _ _ (Builtin.SmallTypes.nextOf (.ref i2) >>= _) _ _ ⟨m1, gg, dd, t1, oo⟩
    refine wpAny_bind (D2.item i _ _ _ l2 (D2.over (D2.over st2 hs9 S.zf2) e1 S.sep1_2) fun y2 m2 t2 p2 c2 e2 => wpAny_pure (wpAny_pure ?_))
    replace e2 : Heap.SameBut i2 m1 m2 := e2
    refine wpAny_pure ?_
    refine wpAny_bind (wpAny_newTuple (hsz := by show 2 ≤ sizeLine; rw [sizeLine_eq]; decide) (wpAny_pure ?_))
    have sz : m2.objs.size = hp.objs.size := by rw [e2.1, e1.1, hs9.1]
    have z2 : ZAt m2 z TI TO f0 true := e2.extBut _ _ S.zi2 (e1.extBut _ _ S.zi1 hz9)
    have ps : ∀ b o, m2.get? b = some o → (m2.push ⟨.type "tuple", none, .seq #[y1, y2] 0, #[]⟩).get? b = some o := fun b o q => Heap.get?_push_of_some _ q
    refine ⟨_, rfl, ?_⟩
    show Q (.ref m2.objs.size) ⟨m2.push ⟨.type "tuple", none, .seq #[y1, y2] 0, #[]⟩, gg, dd, t2, oo⟩
    rw [sz]
    refine hQ y1 y2 a1 a2 _ _ _ t2 p1 p2 (ps _ _ z2) ho (ps _ _ (e2.extBut _ _ S.Ti2 (e1.extBut _ _ S.Ti1 (hs9.extBut _ _ S.TOz hTO)))) (D1.frame _ _ _ (D1.over c1 e2 S.sep2_1) fun b _ o q => ps b o q) (D2.frame _ _ _ c2 fun b _ o q => ps b o q) ?_ (by rw [Heap.size_push, sz]) ?_
    · rw [← sz]; exact Heap.get?_push_size _ rfl
    · exact fun b o bz bT b1 b2 q => ps b o (e2.extBut _ _ b2 (e1.extBut _ _ b1 (hs9.extBut _ _ bz q)))
/-- no pair more -/
theorem zip_end {Q : Fin → Shared → Prop} (S : ZipSep2 z TI TO i1 i2 fp1 fp2) (D1 : Draws prog w A i1 fp1 n1 P1 St1) (D2 : Draws prog w A i2 fp2 n2 P2 St2) (hz : ZAt s.heap z TI TO f0 k) (ho : Hold f0)
    (hTI : IsTupOf2 s.heap TI (.ref i1) (.ref i2)) (hTO : IsTupOf2 s.heap TO a1 a2) (st1 : St1 i s.heap) (st2 : St2 i s.heap) (l1 : i ≤ n1) (l2 : i ≤ n2) (hend : i = n1 ∨ i = n2)
    (hE : ∀ h' tk e, (∀ b o, b ≠ z → b ≠ TO → b ≠ i1 → b ≠ i2 → s.heap.get? b = some o → h'.get? b = some o) → (∃ o, h'.get? e = some o ∧ o.cls = .type "StopIteration") → E (.ref e) { s with heap := h', toks := tk }) :
    wpAny (model prog w) A (Builtin.«zip.__next__» ⟨[.ref z], []⟩) Q E s := by
  obtain ⟨hp, gg, dd, tk0, oo⟩ := s
  show wpAny _ _ (field (.ref z) 2 >>= _) _ _ _
  refine wpAny_bind (wpAny_field hz rfl (x := Value.bool false) rfl ?_)
  show wpAny _ _ (field (.ref z) 3 >>= _) _ _ _
  refine wpAny_bind (wpAny_field hz rfl (x := Value.ref TI) rfl ?_)
  refine wpAny_bind (wpAny_seqItems hTI rfl ?_)
  show wpAny _ _ (Builtin.SmallTypes.ownedTupleIsFree (.ref z) >>= _) _ _ _
  refine wpAny_bind (free_ hz ho ?_ fun g9 hz9 hs9 => ?_)
  · simp only [if_true]
    refine wpAny_bind (wpAny_rule (wpAny_bind (wpAny_field hz rfl (x := Value.ref TO) rfl (wpAny_bind (wpAny_setField_rec hz (by simp) fun m0 z0 e0 => ?_)))))
    replace z0 : ZAt m0 z TI TO .ellipsis k := z0
    replace e0 : Heap.SameBut z hp m0 := e0
    refine wpAny_bind ?_
    simp only [List.zipIdx_cons, List.zipIdx_nil, List.forIn_cons, List.forIn_nil]
    refine wpAny_bind (wpAny_bind (wpAny_onRaise ?_))
    show wpAny _ _ (Builtin.SmallTypes.nextOf (.ref i1) >>= _) _ _ ⟨m0, gg, dd, tk0, oo⟩
    by_cases h1 : i < n1
    · refine wpAny_bind (D1.item i _ _ _ h1 (D1.over st1 e0 S.zf1) fun y1 m1 t1 p1 c1 e1 => wpAny_pure ?_)
      replace e1 : Heap.SameBut i1 m0 m1 := e1
      have u1 : IsTupOf2 m1 TO a1 a2 := e1.extBut _ _ S.Ti1 (e0.extBut _ _ S.TOz hTO)
      refine wpAny_bind (wpAny_seqItems (s := ⟨m1, gg, dd, t1, oo⟩) u1 rfl (wpAny_bind (updateSeq_IsTupOf2 (s := ⟨m1, gg, dd, t1, oo⟩) u1 fun m2 u2 e2 => ?_)))
      replace e2 : Heap.SameBut TO m1 m2 := e2
      have hi2 : i = n2 := by omega
      refine wpAny_bind (wpAny_letGo (wpAny_pure (wpAny_bind (wpAny_bind (wpAny_onRaise ?_)))))
      show wpAny _ _ (Builtin.SmallTypes.nextOf (.ref i2) >>= _) _ _ ⟨m2, gg, dd, t1, oo⟩
      refine wpAny_bind (D2.done ⟨m2, gg, dd, t1, oo⟩ _ _ (by rw [← hi2]; exact D2.over (D2.over (D2.over st2 e0 S.zf2) e1 S.sep1_2) e2 S.Tf2) fun m3 x e3 he => ?_)
      replace e3 : Heap.ExtBut i2 m2 m3 := e3
      obtain ⟨ox, hox, hcx⟩ := he
      replace hox : m3.get? x = some ox := hox
      have z3 : ZAt m3 z TI TO .ellipsis k := e3 _ _ S.zi2 (e2.extBut _ _ S.TOz.symm (e1.extBut _ _ S.zi1 z0))
      have xz : x ≠ z := fun q => by subst q; rw [z3] at hox; cases hox; simp at hcx
      refine wpAny_setField_rec (s := ⟨m3, gg, dd, t1, oo⟩) z3 (by simp) fun m4 _ e4 => ?_
      replace e4 : Heap.SameBut z m3 m4 := e4
      exact hE m4 t1 x (fun b o bz bT b1 b2 q => e4.extBut _ _ bz (e3 _ _ b2 (e2.extBut _ _ bT (e1.extBut _ _ b1 (e0.extBut _ _ bz q))))) ⟨ox, e4.extBut _ _ xz hox, hcx⟩
    · have hi1 : i = n1 := by omega
      refine wpAny_bind (D1.done ⟨m0, gg, dd, tk0, oo⟩ _ _ (by rw [← hi1]; exact D1.over st1 e0 S.zf1) fun m3 x e3 he => ?_)
      replace e3 : Heap.ExtBut i1 m0 m3 := e3
      obtain ⟨ox, hox, hcx⟩ := he
      replace hox : m3.get? x = some ox := hox
      have z3 : ZAt m3 z TI TO .ellipsis k := e3 _ _ S.zi1 z0
      have xz : x ≠ z := fun q => by subst q; rw [z3] at hox; cases hox; simp at hcx
      refine wpAny_setField_rec (s := ⟨m3, gg, dd, tk0, oo⟩) z3 (by simp) fun m4 _ e4 => ?_
      replace e4 : Heap.SameBut z m3 m4 := e4
      exact hE m4 tk0 x (fun b o bz bT b1 b2 q => e4.extBut _ _ bz (e3 _ _ b1 (e0.extBut _ _ bz q))) ⟨ox, e4.extBut _ _ xz hox, hcx⟩
  · simp only [Bool.false_eq_true, if_false]
    replace hs9 : Heap.SameBut z hp g9 := hs9
    refine wpAny_bind ?_
    rw [← Array.forIn_toList]
    simp only [List.forIn_cons, List.forIn_nil]
    refine wpAny_bind (wpAny_bind (wpAny_holding ?_))
    show wpAny _ _ (Builtin.SmallTypes.nextOf (.ref i1) >>= _) _ _ ⟨g9, gg, dd, tk0, oo⟩
    by_cases h1 : i < n1
    · refine wpAny_bind (D1.item i _ _ _ h1 (D1.over st1 hs9 S.zf1) fun y1 m1 t1 p1 c1 e1 => wpAny_pure (wpAny_pure ?_))
      replace e1 : Heap.SameBut i1 g9 m1 := e1
      have hi2 : i = n2 := by omega
      refine wpAny_bind (wpAny_bind (wpAny_holding ?_))
      show wpAny _ _ (Builtin.SmallTypes.nextOf (.ref i2) >>= _) _ _ ⟨m1, gg, dd, t1, oo⟩
      refine wpAny_bind (D2.done ⟨m1, gg, dd, t1, oo⟩ _ _ (by rw [← hi2]; exact D2.over (D2.over st2 hs9 S.zf2) e1 S.sep1_2) fun m3 x e3 he => ?_)
      replace e3 : Heap.ExtBut i2 m1 m3 := e3
      exact hE m3 t1 x (fun b o bz bT b1 b2 q => e3 _ _ b2 (e1.extBut _ _ b1 (hs9.extBut _ _ bz q))) he
    · have hi1 : i = n1 := by omega
      refine wpAny_bind (D1.done ⟨g9, gg, dd, tk0, oo⟩ _ _ (by rw [← hi1]; exact D1.over st1 hs9 S.zf1) fun m3 x e3 he => ?_)
      replace e3 : Heap.ExtBut i1 g9 m3 := e3
      exact hE m3 tk0 x (fun b o bz bT b1 b2 q => e3 _ _ b1 (hs9.extBut _ _ bz q)) he
theorem next_item {Q : Option Value → Shared → Prop} (S : ZipSep2 z TI TO i1 i2 fp1 fp2) (D1 : Draws prog w A.in1 i1 fp1 n1 P1 St1) (D2 : Draws prog w A.in1 i2 fp2 n2 P2 St2) (hz : ZAt s.heap z TI TO f0 k) (ho : Hold f0)
    (hTI : IsTupOf2 s.heap TI (.ref i1) (.ref i2)) (hTO : IsTupOf2 s.heap TO a1 a2) (st1 : St1 i s.heap) (st2 : St2 i s.heap) (l1 : i < n1) (l2 : i < n2)
    (hQ : ∀ y1 y2 b1 b2 g0 k' h' tk, P1 i y1 → P2 i y2 → ZAt h' z TI TO g0 k' → Hold g0 → IsTupOf2 h' TO b1 b2 → St1 (i + 1) h' → St2 (i + 1) h' → IsTupOf2 h' s.heap.objs.size y1 y2 → h'.objs.size = s.heap.objs.size + 1 →
      (∀ b o, b ≠ z → b ≠ TO → b ≠ i1 → b ≠ i2 → s.heap.get? b = some o → h'.get? b = some o) → Q (some (.ref s.heap.objs.size)) { s with heap := h', toks := tk }) : wpAny (model prog w) A (pyNext (.ref z)) Q E s := by
  have ty : s.TypeIs (.ref z) "zip" := ⟨_, hz, rfl⟩
  unfold pyNext
  refine wpAny_bind (wpAny_attempt (wpAny_callSpecial?_slot (name := Str.ofString "__next__") ty F.slot_zip_next (wpAny_call_entry F.slot_zip_next ty F.entry_zip_next ?_ (F.args_zip_next_1 _))))
  exact zip_item S D1 D2 hz ho hTI hTO st1 st2 l1 l2 fun y1 y2 b1 b2 g0 k' h' tk q1 q2 q3 q4 q5 q6 q7 q8 q9 q10 => wpAny_pure (hQ y1 y2 b1 b2 g0 k' h' tk q1 q2 q3 q4 q5 q6 q7 q8 q9 q10)
theorem next_end {Q : Option Value → Shared → Prop} (S : ZipSep2 z TI TO i1 i2 fp1 fp2) (D1 : Draws prog w A.in1 i1 fp1 n1 P1 St1) (D2 : Draws prog w A.in1 i2 fp2 n2 P2 St2) (hz : ZAt s.heap z TI TO f0 k) (ho : Hold f0)
    (hTI : IsTupOf2 s.heap TI (.ref i1) (.ref i2)) (hTO : IsTupOf2 s.heap TO a1 a2) (st1 : St1 i s.heap) (st2 : St2 i s.heap) (l1 : i ≤ n1) (l2 : i ≤ n2) (hend : i = n1 ∨ i = n2)
    (hQ : ∀ h' tk, (∀ b o, b ≠ z → b ≠ TO → b ≠ i1 → b ≠ i2 → s.heap.get? b = some o → h'.get? b = some o) → Q none { s with heap := h', toks := tk }) : wpAny (model prog w) A (pyNext (.ref z)) Q E s := by
  have ty : s.TypeIs (.ref z) "zip" := ⟨_, hz, rfl⟩
  unfold pyNext
  refine wpAny_bind (wpAny_attempt (wpAny_callSpecial?_slot (name := Str.ofString "__next__") ty F.slot_zip_next (wpAny_call_entry F.slot_zip_next ty F.entry_zip_next ?_ (F.args_zip_next_1 _))))
  refine zip_end S D1 D2 hz ho hTI hTO st1 st2 l1 l2 hend fun h' tk x kp he => ?_
  obtain ⟨ox, hox, hcx⟩ := he
  exact wpAny_bind (wpAny_isInstance (T := "StopIteration") (b := true) ⟨ox, hox, hcx⟩ isSubtype_stop (wpAny_pure (hQ _ _ kp)))
end
end ZL

set_option maxHeartbeats 1000000
namespace ZL
open PySem L2 PySem.Spec PyProof.Rows
/-! ### zip whose pairs go to one name -/
/-- a tuple (k) or a list that is read -/
def SqK (k : Bool) (K : PySem.W.Frag) (H : Hp) (a : Addr) (xs : List V) : Prop := if k = true then SqT K H a xs else SqL K H a xs
def itAt (k : Bool) (h : Heap) (it a : Addr) (i : Nat) : Prop := if k = true then h.IsTupleIter it a i else h.IsListIter it a i
def sqAt (k : Bool) (h : Heap) (a : Addr) (xs : Array Value) : Prop := if k = true then h.IsTuple a xs else h.IsList a xs
theorem draws_k (k : Bool) {prog : Program} {w : World} {A : Around} (hh : A.handled = none) (it a : Addr) (hne : a ≠ it) (xs : Array Value) : Draws prog w A it [it, a] xs.size (fun i v => xs[i]? = some v) (fun i h => itAt k h it a i ∧ sqAt k h a xs) := by
  cases k with
  | true => exact Draws.tuple hh it a hne xs
  | false => exact Draws.list hh it a hne xs
theorem itAt.lt {k : Bool} {h : Heap} {it a : Addr} {i : Nat} (t : itAt k h it a i) : ∃ o, h.get? it = some o ∧ ∀ v, o.data ≠ .cell v := by
  cases k with
  | true => obtain ⟨o, e, _, d⟩ := t; exact ⟨o, e, fun v q => by rw [d] at q; cases q⟩
  | false => obtain ⟨o, e, _, d⟩ := t; exact ⟨o, e, fun v q => by rw [d] at q; cases q⟩
theorem itAt.keep {k : Bool} {h h' : Heap} {it a : Addr} {i : Nat} (t : itAt k h it a i) (e : ∀ o, h.get? it = some o → h'.get? it = some o) : itAt k h' it a i := by
  cases k with
  | true => exact Heap.IsTupleIter.at t e
  | false => exact Heap.IsListIter.at t e
theorem sq_of {X : Cx} {pins : List (Addr × Obj)} {σ : L2.St} {H : Hp} {s : Shared} {k : Bool} {a : Addr} {xs : List V} (I : Inv X pins σ H s) (h : SqK k X.K H a xs) : ∃ its : List Value, Vals xs its ∧ sqAt k s.heap a its.toArray ∧ a < s.heap.objs.size := by
  cases k with
  | true => obtain ⟨its, r, p, _⟩ := I.tuple h; exact ⟨its, r, p, let ⟨_, e, _⟩ := p; Heap.lt_size e⟩
  | false => obtain ⟨its, r, p, _⟩ := I.list h; exact ⟨its, r, p.isList, p.lt⟩
theorem sq_inj {X : Cx} {pins : List (Addr × Obj)} {σ : L2.St} {H : Hp} {s : Shared} {k : Bool} {a : Addr} {xs ys : List V} (I : Inv X pins σ H s) (h : SqK k X.K H a xs) (h' : SqK k X.K H a ys) : xs = ys := by
  cases k with
  | true => exact I.tuple_inj h h'
  | false => exact I.list_inj h h'
def ItN (K : PySem.W.Frag) (ka kb : Bool) (a b : Addr) : It :=
  ⟨fun i H => ∃ (xs ys : List V) (x y : V), SqK ka K H a xs ∧ SqK kb K H b ys ∧ xs[i]? = some x ∧ ys[i]? = some y,
   fun i H v H' => ∃ T x y, v = .ref T ∧ H T = none ∧ H' = upd H T (.tup [x, y]) ∧ (∀ xs, SqK ka K H a xs → xs[i]? = some x) ∧ ∀ ys, SqK kb K H b ys → ys[i]? = some y,
   fun i H => ∃ xs ys : List V, SqK ka K H a xs ∧ SqK kb K H b ys ∧ (xs.length ≤ i ∨ ys.length ≤ i) ∧ i ≤ xs.length ∧ i ≤ ys.length⟩
def tnN (ka kb : Bool) (z TI TO i1 i2 a b : Addr) (i : Nat) (h : Heap) : Prop :=
  (∃ f0 k, ZAt h z TI TO f0 k ∧ Hold f0) ∧ IsTupOf2 h TI (.ref i1) (.ref i2) ∧ (∃ x y, IsTupOf2 h TO x y) ∧ itAt ka h i1 a i ∧ itAt kb h i2 b i
structure Apart (z TI TO i1 i2 a b : Addr) : Prop where
  p : ZipSep2 z TI TO i1 i2 [i1, a] [i2, b]
  n1 : a ≠ i1
  n2 : b ≠ i2
  aTI : a ≠ TI
  bTI : b ≠ TI
/-- one turn, whatever becomes of the pair -/
theorem turn_item {X : Cx} {pins : List (Addr × Obj)} {σ : L2.St} {H : Hp} {s : Shared} {E : Value → Shared → Prop} {ka kb : Bool} {z TI TO i1 i2 a b : Addr} {i : Nat} {Q : Option Value → Shared → Prop} {A : Around} (hA : A.handled = none) (D : Apart z TI TO i1 i2 a b) (I : Inv X pins σ H s)
    (hf : ∀ c ∈ [z, TI, TO, i1, i2], FpOk X pins H c) (st : tnN ka kb z TI TO i1 i2 a b i s.heap) (hg : (ItN X.K ka kb a b).go i H)
    (hQ : ∀ u s' x H', u = Value.ref s.heap.objs.size → x = V.ref s.heap.objs.size → Inv X pins σ H' s' → (ItN X.K ka kb a b).yld i H x H' → tnN ka kb z TI TO i1 i2 a b (i + 1) s'.heap → (∀ c ∈ [z, TI, TO, i1, i2], H' c = none) → Q (some u) s') :
    wpAny (model X.prog X.w) A (pyNext (.ref z)) Q E s := by
  obtain ⟨⟨f0, k, hz, ho⟩, hTI, ⟨x0, y0, hTO⟩, h1, h2⟩ := st
  obtain ⟨xs, ys, x, y, hqx, hqy, hx, hy⟩ := hg
  obtain ⟨its, rv, p, lt1⟩ := sq_of I hqx
  obtain ⟨its2, rv2, p2, lt2⟩ := sq_of I hqy
  obtain ⟨u, hu, ru⟩ := rv.get hx
  obtain ⟨u2, hu2, ru2⟩ := rv2.get hy
  have hh : A.in1.handled = none := hA
  refine next_item D.p (draws_k ka hh i1 a D.n1 its.toArray) (draws_k kb hh i2 b D.n2 its2.toArray) hz ho hTI hTO ⟨h1, p⟩ ⟨h2, p2⟩ (i := i) (by have := (List.getElem?_eq_some_iff.mp hu).1; simpa using this) (by have := (List.getElem?_eq_some_iff.mp hu2).1; simpa using this)
    fun y1 y2 b1 b2 g0 k' h' tk q1 q2 q3 q4 q5 q6 q7 q8 q9 q10 => ?_
  have e1 : y1 = u := by
    have : its.toArray[i]? = some y1 := q1
    simp only [List.getElem?_toArray] at this
    rw [hu] at this; exact (Option.some.inj this).symm
  have e2 : y2 = u2 := by
    have : its2.toArray[i]? = some y2 := q2
    simp only [List.getElem?_toArray] at this
    rw [hu2] at this; exact (Option.some.inj this).symm
  subst e1 e2
  have new : ObjOk X.prog X.w (upd H s.heap.objs.size (.tup [x, y])) h' s.heap.objs.size (.tup [x, y]) := ⟨by show 2 ≤ sizeLine; decide, [y1, y2], .cons ru (.cons ru2 .nil), ⟨_, q8, rfl, _, rfl⟩⟩
  have I1 : Inv X pins σ (upd H s.heap.objs.size (.tup [x, y])) { s with heap := h', toks := tk } :=
    I.turnedNew (ch := [z, TI, TO, i1, i2]) (fun c o hb q => q10 c o (fun e => hb (by simp [e])) (fun e => hb (by simp [e])) (fun e => hb (by simp [e])) (fun e => hb (by simp [e])) q) hf (Nat.le_refl _) new
  refine hQ _ _ _ _ rfl rfl I1 ⟨_, x, y, rfl, I.hok.fresh (Nat.le_refl _), rfl, fun l hl => by rw [sq_inj I hl hqx]; exact hx, fun l hl => by rw [sq_inj I hl hqy]; exact hy⟩ ⟨⟨g0, k', q3, q4⟩, ?_, ⟨b1, b2, q5⟩, q6.1, q7.1⟩ fun c hcm => ?_
  · exact q10 _ _ D.p.TIz D.p.TITO D.p.TIi1 D.p.TIi2 hTI
  · have hlt : c < s.heap.objs.size := by
      simp only [List.mem_cons, List.not_mem_nil, or_false] at hcm
      rcases hcm with q | q | q | q | q <;> subst q
      · exact Heap.lt_size hz
      · exact Heap.lt_size hTI
      · exact Heap.lt_size hTO
      · obtain ⟨_, e, _⟩ := h1.lt; exact Heap.lt_size e
      · obtain ⟨_, e, _⟩ := h2.lt; exact Heap.lt_size e
    rw [upd_ne (Nat.ne_of_lt hlt)]
    exact (hf c hcm).1
theorem turn_done {X : Cx} {pins : List (Addr × Obj)} {σ : L2.St} {H : Hp} {s : Shared} {E : Value → Shared → Prop} {ka kb : Bool} {z TI TO i1 i2 a b : Addr} {i : Nat} {Q : Option Value → Shared → Prop} {A : Around} (hA : A.handled = none) (D : Apart z TI TO i1 i2 a b) (I : Inv X pins σ H s)
    (hf : ∀ c ∈ [z, TI, TO, i1, i2], FpOk X pins H c) (st : tnN ka kb z TI TO i1 i2 a b i s.heap) (hg : (ItN X.K ka kb a b).stop i H) (hQ : ∀ s', Inv X pins σ H s' → Q none s') :
    wpAny (model X.prog X.w) A (pyNext (.ref z)) Q E s := by
  obtain ⟨⟨f0, k, hz, ho⟩, hTI, ⟨x0, y0, hTO⟩, h1, h2⟩ := st
  obtain ⟨xs, ys, hqx, hqy, hend, le1, le2⟩ := hg
  obtain ⟨its, rv, p, lt1⟩ := sq_of I hqx
  obtain ⟨its2, rv2, p2, lt2⟩ := sq_of I hqy
  have e1 := rv.length
  have e2 := rv2.length
  have hh : A.in1.handled = none := hA
  refine next_end D.p (draws_k ka hh i1 a D.n1 its.toArray) (draws_k kb hh i2 b D.n2 its2.toArray) hz ho hTI hTO ⟨h1, p⟩ ⟨h2, p2⟩ (i := i) (by simp; omega) (by simp; omega) (by simp; omega) fun h' tk kp => ?_
  exact hQ _ (I.turnedL (t' := tk) (ch := [z, TI, TO, i1, i2]) (fun c o hb q => kp c o (fun e => hb (by simp [e])) (fun e => hb (by simp [e])) (fun e => hb (by simp [e])) (fun e => hb (by simp [e])) q) hf)
theorem turn_zipN {P : Program} {w : World} {K : PySem.W.Frag} {nm : Str} {npos : Pos} {ka kb : Bool} {a b z TI TO i1 i2 : Addr} (D : Apart z TI TO i1 i2 a b) : Turn P w K (.Name nm npos) (ItN K ka kb a b) [z, TI, TO, i1, i2] z (tnN ka kb z TI TO i1 i2 a b) where
  mem := by simp
  obj := fun i h st c hcm => by
    obtain ⟨⟨f0, k, hz, ho⟩, hTI, ⟨x0, y0, hTO⟩, h1, h2⟩ := st
    simp only [List.mem_cons, List.not_mem_nil, or_false] at hcm
    rcases hcm with q | q | q | q | q <;> subst q
    · exact ⟨_, hz, fun v q => nomatch q⟩
    · exact ⟨_, hTI, fun v q => nomatch q⟩
    · exact ⟨_, hTO, fun v q => nomatch q⟩
    · exact h1.lt
    · exact h2.lt
  keep := fun i h h' st kp => by
    obtain ⟨⟨f0, k, hz, ho⟩, hTI, ⟨x0, y0, hTO⟩, h1, h2⟩ := st
    exact ⟨⟨f0, k, kp z (by simp) _ hz, ho⟩, kp TI (by simp) _ hTI, ⟨x0, y0, kp TO (by simp) _ hTO⟩, h1.keep fun o q => kp i1 (by simp) o q, h2.keep fun o q => kp i2 (by simp) o q⟩
  item := by
    intro X hP hw hK hc i pins s σ H E I hf st hg
    subst hP hw hK
    refine turn_item (I.ok.hd hc) D I hf st hg fun u s' x H' eu ex I' y' st' n' => ?_
    subst eu
    exact ⟨_, rfl, wpAny_pure ⟨x, H', I', by rw [ex]; rfl, y', st', n'⟩⟩
  done := by
    intro X hP hw hK hc i pins s σ H E I hf st hg
    subst hP hw hK
    exact turn_done (I.ok.hd hc) D I hf st hg fun s' I' => ⟨rfl, I'⟩
  self := fun A i s Q E st h => by
    obtain ⟨⟨f0, k, hz, ho⟩, _⟩ := st
    have ty : s.TypeIs (.ref z) "zip" := ⟨_, hz, rfl⟩
    refine wpAny_pyIter_slot ty PySem.F.slot_zip_iter (wpAny_call_entry PySem.F.slot_zip_iter ty PySem.F.entry_zip_iter ?_ (PySem.F.args_zip_iter_1 _))
    show wpAny _ _ (ret (.ref z)) _ _ s
    exact wpAny_pure ⟨_, rfl, "zip", _, ty, PySem.F.slot_zip_next.lookup, h⟩
theorem apart_of (N a b : Nat) (ha : a < N) (hb : b < N) : Apart (N + 4) (N + 2) (N + 3) N (N + 1) a b := by
  have ne : ∀ x y : Nat, x ≠ y → (x : Addr) ≠ y := fun _ _ h => h
  have nm : ∀ x y t : Nat, x ≠ y → x ≠ t → (x : Addr) ∉ ([y, t] : List Addr) := fun x y t h1 h2 h => by
    simp only [List.mem_cons, List.not_mem_nil, or_false] at h
    exact h.elim h1 h2
  exact ⟨⟨ne _ _ (by omega), ne _ _ (by omega), ne _ _ (by omega), ne _ _ (by omega), by simp, nm _ _ _ (by omega) (by omega), nm _ _ _ (by omega) (by omega), ne _ _ (by omega), by simp, nm _ _ _ (by omega) (by omega), nm _ _ _ (by omega) (by omega), nm _ _ _ (by omega) (by omega), nm _ _ _ (by omega) (by omega)⟩,
    ne _ _ (by omega), ne _ _ (by omega), ne _ _ (by omega), ne _ _ (by omega)⟩
theorem zip_made {X : Cx} {pins : List (Addr × Obj)} {σ : L2.St} {H : Hp} {s : Shared} {E : Value → Shared → Prop} {k : Bool} {a b : Addr} {xs ys : List V} {Q : Value → Shared → Prop} (I : Inv X pins σ H s) (h1 : SqK k X.K H a xs) (h2 : SqK k X.K H b ys)
    (hQ : ∀ z TI TO i1 i2 h', Inv X pins σ H { s with heap := h' } → Apart z TI TO i1 i2 a b → tnN k k z TI TO i1 i2 a b 0 h' → (∀ c ∈ [z, TI, TO, i1, i2], FpOk X pins H c ∧ c < h'.objs.size) → Q (.ref z) { s with heap := h' }) :
    wpAny (model X.prog X.w) X.A (call (.type "zip") [.ref a, .ref b]) Q E s := by
  obtain ⟨its, rv, p, lt1⟩ := sq_of I h1
  obtain ⟨its2, rv2, p2, lt2⟩ := sq_of I h2
  have fok : ∀ c, c ∈ [s.heap.objs.size + 4, s.heap.objs.size + 2, s.heap.objs.size + 3, s.heap.objs.size, s.heap.objs.size + 1] → FpOk X pins H c ∧ c < s.heap.objs.size + 5 := fun c hcm => by
    have hle : s.heap.objs.size ≤ c ∧ c < s.heap.objs.size + 5 := by
      simp only [List.mem_cons, List.not_mem_nil, or_false] at hcm
      rcases hcm with q | q | q | q | q <;> subst q <;> constructor <;> first | exact Nat.le_add_right _ _ | exact Nat.le_refl _ | exact Nat.add_lt_add_left (by decide) _ | exact Nat.lt_add_of_pos_right (by decide)
    exact ⟨I.fpOk hle.1 (I.hok.fresh hle.1), hle.2⟩
  have D := apart_of s.heap.objs.size a b lt1 lt2
  cases k with
  | false =>
    refine call_zip_2 p p2 fun h' hz hTI hTO j1 j2 sz kp => ?_
    exact hQ _ _ _ _ _ h' (I.kept (t' := s.toks) kp) D ⟨⟨_, _, hz, .inl rfl⟩, hTI, ⟨_, _, hTO⟩, j1, j2⟩ fun c hcm => by rw [sz]; exact fok c hcm
  | true =>
    refine RZ.call_zipT p p2 fun h' hz hTI hTO j1 j2 sz kp => ?_
    exact hQ _ _ _ _ _ h' (I.kept (t' := s.toks) kp) D ⟨⟨_, _, hz, .inl rfl⟩, hTI, ⟨_, _, hTO⟩, j1, j2⟩ fun c hcm => by rw [sz]; exact fok c hcm
/-- zip(a, b), walked into one name -/
def iZipN (K : PySem.W.Frag) (ta : TA) : TI := fun σ H R => ta σ H fun vs H1 => ∃ (k : Bool) (a b : Addr) (xs ys : List V), vs = [.ref a, .ref b] ∧ SqK k K H1 a xs ∧ SqK k K H1 b ys ∧ R (ItN K k k a b) H1
theorem pi_zipN {X : Cx} {e e2 : Expr} {ta : TA} {p pos npos : Pos} {nm : Str} (hg : Gl X "zip") (hm : X.mg "zip" = none) (ha : PA X [e, e2] ta)
    (hs : starEach [e, e2] X.env = (false, eval e X.env) :: starEach [e2] X.env := by rfl) (hpl : (backTo pos (starEach [e2] X.env)).any (·.1) = false := by rfl) : PI X (.Name nm npos) (.Call (.Name "zip" p) [e, e2] [] pos) (iZipN X.K ta) := by
  refine ⟨fun pins s σ H R I h => Call_ (ld_blt I hg hm PyProof.Rows.boot_zip (PyProof.Rows.callWith_type1 (thn (ha.run pos pins s σ H _ I h) fun us s1 ⟨vs, H1, I1, r1, q1⟩ => ?_) hs hpl))⟩
  obtain ⟨k, a, b, xs, ys, rfl, h1, h2, q⟩ := q1
  obtain ⟨u, u', rfl, ru, ru'⟩ := vals2 r1
  cases ru
  cases ru'
  refine zip_made I1 h1 h2 fun z TI TO i1 i2 h' I2 D st fp => ?_
  have T := turn_zipN (P := X.prog) (w := X.w) (K := X.K) (nm := nm) (npos := npos) (ka := k) (kb := k) D
  exact T.self X.A 0 _ _ _ st ⟨z, _, _, _, H1, rfl, I2, T, st, fun c hcm => (fp c hcm).1, q⟩
/-! ### list(zip(a, b)) -/
theorem zip_no_len : typeLookup (.type "zip") "__len__" = pure none := by rw [typeLookup_type, builtinLookup_eq_fast]; kernel_rfl
theorem zip_no_hint : typeLookup (.type "zip") "__length_hint__" = pure none := by rw [typeLookup_type, builtinLookup_eq_fast]; kernel_rfl
/-- what is made of the two: new pairs -/
def Pairs (xs ys : List V) (H0 H : Hp) (out : List V) : Prop := ∀ (j : Nat) (v : V), out[j]? = some v → ∃ (T : Addr) (x y : V), v = V.ref T ∧ H T = some (.tup [x, y]) ∧ H0 T = none ∧ xs[j]? = some x ∧ ys[j]? = some y
section
variable {X : Cx} {pins : List (Addr × Obj)} {σ : L2.St} {H0 : Hp} {z TI TO i1 i2 a b S : Addr} {ka kb : Bool} {xs ys : List V} {Rs : Result → Shared → Prop} {A1 : Around}
theorem loop_zip (hA : A1.handled = none) (D : Apart z TI TO i1 i2 a b) (hS0 : H0 S = none) (qx : SqK ka X.K H0 a xs) (qy : SqK kb X.K H0 b ys) (hz : xs.length ≤ sizeLine)
    (hdone : ∀ out H s, Inv X pins σ H s → H S = some (.lst out) → out.length = min xs.length ys.length → Pairs xs ys H0 H out → Same H0 H → Rs (.ok (.ret .none)) s) :
    ∀ (m : Nat) (out : List V) (H : Hp) (s : Shared), Inv X pins σ H s → H S = some (.lst out) → m + out.length = min xs.length ys.length → Pairs xs ys H0 H out → Same H0 H → tnN ka kb z TI TO i1 i2 a b out.length s.heap → (∀ c ∈ [z, TI, TO, i1, i2], FpOk X pins H c) →
      codeAny (model X.prog X.w) A1 (.builtin "list.extend.loop" ⟨[.ref S, .ref z, .none], []⟩) Rs s := by
  have sq : ∀ {k : Bool} {G G' : Hp} {c : Addr} {zs : List V}, Same G G' → SqK k X.K G c zs → SqK k X.K G' c zs := fun {k G G' c zs} e h => by
    cases k with
    | false => exact e.seq h
    | true =>
      rcases h with (h | ⟨o, h⟩) | h
      · exact .inl (.inl (e _ _ h))
      · exact .inl (.inr ⟨o, e _ _ h⟩)
      · exact .inr h
  intro m
  induction m with
  | zero =>
    intro out H s I hl hm hp hs st fp
    refine codeAny_builtin PySem.F.entry_extend_loop ?_
    rw [Around.under_plainId PySem.F.plain_extend_loop _]
    show wpAny _ A1.in1 (pyNext (.ref z) >>= _) _ _ s
    refine wpAny_bind (turn_done hA D I fp st ⟨xs, ys, sq hs qx, sq hs qy, by omega, by omega, by omega⟩ fun s' I' => wpAny_pure ?_)
    exact hdone out H s' I' hl (by omega) hp hs
  | succ m ih =>
    intro out H s I hl hm hp hs st fp
    refine codeAny_builtin PySem.F.entry_extend_loop ?_
    rw [Around.under_plainId PySem.F.plain_extend_loop _]
    show wpAny _ A1.in1 (pyNext (.ref z) >>= _) _ _ s
    have l1 : out.length < xs.length := by omega
    have l2 : out.length < ys.length := by omega
    refine wpAny_bind (turn_item hA D I fp st ⟨xs, ys, xs[out.length], ys[out.length], sq hs qx, sq hs qy, by simp [l1], by simp [l2]⟩ fun u s' x H' eu ex I' y' st' n' => ?_)
    obtain ⟨T, x1, y1, e1, e2, e3, e4, e5⟩ := y'
    have hS : H' S = some (.lst out) := by rw [e3, upd_ne (ne_of_none hl e2)]; exact hl
    show wpAny _ A1.in1 (updateSeq S (·.push u) >>= _) _ _ _
    obtain ⟨zz, its, kk, r2, hlen, eo⟩ := I'.lstM hS
    have ru : RelV x u := by rw [eu, ex]; rfl
    refine wpAny_bind (wpAny_updateSeq eo rfl (wpAny_pure ⟨plainId_quiet PySem.F.plain_extend_loop _, ?_⟩) (by rw [List.size_toArray]; omega) (by show (its.toArray.push u).size ≤ sizeLine + 1; rw [Array.size_push, List.size_toArray]; omega))
    have I2 := I'.lset (f := (·.push u)) (its' := its ++ [u]) (t' := s'.toks) hS eo (by simp) (r2.append (.cons ru .nil)) (by rw [List.length_append, List.length_singleton]; omega)
    have keepT : ∀ T' o, H T' = some o → T' ≠ S → upd H' S (.lst (out ++ [x])) T' = some o := fun T' o e ne => by rw [upd_ne ne, e3, upd_ne (ne_of_none e e2)]; exact e
    refine ih (out ++ [x]) _ _ I2 upd_same (by rw [List.length_append, List.length_singleton]; omega) (fun j v hv => ?_) (fun c o e => ?_) ?_ (fun c hcm => ?_)
    · by_cases hj : j < out.length
      · rw [List.getElem?_append_left hj] at hv
        obtain ⟨T', x', y', f1, f2, f3, f4, f5⟩ := hp j v hv
        exact ⟨T', x', y', f1, keepT T' _ f2 (ne_of f2 hl (fun q => nomatch q)), f3, f4, f5⟩
      · have hj' : j = out.length := by
          have := (List.getElem?_eq_some_iff.mp hv).1
          rw [List.length_append, List.length_singleton] at this; omega
        subst hj'
        rw [List.getElem?_append_right (Nat.le_refl _), Nat.sub_self] at hv
        cases hv
        have TS : T ≠ S := fun q => by rw [q, hl] at e2; cases e2
        refine ⟨T, x1, y1, e1, by rw [upd_ne TS, e3, upd_same], ?_, e4 _ (sq hs qx), e5 _ (sq hs qy)⟩
        cases q : H0 T with
        | none => rfl
        | some o => rw [hs T o q] at e2; cases e2
    · have cS : c ≠ S := fun q => by rw [q, hS0] at e; cases e
      exact keepT c o (hs c o e) cS
    · rw [List.length_append, List.length_singleton]
      obtain ⟨⟨f0, k, w1, w2⟩, w3, ⟨x0, y0, w4⟩, w5, w6⟩ := st'
      have nS : ∀ c, c ∈ [z, TI, TO, i1, i2] → c ≠ S := fun c hcm q => by
        have := (fp c hcm).1
        rw [q, hl] at this; cases this
      have kp : ∀ c o, c ∈ [z, TI, TO, i1, i2] → s'.heap.get? c = some o → (s'.heap.update S (Obj.mapSeq (·.push u))).get? c = some o := fun c o hcm e => (Heap.get?_update_other _ _ (Ne.symm (nS c hcm))).trans e
      exact ⟨⟨f0, k, kp _ _ (by simp) w1, w2⟩, kp _ _ (by simp) w3, ⟨x0, y0, kp _ _ (by simp) w4⟩, w5.keep fun o e => kp _ _ (by simp) e, w6.keep fun o e => kp _ _ (by simp) e⟩
    · refine ⟨?_, (fp c hcm).2⟩
      have cS : c ≠ S := fun q => by have := (fp c hcm).1; rw [q, hl] at this; cases this
      rw [upd_ne cS]
      exact n' c hcm
theorem call_list_zip {s : Shared} {H : Hp} {E : Value → Shared → Prop} {Q : Value → Shared → Prop} (hA : X.A.handled = none) (I : Inv X pins σ H s) (D : Apart z TI TO i1 i2 a b) (qx : SqK ka X.K H a xs) (qy : SqK kb X.K H b ys) (hz : xs.length ≤ sizeLine)
    (st : tnN ka kb z TI TO i1 i2 a b 0 s.heap) (fp : ∀ c ∈ [z, TI, TO, i1, i2], FpOk X pins H c ∧ c < s.heap.objs.size)
    (hQ : ∀ S out H' s', H S = none → H' S = some (.lst out) → out.length = min xs.length ys.length → Pairs xs ys (upd H S (.lst [])) H' out → Same H H' → Inv X pins σ H' s' → Q (.ref S) s') :
    wpAny (model X.prog X.w) X.A (call (.type "list") [.ref z]) Q E s := by
  refine callType_codes (Q₁ := fun obj t => obj = .ref s.heap.objs.size ∧ t = { s with heap := s.heap.push ⟨.type "list", none, .seq #[] 0, #[]⟩ }) PySem.F.called_list (PySem.F.typeCall_list_1 _) PySem.F.entry_list_init (code_list_new _ ⟨rfl, rfl⟩) fun obj t ht => ?_
  obtain ⟨rfl, rfl⟩ := ht
  have hS : (s.heap.push ⟨.type "list", none, .seq #[] 0, #[]⟩).get? s.heap.objs.size = some ⟨.type "list", none, .seq #[] 0, #[]⟩ := Heap.get?_push_size _ rfl
  refine ⟨⟨_, hS, rfl⟩, PySem.F.args_list_init_2 _ _, ?_⟩
  have fr : H s.heap.objs.size = none := I.hok.fresh (Nat.le_refl _)
  have I1 : Inv X pins σ (upd H s.heap.objs.size (.lst [])) { s with heap := s.heap.push ⟨.type "list", none, .seq #[] 0, #[]⟩ } := I.lnew (its := []) (t' := s.toks) .nil (Nat.zero_le _)
  have cS : ∀ c ∈ [z, TI, TO, i1, i2], c ≠ s.heap.objs.size := fun c hc => Nat.ne_of_lt (fp c hc).2
  obtain ⟨⟨f0, k, w1, w2⟩, w3, ⟨x0, y0, w4⟩, w5, w6⟩ := st
  show wpAny _ _ (Builtin.List.listItems (.ref s.heap.objs.size) >>= fun old => Builtin.List.listUpdate (.ref s.heap.objs.size) (fun _ => #[]) >>= fun _ => letGo old.toList.reverse >>= fun _ => Builtin.List.listExtendWith (.ref s.heap.objs.size) (.ref z) .none) _ _ _
  refine wpAny_bind ?_
  unfold Builtin.List.listItems
  refine wpAny_bind (wpAny_seqItems hS rfl (wpAny_pure ?_))
  show wpAny _ _ (updateSeq s.heap.objs.size (fun _ => #[]) >>= fun _ => letGo (#[] : Array Value).toList.reverse >>= fun _ => Builtin.List.listExtendWith (.ref s.heap.objs.size) (.ref z) .none) _ _ _
  refine wpAny_bind (wpAny_updateSeq hS rfl (wpAny_bind (wpAny_letGo ?_)))
  have I2 := I1.lset (f := fun _ => #[]) (its := []) (its' := []) (ys := []) (t' := s.toks) upd_same hS rfl .nil (Nat.zero_le _)
  rw [upd_upd] at I2
  have kp0 : ∀ c o, c ∈ [z, TI, TO, i1, i2] → s.heap.get? c = some o → ((s.heap.push ⟨.type "list", none, .seq #[] 0, #[]⟩).update s.heap.objs.size (Obj.mapSeq fun _ => (#[] : Array Value))).get? c = some o := fun c o hc e =>
    (Heap.get?_update_other _ _ (Ne.symm (cS c hc))).trans (Heap.get?_push_of_some _ e)
  -- the list takes what the walk hands out
  unfold Builtin.List.listExtendWith
  have zS : s.heap.objs.size ≠ z := (cS z (by simp)).symm
  refine wpAny_bind (wpAny_typeOf (T := "zip") ⟨_, kp0 z _ (by simp) w1, rfl⟩ ?_)
  have d1 : Builtin.List.listSameRef (.ref s.heap.objs.size) (.ref z) = false := by simp [Builtin.List.listSameRef, zS]
  have d2 : (Value.type "zip" == Value.type "list") = false := by decide
  have d3 : (Value.type "zip" == Value.type "tuple") = false := by decide
  simp only [d1, d2, d3, Bool.or_false, Bool.false_eq_true, if_false]
  have ty : ∀ {t : Shared}, t.heap = ((s.heap.push ⟨.type "list", none, .seq #[] 0, #[]⟩).update s.heap.objs.size (Obj.mapSeq fun _ => (#[] : Array Value))) → t.TypeIs (.ref z) "zip" := fun {t} e => ⟨_, by rw [e]; exact kp0 z _ (by simp) w1, rfl⟩
  refine wpAny_bind (wpAny_pyIter_slot (ty rfl) PySem.F.slot_zip_iter (wpAny_call_entry PySem.F.slot_zip_iter (ty rfl) PySem.F.entry_zip_iter ?_ (PySem.F.args_zip_iter_1 _)))
  show wpAny _ _ (ret (.ref z)) _ _ _
  refine wpAny_pure ⟨_, rfl, "zip", _, ty rfl, PySem.F.slot_zip_next.lookup, ?_⟩
  refine wpAny_bind (wpAny_holding ?_)
  unfold Builtin.List.listLengthHint
  refine wpAny_bind (wpAny_specialOf (ty rfl) zip_no_len ?_)
  show wpAny _ _ (specialOf (Value.ref z) (Str.ofString "__length_hint__") >>= _) _ _ _
  refine wpAny_bind (wpAny_specialOf (ty rfl) zip_no_hint (wpAny_pure ?_))
  show wpAny _ _ (rule "list.extend.makes-room" >>= fun _ => Builtin.List.listTouch (.ref s.heap.objs.size) >>= fun _ => again (.builtin "list.extend.loop" ⟨[.ref s.heap.objs.size, .ref z, .none], []⟩)) _ _ _
  refine wpAny_bind (wpAny_rule (wpAny_bind ?_))
  obtain ⟨zz, its, kk, r3, hl3, e3⟩ := I2.lstM upd_same
  cases r3
  show wpAny _ _ (updateSeq s.heap.objs.size (·.push .none) >>= fun _ => updateSeq s.heap.objs.size (·.pop)) _ _ _
  refine wpAny_bind (wpAny_updateSeq e3 rfl ?_)
  have I3 := I2.lset (f := (·.push Value.none)) (its' := [Value.none]) (ys := [.non]) (t' := s.toks) upd_same e3 (by simp) (.cons rfl .nil) (by rw [List.length_singleton, sizeLine_eq]; decide)
  obtain ⟨z4, its4, k4, r4, hl4, e4⟩ := I3.lstM upd_same
  obtain ⟨u4, rfl, ru4⟩ := r4.one
  refine wpAny_updateSeq e4 rfl ?_ (by show 1 ≤ sizeLine; rw [sizeLine_eq]; decide) (by show 0 ≤ sizeLine + 1; exact Nat.zero_le _)
  have I4 := I3.lset (f := (·.pop)) (its := [u4]) (its' := []) (ys := []) (t' := s.toks) upd_same e4 (by rfl) .nil (Nat.zero_le _)
  rw [upd_upd, upd_upd] at I4
  have kp4 : ∀ {h5 h6 : Heap}, h5 = ((s.heap.push ⟨.type "list", none, .seq #[] 0, #[]⟩).update s.heap.objs.size (Obj.mapSeq fun _ => (#[] : Array Value))) → h6 = (h5.update s.heap.objs.size (Obj.mapSeq (·.push Value.none))).update s.heap.objs.size (Obj.mapSeq (·.pop)) →
      ∀ c o, c ∈ [z, TI, TO, i1, i2] → s.heap.get? c = some o → h6.get? c = some o := fun {h5 h6} e5 e6 c o hc e => by
    subst e5 e6
    exact (Heap.get?_update_other _ _ (Ne.symm (cS c hc))).trans ((Heap.get?_update_other _ _ (Ne.symm (cS c hc))).trans (kp0 c o hc e))
  have sm : Same H (upd H s.heap.objs.size (.lst [])) := fun c o e => by rw [upd_ne (ne_of_none e fr)]; exact e
  refine wpAny_pure ⟨plainId_quiet PySem.F.plain_extend_loop _, loop_zip (A1 := X.A.in1) (H0 := H) (xs := xs) (ys := ys) (ka := ka) (kb := kb) hA D fr qx qy hz ?gd (min xs.length ys.length) [] _ _ I4 upd_same (by simp) (fun j v hv => by simp at hv) sm ?gs fun c hc => ?gf⟩
  case gd =>
    intro out H' s' I' hl ho hp hs
    refine ⟨rfl, hQ _ out H' s' fr hl ho (fun j v hv => ?_) hs I'⟩
    obtain ⟨T, x, y, f1, f2, f3, f4, f5⟩ := hp j v hv
    refine ⟨T, x, y, f1, f2, ?_, f4, f5⟩
    rw [upd_ne (fun q => by rw [q, hl] at f2; cases f2)]
    exact f3
  case gs => exact ⟨⟨f0, k, kp4 rfl rfl _ _ (by simp) w1, w2⟩, kp4 rfl rfl _ _ (by simp) w3, ⟨x0, y0, kp4 rfl rfl _ _ (by simp) w4⟩, w5.keep fun o e => kp4 rfl rfl _ _ (by simp) e, w6.keep fun o e => kp4 rfl rfl _ _ (by simp) e⟩
  case gf =>
    refine ⟨?_, (fp c hc).1.2⟩
    rw [upd_ne (cS c hc)]
    exact (fp c hc).1.1
/-- list(zip(a, b)) -/
def tListZip (K : PySem.W.Frag) (ta : TA) : TE := fun σ H Q => ta σ H fun vs H1 => ∃ (k : Bool) (a b : Addr) (xs ys : List V), vs = [.ref a, .ref b] ∧ SqK k K H1 a xs ∧ SqK k K H1 b ys ∧ xs.length ≤ sizeLine ∧
  ∀ S out H2, H1 S = none → H2 S = some (.lst out) → out.length = min xs.length ys.length → Pairs xs ys (upd H1 S (.lst [])) H2 out → Same H1 H2 → Q (.ref S) H2
theorem pe_listZip {e e2 : Expr} {ta : TA} {p p2 pos pos2 : Pos} (hg : Gl X "list") (hm : X.mg "list" = none) (hg2 : Gl X "zip") (hm2 : X.mg "zip" = none) (hc : X.calm = true) (ha : PA X [e, e2] ta)
    (hs : starEach [e, e2] X.env = (false, eval e X.env) :: starEach [e2] X.env := by rfl) (hpl : (backTo pos2 (starEach [e2] X.env)).any (·.1) = false := by rfl)
    (hs2 : starEach [Expr.Call (.Name "zip" p2) [e, e2] [] pos2] X.env = (false, eval (.Call (.Name "zip" p2) [e, e2] [] pos2) X.env) :: starEach [] X.env := by rfl) (hpl2 : (backTo pos (starEach [] X.env)).any (·.1) = false := by rfl) :
    PE X (.Call (.Name "list" p) [.Call (.Name "zip" p2) [e, e2] [] pos2] [] pos) (tListZip X.K ta) := by
  refine ⟨fun pins s σ H Q I h => ?_⟩
  refine wpAny_Call_Name_kw (ld_blt I hg hm (by decide +kernel : bootBuiltins "list" = some (.type "list")) ?_)
  refine PyProof.Rows.callWith_type1 ?_ hs2 hpl2
  rw [hs2]
  show wpAny _ _ (spliced ((false, eval (.Call (.Name "zip" p2) [e, e2] [] pos2) X.env) :: backTo pos (starEach [] X.env))) _ _ s
  refine Calls.spliced_cons (Call_ (ld_blt I hg2 hm2 PyProof.Rows.boot_zip (PyProof.Rows.callWith_type1 (thn (ha.run pos2 pins s σ H _ I h) fun us s1 ⟨vs, H1, I1, r1, q1⟩ => ?_) hs hpl)))
  obtain ⟨k, a, b, xs, ys, rfl, h1, h2, hz, q⟩ := q1
  obtain ⟨u, u', rfl, ru, ru'⟩ := vals2 r1
  cases ru
  cases ru'
  refine zip_made I1 h1 h2 fun z TI TO i1 i2 h' I2 D st fp => Calls.spliced_nil ?_
  exact call_list_zip (I.ok.hd hc) I2 D h1 h2 hz st fp fun S out H' s' e1 e2 e3 e4 e5 I3 => ⟨.ref S, H', I3, rfl, q S out H' e1 e2 e3 e4 e5⟩
end
end ZL

namespace DL
open PySem L2 PySem.Spec PyProof.Rows ZL
def pairD (xs ys : List D) : List D := List.zipWith (fun x y => .tup [x, y]) xs ys
theorem pairD_get {xs ys : List D} {i : Nat} {x y : D} (h1 : xs[i]? = some x) (h2 : ys[i]? = some y) : (pairD xs ys)[i]? = some (.tup [x, y]) := by
  unfold pairD
  rw [List.getElem?_zipWith, h1, h2]
theorem pairD_length {xs ys : List D} : (pairD xs ys).length = min xs.length ys.length := by simp [pairD]
/-- two of one kind -/
def zipF (ds : List D) (Q : List D → List D → Prop) : Prop := match ds with
  | [.lst xs, .lst ys] => Q xs ys
  | [.tup xs, .tup ys] => Q xs ys
  | _ => False
def sZip (u : TDs) : TDs := fun env Q => u env fun ds => zipF ds fun xs ys => Q (pairD xs ys)
section
variable {X : Cx} {K : PySem.W.Frag} {rg : Rg} {tg e e2 : Expr} {te : TE} {ta : TA} {u : TDs} {pos : Pos}
theorem sq_lst {M0 M : Addr → Prop} {H : Hp} {v : V} {xs : List D} (hs : ∀ a, M0 a → M a) (r : RpO K M0 M H v (.lst xs)) : ∃ a vs, v = .ref a ∧ RpAll K M H vs xs ∧ ∀ H', Keep M0 H H' → SqK false K H' a vs := by
  rcases r with r | ⟨a, vs, ds, rfl, e, m, h, aa⟩
  · cases r with | lst m h aa => exact ⟨_, _, rfl, aa, fun H' k => SqL.of (k _ _ h fun z => m (hs _ z))⟩
  · cases e; exact ⟨a, vs, rfl, aa, fun H' k => SqL.of (k _ _ h m)⟩
theorem sq_tup {M0 M : Addr → Prop} {H : Hp} {v : V} {xs : List D} (hs : ∀ a, M0 a → M a) (r : RpO K M0 M H v (.tup xs)) : ∃ a vs, v = .ref a ∧ RpAll K M H vs xs ∧ ∀ H', Keep M0 H H' → SqK true K H' a vs := by
  rcases r with r | ⟨a, vs, ds, rfl, e, m, h, aa⟩
  · cases r with
    | tup m h aa => exact ⟨_, _, rfl, aa, fun H' k => SqT.of (k _ _ h fun z => m (hs _ z))⟩
    | tupK h aa => exact ⟨_, _, rfl, aa, fun H' k => (Or.inr h : SqT K H' _ _)⟩
  · cases e
theorem zipF_seq {M0 M : Addr → Prop} {H : Hp} {vs : List V} {ds : List D} {Q : List D → List D → Prop} (hs : ∀ a, M0 a → M a) (r : RpOs K M0 M H vs ds) (h : zipF ds Q) :
    ∃ k a b vx vy xs ys, vs = [.ref a, .ref b] ∧ RpAll K M H vx xs ∧ RpAll K M H vy ys ∧ Q xs ys ∧ ∀ H', Keep M0 H H' → SqK k K H' a vx ∧ SqK k K H' b vy := by
  unfold zipF at h
  split at h
  · obtain ⟨v, w, rfl, r1, r2⟩ := r.two
    obtain ⟨a, vx, rfl, a1, k1⟩ := sq_lst hs r1
    obtain ⟨b, vy, rfl, a2, k2⟩ := sq_lst hs r2
    exact ⟨false, a, b, vx, vy, _, _, rfl, a1, a2, h, fun H' k => ⟨k1 H' k, k2 H' k⟩⟩
  · obtain ⟨v, w, rfl, r1, r2⟩ := r.two
    obtain ⟨a, vx, rfl, a1, k1⟩ := sq_tup hs r1
    obtain ⟨b, vy, rfl, a2, k2⟩ := sq_tup hs r2
    exact ⟨true, a, b, vx, vy, _, _, rfl, a1, a2, h, fun H' k => ⟨k1 H' k, k2 H' k⟩⟩
  · exact h.elim
/-- pairs that are new -/
def YNew (vx vy : List V) : Nat → Hp → V → Hp → Prop := fun i H v H' => ∃ T x y, v = .ref T ∧ H T = none ∧ H' = upd H T (.tup [x, y]) ∧ vx[i]? = some x ∧ vy[i]? = some y
theorem pair_facts {c : Dc} {env : En} {H1 : Hp} {vx vy : List V} {xs ys : List D} (r1 : RpAll K (Mof c env) H1 vx xs) (r2 : RpAll K (Mof c env) H1 vy ys) (M : Addr → Prop) (i : Nat) (H2 : Hp) (v : V) (H3 : Hp) (k : Keep (Mof c env) H1 H2) (hm : ∀ a o, H1 a = some o → M a → Mof c env a) (dom : ∀ a, M a → H2 a ≠ none)
    (y : YNew vx vy i H2 v H3) : ∃ d, (pairD xs ys)[i]? = some d ∧ Same H2 H3 ∧ Rp K M H3 v d := by
  obtain ⟨T, x, y, rfl, hT, rfl, hx, hy⟩ := y
  obtain ⟨dx, hdx, rx⟩ := RpAll.get r1 hx
  obtain ⟨dy, hdy, ry⟩ := RpAll.get r2 hy
  have move : ∀ {w : V} {d : D}, Rp K (Mof c env) H1 w d → Rp K M (upd H2 T (.tup [x, y])) w d := fun {w d} r => by
    have q1 : Rp K (fun b => Mof c env b ∨ M b) H1 w d := Rp.anti (fun b o e z => z.elim id (hm b o e)) r
    have q2 : Rp K (fun b => Mof c env b ∨ M b) H2 w d := Rp.keep (k.mono fun b z => .inl z) q1
    exact Rp.keep (Keep.upd_new hT) (Rp.anti (fun _ _ _ z => .inr z) q2)
  exact ⟨_, pairD_get hdx hdy, fun b o e => by rw [upd_ne (ne_of_none e hT)]; exact e, .tup (fun z => dom T z hT) upd_same (.cons (move rx) (.cons (move ry) .nil))⟩
theorem walk_N {k : Bool} {a b : Addr} {vx vy : List V} {n : Nat} (hn : n = min vx.length vy.length) : Walk (ItN K k k a b) n (fun H => SqK k K H a vx ∧ SqK k K H b vy) (YNew vx vy) := by
  subst hn
  refine ⟨fun i _ hi q => ?_, fun _ q => ⟨vx, vy, q.1, q.2, by omega, by omega, by omega⟩, fun i H v H' _ q y => ?_⟩
  · have h1 : i < vx.length := by omega
    have h2 : i < vy.length := by omega
    exact ⟨vx, vy, vx[i], vy[i], q.1, q.2, by simp [h1], by simp [h2]⟩
  · obtain ⟨T, x, z, h1, h2, h3, h4, h5⟩ := y
    exact ⟨T, x, z, h1, h2, h3, h4 vx q.1, h5 vy q.2⟩
theorem di_zipN {p npos : Pos} {nm : Str} (hg : Gl X "zip") (hm : X.mg "zip" = none) (ha : DAO X K rg [e, e2] ta u) (hs : starEach [e, e2] X.env = (false, eval e X.env) :: starEach [e2] X.env := by rfl) (hpl : (backTo pos (starEach [e2] X.env)).any (·.1) = false := by rfl) :
    DI X K rg true (.Name nm npos) (.Call (.Name "zip" p) [e, e2] [] pos) (iZipN K ta) (sZip u) := by
  cases ha.kx
  exact ⟨rfl, pi_zipN hg hm ha.pa hs hpl, fun c hc pn H0 env σ H Qd R S ht k => by
    refine ha.rf c hc pn H0 env σ H _ _ S ht fun ds vs H1 q1 k1 j1 r1 => ?_
    obtain ⟨kd, a, b, vx, vy, xs, ys, rfl, a1, a2, q, ks⟩ := zipF_seq (fun a z => .inl z) r1 q1
    refine ⟨kd, a, b, vx, vy, rfl, (ks H1 Keep.refl).1, (ks H1 Keep.refl).2, k (pairD xs ys) _ (fun H => SqK kd X.K H a vx ∧ SqK kd X.K H b vy) (YNew vx vy) H1 q k1 j1 (by rw [pairD_length, ← RpAll.length a1, ← RpAll.length a2]; exact walk_N rfl) (fun H2 kk => ks H2 kk) ?_⟩
    exact fun M i H2 x H3 _ _ k2 hm' dom y => pair_facts a1 a2 M i H2 x H3 k2 hm' dom y⟩
/-- .. into several names -/
theorem walk_ZL {a b : Addr} {vx vy : List V} {n : Nat} (hn : n = min vx.length vy.length) : Walk (Itz K a b) n (fun H => SqL K H a vx ∧ SqL K H b vy) (YNew vx vy) := by
  refine (walk_zip hn).mono (fun _ h => h) fun i H v H' _ _ y => ?_
  obtain ⟨T, x, z, h1, h2, h3, h4, h5⟩ := y
  exact ⟨T, x, z, h1, h2, h3, h4, h5⟩
theorem walk_ZT {a b : Addr} {vx vy : List V} {n : Nat} (hn : n = min vx.length vy.length) : Walk (RZ.ItzT K a b) n (fun H => SqT K H a vx ∧ SqT K H b vy) (YNew vx vy) := by
  subst hn
  refine ⟨fun i _ hi q => ?_, fun _ q => ⟨vx, vy, q.1, q.2, by omega⟩, fun i H v H' _ q y => ?_⟩
  · have h1 : i < vx.length := by omega
    have h2 : i < vy.length := by omega
    exact ⟨vx, vy, vx[i], vy[i], q.1, q.2, by simp [h1], by simp [h2]⟩
  · obtain ⟨T, x, z, h1, h2, h3, h4, h5⟩ := y
    exact ⟨T, x, z, h1, h2, h3, h4 vx q.1, h5 vy q.2⟩
theorem di_zipT {p tpos : Pos} {elts : List Expr} {kk : Nat} (hg : Gl X "zip") (hm : X.mg "zip" = none) (ha : DAO X K rg [e, e2] ta u) (hs : starEach [e, e2] X.env = (false, eval e X.env) :: starEach [e2] X.env := by rfl) (hpl : (backTo pos (starEach [e2] X.env)).any (·.1) = false := by rfl) :
    DI X K rg true (.Tuple elts kk tpos) (.Call (.Name "zip" p) [e, e2] [] pos) (RZ.iZipA K ta) (sZip u) := by
  cases ha.kx
  exact ⟨rfl, RZ.pi_zipA hg hm ha.pa hs hpl, fun c hc pn H0 env σ H Qd R S ht k => by
    refine ha.rf c hc pn H0 env σ H _ _ S ht fun ds vs H1 q1 k1 j1 r1 => ?_
    obtain ⟨kd, a, b, vx, vy, xs, ys, rfl, a1, a2, q, ks⟩ := zipF_seq (fun a z => .inl z) r1 q1
    refine ⟨a, b, vx, vy, rfl, ?_⟩
    cases kd with
    | false =>
      refine .inl ⟨(ks H1 Keep.refl).1, (ks H1 Keep.refl).2, k (pairD xs ys) _ (fun H => SqL X.K H a vx ∧ SqL X.K H b vy) (YNew vx vy) H1 q k1 j1 (by rw [pairD_length, ← RpAll.length a1, ← RpAll.length a2]; exact walk_ZL rfl) (fun H2 kk => ks H2 kk) ?_⟩
      exact fun M i H2 x H3 _ _ k2 hm' dom y => pair_facts a1 a2 M i H2 x H3 k2 hm' dom y
    | true =>
      refine .inr ⟨(ks H1 Keep.refl).1, (ks H1 Keep.refl).2, k (pairD xs ys) _ (fun H => SqT X.K H a vx ∧ SqT X.K H b vy) (YNew vx vy) H1 q k1 j1 (by rw [pairD_length, ← RpAll.length a1, ← RpAll.length a2]; exact walk_ZT rfl) (fun H2 kk => ks H2 kk) ?_⟩
      exact fun M i H2 x H3 _ _ k2 hm' dom y => pair_facts a1 a2 M i H2 x H3 k2 hm' dom y⟩
theorem RpAll.ofGet {M : Addr → Prop} {H : Hp} : ∀ {vs : List V} {ds : List D}, vs.length = ds.length → (∀ (j : Nat) (v : V) (d : D), vs[j]? = some v → ds[j]? = some d → Rp K M H v d) → RpAll K M H vs ds
  | [], [], _, _ => .nil
  | [], _ :: _, h, _ => by simp at h
  | _ :: _, [], h, _ => by simp at h
  | v :: vs, d :: ds, h, f => .cons (f 0 v d rfl rfl) (RpAll.ofGet (by simpa using h) fun j w e h1 h2 => f (j + 1) w e (by simpa using h1) (by simpa using h2))
theorem DI.any {o : Bool} {wi : TI} {iter : Expr} {t : TDs} (h : DI X K rg true tg iter wi t) (hz : o = true) : DI X K rg o tg iter wi t := by subst hz; exact h
/-- list(zip(a, b)) -/
theorem df_listzip {p p2 pos2 : Pos} (hg : Gl X "list") (hm : X.mg "list" = none) (hg2 : Gl X "zip") (hm2 : X.mg "zip" = none) (hc : X.calm = true) (ha : DAO X K rg [e, e2] ta u) (hs : starEach [e, e2] X.env = (false, eval e X.env) :: starEach [e2] X.env := by rfl) (hpl : (backTo pos2 (starEach [e2] X.env)).any (·.1) = false := by rfl)
    (hs2 : starEach [Expr.Call (.Name "zip" p2) [e, e2] [] pos2] X.env = (false, eval (.Call (.Name "zip" p2) [e, e2] [] pos2) X.env) :: starEach [] X.env := by rfl) (hpl2 : (backTo pos (starEach [] X.env)).any (·.1) = false := by rfl) :
    DF X K rg (.Call (.Name "list" p) [.Call (.Name "zip" p2) [e, e2] [] pos2] [] pos) (tListZip K ta) (fun env Q => u env fun ds => zipF ds fun xs ys => xs.length ≤ sizeLine ∧ Q (pairD xs ys)) := by
  cases ha.kx
  exact ⟨rfl, pe_listZip hg hm hg2 hm2 hc ha.pa hs hpl hs2 hpl2, fun c hcc pn H0 env σ H Qd Q S ht k => by
    refine ha.rf c hcc pn H0 env σ H _ _ S ht fun ds vs H1 q1 k1 j1 r1 => ?_
    subst hcc
    obtain ⟨kd, a, b, vx, vy, xs, ys, rfl, a1, a2, q, ks⟩ := zipF_seq (fun a z => .inl z) r1 q1
    have S1 := S.grow k1 j1
    refine ⟨kd, a, b, vx, vy, rfl, (ks H1 Keep.refl).1, (ks H1 Keep.refl).2, by rw [RpAll.length a1]; exact q.1, fun L out H2 hL hl ho hp hs => ?_⟩
    have k2 : Keep c.rg.R H1 H2 := Keep.of_same hs
    have nL : ∀ d, (Mof c env d ∨ d = L) → ∀ o, H1 d = some o → Mof c env d := fun d z o e => z.elim id fun z => by rw [z, hL] at e; cases e
    have move : ∀ {w : V} {d : D}, Rp X.K (Mof c env) H1 w d → Rp X.K (fun d => Mof c env d ∨ d = L) H2 w d := fun {w d} r => Rp.keep (Keep.of_same hs) (Rp.anti (fun b o e z => nL b z o e) r)
    refine k (pairD xs ys) L out H2 q.2 (none_back S k1 j1 hL) (k1.trans k2) (S1.same hs).j hl ?_
    -- pair by pair
    have lenO : out.length = (pairD xs ys).length := by rw [ho, pairD_length, RpAll.length a1, RpAll.length a2]
    have all : ∀ (j : Nat) (v : V) (d : D), out[j]? = some v → (pairD xs ys)[j]? = some d → Rp X.K (fun d => Mof c env d ∨ d = L) H2 v d := fun j v d hv hd => by
      obtain ⟨T, x, y, rfl, hT, hT0, hx, hy⟩ := hp j v hv
      obtain ⟨dx, hdx, rx⟩ := RpAll.get a1 hx
      obtain ⟨dy, hdy, ry⟩ := RpAll.get a2 hy
      rw [pairD_get hdx hdy] at hd
      cases hd
      have TL : T ≠ L := fun z => by rw [z, hl] at hT; cases hT
      rw [upd_ne TL] at hT0
      exact .tup (fun z => z.elim (fun z => S1.domM T z hT0) TL) hT (.cons (move rx) (.cons (move ry) .nil))
    exact RpAll.ofGet lenO all⟩
end
end DL

namespace DL
open PySem L2 PySem.Spec PyProof.Rows
abbrev FLs := List D → (List D → Prop) → Prop
abbrev Tfs := Rg → FLs
section
variable {P : Program} {w : World} {K : PySem.W.Frag} {mg : Str → Option Value} {base : Heap}
/-- a def that hands back a new list -/
def spF (K : PySem.W.Frag) (n : Nat) (tf : Tfs) : Sp := fun vs H Q _ => ∃ (c : Dc) (ds : List D) (Qd : List D → Prop), c.Ok ∧ c.P = none ∧ RpAll K c.M H vs ds ∧ c.rg.J H ∧ (∀ a, c.M a → H a ≠ none) ∧ vs.length = n ∧ tf c.rg ds Qd ∧
  ∀ es p ws H', Qd es → H p = none → Keep c.rg.R H H' → c.rg.J H' → H' p = some (.lst ws) → RpAll K (fun b => c.M b ∨ b = p) H' ws es → Q (.ref p) H'
theorem fn_F {x qual : Str} {st : Stmt} {f : Addr} {fd : FuncData} {N ps : List Str} {k n : Nat} {tf : Tfs} (F : Fun K x qual st f fd) (S : FnScope N ps (defScope st)) (hn : ps.length = n)
    (hbody : ∀ (rg : Rg) (cdv : Value) (A : Around) (outer : List Env) (s : Shared) (H : Hp) (E : XK), Room k (A.deeper (envOfC qual (defScope st) s.heap.objs.size f cdv)) →
      ∃ ts t, DSs (cxOf CX0 P w K mg base N qual (defScope st) f cdv A outer s H E).nox K rg (defBody st) ts t ∧ ∀ ds Qd, tf rg ds Qd → ds.length = n → t { nx := fun _ => False, rt := fun _ => False, ro := Qd } (startE N.length ds)) :
    FnOk P w K mg base CX0 (k + 1) f fd ps (spF K n tf) := by
  refine F.ok S (fun vs H Q E ⟨_, _, _, _, _, _, _, _, h, _⟩ => by rw [hn]; exact h) (fun cdv A outer s H vs Q E hr h => ?_)
  obtain ⟨c, ds, Qd, ok, hP, r, j, dom, hl, ht, out⟩ := h
  obtain ⟨ts, t, hd, hs⟩ := hbody c.rg cdv A outer s H E hr
  refine ⟨ts, hd.ps, ?_⟩
  have rw0 : ∀ a, Rw c a → c.rg.R a := fun a z => z.elim id fun e => by rw [hP] at e; cases e
  refine hd.rf c rfl _ H _ _ H _ _ (sd_start ok hP r j dom) (hs ds Qd ht (by rw [← RpAll.length r]; exact hl)) (fun _ _ _ q _ => q.elim) (fun _ _ _ q => q.elim) (fun es a ws H' q h0 kk jj dd hm hl rr => ?_) (fun _ _ _ q _ => q.elim) (fun _ _ _ q _ => q.elim)
  exact out es a ws H' q h0 (kk.mono rw0) jj hl rr
structure CalF (P : Program) (w : World) (K : PySem.W.Frag) (mg : Str → Option Value) (base : Heap) (nm : Str) (lv n : Nat) (tf : Tfs) : Prop where
  ex : ∃ (f : Addr) (fd : FuncData) (ps : List Str), FnOk P w K mg base CX0 lv f fd ps (spF K n tf) ∧ mg nm = some (.ref f) ∧ PySem.W.keepIn K (.ref f) = true ∧ Binds K fd ps []
theorem Cal.mono {nm : Str} {lv lv' n : Nat} {tf : Tf} (C : Cal P w K mg base nm lv n tf) (h : lv ≤ lv') : Cal P w K mg base nm lv' n tf := by
  obtain ⟨f, fd, ps, F, a, b, c⟩ := C.ex
  exact ⟨f, fd, ps, F.mono h, a, b, c⟩
theorem Cal.imp {nm : Str} {lv n : Nat} {tf tf' : Tf} (C : Cal P w K mg base nm lv n tf) (h : ∀ rg ds Q, tf' rg ds Q → tf rg ds Q) : Cal P w K mg base nm lv n tf' := by
  obtain ⟨f, fd, ps, F, a, b, c⟩ := C.ex
  refine ⟨f, fd, ps, F.imp fun vs H Q E ⟨c, ds, Qd, h1, h2, h3, h4, h5, h6, h7, h8⟩ => ⟨c, ds, Qd, h1, h2, h3, h4, h5, h6, h _ _ _ h7, h8⟩, a, b, c⟩
/-- one of several promises -/
theorem Cal.any {nm : Str} {lv n : Nat} {ι : Type} {tf : ι → Tf} {p : ι → Prop} {f : Addr} {fd : FuncData} {ps : List Str} (hl : ps.length = n) (C : ∀ i, p i → FnOk P w K mg base CX0 lv f fd ps (spD K n (tf i))) (a : mg nm = some (.ref f)) (b : PySem.W.keepIn K (.ref f) = true) (c : Binds K fd ps []) :
    Cal P w K mg base nm lv n (fun rg ds Q => ∃ i, p i ∧ tf i rg ds Q) := by
  refine ⟨f, fd, ps, ⟨fun vs H Q E h => (spD_len vs H Q E h).trans hl.symm, fun A outer s H args us vs Q E hr e0 hb hv hs => ?_⟩, a, b, c⟩
  obtain ⟨c, ds, Qd, h1, h2, h3, h4, h5, h6, ⟨i, hi, h7⟩, h8⟩ := hs
  exact (C i hi).run A outer s H args us vs Q E hr e0 hb hv ⟨c, ds, Qd, h1, h2, h3, h4, h5, h6, h7, h8⟩
end
section
variable {X : Cx} {K : PySem.W.Frag} {rg : Rg} {e : Expr} {es : List Expr} {ta : TA} {xs : TDs} {pos : Pos}
def sCallF (n : Nat) (tf : Tfs) (rg : Rg) (xs : TDs) : TDs := fun env Q => xs env fun ds => ds.length = n ∧ tf rg ds Q
theorem rf_callF {n : Nat} {tf : Tfs} {E : XK} (h : RfA K rg ta xs) : RfF K rg (tCall (spF K n tf) [] E ta) (sCallF n tf rg xs) := fun c hc pn H0 env σ H Qd Q S ht k => by
  refine h c hc pn H0 env σ H _ _ S ht fun ds vs H1 q1 k1 j1 r1 => ?_
  subst hc
  have S1 := S.grow k1 j1
  refine ⟨⟨Mof c env, none, c.rg⟩, ds, Qd, ⟨fun a z => Mof.of_R S.ok z, S.ok.rg, fun a z => by cases z⟩, rfl, by rw [List.append_nil]; exact r1, j1, S1.domM, by rw [List.append_nil, RpAll.length r1]; exact q1.1, q1.2, fun es p ws H' q hp k' j' hl r' => ?_⟩
  exact k es p ws H' q (none_back S k1 j1 hp) (k1.trans k') j' hl r'
theorem df_callC {lv n : Nat} {tf : Tfs} {nm : Str} {p : Pos} (C : CalF X.prog X.w X.K X.mg X.base nm lv n tf) (hr : Room lv X.A) (hg : Gl X nm) (ha : DA X K rg (e :: es) ta xs) (hdb : (nm == ("__debug__" : Str)) = false := by decide) (he : starEach (e :: es) X.env = (false, eval e X.env) :: starEach es X.env := by rfl) (hpl : (backTo pos (starEach es X.env)).any (·.1) = false := by rfl) :
    DF X K rg (.Call (.Name nm p) (e :: es) [] pos) (tCall (spF K n tf) [] E0 ta) (sCallF n tf rg xs) := by
  cases ha.kx
  obtain ⟨f, fd, ps, F, hm, hk, hb⟩ := C.ex
  exact ⟨rfl, pe_call F hr hg hm hk hb .nil pass0 ha.pa hdb he hpl, rf_callF ha.rf⟩
end
/-! ### a deal: a list of a list of numbers and a number -/
/-- where it lies -/
def dealRg (a g : Addr) : Rg := ⟨fun x => x = a ∨ x = g, fun H => a ≠ g ∧ ∃ (cs : List Int) (m : Int), H a = some (.lst [.ref g, .int m]) ∧ H g = some (.lst (cs.map V.int)) ∧ 0 ≤ m ∧ m < 2147483647 ∧ cs.length < 64⟩
theorem dealRg_ok (a g : Addr) : (dealRg a g).Ok := by
  refine ⟨fun H H' ⟨ne, cs, m, h1, h2, h3, h4⟩ k => ⟨ne, cs, m, k a _ h1 (.inl rfl), k g _ h2 (.inr rfl), h3, h4⟩, fun H ⟨ne, cs, m, h1, h2, h3, h4⟩ x hx e => ?_⟩
  rcases hx with rfl | rfl
  · rw [h1] at e; cases e
  · rw [h2] at e; cases e
/-- a draw: any number below -/
def tfDraw : Tf := fun rg ds Q => ∃ a g wide, rg = dealRg a g ∧ ds = [.raw (.ref a), .int wide] ∧ 0 < wide ∧ wide < 1073741824 ∧ ∀ r : Int, 0 ≤ r → r < wide → Q (.int r)
end DL

namespace DL
open PySem L2
/-! Runs of comprehensions over encoded lists. -/
section
variable {α β : Type}
theorem lc_run {xs : List α} {enc : α → D} {p : α → Bool} {g : α → D} {ew : En} {sg : SG} {st : TB} {t : TD} {R : List D → Prop} (hz : xs.length ≤ 1000000)
    (step : ∀ x ∈ xs, ∀ (Qy : D → Prop) (Qn : Prop), (if p x = true then Qy (g x) else Qn) → sg (enc x) ew fun env2 => st env2 fun b => if b = true then t env2 Qy else Qn)
    (fin : R ((xs.filter p).map g)) :
    ∃ I : Nat → List D → Prop, I 0 [] ∧ (∀ i x acc, (xs.map enc)[i]? = some x → I i acc → sg x ew fun env2 => st env2 fun b => if b = true then t env2 fun y => acc.length < sizeLine ∧ I (i + 1) (acc ++ [y]) else I (i + 1) acc) ∧
      ∀ acc, I (xs.map enc).length acc → R acc := by
  refine ⟨fun i acc => acc = ((xs.take i).filter p).map g, by simp, fun i x acc hx hacc => ?_, fun acc h => ?_⟩
  · rw [List.getElem?_map] at hx
    cases hi : xs[i]? with
    | none => rw [hi] at hx; cases hx
    | some y =>
      rw [hi] at hx
      cases hx
      obtain ⟨hlt, e⟩ := List.getElem?_eq_some_iff.mp hi
      have et : xs.take (i + 1) = xs.take i ++ [y] := by rw [List.take_succ, hi]; rfl
      refine step y (e ▸ List.getElem_mem hlt) _ _ ?_
      by_cases hp : p y = true
      · rw [if_pos hp]
        have hl : acc.length ≤ i := by
          subst hacc
          rw [List.length_map]
          exact Nat.le_trans (List.length_filter_le _ _) (by rw [List.length_take]; omega)
        have hs : (1000000 : Nat) < sizeLine := by decide
        exact ⟨by omega, by show _ = _; rw [et, hacc, List.filter_append, List.map_append]; simp [hp]⟩
      · rw [if_neg hp]
        show _ = _
        rw [et, hacc, List.filter_append, List.map_append]; simp [hp]
  · rw [List.length_map, List.take_length] at h
    rw [h]; exact fin
theorem lc_at {zs : List D} {xs : List α} {enc : α → D} {p : α → Bool} {g : α → D} {ew : En} {sg : SG} {st : TB} {t : TD} {R : List D → Prop} (e : zs = xs.map enc) (hz : xs.length ≤ 1000000)
    (step : ∀ x ∈ xs, ∀ (Qy : D → Prop) (Qn : Prop), (if p x = true then Qy (g x) else Qn) → sg (enc x) ew fun env2 => st env2 fun b => if b = true then t env2 Qy else Qn)
    (fin : R ((xs.filter p).map g)) :
    ∃ I : Nat → List D → Prop, I 0 [] ∧ (∀ i x acc, zs[i]? = some x → I i acc → sg x ew fun env2 => st env2 fun b => if b = true then t env2 fun y => acc.length < sizeLine ∧ I (i + 1) (acc ++ [y]) else I (i + 1) acc) ∧
      ∀ acc, I zs.length acc → R acc := by
  subst e; exact lc_run hz step fin
theorem flat_len {xs : List α} {ys : α → List β} {p : α → β → Bool} {m : Nat} (hm : ∀ x ∈ xs, (ys x).length ≤ m) (g : α → β → D) : (xs.flatMap fun x => ((ys x).filter (p x)).map (g x)).length ≤ xs.length * m := by
  induction xs with
  | nil => simp
  | cons x xs ih =>
    rw [List.flatMap_cons, List.length_append, List.length_map]
    have h1 := hm x (by simp)
    have h2 := List.length_filter_le (p x) (ys x)
    have h3 := ih fun y hy => hm y (by simp [hy])
    rw [List.length_cons, Nat.succ_mul]
    omega
theorem lc2_run {xs : List α} {enc : α → D} {ys : α → List β} {enc1 : β → D} {p : α → β → Bool} {g : α → β → D} {m : Nat} {ew : En} {e2 : α → En} {vs1 : List Nat} {sg sg1 : SG} {st st1 : TB} {ti1 : TDs} {t : TD} {R : List D → Prop}
    (hz : xs.length * m ≤ 1000000) (hm : ∀ x ∈ xs, (ys x).length ≤ m)
    (step : ∀ x ∈ xs, ∀ (Z : List D → En → Prop) (N : Prop), Z ((ys x).map enc1) (e2 x) → sg (enc x) ew fun env2 => st env2 fun b => if b = true then (ownFree env2 vs1 = true ∧ ti1 env2 fun zs => Z zs env2) else N)
    (step1 : ∀ x ∈ xs, ∀ y ∈ ys x, ∀ (Qy : D → Prop) (Qn : Prop), (if p x y = true then Qy (g x y) else Qn) → sg1 (enc1 y) (wipeE (e2 x) vs1) fun env3 => st1 env3 fun b1 => if b1 = true then t env3 Qy else Qn)
    (fin : R (xs.flatMap fun x => ((ys x).filter (p x)).map (g x))) :
    ∃ I : Nat → List D → Prop, I 0 [] ∧
      (∀ i x acc, (xs.map enc)[i]? = some x → I i acc → sg x ew fun env2 => st env2 fun b => if b = true then (ownFree env2 vs1 = true ∧ ti1 env2 fun ys => ∃ I1 : Nat → List D → Prop, I1 0 acc ∧
        (∀ j y acc1, ys[j]? = some y → I1 j acc1 → sg1 y (wipeE env2 vs1) fun env3 => st1 env3 fun b1 => if b1 = true then t env3 fun z => acc1.length < sizeLine ∧ I1 (j + 1) (acc1 ++ [z]) else I1 (j + 1) acc1) ∧ ∀ acc1, I1 ys.length acc1 → I (i + 1) acc1) else I (i + 1) acc) ∧
      ∀ acc, I (xs.map enc).length acc → R acc := by
  refine ⟨fun i acc => acc = (xs.take i).flatMap fun x => ((ys x).filter (p x)).map (g x), by simp, fun i x acc hx hacc => ?_, fun acc h => ?_⟩
  · rw [List.getElem?_map] at hx
    cases hi : xs[i]? with
    | none => rw [hi] at hx; cases hx
    | some y =>
      rw [hi] at hx
      cases hx
      obtain ⟨hlt, e⟩ := List.getElem?_eq_some_iff.mp hi
      have et : xs.take (i + 1) = xs.take i ++ [y] := by rw [List.take_succ, hi]; rfl
      have my : y ∈ xs := e ▸ List.getElem_mem hlt
      have hl : acc.length ≤ i * m := by
        have := flat_len (p := p) (xs := xs.take i) (fun x hx => hm x (List.mem_of_mem_take hx)) g
        rw [List.length_take, Nat.min_eq_left (by omega)] at this
        rw [hacc]; exact this
      refine step y my (fun zs env2 => ∃ I1 : Nat → List D → Prop, I1 0 acc ∧
        (∀ j y acc1, zs[j]? = some y → I1 j acc1 → sg1 y (wipeE env2 vs1) fun env3 => st1 env3 fun b1 => if b1 = true then t env3 fun z => acc1.length < sizeLine ∧ I1 (j + 1) (acc1 ++ [z]) else I1 (j + 1) acc1) ∧ ∀ acc1, I1 zs.length acc1 → acc1 = (xs.take (i + 1)).flatMap fun x => ((ys x).filter (p x)).map (g x)) _ ?_
      refine ⟨fun j acc1 => acc1 = acc ++ (((ys y).take j).filter (p y)).map (g y), by simp, fun j z acc1 hz1 hacc1 => ?_, fun acc1 h => ?_⟩
      · rw [List.getElem?_map] at hz1
        cases hj : (ys y)[j]? with
        | none => rw [hj] at hz1; cases hz1
        | some u =>
          rw [hj] at hz1
          cases hz1
          obtain ⟨hlt1, e1⟩ := List.getElem?_eq_some_iff.mp hj
          have et1 : (ys y).take (j + 1) = (ys y).take j ++ [u] := by rw [List.take_succ, hj]; rfl
          refine step1 y my u (e1 ▸ List.getElem_mem hlt1) _ _ ?_
          have hs : (1000000 : Nat) < sizeLine := by decide
          have hmy := hm y my
          have hl1 : acc1.length ≤ i * m + j := by
            subst hacc1
            rw [List.length_append, List.length_map]
            have := List.length_filter_le (p y) ((ys y).take j)
            rw [List.length_take] at this
            omega
          have hb : i * m + j < xs.length * m := by
            have : (i + 1) * m ≤ xs.length * m := Nat.mul_le_mul_right m hlt
            rw [Nat.succ_mul] at this
            omega
          by_cases hp : p y u = true
          · rw [if_pos hp]
            exact ⟨by omega, by show _ = _; rw [et1, hacc1, List.filter_append, List.map_append]; simp [hp]⟩
          · rw [if_neg hp]
            show _ = _
            rw [et1, hacc1, List.filter_append, List.map_append]; simp [hp]
      · rw [List.length_map, List.take_length] at h
        rw [h, hacc, et, List.flatMap_append]; simp
  · rw [List.length_map, List.take_length] at h
    rw [h]; exact fin
theorem lc2_at {zs0 : List D} {xs : List α} {enc : α → D} {ys : α → List β} {enc1 : β → D} {p : α → β → Bool} {g : α → β → D} {m : Nat} {ew : En} {e2 : α → En} {vs1 : List Nat} {sg sg1 : SG} {st st1 : TB} {ti1 : TDs} {t : TD} {R : List D → Prop}
    (e0 : zs0 = xs.map enc) (hz : xs.length * m ≤ 1000000) (hm : ∀ x ∈ xs, (ys x).length ≤ m)
    (step : ∀ x ∈ xs, ∀ (Z : List D → En → Prop) (N : Prop), Z ((ys x).map enc1) (e2 x) → sg (enc x) ew fun env2 => st env2 fun b => if b = true then (ownFree env2 vs1 = true ∧ ti1 env2 fun zs => Z zs env2) else N)
    (step1 : ∀ x ∈ xs, ∀ y ∈ ys x, ∀ (Qy : D → Prop) (Qn : Prop), (if p x y = true then Qy (g x y) else Qn) → sg1 (enc1 y) (wipeE (e2 x) vs1) fun env3 => st1 env3 fun b1 => if b1 = true then t env3 Qy else Qn)
    (fin : R (xs.flatMap fun x => ((ys x).filter (p x)).map (g x))) :
    ∃ I : Nat → List D → Prop, I 0 [] ∧
      (∀ i x acc, zs0[i]? = some x → I i acc → sg x ew fun env2 => st env2 fun b => if b = true then (ownFree env2 vs1 = true ∧ ti1 env2 fun ys => ∃ I1 : Nat → List D → Prop, I1 0 acc ∧
        (∀ j y acc1, ys[j]? = some y → I1 j acc1 → sg1 y (wipeE env2 vs1) fun env3 => st1 env3 fun b1 => if b1 = true then t env3 fun z => acc1.length < sizeLine ∧ I1 (j + 1) (acc1 ++ [z]) else I1 (j + 1) acc1) ∧ ∀ acc1, I1 ys.length acc1 → I (i + 1) acc1) else I (i + 1) acc) ∧
      ∀ acc, I zs0.length acc → R acc := by
  subst e0; exact lc2_run hz hm step step1 fin
/-- a loop over an encoded list that only turns the slots -/
theorem for_run {xs : List α} {enc : α → D} {sg : SG} {tb : TDS} {Dd : DEnds} (I : Nat → En → Prop) {env : En} (i0 : I 0 env)
    (step : ∀ i x env', xs[i]? = some x → I i env' → sg (enc x) env' fun env2 => tb { Dd with nx := I (i + 1), ct := I (i + 1), bk := Dd.nx } env2) (fin : ∀ env', I xs.length env' → Dd.nx env') :
    ∃ I : Nat → En → Prop, I 0 env ∧ (∀ i x env', (xs.map enc)[i]? = some x → I i env' → sg x env' fun env2 => tb { Dd with nx := I (i + 1), ct := I (i + 1), bk := Dd.nx } env2) ∧ ∀ env', I (xs.map enc).length env' → Dd.nx env' := by
  refine ⟨I, i0, fun i x env' hx h => ?_, fun env' h => fin env' (by rwa [List.length_map] at h)⟩
  rw [List.getElem?_map] at hx
  cases hi : xs[i]? with
  | none => rw [hi] at hx; cases hx
  | some y => rw [hi] at hx; cases hx; exact step i y env' hi h
end
/-- a slot that may be set -/
def FreeS (x : Option Sl) : Prop := x = none ∨ ∃ y, x = some (.dat y)
/-! ### == of encoded data -/
theorem dep_str {ds : List PyData} {x : Str} : min (PyData.depthAll ds) (toPy (.str x)).depth ≤ 60 := by simp [toPy, PyData.depth]
theorem cut_from {ds : List D} {k : Nat} : cutD ds (some (k : Int)) none = ds.drop k := by
  unfold cutD
  rw [HT.sIx_nat, HT.sIx_none]
  by_cases h : k ≤ ds.length
  · rw [Nat.min_eq_left h, List.take_of_length_le (by simp)]
  · rw [Nat.min_eq_right (by omega)]; simp; omega
theorem cut_to {ds : List D} {k : Nat} : cutD ds none (some (k : Int)) = ds.take k := by
  unfold cutD
  rw [HT.sIx_nat, HT.sIx_none]
  by_cases h : k ≤ ds.length
  · rw [Nat.min_eq_left h]; simp
  · rw [Nat.min_eq_right (by omega)]; simp [List.take_of_length_le (show ds.length ≤ k by omega)]
theorem deq_str (x y : Str) : deq (.str x) (.str y) = (x == y) := by simp [deq, toPy, PyData.eqv]
theorem deq_int (x y : Int) : deq (.int x) (.int y) = (x == y) := by simp [deq, toPy, PyData.eqv]
theorem deq_pair (a b c d : D) : deq (.tup [a, b]) (.tup [c, d]) = (deq a c && deq b d) := by simp [deq, toPy, toPys, PyData.eqv, PyData.eqvAll]
theorem deq_nil (xs : List D) : deq (.lst xs) (.lst []) = xs.isEmpty := by cases xs <;> simp [deq, toPy, toPys, PyData.eqv, PyData.eqvAll]
theorem deq_lst : ∀ xs ys : List Str, deq (.lst (xs.map .str)) (.lst (ys.map .str)) = (xs == ys)
  | [], [] => rfl
  | [], _ :: _ => rfl
  | _ :: _, [] => rfl
  | x :: xs, y :: ys => by
    have ih := deq_lst xs ys
    simp only [deq, toPy, toPys, List.map_cons, PyData.eqv, PyData.eqvAll] at ih ⊢
    rw [ih]; rfl
theorem inD_map {α : Type} [BEq α] [LawfulBEq α] {enc : α → D} {x : α} {xs : List α} (h : ∀ y ∈ xs, deq (enc y) (enc x) = (y == x)) : inD (enc x) (xs.map enc) = decide (x ∈ xs) := by
  unfold inD
  rw [List.any_map, Bool.eq_iff_iff, List.any_eq_true]
  constructor
  · rintro ⟨y, hy, e⟩
    simp only [Function.comp] at e
    rw [h y hy, beq_iff_eq] at e
    subst e
    simpa using hy
  · intro hx
    have hx' : x ∈ xs := by simpa using hx
    exact ⟨x, hx', by simp only [Function.comp]; rw [h x hx']; simp⟩
theorem isPls_map {α : Type} {enc : α → D} (h : ∀ x, isPl (enc x) = true) : ∀ xs : List α, isPls (xs.map enc) = true
  | [] => rfl
  | x :: xs => by simp [isPls, h x, isPls_map h xs]
end DL

namespace DL
open PySem L2 PySem.Spec PyProof.Rows
/-! ### a deal that is a dict of a list of numbers and a number -/
/-- where it lies -/
def ddRg (k1 k2 : Str) (a g : Addr) : Rg := ⟨fun x => x = a ∨ x = g, fun H => a ≠ g ∧ ∃ (cs : List Int) (m : Int), H a = some (.dK [(.inr k1, .ref g), (.inr k2, .int m)]) ∧ H g = some (.lst (cs.map V.int)) ∧ 0 ≤ m ∧ m < 2147483647 ∧ cs.length < 64⟩
theorem ddRg_ok (k1 k2 : Str) (a g : Addr) : (ddRg k1 k2 a g).Ok := by
  refine ⟨fun H H' ⟨ne, cs, m, h1, h2, h3, h4⟩ k => ⟨ne, cs, m, k a _ h1 (.inl rfl), k g _ h2 (.inr rfl), h3, h4⟩, fun H ⟨ne, cs, m, h1, h2, h3, h4⟩ x hx e => ?_⟩
  rcases hx with rfl | rfl
  · rw [h1] at e; cases e
  · rw [h2] at e; cases e
def tfDrawD (k1 k2 : Str) : Tf := fun rg ds Q => ∃ a g wide, rg = ddRg k1 k2 a g ∧ ds = [.raw (.ref a), .int wide] ∧ 0 < wide ∧ wide < 1073741824 ∧ ∀ r : Int, 0 ≤ r → r < wide → Q (.int r)
def DealOkD (k1 k2 : Str) (a g : Addr) (H H' : Hp) : Prop := Keep (ddRg k1 k2 a g).R H H' ∧ (ddRg k1 k2 a g).J H'
theorem dpIntsD {K : PySem.W.Frag} {H : Hp} : ∀ cs : List Int, DpAll K H (cs.map V.int) (cs.map PyData.int)
  | [] => .nil
  | c :: cs => .cons (.int c) (dpIntsD cs)
theorem plIntsD : ∀ cs : List Int, PyData.plainAll (cs.map PyData.int) = true
  | [] => rfl
  | c :: cs => by rw [List.map_cons]; simp only [PyData.plainAll, PyData.plain, plIntsD cs, Bool.and_self]
theorem ne_nilD {K : PySem.W.Frag} {H : Hp} {g p : Addr} {cs : List Int} {Q : VK} (h1 : H g = some (.lst (cs.map V.int))) (h2 : H p = some (.lst [])) (q : Q (.bl (!cs.isEmpty)) H) : rNeP K (.ref g) (.ref p) H Q := by
  refine ⟨.list (cs.map PyData.int), .list [], .lst (SqL.of h1) (dpIntsD cs), .lst (SqL.of h2) .nil, by simp only [PyData.plain, plIntsD], rfl, ?_, ?_⟩
  · have : PyData.depth (.list []) ≤ 60 := by decide
    exact Nat.le_trans (Nat.min_le_right _ _) this
  · have e : PyData.eqv (.list (cs.map PyData.int)) (.list []) = cs.isEmpty := by cases cs <;> rfl
    rw [e]; exact q
theorem while_cps {c : TT} {tb : TS} {De : Ends} {σ : L2.St} {H : Hp} (Pv Pe : L2.St → Hp → Prop) (μ : L2.St → Hp → Nat) (h0 : Pv σ H)
    (hs : ∀ σ H, Pv σ H → ∀ R : Bool → Hp → Prop, (∀ b H1, (if b = true then tb { De with nx := fun σ' H' => Pv σ' H' ∧ μ σ' H' < μ σ H, ct := fun σ' H' => Pv σ' H' ∧ μ σ' H' < μ σ H, bk := De.nx } σ H1 else Pe σ H1) → R b H1) → c σ H R) (hd : ∀ σ H, Pe σ H → De.nx σ H) : tWhile c tb De σ H := by
  refine ⟨fun m σ H => m = μ σ H ∧ Pv σ H, ⟨_, rfl, h0⟩, ?_⟩
  rintro m σ H ⟨rfl, p⟩
  refine hs σ H p _ fun b H1 q => ?_
  cases b with
  | true => exact ⟨_, fun σ' H' q => ⟨_, q.2, rfl, q.1⟩, q⟩
  | false => exact hd _ _ q
end DL

namespace DL
open PySem L2 PySem.Spec PyProof.Rows
/-! ### objects -/
theorem zip_look {K : PySem.W.Frag} {M : Addr → Prop} {H : Hp} {f : Str} : ∀ {ns : List Str} {vs : List V} {ds : List D} {y : D}, RpAll K M H vs ds → (ns.zip ds).lookup f = some y → ∃ v, (ns.zip vs).lookup f = some v ∧ Rp K M H v y
  | [], _, _, _, _, h => by simp at h
  | _ :: _, _, _, _, .nil, h => by simp at h
  | n :: ns, _, _, y, .cons (v := v) (vs := vs) (d := d) (ds := ds) a b, h => by
    rw [List.zip_cons_cons, List.lookup_cons] at h
    cases e : f == n with
    | true =>
      rw [e] at h
      have h' : some d = some y := h
      cases h'
      exact ⟨v, by rw [List.zip_cons_cons, List.lookup_cons, e], a⟩
    | false =>
      rw [e] at h
      have h' : (ns.zip ds).lookup f = some y := h
      obtain ⟨w, hw, rw'⟩ := zip_look b h'
      exact ⟨w, by rw [List.zip_cons_cons, List.lookup_cons, e]; exact hw, rw'⟩
theorem zip_none {f : Str} : ∀ {ns : List Str} {vs : List V}, f ∉ ns → (ns.zip vs).lookup f = none
  | [], _, _ => by simp
  | _ :: _, [], _ => by simp
  | n :: ns, v :: vs, h => by
    have hn : (f == n) = false := by simp only [beq_eq_false_iff_ne]; intro e; exact h (by simp [e])
    rw [List.zip_cons_cons, List.lookup_cons, hn]
    exact zip_none fun z => h (by simp [z])
theorem putF_zip {f : Str} {v : V} : ∀ {ns : List Str} {vs : List V}, f ∉ ns → ns.length = vs.length → putF f v (ns.zip vs) = (ns ++ [f]).zip (vs ++ [v])
  | [], [], _, _ => rfl
  | [], _ :: _, _, h => by simp at h
  | _ :: _, [], _, h => by simp at h
  | n :: ns, w :: vs, h, hl => by
    have hn : ¬ n = f := fun e => h (by simp [e])
    rw [List.zip_cons_cons, putF, if_neg hn, putF_zip (fun z => h (by simp [z])) (by simpa using hl)]
    rfl
def sFldE (C : Addr) (f : Str) (x : TD) : TD := fun env Q => x env fun d => match d with | .obj C' ns ds => C' = C ∧ ∃ y, (ns.zip ds).lookup f = some y ∧ Q y | _ => False
/-- a field of the object that is made -/
def sFldS (C : Addr) (i : Nat) (f : Str) : TD := fun env Q => match env[i]? with | some (some (.self _ C' ns ds)) => C' = C ∧ ∃ y, (ns.zip ds).lookup f = some y ∧ Q y | _ => False
/-- self.f = e while it is made -/
def sFldSet (C : Addr) (i : Nat) (f : Str) (x : TD) : TDS := fun Dd env => x env fun d => match env[i]? with
  | some (some (.self a C' ns ds)) => C' = C ∧ f ∉ ns ∧ ns.length < 1000 ∧ Dd.nx (env.set i (some (.self a C (ns ++ [f]) (ds ++ [d])))) | _ => False
section
variable {X : Cx} {K : PySem.W.Frag} {rg : Rg} {e o : Expr} {es : List Expr} {te : TE} {ta : TA} {x : TD} {u : TDs} {f : Str} {C : Addr} {pos pos' apos : Pos} {i : Nat}
theorem d_fld (h : DO X K rg e te x) (c : Cls K C) (n : NoAttr K C f) (hb : attributeBase e f X.env (eval e X.env) = eval e X.env := by rfl) : DP X K rg (.Attribute e f pos) (tFld K te f) (sFldE C f x) := by
  cases h.kx
  exact ⟨rfl, pe_fld h.pe hb, fun c' hc pn H0 env σ H Qd Q S ht k => by
    refine h.rf c' hc pn H0 env σ H _ _ S ht fun d v H1 q1 k1 j1 r1 => ?_
    cases d with
    | obj C' ns ds =>
      obtain ⟨rfl, y, hy, q⟩ := q1
      rcases r1 with r1 | ⟨_, _, _, _, e2, _⟩
      · cases r1 with
        | obj m e1 le a =>
          obtain ⟨w, hw, rw'⟩ := zip_look a hy
          exact ⟨_, _, _, _, w, rfl, e1, c, n, hw, k y w H1 q k1 j1 rw'⟩
      · cases e2
    | _ => exact q1.elim⟩
theorem d_fldS (h : PE X e (tVar i)) (c : Cls K C) (n : NoAttr K C f) (hb : attributeBase e f X.env (eval e X.env) = eval e X.env := by rfl) (hK : X.K = K := by rfl) :
    DP X K rg (.Attribute e f pos) (tFld K (tVar i) f) (sFldS C i f) := by
  cases hK
  exact ⟨rfl, pe_fld h hb, fun c' hc pn H0 env σ H Qd Q S ht k => by
    unfold sFldS at ht
    split at ht
    · rename_i a C' ns ds he
      obtain ⟨rfl, y, hy, q⟩ := ht
      obtain ⟨v, hv, rfl, hP, dx, vs, h1, h2, h3⟩ := S.sl i _ he
      obtain ⟨w, hw, rw'⟩ := zip_look h3 hy
      exact ⟨_, hv, a, _, dx, _, w, rfl, h1, c, n, hw, k y w H q Keep.refl S.j rw'⟩
    · exact ht.elim⟩
/-- the object that is made gets a field -/
theorem Sd.updS {c : Dc} {pn : Pin} {H0 : Hp} {env : En} {σ : L2.St} {H : Hp} {i : Nat} {a C dx : Addr} {ns : List Str} {ds : List D} {ns' : List Str} {es : List D} {ws : List V} {fs : List (Str × V)} (S : Sd K c pn H0 env σ H) (hi : env[i]? = some (some (.self a C ns ds))) (hf : H a = some (.ins C dx fs)) (hl : ns'.length = ws.length) (r : RpAll K (Mof c env) H ws es) :
    Sd K c pn H0 (env.set i (some (.self a C ns' es))) σ (upd H a (.ins C dx (ns'.zip ws))) := by
  have hi' : i < env.length := (List.getElem?_eq_some_iff.mp hi).1
  obtain ⟨v, hv, rfl, hP, dx0, vs, h1, h2, h3⟩ := S.sl i _ hi
  have hm := (S.ok.pm a hP).1
  have hr := (S.ok.pm a hP).2
  have hat : ∀ (j : Nat) (s : Sl), (env.set i (some (.self a C ns' es)))[j]? = some (some s) → ∃ t, env[j]? = some (some t) ∧ t.at = s.at := fun j s e => by
    by_cases e' : i = j
    · subst e'
      rw [List.getElem?_set_self hi'] at e; cases e
      exact ⟨_, hi, rfl⟩
    · rw [List.getElem?_set_ne e'] at e
      exact ⟨s, e, rfl⟩
  have hM : ∀ b, Mof c (env.set i (some (.self a C ns' es))) b → Mof c env b := fun b h => by
    rcases h with h | ⟨j, s, h1, h2⟩
    · exact .inl h
    · obtain ⟨t, e1, e2⟩ := hat j s h1
      exact .inr ⟨j, t, e1, e2.trans h2⟩
  have Ma : Mof c env a := .inl hm
  have kM : Keep (Mof c env) H (upd H a (.ins C dx (ns'.zip ws))) := fun b o e m => by
    rw [upd_ne (fun z => m (by rw [z]; exact Ma))]; exact e
  have hMH : ∀ (G : Hp) b o, G b = some o → Mof c (env.set i (some (.self a C ns' es))) b → Mof c env b := fun _ b o _ h => hM b h
  have ne : ∀ (j : Nat) (s : Sl) (b : Addr), i ≠ j → env[j]? = some (some s) → s.at = some b → b ≠ a := fun j s b hij e1 e2 z => by
    subst z
    exact hij (S.apart i j _ _ b hi e1 rfl e2)
  refine ⟨S.ok, by simp [S.len], fun j s e => ?_, ?_, fun b o e m => ?_, fun b h e => ?_, fun j k s t b e1 e2 e3 e4 => ?_, S.pk, S.pk _ _ _ _ S.pn kM (hMH H)⟩
  · by_cases e' : i = j
    · subst e'
      rw [List.getElem?_set_self hi'] at e; cases e
      exact ⟨_, hv, rfl, hP, dx, ws, upd_same, hl, RpAll.anti (hMH _) (RpAll.keep kM r)⟩
    · rw [List.getElem?_set_ne e'] at e
      obtain ⟨w, h1, h2⟩ := S.sl j s e
      refine ⟨w, h1, ?_⟩
      cases s with
      | dat d => exact Rp.anti (hMH _) (Rp.keep kM h2)
      | own b es =>
        obtain ⟨q1, q2, q3, vs', q4, q5⟩ := h2
        exact ⟨q1, q2, q3, vs', by rw [upd_ne (ne j _ b e' e rfl)]; exact q4, RpAll.anti (hMH _) (RpAll.keep kM q5)⟩
      | ownD b kz es =>
        obtain ⟨q1, q2, q3, vs', q4, ql, q5⟩ := h2
        exact ⟨q1, q2, q3, vs', by rw [upd_ne (ne j _ b e' e rfl)]; exact q4, ql, RpAll.anti (hMH _) (RpAll.keep kM q5)⟩
      | self b C ns es =>
        obtain ⟨q1, q2, dx, vs', q4, q5, q6⟩ := h2
        exact ⟨q1, q2, dx, vs', by rw [upd_ne (ne j _ b e' e rfl)]; exact q4, q5, RpAll.anti (hMH _) (RpAll.keep kM q6)⟩
  · exact S.ok.rg.stay H _ S.j fun b o e hr' => by
      rw [upd_ne (fun z => hr (by rw [← z]; exact hr'))]; exact e
  · have hb : b ≠ a := fun z => m (.inr (by rw [z]; exact hP))
    rw [upd_ne hb]; exact S.kp b o e m
  · by_cases hb : b = a
    · rw [hb, upd_same] at e; cases e
    · rw [upd_ne hb] at e; exact S.dom b h e
  · obtain ⟨s', f1, g1⟩ := hat j s e1
    obtain ⟨t', f2, g2⟩ := hat k t e2
    exact S.apart j k s' t' b f1 f2 (g1.trans e3) (g2.trans e4)
theorem ds_fldS (ho : PE X o (tVar i)) (h : DP X K rg e te x) (c : Cls K C) (n : NoAttr K C f) (hs : swapsWith e (some (.Attribute o f pos')) pos.line X.env = pure false := by rfl) :
    DS X K rg (.Assign [.Attribute o f pos'] e pos) (sFld K (tVar i) te f) (sFldSet C i f x) := by
  cases h.kx
  exact ⟨rfl, ps_fld ho h.pe hs, fun c' hc pn H0 env σ H Dd De S ht nx r ro bk ct => by
    refine h.rf c' hc pn H0 env σ H _ _ S ht fun d v H1 q1 k1 j1 r1 => ?_
    subst hc
    have S1 := S.grow k1 j1
    split at q1
    · rename_i a C' ns ds he
      obtain ⟨rfl, q2, q3, q4⟩ := q1
      obtain ⟨w, hw, rfl, hP, dx, vs, h1, h2, h3⟩ := S1.sl i _ he
      refine ⟨_, hw, a, _, dx, _, rfl, h1, c, n, by rw [List.length_zip]; omega, ?_⟩
      rw [putF_zip q2 h2]
      exact nx _ _ _ q4 (S1.updS he h1 (by simp [h2]) (RpAll.append h3 (.cons r1 .nil)))
    · exact q1.elim⟩
/-! ### methods -/
def sMeth (C : Addr) (m : Str) (n : Nat) (tf : Tf) (rg : Rg) (x : TD) (u : TDs) : TD := fun env Q => x env fun d => match d with
  | .obj C' ns ds => C' = C ∧ m ∉ ns ∧ u env fun as => as.length = n ∧ tf rg (.obj C ns ds :: as) Q | _ => False
theorem rf_meth {n : Nat} {m : Str} {tf : Tf} {E : XK} {tx : TE} (hx : RfO K rg tx x) (h : RfA K rg ta u) : Rf K rg (tMeth C m (spD K (n + 1) tf) [] E tx ta) (sMeth C m n tf rg x u) := fun c hc pn H0 env σ H Qd Q S ht k => by
  refine hx c hc pn H0 env σ H _ _ S ht fun d v H1 q1 k1 j1 r1 => ?_
  subst hc
  cases d with
  | obj C' ns ds =>
    obtain ⟨rfl, q2, q3⟩ := q1
    rcases r1 with r1 | ⟨_, _, _, _, e2, _⟩
    · have r1' := r1
      cases r1 with
      | obj m' e1 le a =>
        have S1 := S.grow k1 j1
        refine ⟨_, _, _, rfl, e1, zip_none q2, h c rfl pn H0 env σ H1 _ _ S1 q3 fun as vs H2 q4 k2 j2 r2 => ?_⟩
        have S2 := S1.grow k2 j2
        have rs : Rp K (Mof c env) H2 _ _ := Rp.keep (k2.mono fun a z => Mof.of_R S.ok z) r1'
        refine ⟨⟨Mof c env, none, c.rg⟩, .obj _ ns ds :: as, Qd, ⟨fun a z => Mof.of_R S.ok z, S.ok.rg, fun a z => by cases z⟩, rfl, by rw [List.append_nil]; exact .cons rs r2, j2, S2.domM, by rw [List.append_nil, List.length_cons, RpAll.length r2, q4.1], q4.2, fun v d H' q k' j' r' => ?_⟩
        exact k d v H' q ((k1.trans k2).trans k') j' r'
    · cases e2
  | _ => exact q1.elim
end
/-- a method that keeps a promise told of data -/
structure Met (P : Program) (w : World) (K : PySem.W.Frag) (mg : Str → Option Value) (base : Heap) (C : Addr) (m : Str) (lv n : Nat) (tf : Tf) : Prop where
  ex : ∃ (f : Addr) (fd : FuncData) (ps : List Str), FnOk P w K mg base CX0 lv f fd ps (spD K (n + 1) tf) ∧ Cls K C ∧ Meth K C m f ∧ Binds K fd ps []
section
variable {X : Cx} {K : PySem.W.Frag} {rg : Rg} {e o : Expr} {es : List Expr} {te tx : TE} {ta : TA} {x : TD} {u : TDs} {m : Str} {C : Addr} {pos pos' apos : Pos} {i : Nat}
theorem d_meth {lv n : Nat} {tf : Tf} {pl : Sem Bool} (F : Met X.prog X.w K X.mg X.base C m lv n tf) (hr : Room lv X.A) (ho : DO X K rg o tx x) (ha : DA X K rg (e :: es) ta u)
    (hst : starEach (e :: es) X.env = (false, eval e X.env) :: starEach es X.env := by rfl) (hpl : (backTo pos (starEach es X.env)).any (·.1) = false := by rfl)
    (ht : eval (.Call (.Attribute o m apos) (e :: es) [] pos) X.env = (do
      let ov ← eval o X.env
      standAt apos.atName
      let (f, first) ← holding [ov] (getMethod ov m pl)
      callWith pos f first (backTo pos (starEach (e :: es) X.env)) (backToKw pos (keywordEach [] X.env))) := by rfl) :
    DP X K rg (.Call (.Attribute o m apos) (e :: es) [] pos) (tMeth C m (spD K (n + 1) tf) [] E0 tx ta) (sMeth C m n tf rg x u) := by
  cases ho.kx
  obtain ⟨f, fd, ps, F, c, hm, hb⟩ := F.ex
  exact ⟨rfl, pe_meth ho.pe c hm F hr hb .nil pass0 ha.pa hst hpl ht, rf_meth ho.rf ha.rf⟩
end
/-! ### making -/
/-- the promise of an __init__: the fields ns at the end -/
def spI (K : PySem.W.Frag) (C : Addr) (ns : List Str) (n : Nat) (tf : Tfs) : Sp := fun vs H Q _ => ∃ (c : Dc) (x dx : Addr) (args : List V) (ds : List D) (Qd : List D → Prop), vs = .ref x :: args ∧ c.Ok ∧ c.P = some x ∧ H x = some (.ins C dx []) ∧ RpAll K c.M H args ds ∧ c.rg.J H ∧ (∀ a, c.M a → H a ≠ none) ∧ args.length = n ∧ tf c.rg ds Qd ∧
  ∀ es dy ws H', Qd es → Keep (Rw c) H H' → c.rg.J H' → H' x = some (.ins C dy (ns.zip ws)) → ns.length = ws.length → RpAll K c.M H' ws es → Q .non H'
def sMake (C : Addr) (ns : List Str) (n : Nat) (tf : Tfs) (rg : Rg) (u : TDs) : TD := fun env Q => u env fun ds => ds.length = n ∧ tf rg ds fun es => Q (.obj C ns es)
structure Mak (P : Program) (w : World) (K : PySem.W.Frag) (mg : Str → Option Value) (base : Heap) (nm : Str) (C : Addr) (ns : List Str) (lv n : Nat) (tf : Tfs) : Prop where
  ex : ∃ (f : Addr) (fd : FuncData) (ps : List Str), FnOk P w K mg base CX0 lv f fd ps (spI K C ns n tf) ∧ L2.Mk K C f ∧ mg nm = some (.ref C) ∧ Binds K fd ps []
section
variable {X : Cx} {K : PySem.W.Frag} {rg : Rg} {e : Expr} {es : List Expr} {ta : TA} {u : TDs} {nm : Str} {C : Addr} {p pos : Pos} {ns : List Str}
theorem rf_make {n : Nat} {tf : Tfs} {E : XK} (h : RfA K rg ta u) : Rf K rg (tMake C (spI K C ns n tf) [] E ta) (sMake C ns n tf rg u) := fun c hc pn H0 env σ H Qd Q S ht k => by
  refine h c hc pn H0 env σ H _ _ S ht fun ds vs H1 q1 k1 j1 r1 => ?_
  subst hc
  have S1 := S.grow k1 j1
  intro x dx nx ndx ne
  have xM : ¬ Mof c env x := fun z => S1.domM x z nx
  have k2 : ∀ M : Addr → Prop, Keep M H1 (upd (upd H1 dx (.own x)) x (.ins C dx [])) := fun M b o e _ => by
    rw [upd_ne (ne_of_none e nx), upd_ne (ne_of_none e ndx)]; exact e
  refine ⟨⟨fun b => Mof c env b ∨ b = x, some x, c.rg⟩, x, dx, vs, ds, fun es => Qd (.obj C ns es), by rw [List.append_nil], ⟨fun a z => .inl (Mof.of_R S.ok z), S.ok.rg, fun a z => ?_⟩, rfl, upd_same, ?_, ?_, ?_, by rw [RpAll.length r1]; exact q1.1, q1.2, ?_⟩
  · cases z
    exact ⟨.inr rfl, fun z => xM (Mof.of_R S.ok z)⟩
  · exact RpAll.keep (k2 _) (RpAll.anti (fun b o e z => z.elim id fun z => by rw [z, nx] at e; cases e) r1)
  · exact S.ok.rg.stay H1 _ j1 fun a o e hr => k2 (fun _ => False) a o e id
  · rintro a (z | rfl) he
    · cases q : H1 a with
      | none => exact S1.domM a z q
      | some o => rw [k2 (fun _ => False) a o q id] at he; cases he
    · rw [upd_same] at he; cases he
  · intro es dx' ws H' q k3 j3 hx hl r3
    refine ⟨rfl, k _ _ H' q (k1.trans fun b o e m => k3 b o (k2 (fun _ => False) b o e id) ?_) j3 (.obj xM hx hl (RpAll.anti (fun _ _ _ z => .inl z) r3))⟩
    rintro (z | z)
    · exact m z
    · cases z; rw [nx] at e; cases e
theorem d_make {lv n : Nat} {tf : Tfs} (F : Mak X.prog X.w K X.mg X.base nm C ns lv n tf) (hr : Room (lv + 1) X.A) (hg : Gl X nm) (ha : DA X K rg (e :: es) ta u) (hdb : (nm == ("__debug__" : Str)) = false := by decide) (he : starEach (e :: es) X.env = (false, eval e X.env) :: starEach es X.env := by rfl) (hpl : (backTo pos (starEach es X.env)).any (·.1) = false := by rfl) :
    DP X K rg (.Call (.Name nm p) (e :: es) [] pos) (tMake C (spI K C ns n tf) [] E0 ta) (sMake C ns n tf rg u) := by
  cases ha.kx
  obtain ⟨f, fd, ps, F, M, hm, hb⟩ := F.ex
  exact ⟨rfl, pe_make M F hr hg hm hb .nil pass0 ha.pa hdb he hpl, rf_make ha.rf⟩
end
/-! ### an __init__ by its body -/
def startI (n : Nat) (x C : Addr) (ds : List D) : En := some (.self x C [] []) :: startE (n - 1) ds
section
variable {P : Program} {w : World} {K : PySem.W.Frag} {mg : Str → Option Value} {base : Heap}
theorem sd_startI {c : Dc} {H : Hp} {x C dx : Addr} {vs : List V} {ds : List D} {n0 : Str} {N : List Str} (ok : c.Ok) (hP : c.P = some x) (hx : H x = some (.ins C dx [])) (r : RpAll K c.M H vs ds) (j : c.rg.J H) (dom : ∀ a, c.M a → H a ≠ none) :
    Sd K c (fun _ _ => True) H (startI (n0 :: N).length x C ds) (L2.start (n0 :: N) (.ref x :: vs)) H := by
  have hl := RpAll.length r
  have noat : ∀ (i : Nat) (s : Sl), (startI (n0 :: N).length x C ds)[i]? = some (some s) → (i = 0 ∧ s = .self x C [] []) ∨ ∃ j d, i = j + 1 ∧ s = .dat d ∧ ds[j]? = some d := fun i s e => by
    unfold startI startE at e
    cases i with
    | zero => cases e; exact .inl ⟨rfl, rfl⟩
    | succ i =>
      rw [List.getElem?_cons_succ] at e
      by_cases hi : i < ds.length
      · rw [List.getElem?_append_left (by simpa using hi), List.getElem?_map, List.getElem?_eq_getElem hi] at e
        cases e
        exact .inr ⟨i, _, rfl, rfl, List.getElem?_eq_getElem hi⟩
      · rw [List.getElem?_append_right (by simpa using hi), List.getElem?_replicate] at e
        split at e <;> cases e
  have mof : ∀ a, Mof c (startI (n0 :: N).length x C ds) a → c.M a := fun a z => by
    rcases z with z | ⟨i, s, h1, h2⟩
    · exact z
    · rcases noat i s h1 with ⟨_, rfl⟩ | ⟨j, d, _, rfl, _⟩
      · cases h2; exact (ok.pm x hP).1
      · cases h2
  refine ⟨ok, by unfold startI startE L2.start; simp [hl], fun i s e => ?_, j, Keep.refl, dom, fun i j s t a e1 e2 e3 e4 => ?_, fun _ _ _ _ _ _ _ => trivial, trivial⟩
  · rcases noat i s e with ⟨rfl, rfl⟩ | ⟨j', d, rfl, rfl, hd⟩
    · exact ⟨.ref x, rfl, rfl, hP, dx, [], hx, rfl, .nil⟩
    · obtain ⟨v, hv, rv⟩ := RpAll.get' r hd
      refine ⟨v, ?_, Rp.anti (fun a _ _ z => mof a z) rv⟩
      unfold L2.start
      rw [List.map_cons, List.cons_append, List.getElem?_cons_succ, List.getElem?_append_left (by simpa using (List.getElem?_eq_some_iff.mp hv).1), List.getElem?_map, hv]
      rfl
  · rcases noat i s e1 with ⟨rfl, rfl⟩ | ⟨_, d, _, rfl, _⟩
    · rcases noat j t e2 with ⟨rfl, rfl⟩ | ⟨_, d, _, rfl, _⟩
      · rfl
      · cases e4
    · cases e3
theorem fn_I {x0 qual : Str} {st : Stmt} {f : Addr} {fd : FuncData} {n0 : Str} {N ps : List Str} {k n : Nat} {C : Addr} {ns : List Str} {tf : Tfs} (F : Fun K x0 qual st f fd) (S : FnScope (n0 :: N) ps (defScope st)) (hn : ps.length = n + 1)
    (hbody : ∀ (rg : Rg) (cdv : Value) (A : Around) (outer : List Env) (s : Shared) (H : Hp) (E : XK), Room k (A.deeper (envOfC qual (defScope st) s.heap.objs.size f cdv)) →
      ∃ ts t, DSs (cxOf CX0 P w K mg base (n0 :: N) qual (defScope st) f cdv A outer s H E).nox K rg (defBody st) ts t ∧ ∀ x ds Qd, tf rg ds Qd → ds.length = n →
        t { nx := fun env => ∃ es, env[0]? = some (some (.self x C ns es)) ∧ Qd es, rt := fun _ => False } (startI (n0 :: N).length x C ds)) :
    FnOk P w K mg base CX0 (k + 1) f fd ps (spI K C ns n tf) := by
  refine F.ok S (fun vs H Q E h => ?_) (fun cdv A outer s H vs Q E hr h => ?_)
  · obtain ⟨_, _, _, args, _, _, rfl, _, _, _, _, _, _, hl, _⟩ := h
    rw [hn, List.length_cons, hl]
  obtain ⟨c, x, dx, args, ds, Qd, rfl, ok, hP, hx, r, j, dom, hl, ht, out⟩ := h
  obtain ⟨ts, t, hd, hs⟩ := hbody c.rg cdv A outer s H E hr
  refine ⟨ts, hd.ps, ?_⟩
  refine hd.rf c rfl _ H _ _ H _ _ (sd_startI ok hP hx r j dom) (hs x ds Qd ht (by rw [← RpAll.length r]; exact hl)) (fun env' σ' H' q S' => ?_) (fun _ _ _ q => q.elim) (fun _ _ _ _ q => q.elim) (fun _ _ _ q => q.elim) (fun _ _ _ q => q.elim)
  obtain ⟨es, he, q⟩ := q
  obtain ⟨v, hv, _, _, dx', ws, h1, h2, h3⟩ := S'.sl 0 _ he
  exact out es _ ws H' q S'.kp S'.j h1 h2 (RpAll.anti (fun _ _ _ z => .inl z) h3)
end
end DL

/-! The operators of instances with methods of their own, for promises of any kind. -/
namespace OM
open PySem PySem.W PySem.Spec PySem.Calls PyProof.Rows
section
variable {prog : Program} {w : World} {A : Around} {E : Value → Shared → Prop} {s : Shared} {K : Frag} {x C L f : Addr} {h₀ : Heap} {m : Str → Option Value} {ox : Obj} {od : Option Obj} {b tb : Value}
theorem ifBuilt {M : Model} {name : Str} {id : String} {args : List Value} {Q : Option Value → Shared → Prop} (X : K.In s.heap) (I : InstAt s.heap x ox C od) (hs : findIn K (.ref C) name = some (some (.builtin id)))
    (hb : ∀ self, bindSpecial (.builtin id) self = pure (.builtin id, [self])) (h : wpAny M A (call (.builtin id) (.ref x :: args)) (fun v => Q (some v)) E s) : wpAny M A (callSpecialIfBound? (.ref x) name args) Q E s := by
  simp only [callSpecialIfBound?, bindSpecialIfBound?, hb]
  have go : wpAny M A (call (.builtin id) ([.ref x] ++ args) >>= fun u => pure (some u)) Q E s := wpAny_bind (wpAny_mono h (fun u z hz => wpAny_pure hz) fun _ _ hz => hz)
  refine wpAny_holding (wpAny_bind (wpAny_bind (wpAny_bind (I.type.here ((looks_findIn X hs).here (wpAny_bind (wpAny_askSetting (wpAny_ite ?_))))))))
  split
  · exact wpAny_bind ((Looks.of_pure (hb _)).here (wpAny_pure go))
  · exact wpAny_tryCatch (wpAny_bind ((Looks.of_pure (hb _)).here (wpAny_pure go)))
def NotBack (Q : Value → Shared → Prop) (v : Value) (s' : Shared) : Prop := match v with
  | .bool k => Q (.bool (!k)) s'
  | _ => False
/-- x != b, the class has == alone: not what == says -/
theorem ne_own {Q : Value → Shared → Prop} (hu : A.in1.units < cLine) (F : Fr h₀ L s.heap m) (X₀ : K.In h₀) (I : InstAt s.heap x ox C od) (hb : Looks (model prog w) s.heap (typeOf b) tb) (hn : notFirst K C tb = true)
    (hne : findIn K (.ref C) "__ne__" = some (some (.builtin "object.__ne__"))) (hm : mroIn K C (.type "object") = some true) (hs : findIn K (.ref C) "__eq__" = some (some (.ref f))) (hf : isFn K (.ref f) = true)
    (h : wpAny (model prog w) A.in1 (call (.ref f) [.ref x, b]) (NotBack Q) E s) : wpAny (model prog w) A (richCompare .NotEq (.ref x) b) Q E s := by
  have X := X₀.keeps F.keep
  have hu0 : A.units < cLine := Nat.lt_of_le_of_lt (Nat.le_succ _) hu
  have inner : wpAny (model prog w) A (call (.builtin "object.__ne__") [.ref x, b]) (fun v s' => v ≠ .notImplemented ∧ Q v s') E s := by
    refine wpAny_call (codeAny_call_builtin PySem.F.cmp_object.ne.plain PySem.F.cmpEntry_ne (check_slot PySem.F.cmpKind_ne PySem.F.cmpSplit_ne (I.type.andThen (looks_mroIn X hm)) (PySem.F.cmpArgs_ne _ _) ?_))
    unfold Builtin.«object.__ne__»
    refine wpAny_bind (m := slotArgs "__ne__" 1 _) (wpAny_pure ?_)
    refine wpAny_bind (m := cRoomFor _ _) (wpAny_cRoomFor hu ?_)
    refine wpAny_bind (m := callSpecialIfBound? (.ref x) "__eq__" [b]) (ifBound_K X I hs hf (wpAny_mono h (fun v s' hv => ?_) fun _ _ z => z))
    cases v <;> first | exact hv.elim | skip
    refine wpAny_bind (m := truthy _) (wpAny_pure ?_)
    exact wpAny_pure ⟨(by intro z; cases z), hv⟩
  have one : wpAny (model prog w) A (tryCompare (.ref x) (cmpInfo .NotEq).2.1 b) (fun r s' => ∃ v, r = some v ∧ Q v s') E s := by
    unfold tryCompare
    refine wpAny_bind (ifBuilt X I hne PySem.F.cmp_object.ne.bind (wpAny_mono inner (fun v s' hv => ?_) fun _ _ z => z))
    obtain ⟨nv, hv⟩ := hv
    cases v <;> first | exact absurd rfl nv | exact wpAny_pure ⟨_, rfl, hv⟩
  have end1 : ∀ {k : Option Value → Sem Value}, (∀ v, k (some v) = pure v) → wpAny (model prog w) A (tryCompare (.ref x) (cmpInfo .NotEq).2.1 b >>= k) Q E s := fun hk => wpAny_bind (wpAny_mono one (fun r s' z => by
    obtain ⟨v, rfl, hq⟩ := z
    rw [hk]
    exact wpAny_pure hq) fun _ _ z => z)
  unfold richCompare
  simp only [oneThing_ref]
  refine wpAny_holding (wpAny_bind (wpAny_cRoomFor hu0 (wpAny_bind (I.type.here (wpAny_bind (hb.here ?_))))))
  split
  · rename_i q
    have e : subIn K tb (.ref C) = some false := (Bool.or_eq_true_iff.mp hn).elim (fun e => by rw [beq_iff_eq.mp e] at q; simp at q) fun e => beq_iff_eq.mp e
    refine wpAny_bind ((looks_subIn X e).here ?_)
    simp only [Bool.false_eq_true, if_false]
    exact end1 fun v => rfl
  · refine wpAny_bind (wpAny_pure ?_)
    simp only [Bool.false_eq_true, if_false]
    exact end1 fun v => rfl
end
end OM

namespace DL
open PySem L2 PySem.Spec PyProof.Rows
section
variable {X : Cx} {CX : CXT} {n : Nat} {f C : Addr} {fd : FuncData} {ps : List Str} {sp : Sp} {E : XK}
/-- a def is called somewhere below the running body -/
theorem run_sub (F : FnOk X.prog X.w X.K X.mg X.base CX n f fd ps sp) (hb : Binds X.K fd ps []) (hx : Passes CX X E) {A : Around} (sb : Sub X n A) {pins : List (Addr × Obj)} {σ : L2.St} {H : Hp} {s : Shared} {Q : VK} {us : List Value} {vs : List V} (I : Inv X pins σ H s) (r : Vals vs us) (h : sp vs H Q E) :
    wpAny (model X.prog X.w) A (call (.ref f) us) (EP X pins σ Q) X.xe s := by
  have e0 : Env0 X.prog X.w X.K X.mg X.base A X.stack s H := by
    have e := I.env0
    exact ⟨by rw [sb.fr]; exact e.frames, e.mod, e.bs, e.bsz, e.funs, e.frf, e.hok, e.bare⟩
  have hl : (us ++ ([] : List Value)).length = ps.length := by rw [List.append_nil, ← r.length]; exact F.len _ _ _ _ h
  have bt := hb s us I.kIn hl
  rw [List.append_nil] at bt
  refine wpAny_call (codeAny_mono (F.run A X.stack s H ⟨us, []⟩ us vs Q E sb.room e0 bt r h) fun u s' hq => ?_)
  cases u with
  | error e => exact hx pins σ H s e s' I hq
  | ok fl => cases fl <;> first | exact I.after hq | exact False.elim hq
/-- two instances of the class at C, a def on both -/
def rOwn2 (C : Addr) (sp : Sp) (E : XK) (g : V → VK → VK) : R2 := fun x y H Q => ∃ a b dx dy fs gs, x = .ref a ∧ y = .ref b ∧ H a = some (.ins C dx fs) ∧ H b = some (.ins C dy gs) ∧ sp [x, y] H (g x Q) E
theorem cmpBack_of {v : V} {u : Value} {s' : Shared} {Q : Value → Shared → Prop} (r : RelV v u) (q : Q u s') : PySem.W.CmpBack Q u s' := by
  cases v with
  | non => cases r; exact q
  | bl b => cases r; exact q
  | int i => obtain ⟨t, rfl⟩ := r; exact q
  | str i => obtain ⟨t, rfl⟩ := r; exact q
  | byt i => obtain ⟨t, rfl⟩ := r; exact q
  | flt i => obtain ⟨t, rfl⟩ := r; exact q
  | ref a => cases r; exact q
  | ty m => cases r; exact q
theorem op_own (op : Operator) (F : FnOk X.prog X.w X.K X.mg X.base CX n f fd ps sp) (hb : Binds X.K fd ps []) (hx : Passes CX X E) (hr : Room n X.A) (hc : PySem.W.selfFirst X.K C = true)
    (hs : PySem.W.findIn X.K (.ref C) (PySem.dunder op.info.2) = some (some (.ref f))) (hf : PySem.W.isFn X.K (.ref f) = true) : OpR X (binaryOp op) (rOwn2 C sp E fun _ Q => Q) := by
  rintro pins s σ H x y u v Q I rx ry ⟨a, b, dx, dy, fs, gs, rfl, rfl, ha, hb', h⟩
  cases rx
  cases ry
  obtain ⟨mA, J, _⟩ := ins_get I.hok ha
  obtain ⟨mB, J', _⟩ := ins_get I.hok hb'
  obtain ⟨od, J, _⟩ := J.look
  obtain ⟨od', J', _⟩ := J'.look
  obtain ⟨m, hF⟩ := I.fr
  refine PySem.W.binop_K hF I.ok.mod.kin J J'.type hc hs hf (wpAny_mono (run_sub (vs := [.ref a, .ref b]) F hb hx ⟨hr, rfl⟩ I (.cons rfl (.cons rfl .nil)) h) (fun w s' q => ?_) fun _ _ z => z)
  obtain ⟨z, H', I', rz, q⟩ := q
  exact cmpBack_of rz ⟨z, H', I', rz, q⟩
theorem op_ownEq (F : FnOk X.prog X.w X.K X.mg X.base CX n f fd ps sp) (hb : Binds X.K fd ps []) (hx : Passes CX X E) (hr : Room n X.A)
    (hs : PySem.W.findIn X.K (.ref C) "__eq__" = some (some (.ref f))) (hf : PySem.W.isFn X.K (.ref f) = true) : OpR X (compareOp .Eq) (rOwn2 C sp E fun _ Q => Q) := by
  rintro pins s σ H x y u v Q I rx ry ⟨a, b, dx, dy, fs, gs, rfl, rfl, ha, hb', h⟩
  cases rx
  cases ry
  obtain ⟨mA, J, _⟩ := ins_get I.hok ha
  obtain ⟨mB, J', _⟩ := ins_get I.hok hb'
  obtain ⟨od, J, _⟩ := J.look
  obtain ⟨od', J', _⟩ := J'.look
  obtain ⟨m, hF⟩ := I.fr
  show wpAny (model X.prog X.w) X.A (richCompare .Eq (.ref a) (.ref b)) (EP X pins σ Q) X.xe s
  refine PySem.W.cmp_K (op := .Eq) (tb := .ref C) hr.units0 hF I.ok.mod.kin J J'.type (by simp [PySem.W.notFirst]) hs hf (wpAny_mono (run_sub (vs := [.ref a, .ref b]) F hb hx ⟨hr, rfl⟩ I (.cons rfl (.cons rfl .nil)) h) (fun w s' q => ?_) fun _ _ z => z)
  obtain ⟨z, H', I', rz, q⟩ := q
  exact cmpBack_of rz ⟨z, H', I', rz, q⟩
theorem op_ownNe (F : FnOk X.prog X.w X.K X.mg X.base CX n f fd ps sp) (hb : Binds X.K fd ps []) (hx : Passes CX X E) (hr : Room (n + 1) X.A) (hne : PySem.W.findIn X.K (.ref C) "__ne__" = some (some (.builtin "object.__ne__"))) (hm : PySem.W.mroIn X.K C (.type "object") = some true)
    (hs : PySem.W.findIn X.K (.ref C) "__eq__" = some (some (.ref f))) (hf : PySem.W.isFn X.K (.ref f) = true) : OpR X (compareOp .NotEq) (rOwn2 C sp E fun _ Q v H' => ∃ k, v = .bl k ∧ Q (.bl (!k)) H') := by
  rintro pins s σ H x y u v Q I rx ry ⟨a, b, dx, dy, fs, gs, rfl, rfl, ha, hb', h⟩
  cases rx
  cases ry
  obtain ⟨mA, J, _⟩ := ins_get I.hok ha
  obtain ⟨mB, J', _⟩ := ins_get I.hok hb'
  obtain ⟨od, J, _⟩ := J.look
  obtain ⟨od', J', _⟩ := J'.look
  obtain ⟨m, hF⟩ := I.fr
  show wpAny (model X.prog X.w) X.A (richCompare .NotEq (.ref a) (.ref b)) (EP X pins σ Q) X.xe s
  have sb : Sub X (n + 1) X.A := ⟨hr, rfl⟩
  refine OM.ne_own (tb := .ref C) sb.in1.room.units0 hF I.ok.mod.kin J J'.type (by simp [PySem.W.notFirst]) hne hm hs hf (wpAny_mono (run_sub (vs := [.ref a, .ref b]) F hb hx sb.in1 I (.cons rfl (.cons rfl .nil)) h) (fun w s' q => ?_) fun _ _ z => z)
  obtain ⟨z, H', I', rz, k, rfl, q⟩ := q
  cases rz
  exact ⟨.bl (!k), H', I', rfl, q⟩
/-- len(x), str(x) by own methods -/
theorem cl_ownLen (F : FnOk X.prog X.w X.K X.mg X.base CX n f fd ps sp) (hb : Binds X.K fd ps []) (hx : Passes CX X E) (hr : Room (n + 1) X.A)
    (hs : PySem.W.findIn X.K (.ref C) "__len__" = some (some (.ref f))) (hf : PySem.W.isFn X.K (.ref f) = true) :
    CallR X (.builtin "len") (fun xs H Q => ∃ a dx fs, xs = [.ref a] ∧ H a = some (.ins C dx fs) ∧ sp [.ref a] H (fun v H' => ∃ k : Int, v = .int k ∧ 0 ≤ k ∧ k < 2 ^ 63 ∧ Q (.int k) H') E) := by
  rintro pins s σ H xs us Q I r ⟨a, dx, fs, rfl, ha, h⟩
  obtain ⟨u, rfl, rx⟩ := vals1 r
  cases rx
  obtain ⟨mA, J, _⟩ := ins_get I.hok ha
  obtain ⟨od, J, _⟩ := J.look
  obtain ⟨m, hF⟩ := I.fr
  have sb : Sub X (n + 1) X.A := ⟨hr, rfl⟩
  refine PySem.W.len_K hF I.ok.mod.kin J hs hf (wpAny_mono (run_sub (vs := [.ref a]) F hb hx sb.in1 I (.cons rfl .nil) h) (fun w s' q => ?_) fun _ _ z => z)
  obtain ⟨z, H', I', rz, k, rfl, k0, k1, q⟩ := q
  obtain ⟨t, rfl⟩ := rz
  exact ⟨⟨k0, k1⟩, .int k, H', I'.tok _, ⟨_, rfl⟩, q⟩
theorem cl_ownStr (F : FnOk X.prog X.w X.K X.mg X.base CX n f fd ps sp) (hb : Binds X.K fd ps []) (hx : Passes CX X E) (hr : Room (n + 2) X.A)
    (hs : PySem.W.findIn X.K (.ref C) "__str__" = some (some (.ref f))) (hf : PySem.W.isFn X.K (.ref f) = true) :
    CallR X (.type "str") (fun xs H Q => ∃ a dx fs, xs = [.ref a] ∧ H a = some (.ins C dx fs) ∧ sp [.ref a] H (fun v H' => ∃ k : Str, v = .str k ∧ Q (.str k) H') E) := by
  rintro pins s σ H xs us Q I r ⟨a, dx, fs, rfl, ha, h⟩
  obtain ⟨u, rfl, rx⟩ := vals1 r
  cases rx
  obtain ⟨mA, J, _⟩ := ins_get I.hok ha
  obtain ⟨od, J, _⟩ := J.look
  have sb : Sub X (n + 2) X.A := ⟨hr, rfl⟩
  refine PySem.W.kso_call sb.in1.in1.room.units0 I.kIn J hs hf (wpAny_mono (run_sub (vs := [.ref a]) F hb hx sb.in1.in1 I (.cons rfl .nil) h) (fun w s' q => ?_) fun _ _ z => z)
  obtain ⟨z, H', I', rz, k, rfl, q⟩ := q
  obtain ⟨t, rfl⟩ := rz
  exact ⟨.str k, H', I', ⟨_, rfl⟩, q⟩
end
end DL

namespace DL
open PySem L2 PySem.Spec PyProof.Rows
/-- a special method that keeps a promise told of data -/
structure Spc (P : Program) (w : World) (K : PySem.W.Frag) (mg : Str → Option Value) (base : Heap) (C : Addr) (nm : Str) (lv n : Nat) (tf : Tf) : Prop where
  ex : ∃ (f : Addr) (fd : FuncData) (ps : List Str), FnOk P w K mg base CX0 lv f fd ps (spD K n tf) ∧ Binds K fd ps [] ∧ PySem.W.findIn K (.ref C) nm = some (some (.ref f)) ∧ PySem.W.isFn K (.ref f) = true
def sOwn2 (C : Addr) (tf : Tf) (rg : Rg) (g : (D → Prop) → D → Prop) (t1 t2 : TD) : TD := fun env Q => t1 env fun d => t2 env fun e => match d, e with
  | .obj C1 n1 d1, .obj C2 n2 d2 => C1 = C ∧ C2 = C ∧ tf rg [.obj C1 n1 d1, .obj C2 n2 d2] (g Q) | _, _ => False
def gId : (D → Prop) → D → Prop := fun Q => Q
def gNot : (D → Prop) → D → Prop := fun Q d => match d with | .bl k => Q (.bl (!k)) | _ => False
section
variable {X : Cx} {K : PySem.W.Frag} {rg : Rg} {a b e : Expr} {ta tb te : TE} {t1 t2 t : TD} {C : Addr} {tf : Tf} {E : XK} {pos : Pos} {lv : Nat}
theorem RpO.obj {M0 M : Addr → Prop} {H : Hp} {v : V} {ns : List Str} {ds : List D} : RpO K M0 M H v (.obj C ns ds) → Rp K M H v (.obj C ns ds)
  | .inl r => r
  | .inr ⟨a, vs, ds', e1, e2, m, e3, r⟩ => by cases e2
theorem rf_own2 {g : V → VK → VK} {gd : (D → Prop) → D → Prop} (hg : ∀ (M : Addr → Prop) (H' : Hp) (x : V) (Q : VK) (Qd : D → Prop) (v : V) (d : D), Rp K M H' v d → gd Qd d → (∀ d' v', Qd d' → Rp K M H' v' d' → Q v' H') → g x Q v H')
    (h1 : RfO K rg ta t1) (h2 : RfO K rg tb t2) : Rf K rg (tOp (rOwn2 C (spD K 2 tf) E g) ta tb) (sOwn2 C tf rg gd t1 t2) := fun c hc pn H0 env σ H Qd Q S ht k => by
  refine h1 c hc pn H0 env σ H _ _ S ht fun d v H1 q1 k1 j1 r1 => ?_
  subst hc
  have S1 := S.grow k1 j1
  refine h2 c rfl pn H0 env σ H1 _ _ S1 q1 fun e w H2 q2 k2 j2 r2 => ?_
  have S2 := S1.grow k2 j2
  have r1' := RpO.keep k2 S.ok.sub (fun a h => Mof.of_R S.ok h) r1
  split at q2
  · obtain ⟨rfl, rfl, q⟩ := q2
    have s1 := r1'.obj
    have s2 := r2.obj
    have p1 := s1
    have p2 := s2
    cases p1 with
    | obj m1 e1 l1 a1 =>
    cases p2 with
    | obj m2 e2 l2 a2 =>
    refine ⟨_, _, _, _, _, _, rfl, rfl, e1, e2, ⟨Mof c env, none, c.rg⟩, _, gd Qd, ⟨fun a z => Mof.of_R S.ok z, S.ok.rg, fun a z => by cases z⟩, rfl, .cons s1 (.cons s2 .nil), j2, S2.domM, rfl, q, fun v d H' q' k' j' r' => ?_⟩
    exact hg (Mof c env) H' _ Q Qd v d r' q' fun d' v' qd rd => k d' v' H' qd ((k1.trans k2).trans k') j' rd
  · exact q2.elim
theorem hg_id (M : Addr → Prop) (H' : Hp) (x : V) (Q : VK) (Qd : D → Prop) (v : V) (d : D) (r : Rp K M H' v d) (q : gId Qd d) (k : ∀ d' v', Qd d' → Rp K M H' v' d' → Q v' H') : Q v H' := k d v q r
theorem hg_not (M : Addr → Prop) (H' : Hp) (x : V) (Q : VK) (Qd : D → Prop) (v : V) (d : D) (r : Rp K M H' v d) (q : gNot Qd d) (k : ∀ d' v', Qd d' → Rp K M H' v' d' → Q v' H') : ∃ z, v = .bl z ∧ Q (.bl (!z)) H' := by
  cases d with
  | bl z => cases r; exact ⟨z, rfl, k _ _ q (.bl _)⟩
  | _ => exact q.elim
theorem d_addOwn (F : Spc X.prog X.w X.K X.mg X.base C "__add__" lv 2 tf) (hr : Room lv X.A) (hc : PySem.W.selfFirst X.K C = true) (h1 : DO X K rg a ta t1) (h2 : DO X K rg b tb t2) : DP X K rg (.BinOp a .Add b pos) (tOp (rOwn2 C (spD K 2 tf) E0 fun _ Q => Q) ta tb) (sOwn2 C tf rg gId t1 t2) := by
  cases h1.kx
  obtain ⟨f, fd, ps, F, hb, hs, hf⟩ := F.ex
  exact ⟨rfl, pe_op (op_own .Add F hb pass0 hr hc hs hf) h1.pe h2.pe, rf_own2 hg_id h1.rf h2.rf⟩
theorem d_eqOwn (F : Spc X.prog X.w X.K X.mg X.base C "__eq__" lv 2 tf) (hr : Room lv X.A) (h1 : DO X K rg a ta t1) (h2 : DO X K rg b tb t2) (hm : behindInMarks .Eq b = false) : DP X K rg (.Compare a [.Eq] [b] pos) (tOp (rOwn2 C (spD K 2 tf) E0 fun _ Q => Q) ta tb) (sOwn2 C tf rg gId t1 t2) := by
  cases h1.kx
  obtain ⟨f, fd, ps, F, hb, hs, hf⟩ := F.ex
  exact ⟨rfl, pe_cmpR (op_ownEq F hb pass0 hr hs hf) h1.pe h2.pe hm, rf_own2 hg_id h1.rf h2.rf⟩
/-- what of the class != asks -/
structure NeOf (K : PySem.W.Frag) (C : Addr) : Prop where
  ne : PySem.W.findIn K (.ref C) "__ne__" = some (some (.builtin "object.__ne__"))
  mro : PySem.W.mroIn K C (.type "object") = some true
theorem d_neOwn (F : Spc X.prog X.w X.K X.mg X.base C "__eq__" lv 2 tf) (N : NeOf X.K C) (hr : Room (lv + 1) X.A) (h1 : DO X K rg a ta t1) (h2 : DO X K rg b tb t2) (hm : behindInMarks .NotEq b = false) : DP X K rg (.Compare a [.NotEq] [b] pos) (tOp (rOwn2 C (spD K 2 tf) E0 fun _ Q v H' => ∃ k, v = .bl k ∧ Q (.bl (!k)) H') ta tb) (sOwn2 C tf rg gNot t1 t2) := by
  cases h1.kx
  obtain ⟨f, fd, ps, F, hb, hs, hf⟩ := F.ex
  exact ⟨rfl, pe_cmpR (op_ownNe F hb pass0 hr N.ne N.mro hs hf) h1.pe h2.pe hm, rf_own2 hg_not h1.rf h2.rf⟩
theorem dt_eqOwn (F : Spc X.prog X.w X.K X.mg X.base C "__eq__" lv 2 tf) (hr : Room lv X.A) (h1 : DO X K rg a ta t1) (h2 : DO X K rg b tb t2) (hm : behindInMarks .Eq b = false) : DT X K rg (.Compare a [.Eq] [b] pos) (tTest (tOp (rOwn2 C (spD K 2 tf) E0 fun _ Q => Q) ta tb)) (sTest (sOwn2 C tf rg gId t1 t2)) := by
  cases h1.kx
  obtain ⟨f, fd, ps, F, hb, hs, hf⟩ := F.ex
  exact ⟨rfl, pt_cmpR (op_ownEq F hb pass0 hr hs hf) h1.pe h2.pe hm, rf_test (rf_own2 hg_id h1.rf h2.rf)⟩
theorem dt_neOwn (F : Spc X.prog X.w X.K X.mg X.base C "__eq__" lv 2 tf) (N : NeOf X.K C) (hr : Room (lv + 1) X.A) (h1 : DO X K rg a ta t1) (h2 : DO X K rg b tb t2) (hm : behindInMarks .NotEq b = false) : DT X K rg (.Compare a [.NotEq] [b] pos) (tTest (tOp (rOwn2 C (spD K 2 tf) E0 fun _ Q v H' => ∃ k, v = .bl k ∧ Q (.bl (!k)) H') ta tb)) (sTest (sOwn2 C tf rg gNot t1 t2)) := by
  cases h1.kx
  obtain ⟨f, fd, ps, F, hb, hs, hf⟩ := F.ex
  exact ⟨rfl, pt_cmpR (op_ownNe F hb pass0 hr N.ne N.mro hs hf) h1.pe h2.pe hm, rf_test (rf_own2 hg_not h1.rf h2.rf)⟩
/-! len(x), str(x) -/
def sOwn1 (C : Addr) (tf : Tf) (rg : Rg) (g : D → (D → Prop) → Prop) (x : TD) : TD := fun env Q => x env fun d => match d with | .obj C1 n1 d1 => C1 = C ∧ tf rg [.obj C1 n1 d1] fun d => g d Q | _ => False
def gLen : D → (D → Prop) → Prop := fun d Q => match d with | .int k => 0 ≤ k ∧ k < 2 ^ 63 ∧ Q (.int k) | _ => False
def gStr : D → (D → Prop) → Prop := fun d Q => match d with | .str k => Q (.str k) | _ => False
def rOwn1 (K : PySem.W.Frag) (C : Addr) (sp : Sp) (E : XK) (g : VK → VK) : List V → Hp → VK → Prop := fun xs H Q => ∃ a dx fs, xs = [.ref a] ∧ H a = some (.ins C dx fs) ∧ sp [.ref a] H (g Q) E
theorem rf_own1 {g : VK → VK} {gd : D → (D → Prop) → Prop} (hg : ∀ (M : Addr → Prop) (H' : Hp) (Q : VK) (Qd : D → Prop) (v : V) (d : D), Rp K M H' v d → gd d Qd → (∀ d' v', Qd d' → Rp K M H' v' d' → Q v' H') → g Q v H')
    (h1 : RfO K rg te t) : Rf K rg (tCB (rOwn1 K C (spD K 1 tf) E g) (tCons te tNil)) (sOwn1 C tf rg gd t) := fun c hc pn H0 env σ H Qd Q S ht k => by
  refine h1 c hc pn H0 env σ H _ _ S ht fun d v H1 q1 k1 j1 r1 => ?_
  subst hc
  have S1 := S.grow k1 j1
  split at q1
  · obtain ⟨rfl, q⟩ := q1
    have s1 := r1.obj
    have p1 := s1
    cases p1 with
    | obj m1 e1 l1 a1 =>
    refine ⟨_, _, _, rfl, e1, ⟨Mof c env, none, c.rg⟩, _, fun d => gd d Qd, ⟨fun a z => Mof.of_R S.ok z, S.ok.rg, fun a z => by cases z⟩, rfl, .cons s1 .nil, j1, S1.domM, rfl, q, fun v d H' q' k' j' r' => ?_⟩
    exact hg (Mof c env) H' Q Qd v d r' q' fun d' v' qd rd => k d' v' H' qd (k1.trans k') j' rd
  · exact q1.elim
theorem d_lenOwn {p : Pos} (F : Spc X.prog X.w X.K X.mg X.base C "__len__" lv 1 tf) (hr : Room (lv + 1) X.A) (hg : Gl X "len") (hm : X.mg "len" = none) (h : DO X K rg e te t) (he : starEach [e] X.env = (false, eval e X.env) :: starEach [] X.env := by rfl) :
    DP X K rg (.Call (.Name "len" p) [e] [] pos) (tCB (rOwn1 K C (spD K 1 tf) E0 fun Q v H' => ∃ k : Int, v = .int k ∧ 0 ≤ k ∧ k < 2 ^ 63 ∧ Q (.int k) H') (tCons te tNil)) (sOwn1 C tf rg gLen t) := by
  cases h.kx
  obtain ⟨f, fd, ps, F, hb, hs, hf⟩ := F.ex
  exact ⟨rfl, pe_callB (cl_ownLen F hb pass0 hr hs hf) hg hm (by decide +kernel) (pa_cons h.pe pa_nil he) (by decide) (by decide) he rfl, rf_own1 (fun M H' Q Qd v d r q k => by
    cases d with
    | int z => cases r; exact ⟨z, rfl, q.1, q.2.1, k _ _ q.2.2 (.int _)⟩
    | _ => exact q.elim) h.rf⟩
theorem d_strOwn {p : Pos} (F : Spc X.prog X.w X.K X.mg X.base C "__str__" lv 1 tf) (hr : Room (lv + 2) X.A) (hg : Gl X "str") (hm : X.mg "str" = none) (h : DO X K rg e te t) (he : starEach [e] X.env = (false, eval e X.env) :: starEach [] X.env := by rfl) :
    DP X K rg (.Call (.Name "str" p) [e] [] pos) (tCB (rOwn1 K C (spD K 1 tf) E0 fun Q v H' => ∃ k : Str, v = .str k ∧ Q (.str k) H') (tCons te tNil)) (sOwn1 C tf rg gStr t) := by
  cases h.kx
  obtain ⟨f, fd, ps, F, hb, hs, hf⟩ := F.ex
  exact ⟨rfl, pe_callTy (cl_ownStr F hb pass0 hr hs hf) hg hm (by decide +kernel) (pa_cons h.pe pa_nil he) (by decide) (by decide) he rfl, rf_own1 (fun M H' Q Qd v d r q k => by
    cases d with
    | str z => cases r; exact ⟨z, rfl, k _ _ q (.str _)⟩
    | _ => exact q.elim) h.rf⟩
end
end DL

namespace DL
open PySem L2 PySem.Spec PyProof.Rows
/-! ### methods of texts -/
/-- x.m() -/
def sTm0 (C : Str → Prop) (g : Str → D) (x : TD) : TD := fun env Q => x env fun d => match d with | .str a => C a ∧ Q (g a) | _ => False
/-- x.m(text) -/
def sTm1 (C : Str → Str → Prop) (g : Str → Str → D) (x y : TD) : TD := fun env Q => x env fun d => match d with | .str a => y env fun e => (match e with | .str b => C a b ∧ Q (g a b) | _ => False) | _ => False
section
variable {X : Cx} {K : PySem.W.Frag} {rg : Rg} {o e : Expr} {to te : TE} {x y : TD} {name : Str} {id : String} {apos cpos pos : Pos}
theorem rf_tm0 {C : Str → Prop} {g : Str → D} {gv : Str → V} (hg : ∀ a M H, Rp K M H (gv a) (g a)) (h : Rf K rg to x) : Rf K rg (tBM0 K "str" (fun x xs H Q => ∃ a, x = .str a ∧ xs = [] ∧ C a ∧ Q (gv a) H) to) (sTm0 C g x) := fun c hc pn H0 env σ H Qd Q S ht k => by
  refine h c hc pn H0 env σ H _ _ S ht fun d v H1 q1 k1 j1 r1 => ?_
  cases d with
  | str a => cases r1; exact ⟨rfl, a, rfl, rfl, q1.1, k _ _ H1 q1.2 k1 j1 (hg a _ _)⟩
  | _ => exact q1.elim
theorem d_tm0 {C : Str → Prop} {g : Str → D} {gv : Str → V} (slot : Slot "str" name id) (hty : typeOf (.builtin id) = pure (.type "method_descriptor")) (hm : MtR X id (fun x xs H Q => ∃ a, x = .str a ∧ xs = [] ∧ C a ∧ Q (gv a) H)) (hg : ∀ a M H, Rp K M H (gv a) (g a)) (ho : DP X K rg o to x)
    (hbase : attributeBase o name X.env (eval o X.env) = eval o X.env := by rfl) (hline : (apos.endLine == cpos.line) = true := by rfl) : DP X K rg (.Call (.Attribute o name apos) [] [] cpos) (tBM0 K "str" (fun x xs H Q => ∃ a, x = .str a ∧ xs = [] ∧ C a ∧ Q (gv a) H) to) (sTm0 C g x) := by
  cases ho.kx
  exact ⟨rfl, pe_bm0 PySem.F.plainAttrs_str slot hty hm ho.pe hbase hline, rf_tm0 hg ho.rf⟩
theorem rf_tm1 {C : Str → Str → Prop} {g : Str → Str → D} {gv : Str → Str → V} (hg : ∀ a b M H, Rp K M H (gv a b) (g a b)) (h : Rf K rg to x) (h2 : Rf K rg te y) : Rf K rg (tBM K "str" (fun x xs H Q => ∃ a b, x = .str a ∧ xs = [.str b] ∧ C a b ∧ Q (gv a b) H) to (tCons te tNil)) (sTm1 C g x y) := fun c hc pn H0 env σ H Qd Q S ht k => by
  refine h c hc pn H0 env σ H _ _ S ht fun d v H1 q1 k1 j1 r1 => ?_
  subst hc
  cases d with
  | str a =>
    cases r1
    refine ⟨rfl, h2 c rfl pn H0 env σ H1 _ _ (S.grow k1 j1) q1 fun e w H2 q2 k2 j2 r2 => ?_⟩
    cases e with
    | str b => cases r2; exact ⟨a, b, rfl, rfl, q2.1, k _ _ H2 q2.2 (k1.trans k2) j2 (hg a b _ _)⟩
    | _ => exact q2.elim
  | _ => exact q1.elim
theorem d_tm1 {C : Str → Str → Prop} {g : Str → Str → D} {gv : Str → Str → V} (slot : Slot "str" name id) (hty : typeOf (.builtin id) = pure (.type "method_descriptor")) (hm : MtR X id (fun x xs H Q => ∃ a b, x = .str a ∧ xs = [.str b] ∧ C a b ∧ Q (gv a b) H)) (hg : ∀ a b M H, Rp K M H (gv a b) (g a b)) (ho : DP X K rg o to x) (he : DP X K rg e te y)
    (hbase : attributeBase o name X.env (eval o X.env) = eval o X.env := by rfl)
    (hfew : ((backTo cpos (starEach [e] X.env)).all (fun x => !x.1) && (backToKw cpos (keywordEach [] X.env)).all (fun x => x.1.isSome) && decide ([e].length + ([] : List Keyword).length + (if ([] : List Keyword).isEmpty then 0 else 1) < 30)) = true := by rfl)
    (hline : (apos.endLine == cpos.line) = true := by rfl) (hs : starEach [e] X.env = (false, eval e X.env) :: starEach [] X.env := by rfl) (hplain : (backTo cpos (starEach [] X.env)).any (·.1) = false := by rfl) :
    DP X K rg (.Call (.Attribute o name apos) [e] [] cpos) (tBM K "str" (fun x xs H Q => ∃ a b, x = .str a ∧ xs = [.str b] ∧ C a b ∧ Q (gv a b) H) to (tCons te tNil)) (sTm1 C g x y) := by
  cases ho.kx
  exact ⟨rfl, pe_bm PySem.F.plainAttrs_str slot hty hm ho.pe (pa_cons he.pe pa_nil hs) hbase hfew hline hs hplain, rf_tm1 hg ho.rf he.rf⟩
/-- sep.join(a list of texts) -/
def sJoin (x y : TD) : TD := fun env Q => x env fun d => match d with | .str a => y env fun e => (match e with | .lst es => ∃ ys : List Str, es = ys.map D.str ∧ (ys.map (·.length)).sum + ys.length * a.length ≤ 16777216 ∧ Q (.str (Txt.join a ys)) | _ => False) | _ => False
theorem rf_join (h : Rf K rg to x) (h2 : RfO K rg te y) : Rf K rg (tBM K "str" (fun x xs H Q => ∃ a p, ∃ ys : List Str, x = .str a ∧ xs = [.ref p] ∧ (SqL K H p (ys.map V.str) ∨ SqT K H p (ys.map V.str)) ∧ (ys.map (·.length)).sum + ys.length * a.length ≤ 16777216 ∧ Q (.str (Txt.join a ys)) H) to (tCons te tNil)) (sJoin x y) := fun c hc pn H0 env σ H Qd Q S ht k => by
  refine h c hc pn H0 env σ H _ _ S ht fun d v H1 q1 k1 j1 r1 => ?_
  subst hc
  cases d with
  | str a =>
    cases r1
    refine ⟨rfl, h2 c rfl pn H0 env σ H1 _ _ (S.grow k1 j1) q1 fun e w H2 q2 k2 j2 r2 => ?_⟩
    cases e with
    | lst es =>
      obtain ⟨ys, rfl, hz, q⟩ := q2
      obtain ⟨p, vs, rfl, hl, aa⟩ := r2.lst
      have e := RpAll.ofStrs ys aa
      subst e
      exact ⟨a, p, ys, rfl, rfl, .inl (SqL.of hl), hz, k _ _ H2 q (k1.trans k2) j2 (.str _)⟩
    | _ => exact q2.elim
  | _ => exact q1.elim
theorem d_join (ho : DP X K rg o to x) (he : DO X K rg e te y)
    (hbase : attributeBase o "join" X.env (eval o X.env) = eval o X.env := by rfl)
    (hfew : ((backTo cpos (starEach [e] X.env)).all (fun x => !x.1) && (backToKw cpos (keywordEach [] X.env)).all (fun x => x.1.isSome) && decide ([e].length + ([] : List Keyword).length + (if ([] : List Keyword).isEmpty then 0 else 1) < 30)) = true := by rfl)
    (hline : (apos.endLine == cpos.line) = true := by rfl) (hs : starEach [e] X.env = (false, eval e X.env) :: starEach [] X.env := by rfl) (hplain : (backTo cpos (starEach [] X.env)).any (·.1) = false := by rfl) :
    DP X K rg (.Call (.Attribute o "join" apos) [e] [] cpos) (tBM K "str" (fun x xs H Q => ∃ a p, ∃ ys : List Str, x = .str a ∧ xs = [.ref p] ∧ (SqL K H p (ys.map V.str) ∨ SqT K H p (ys.map V.str)) ∧ (ys.map (·.length)).sum + ys.length * a.length ≤ 16777216 ∧ Q (.str (Txt.join a ys)) H) to (tCons te tNil)) (sJoin x y) := by
  cases ho.kx
  exact ⟨rfl, pe_bm PySem.F.plainAttrs_str PySem.F.slot_str_join PySem.F.type_str_join mt_join ho.pe (pa_cons he.pe pa_nil hs) hbase hfew hline hs hplain, rf_join ho.rf he.rf⟩
/-- x.split(text): a new list -/
def sSplit (x y : TD) : TDs := fun env Q => x env fun d => match d with | .str a => y env fun e => (match e with | .str b => (b.length == 0) = false ∧ a.length + 2 ≤ sizeLine ∧ Q ((Txt.split a b).map .str) | _ => False) | _ => False
theorem rf_split (h : Rf K rg to x) (h2 : Rf K rg te y) : RfF K rg (tBM K "str" (fun x xs H Q => ∃ a b, x = .str a ∧ xs = [.str b] ∧ (b.length == 0) = false ∧ a.length + 2 ≤ sizeLine ∧ rNewStrs (Txt.split a b) H Q) to (tCons te tNil)) (sSplit x y) := fun c hc pn H0 env σ H Qd Q S ht k => by
  refine h c hc pn H0 env σ H _ _ S ht fun d v H1 q1 k1 j1 r1 => ?_
  subst hc
  cases d with
  | str a =>
    cases r1
    have S1 := S.grow k1 j1
    refine ⟨rfl, h2 c rfl pn H0 env σ H1 _ _ S1 q1 fun e w H2 q2 k2 j2 r2 => ?_⟩
    cases e with
    | str b =>
      cases r2
      obtain ⟨q3, q4, q5⟩ := q2
      refine ⟨a, b, rfl, rfl, q3, q4, fun p hp => ?_⟩
      exact k _ p _ _ q5 (none_back S (k1.trans k2) j2 hp) (fresh_keep (k1.trans k2) hp) (fresh_j S.ok j2 hp) upd_same (RpAll.strs _)
    | _ => exact q2.elim
  | _ => exact q1.elim
theorem df_split (ho : DP X K rg o to x) (he : DP X K rg e te y)
    (hbase : attributeBase o "split" X.env (eval o X.env) = eval o X.env := by rfl)
    (hfew : ((backTo cpos (starEach [e] X.env)).all (fun x => !x.1) && (backToKw cpos (keywordEach [] X.env)).all (fun x => x.1.isSome) && decide ([e].length + ([] : List Keyword).length + (if ([] : List Keyword).isEmpty then 0 else 1) < 30)) = true := by rfl)
    (hline : (apos.endLine == cpos.line) = true := by rfl) (hs : starEach [e] X.env = (false, eval e X.env) :: starEach [] X.env := by rfl) (hplain : (backTo cpos (starEach [] X.env)).any (·.1) = false := by rfl) :
    DF X K rg (.Call (.Attribute o "split" apos) [e] [] cpos) (tBM K "str" (fun x xs H Q => ∃ a b, x = .str a ∧ xs = [.str b] ∧ (b.length == 0) = false ∧ a.length + 2 ≤ sizeLine ∧ rNewStrs (Txt.split a b) H Q) to (tCons te tNil)) (sSplit x y) := by
  cases ho.kx
  exact ⟨rfl, pe_bm PySem.F.plainAttrs_str PySem.F.slot_str_split PySem.F.type_str_split mt_split ho.pe (pa_cons he.pe pa_nil hs) hbase hfew hline hs hplain, rf_split ho.rf he.rf⟩
/-! ### f-strings -/
def sFmt (x : TD) : TD := fun env Q => x env fun d => match d with | .str a => a.length ≤ sizeLine ∧ Q (.str a) | .int i => i.natAbs.log2 < 1920 ∧ Q (.str (toString i)) | _ => False
theorem d_fmt (h : DP X K rg e te x) : DP X K rg (.FormattedValue e (-1) none pos) (tFmt te) (sFmt x) := by
  cases h.kx
  exact ⟨rfl, pe_fmt h.pe, fun c hc pn H0 env σ H Qd Q S ht k => by
    refine h.rf c hc pn H0 env σ H _ _ S ht fun d v H1 q1 k1 j1 r1 => ?_
    cases d with
    | str a => cases r1; exact .inl ⟨a, rfl, q1.1, k _ _ H1 q1.2 k1 j1 (.str _)⟩
    | int a => cases r1; exact .inr ⟨a, rfl, q1.1, k _ _ H1 q1.2 k1 j1 (.str _)⟩
    | _ => exact q1.elim⟩
/-- the parts of an f-string -/
inductive DJ (X : Cx) (K : PySem.W.Frag) (rg : Rg) : List Expr → List TE → List TD → Prop where
  | nil : DJ X K rg [] [] []
  | cons {e : Expr} {t : TE} {x : TD} {es : List Expr} {ts : List TE} {xs : List TD} (h : DP X K rg e t x) (r : DJ X K rg es ts xs) : DJ X K rg (e :: es) (t :: ts) (x :: xs)
theorem DJ.pj {es : List Expr} {ts : List TE} {xs : List TD} (h : DJ X K rg es ts xs) : PJ X es ts := by
  induction h with
  | nil => exact .nil
  | cons h _ ih => exact .cons h.pe ih
def sJs : List TD → Str → En → (Str → Prop) → Prop
  | [], acc, _, Q => Q acc
  | x :: xs, acc, env, Q => x env fun d => match d with | .str y => (acc ++ y).length ≤ sizeLine ∧ sJs xs (acc ++ y) env Q | _ => False
theorem rf_js {es : List Expr} {ts : List TE} {xs : List TD} (h : DJ X K rg es ts xs) : ∀ (acc : Str) (c : Dc), c.rg = rg → ∀ (pn : Pin) (H0 : Hp) (env : En) (σ : L2.St) (H : Hp) (Qd : Str → Prop) (Q : Str → Hp → Prop), Sd K c pn H0 env σ H → sJs xs acc env Qd →
    (∀ z H', Qd z → Keep c.rg.R H H' → c.rg.J H' → Q z H') → tJs ts acc σ H Q := by
  induction h with
  | nil => exact fun acc c hc pn H0 env σ H Qd Q S ht k => k acc H ht Keep.refl S.j
  | cons h _ ih =>
    intro acc c hc pn H0 env σ H Qd Q S ht k
    refine h.rf c hc pn H0 env σ H _ _ S ht fun d v H1 q1 k1 j1 r1 => ?_
    cases d with
    | str y =>
      cases r1
      refine ⟨y, rfl, q1.1, ih (acc ++ y) c hc pn H0 env σ H1 Qd Q (by subst hc; exact S.grow k1 j1) q1.2 fun z H' q k' j' => k z H' q (k1.trans k') j'⟩
    | _ => exact q1.elim
theorem d_fstr {v1 v2 : Expr} {rest : List Expr} {ts : List TE} {xs : List TD} (h : DJ X K rg (v1 :: v2 :: rest) ts xs) (hK : X.K = K := by rfl) : DP X K rg (.JoinedStr (v1 :: v2 :: rest) pos) (fun σ H Q => tJs ts Str.empty σ H fun out H1 => Q (.str out) H1) (fun env Q => sJs xs Str.empty env fun z => Q (.str z)) := by
  cases hK
  exact ⟨rfl, pe_joined h.pj, fun c hc pn H0 env σ H Qd Q S ht k => rf_js h Str.empty c hc pn H0 env σ H _ _ S ht fun z H' q k' j' => k _ _ H' q k' j' (.str _)⟩
end
end DL

namespace DL
open PySem L2 PySem.Spec PyProof.Rows
section
variable {X : Cx} {K : PySem.W.Frag} {rg : Rg} {e c1 c2 : Expr} {es : List Expr} {te : TE} {x : TD} {u : TDs} {pos : Pos}
/-! ### what is never reached -/
def tNot0 : TE := fun _ _ _ => False
def sNot0 : TD := fun _ _ => False
theorem d_no (hK : X.K = K := by rfl) : DP X K rg e tNot0 sNot0 := by
  cases hK
  exact ⟨rfl, ⟨fun _ _ _ _ _ _ h => h.elim⟩, fun _ _ _ _ _ _ _ _ _ _ h _ => h.elim⟩
/-! ### dict displays whose keys are written texts -/
structure DV (X : Cx) (K : PySem.W.Frag) (rg : Rg) (pos : Pos) (keys : List (Option Expr)) (vals : List Expr) (trs : List (TE × TE)) (ks : List Key) (u : TDs) : Prop where
  kx : X.K = K
  pps : PPs X pos keys vals trs
  len : keys.length = vals.length
  rf : ∀ (c : Dc), c.rg = rg → ∀ (pn : Pin) (H0 : Hp) (env : En) (σ : L2.St) (H : Hp) (Qd : List D → Prop) (Q : List (V × V) → Hp → Prop), Sd K c pn H0 env σ H → u env Qd →
    (∀ ds vs H', Qd ds → Keep c.rg.R H H' → c.rg.J H' → RpAll K (Mof c env) H' vs ds → ks.length = vs.length → Q ((ks.zip vs).map fun kv => (kV kv.1, kv.2)) H') → tPairs trs σ H Q
theorem dv_nil (hK : X.K = K := by rfl) : DV X K rg pos [] [] [] [] sNil := by
  cases hK
  exact ⟨rfl, pps_nil, rfl, fun c hc pn H0 env σ H Qd Q S ht k => k [] [] H ht Keep.refl S.j .nil rfl⟩
theorem dv_cons {keys : List (Option Expr)} {vals : List Expr} {trs : List (TE × TE)} {ks : List Key} {z : Str} {j : Nat} {p : Pos} (h : DP X K rg e te x) (r : DV X K rg pos keys vals trs ks u) :
    DV X K rg pos (some (.Constant (.str z) j p) :: keys) (e :: vals) ((tC (.str z), te) :: trs) (.inr z :: ks) (sCons x u) := by
  cases h.kx
  exact ⟨rfl, pps_cons pe_str h.pe r.pps, by simp [r.len], fun c hc pn H0 env σ H Qd Q S ht k => by
    refine h.rf c hc pn H0 env σ H _ _ S ht fun d v H1 q1 k1 j1 r1 => ?_
    refine r.rf c hc pn H0 env σ H1 _ _ (by subst hc; exact S.grow k1 j1) q1 fun ds vs H2 q2 k2 j2 r2 hl => ?_
    exact k (d :: ds) (v :: vs) H2 q2 (k1.trans k2) j2 (.cons (Rp.keep (k2.mono fun a z => Mof.of_R S.ok z) r1) r2) (by simp [hl])⟩
theorem zip_inj {ks : List Key} : ∀ {vs : List V} {kvs : List (Key × V)}, (ks.zip vs).map (fun kv => (kV kv.1, kv.2)) = kvs.map (fun kv => (kV kv.1, kv.2)) → ks.zip vs = kvs := fun {vs kvs} h => by
  have inj : ∀ p q : Key × V, (kV p.1, p.2) = (kV q.1, q.2) → p = q := fun p q e => by
    obtain ⟨p1, p2⟩ := p
    obtain ⟨q1, q2⟩ := q
    simp only [Prod.mk.injEq] at e
    rw [kV_inj e.1, e.2]
  have go : ∀ (xs ys : List (Key × V)), xs.map (fun kv => (kV kv.1, kv.2)) = ys.map (fun kv => (kV kv.1, kv.2)) → xs = ys := fun xs => by
    induction xs with
    | nil => intro ys h; cases ys with | nil => rfl | cons y ys => simp at h
    | cons x xs ih => intro ys h; cases ys with
      | nil => simp at h
      | cons y ys =>
        rw [List.map_cons, List.map_cons, List.cons.injEq] at h
        rw [inj _ _ h.1, ih _ h.2]
  exact go _ _ h
theorem merge_new : ∀ (more acc : List (Key × V)), (more.map (·.1)).Nodup → (∀ k ∈ more.map (·.1), valV acc k = none) → mergeK acc more = acc ++ more
  | [], acc, _, _ => by simp [mergeK]
  | p :: more, acc, hn, hd => by
    have h0 := hd p.1 (by simp)
    have e : mergeK acc (p :: more) = mergeK (putK acc p.1 p.2) more := rfl
    rw [List.map_cons, List.nodup_cons] at hn
    rw [e, putK_new p.2 h0, merge_new more _ hn.2 fun k hk => ?_]
    · simp
    · rw [valV_snoc _ _ _ _ h0]
      rw [if_neg (fun z => hn.1 (by rw [← z]; exact hk))]
      exact hd k (by simp [hk])
def sDct (ks : List Key) (u : TDs) : TD := fun env Q => u env fun ds => Q (.dct ks ds)
theorem zip_fst {α β : Type} : ∀ {ks : List α} {vs : List β}, ks.length = vs.length → (ks.zip vs).map (·.1) = ks
  | [], [], _ => rfl
  | [], _ :: _, h => by simp at h
  | _ :: _, [], h => by simp at h
  | k :: ks, v :: vs, h => by simp [zip_fst (show ks.length = vs.length by simpa using h)]
theorem d_dct {keys : List (Option Expr)} {vals : List Expr} {trs : List (TE × TE)} {ks : List Key} (h : DV X K rg pos keys vals trs ks u) (hall : keys.all (·.isSome) = true) (h0 : keys ≠ []) (h15 : keys.length ≤ 15) (hks : ks.length ≤ 15) (hn : ks.Nodup) :
    DP X K rg (.Dict keys vals pos) (tDisp trs) (sDct ks u) := by
  cases h.kx
  exact ⟨rfl, pe_disp h.pps hall h.len h0 h15, fun c hc pn H0 env σ H Qd Q S ht k => by
    subst hc
    intro p hp
    have pR : ¬ c.rg.R p := fun z => S.domM p (Mof.of_R S.ok z) hp
    have T : Sd X.K (c.with p) pn H0 env σ (upd H p (.dK [])) := S.inComp hp
    refine h.rf (c.with p) rfl pn H0 env σ _ _ _ T ht fun ds vs H2 q2 k2 j2 r2 hl => ?_
    have k2' : Keep c.rg.R (upd H p (.dK [])) H2 := k2
    have hp2 : H2 p = some (.dK []) := k2' p _ upd_same pR
    refine ⟨hp2, ks.zip vs, rfl, by rw [List.length_zip]; omega, ?_⟩
    have em : mergeK [] (ks.zip vs) = ks.zip vs := by
      rw [merge_new _ _ (by rw [zip_fst hl]; exact hn) (fun k _ => rfl)]; simp
    rw [em]
    have kH : Keep c.rg.R H (upd H2 p (.dK (ks.zip vs))) := fun b o e m => by
      have hb : b ≠ p := fun z => by rw [z, hp] at e; cases e
      rw [upd_ne hb]
      exact k2' b o (by rw [upd_ne hb]; exact e) m
    have up : Keep (Mof (c.with p) env) H2 (upd H2 p (.dK (ks.zip vs))) := fun b o e m => by
      rw [upd_ne (fun z => m (mof_with.mpr (.inr z)))]; exact e
    refine k (.dct ks ds) (.ref p) _ q2 kH (S.ok.rg.stay H2 _ j2 fun b o e hr => by rw [upd_ne (fun z => pR (by rw [← z]; exact hr))]; exact e) ?_
    exact .dct (fun z => S.domM p z hp) upd_same hl (RpAll.anti (fun b _ _ z => mof_with.mpr (.inl z)) (RpAll.keep up r2))⟩
/-! ### isinstance of classes, own ones too -/
def tyW : D → Option Value
  | .non => some (.type "NoneType") | .bl _ => some (.type "bool") | .int _ => some (.type "int") | .str _ => some (.type "str") | .lst _ => some (.type "list") | .tup _ => some (.type "tuple") | .dct _ _ => some (.type "dict") | .obj C _ _ => some (.ref C) | _ => none
/-- what of a class isinstance asks of its instances -/
structure IsiC (K : PySem.W.Frag) (C : Addr) : Prop where
  cl : Cls K C
  ha : PySem.W.findIn K (.ref C) "__class__" = some (some (.builtin "object.__class__"))
  hn : PySem.W.specialIn K (.builtin "object.__class__") "__get__" = some (some (.builtin "getset_descriptor.__get__"))
  ht : PySem.W.takesIn K (.builtin "object.__class__") = some true
  hm : PySem.W.mroIn K C (.type "object") = some true
def isiOk (K : PySem.W.Frag) : D → Prop
  | .obj C _ _ => IsiC K C
  | _ => True
theorem tyW_ok {M0 M : Addr → Prop} {H : Hp} {v : V} {d : D} {t : Value} (r : RpO K M0 M H v d) (h : tyW d = some t) (hi : isiOk K d) : TyX K H v t := by
  cases d with
  | non => cases h; rw [r.non]; exact .base .non
  | bl b => cases h; rw [r.bl]; exact .base (.bl b)
  | int b => cases h; rw [r.int]; exact .base (.int b)
  | str b => cases h; rw [r.str]; exact .base (.str b)
  | lst ds => cases h; obtain ⟨p, vs, rfl, h1, _⟩ := r.lst; exact .base (.lst h1)
  | tup ds =>
    cases h
    rcases r with r | ⟨_, _, _, _, e, _⟩
    · cases r with
      | tup m e a => exact .base (.tup e)
      | tupK e a => obtain ⟨o, its, n, e1, e2, _⟩ := e; exact .kTuple e1 e2
    · cases e
  | dct ks ds =>
    cases h
    rcases r with r | ⟨_, _, _, _, e, _⟩
    · cases r with | dct m e l a => exact .base (.dK e)
    · cases e
  | obj C ns ds =>
    cases h
    rcases r with r | ⟨_, _, _, _, e, _⟩
    · cases r with | obj m e l a => exact .base (.ins e hi.cl hi.ha hi.hn hi.ht hi.hm)
    · cases e
  | _ => cases h
def sIsiW (K : PySem.W.Frag) (u : Value) (x : TD) : TD := fun env Q => x env fun d => ∃ t b, tyW d = some t ∧ isiOk K d ∧ PySem.W.kitOne K t u = some b ∧ Q (.bl b)
theorem d_isiW {cv : V} {cu : Value} {p : Pos} (hg : Gl X "isinstance") (hm : X.mg "isinstance" = none) (h : DO X K rg e te x) (hc : PE X c1 (tC cv)) (hcv : ClsV cv cu)
    (hs1 : starEach [e, c1] X.env = (false, eval e X.env) :: starEach [c1] X.env := by rfl) (hs2 : starEach [c1] X.env = (false, eval c1 X.env) :: starEach [] X.env := by rfl)
    (hpl : (backTo pos (starEach [c1] X.env)).any (·.1) = false := by rfl) :
    DP X K rg (.Call (.Name "isinstance" p) [e, c1] [] pos) (tCB (rIsi K) (tCons te (tCons (tC cv) tNil))) (sIsiW K cu x) := by
  cases h.kx
  exact ⟨rfl, pe_callB call_isi hg hm (by decide +kernel) (pa_cons h.pe (pa_cons hc pa_nil hs2) hs1) (by decide) (by decide) hs1 hpl, fun c hc' pn H0 env σ H Qd Q S ht k => by
    refine h.rf c hc' pn H0 env σ H _ _ S ht fun d v H1 q1 k1 j1 r1 => ?_
    obtain ⟨t, b, e1, e0, e2, q⟩ := q1
    exact ⟨v, cv, t, cu, b, rfl, hcv, tyW_ok r1 e1 e0, e2, k _ _ H1 q k1 j1 (.bl b)⟩⟩
/-- isinstance(x, (c, d)) -/
def sIsi2 (K : PySem.W.Frag) (u1 u2 : Value) (x : TD) : TD := fun env Q => x env fun d => ∃ t b, tyW d = some t ∧ isiOk K d ∧ PySem.W.kitAny K t [u1, u2] = some b ∧ Q (.bl b)
theorem d_isi2 {v1 v2 : V} {u1 u2 : Value} {p tp : Pos} {kk : Nat} (hg : Gl X "isinstance") (hm : X.mg "isinstance" = none) (h : DO X K rg e te x) (h1 : PE X c1 (tC v1)) (h2 : PE X c2 (tC v2)) (g1 : ClsV v1 u1) (g2 : ClsV v2 u2)
    (hs1 : starEach [e, .Tuple [c1, c2] kk tp] X.env = (false, eval e X.env) :: starEach [.Tuple [c1, c2] kk tp] X.env := by rfl) (hs2 : starEach [.Tuple [c1, c2] kk tp] X.env = (false, eval (.Tuple [c1, c2] kk tp) X.env) :: starEach [] X.env := by rfl)
    (hs3 : starEach [c1, c2] X.env = (false, eval c1 X.env) :: starEach [c2] X.env := by rfl) (hs4 : starEach [c2] X.env = (false, eval c2 X.env) :: starEach [] X.env := by rfl)
    (hpl : (backTo pos (starEach [.Tuple [c1, c2] kk tp] X.env)).any (·.1) = false := by rfl) :
    DP X K rg (.Call (.Name "isinstance" p) [e, .Tuple [c1, c2] kk tp] [] pos) (tCB (rIsiT K) (tCons te (tCons (tTup (tCons (tC v1) (tCons (tC v2) tNil))) tNil))) (sIsi2 K u1 u2 x) := by
  cases h.kx
  exact ⟨rfl, pe_callB call_isiT hg hm (by decide +kernel) (pa_cons h.pe (pa_cons (pe_tup (pa_cons h1 (pa_cons h2 pa_nil hs4) hs3)) pa_nil hs2) hs1) (by decide) (by decide) hs1 hpl, fun c hc' pn H0 env σ H Qd Q S ht k => by
    refine h.rf c hc' pn H0 env σ H _ _ S ht fun d v H1 q1 k1 j1 r1 => ?_
    subst hc'
    obtain ⟨t, b, e1, e0, e2, q⟩ := q1
    refine ⟨by show 2 ≤ sizeLine; decide, fun l hl => ?_⟩
    have rl : RpO X.K c.M (Mof c env) (upd H1 l (.tup [v1, v2])) v d := by
      rcases r1 with r1 | ⟨a, vs, ds, f1, f2, m, f3, r⟩
      · exact .inl (Rp.keep (Keep.upd_new hl) r1)
      · exact .inr ⟨a, vs, ds, f1, f2, m, by rw [upd_ne (ne_of_none f3 hl)]; exact f3, RpAll.keep (Keep.upd_new hl) r⟩
    refine ⟨v, l, [v1, v2], t, [u1, u2], b, rfl, upd_same, .cons g1 (.cons g2 .nil), tyW_ok rl e1 e0, e2, ?_⟩
    exact k _ _ _ q (fresh_keep k1 hl) (fresh_j S.ok j1 hl) (.bl b)⟩
end
end DL

namespace DL
open PySem L2 PySem.Spec PyProof.Rows ClX
/-! ### all, any, sum of lists -/
theorem RpAll.bls {K : PySem.W.Frag} {M : Addr → Prop} {H : Hp} : ∀ {vs : List V} (bs : List Bool), RpAll K M H vs (bs.map D.bl) → vs = bs.map V.bl
  | _, [], .nil => rfl
  | _, z :: zs, .cons a b => by cases a; rw [RpAll.bls zs b]; rfl
theorem RpAll.ofInts {K : PySem.W.Frag} {M : Addr → Prop} {H : Hp} : ∀ {vs : List V} (bs : List Int), RpAll K M H vs (bs.map D.int) → vs = bs.map V.int
  | _, [], .nil => rfl
  | _, z :: zs, .cons a b => by cases a; rw [RpAll.ofInts zs b]; rfl
def fAll (g : List Bool → Bool) : FL := fun ds Q => match ds with | [.lst es] => ∃ bs : List Bool, es = bs.map D.bl ∧ Q (.bl (g bs)) | _ => False
def fSum : FL := fun ds Q => match ds with | [.lst es] => ∃ bs : List Int, es = bs.map D.int ∧ Q (.int bs.sum) | _ => False
section
variable {K : PySem.W.Frag} {X : Cx}
theorem cad_all : CaD K (rAll K) (fAll fun bs => bs.all id) := by
  intro M0 M H vs ds Qd Q hM r hf k
  unfold fAll at hf
  split at hf
  · obtain ⟨bs, rfl, q⟩ := hf
    obtain ⟨v, rfl, r1⟩ := r.one
    obtain ⟨p, xs, rfl, h1, a1⟩ := r1.lst
    rw [RpAll.bls bs a1] at h1
    exact ⟨p, bs, rfl, SqL.of h1, k _ _ H q (Same.refl H) (.bl _)⟩
  · exact hf.elim
theorem cad_any : CaD K (rAny K) (fAll fun bs => bs.any id) := by
  intro M0 M H vs ds Qd Q hM r hf k
  unfold fAll at hf
  split at hf
  · obtain ⟨bs, rfl, q⟩ := hf
    obtain ⟨v, rfl, r1⟩ := r.one
    obtain ⟨p, xs, rfl, h1, a1⟩ := r1.lst
    rw [RpAll.bls bs a1] at h1
    exact ⟨p, bs, rfl, SqL.of h1, k _ _ H q (Same.refl H) (.bl _)⟩
  · exact hf.elim
theorem cad_sum : CaD K (rSum K) fSum := by
  intro M0 M H vs ds Qd Q hM r hf k
  unfold fSum at hf
  split at hf
  · obtain ⟨bs, rfl, q⟩ := hf
    obtain ⟨v, rfl, r1⟩ := r.one
    obtain ⟨p, xs, rfl, h1, a1⟩ := r1.lst
    rw [RpAll.ofInts bs a1] at h1
    exact ⟨p, bs, rfl, SqL.of h1, k _ _ H q (Same.refl H) (.int _)⟩
  · exact hf.elim
theorem cl_all (hc : X.calm = true) (hK : X.K = K := by rfl) : CallR X (.builtin "all") (rAll K) := by cases hK; exact cr_all hc
theorem cl_any (hc : X.calm = true) (hK : X.K = K := by rfl) : CallR X (.builtin "any") (rAny K) := by cases hK; exact cr_any hc
theorem cl_sum (hc : X.calm = true) (hK : X.K = K := by rfl) : CallR X (.builtin "sum") (rSum K) := by cases hK; exact cr_sum hc
end
/-! ### a class as a value: cls(..) -/
section
variable {X : Cx} {K : PySem.W.Frag} {rg : Rg} {e : Expr} {es : List Expr} {ta : TA} {u : TDs} {nm : Str} {C : Addr} {p pos : Pos} {ns : List Str} {i : Nat}
/-- a class that stands in the slot i -/
def tMakeL (i : Nat) (C : Addr) (sp : Sp) (E : XK) (t : TA) : TE := fun σ H Q => σ[i]? = some (some (.ref C)) ∧ tMake C sp [] E t σ H Q
theorem pe_makeL {CX : CXT} {k : Nat} {f : Addr} {fd : FuncData} {ps : List Str} {sp : Sp} {E : XK} (M : L2.Mk X.K C f) (F : FnOk X.prog X.w X.K X.mg X.base CX k f fd ps sp) (hr : Room (k + 1) X.A) (hN : X.N[i]? = some nm) (hv : Vis X.env.scope nm) (hb : Binds X.K fd ps []) (hx : Passes CX X E)
    (ha : PA X (e :: es) ta) (hd : (nm == ("__debug__" : Str)) = false := by decide) (hcd : (nm == ("__classdict__" : Str)) = false := by decide) (he : starEach (e :: es) X.env = (false, eval e X.env) :: starEach es X.env := by rfl) (hpl : (backTo pos (starEach es X.env)).any (·.1) = false := by rfl) :
    PE X (.Call (.Name nm p) (e :: es) [] pos) (tMakeL i C sp E ta) := ⟨fun pins s σ H Q I h => by
  have first := (pe_var (pos := p) hN hv hd hcd).run pins s σ H (fun v G => v = .ref C ∧ G = H) I ⟨.ref C, h.1, rfl, rfl⟩
  refine wpAny_Call_Name_kw (thn first fun c1 s1 q1 => ?_)
  obtain ⟨v, G, I1, r1, rfl, rfl⟩ := q1
  cases r1
  refine PySem.W.callWith_K (h₀ := X.base) I.ok.mod.kin M.kp ?_ he hpl
  exact thn (ha.run pos pins s1 σ _ _ I1 h.2) fun us s2 q2 => by
    obtain ⟨vs, G2, I2, r2, q2⟩ := q2
    exact ⟨I2.kIn, run_make M F hr hb .nil hx I2 r2 q2⟩⟩
/-- cls(..), cls a class that is told as a value -/
def sMakeL (i : Nat) (C : Addr) (ns : List Str) (n : Nat) (tf : Tfs) (rg : Rg) (u : TDs) : TD := fun env Q => env[i]? = some (some (.dat (.raw (.ref C)))) ∧ sMake C ns n tf rg u env Q
theorem d_makeL {lv n : Nat} {tf : Tfs} {cn : Str} (F : Mak X.prog X.w K X.mg X.base cn C ns lv n tf) (hr : Room (lv + 1) X.A) (hN : X.N[i]? = some nm) (hv : Vis X.env.scope nm) (ha : DA X K rg (e :: es) ta u)
    (hd : (nm == ("__debug__" : Str)) = false := by decide) (hcd : (nm == ("__classdict__" : Str)) = false := by decide) (he : starEach (e :: es) X.env = (false, eval e X.env) :: starEach es X.env := by rfl) (hpl : (backTo pos (starEach es X.env)).any (·.1) = false := by rfl) :
    DP X K rg (.Call (.Name nm p) (e :: es) [] pos) (tMakeL i C (spI K C ns n tf) E0 ta) (sMakeL i C ns n tf rg u) := by
  cases ha.kx
  obtain ⟨f, fd, ps, F, M, hm, hb⟩ := F.ex
  exact ⟨rfl, pe_makeL M F hr hN hv hb pass0 ha.pa hd hcd he hpl, fun c hc pn H0 env σ H Qd Q S ht k => by
    obtain ⟨h1, h2⟩ := ht
    obtain ⟨v, hv', rv⟩ := S.sl i _ h1
    cases rv
    exact ⟨hv', rf_make ha.rf c hc pn H0 env σ H Qd Q S h2 k⟩⟩
/-- C.m(..), m a classmethod -/
structure Cmt (P : Program) (w : World) (K : PySem.W.Frag) (mg : Str → Option Value) (base : Heap) (C : Addr) (m : Str) (lv n : Nat) (tf : Tf) : Prop where
  ex : ∃ (mc : Value) (q g : Addr) (fd : FuncData) (ps : List Str), CRead K C mc ∧ CMet K C mc m q g ∧ FnOk P w K mg base CX0 lv g fd ps (spD K (n + 1) tf) ∧ Binds K fd ps []
def sCmt (C : Addr) (n : Nat) (tf : Tf) (rg : Rg) (u : TDs) : TD := fun env Q => u env fun ds => ds.length = n ∧ tf rg (.raw (.ref C) :: ds) Q
theorem d_cmeth {o : Expr} {m : Str} {apos : Pos} {lv n : Nat} {tf : Tf} {pl : Sem Bool} (F : Cmt X.prog X.w X.K X.mg X.base C m lv n tf) (hr : Room lv X.A) (ho : PE X o (tC (.ref C))) (ha : DA X K rg (e :: es) ta u)
    (hst : starEach (e :: es) X.env = (false, eval e X.env) :: starEach es X.env := by rfl) (hpl : (backTo pos (starEach es X.env)).any (·.1) = false := by rfl)
    (ht : eval (.Call (.Attribute o m apos) (e :: es) [] pos) X.env = (do
      let ov ← eval o X.env
      standAt apos.atName
      let (f, first) ← holding [ov] (getMethod ov m pl)
      callWith pos f first (backTo pos (starEach (e :: es) X.env)) (backToKw pos (keywordEach [] X.env))) := by rfl) :
    DP X K rg (.Call (.Attribute o m apos) (e :: es) [] pos) (tCMeth C (spD K (n + 1) tf) E0 (tC (.ref C)) ta) (sCmt C n tf rg u) := by
  cases ha.kx
  obtain ⟨mc, q, g, fd, ps, r, cm, F, hb⟩ := F.ex
  have FR := (F.raw hb .nil).imp (sp' := spD X.K (n + 1) tf) fun vs H Q E h => by rw [List.append_nil]; exact h
  exact ⟨rfl, pe_cmeth ho r cm FR hr pass0 ha.pa hst hpl ht, fun c hc pn H0 env σ H Qd Q S ht' k => by
    refine ⟨rfl, ha.rf c hc pn H0 env σ H _ _ S ht' fun ds vs H1 q1 k1 j1 r1 => ?_⟩
    subst hc
    have S1 := S.grow k1 j1
    refine ⟨⟨Mof c env, none, c.rg⟩, .raw (.ref C) :: ds, Qd, ⟨fun a z => Mof.of_R S.ok z, S.ok.rg, fun a z => by cases z⟩, rfl, .cons (.raw _) r1, j1, S1.domM, by rw [List.length_cons, RpAll.length r1, q1.1], q1.2, fun v d H' q k' j' r' => k d v H' q (k1.trans k') j' r'⟩⟩
end
end DL

namespace OM
open PySem PySem.W PySem.Spec PySem.Calls PyProof.Rows
section
variable {prog : Program} {w : World} {A : Around} {E : Value → Shared → Prop} {s : Shared} {K : Frag} {x C L f : Addr} {h₀ : Heap} {m : Str → Option Value} {ox : Obj} {od : Option Obj} {b : Value}
/-- the class has no method for op= -/
theorem fillsI_no {M : Model} {h : Heap} {nm : String} {add : Bool} {cd : ClassData} (X : K.In h) (hc : clsIn K C = some cd) (hm : cd.mro = [.ref C, .type "object"]) (h1 : findIn K (.ref C) (dunderI nm) = some none) (h2 : findIn K (.type "object") (dunderI nm) = some none) : Looks M h (fillsInplaceSlot (.ref C) nm add) false := by
  intro A Q E s k q
  unfold fillsInplaceSlot
  refine wpAny_bind ((looks_clsIn X hc).andThen (f := fun cd => pure cd.mro) .now A _ E s k ?_)
  rw [hm, List.anyM_cons]
  refine wpAny_bind (wpAny_bind (looks_findIn X h1 A _ E s k ?_))
  refine wpAny_pure ?_
  simp only [Bool.false_eq_true, if_false]
  rw [List.anyM_cons]
  refine wpAny_bind (wpAny_bind (looks_findIn X h2 A _ E s k ?_))
  refine wpAny_pure ?_
  simp only [Bool.false_eq_true, if_false]
  exact wpAny_pure q
theorem iop_own {op : Operator} {cd : ClassData} {Q : Value → Shared → Prop} (F : Fr h₀ L s.heap m) (X₀ : K.In h₀) (I : InstAt s.heap x ox C od) (hb : Looks (model prog w) s.heap (typeOf b) (.ref C)) (hcd : clsIn K C = some cd) (hm : cd.mro = [.ref C, .type "object"])
    (h1 : findIn K (.ref C) (dunderI op.info.2) = some none) (h2 : findIn K (.type "object") (dunderI op.info.2) = some none) (hs : findIn K (.ref C) (PySem.dunder op.info.2) = some (some (.ref f))) (hf : isFn K (.ref f) = true)
    (h : wpAny (model prog w) A (call (.ref f) [.ref x, b]) (PySem.W.CmpBack Q) E s) : wpAny (model prog w) A (inplaceOp op (.ref x) b) Q E s := by
  have X := X₀.keeps F.keep
  unfold inplaceOp
  refine wpAny_holding (wpAny_bind (I.type.here (wpAny_bind ((fillsI_no X hcd hm h1 h2).here ?_))))
  simp only [Bool.false_eq_true, if_false]
  refine wpAny_bind (wpAny_mono (Q := fun r s' => ∃ v, r = some v ∧ Q v s') ?_ (fun r s' z => ?_) fun _ _ z => z)
  · unfold binaryOp1
    refine wpAny_bind (I.type.here (wpAny_bind (hb.here (wpAny_bind ((fills_K X hcd hm hs).here ?_)))))
    simp only [beq_self_eq_true, if_true]
    refine wpAny_bind (wpAny_pure ?_)
    simp only [Bool.and_false, Bool.false_and, Bool.false_eq_true, if_false]
    refine wpAny_bind (wpAny_pure ?_)
    simp only [Bool.false_eq_true, if_false]
    refine wpAny_bind (m := tryMethod (.ref x) _ b) ?_
    unfold tryMethod
    have done := wpAny_mono (Q' := fun v s' => v ≠ .notImplemented ∧ Q v s') h (fun v s' hv => by cases v <;> first | exact hv.elim | exact ⟨(by intro z; cases z), hv⟩) fun _ _ z => z
    refine wpAny_bind (special_fn X I hs (beq_iff_eq.mp hf) (wpAny_mono done (fun v s' hv => ?_) fun _ _ z => z))
    obtain ⟨nv, hv⟩ := hv
    cases v <;> first | exact absurd rfl nv | exact wpAny_pure (wpAny_pure ⟨_, rfl, hv⟩)
  · obtain ⟨v, rfl, q⟩ := z
    exact wpAny_pure q
end
end OM

namespace DL
open PySem L2 PySem.Spec PyProof.Rows ClX
/-- what of a class op= asks -/
structure IopC (K : PySem.W.Frag) (C : Addr) (i : Str) : Prop where
  cd : ∃ cd, PySem.W.clsIn K C = some cd ∧ cd.mro = [.ref C, .type "object"]
  own : PySem.W.findIn K (.ref C) i = some none
  obj : PySem.W.findIn K (.type "object") i = some none
section
variable {X : Cx} {CX : CXT} {n : Nat} {f C : Addr} {fd : FuncData} {ps : List Str} {sp : Sp} {E : XK}
theorem ip_own {op : Operator} (N : IopC X.K C (dunderI op.info.2)) (F : FnOk X.prog X.w X.K X.mg X.base CX n f fd ps sp) (hb : Binds X.K fd ps []) (hx : Passes CX X E) (hr : Room n X.A)
    (hs : PySem.W.findIn X.K (.ref C) (PySem.dunder op.info.2) = some (some (.ref f))) (hf : PySem.W.isFn X.K (.ref f) = true) : PIp X op (rOwn2 C sp E fun _ Q => Q) := by
  rintro pins s σ H x y u v Q I rx ry ⟨a, b, dx, dy, fs, gs, rfl, rfl, ha, hb', h⟩
  cases rx
  cases ry
  obtain ⟨mA, J, _⟩ := ins_get I.hok ha
  obtain ⟨mB, J', _⟩ := ins_get I.hok hb'
  obtain ⟨od, J, _⟩ := J.look
  obtain ⟨od', J', _⟩ := J'.look
  obtain ⟨m, hF⟩ := I.fr
  obtain ⟨cd, c1, c2⟩ := N.cd
  refine OM.iop_own hF I.ok.mod.kin J J'.type c1 c2 N.own N.obj hs hf (wpAny_mono (run_sub (vs := [.ref a, .ref b]) F hb hx ⟨hr, rfl⟩ I (.cons rfl (.cons rfl .nil)) h) (fun w s' q => ?_) fun _ _ z => z)
  obtain ⟨z, H', I', rz, q⟩ := q
  exact cmpBack_of rz ⟨z, H', I', rz, q⟩
end
/-- name += e by an own __add__ -/
def sAugOwn (C : Addr) (i : Nat) (tf : Tf) (rg : Rg) (x : TD) : TDS := fun Dd env => match env[i]? with
  | some (some (.dat (.obj C1 n1 d1))) => x env fun e => (match e with | .obj C2 n2 d2 => C1 = C ∧ C2 = C ∧ tf rg [.obj C1 n1 d1, .obj C2 n2 d2] fun z => Dd.nx (env.set i (some (.dat z))) | _ => False)
  | _ => False
section
variable {X : Cx} {K : PySem.W.Frag} {rg : Rg} {st : Stmt} {e : Expr} {te : TE} {x : TD} {C : Addr} {tf : Tf} {i lv : Nat} {nm : Str} {pos tpos : Pos}
theorem rf_augOwn (h : Rf K rg te x) : RfS K rg (tAug i te (rOwn2 C (spD K 2 tf) E0 fun _ Q => Q)) (sAugOwn C i tf rg x) := fun c hc pn H0 env σ H Dd De S ht nx r ro bk ct => by
  unfold sAugOwn at ht
  split at ht
  · rename_i C1 n1 d1 he
    obtain ⟨v, hv, rv⟩ := S.sl i _ he
    have hi := (List.getElem?_eq_some_iff.mp he).1
    refine ⟨v, hv, h c hc pn H0 env σ H _ _ S ht fun d2 w H1 q1 k1 j1 r1 => ?_⟩
    subst hc
    have S1 := S.grow k1 j1
    have rv1 : Rp K (Mof c env) H1 v (.obj C1 n1 d1) := Rp.keep (k1.mono fun a z => Mof.of_R S.ok z) rv
    split at q1
    · obtain ⟨rfl, rfl, q⟩ := q1
      have s1 := rv1
      have s2 := r1
      cases rv1 with
      | obj m1 e1 l1 a1 =>
      cases r1 with
      | obj m2 e2 l2 a2 =>
      refine ⟨_, _, _, _, _, _, rfl, rfl, e1, e2, ⟨Mof c env, none, c.rg⟩, _, _, ⟨fun a z => Mof.of_R S.ok z, S.ok.rg, fun a z => by cases z⟩, rfl, .cons s1 (.cons s2 .nil), j1, S1.domM, rfl, q, fun z d H' q' k' j' r' => ?_⟩
      exact nx _ _ _ q' ((S1.grow k' j').setD i hi r')
    · exact q1.elim
  · exact ht.elim
theorem ds_augOwn (F : Spc X.prog X.w X.K X.mg X.base C "__add__" lv 2 tf) (N : IopC X.K C (dunderI "add")) (hr : Room lv X.A) (he : DP X K rg e te x) (hN : X.N.Nodup) (hi : X.N[i]? = some nm) (hx : Loc X.env.scope nm) (hf : X.fn nm = true ∨ X.env.scope.names.lookup nm = some .local := by first | exact .inl rfl | exact .inr rfl) :
    DS X K rg (.AugAssign (.Name nm tpos) .Add e pos) (tAug i te (rOwn2 C (spD K 2 tf) E0 fun _ Q => Q)) (sAugOwn C i tf rg x) := by
  cases he.kx
  obtain ⟨f, fd, ps, F, hb, hs, hfn⟩ := F.ex
  exact ⟨rfl, ps_aug hN hi hx he.pe (ip_own (op := .Add) N F hb pass0 hr hs hfn) hf, rf_augOwn he.rf⟩
end
end DL

/-! Sets of keys of any kind that can be walked: members as a list without repeats, in any order. -/
namespace SG
open PySem PySem.Spec PyProof.Rows L2
section
variable {P : Program} {w : World} {κ : Type} [DecidableEq κ] {knd : KeyKind P w κ}
/-- an entry holds the key k -/
def Ent (knd : KeyKind P w κ) (e : Int × Value) (k : κ) : Prop := knd.is k e.2 = true ∧ e.1 = knd.hash k ∧ e.2.scannable = true
/-- these entries hold these keys, in some order -/
def Ents (knd : KeyKind P w κ) (l : List (Int × Value)) (ks : List κ) : Prop := ∃ js, Paired (Ent knd) l js ∧ js.Perm ks
theorem paired_perm {α β : Type} {R : α → β → Prop} {l l' : List α} (p : l.Perm l') : ∀ {ks : List β}, Paired R l ks → ∃ ks', Paired R l' ks' ∧ ks'.Perm ks := by
  induction p with
  | nil => intro ks h; exact ⟨ks, h, List.Perm.refl _⟩
  | cons x _ ih =>
    intro ks h
    cases h with
    | cons a b =>
      obtain ⟨ks', h1, h2⟩ := ih b
      exact ⟨_ :: ks', .cons a h1, h2.cons _⟩
  | swap x y l =>
    intro ks h
    cases h with
    | cons a b =>
      cases b with
      | cons a' b => exact ⟨_ :: _ :: _, .cons a' (.cons a b), List.Perm.swap _ _ _⟩
  | trans _ _ ih1 ih2 =>
    intro ks h
    obtain ⟨k1, h1, p1⟩ := ih1 h
    obtain ⟨k2, h2, p2⟩ := ih2 h1
    exact ⟨k2, h2, p2.trans p1⟩
theorem Ents.perm {l l' : List (Int × Value)} {ks : List κ} (h : Ents knd l ks) (p : l'.Perm l) : Ents knd l' ks := by
  obtain ⟨js, h1, h2⟩ := h
  obtain ⟨js', h3, h4⟩ := paired_perm p.symm h1
  exact ⟨js', h3, h4.trans h2⟩
theorem Ents.cons {l : List (Int × Value)} {ks : List κ} {e : Int × Value} {k : κ} (h : Ents knd l ks) (a : Ent knd e k) : Ents knd (e :: l) (k :: ks) := by
  obtain ⟨js, h1, h2⟩ := h
  exact ⟨k :: js, .cons a h1, h2.cons _⟩
theorem paired_mem {α β : Type} {R : α → β → Prop} : ∀ {l : List α} {ks : List β}, Paired R l ks → ∀ e ∈ l, ∃ k ∈ ks, R e k
  | _, _, .nil, _, h => by simp at h
  | _, _, .cons a b, e, h => by
    rcases List.mem_cons.mp h with rfl | h
    · exact ⟨_, by simp, a⟩
    · obtain ⟨k, hk, r⟩ := paired_mem b e h; exact ⟨k, by simp [hk], r⟩
theorem paired_mem' {α β : Type} {R : α → β → Prop} : ∀ {l : List α} {ks : List β}, Paired R l ks → ∀ k ∈ ks, ∃ e ∈ l, R e k
  | _, _, .nil, _, h => by simp at h
  | _, _, .cons a b, e, h => by
    rcases List.mem_cons.mp h with rfl | h
    · exact ⟨_, by simp, a⟩
    · obtain ⟨k, hk, r⟩ := paired_mem' b e h; exact ⟨k, by simp [hk], r⟩
theorem Ents.elems {l : List (Int × Value)} {ks : List κ} (h : Ents knd l ks) : ElemsOf knd l := fun e he => by
  obtain ⟨js, h1, _⟩ := h
  obtain ⟨k, _, a, b, c⟩ := paired_mem h1 e he
  exact ⟨⟨k, a, b⟩, c⟩
theorem Ents.mem {l : List (Int × Value)} {ks : List κ} (h : Ents knd l ks) (k : κ) : k ∈ ks ↔ ∃ e ∈ l, knd.is k e.2 = true := by
  obtain ⟨js, h1, h2⟩ := h
  rw [← h2.mem_iff]
  constructor
  · intro hk
    obtain ⟨e, he, a, _⟩ := paired_mem' h1 k hk
    exact ⟨e, he, a⟩
  · rintro ⟨e, he, q⟩
    obtain ⟨j, hj, a, _⟩ := paired_mem h1 e he
    have := KeyKind.is_eq_decide a k
    rw [q] at this
    have : k = j := by simpa using this.symm
    rw [this]; exact hj
theorem Ents.length {l : List (Int × Value)} {ks : List κ} (h : Ents knd l ks) : l.length = ks.length := by
  obtain ⟨js, h1, h2⟩ := h
  rw [← h2.length_eq]; exact Paired.length h1
/-- the set at a, that can be walked -/
def At (knd : KeyKind P w κ) (h : Heap) (a : Addr) (ks : List κ) : Prop :=
  ∃ o es ep t, h.get? a = some o ∧ o.ExactSet ∧ o.data = .set es ep t ∧ Ents knd es.toList ks ∧ ks.Nodup ∧ es.size < scanBound ∧ t.fits es.size = true ∧ Ris t.place.toList ∧ (w.params.followText "set-order" = true ∨ t.led = true)
theorem At.at {h h' : Heap} {a : Addr} {ks : List κ} (R : At knd h a ks) (k : ∀ o, h.get? a = some o → h'.get? a = some o) : At knd h' a ks := by
  obtain ⟨o, es, ep, t, ho, r⟩ := R
  exact ⟨o, es, ep, t, k o ho, r⟩
theorem At.setOf {h : Heap} {a : Addr} {ks : List κ} (R : At knd h a ks) : h.SetOf knd a (fun k => decide (k ∈ ks)) ks.length := by
  obtain ⟨o, es, ep, t, ho, hx, hd, en, nd, hb, hf, _⟩ := R
  exact ⟨o, es, ep, t, ho, hx, hd, en.elems, fun k => by rw [decide_eq_true_iff]; exact en.mem k, hb, hf, by rw [← en.length, Array.length_toList]⟩
theorem At.fresh {h : Heap} : At knd (h.push { cls := .type "set", dict := none, data := .set #[] 0 (.fresh 0 0 (!w.params.followText "set-order")) }) h.objs.size [] :=
  ⟨_, #[], 0, _, Heap.get?_push_size _ rfl, ⟨rfl, rfl, rfl⟩, rfl, ⟨[], .nil, List.Perm.refl _⟩, List.nodup_nil, (by decide), (by rfl), List.Pairwise.nil, by
    show _ ∨ (!w.params.followText "set-order") = true
    cases w.params.followText "set-order" <;> simp⟩
variable {A : Around} {E : Value → Shared → Prop} {s : Shared} {a : Addr} {ks : List κ}
theorem At.laid {h : Heap} {o : Obj} {es fs : Array (Int × Value)} {ep : Nat} {t u : SetTable} {js : List κ} (got : h.get? a = some o) (ex : o.ExactSet) (dat : o.data = .set es ep t) (en : Ents knd fs.toList js) (nd : js.Nodup) (few : fs.size < scanBound) (fit : u.fits fs.size = true) (up : Ris u.place.toList) (way : w.params.followText "set-order" = true ∨ u.led = true) :
    At knd (h.update a (Obj.putSet fs u)) a js ∧ (h.update a (Obj.putSet fs u)).get? a = some { o with data := .set fs (ep + 1) u } := by
  have st := store_at (es' := fs) (t' := u) got dat
  exact ⟨⟨_, fs, ep + 1, u, st, ex, rfl, en, nd, few, fit, up, way⟩, st⟩
theorem At.store {g : Bool → Sem Unit} (hg : ∀ (b : Bool) (s₁ : Shared) (Q' : Unit → Shared → Prop), Q' () s₁ → wpAny (model P w) A (g b) Q' E s₁)
    {o : Obj} {es fs : Array (Int × Value)} {ep : Nat} {t u : SetTable} {js : List κ} (got : s.heap.get? a = some o) (ex : o.ExactSet) (dat : o.data = .set es ep t) (en : Ents knd fs.toList js) (nd : js.Nodup) (few : fs.size < scanBound) (fit : u.fits fs.size = true) (up : Ris u.place.toList)
    (way : w.params.followText "set-order" = true ∨ u.led = true) {dummy : Bool} {R : Option Bool → Shared → Prop} (k : ∀ h', Heap.SameBut a s.heap h' → At knd h' a js → R (some true) { s with heap := h' }) :
    wpAny (model P w) A (do
        storeSet a fs u
        if (!dummy && u.tooFull) = true then do
            g (relayAll u fs (SetTable.grown fs.size)).2.2
            storeSet a (relayAll u fs (SetTable.grown fs.size)).1 (relayAll u fs (SetTable.grown fs.size)).2.1
            pure (some true)
          else pure (some true)) R E s := by
  obtain ⟨at1, st1⟩ := At.laid (knd := knd) got ex dat en nd few fit up way
  have one := Heap.SameBut.update s.heap a (Obj.putSet fs u)
  refine wpAny_bind (wpAny_storeSet_of got dat ?_ (fits_of_scanBound few))
  split
  · have f1 := relayAll_perm u fs (SetTable.grown fs.size)
    have f2 := relayAll_fits u fs (SetTable.grown fs.size)
    have f3 := relayAll_ris u fs (SetTable.grown fs.size)
    have f4 := relayAll_led u fs (SetTable.grown fs.size)
    generalize relayAll u fs (SetTable.grown fs.size) = z at f1 f2 f3 f4 ⊢
    have few2 : z.1.size < scanBound := by rw [← Array.length_toList, f1.length_eq, Array.length_toList]; exact few
    refine wpAny_bind (hg _ _ _ (wpAny_bind (wpAny_storeSet_of st1 rfl (wpAny_pure (k _ (one.trans (Heap.SameBut.update _ a _)) ?_)) (fits_of_scanBound few2))))
    exact (At.laid (knd := knd) st1 ex rfl (en.perm f1) nd few2 f2 f3 (way.imp id fun q => f4.trans q)).1
  · exact wpAny_pure (k _ one at1)
theorem At.addHashed {x : Value} {k : κ} {Q : Bool → Shared → Prop} (hx : knd.is k x = true) (hsc : x.scannable = true) (R : At knd s.heap a ks) (room : ks.length + 1 < scanBound)
    (hQ : ∀ h', Heap.SameBut a s.heap h' → At knd h' a (if k ∈ ks then ks else k :: ks) → Q (!decide (k ∈ ks)) { s with heap := h' }) : wpAny (model P w) A (setAddHashed a x (knd.hash k)) Q E s := by
  have R0 := R
  obtain ⟨o, es, ep, t, got, ex, dat, en, nd, few, fit, up, way⟩ := R
  unfold setAddHashed setAddHashedIn
  refine wpAny_holding (wpAny_bind (wpAny_setState_of got dat fit ?_))
  dsimp only
  rw [byScan_of hsc few en.elems]
  simp only [↓reduceIte]
  unfold setAddByScan
  refine wpAny_bind (wpAny_bind (wpAny_rule (wpAny_bind (wpAny_setScan_of hx got dat fit en.elems ?_))))
  cases found : List.findIdx? (fun e => knd.is k e.2) es.toList with
  | some j =>
    dsimp only
    obtain ⟨lt, is, _⟩ := List.findIdx?_eq_some_iff_getElem.mp found
    have inn : k ∈ ks := (en.mem k).2 ⟨_, List.getElem_mem lt, is⟩
    have z := hQ s.heap (Heap.SameBut.refl a s.heap) (by rw [if_pos inn]; exact R0)
    simp only [inn, decide_true, Bool.not_true] at z
    exact wpAny_pure (wpAny_pure z)
  | none =>
    dsimp only
    have out : k ∉ ks := fun h => by
      obtain ⟨e, he, q⟩ := (en.mem k).1 h
      have := List.findIdx?_eq_none_iff.mp found e he
      rw [q] at this; cases this
    have f1 := layNew_perm t es (knd.hash k) x
    have f2 := layNew_fits t es (knd.hash k) x
    have f3 := layNew_ris t es (knd.hash k) x up
    have f4 := layNew_led t es (knd.hash k) x
    generalize layNew t es (knd.hash k) x = z at f1 f2 f3 f4 ⊢
    obtain ⟨fs, u, dummy, gave⟩ := z
    dsimp only at f1 f2 f3 f4 ⊢
    rw [Array.toList_push] at f1
    have pc : fs.toList.Perm ((knd.hash k, x) :: es.toList) := f1.trans (List.perm_append_singleton _ _)
    have en1 : Ents knd fs.toList (k :: ks) := (en.cons ⟨hx, rfl, hsc⟩).perm pc
    have nd1 : (k :: ks).Nodup := List.nodup_cons.mpr ⟨out, nd⟩
    have few1 : fs.size < scanBound := by
      have := en1.length
      rw [Array.length_toList, List.length_cons] at this
      omega
    have way1 : w.params.followText "set-order" = true ∨ u.led = true := way.imp id fun q => f4.trans q
    have fin : ∀ h', Heap.SameBut a s.heap h' → At knd h' a (k :: ks) → Q true { s with heap := h' } := fun h' sb r => by
      have z := hQ h' sb (by rw [if_neg out]; exact r)
      simpa [out] using z
    have any : ∀ (b : Bool) (s₁ : Shared) (Q' : Unit → Shared → Prop), Q' () s₁ → wpAny (model P w) A (match b with | true => rule "set.scan.the-table-gave-way" | false => pure ()) Q' E s₁ := fun b _ _ q => by cases b <;> first | exact wpAny_pure q | exact wpAny_rule q
    refine wpAny_bind (any _ _ _ ?_)
    split
    · refine wpAny_bind ?_
      rw [hashByValue_scannable 8 hsc]
      refine wpAny_pure ?_
      cases plainKind x with
      | true =>
        simp only [↓reduceIte]
        exact At.store (fun b s₁ Q' q => by cases b <;> first | exact wpAny_pure q | exact wpAny_rule q) got ex dat en1 nd1 few1 f2 f3 way1 fun h' sb r => wpAny_pure (fin h' sb r)
      | false =>
        simp only [Bool.false_eq_true, ↓reduceIte]
        exact At.store (fun b s₁ Q' q => by cases b <;> first | exact wpAny_pure q | exact wpAny_rule q) got ex dat en1 nd1 few1 (SetTable.fits_plain_off f2) f3 way1 fun h' sb r => wpAny_pure (fin h' sb r)
    · refine wpAny_bind (wpAny_pure ?_)
      simp only [↓reduceIte]
      refine At.store ?_ got ex dat en1 nd1 few1 f2 f3 way1 fun h' sb r => ?_
      · exact fun b s₁ Q' q => by cases b <;> first | exact wpAny_pure q | exact wpAny_rule q
      · exact wpAny_pure (fin h' sb r)
end
end SG

namespace SG
open PySem PySem.Spec PyProof.Rows L2
section
variable {P : Program} {w : World} {A : Around} {E : Value → Shared → Prop} {s : Shared} {a : Addr} {xs : List Str}
theorem strs_paired : ∀ {l : List (Int × Value)} {js : List Str}, Paired (Ent (PySem.strKind P w)) l js → StrsAre (l.map (·.2)) js
  | _, _, .nil => .nil
  | _, _, .cons a b => by
    obtain ⟨t, e⟩ := Value.isStrOf_shape a.1
    rw [List.map_cons, e]
    exact .cons _ t (strs_paired b)
theorem At.strs {h : Heap} (R : At (PySem.strKind P w) h a xs) : ∃ o es ep t js, h.get? a = some o ∧ o.cls = .type "set" ∧ o.data = .set es ep t ∧ StrsAre (es.toList.map (·.2)) js ∧ js.Perm xs ∧ es.size < scanBound ∧ t.fits es.size = true ∧ Ris t.place.toList ∧ (w.params.followText "set-order" = true ∨ t.led = true) := by
  obtain ⟨o, es, ep, t, got, ex, dat, ⟨js, en, p⟩, _, few, fit, up, way⟩ := R
  exact ⟨o, es, ep, t, js, got, ex.1, dat, strs_paired en, p, few, fit, up, way⟩
theorem strs_perm {vs us : List Value} (p : vs.Perm us) : ∀ {js : List Str}, StrsAre us js → ∃ ks, StrsAre vs ks ∧ ks.Perm js := by
  have conv : ∀ {l : List Value} {js : List Str}, StrsAre l js → Paired (fun v x => ∃ t, v = Value.str x t) l js := fun {l js} h => by
    induction h with
    | nil => exact .nil
    | cons x t _ ih => exact .cons ⟨t, rfl⟩ ih
  have back : ∀ {l : List Value} {js : List Str}, Paired (fun v x => ∃ t, v = Value.str x t) l js → StrsAre l js := fun {l js} h => by
    induction h with
    | nil => exact .nil
    | cons a _ ih => obtain ⟨t, rfl⟩ := a; exact .cons _ t ih
  intro js h
  obtain ⟨ks, h1, h2⟩ := paired_perm p.symm (conv h)
  exact ⟨ks, back h1, h2⟩
theorem sorted_texts {Q : Value → Shared → Prop} (R : At (PySem.strKind P w) s.heap a xs) (hh : A.handled = none) (few : xs.length < 64)
    (hQ : ∀ s' p (out : Array Value) (c : Nat) (ys : List Str), (∀ b o, s.heap.get? b = some o → s'.heap.get? b = some o) → s'.gens = s.gens → s'.os = s.os → s.heap.objs.size ≤ p → s'.heap.get? p = some (seqObj "list" out c) → StrsAre out.toList ys → ys.Perm xs → sortedS ys = true → Q (.ref p) s') :
    wpAny (model P w) A (call (.builtin "sorted") [.ref a]) Q E s := by
  obtain ⟨o, es, ep, t, js, got, cls, dat, st, pj, bound, fit, up, way⟩ := R.strs
  refine Calls.call_function_entry kind_sorted plain_sorted entry_sorted (args_sorted1 _) ?_
  unfold Builtin.«sorted»
  refine wpAny_bind (m := checkCount "sorted" 1 1 _) (wpAny_pure ?_)
  have gather := fun Q' => collect_set (P := P) (A := A.in1) (E := E) (Q := Q') hh ⟨o, got, cls, dat⟩ fit bound up way
  refine wpAny_bind (gather _ fun s1 vs k1 sz g1 o1 pm => ?_)
  obtain ⟨ks, sk, pk⟩ := strs_perm pm st
  have pxs : ks.Perm xs := pk.trans pj
  have lv : vs.length < 64 := by rw [sk.length, pxs.length_eq]; exact few
  refine wpAny_bind (wpAny_newList ?_ (by rw [sizeLine_eq]; omega))
  have new : (s1.heap.push (seqObj "list" vs.toArray 0)).get? s1.heap.objs.size = some (seqObj "list" vs.toArray 0) := Heap.get?_push_size _ rfl
  refine wpAny_bind (wpAny_holding (wpAny_call_entry slot_list_sort ⟨_, new, rfl⟩ entry_list_sort (list_sort_treeK strKind_oneLt new sk.keysOf (fun v1 v2 rest e => keyKind_strs (by rw [← e]; exact sk)) lv fun st' p1 p2 => ⟨_, rfl, ?_⟩) (args_list_sort _)))
  obtain ⟨ys, y1, y2, y3⟩ := sorted_out_str sk p1 p2
  generalize Array.map (fun x : Keyed => x.2) (arrOf st') = out at y1 ⊢
  obtain ⟨c, hc⟩ := sortedHeap_at (vs := vs) (out := out) new
  have old : ∀ b u, s.heap.get? b = some u → (sortedHeap (s1.heap.push (seqObj "list" vs.toArray 0)) s1.heap.objs.size vs out).get? b = some u := fun b u e => by
    have q := k1 b u e
    have lt := Heap.lt_size q
    rw [sortedHeap_old (Nat.ne_of_lt lt) (by rw [size_push']; exact Nat.lt_succ_of_lt lt), Heap.get?_push_of_some _ q]
  exact wpAny_pure ⟨_, rfl, hQ _ s1.heap.objs.size out c ys old g1 o1 sz hc y1 (y2.trans pxs) y3⟩
end
end SG
namespace L2
open PySem PySem.Spec PyProof.Rows SG
/-- a set of texts at a, that can be walked: its members without repeats, in any order -/
def SetS (P : Program) (w : World) (a : Addr) (xs : List Str) : HO := .ext fun h => At (PySem.strKind P w) h a xs
theorem setS_new {P : Program} {w : World} {H : Hp} {h : Heap} {a : Addr} {xs : List Str} (R : At (PySem.strKind P w) h a xs) : ObjOk P w H h a (SetS P w a xs) := ⟨R, ⟨R.choose, R.choose_spec.choose_spec.choose_spec.choose_spec.1⟩, fun _ _ p k => At.at p k⟩
theorem setS_get {X : Cx} {pins : List (Addr × Obj)} {σ : St} {H : Hp} {s : Shared} {a : Addr} {xs : List Str} (I : Inv X pins σ H s) (ha : H a = some (SetS X.prog X.w a xs)) : At (PySem.strKind X.prog X.w) s.heap a xs := (I.hok a _ ha).1
section
variable {X : Cx}
/-- sorted(a set of texts) -/
def rSortedTx (P : Program) (w : World) : List V → Hp → VK → Prop := fun vs H Q => ∃ (a : Addr) (xs : List Str), vs = [.ref a] ∧ H a = some (SetS P w a xs) ∧ xs.length < 64 ∧
  ∀ (ys : List Str) (p : Addr), ys.Perm xs → sortedS ys = true → H p = none → Q (.ref p) (upd H p (.lst (ys.map V.str)))
theorem cr_sortedTx (hc : X.calm = true) : CallR X (.builtin "sorted") (rSortedTx X.prog X.w) := by
  intro pins s σ H vs us Q I r h
  obtain ⟨a, xs, rfl, ha, few, q⟩ := h
  rw [Vals.ref1 r]
  refine sorted_texts (setS_get I ha) (I.ok.hd hc) few fun s' p out c ys k g o hp hg st pm so => ?_
  have len : (ys.map V.str).length ≤ sizeLine := by rw [List.length_map, pm.length_eq, sizeLine_eq]; omega
  have free : H p = none := I.hok.fresh hp
  have J : Inv X pins σ (upd H p (.lst (ys.map V.str))) { s with heap := s'.heap, gens := s'.gens, drawn := s'.drawn, toks := s'.toks } :=
    I.call (ch := []) (Un.laid k hp free) (I.hok.laid k hp ⟨len, out.toList, c, vals_of_strs st, hg⟩) (by rw [g]; exact I.bare) fun _ z => nomatch z
  have same : s' = { s with heap := s'.heap, gens := s'.gens, drawn := s'.drawn, toks := s'.toks } := by cases s'; cases s; cases o; rfl
  rw [same]
  exact ⟨.ref p, _, J, rfl, q ys p pm so free⟩
/-- a text is put in -/
theorem addS_ok {pins : List (Addr × Obj)} {σ : St} {H : Hp} {s : Shared} {E : Value → Shared → Prop} {D : Addr} {xs : List Str} {y : Str} {t : Tok} {Q : Value → Shared → Prop} (I : Inv X pins σ H s) (hD : H D = some (SetS X.prog X.w D xs)) (room : xs.length + 1 < scanBound)
    (h : ∀ s', Inv X pins σ (upd H D (SetS X.prog X.w D (if y ∈ xs then xs else y :: xs))) s' → Q .none s') : wpAny (model X.prog X.w) X.A (call (.builtin "set.add") [.ref D, .str y t]) Q E s := by
  have R := setS_get I hD
  have of := R.setOf
  have hk : (PySem.strKind X.prog X.w).is y (.str y t) = true := by simp [PySem.strKind, Value.isStrOf]
  refine wpAny_call_entry F.slot_set_add of.typeIs F.entry_set_add ?_ (F.args_set_add_2 _ _)
  unfold Builtin.«set.add» Builtin.Frozenset.oneOther
  simp only [List.isEmpty_nil, bind_assoc]
  unfold Builtin.Frozenset.addrOf setAdd
  refine wpAny_bind (wpAny_pure ?_)
  try dsimp only
  refine wpAny_bind (wpAny_pure ?_)
  try dsimp only
  refine wpAny_bind (wpAny_holding (wpAny_bind ((PySem.strKind X.prog X.w).pyHash hk ?_)))
  refine At.addHashed (s := { s with toks := s.toks + 1 }) hk rfl R room fun h' sb new => ?_
  show wpAny _ _ (ret Value.none) _ _ _
  have there : ∃ u, h'.get? D = some u := ⟨_, new.choose_spec.choose_spec.choose_spec.choose_spec.1⟩
  exact wpAny_pure ⟨_, rfl, h _ (I.write (e := D) (t' := s.toks + 1) (by rw [hD]; trivial) (.inl rfl) (fun b u hb hu => (sb.2 b hb).trans hu) there (setS_new new))⟩
end
end L2

/-! {elt for a in .. for b in ..}: the members put in by an action that is told apart. -/
namespace SG
open PySem PySem.Spec PyProof.Rows L2
section
variable {P : Program} {w : World} {A : Around} {R : Result → Shared → Prop} {env : Env}
/-- m within the block, an error noted -/
abbrev Go (P : Program) (w : World) (A : Around) (R : Result → Shared → Prop) (env : Env) {α : Type} (m : Sem α) (Q : α → Shared → Prop) (s : Shared) : Prop :=
  wpAny (model P w) A m Q (notedBy (model P w) A env fun e z => R (.error e) z) s
abbrev asks (ifs : List Expr) (env : Env) : Sem Bool :=
  forIn ifs true fun c r => if r = true then do let ok ← isTrue c env (eval c env); pure (ForInStep.yield ok) else pure (ForInStep.yield r)
/-- one turn of a clause's loop: body where the tests hold, else off -/
def OneTurn (P : Program) (w : World) (A : Around) (R : Result → Shared → Prop) (env : Env) (t : Expr) (ifs : List Expr) (it : Value) (body off : Shared → Prop) (s : Shared) : Prop :=
  Go P w A R env (pyNext it) (fun r s1 => match r with
    | none => R (.ok .next) s1
    | some v => Go P w A R env (letOwnedTupleGo t it v) (fun _ s2 => Go P w A R env (assign t env v) (fun _ s3 =>
        Go P w A R env (asks ifs env) (fun ok s4 => if ok = true then body s4 else off s4) s3) s2) s1) s
/-- a loop whose body is one action -/
theorem loop_act {elt t : Expr} {gens : List Comprehension} {scope : Scope} {pos : Pos} {k : Nat} {ifs : List Expr} {ip : Pos} {it acc : Value} {act : Sem Unit} (I : Nat → Shared → Prop)
    (he : compTurn (.SetComp elt gens scope pos) k it acc env = (do
      standAt ip
      match ← pyNext it with
      | none => pure (.done .next)
      | some v =>
        letOwnedTupleGo t it v
        assign t env v
        let mut ok := true
        for c in ifs do
          if ok then ok ← isTrue c env (eval c env)
        if ok then
          act
        again (.compLoop (.SetComp elt gens scope pos) k it acc env)))
    (turn : ∀ n s, I n s → OneTurn P w A R env t ifs it (fun z => Go P w A R env act (fun _ z' => ∃ m, m < n ∧ I m z') z) (fun z => ∃ m, m < n ∧ I m z) s)
    (n : Nat) {s : Shared} (h : I n s) : codeAny (model P w) A (.compLoop (.SetComp elt gens scope pos) k it acc env) R s := by
  refine codeAny_loop rfl I (fun n z hI => ?_) n h
  show wpAny _ A ((compTurn (.SetComp elt gens scope pos) k it acc env).onRaise (fun x => do noteFrame x env; theTreesLotGoes x)) _ _ z
  refine wpAny_noted ?_
  rw [he]
  refine wpAny_bind (wpAny_standAt (wpAny_bind (wpAny_mono (turn n z hI) (fun r z1 q1 => ?_) fun _ _ q => q)))
  match r, q1 with
  | none, q1 => exact wpAny_pure q1
  | some v, q1 =>
    refine wpAny_bind (wpAny_mono q1 (fun _ z2 q2 => wpAny_bind (wpAny_mono q2 (fun _ z3 q3 => wpAny_bind (wpAny_mono q3 (fun ok z4 q4 => ?_) fun _ _ q => q)) fun _ _ q => q)) fun _ _ q => q)
    match ok, q4 with
    | false, q4 => exact wpAny_pure ⟨rfl, q4⟩
    | true, q4 => exact wpAny_bind (wpAny_mono q4 (fun _ z5 q5 => wpAny_pure ⟨rfl, q5⟩) fun _ _ q => q)
/-- a loop whose body is a further clause -/
theorem loop_sub {elt t i1 : Expr} {gens : List Comprehension} {scope : Scope} {pos : Pos} {k : Nat} {ifs : List Expr} {ip : Pos} {it acc : Value} (I : Nat → Shared → Prop) (hs : ∀ x, foldedSetIterable i1 env x = pure x)
    (he : compTurn (.SetComp elt gens scope pos) k it acc env = (do
      standAt ip
      match ← pyNext it with
      | none => pure (.done .next)
      | some v =>
        letOwnedTupleGo t it v
        assign t env v
        let mut ok := true
        for c in ifs do
          if ok then ok ← isTrue c env (eval c env)
        if ok then
          let x ← eval i1 env
          standAt i1.pos
          let x ← foldedSetIterable i1 env x
          let _ ← runOwn (.compStart (.SetComp elt gens scope pos) (k + 1) (← holding [x] (pyIter x)) acc env) env
        again (.compLoop (.SetComp elt gens scope pos) k it acc env)))
    (turn : ∀ n s, I n s → OneTurn P w A R env t ifs it (fun z => Go P w A R env (eval i1 env) (fun x z1 => Go P w A R env (pyIter x) (fun it1 z2 =>
      codeAny (model P w) A (.compStart (.SetComp elt gens scope pos) (k + 1) it1 acc env) (fun r z' => match r with
        | .ok _ => ∃ m, m < n ∧ I m z'
        | .error _ => False) z2) z1) z) (fun z => ∃ m, m < n ∧ I m z) s)
    (n : Nat) {s : Shared} (h : I n s) : codeAny (model P w) A (.compLoop (.SetComp elt gens scope pos) k it acc env) R s := by
  refine codeAny_loop rfl I (fun n z hI => ?_) n h
  show wpAny _ A ((compTurn (.SetComp elt gens scope pos) k it acc env).onRaise (fun x => do noteFrame x env; theTreesLotGoes x)) _ _ z
  refine wpAny_noted ?_
  rw [he]
  refine wpAny_bind (wpAny_standAt (wpAny_bind (wpAny_mono (turn n z hI) (fun r z1 q1 => ?_) fun _ _ q => q)))
  match r, q1 with
  | none, q1 => exact wpAny_pure q1
  | some v, q1 =>
    refine wpAny_bind (wpAny_mono q1 (fun _ z2 q2 => wpAny_bind (wpAny_mono q2 (fun _ z3 q3 => wpAny_bind (wpAny_mono q3 (fun ok z4 q4 => ?_) fun _ _ q => q)) fun _ _ q => q)) fun _ _ q => q)
    match ok, q4 with
    | false, q4 => exact wpAny_pure ⟨rfl, q4⟩
    | true, q4 =>
      refine wpAny_bind (wpAny_mono q4 (fun x z5 q5 => wpAny_bind (wpAny_standAt (wpAny_bind (wpAny_of_eq (hs x) (wpAny_bind (wpAny_holding (wpAny_mono q5 (fun it1 z6 q6 => ?_) fun _ _ q => q))))))) fun _ _ q => q)
      refine wpAny_bind (wpAny_runOwn ?_)
      rw [Around.mark_none]
      refine codeAny_mono q6 fun r z7 q7 => ?_
      match r, q7 with
      | .ok _, q7 =>
        first
          | exact wpAny_pure ⟨rfl, q7⟩
          | exact wpAny_bind (wpAny_pure (wpAny_pure ⟨rfl, q7⟩))
/-- a clause starts -/
theorem start_set {elt t i0 : Expr} {ifs : List Expr} {gens : List Comprehension} {k : Nat} {scope : Scope} {pos : Pos} {it acc : Value} {s : Shared} (hk : gens[k]? = some ⟨t, i0, ifs, 0⟩)
    (h0 : codeAny (model P w) A (.compLoop (.SetComp elt gens scope pos) k it acc env) R s) (h : Go P w A R env (pyIter it) (fun it1 z => codeAny (model P w) A (.compLoop (.SetComp elt gens scope pos) k it1 acc env) R z) s) :
    codeAny (model P w) A (.compStart (.SetComp elt gens scope pos) k it acc env) R s := by
  refine codeAny_of_tree ?_
  show wpAny _ _ ((compStart (.SetComp elt gens scope pos) k it acc env).onRaise (fun x => do noteFrame x env; standAt theWindowsPlace)) _ _ s
  refine wpAny_notedAt ?_
  unfold compStart
  rw [show clausesOf (.SetComp elt gens scope pos) = gens from rfl, hk]
  show wpAny _ _ (ask >>= _) _ _ s
  refine wpAny_bind (wpAny_askSetting (wpAny_ite ?_))
  split
  · first
      | exact wpAny_bind (wpAny_pure (wpAny_pure ⟨rfl, h0⟩))
      | exact wpAny_pure ⟨rfl, h0⟩
  · refine wpAny_bind (wpAny_rule ?_)
    show wpAny _ _ (standAt i0.pos >>= _) _ _ s
    exact wpAny_bind (wpAny_standAt (wpAny_bind (wpAny_mono h (fun _ _ q => wpAny_pure ⟨rfl, q⟩) fun _ _ q => q)))
end
section
variable {X : Cx}
/-- the member y goes into the set at D -/
def Put (P : Program) (w : World) (D : Addr) (y : V) (G : Hp) (N : Hp → Prop) : Prop :=
  ∃ x xs, y = .str x ∧ G D = some (SetS P w D xs) ∧ xs.length + 1 < scanBound ∧ N (upd G D (SetS P w D (if x ∈ xs then xs else x :: xs)))
/-- what is asked of the second clause's turns -/
def inTurn (P : Program) (w : World) (D : Addr) (g1 : TG) (tt1 : TT) (te : TE) (vs1 : List Nat) (σ : L2.St) (Ny : Hp → Prop) (x : V) (G : Hp) : Prop :=
  g1 x (wipe σ vs1) G fun σ3 G5 => wipe σ3 vs1 = wipe σ vs1 ∧ tt1 σ3 G5 fun b G6 => if b = true then te σ3 G6 fun y G7 => Put P w D y G7 Ny else Ny G6
/-- .. and of the first one's -/
def outTurn (P : Program) (w : World) (D : Addr) (g : TG) (tt : TT) (wi1 : TI) (g1 : TG) (tt1 : TT) (te : TE) (vs vs1 : List Nat) (σ : L2.St) (Nx : Hp → Prop) (x : V) (G : Hp) : Prop :=
  g x (wipe σ vs) G fun σ2 G2 => wipe σ2 vs = wipe σ vs ∧ tt σ2 G2 fun b G3 => if b = true then wi1 σ2 G3 fun J1 G4 => ∃ U : Nat → Nat → Hp → Prop, (∃ m, U 0 m G4) ∧ ∀ j k G, U j k G →
    (J1.stop j G ∧ Nx G) ∨ (J1.go j G ∧ ∃ Ny : Hp → Prop, (∀ G', Ny G' → ∃ k', k' < k ∧ U (j + 1) k' G') ∧ ∀ x G', J1.yld j G x G' → inTurn P w D g1 tt1 te vs1 σ2 Ny x G')
  else Nx G3
def tSc2 (P : Program) (w : World) (wi : TI) (g : TG) (tt : TT) (wi1 : TI) (g1 : TG) (tt1 : TT) (te : TE) (vs vs1 : List Nat) : TE := fun σ G Q => wi σ G fun J G1 => ∀ D, G1 D = none →
  ∃ U : Nat → Nat → Hp → Prop, (∃ m, U 0 m (upd G1 D (SetS P w D []))) ∧ ∀ i m G, U i m G →
    (J.stop i G ∧ Q (.ref D) G) ∨ (J.go i G ∧ ∃ Nx : Hp → Prop, (∀ G', Nx G' → ∃ m', m' < m ∧ U (i + 1) m' G') ∧ ∀ x G', J.yld i G x G' → outTurn P w D g tt wi1 g1 tt1 te vs vs1 σ Nx x G')
/-- a turn of a block from its reading: an iterator that stands at i -/
theorem turn_of {B : Cx} {t : Expr} {g : TG} {ifs : List Expr} {tt : TT} {J : It} {fp : List Addr} {it : Addr} {tn : Nat → Heap → Prop} {pins : List (Addr × Obj)} {i : Nat} {z : Shared} {σ : L2.St} {G : Hp} {R : Result → Shared → Prop} {body off : Shared → Prop} {wq : L2.St → Prop} {cl : Bool → L2.St → Hp → Prop}
    (hc : B.calm = true) (T : Turn B.prog B.w B.K t J fp it tn) (pg : PG B t g) (pt : PTs B ifs tt) (hx : B.xe = fun _ _ => False) (I : Inv B pins σ G z) (hfp : ∀ b ∈ fp, FpOk B pins G b) (st : tn i z.heap)
    (h : (J.stop i G ∧ ∀ z', Inv B pins σ G z' → R (.ok .next) z') ∨ (J.go i G ∧ (∀ x G', J.yld i G x G' → g x σ G' fun σ' G' => wq σ' ∧ tt σ' G' fun b G'' => cl b σ' G'') ∧
      (∀ (z7 : Shared) (b : Bool) (σ' : L2.St) (G' : Hp) (z' : Shared), wq σ' → tn (i + 1) z7.heap → (∀ b ∈ fp, ∃ o, z7.heap.get? b = some o) → Inv B (pins ++ pinsAt fp z7.heap) σ' G' z' → cl b σ' G' → if b = true then body z' else off z'))) :
    OneTurn B.prog B.w B.A R B.env t ifs (.ref it) body off z := by
  rcases h with ⟨stop, fin⟩ | ⟨go, read, fin⟩
  · refine thnF (T.done B rfl rfl rfl hc i pins z σ G (fun _ _ => False) I hfp st stop) fun r z1 ⟨hr, I1⟩ => ?_
    subst hr
    exact fin z1 I1
  · refine thnF (T.item B rfl rfl rfl hc i pins z σ G (fun _ _ => False) I hfp st go) fun r z1 ⟨u, hr, h1⟩ => ?_
    subst hr
    refine thnF h1 fun _ z2 ⟨x, G2, I2, r2, y2, st2, n2⟩ => ?_
    have I3 := I2.pinned (fun b hb => ⟨n2 b hb, (hfp b hb).2⟩) (T.obj _ _ st2)
    have nx : ∀ {α : Type} {m : Sem α} {Q : α → Shared → Prop} {s : Shared}, wpAny (model B.prog B.w) B.A m Q B.xe s → wpAny (model B.prog B.w) B.A m Q (fun _ _ => False) s := fun {α m Q s} q => by rw [hx] at q; exact q
    refine thnF (nx (pg.run _ z2 σ G2 x u _ I3 r2 (read x G2 y2))) fun _ z3 ⟨σ3, G3, J3, wq3, q3⟩ => ?_
    refine thnF (nx (pt.run _ z3 σ3 G3 _ J3 q3)) fun b z4 ⟨G4, J4, q4⟩ => ?_
    exact fin z2 b σ3 G4 z4 wq3 st2 (fun b hb => by obtain ⟨o, e, _⟩ := T.obj _ _ st2 b hb; exact ⟨o, e⟩) J4 q4
theorem pe_sc2 {elt tg iter tg1 iter1 : Expr} {ifs ifs1 : List Expr} {scope : Scope} {own : List (Str × Nat)} {vs1 : List Nat} {pos : Pos} {wi wi1 : TI} {g g1 : TG} {tt tt1 : TT} {te : TE} (hc : X.calm = true) (hN : X.N.Nodup) (hi : PI X tg iter wi) (ok : BlkOk X.N X.env.scope scope own) (hv : ∀ i ∈ vs1, i ∈ own.map (·.2))
    (B : ∀ (s : Shared) (H : Hp) (C : Addr) (cl : List (Str × Addr)) (fp : List Addr), PG (X.blk s H scope (compEnvC scope cl C X.env) fp) tg g ∧ PTs (X.blk s H scope (compEnvC scope cl C X.env) fp) ifs tt ∧
      PI (X.blk s H scope (compEnvC scope cl C X.env) fp) tg1 iter1 wi1 ∧ PG (X.blk s H scope (compEnvC scope cl C X.env) fp) tg1 g1 ∧ PTs (X.blk s H scope (compEnvC scope cl C X.env) fp) ifs1 tt1 ∧ PE (X.blk s H scope (compEnvC scope cl C X.env) fp) elt te)
    (hs : ∀ x, foldedSetIterable iter X.env x = pure x := by intro _; rfl) (hs1 : ∀ env x, foldedSetIterable iter1 env x = pure x := by intro _ _; rfl) :
    PE X (.SetComp elt [⟨tg, iter, ifs, 0⟩, ⟨tg1, iter1, ifs1, 0⟩] scope pos) (tSc2 X.prog X.w wi g tt wi1 g1 tt1 te (own.map (·.2)) vs1) := by
  refine ⟨fun pins s σ H Q I h => ?_⟩
  rw [PpSet.eval_SetComp]
  have caught : ∀ n ∈ scope.names, n.2 = .free → ∃ c, X.env.cells.lookup n.1 = some c := fun n hn e => by
    rcases ok.free n hn e with k | k <;> first | exact I.ok.has _ (.inl k) | exact I.ok.has _ (.inr k)
  refine wpAny_comprehension_free (use := none) rfl hs (closure_ok caught) ok.kind (fun n hn e => by rw [ok.uniq n hn, e]) (thn (hi.run pins s σ H _ I h) fun _ _ q => thn q fun _ z2 q2 => ?_)
  obtain ⟨it, fp, tn, J, G2, rfl, I2, T, st2, f2, q⟩ := q2
  refine PpSet.newSet_ok (newEnv_comp ?_)
  generalize hD : z2.heap.objs.size = D
  obtain ⟨U, ⟨m0, u0⟩, turn⟩ := q D (I2.hok.fresh (Nat.le_of_eq hD))
  generalize hz3 : ({ z2 with heap := z2.heap.push { cls := .type "set", dict := none, data := .set #[] 0 (.fresh 0 0 (!X.w.params.followText "set-order")) } } : Shared) = z3
  have hp3 : z3.heap = z2.heap.push { cls := .type "set", dict := none, data := .set #[] 0 (.fresh 0 0 (!X.w.params.followText "set-order")) } := by subst hz3; rfl
  have I3 : Inv X pins σ (upd G2 D (SetS X.prog X.w D [])) z3 := by
    subst hz3
    refine I2.laid (t' := z2.toks) (fun b o e => Heap.get?_push_of_some _ e) (Nat.le_of_eq hD) ?_
    subst hD
    exact setS_new At.fresh
  have few : ∀ b ∈ fp, b < z2.heap.objs.size := fun b hb => let ⟨_, e, _⟩ := T.obj _ _ st2 b hb; Heap.lt_size e
  have f3 : ∀ b ∈ fp, FpOk X pins (upd G2 D (SetS X.prog X.w D [])) b ∧ b < z3.heap.objs.size := fun b hb => by
    have nD : b ≠ D := fun z => absurd (few b hb) (by rw [z, hD]; exact Nat.lt_irrefl _)
    exact ⟨⟨by rw [upd_ne nD]; exact (f2 b hb).1, (f2 b hb).2⟩, by rw [hp3, Heap.size_push]; exact Nat.lt_succ_of_lt (few b hb)⟩
  have st3 : tn 0 z3.heap := T.keep _ _ _ st2 fun b _ o e => by rw [hp3]; exact Heap.get?_push_of_some _ e
  have I4 := block_start I3 ok hN f3
  obtain ⟨pg, pt, pi1, pg1, pt1, pe⟩ := B z3 (upd G2 D (SetS X.prog X.w D [])) z3.heap.objs.size (cellsFrom (z3.heap.objs.size + 1) scope.names (cloFrom X.env.cells scope.names [])) fp
  have nfp : ∀ b ∈ fp, (upd G2 D (SetS X.prog X.w D [])) b = none := fun b hb => (f3 b hb).1.1
  show codeAny _ _ (.compStart _ 0 (.ref it) (.ref D) (compEnvC scope (cellsFrom (z3.heap.objs.size + 1) scope.names (cloFrom X.env.cells scope.names [])) z3.heap.objs.size X.env)) _ { z3 with heap := pushCells (z3.heap.push { cls := .type "dict", data := .dict #[] }) scope.names }
  generalize hce : compEnvC scope (cellsFrom (z3.heap.objs.size + 1) scope.names (cloFrom X.env.cells scope.names [])) z3.heap.objs.size X.env = ce at I4 pg pt pe pi1 pg1 pt1 ⊢
  have cL : ce.locals = z3.heap.objs.size := by subst hce; rfl
  generalize hG3 : upd G2 D (SetS X.prog X.w D []) = G3 at I3 I4 pg pt pe pi1 pg1 pt1 u0 nfp f3
  generalize hz4 : ({ z3 with heap := pushCells (z3.heap.push { cls := .type "dict", data := .dict #[] }) scope.names } : Shared) = z4 at I4 ⊢
  have st4 : tn 0 z4.heap := T.keep _ _ _ st3 fun b _ o e => by subst hz4; exact pushCells_keeps _ _ _ _ (Heap.get?_push_of_some _ e)
  -- the iterators' objects stay what they may be
  have own0 : ∀ {σ' : L2.St} {G' : Hp} {z' : Shared}, Inv (X.blk z3 G3 scope ce fp) [] σ' G' z' → (∀ b ∈ fp, G' b = none) → ∀ b ∈ fp, FpOk (X.blk z3 G3 scope ce fp) [] G' b := fun J n b hb =>
    ⟨n b hb, (J.ok.exf b hb).1, J.ok.exfs b hb, .inl hb, fun x c e => (J.ok.exf b hb).2 x c e, fun p hp => absurd (show p ∈ ([] : List (Addr × Obj)) ++ [] from hp) (by simp)⟩
  have loop : codeAny (model X.prog X.w) X.A (.compLoop (.SetComp elt [⟨tg, iter, ifs, 0⟩, ⟨tg1, iter1, ifs1, 0⟩] scope pos) 0 (.ref it) (.ref D) ce) (compPost (model X.prog X.w) X.A X.xe none (EP X pins σ Q) (.ref D) z3.heap.objs.size) z4 := by
    refine loop_sub (t := tg) (ifs := ifs) (i1 := iter1) (fun n z => ∃ i G, Inv (X.blk z3 G3 scope ce fp) [] (wipe σ (own.map (·.2))) G z ∧ tn i z.heap ∧ (∀ b ∈ fp, G b = none) ∧ U i n G) (hs1 ce) rfl ?_ m0 ⟨0, G3, I4, st4, nfp, u0⟩
    rintro n z5 ⟨i, G5, I5, st5, n5, u5⟩
    rcases turn i n G5 u5 with ⟨stop, qq⟩ | ⟨go, Nx, hNx, step⟩
    · refine turn_of (B := X.blk z3 G3 scope ce fp) hc T pg pt rfl I5 (own0 I5 n5) st5 (wq := fun _ => True) (cl := fun _ _ _ => True) (.inl ⟨stop, fun z6 I6 => ?_⟩)
      have nC : G5 z3.heap.objs.size = none := by rw [← cL]; exact I6.free
      obtain ⟨m, hn, _⟩ := I6.loc
      rw [show (X.blk z3 G3 scope ce fp).env.locals = z3.heap.objs.size from cL] at hn
      refine ⟨m, hn, fun h'' sb => ?_⟩
      have I7 : Inv X pins σ G5 z6 := I3.call' (ch := fp) I6.os I6.base I6.hok I6.bare fun b hb => let f := (f3 b hb).1; ⟨f.2.2.2.1, f.2.1, f.2.2.2.2.1, f.2.2.2.2.2⟩
      obtain ⟨e0, e1, e2, e3, e4, e5⟩ := I3.fpOk (Nat.le_refl _) nC
      exact ⟨.ref D, G5, I7.turned (t' := z6.toks) (fun b o hb e => (sb.2 b hb).trans e) e0 e1 e3 e4 e5, rfl, qq⟩
    · refine turn_of (B := X.blk z3 G3 scope ce fp) hc T pg pt rfl I5 (own0 I5 n5) st5 (wq := fun σ2 => wipe σ2 (own.map (·.2)) = wipe σ (own.map (·.2))) (cl := fun b σ2 G9 => if b = true then wi1 σ2 G9 fun J1 G4 => ∃ U : Nat → Nat → Hp → Prop, (∃ m, U 0 m G4) ∧ ∀ j k G, U j k G →
        (J1.stop j G ∧ Nx G) ∨ (J1.go j G ∧ ∃ Ny : Hp → Prop, (∀ G', Ny G' → ∃ k', k' < k ∧ U (j + 1) k' G') ∧ ∀ x G', J1.yld j G x G' → inTurn X.prog X.w D g1 tt1 te vs1 σ2 Ny x G') else Nx G9) (.inr ⟨go, step, fun z7 b σ8 G9 z9 w8 st7 have7 I9 q9 => ?_⟩)
      -- the end of the turn, for slots that know no less than the block did
      have close : ∀ {σ9 : L2.St} {z' : Shared} {G' : Hp}, Inv (X.blk z3 G3 scope ce fp) ([] ++ pinsAt fp z7.heap) σ9 G' z' → (wipe σ (own.map (·.2))).length = σ9.length → (∀ (j : Nat) v, (wipe σ (own.map (·.2)))[j]? = some (some v) → σ9[j]? = some (some v)) → Nx G' →
          ∃ m, m < n ∧ ∃ i G, Inv (X.blk z3 G3 scope ce fp) [] (wipe σ (own.map (·.2))) G z' ∧ tn i z'.heap ∧ (∀ b ∈ fp, G b = none) ∧ U i m G := fun {σ9 z' G'} J hl hk nx => by
        obtain ⟨m', lt, u'⟩ := hNx G' nx
        have held : ∀ b ∈ fp, ∀ o, z7.heap.get? b = some o → z'.heap.get? b = some o ∧ G' b = none := fun b hb o e =>
          ⟨(J.pin (b, o) (List.mem_append_right _ (List.mem_append_right _ (mem_pinsAt hb e)))).1, (J.pin (b, o) (List.mem_append_right _ (List.mem_append_right _ (mem_pinsAt hb e)))).2.1⟩
        refine ⟨m', lt, i + 1, G', (J.unpinned (pins := [])).weak hl hk, T.keep _ _ _ st7 fun b hb o e => (held b hb o e).1, fun b hb => ?_, u'⟩
        obtain ⟨o, e⟩ := have7 b hb
        exact (held b hb o e).2
      have l8 : (wipe σ (own.map (·.2))).length = σ8.length := by rw [← w8, wipe_length]
      cases b with
      | false =>
        simp only [Bool.false_eq_true, if_false] at q9 ⊢
        exact close I9 l8 (fun j v e => by rw [← w8] at e; exact (wipe_some e).1) q9
      | true =>
        simp only [if_true] at q9 ⊢
        refine thnF (pi1.run _ z9 σ8 G9 _ I9 q9) fun xv z10 q10 => thnF q10 fun itv z11 q11 => ?_
        obtain ⟨it1, fp1, tn1, J1, G11, rfl, I11, T1, st11, f11, U1, ⟨m1, u1⟩, turn1⟩ := q11
        have own1 : ∀ {G' : Hp}, (∀ b ∈ fp1, G' b = none) → ∀ b ∈ fp1, FpOk (X.blk z3 G3 scope ce fp) ([] ++ pinsAt fp z7.heap) G' b := fun n b hb => ⟨n b hb, (f11 b hb).2⟩
        have inner : codeAny (model X.prog X.w) X.A (.compLoop (.SetComp elt [⟨tg, iter, ifs, 0⟩, ⟨tg1, iter1, ifs1, 0⟩] scope pos) (0 + 1) (.ref it1) (.ref D) ce) (fun r z' => match r with
            | .ok _ => ∃ m, m < n ∧ ∃ i G, Inv (X.blk z3 G3 scope ce fp) [] (wipe σ (own.map (·.2))) G z' ∧ tn i z'.heap ∧ (∀ b ∈ fp, G b = none) ∧ U i m G
            | .error _ => False) z11 := by
          refine loop_act (t := tg1) (ifs := ifs1) (act := do let v ← eval elt ce; standAt elt.pos; let _ ← call (.builtin "set.add") [.ref D, v]) (fun k z => ∃ j G, Inv (X.blk z3 G3 scope ce fp) ([] ++ pinsAt fp z7.heap) (wipe σ8 vs1) G z ∧ tn1 j z.heap ∧ (∀ b ∈ fp1, G b = none) ∧ U1 j k G) rfl ?_ m1
            ⟨0, G11, I11.weak (wipe_length _ _) (fun j v e => (wipe_some e).1), st11, fun b hb => (f11 b hb).1, u1⟩
          rintro k z12 ⟨j, G12, I12, st12, n12, u12⟩
          rcases turn1 j k G12 u12 with ⟨stop1, nx1⟩ | ⟨go1, Ny, hNy, step1⟩
          · refine turn_of (B := X.blk z3 G3 scope ce fp) hc T1 pg1 pt1 rfl I12 (own1 n12) st12 (wq := fun _ => True) (cl := fun _ _ _ => True) (.inl ⟨stop1, fun z13 I13 => ?_⟩)
            exact close I13 (l8.trans (wipe_length σ8 vs1).symm) (fun j v e => by
              rw [← w8] at e
              obtain ⟨e1, e2⟩ := wipe_some e
              rw [wipe_out fun z => e2 (hv j z)]
              exact e1) nx1
          · refine turn_of (B := X.blk z3 G3 scope ce fp) hc T1 pg1 pt1 rfl I12 (own1 n12) st12 (wq := fun σ3 => wipe σ3 vs1 = wipe σ8 vs1) (cl := fun b σ3 G6 => if b = true then te σ3 G6 fun y G7 => Put X.prog X.w D y G7 Ny else Ny G6)
              (.inr ⟨go1, step1, fun z14 b1 σ15 G16 z16 w15 st14 have14 I16 q16 => ?_⟩)
            have close1 : ∀ {z' : Shared} {G' : Hp}, Inv (X.blk z3 G3 scope ce fp) (([] ++ pinsAt fp z7.heap) ++ pinsAt fp1 z14.heap) σ15 G' z' → Ny G' →
                ∃ m, m < k ∧ ∃ j G, Inv (X.blk z3 G3 scope ce fp) ([] ++ pinsAt fp z7.heap) (wipe σ8 vs1) G z' ∧ tn1 j z'.heap ∧ (∀ b ∈ fp1, G b = none) ∧ U1 j m G := fun {z' G'} J nx => by
              obtain ⟨m', lt, u'⟩ := hNy G' nx
              have held : ∀ b ∈ fp1, ∀ o, z14.heap.get? b = some o → z'.heap.get? b = some o ∧ G' b = none := fun b hb o e =>
                ⟨(J.pin (b, o) (List.mem_append_right _ (List.mem_append_right _ (mem_pinsAt hb e)))).1, (J.pin (b, o) (List.mem_append_right _ (List.mem_append_right _ (mem_pinsAt hb e)))).2.1⟩
              refine ⟨m', lt, j + 1, G', J.unpinned.weak (by rw [← w15, wipe_length]) (fun j v e => by rw [← w15] at e; exact (wipe_some e).1), T1.keep _ _ _ st14 fun b hb o e => (held b hb o e).1, fun b hb => ?_, u'⟩
              obtain ⟨o, e⟩ := have14 b hb
              exact (held b hb o e).2
            cases b1 with
            | false =>
              simp only [Bool.false_eq_true, if_false] at q16 ⊢
              exact close1 I16 q16
            | true =>
              simp only [if_true] at q16 ⊢
              refine wpAny_bind (thnF (pe.run _ z16 σ15 G16 _ I16 q16) fun u z17 ⟨y, G17, I17, r17, x, xs, ey, hD17, room, nx⟩ => ?_)
              subst ey
              obtain ⟨t, rfl⟩ : ∃ t, u = .str x t := r17
              exact wpAny_bind (wpAny_standAt (wpAny_bind (addS_ok (X := X.blk z3 G3 scope ce fp) I17 hD17 room fun z18 I18 => wpAny_pure (close1 I18 nx))))
        exact start_set rfl inner (T1.self X.A 0 _ _ _ st11 inner)
  exact start_set rfl loop (T.self X.A 0 _ _ _ st4 loop)
end
end SG

namespace DL
open PySem L2
theorem nodup_le {α : Type} [DecidableEq α] : ∀ {xs ys : List α}, xs.Nodup → (∀ x ∈ xs, x ∈ ys) → xs.length ≤ ys.length
  | [], _, _, _ => Nat.zero_le _
  | x :: xs, ys, nd, h => by
    obtain ⟨n1, n2⟩ := List.nodup_cons.mp nd
    have hx : x ∈ ys := h x (by simp)
    have ih := nodup_le (ys := ys.erase x) n2 fun z hz => (List.mem_erase_of_ne (fun e => n1 (by rw [← e]; exact hz))).mpr (h z (by simp [hz]))
    have := List.length_erase_of_mem hx
    have := List.length_pos_of_mem hx
    rw [List.length_cons]; omega
/-! ### sorted({x for a in .. for x in ..}) of texts -/
/-- a text of names -/
def tIn (names : List Str) (t : TD) : TD := fun env Q => t env fun z => ∃ x ∈ names, z = .str x ∧ Q z
theorem rf_in {K : PySem.W.Frag} {rg : Rg} {te : TE} {t : TD} (names : List Str) (h : Rf K rg te t) : Rf K rg te (tIn names t) := fun c hc pn H0 env σ H Qd Q S ht k =>
  h c hc pn H0 env σ H _ Q S ht fun d v H' ⟨_, _, _, q⟩ k1 j r => k d v H' q k1 j r
section
variable {P : Program} {w : World} {X : Cx} {K : PySem.W.Frag} {rg : Rg} {wi wi1 : TI} {g g1 : TG} {tt tt1 : TT} {te : TE} {ti ti1 : TDs} {sg sg1 : SG} {st st1 : TB} {t : TD} {vs vs1 : List Nat} {names : List Str}
/-- D' holds the set of what is made so far -/
structure ScAt (P : Program) (w : World) (K : PySem.W.Frag) (names : List Str) (c : Dc) (pn : Pin) (H0 : Hp) (D' : Addr) (H1 : Hp) (envB : En) (σB : L2.St) (acc : List D) (H : Hp) : Prop where
  ws : ∃ xs, H D' = some (SetS P w D' xs) ∧ xs.Nodup ∧ (∀ x ∈ xs, x ∈ names) ∧ ∀ y, y ∈ xs ↔ D.str y ∈ acc
  kp : Keep c.rg.R H1 H
  sd : Sd K (c.with D') pn H0 envB σB H
theorem ScAt.grow {c : Dc} {pn : Pin} {H0 : Hp} {D' : Addr} {H1 : Hp} {envB envC : En} {σB σC : L2.St} {acc : List D} {H H' : Hp} (L : ScAt P w K names c pn H0 D' H1 envB σB acc H) (nR : ¬ c.rg.R D')
    (k : Keep c.rg.R H H') (S : Sd K (c.with D') pn H0 envC σC H') : ScAt P w K names c pn H0 D' H1 envC σC acc H' := by
  obtain ⟨⟨xs, h1, h2⟩, h3, h4⟩ := L
  exact ⟨⟨xs, k _ _ h1 nR, h2⟩, h3.trans k, S⟩
/-- a new set of texts -/
def RfSx (P : Program) (w : World) (K : PySem.W.Frag) (rg : Rg) (names : List Str) (te : TE) (t : TDs) : Prop :=
  ∀ (c : Dc), c.rg = rg → ∀ (pn : Pin) (H0 : Hp) (env : En) (σ : St) (H : Hp) (Qd : List D → Prop) (Q : VK), Sd K c pn H0 env σ H → t env Qd →
    (∀ ds a xs H', Qd ds → H a = none → Keep c.rg.R H H' → c.rg.J H' → H' a = some (SetS P w a xs) → xs.Nodup → (∀ x ∈ xs, x ∈ names) → (∀ y, y ∈ xs ↔ D.str y ∈ ds) → Q (.ref a) H') → te σ H Q
theorem rf_sc2 (few : names.length < 64) (hi : RfI K rg true wi ti) (hg : RfG K rg g sg vs) (ht : RfT K rg tt st) (hi1 : RfI K rg true wi1 ti1) (hg1 : RfG K rg g1 sg1 vs1) (ht1 : RfT K rg tt1 st1) (he0 : Rf K rg te t) :
    RfSx P w K rg names (SG.tSc2 P w wi g tt wi1 g1 tt1 te vs vs1) (sLc2 ti sg st ti1 sg1 st1 (tIn names t) vs vs1) := fun c hc pn H0 env σ H Qd Q S hq k => by
  have he := he0
  obtain ⟨hown, hq⟩ := hq
  refine hi c hc pn H0 env σ H _ _ S hq fun xs J G Y H1 q1 k1 j1 W hG hY => ?_
  subst hc
  intro D' hD
  obtain ⟨I, i0, turn, fin⟩ := q1
  have S1 := S.grow k1 j1
  have nD : H D' = none := none_back S k1 j1 hD
  have n0 : H0 D' = none := S.h0 nD
  have nR : ¬ c.rg.R D' := fun z => S1.domM D' (Mof.of_R S.ok z) hD
  have nP : c.P ≠ some D' := fun z => S1.dom D' (S.ok.pm D' z).1 hD
  have S2 : Sd K (c.with D') pn H0 (wipeE env vs) (L2.wipe σ vs) (upd H1 D' (SetS P w D' [])) := (S1.inComp hD).wipe vs
  have mD : ∀ b, Mof (c.with D') (wipeE env vs) b ↔ Mof c env b ∨ b = D' := fun b => mof_with.trans (by rw [← mof_wipe hown b])
  have toD : ∀ {G G' : Hp}, Keep c.rg.R G G' → Keep (fun a => c.rg.R a ∨ a = D') G G' := fun k => k.mono fun a z => .inl z
  have updK : ∀ {G : Hp} {o : HO}, Keep (fun a => c.rg.R a ∨ a = D') G (upd G D' o) := fun {G o} b u e m => by rw [upd_ne fun z => m (.inr z)]; exact e
  -- a text is put in
  have put : ∀ {envB : En} {σB : L2.St} {acc : List D} {H8 H9 : Hp} {x : Str}, ScAt P w K names c pn H0 D' H1 envB σB acc H8 → Keep c.rg.R H8 H9 → x ∈ names → Sd K (c.with D') pn H0 envB σB H9 →
      ∃ xs, H9 D' = some (SetS P w D' xs) ∧ xs.length + 1 < scanBound ∧ ScAt P w K names c pn H0 D' H1 envB σB (acc ++ [.str x]) (upd H9 D' (SetS P w D' (if x ∈ xs then xs else x :: xs))) := by
    intro envB σB acc H8 H9 x L kk hx S9
    obtain ⟨⟨xs, h1, nd, inn, mem⟩, h3, h4⟩ := L
    have le : xs.length ≤ names.length := nodup_le nd inn
    refine ⟨xs, kk _ _ h1 nR, by show _ < 4096; omega, ⟨_, upd_same, ?_, ?_, ?_⟩, fun b u e m => ?_, S9.updD n0 nR nP⟩
    · by_cases hx' : x ∈ xs
      · rw [if_pos hx']; exact nd
      · rw [if_neg hx']; exact List.nodup_cons.mpr ⟨hx', nd⟩
    · intro y hy
      by_cases hx' : x ∈ xs
      · rw [if_pos hx'] at hy; exact inn y hy
      · rw [if_neg hx'] at hy
        rcases List.mem_cons.mp hy with rfl | hy
        · exact hx
        · exact inn y hy
    · intro y
      have e0 : (D.str y ∈ acc ++ [D.str x]) ↔ (D.str y ∈ acc ∨ y = x) := by rw [List.mem_append, List.mem_singleton]; simp
      rw [e0, ← mem y]
      by_cases hx' : x ∈ xs
      · rw [if_pos hx']
        exact ⟨.inl, fun z => z.elim id fun e => e ▸ hx'⟩
      · rw [if_neg hx', List.mem_cons]; exact Or.comm
    · have hb : b ≠ D' := fun z => by rw [z, hD] at e; cases e
      rw [upd_ne hb]
      exact (h3.trans kk) b u e m
  refine walk_any (B := fun Nx x H' => SG.outTurn P w D' g tt wi1 g1 tt1 te vs vs1 σ Nx x H') W (fun i H5 => ∃ acc, I i acc ∧ ScAt P w K names c pn H0 D' H1 (wipeE env vs) (L2.wipe σ vs) acc H5)
    ⟨[], i0, ⟨[], upd_same, List.nodup_nil, (by simp), (by simp)⟩, Keep.upd_new hD, S2⟩ (fun i H5 _ ⟨_, _, L⟩ => hG H5 (L.kp.mono S.ok.sub)) ?_ ?_
  · rintro i x H5 H6 hlt ⟨acc, hI, L5⟩ y
    have S5 := L5.sd
    obtain ⟨d, hd, s6, rd⟩ := hY (Mof (c.with D') (wipeE env vs)) i H5 x H6 hlt (L5.kp.mono S.ok.sub) (L5.kp.mono fun b z => Mof.of_R S.ok z) (fun b u e z => by
      rcases (mD b).mp z with z | rfl
      · exact z
      · rw [hD] at e; cases e) S5.domM y
    have S6 := S5.same s6
    refine hg (c.with D') rfl pn H0 _ _ H6 x d _ _ S6 rd (turn i d acc hd hI) fun env2 σ2 q2 S7 m2 w2 => ⟨w2.trans ?_, ?_⟩
    · apply List.ext_getElem?
      intro j
      rw [wipe_get, wipe_get, wipe_length]
      split <;> rfl
    have L7 := L5.grow nR (Keep.of_same s6) S7
    have mD2 : ∀ b, Mof (c.with D') env2 b ↔ Mof c env b ∨ b = D' := fun b => (m2 b).symm.trans (mD b)
    refine ht (c.with D') rfl pn H0 env2 σ2 H6 _ _ S7 q2 fun b H8 q8 k8 j8 => ?_
    have k8' : Keep c.rg.R H6 H8 := k8
    have S8 := S7.grow k8 j8
    have k58 : Keep c.rg.R H5 H8 := (Keep.of_same s6).trans k8'
    cases b with
    | false =>
      rw [if_neg Bool.false_ne_true] at q8 ⊢
      exact ⟨acc, q8, L5.grow nR k58 (S5.grow k58 S8.j)⟩
    | true =>
      rw [if_pos rfl] at q8 ⊢
      obtain ⟨hown2, q8⟩ := q8
      refine hi1 (c.with D') rfl pn H0 env2 σ2 H8 _ _ S8 q8 fun ys J1 G1 Y1 H9 q9 k9 j9 W1 hG1 hY1 => ?_
      have k9' : Keep c.rg.R H8 H9 := k9
      obtain ⟨I1, i10, turn1, fin1⟩ := q9
      have S9 := S8.grow k9 j9
      have L9 : ScAt P w K names c pn H0 D' H1 (wipeE env2 vs1) (L2.wipe σ2 vs1) acc H9 := L7.grow nR (k8'.trans k9') (S9.wipe vs1)
      have subM : ∀ a, (c.rg.R a ∨ a = D') → (c.with D').M a := fun a z => z.elim (fun z => .inl (S.ok.sub a z)) .inr
      refine walk_any (B := fun Ny x H' => SG.inTurn P w D' g1 tt1 te vs1 σ2 Ny x H') W1
        (fun j H10 => ∃ acc1, I1 j acc1 ∧ Keep (fun a => c.rg.R a ∨ a = D') H5 H10 ∧ Keep (fun a => c.rg.R a ∨ a = D') H9 H10 ∧ ScAt P w K names c pn H0 D' H1 (wipeE env2 vs1) (L2.wipe σ2 vs1) acc1 H10)
        ⟨acc, i10, toD (k58.trans k9'), Keep.refl, L9⟩ (fun j H10 _ ⟨_, _, _, k10, _⟩ => hG1 H10 (k10.mono subM)) ?_ ?_
      · rintro j x1 H10 H11 hlt1 ⟨acc1, hI1, k510, k10, L10⟩ y1
        have S10 := L10.sd
        obtain ⟨d1, hd1, s11, rd1⟩ := hY1 (Mof (c.with D') (wipeE env2 vs1)) j H10 x1 H11 hlt1 (k10.mono subM) (k10.mono fun b z => .inl (subM b z)) (fun b u e z => (mof_wipe hown2 b).mpr z) S10.domM y1
        have S11 := S10.same s11
        refine hg1 (c.with D') rfl pn H0 _ _ H11 x1 d1 _ _ S11 rd1 (turn1 j d1 acc1 hd1 hI1) fun env3 σ3 q3 S12 m3 w3 => ⟨w3.trans ?_, ?_⟩
        · apply List.ext_getElem?
          intro j
          rw [wipe_get, wipe_get, wipe_length]
          split <;> rfl
        refine ht1 (c.with D') rfl pn H0 env3 σ3 H11 _ _ S12 q3 fun b1 H13 q13 k13 j13 => ?_
        have k13' : Keep c.rg.R H11 H13 := k13
        have S13 := S12.grow k13 j13
        have k1013 : Keep c.rg.R H10 H13 := (Keep.of_same s11).trans k13'
        cases b1 with
        | false =>
          rw [if_neg Bool.false_ne_true] at q13 ⊢
          exact ⟨acc1, q13, k510.trans (toD k1013), k10.trans (toD k1013), L10.grow nR k1013 (S10.grow k1013 S13.j)⟩
        | true =>
          rw [if_pos rfl] at q13 ⊢
          refine he (c.with D') rfl pn H0 env3 σ3 H13 _ _ S13 q13 fun z v H14 q14 k14 j14 r14 => ?_
          obtain ⟨x, hx, rfl, q14⟩ := q14
          cases r14
          have k14' : Keep c.rg.R H13 H14 := k14
          have k1014 := k1013.trans k14'
          obtain ⟨ws, e1, e2, L⟩ := put (L10.grow nR k1013 (S10.grow k1013 S13.j)) k14' hx (S10.grow k1014 j14)
          exact ⟨x, ws, rfl, e1, e2, acc1 ++ [.str x], q14.2, (k510.trans (toD k1014)).trans updK, (k10.trans (toD k1014)).trans updK, L⟩
      · rintro H10 ⟨acc1, hI1, k510, k10, L10⟩
        obtain ⟨⟨ws, h1, h2⟩, h3, h4⟩ := L10
        exact ⟨acc1, fin1 acc1 hI1, ⟨ws, h1, h2⟩, h3, S5.growD k510 h4.j (by rw [h1]; exact fun z => by cases z) n0 nP⟩
  · rintro H5 ⟨acc, hI, L5⟩
    obtain ⟨⟨ws, h1, h2, h2', h2''⟩, h3, h4⟩ := L5
    exact k acc D' ws H5 (fin acc hI) nD (k1.trans h3) h4.j h1 h2 h2' h2''
end
end DL

/-! set(a list of texts), as a set that can be walked. -/
namespace SG
open PySem PySem.Spec PyProof.Rows L2
section
variable {P : Program} {w : World} {A : Around} {R : Result → Shared → Prop} {E : Value → Shared → Prop} {s : Shared}
theorem new_one (a : Value) {Q1 : Value → Shared → Prop} (q : Q1 (.ref s.heap.objs.size) { s with heap := s.heap.push { cls := .type "set", dict := none, data := .set #[] 0 (.fresh 0 0 (!w.params.followText "set-order")) } }) :
    codeAny (model P w) A (.call (.builtin "set.__new__") ⟨[.type "set", a], []⟩) (wants Q1 E) s := by
  refine codeAny_of_tree ?_
  show wpAny _ A.in1 (checkBuiltinCall "set.__new__" ⟨[.type "set", a], []⟩ >>= fun _ => again (.builtin "set.__new__" ⟨[.type "set", a], []⟩)) _ _ s
  refine wpAny_bind (wpAny_of_eq (PySem.F.newCall_set_1 a) (wpAny_pure ⟨plainId_quiet PySem.F.plain_set_new _, codeAny_builtin PySem.F.entry_set_new ?_⟩))
  rw [Around.under_plainId PySem.F.plain_set_new _]
  unfold Builtin.«set.__new__» Builtin.Frozenset.newClass
  have up := sub_set_self
  obtain ⟨hp, gs, dn, tk, os⟩ := s
  dsimp only
  wp_walk
  refine wpAny_askSetting (wpAny_pure ?_)
  simp only [newObj]
  exact wpAny_bind (wpAny_alloc (wpAny_pure (wpAny_pure q)))
variable {I : Addr} {fp wr : List Addr} {G : Array GenState → Array GenState → Prop} {n : Nat} {Pv : Nat → Value → Prop} {St : Nat → Shared → Prop}
/-- the members so far are the first i texts -/
def First (val : Nat → Str) (i : Nat) (xs : List Str) : Prop := xs.length ≤ i ∧ ∀ y, y ∈ xs ↔ ∃ j, j < i ∧ val j = y
theorem First.next {val : Nat → Str} {i : Nat} {xs : List Str} (f : First val i xs) : First val (i + 1) (if val i ∈ xs then xs else val i :: xs) := by
  obtain ⟨le, mem⟩ := f
  by_cases h : val i ∈ xs
  · rw [if_pos h]
    refine ⟨by omega, fun y => (mem y).trans ⟨fun ⟨j, a, b⟩ => ⟨j, by omega, b⟩, fun ⟨j, a, b⟩ => ?_⟩⟩
    by_cases e : j = i
    · subst e; rw [← b]; exact (mem _).mp h
    · exact ⟨j, by omega, b⟩
  · rw [if_neg h]
    refine ⟨by rw [List.length_cons]; omega, fun y => ?_⟩
    rw [List.mem_cons, mem y]
    constructor
    · rintro (rfl | ⟨j, a, b⟩)
      · exact ⟨i, by omega, rfl⟩
      · exact ⟨j, by omega, b⟩
    · rintro ⟨j, a, b⟩
      by_cases e : j = i
      · subst e; exact .inl b.symm
      · exact .inr ⟨j, by omega, b⟩
theorem fill (W : WalksS P w A.in1 I fp wr G n Pv St) (S : Addr) (out : S ∉ fp) (val : Nat → Str) (hval : ∀ i v, Pv i v → ∃ t, v = .str (val i) t) (few : n + 1 < scanBound) :
    ∀ (k i : Nat) (s : Shared) (xs : List Str), n - i = k → i ≤ n → St i s → At (PySem.strKind P w) s.heap S xs → First val i xs →
      (∀ s' ys, Moved (S :: wr) G s s' → At (PySem.strKind P w) s'.heap S ys → First val n ys → R (.ok (.ret .none)) s') →
      codeAny (model P w) A (.builtin "set.update.loop" ⟨[.ref S, .ref I], []⟩) R s
  | 0, i, s, xs, hk, hi, hst, at0, f0, hR => by
    have e : i = n := by omega
    subst e
    refine codeAny_builtin PyProof.Rows.F.entry_set_update_loop ?_
    rw [Around.under_plainId PyProof.Rows.F.plain_set_update_loop _]
    show wpAny _ A.in1 (pyNext (.ref I) >>= _) _ _ s
    refine wpAny_bind (W.done s _ _ hst fun z mv => ?_)
    exact wpAny_pure (hR z xs (mv.mono fun b hb => List.mem_cons_of_mem _ hb) (at0.at fun o e => mv.heap S _ (fun q => out (W.sub _ q)) e) f0)
  | k + 1, i, s, xs, hk, hi, hst, at0, f0, hR => by
    have lt : i < n := by omega
    refine codeAny_builtin PyProof.Rows.F.entry_set_update_loop ?_
    rw [Around.under_plainId PyProof.Rows.F.plain_set_update_loop _]
    show wpAny _ A.in1 (pyNext (.ref I) >>= _) _ _ s
    refine wpAny_bind (W.item i s _ _ lt hst fun v z hp hst1 mv => ?_)
    obtain ⟨t, rfl⟩ := hval i v hp
    have at1 := at0.at (h' := z.heap) fun o e => mv.heap S _ (fun q => out (W.sub _ q)) e
    have isk : (PySem.strKind P w).is (val i) (.str (val i) t) = true := by simp [PySem.strKind, Value.isStrOf]
    show wpAny _ A.in1 (holding [Value.str (val i) t] (setAdd S (.str (val i) t)) >>= _) _ _ z
    refine wpAny_bind (wpAny_holding ?_)
    unfold setAdd
    refine wpAny_holding (wpAny_bind ((PySem.strKind P w).pyHash isk ?_))
    refine At.addHashed (s := { z with toks := z.toks + 1 }) isk rfl at1 (by have := f0.1; omega) fun h' sb at2 => ?_
    refine wpAny_pure ⟨plainId_quiet PyProof.Rows.F.plain_set_update_loop _, fill W S out val hval few k (i + 1) _ _ (by omega) lt (W.frame _ z _ _ hst1 (Nat.le_succ _) fun b hb o e => ?_) at2 f0.next fun z' ys mv' at3 f3 => ?_⟩
    · rw [sb.2 b (fun q : b = S => out (by rw [← q]; exact hb))]; exact e
    · refine hR z' ys (Moved.trans W.gtrans ((mv.mono fun b hb => List.mem_cons_of_mem _ hb).then_heap (Nat.le_succ _) fun b o hb e => ?_) mv') at3 f3
      rw [sb.2 b (fun q : b = S => hb (by rw [q]; exact List.mem_cons_self))]; exact e
theorem strs_at : ∀ {vs : List Value} {ns : List Str}, StrsAre vs ns → ∀ (i : Nat) (v : Value), vs[i]? = some v → ∃ t, v = .str (ns.getD i "") t
  | _, _, .nil, i, v, h => by simp at h
  | _, _, .cons x t r, 0, v, h => by
    simp only [List.getElem?_cons_zero, Option.some.injEq] at h
    exact ⟨t, by rw [← h]; rfl⟩
  | _, _, .cons x t r, i + 1, v, h => by
    simp only [List.getElem?_cons_succ] at h
    obtain ⟨t', e⟩ := strs_at r i v h
    exact ⟨t', by rw [e]; rfl⟩
set_option maxHeartbeats 3200000 in
theorem set_texts {l : Addr} {items : Array Value} {ns : List Str} {Q : Value → Shared → Prop} (hh : A.handled = none) (hl : s.heap.IsList l items) (hi : StrsAre items.toList ns) (few : items.size + 1 < scanBound)
    (h : ∀ (h' : Heap) (tk : Nat) (xs : List Str), At (PySem.strKind P w) h' s.heap.objs.size xs → First (fun i => ns.getD i "") items.size xs → (∀ b o, s.heap.get? b = some o → h'.get? b = some o) → Q (.ref s.heap.objs.size) { s with heap := h', toks := tk }) :
    wpAny (model P w) A (call (.type "set") [.ref l]) Q E s := by
  obtain ⟨_, _, mro⟩ := PySem.F.called_set.mro
  have made := PySem.F.called_set.made
  have subs := PySem.F.called_set.sub
  have c1 := PySem.F.called_set.notType
  have c2 := PySem.F.called_set.canCreate
  have c3 := PySem.F.typeCall_set_1 (.ref l)
  refine wpAny_call (codeAny_of_tree ?_)
  show wpAny _ _ (callAny (.type "set") _) _ _ _
  refine wpAny_pure ⟨Code.quiet_builtin _ (by decide +kernel), codeAny_builtin F.entry_type_call ?_⟩
  rw [Around.under_plain (weight_type_call_type "set" [.ref l] []) rfl]
  repeat (any_goals (first | assumption | wp_step))
  refine codeAny_mono (new_one (.ref l) (E := E) (Q1 := fun v z => v = .ref s.heap.objs.size ∧ z = { s with heap := s.heap.push { cls := .type "set", dict := none, data := .set #[] 0 (.fresh 0 0 (!w.params.followText "set-order")) } }) ⟨rfl, rfl⟩) fun r z hr => ?_
  match r, hr with
  | .error e, hr => exact hr
  | .ok (.ret v), hr =>
    obtain ⟨rfl, rfl⟩ := hr
    generalize hled : (!w.params.followText "set-order") = led
    have got : (s.heap.push { cls := .type "set", dict := none, data := .set #[] 0 (.fresh 0 0 led) }).get? s.heap.objs.size = some { cls := .type "set", dict := none, data := .set #[] 0 (.fresh 0 0 led) } := Heap.get?_push_size _ rfl
    have isT : Shared.TypeIs { s with heap := s.heap.push { cls := .type "set", dict := none, data := .set #[] 0 (.fresh 0 0 led) } } (.ref s.heap.objs.size) "set" := ⟨_, got, rfl⟩
    have li := PySem.F.called_set.init.lookup
    have bi := PySem.F.called_set.init.bind (.ref s.heap.objs.size)
    repeat (any_goals (first | assumption | wp_step))
    refine codeAny_mono (codeAny_call_builtin (R := wants (fun r z => r = .none ∧ ∃ h' tk xs, z = { s with heap := h', toks := tk } ∧ At (PySem.strKind P w) h' s.heap.objs.size xs ∧ First (fun i => ns.getD i "") items.size xs ∧ ∀ b o, s.heap.get? b = some o → h'.get? b = some o) E)
      PySem.F.called_set.init.plain F.entry_set_init (check_set_init_1 isT ?_)) fun r z hr => ?_
    · obtain ⟨⟨ocls, odict, odata, oslots⟩, hol, hcl, nl, hdl⟩ := hl
      simp only at hcl hdl
      subst hcl hdl
      generalize hS : s.heap.push { cls := .type "set", dict := none, data := .set #[] 0 (.fresh 0 0 led) } = hp1 at got isT ⊢
      have sz1 : hp1.objs.size = s.heap.objs.size + 1 := by rw [← hS, Heap.size_push]
      have lst : hp1.get? l = some { cls := .type "list", dict := odict, data := .seq items nl, slots := oslots } := by rw [← hS]; exact Heap.get?_push_of_some _ hol
      have isL : hp1.IsList l items := ⟨_, lst, rfl, nl, rfl⟩
      have b1 := PySem.F.sub_list_set
      have b2 := PySem.F.sub_list_frozenset
      have b3 : (Value.type "list" == Value.type "dict") = false := by decide
      unfold Builtin.«set.__init__» noKeywords Builtin.Frozenset.updateFrom
      generalize hPI : pyIter = walkOf
      wp_walk
      subst hPI
      refine wpAny_pyIter_list isL (wpAny_bind (wpAny_runValue ?_))
      have lS : l < s.heap.objs.size := Heap.lt_size hol
      have apart : l ≠ hp1.objs.size := by rw [sz1]; exact Nat.ne_of_lt (Nat.lt_succ_of_lt lS)
      have outS : s.heap.objs.size ∉ [hp1.objs.size, l] := by
        rw [sz1]
        simp only [List.mem_cons, List.not_mem_nil, or_false, not_or]
        exact ⟨Nat.ne_of_lt (Nat.lt_succ_self _), Nat.ne_of_gt lS⟩
      have at0 : At (PySem.strKind P w) (hp1.push { cls := .type "list_iterator", data := .fields #[.ref l, .int 0 0] }) s.heap.objs.size [] := by
        have z : At (PySem.strKind P w) hp1 s.heap.objs.size [] := by rw [← hS, ← hled]; exact At.fresh
        exact z.at fun o e => Heap.get?_push_of_some _ e
      refine fill ((Walks.list (by simp [hh]) _ l apart items).toS) s.heap.objs.size outS (fun i => ns.getD i "") (fun i v hv => strs_at hi i v (by rw [Array.getElem?_toList]; exact hv)) few (items.size - 0) 0 _ [] (by omega) (Nat.zero_le _)
        ⟨⟨_, Heap.get?_push_size _ rfl, rfl, rfl⟩, isL.push _⟩ at0 ⟨Nat.le_refl _, fun y => by simp⟩ fun z' ys mv at1 f1 => ?_
      obtain ⟨h', g', d', tk', os'⟩ := z'
      have eg : g' = s.gens := mv.gens
      have ed : d' = s.drawn := mv.drawn
      have eo : os' = s.os := mv.os
      subst eg ed eo
      refine wpAny_pure ?_
      show wpAny _ _ (ret Value.none) _ _ _
      refine wpAny_pure ⟨rfl, h', tk', ys, rfl, at1, f1, fun b o e => ?_⟩
      have lb := Heap.lt_size e
      refine mv.heap b o (by simp only [List.mem_cons, List.not_mem_nil, or_false, not_or]; rw [sz1]; exact ⟨Nat.ne_of_lt lb, Nat.ne_of_lt (Nat.lt_succ_of_lt lb)⟩) (Heap.get?_push_of_some _ ?_)
      rw [← hS]
      exact Heap.get?_push_of_some _ e
    · match r, hr with
      | .error e, hr => exact hr
      | .ok (.ret r), hr =>
        obtain ⟨rfl, h', tk, xs, rfl, at1, f1, k1⟩ := hr
        repeat (any_goals (first | assumption | wp_step))
        exact h _ _ _ at1 f1 k1
end
end SG

namespace L2
open PySem PySem.Spec PyProof.Rows SG
/-- set(a list of texts) -/
def rSetTx (P : Program) (w : World) : List V → Hp → VK → Prop := fun vs H Q => ∃ (a : Addr) (ts : List Str), vs = [.ref a] ∧ H a = some (.lst (ts.map V.str)) ∧ ts.length < 1000 ∧
  ∀ (xs : List Str) (p : Addr), xs.Nodup → (∀ y, y ∈ xs ↔ y ∈ ts) → H p = none → Q (.ref p) (upd H p (SetS P w p xs))
theorem texts_of_vals : ∀ {ts : List Str} {us : List Value}, Vals (ts.map V.str) us → StrsAre us ts
  | [], _, h => by cases h; exact .nil
  | x :: ts, _, h => by
    cases h with
    | cons r r2 =>
      obtain ⟨t, rfl⟩ := r
      exact .cons _ _ (texts_of_vals r2)
theorem cr_setTx {X : Cx} (hc : X.calm = true) : CallR X (.type "set") (rSetTx X.prog X.w) := by
  intro pins s σ H vs us Q I r h
  obtain ⟨a, ts, rfl, ha, few, q⟩ := h
  rw [Vals.ref1 r]
  obtain ⟨its, rv, il, hz⟩ := I.list (SqL.of ha)
  have sa := texts_of_vals rv
  have len : its.length = ts.length := StrsAre.length sa
  refine set_texts (items := its.toArray) (ns := ts) (I.ok.hd hc) il.isList (by simpa using sa) (by rw [List.size_toArray, len]; show _ < 4096; omega) fun h' tk xs at1 f1 k1 => ?_
  have free : H s.heap.objs.size = none := I.hok.fresh (Nat.le_refl _)
  have nd : xs.Nodup := at1.choose_spec.choose_spec.choose_spec.choose_spec.2.2.2.2.1
  refine ⟨.ref _, _, I.laid (t' := tk) k1 (Nat.le_refl _) (setS_new at1), rfl, q xs _ nd (fun y => (f1.2 y).trans ?_) free⟩
  rw [List.size_toArray, len]
  constructor
  · rintro ⟨j, hj, e⟩
    have e : ts.getD j "" = y := e
    have e' : ts.getD j "" = ts[j] := by rw [List.getD_eq_getElem?_getD, List.getElem?_eq_getElem hj]; rfl
    rw [← e, e']; exact List.getElem_mem hj
  · intro hy
    obtain ⟨j, hj, e⟩ := List.mem_iff_getElem.mp hy
    refine ⟨j, hj, ?_⟩
    show ts.getD j "" = y
    rw [List.getD_eq_getElem?_getD, List.getElem?_eq_getElem hj]; exact e
end L2

namespace DL
open PySem L2
section
variable {X : Cx} {K : PySem.W.Frag} {rg : Rg} {wi wi1 : TI} {g g1 : TG} {tt tt1 : TT} {te : TE} {ti ti1 : TDs} {sg sg1 : SG} {st st1 : TB} {t : TD} {vs vs1 : List Nat} {e : Expr}
/-- ys: the texts of acc, ascending, each once -/
def AscOf (ys : List Str) (p : Str → Prop) : Prop := ys.Nodup ∧ PyProof.Rows.sortedS ys = true ∧ ∀ y, y ∈ ys ↔ p y
def sSort2 (ti : TDs) (sg : SG) (st : TB) (ti1 : TDs) (sg1 : SG) (st1 : TB) (t : TD) (vs vs1 : List Nat) : TDs := fun env Q => ∃ names : List Str, names.length < 64 ∧ sLc2 ti sg st ti1 sg1 st1 (tIn names t) vs vs1 env fun acc => ∀ ys, AscOf ys (fun y => D.str y ∈ acc) → Q (ys.map .str)
theorem strs_vals {M : Addr → Prop} {H : Hp} : ∀ {ts : List Str} {us : List V}, RpAll K M H us (ts.map D.str) → us = ts.map V.str
  | [], _, h => by cases h; rfl
  | x :: ts, _, h => by
    cases h with
    | cons r r2 => cases r; rw [strs_vals r2]; rfl
theorem df_sorted_sc2 {elt tg iter tg1 iter1 : Expr} {ifs ifs1 : List Expr} {scope : Scope} {own : List (Str × Nat)} {pos : Pos} {x : Str} {p cpos : Pos} (hc : X.calm = true) (hg0 : Gl X x) (hm0 : X.mg x = none) (hv0 : bootBuiltins x = some (.builtin "sorted")) (hN : X.N.Nodup) (ok : BlkOk X.N X.env.scope scope own) (hv : ∀ i ∈ vs1, i ∈ own.map (·.2)) (hi : DI X K rg true tg iter wi ti)
    (hg : ∀ (s : Shared) (H : Hp) (C : Addr) (cl : List (Str × Addr)) (fp : List Addr), DG (X.blk s H scope (compEnvC scope cl C X.env) fp) K rg tg g sg (own.map (·.2)))
    (ht : ∀ (s : Shared) (H : Hp) (C : Addr) (cl : List (Str × Addr)) (fp : List Addr), DTs (X.blk s H scope (compEnvC scope cl C X.env) fp) K rg ifs tt st)
    (hi1 : ∀ (s : Shared) (H : Hp) (C : Addr) (cl : List (Str × Addr)) (fp : List Addr), DI (X.blk s H scope (compEnvC scope cl C X.env) fp) K rg true tg1 iter1 wi1 ti1)
    (hg1 : ∀ (s : Shared) (H : Hp) (C : Addr) (cl : List (Str × Addr)) (fp : List Addr), DG (X.blk s H scope (compEnvC scope cl C X.env) fp) K rg tg1 g1 sg1 vs1)
    (ht1 : ∀ (s : Shared) (H : Hp) (C : Addr) (cl : List (Str × Addr)) (fp : List Addr), DTs (X.blk s H scope (compEnvC scope cl C X.env) fp) K rg ifs1 tt1 st1)
    (he : ∀ (s : Shared) (H : Hp) (C : Addr) (cl : List (Str × Addr)) (fp : List Addr), DP (X.blk s H scope (compEnvC scope cl C X.env) fp) K rg elt te t) (hs : ∀ x, foldedSetIterable iter X.env x = pure x := by intro _; rfl) (hs1 : ∀ env x, foldedSetIterable iter1 env x = pure x := by intro _ _; rfl)
    (hn : x ≠ "__name__" := by decide) (hdb : (x == ("__debug__" : Str)) = false := by decide) (hst : starEach [.SetComp elt [⟨tg, iter, ifs, 0⟩, ⟨tg1, iter1, ifs1, 0⟩] scope pos] X.env = (false, eval (.SetComp elt [⟨tg, iter, ifs, 0⟩, ⟨tg1, iter1, ifs1, 0⟩] scope pos) X.env) :: starEach [] X.env := by rfl) :
    DF X K rg (.Call (.Name x p) [.SetComp elt [⟨tg, iter, ifs, 0⟩, ⟨tg1, iter1, ifs1, 0⟩] scope pos] [] cpos) (tCB (rSortedTx X.prog X.w) (tCons (SG.tSc2 X.prog X.w wi g tt wi1 g1 tt1 te (own.map (·.2)) vs1) tNil)) (sSort2 ti sg st ti1 sg1 st1 t (own.map (·.2)) vs1) := by
  cases hi.kx
  refine ⟨rfl, pe_callB (cr_sortedTx hc) hg0 hm0 hv0 (pa_cons (SG.pe_sc2 hc hN hi.pi ok hv (fun s H C cl fp => ⟨(hg s H C cl fp).pg, (ht s H C cl fp).pt, (hi1 s H C cl fp).pi, (hg1 s H C cl fp).pg, (ht1 s H C cl fp).pt, (he s H C cl fp).pe⟩) hs hs1) pa_nil hst) hn hdb hst rfl, fun c hcc pn H0 env σ H Qd Q S hq k => ?_⟩
  obtain ⟨names, few, hq⟩ := hq
  show SG.tSc2 X.prog X.w wi g tt wi1 g1 tt1 te (own.map (·.2)) vs1 σ H (fun v H1 => tNil σ H1 fun us H2 => rSortedTx X.prog X.w (v :: us) H2 Q)
  refine rf_sc2 few hi.rf (hg X.s_0 X.H_0 0 [] []).rf (ht X.s_0 X.H_0 0 [] []).rf (hi1 X.s_0 X.H_0 0 [] []).rf (hg1 X.s_0 X.H_0 0 [] []).rf (ht1 X.s_0 X.H_0 0 [] []).rf (he X.s_0 X.H_0 0 [] []).rf c hcc pn H0 env σ H _ _ S hq fun ds a xs H1 q1 ha k1 j1 e1 nd inn mem => ?_
  subst hcc
  have le := nodup_le nd inn
  refine ⟨a, xs, rfl, e1, by omega, fun ys p pm so hp => ?_⟩
  exact k (ys.map .str) p _ _ (q1 ys ⟨pm.nodup_iff.mpr nd, so, fun y => pm.mem_iff.trans (mem y)⟩) (none_back S k1 j1 hp) (fresh_keep k1 hp) (fresh_j S.ok j1 hp) upd_same (RpAll.strs ys)
/-- sorted(set(a list of texts)) -/
def sSortL (t : TD) : TDs := fun env Q => t env fun d => match d with | .lst ds => ∃ ts : List Str, ds = ts.map .str ∧ ts.length < 64 ∧ ∀ ys, AscOf ys (fun y => y ∈ ts) → Q (ys.map .str) | _ => False
theorem df_sorted_set {x y : Str} {p py pos cpos : Pos} (hc : X.calm = true) (hg0 : Gl X x) (hm0 : X.mg x = none) (hv0 : bootBuiltins x = some (.builtin "sorted")) (hg1 : Gl X y) (hm1 : X.mg y = none) (hv1 : bootBuiltins y = some (.type "set")) (h : DO X K rg e te t)
    (hn : x ≠ "__name__" := by decide) (hdb : (x == ("__debug__" : Str)) = false := by decide) (hn1 : y ≠ "__name__" := by decide) (hdb1 : (y == ("__debug__" : Str)) = false := by decide) (hse : starEach [e] X.env = (false, eval e X.env) :: starEach [] X.env := by rfl)
    (hst : starEach [.Call (.Name y py) [e] [] pos] X.env = (false, eval (.Call (.Name y py) [e] [] pos) X.env) :: starEach [] X.env := by rfl) :
    DF X K rg (.Call (.Name x p) [.Call (.Name y py) [e] [] pos] [] cpos) (tCB (rSortedTx X.prog X.w) (tCons (tCB (rSetTx X.prog X.w) (tCons te tNil)) tNil)) (sSortL t) := by
  cases h.kx
  refine ⟨rfl, pe_callB (cr_sortedTx hc) hg0 hm0 hv0 (pa_cons (pe_callTy (cr_setTx hc) hg1 hm1 hv1 (pa_cons h.pe pa_nil hse) hn1 hdb1 hse rfl) pa_nil hst) hn hdb hst rfl, fun c hcc pn H0 env σ H Qd Q S hq k => ?_⟩
  refine h.rf c hcc pn H0 env σ H _ _ S hq fun d v H1 q1 k1 j1 r1 => ?_
  subst hcc
  cases d with
  | lst ds =>
    obtain ⟨ts, rfl, few, q1⟩ := q1
    obtain ⟨a, us, rfl, e1, ra⟩ := r1.lst
    have eu := strs_vals ra
    subst eu
    refine ⟨a, ts, rfl, e1, by omega, fun xs q nd mem hq => ?_⟩
    have le := nodup_le nd fun z hz => (mem z).mp hz
    refine ⟨q, xs, rfl, upd_same, by omega, fun ys p pm so hp => ?_⟩
    have k2 := fresh_keep k1 (o := SetS X.prog X.w q xs) hq
    have j2 := fresh_j S.ok j1 (o := SetS X.prog X.w q xs) hq
    exact k (ys.map .str) p _ _ (q1 ys ⟨pm.nodup_iff.mpr nd, so, fun y => pm.mem_iff.trans (mem y)⟩) (none_back S k2 j2 hp) (fresh_keep k2 hp) (fresh_j S.ok j2 hp) upd_same (RpAll.strs ys)
  | _ => exact q1.elim
end
end DL

namespace DL
open PySem L2 PySem.Spec PyProof.Rows
/-! ### where a deal is made: from there on it may change -/
/-- the promise of the def that makes it -/
def spSrc (K : PySem.W.Frag) (k1 k2 : Str) : Sp := fun vs H Q _ => ∃ (a : Addr) (ns : List Int) (b : Int), vs = [.ref a, .int b] ∧ SqL K H a (ns.map V.int) ∧ ns.length ≤ 63 ∧ 0 ≤ b ∧ b < 1000 ∧
  ∀ (d g : Addr) (cs : List Int) (m : Int) (H' : Hp), H d = none → H g = none → d ≠ g → Same H H' → H' d = some (.dK [(.inr k1, .ref g), (.inr k2, .int m)]) → H' g = some (.lst (cs.map V.int)) → cs.length < 64 → 0 ≤ m → m < 2147483647 → Q (.ref d) H'
def Dc.deal (c : Dc) (k1 k2 : Str) (d g : Addr) : Dc := ⟨fun x => c.M x ∨ (x = d ∨ x = g), c.P, ddRg k1 k2 d g⟩
section
variable {K : PySem.W.Frag} {c : Dc} {pn : Pin} {H0 : Hp} {env : En} {σ : L2.St} {H H1 : Hp} {k1 k2 : Str} {d g : Addr}
theorem mof_deal {b : Addr} : Mof (c.deal k1 k2 d g) env b ↔ Mof c env b ∨ (b = d ∨ b = g) := by
  constructor
  · rintro ((h | h) | h)
    · exact .inl (.inl h)
    · exact .inr h
    · exact .inl (.inr h)
  · rintro ((h | h) | h)
    · exact .inl (.inl h)
    · exact .inr h
    · exact .inl (.inr h)
theorem Sd.inDeal (S : Sd K c pn H0 env σ H) (hc : c.rg = Rg.pure) (hd : H d = none) (hg : H g = none) (k : Same H H1) (j : (ddRg k1 k2 d g).J H1) : Sd K (c.deal k1 k2 d g) pn H0 env σ H1 := by
  have old : ∀ {b o}, H b = some o → ¬ (b = d ∨ b = g) := fun e z => by
    rcases z with rfl | rfl
    · rw [hd] at e; cases e
    · rw [hg] at e; cases e
  have hM : ∀ b o, H b = some o → Mof (c.deal k1 k2 d g) env b → Mof c env b := fun b o e z => (mof_deal.mp z).elim id fun z => absurd z (old e)
  have kM : ∀ M : Addr → Prop, Keep M H H1 := fun M => Keep.of_same k
  refine ⟨⟨fun a h => .inr h, ddRg_ok k1 k2 d g, fun a h => ⟨.inl (S.ok.pm a h).1, fun z => ?_⟩⟩, S.len, fun i s e => ?_, j, ?_, fun a h e => ?_, S.apart, S.pk, S.pk _ _ _ _ (S.pk _ _ _ _ S.pn Keep.refl hM) (kM _) fun _ _ _ z => z⟩
  · cases q : H a with
    | none => exact S.dom a (S.ok.pm a h).1 q
    | some o => exact old q z
  · obtain ⟨v, h1, h2⟩ := S.sl i s e
    refine ⟨v, h1, ?_⟩
    cases s with
    | dat d => exact Rp.keep (kM _) (Rp.anti hM h2)
    | own b ds =>
      obtain ⟨q1, q2, q3, vs, q4, q5⟩ := h2
      exact ⟨q1, q2, fun z => z.elim q3 (old q4), vs, k b _ q4, RpAll.keep (kM _) (RpAll.anti hM q5)⟩
    | ownD b kz ds =>
      obtain ⟨q1, q2, q3, vs, q4, ql, q5⟩ := h2
      exact ⟨q1, q2, fun z => z.elim q3 (old q4), vs, k b _ q4, ql, RpAll.keep (kM _) (RpAll.anti hM q5)⟩
    | self b C ns ds =>
      obtain ⟨q1, q2, dx, vs, q4, q5, q6⟩ := h2
      exact ⟨q1, q2, dx, vs, k b _ q4, q5, RpAll.keep (kM _) (RpAll.anti hM q6)⟩
  · exact fun b o e m => k b o (S.kp b o e fun z => m (z.elim (fun z => by rw [hc] at z; exact z.elim) .inr))
  · rcases h with h | h | h
    · cases q : H a with
      | none => exact S.dom a h q
      | some o => rw [k a o q] at e; cases e
    · obtain ⟨_, _, _, e1, _⟩ := j; rw [h, e1] at e; cases e
    · obtain ⟨_, _, _, _, e1, _⟩ := j; rw [h, e1] at e; cases e
theorem Sd.outDeal (S : Sd K (c.deal k1 k2 d g) pn H0 env σ H) (ok : c.Ok) (hc : c.rg = Rg.pure) (hd : H0 d = none) (hg : H0 g = none) : Sd K c pn H0 env σ H := by
  have hM : ∀ b o, H b = some o → Mof c env b → Mof (c.deal k1 k2 d g) env b := fun b o e z => mof_deal.mpr (.inl z)
  refine ⟨ok, S.len, fun i s e => ?_, by rw [hc]; trivial, fun b o e m => S.kp b o e fun z => ?_, fun a h => S.dom a (.inl h), S.apart, S.pk, S.pk _ _ _ _ S.pn Keep.refl hM⟩
  · obtain ⟨v, h1, h2⟩ := S.sl i s e
    refine ⟨v, h1, ?_⟩
    cases s with
    | dat d => exact Rp.anti hM h2
    | own b ds =>
      obtain ⟨q1, q2, q3, vs, q4, q5⟩ := h2
      exact ⟨q1, q2, fun z => q3 (.inl z), vs, q4, RpAll.anti hM q5⟩
    | ownD b kz ds =>
      obtain ⟨q1, q2, q3, vs, q4, ql, q5⟩ := h2
      exact ⟨q1, q2, fun z => q3 (.inl z), vs, q4, ql, RpAll.anti hM q5⟩
    | self b C ns ds =>
      obtain ⟨q1, q2, dx, vs, q4, q5, q6⟩ := h2
      exact ⟨q1, q2, dx, vs, q4, q5, RpAll.anti hM q6⟩
  · rcases z with (z | z) | z
    · rw [z, hd] at e; cases e
    · rw [z, hg] at e; cases e
    · exact m (.inr z)
end
/-- the def that makes deals -/
structure Src (P : Program) (w : World) (K : PySem.W.Frag) (mg : Str → Option Value) (base : Heap) (nm k1 k2 : Str) (lv : Nat) : Prop where
  ex : ∃ (f : Addr) (fd : FuncData) (ps : List Str), FnOk P w K mg base CX0 lv f fd ps (spSrc K k1 k2) ∧ mg nm = some (.ref f) ∧ PySem.W.keepIn K (.ref f) = true ∧ Binds K fd ps []
def sDeal (k1 k2 : Str) (i : Nat) (u : TDs) (t : Rg → TDS) : TDS := fun Dd env => i < env.length ∧ u env fun ds => ∃ (ns : List Int) (b : Int), (ds = [.scr ns, .int b] ∨ ds = [.lst (ns.map .int), .int b]) ∧ ns.length ≤ 63 ∧ 0 ≤ b ∧ b < 1000 ∧
  ∀ a g, t (ddRg k1 k2 a g) { nx := Dd.nx, rt := fun _ => False, ct := Dd.ct, bk := Dd.bk } (env.set i (some (.dat (.raw (.ref a)))))
section
variable {X : Cx} {K : PySem.W.Frag} {rest : List Stmt} {us : TS} {t : Rg → TDS} {e : Expr} {es : List Expr} {ta : TA} {u : TDs} {pos cpos p tpos : Pos} {i lv : Nat} {nm n k1 k2 : Str}
theorem dss_deal (C : Src X.prog X.w X.K X.mg X.base nm k1 k2 lv) (hr : Room lv X.A) (hg : Gl X nm) (ha : DA X K Rg.pure (e :: es) ta u) (h2 : ∀ rg, DSs X K rg rest us (t rg)) (hN : X.N.Nodup) (hi : X.N[i]? = some n) (hx : Loc X.env.scope n) (hdb : (nm == ("__debug__" : Str)) = false := by decide)
    (he : starEach (e :: es) X.env = (false, eval e X.env) :: starEach es X.env := by rfl) (hpl : (backTo cpos (starEach es X.env)).any (·.1) = false := by rfl)
    (hs : swapsWith (.Call (.Name nm p) (e :: es) [] cpos) (some (.Name n tpos)) pos.line X.env = pure false := by rfl) (hf : X.fn n = true ∨ X.env.scope.names.lookup n = some .local := by first | exact .inl rfl | exact .inr rfl) :
    DSs X K Rg.pure (.Assign [.Name n tpos] (.Call (.Name nm p) (e :: es) [] cpos) pos :: rest) (tSeq (tAsg (tCall (spSrc K k1 k2) [] E0 ta) (gName i)) us) (sDeal k1 k2 i u t) := by
  cases ha.kx
  obtain ⟨f, fd, ps, F, hm, hk, hb⟩ := C.ex
  refine ⟨rfl, pss_cons (ps_set hN hi hx (pe_call F hr hg hm hk hb .nil pass0 ha.pa hdb he hpl) hs hf) (h2 Rg.pure).ps, fun c hc pn H0 env σ H Dd De S ht nx r ro bk ct => ?_⟩
  obtain ⟨hil, ht⟩ := ht
  refine ha.rf c hc pn H0 env σ H _ _ S ht fun ds vs H1 q1 k1' j1 r1 => ?_
  have S1 : Sd X.K c pn H0 env σ H1 := S.grow k1' j1
  obtain ⟨ns, b, hds, ln, b0, b1, q⟩ := q1
  have sc : ∃ a, vs = [.ref a, .int b] ∧ SqL X.K H1 a (ns.map V.int) := by
    rcases hds with rfl | rfl
    · cases r1 with
      | cons r1 r2 =>
      cases r2 with
      | cons r2 r3 =>
      cases r3; cases r2
      obtain ⟨a, rfl, h⟩ := r1.scr_seq
      exact ⟨a, rfl, h⟩
    · cases r1 with
      | cons r1 r2 =>
      cases r2 with
      | cons r2 r3 =>
      cases r3; cases r2
      cases r1 with
      | lst m h ra =>
      have e := RpAll.ofInts ns ra
      subst e
      exact ⟨_, rfl, SqL.of h⟩
  obtain ⟨a, rfl, hsq⟩ := sc
  refine ⟨a, ns, b, by simp, hsq, ln, b0, b1, fun d g cs m H2 hd hgn ne sm hd2 hg2 lc m0 m1 => ?_⟩
  have j2 : (ddRg k1 k2 d g).J H2 := ⟨ne, cs, m, hd2, hg2, m0, m1, lc⟩
  have S2 := (S1.inDeal (k1 := k1) (k2 := k2) hc hd hgn sm j2).setD i hil (d := .raw (.ref d)) (v := .ref d) (.raw _)
  have n0 : H0 d = none := S1.h0 hd
  have n1 : H0 g = none := S1.h0 hgn
  refine (h2 (ddRg k1 k2 d g)).rf (c.deal k1 k2 d g) rfl pn H0 _ _ H2 _ De S2 (q d g) (fun env' σ' H' q' S' => nx env' σ' H' q' (S'.outDeal S.ok hc n0 n1)) (fun _ _ _ q' => q'.elim) (fun _ _ _ _ q' => q'.elim) (fun env' σ' H' q' S' => bk env' σ' H' q' (S'.outDeal S.ok hc n0 n1)) (fun env' σ' H' q' S' => ct env' σ' H' q' (S'.outDeal S.ok hc n0 n1))
end
end DL

namespace DL
open PySem L2 PySem.Spec PyProof.Rows
/-- {"..": a new list of numbers, "..": a number}, both new -/
def sDl (u : TDs) (x : TD) : En → (List Int → Int → Prop) → Prop := fun env Q => u env fun ds => ∃ cs : List Int, ds = cs.map .int ∧ x env fun d => ∃ m, d = .int m ∧ Q cs m
section
variable {X : Cx} {K : PySem.W.Frag} {rg : Rg} {e1 e2 : Expr} {t1 t2 : TE} {u : TDs} {x : TD} {k1 k2 : Str} {pos p1 p2 : Pos} {j1 j2 : Nat}
theorem pe_dl (h1 : DF X K rg e1 t1 u) (h2 : DP X K rg e2 t2 x) : PE X (.Dict [some (.Constant (.str k1) j1 p1), some (.Constant (.str k2) j2 p2)] [e1, e2] pos) (tDisp [(tC (.str k1), t1), (tC (.str k2), t2)]) :=
  pe_disp (pps_cons pe_str h1.pe (pps_cons pe_str h2.pe pps_nil)) rfl rfl (by simp) (by show 2 ≤ 15; decide)
theorem rf_dl (hn : k1 ≠ k2) (h1 : RfF K rg t1 u) (h2 : Rf K rg t2 x) (c : Dc) (hc : c.rg = rg) (pn : Pin) (H0 : Hp) (env : En) (σ : L2.St) (H : Hp) (Qd : List Int → Int → Prop) (Q : VK) (S : Sd K c pn H0 env σ H) (ht : sDl u x env Qd)
    (k : ∀ cs m p g H', Qd cs m → H p = none → H g = none → p ≠ g → Keep c.rg.R H H' → H' p = some (.dK [(.inr k1, .ref g), (.inr k2, .int m)]) → H' g = some (.lst (cs.map V.int)) → Q (.ref p) H') : tDisp [(tC (.str k1), t1), (tC (.str k2), t2)] σ H Q := by
  subst hc
  intro p hp
  have pR : ¬ c.rg.R p := fun z => S.domM p (Mof.of_R S.ok z) hp
  have T : Sd K (c.with p) pn H0 env σ (upd H p (.dK [])) := S.inComp hp
  refine h1 (c.with p) rfl pn H0 env σ _ _ _ T ht fun ds g vs H2 q2 hg k2' j2' hl r2 => ?_
  obtain ⟨cs, rfl, q2⟩ := q2
  have ev := RpAll.ofInts cs r2
  subst ev
  have k2'' : Keep c.rg.R (upd H p (.dK [])) H2 := k2'
  have T2 := T.grow k2' j2'
  refine h2 (c.with p) rfl pn H0 env σ H2 _ _ T2 q2 fun d v H3 q3 k3 j3 r3 => ?_
  obtain ⟨m, rfl, q3⟩ := q3
  cases r3
  have k3' : Keep c.rg.R H2 H3 := k3
  have np : p ≠ g := fun z => by rw [← z, upd_same] at hg; cases hg
  have gR : ¬ c.rg.R g := fun z => T.ok.rg.dom _ T.j g z hg
  have hg0 : H g = none := by rw [upd_ne (Ne.symm np)] at hg; exact hg
  have hp3 : H3 p = some (.dK []) := k3' p _ (k2'' p _ upd_same pR) pR
  refine ⟨hp3, [(.inr k1, .ref g), (.inr k2, .int m)], rfl, by show 2 ≤ _; decide, ?_⟩
  have em : mergeK [] [((.inr k1 : Key), V.ref g), (.inr k2, .int m)] = [(.inr k1, .ref g), (.inr k2, .int m)] := by
    rw [merge_new _ _ (by simpa using hn) (fun k _ => rfl)]; simp
  rw [em]
  refine k cs m p g _ q3 hp hg0 np (fun b o e mm => ?_) upd_same (by rw [upd_ne (Ne.symm np)]; exact k3' g _ hl gR)
  have hb : b ≠ p := fun z => by rw [z, hp] at e; cases e
  rw [upd_ne hb]
  exact k3' b o (k2'' b o (by rw [upd_ne hb]; exact e) mm) mm
end
end DL

namespace K17
open PySem L2 DL
def top (i : Nat) : Stmt := PySem.Challenge.pw_poisonruns_k17_texts_of_evidences.main.body.getD i (.Pass ⟨0, 0, 0, 0⟩)
structure Txt (mg : Str → Option Value) : Prop where
  abs : mg "abs" = none
  all : mg "all" = none
  any : mg "any" = none
  bool : mg "bool" = none
  dict : mg "dict" = none
  enumerate : mg "enumerate" = none
  int : mg "int" = none
  isinstance : mg "isinstance" = none
  len : mg "len" = none
  list : mg "list" = none
  max : mg "max" = none
  min : mg "min" = none
  range : mg "range" = none
  repr : mg "repr" = none
  set : mg "set" = none
  sorted : mg "sorted" = none
  str : mg "str" = none
  sum : mg "sum" = none
  tuple : mg "tuple" = none
  zip : mg "zip" = none
section
variable {P : Program} {w : World} {K : PySem.W.Frag} {mg : Str → Option Value} {base : Heap}
abbrev tfDr : Tf := tfDrawD "great" "mixed"
abbrev rgD (a g : Addr) : Rg := ddRg "great" "mixed" a g

abbrev s_draw : Stmt := top 33
abbrev N_draw : List Str := ["_law_deal", "_law_wide", "_law_great", "_law_cell"]
theorem sc_draw : FnScope N_draw ["_law_deal", "_law_wide"] (defScope s_draw) := ⟨rfl, rfl, rfl, by decide +kernel, rfl, by decide +kernel, by decide +kernel⟩
theorem ok_draw {f : Addr} {fd : FuncData} (F : Fun K "_law_draw" "_law_draw" s_draw f fd) (T : Txt mg) : FnOk P w K mg base CX0 1 f fd ["_law_deal", "_law_wide"] (spD K 2 (tfDrawD "great" "mixed")) := by
  refine F.ok sc_draw (fun vs H Q E h => spD_len vs H Q E h) (fun cdv A outer s H vs Q E hr h => ?_)
  obtain ⟨c, ds, Qd, ok, hP, r, j, dom, hl, ⟨a, g, wide, hrg, rfl, w0, w1, hq⟩, out⟩ := h
  cases r with
  | cons r1 r2 =>
  cases r2 with
  | cons r2 r3 =>
  cases r1; cases r2; cases r3
  rw [hrg] at j out
  have hu := hr.units
  have hu1 := hu_of hr
  refine ⟨_, pss_cons (ps_set (i := 2) sc_draw.nd rfl (Or.inl rfl) (pe_dget (by exact hu1) (pv 0) pe_str (fun _ _ => rfl)))
    (pss_cons (ps_while PassesOwn.never (PW.pt (pw_and (pt_cmpR (op_neP (by exact hu)) (pv 2) (pe_lst pa_nil) (nomark _))
        (pw_and1 (pt_cmpR op_eq (pe_ix ix_list (pv 2) (pe_un un_neg pe_int) (fun _ _ => rfl)) pe_int (nomark _)))))
      (pss_one (ps_expr (pe_bm0 PySem.F.plainAttrs_list PySem.F.slot_list_pop PySem.F.type_list_pop mt_pop (pv 2)))))
    (pss_cons (ps_if (pt_cmpR (op_neP (by exact hu)) (pv 2) (pe_lst pa_nil) (nomark _))
      (pss_cons (ps_set (i := 3) sc_draw.nd rfl (Or.inl rfl) (pe_bm0 PySem.F.plainAttrs_list PySem.F.slot_list_pop PySem.F.type_list_pop mt_pop (pv 2)))
      (pss_cons (ps_expr (pe_bm PySem.F.plainAttrs_list PySem.F.slot_list_append PySem.F.type_list_append mt_append (pv 2) (pa_cons (pe_op op_fdiv (pv 3) (pv 1)) pa_nil)))
      (pss_one (ps_ret (pe_op op_mod (pe_callTy call_int1 (by rfl) T.int (by decide +kernel) (pa_cons (pv 3) pa_nil)) (pv 1)))))) pss_nil)
    (pss_cons (ps_dput (by exact hu1) (pv 0) pe_str (pe_op op_mod (pe_callTy call_int1 (by rfl) T.int (by decide +kernel) (pa_cons (pe_op op_add (pe_op op_mul (pe_dget (by exact hu1) (pv 0) pe_str (fun _ _ => rfl)) pe_int) pe_int) pa_nil)) pe_int) rfl)
    (pss_one (ps_ret (pe_op op_mod (pe_callTy call_int1 (by rfl) T.int (by decide +kernel) (pa_cons (pe_op op_fdiv (pe_dget (by exact hu1) (pv 0) pe_str (fun _ _ => rfl)) pe_int) pa_nil)) (pv 1))))))), ?_⟩
  have j0 := j
  obtain ⟨ne, cs0, m0', h1, h2, _⟩ := j0
  refine ⟨_, rfl, a, .ref g, rfl, DGet.k (k := .inr "great") h1, ?_⟩
  -- the loop
  refine while_cps (fun σ H' => ∃ l, σ = [some (.ref a), some (.int wide), some (.ref g), l] ∧ DealOkD "great" "mixed" a g H H') (fun σ H' => ∃ l, σ = [some (.ref a), some (.int wide), some (.ref g), l] ∧ DealOkD "great" "mixed" a g H H') (fun σ H' => match H' g with | some (.lst xs) => xs.length | _ => 0) ⟨none, rfl, Keep.refl, j⟩ ?_ ?_
  · rintro σ H1 ⟨l, rfl, k1, ne, cs, m, e1, e2, m0, m1, lc⟩ R hR
    refine ⟨_, rfl, by decide, fun p hp => ?_⟩
    have pg : g ≠ p := ne_of_none e2 hp
    have pa : a ≠ p := ne_of_none e1 hp
    have e1' : upd H1 p (.lst []) a = some (.dK [(.inr "great", .ref g), (.inr "mixed", .int m)]) := by rw [upd_ne pa]; exact e1
    have e2' : upd H1 p (.lst []) g = some (.lst (cs.map V.int)) := by rw [upd_ne pg]; exact e2
    have ok2 : DealOkD "great" "mixed" a g H (upd H1 p (.lst [])) := ⟨k1.trans (Keep.upd_new hp), ne, cs, m, e1', e2', m0, m1, lc⟩
    refine ne_nilD (cs := cs) e2' upd_same ⟨_, rfl, ?_⟩
    by_cases hc : cs = []
    · subst hc
      exact hR false _ ⟨l, rfl, ok2⟩
    · have hb : (!cs.isEmpty) = true := by cases cs with | nil => exact absurd rfl hc | cons c cs => rfl
      rw [hb]
      obtain ⟨cs', x, rfl⟩ : ∃ cs' x, cs = cs' ++ [x] := ⟨cs.dropLast, cs.getLast hc, (List.dropLast_concat_getLast hc).symm⟩
      refine ⟨_, rfl, 1, rfl, g, _, _, V.int x, rfl, rfl, SqL.of e2', by rw [List.map_append]; exact atI_last _ _, rfl, _, rfl, ?_⟩
      by_cases hx : x = 0
      · subst hx
        have e0 : decide (V.int 0 = V.int 0) = true := by simp
        rw [e0]
        refine hR true _ ?_
        refine ⟨_, rfl, .inl ⟨rfl, _, SqL.of e2'⟩, g, _, V.int 0, rfl, rfl, e2', by simp, ?_⟩
        refine ⟨⟨l, rfl, fun b o e hb => ?_, ne, cs', m, ?_, ?_, m0, m1, by simp at lc; omega⟩, ?_⟩
        · rw [upd_ne (fun z => hb (.inr z))]
          exact ok2.1 b o e hb
        · rw [upd_ne ne]; exact e1'
        · rw [upd_same]; simp
        · simp [upd_same, e2]
      · have e0 : decide (V.int x = V.int 0) = false := by simp [hx]
        rw [e0]
        exact hR false _ ⟨l, rfl, ok2⟩
  · rintro σ H1 ⟨l, rfl, k1, ne, cs, m, e1, e2, m0, m1, lc⟩
    refine ⟨_, rfl, by decide, fun p hp => ?_⟩
    have pg : g ≠ p := ne_of_none e2 hp
    have pa : a ≠ p := ne_of_none e1 hp
    have e1' : upd H1 p (.lst []) a = some (.dK [(.inr "great", .ref g), (.inr "mixed", .int m)]) := by rw [upd_ne pa]; exact e1
    have e2' : upd H1 p (.lst []) g = some (.lst (cs.map V.int)) := by rw [upd_ne pg]; exact e2
    have k2 : Keep (ddRg "great" "mixed" a g).R H (upd H1 p (.lst [])) := k1.trans (Keep.upd_new hp)
    refine ne_nilD (cs := cs) e2' upd_same ⟨_, rfl, ?_⟩
    by_cases hc : cs = []
    · subst hc
      have z0 : ∀ z : Int, 0 ≤ z % 2147483647 := fun z => Int.emod_nonneg _ (by omega)
      have z1 : ∀ z : Int, z % 2147483647 < 2147483647 := fun z => Int.emod_lt_of_pos _ (by omega)
      refine ⟨_, rfl, a, .int m, rfl, DGet.k (k := .inr "mixed") e1', _, _, rfl, rfl, .inr (by constructor <;> omega), _, _, rfl, rfl, .inl ⟨_, rfl, _, _, rfl, rfl, by omega, ?_⟩⟩
      refine ⟨_, rfl, a, _, rfl, DPut.k (k := .inr "mixed") e1' (by show 2 < sizeLine; decide), ?_⟩
      refine ⟨_, rfl, a, .int _, rfl, DGet.k (k := .inr "mixed") upd_same, _, _, rfl, rfl, ⟨by omega, by omega⟩, .inl ⟨_, rfl, _, rfl, _, _, rfl, rfl, w0, ?_⟩⟩
      refine out _ (.int _) _ (hq _ (Int.emod_nonneg _ (by omega)) (Int.emod_lt_of_pos _ w0)) (fun b o e hb => ?_) ⟨ne, [], _, upd_same, ?_, z0 _, z1 _, by simp⟩ (.int _)
      · rw [upd_ne (fun z => hb (.inl z))]
        exact k2 b o e hb
      · rw [upd_ne (Ne.symm ne)]; exact e2'
    · have hb : (!cs.isEmpty) = true := by cases cs with | nil => exact absurd rfl hc | cons c cs => rfl
      rw [hb]
      obtain ⟨cs', x, rfl⟩ : ∃ cs' x, cs = cs' ++ [x] := ⟨cs.dropLast, cs.getLast hc, (List.dropLast_concat_getLast hc).symm⟩
      refine ⟨_, rfl, .inl ⟨rfl, _, SqL.of e2'⟩, g, _, V.int x, rfl, rfl, e2', by simp, ?_⟩
      refine ⟨_, rfl, .inl ⟨rfl, _, SqL.of upd_same⟩, _, rfl, _, rfl, _, _, rfl, rfl, ⟨w0, w1⟩, g, _, _, rfl, rfl, upd_same, by have hz : 64 ≤ sizeLine := (by decide); have := lc; rw [List.length_append] at this; simp at this ⊢; omega, ?_⟩
      refine ⟨_, rfl, .inl ⟨_, rfl, _, rfl, _, _, rfl, rfl, w0, ?_⟩⟩
      refine out _ (.int _) _ (hq _ (Int.emod_nonneg _ (by omega)) (Int.emod_lt_of_pos _ w0)) (fun b o e hb => ?_) ⟨ne, cs' ++ [x / wide], m, ?_, ?_, m0, m1, by simpa using lc⟩ (.int _)
      · rw [upd_ne (fun z => hb (.inr z)), upd_ne (fun z => hb (.inr z))]
        exact k2 b o e hb
      · rw [upd_ne ne, upd_ne ne]; exact e1'
      · rw [upd_same]; simp


theorem atI_nat {xs : List D} {n : Nat} (h : n < xs.length) : atI xs (n : Int) = some xs[n] := by
  unfold atI
  have : ixN xs.length (n : Int) = some n := by unfold ixN; simp; omega
  rw [this]; exact List.getElem?_eq_getElem h
theorem pop_perm {l r : List D} {y : D} {k : Nat} (hlt : k < l.length) (hy : l[k] = y) : (l.eraseIdx k ++ (r ++ [y])).Perm (l ++ r) := by
  have e1 : (l.eraseIdx k ++ (r ++ [y])).Perm (y :: (l.eraseIdx k ++ r)) := by
    rw [← List.append_assoc]
    exact List.perm_append_singleton _ _
  refine e1.trans ?_
  rw [← List.cons_append]
  refine List.Perm.append_right _ ?_
  have e2 : l = l.take k ++ y :: l.drop (k + 1) := by rw [← hy, List.getElem_cons_drop, List.take_append_drop]
  rw [List.eraseIdx_eq_take_drop_succ]
  exact List.Perm.trans List.perm_middle.symm (List.Perm.of_eq e2.symm)
def unS : D → Str
  | .str x => x
  | _ => ""
theorem perm_strs {ys : List D} {W : List Str} (h : ys.Perm (W.map .str)) : ∃ vs : List Str, ys = vs.map .str ∧ vs.Perm W := by
  refine ⟨ys.map unS, ?_, ?_⟩
  · rw [List.map_map]
    have : ∀ y ∈ ys, (D.str ∘ unS) y = y := fun y hy => by
      have := h.mem_iff.mp hy
      rw [List.mem_map] at this
      obtain ⟨x, _, rfl⟩ := this
      rfl
    rw [List.map_congr_left this, List.map_id']
  · have := h.map unS
    rw [List.map_map] at this
    have e : (unS ∘ D.str) = id := rfl
    rw [e, List.map_id] at this
    exact this

def tfPick : Tf := fun rg ds Q => ∃ a g xs, rg = rgD a g ∧ ds = [.raw (.ref a), .lst xs] ∧ 0 < xs.length ∧ xs.length < 1000 ∧ ∀ x ∈ xs, Q x
abbrev s__law_pick : Stmt := top 34
abbrev N__law_pick : List Str := ["_law_deal", "_law_some"]
theorem sc__law_pick : FnScope N__law_pick ["_law_deal", "_law_some"] (defScope s__law_pick) := ⟨rfl, rfl, rfl, by decide +kernel, rfl, by decide +kernel, by decide +kernel⟩
theorem ok_law_pick {f : Addr} {fd : FuncData} (F : Fun K "_law_pick" "_law_pick" s__law_pick f fd) (T : Txt mg) (CD : Cal P w K mg base "_law_draw" 1 2 tfDr) : FnOk P w K mg base CX0 (1 + 1) f fd ["_law_deal", "_law_some"] (spD K 2 tfPick) := by
  refine fn_D F sc__law_pick rfl fun rg cdv A outer s H E hr => ?_
  have hu := hr.units
  refine ⟨_, _, (dss_one (ds_ret (DP.o (d_ix (DP.o (d_var (pv 1))) (DP.o (d_callC CD (hr.mono (by omega)) (by rfl) (da_cons (d_var (pv 0)) (da_cons (d_callB cl_len cad_len (by rfl) T.len (by decide +kernel) (dao_cons (DP.o (d_var (pv 1))) dao_nil)) da_nil)))))))), fun ds Qd h hl => ?_⟩
  obtain ⟨a, g, xs, hrg, rfl, l0, l1, hq⟩ := h
  refine ⟨rfl, a, g, _, hrg, rfl, ?_, ?_, fun z z0 z1 => ?_⟩
  · omega
  · omega
  · have hlt : z.toNat < xs.length := by omega
    refine ⟨xs[z.toNat], ?_, hq _ (List.getElem_mem hlt)⟩
    have t := atI_nat hlt
    rw [Int.toNat_of_nonneg z0] at t
    exact t

def tfMixed : Tfs := fun rg ds Q => ∃ a g xs, rg = rgD a g ∧ ds = [.raw (.ref a), .lst xs] ∧ xs.length < 64 ∧ ∀ ys : List D, ys.Perm xs → Q ys
abbrev s__law_mixed : Stmt := top 35
abbrev N__law_mixed : List Str := ["_law_deal", "_law_some", "_law_others", "_law_found", "_law_turn"]
theorem sc__law_mixed : FnScope N__law_mixed ["_law_deal", "_law_some"] (defScope s__law_mixed) := ⟨rfl, rfl, rfl, by decide +kernel, rfl, by decide +kernel, by decide +kernel⟩
theorem ok_law_mixed {f : Addr} {fd : FuncData} (F : Fun K "_law_mixed" "_law_mixed" s__law_mixed f fd) (T : Txt mg) (CD : Cal P w K mg base "_law_draw" 1 2 tfDr) : FnOk P w K mg base CX0 (1 + 1) f fd ["_law_deal", "_law_some"] (spF K 2 tfMixed) := by
  refine fn_F F sc__law_mixed rfl fun rg cdv A outer s H E hr => ?_
  have hu := hr.units
  refine ⟨_, _, (dss_cons (ds_parFF (i := 2) (j := 3) rfl sc__law_mixed.nd rfl rfl (by decide) rfl rfl (df_list (by rfl) T.list (by decide +kernel) (DP.o (d_var (pv 1)))) (df_lst da_nil) (by rfl))
    (dss_cons (ds_for (vs := [4]) PassesOwn.never rfl (di_range1 (by rfl) T.range (da_cons (d_callB cl_len cad_len (by rfl) T.len (by decide +kernel) (dao_cons (do_var (pv 2)) dao_nil)) da_nil)) (dg_name (pg_name (i := 4) sc__law_mixed.nd rfl (by first | exact Or.inl rfl | exact Or.inr rfl)) (by decide))
    (dss_one (ds_appPopP (i := 3) (j := 2) (pv 3) (pv 2) (d_callC CD (hr.mono (by omega)) (by rfl) (da_cons (d_var (pv 0)) (da_cons (d_callB cl_len cad_len (by rfl) T.len (by decide +kernel) (dao_cons (do_var (pv 2)) dao_nil)) da_nil))))))
    (dss_one (ds_retO (pv 3))))), fun ds Qd h hl => ?_⟩
  obtain ⟨a, g, xs, hrg, rfl, lx, hq⟩ := h
  refine ⟨by decide, Nat.le_of_ble_eq_true rfl, Nat.le_of_ble_eq_true rfl, fun p q => ?_⟩
  refine ⟨by show -(2 ^ 62) ≤ (xs.length : Int); omega, by show (xs.length : Int) < 2 ^ 62; omega, ?_⟩
  have lz : (intsD 0 ((xs.length : Int)).toNat).length = xs.length := by rw [intsD_length]; omega
  refine ⟨fun i env' => ∃ (l r : List D) (x : Option Sl), l.length + i = xs.length ∧ (l ++ r).Perm xs ∧ env' = [some (.dat (.raw (.ref a))), some (.dat (.lst xs)), some (.own p l), some (.own q r), x] ∧ FreeS x, ⟨xs, [], none, by simp, by simp, rfl, .inl rfl⟩, ?_, ?_⟩
  · rintro i x env' hx ⟨l, r, y, hi, hp, rfl, fy⟩
    have hlt := (List.getElem?_eq_some_iff.mp hx).1
    rw [lz] at hlt
    have ll := hp.length_eq
    rw [List.length_append] at ll
    refine ⟨by rcases fy with rfl | ⟨y, rfl⟩ <;> rfl, by decide, rfl, a, g, _, hrg, rfl, ?_, ?_, fun z h0 h1 => ⟨h0, h1, ?_, ?_, fun y hy => ?_⟩⟩
    · show 0 < (l.length : Int); omega
    · show (l.length : Int) < 1073741824; omega
    · have hs : (64 : Nat) < sizeLine := by decide
      omega
    · omega
    · obtain ⟨hlt, hy2⟩ := List.getElem?_eq_some_iff.mp hy
      refine ⟨l.eraseIdx z.toNat, r ++ [y], _, ?_, ?_, rfl, .inr ⟨_, rfl⟩⟩
      · rw [List.length_eraseIdx_of_lt hlt]; omega
      · exact (pop_perm hlt hy2).trans hp
  · rintro env' ⟨l, r, y, hi, hp, rfl, fy⟩
    rw [lz] at hi
    have e : l = [] := List.eq_nil_of_length_eq_zero (by omega)
    subst e
    exact hq r (by simpa using hp)

def W : List Str := ["a", "b", "c", "ab", "test", "zzzz", "two", "on", "off", "sets", "seen", "x"]
def tfNames : Tf := fun rg ds Q => ∃ a g, ∃ n : Nat, rg = rgD a g ∧ ds = [.raw (.ref a), .int (n : Nat)] ∧ n ≤ 12 ∧ ∀ ws : List Str, ws.length = n → ws.Nodup → (∀ x ∈ ws, x ∈ W) → Q (.lst (ws.map .str))
abbrev s__law_names : Stmt := top 36
abbrev N__law_names : List Str := ["_law_deal", "_law_amount", "_law_every"]
theorem sc__law_names : FnScope N__law_names ["_law_deal", "_law_amount"] (defScope s__law_names) := ⟨rfl, rfl, rfl, by decide +kernel, rfl, by decide +kernel, by decide +kernel⟩
theorem ok_law_names {f : Addr} {fd : FuncData} (F : Fun K "_law_names" "_law_names" s__law_names f fd) (T : Txt mg) (CM : CalF P w K mg base "_law_mixed" 2 2 tfMixed) : FnOk P w K mg base CX0 (2 + 1) f fd ["_law_deal", "_law_amount"] (spD K 2 tfNames) := by
  refine fn_D F sc__law_names rfl fun rg cdv A outer s H E hr => ?_
  have hu := hr.units
  refine ⟨_, _, (dss_cons (ds_setP (DF.p (df_lst (da_cons d_str (da_cons d_str (da_cons d_str (da_cons d_str (da_cons d_str (da_cons d_str (da_cons d_str (da_cons d_str (da_cons d_str (da_cons d_str (da_cons d_str (da_cons d_str da_nil)))))))))))))) (i := 2) sc__law_names.nd rfl (by first | exact Or.inl rfl | exact Or.inr rfl))
    (dss_one (ds_ret (DP.o (d_slice (DP.o (DF.p (df_callC CM (hr.mono (by omega)) (by rfl) (da_cons (d_var (pv 0)) (da_cons (d_var (pv 2)) da_nil))))) dpo_none (dpo_some (d_var (pv 1)))))))), fun ds Qd h hl => ?_⟩
  obtain ⟨a, g, n, hrg, rfl, hn, hq⟩ := h
  refine ⟨Nat.le_of_ble_eq_true rfl, Nat.le_of_ble_eq_true rfl, rfl, a, g, W.map .str, hrg, rfl, by decide, fun ys hp => ?_⟩
  obtain ⟨vs, rfl, hv⟩ := perm_strs hp
  show Qd (.lst (cutD (vs.map .str) none (some (n : Int))))
  rw [cut_to, ← List.map_take]
  have lv : vs.length = 12 := hv.length_eq
  exact hq _ (by rw [List.length_take]; omega) ((hv.nodup_iff.mpr (by decide +kernel)).sublist (List.take_sublist _ _)) fun x hx => hv.mem_iff.mp (List.mem_of_mem_take hx)

def tfOrder : Tf := fun rg ds Q => ∃ a g, ∃ ws : List Str, ∃ m : Nat, rg = rgD a g ∧ ds = [.raw (.ref a), .lst (ws.map .str), .int (m : Nat)] ∧ 0 < ws.length ∧ ws.length < 64 ∧ 1 ≤ m ∧ m < 64 ∧ ∀ os : List Str, os ≠ [] → os.length ≤ m → (∀ x ∈ os, x ∈ ws) → Q (.lst (os.map .str))
abbrev s__law_order : Stmt := top 39
abbrev N__law_order : List Str := ["_law_deal", "_law_names_here", "_law_most", "_law_place"]
theorem sc__law_order : FnScope N__law_order ["_law_deal", "_law_names_here", "_law_most"] (defScope s__law_order) := ⟨rfl, rfl, rfl, by decide +kernel, rfl, by decide +kernel, by decide +kernel⟩
theorem ok_law_order {f : Addr} {fd : FuncData} (F : Fun K "_law_order" "_law_order" s__law_order f fd) (T : Txt mg) (CD : Cal P w K mg base "_law_draw" 1 2 tfDr) (CP : Cal P w K mg base "_law_pick" 2 2 tfPick) (CM : CalF P w K mg base "_law_mixed" 2 2 tfMixed) : FnOk P w K mg base CX0 (2 + 1) f fd ["_law_deal", "_law_names_here", "_law_most"] (spD K 3 tfOrder) := by
  refine fn_D F sc__law_order rfl fun rg cdv A outer s H E hr => ?_
  have hu := hr.units
  refine ⟨_, _, (dss_cons (ds_if (dt_cmp (op_eqP (by exact hu)) opd_eq (DP.o (d_callC CD (hr.mono (by omega)) (by rfl) (da_cons (d_var (pv 0)) (da_cons d_int da_nil)))) (DP.o d_int) (nomark _)) (dss_one (ds_ret (DP.o (d_slice (DP.o (DF.p (df_callC CM (hr.mono (by omega)) (by rfl) (da_cons (d_var (pv 0)) (da_cons (d_var (pv 1)) da_nil))))) dpo_none (dpo_some (d_var (pv 2))))))) dss_nil)
    (dss_one (ds_ret (DP.o (DF.p (df_lc (own := [("_law_place", 3)]) rfl sc__law_order.nd (blkOk_by (N := N__law_order) (sc := (defScope s__law_order)) (by decide +kernel)) (di_range1 (by rfl) T.range (da_cons (d_op op_addU opd_add (DP.o d_int) (DP.o (d_callC CD (hr.mono (by omega)) (by rfl) (da_cons (d_var (pv 0)) (da_cons (d_var (pv 2)) da_nil))))) da_nil)) (fun _ _ _ _ _ => by exact (dg_name (pg_name (i := 3) sc__law_order.nd rfl (by first | exact Or.inl rfl | exact Or.inr rfl)) (by decide))) (fun _ _ _ _ _ => by exact dts_nil) (fun _ _ _ _ _ => by exact (d_callC CP (hr.mono (by omega)) (by rfl) (da_cons (d_var (pv 0)) (da_cons (d_var (pv 1)) da_nil)))))))))), fun ds Qd h hl => ?_⟩
  obtain ⟨a, g, ws, m, hrg, rfl, l0, l1, m0, m1, hq⟩ := h
  refine ⟨rfl, a, g, 2, hrg, rfl, by decide, by decide, fun z z0 z1 => ?_⟩
  refine ⟨rfl, rfl, Nat.le_trans (Nat.min_le_right _ _) (by decide), ?_⟩
  show (if deq (.int z) (.int 0) = true then _ else _)
  rw [deq_int]
  by_cases hz : (z == 0) = true
  · rw [if_pos hz]
    refine ⟨rfl, a, g, ws.map .str, hrg, rfl, by rw [List.length_map]; exact l1, fun ys hp => ?_⟩
    obtain ⟨vs, rfl, hv⟩ := perm_strs hp
    show Qd (.lst (cutD (vs.map .str) none (some (m : Int))))
    rw [cut_to, ← List.map_take]
    have lv := hv.length_eq
    refine hq _ (fun e => ?_) (by rw [List.length_take]; omega) fun x hx => hv.mem_iff.mp (List.mem_of_mem_take hx)
    have := congrArg List.length e
    rw [List.length_take, List.length_nil] at this
    omega
  · rw [if_neg hz]
    refine ⟨rfl, rfl, a, g, (m : Int), hrg, rfl, by omega, by omega, fun y y0 y1 => ?_⟩
    have lz : (intsD 0 (1 + y).toNat).length = (1 + y).toNat := intsD_length
    refine ⟨by show -(2 ^ 62) ≤ 1 + y; omega, by show 1 + y < 2 ^ 62; omega, ?_⟩
    refine ⟨fun i acc => ∃ os : List Str, acc = os.map .str ∧ os.length = i ∧ ∀ x ∈ os, x ∈ ws, ⟨[], rfl, rfl, by simp⟩, ?_, ?_⟩
    · rintro i x acc hx ⟨os, rfl, ho, hin⟩
      have hlt := (List.getElem?_eq_some_iff.mp hx).1
      rw [lz] at hlt
      refine ⟨rfl, rfl, a, g, ws.map .str, hrg, rfl, by rw [List.length_map]; exact l0, by rw [List.length_map]; omega, fun d hd => ?_⟩
      obtain ⟨x, hx, rfl⟩ := List.mem_map.mp hd
      have hs : (1000 : Nat) < sizeLine := by decide
      refine ⟨by rw [List.length_map]; omega, os ++ [x], by rw [List.map_append]; rfl, by rw [List.length_append, ho]; rfl, fun z hz => ?_⟩
      rcases List.mem_append.mp hz with hz | hz
      · exact hin z hz
      · rw [List.mem_singleton.mp hz]; exact hx
    · rintro acc ⟨os, rfl, ho, hin⟩
      rw [lz] at ho
      refine hq os (fun e => ?_) (by omega) hin
      rw [e] at ho
      simp at ho; omega

def eOs (os : List Str) : D := .lst (os.map .str)
def tfOrders : Tf := fun rg ds Q => ∃ a g, ∃ ws : List Str, ∃ r m : Nat, rg = rgD a g ∧ ds = [.raw (.ref a), .lst (ws.map .str), .int (r : Nat), .int (m : Nat)] ∧ 0 < ws.length ∧ ws.length < 64 ∧ 1 ≤ r ∧ r < 64 ∧ 1 ≤ m ∧ m < 64 ∧
  ∀ oss : List (List Str), oss ≠ [] → oss.length ≤ r → (∀ os ∈ oss, os ≠ [] ∧ os.length ≤ m ∧ ∀ x ∈ os, x ∈ ws) → Q (.lst (oss.map eOs))
abbrev s__law_orders : Stmt := top 40
abbrev N__law_orders : List Str := ["_law_deal", "_law_names_here", "_law_rows", "_law_most", "_law_row"]
theorem sc__law_orders : FnScope N__law_orders ["_law_deal", "_law_names_here", "_law_rows", "_law_most"] (defScope s__law_orders) := ⟨rfl, rfl, rfl, by decide +kernel, rfl, by decide +kernel, by decide +kernel⟩
theorem ok_law_orders {f : Addr} {fd : FuncData} (F : Fun K "_law_orders" "_law_orders" s__law_orders f fd) (T : Txt mg) (CD : Cal P w K mg base "_law_draw" 1 2 tfDr) (CO : Cal P w K mg base "_law_order" 3 3 tfOrder) : FnOk P w K mg base CX0 (3 + 1) f fd ["_law_deal", "_law_names_here", "_law_rows", "_law_most"] (spD K 4 tfOrders) := by
  refine fn_D F sc__law_orders rfl fun rg cdv A outer s H E hr => ?_
  have hu := hr.units
  refine ⟨_, _, (dss_one (ds_ret (DP.o (DF.p (df_lc (own := [("_law_row", 4)]) rfl sc__law_orders.nd (blkOk_by (N := N__law_orders) (sc := (defScope s__law_orders)) (by decide +kernel)) (di_range1 (by rfl) T.range (da_cons (d_op op_addU opd_add (DP.o d_int) (DP.o (d_callC CD (hr.mono (by omega)) (by rfl) (da_cons (d_var (pv 0)) (da_cons (d_var (pv 2)) da_nil))))) da_nil)) (fun _ _ _ _ _ => by exact (dg_name (pg_name (i := 4) sc__law_orders.nd rfl (by first | exact Or.inl rfl | exact Or.inr rfl)) (by decide))) (fun _ _ _ _ _ => by exact dts_nil) (fun _ _ _ _ _ => by exact (d_callC CO (hr.mono (by omega)) (by rfl) (da_cons (d_var (pv 0)) (da_cons (d_var (pv 1)) (da_cons (d_var (pv 3)) da_nil)))))))))), fun ds Qd h hl => ?_⟩
  obtain ⟨a, g, ws, r, m, hrg, rfl, l0, l1, r0, r1, m0, m1, hq⟩ := h
  refine ⟨rfl, rfl, a, g, (r : Int), hrg, rfl, by omega, by omega, fun y y0 y1 => ?_⟩
  have lz : (intsD 0 (1 + y).toNat).length = (1 + y).toNat := intsD_length
  refine ⟨by show -(2 ^ 62) ≤ 1 + y; omega, by show 1 + y < 2 ^ 62; omega, ?_⟩
  refine ⟨fun i acc => ∃ oss : List (List Str), acc = oss.map eOs ∧ oss.length = i ∧ ∀ os ∈ oss, os ≠ [] ∧ os.length ≤ m ∧ ∀ x ∈ os, x ∈ ws, ⟨[], rfl, rfl, by simp⟩, ?_, ?_⟩
  · rintro i x acc hx ⟨oss, rfl, ho, hin⟩
    have hlt := (List.getElem?_eq_some_iff.mp hx).1
    rw [lz] at hlt
    refine ⟨rfl, rfl, a, g, ws, m, hrg, rfl, l0, l1, m0, m1, fun os o1 o2 o3 => ?_⟩
    have hs : (1000 : Nat) < sizeLine := by decide
    refine ⟨by rw [List.length_map]; omega, oss ++ [os], by rw [List.map_append]; rfl, by rw [List.length_append, ho]; rfl, fun z hz => ?_⟩
    rcases List.mem_append.mp hz with hz | hz
    · exact hin z hz
    · rw [List.mem_singleton.mp hz]; exact ⟨o1, o2, o3⟩
  · rintro acc ⟨oss, rfl, ho, hin⟩
    rw [lz] at ho
    refine hq oss (fun e => ?_) (by omega) hin
    rw [e] at ho
    simp at ho; omega
end
end K17

namespace K17
open PySem L2 DL PySem.Spec PyProof.Rows
section
variable {P : Program} {w : World} {K : PySem.W.Frag} {mg : Str → Option Value} {base : Heap}
abbrev s__law_source : Stmt := top 32
abbrev N__law_source : List Str := ["_law_script", "_law_base", "_law_cells", "_law_mixed_here", "_law_cell"]
theorem sc__law_source : FnScope N__law_source ["_law_script", "_law_base"] (defScope s__law_source) := ⟨rfl, rfl, rfl, by decide +kernel, rfl, by decide +kernel, by decide +kernel⟩
theorem cut_ints (ns : List Int) (lo hi : Option Int) : ∃ ms : List Int, DL.cutD (ns.map D.int) lo hi = ms.map D.int ∧ ms.length ≤ ns.length := by
  refine ⟨(ns.drop (HT.sIx (ns.map D.int).length 0 lo)).take (HT.sIx (ns.map D.int).length (ns.map D.int).length hi - HT.sIx (ns.map D.int).length 0 lo), ?_, ?_⟩
  · unfold DL.cutD; rw [List.map_take, List.map_drop]
  · rw [List.length_take, List.length_drop]; omega
theorem ok_law_source {f : Addr} {fd : FuncData} (F : Fun K "_law_source" "_law_source" s__law_source f fd) (T : Txt mg) : FnOk P w K mg base CX0 1 f fd ["_law_script", "_law_base"] (spSrc K "great" "mixed") := by
  refine F.ok (k := 0) sc__law_source (fun vs H Q E h => by obtain ⟨a, ns, b, rfl, _⟩ := h; rfl) (fun cdv A outer s H vs Q E hr h => ?_)
  obtain ⟨a, ns, b, rfl, hS, hl, b0, b1, out⟩ := h
  have hu := hr.units
  have h1 : DS (cxOf CX0 P w K mg base N__law_source "_law_source" (defScope s__law_source) f cdv A outer s H E).nox K Rg.pure ((defBody s__law_source).getD 0 (.Pass ⟨0, 0, 0, 0⟩)) _ _ := (ds_setLc (i := 2) (own := [("_law_cell", 4)]) rfl sc__law_source.nd rfl rfl (sw_true rfl rfl rfl (by decide +kernel)) (blkOk_by (N := N__law_source) (sc := (defScope s__law_source)) (by decide +kernel)) (di_op (DP.o (d_slice (DP.o (d_var (pv 0))) (dpo_some (d_var (pv 1))) (dpo_some d_int)))) (fun _ _ _ _ _ => by exact (dg_name (pg_name (i := 4) sc__law_source.nd rfl (by first | exact Or.inl rfl | exact Or.inr rfl)) (by decide))) (fun _ _ _ _ _ => by exact dts_nil) (fun _ _ _ _ _ => by exact (d_callB call_abs cad_abs (by rfl) T.abs (by decide +kernel) (dao_cons (DP.o (d_callTy call_int1 cad_int (by rfl) T.int (by decide +kernel) (dao_cons (DP.o (d_var (pv 4))) dao_nil))) dao_nil))))
  have h2 : DS (cxOf CX0 P w K mg base N__law_source "_law_source" (defScope s__law_source) f cdv A outer s H E).nox K Rg.pure ((defBody s__law_source).getD 1 (.Pass ⟨0, 0, 0, 0⟩)) _ _ := (ds_setP (d_op op_addU opd_add (DP.o d_int) (DP.o (d_op op_mul opd_int (DP.o d_int) (DP.o (d_var (pv 1)))))) (i := 3) sc__law_source.nd rfl (by first | exact Or.inl rfl | exact Or.inr rfl))
  have h3 : DS (cxOf CX0 P w K mg base N__law_source "_law_source" (defScope s__law_source) f cdv A outer s H E).nox K Rg.pure ((defBody s__law_source).getD 2 (.Pass ⟨0, 0, 0, 0⟩)) _ _ := (ds_for (vs := [4]) PassesOwn.never rfl (di_data (d_var (pv 2))) (dg_name (pg_name (i := 4) sc__law_source.nd rfl (by first | exact Or.inl rfl | exact Or.inr rfl)) (by decide))
    (dss_one (ds_setP (d_op op_mod opd_int (DP.o (d_callTy call_int1 cad_int (by rfl) T.int (by decide +kernel) (dao_cons (DP.o (d_op op_addU opd_add (DP.o (d_op op_addU opd_add (DP.o (d_op op_mul opd_int (DP.o (d_var (pv 3))) (DP.o d_int))) (DP.o (d_op op_mod opd_int (DP.o (d_callTy call_int1 cad_int (by rfl) T.int (by decide +kernel) (dao_cons (DP.o (d_var (pv 4))) dao_nil))) (DP.o d_int))))) (DP.o d_int))) dao_nil))) (DP.o d_int)) (i := 3) sc__law_source.nd rfl (by first | exact Or.inl rfl | exact Or.inr rfl))))
  have h4 : ∃ (e1 e2 : Expr) (t1 t2 : TE) (u : TDs) (x : TD) (pos p1 p2 p3 : Pos) (j1 j2 : Nat), DF (cxOf CX0 P w K mg base N__law_source "_law_source" (defScope s__law_source) f cdv A outer s H E).nox K Rg.pure e1 t1 u ∧ DP (cxOf CX0 P w K mg base N__law_source "_law_source" (defScope s__law_source) f cdv A outer s H E).nox K Rg.pure e2 t2 x ∧ (defBody s__law_source).getD 3 (.Pass ⟨0, 0, 0, 0⟩) = .Return (some (.Dict [some (.Constant (.str "great") j1 p1), some (.Constant (.str "mixed") j2 p2)] [e1, e2] pos)) p3 ∧
      ∀ (cs : List Int) (m : Int) (x0 x1 x4 : Option Sl) (Q : List Int → Int → Prop), FreeS x4 → cs.length < 64 → (∀ cs', cs'.length < 64 → Q cs' m) → sDl u x [x0, x1, some (.dat (.lst (cs.map .int))), some (.dat (.int m)), x4] Q :=
    ⟨_, _, _, _, _, _, _, _, _, _, _, _, (df_rev (DP.o (DF.p (df_lc (own := [("_law_cell", 4)]) rfl sc__law_source.nd (blkOk_by (N := N__law_source) (sc := (defScope s__law_source)) (by decide +kernel)) (di_op (DP.o (d_var (pv 2)))) (fun _ _ _ _ _ => by exact (dg_name (pg_name (i := 4) sc__law_source.nd rfl (by first | exact Or.inl rfl | exact Or.inr rfl)) (by decide))) (fun _ _ _ _ _ => by exact (dts_one (dt_cmp op_ge opd_cmpI (DP.o (d_var (pv 4))) (DP.o (d_op op_pow opd_int (DP.o d_int) (DP.o d_int))) (nomark _)))) (fun _ _ _ _ _ => by exact (d_var (pv 4))))))), (d_var (pv 3)), rfl, fun cs m x0 x1 x4 Q f4 hc hq => by
      refine ⟨by rcases f4 with rfl | ⟨y, rfl⟩ <;> rfl, lc_at (p := fun c : Int => decide ((10 : Int) ^ Int.toNat 18 ≤ c)) (g := D.int) rfl (by omega) (fun c hc Qy Qn hy => ⟨by rcases f4 with rfl | ⟨y, rfl⟩ <;> rfl, by unfold CPow; decide, hy⟩) ⟨_, (List.map_reverse ..).symm, m, rfl, hq _ ?_⟩⟩
      rw [List.length_reverse]
      exact Nat.lt_of_le_of_lt (List.length_filter_le _ _) hc⟩
  obtain ⟨e1, e2, t1, t2, u, x, pos, p1, p2, p3, j1, j2, hg, hm, e4, rd⟩ := h4
  have hps : PSs (cxOf CX0 P w K mg base N__law_source "_law_source" (defScope s__law_source) f cdv A outer s H E).nox (defBody s__law_source) _ := (show (defBody s__law_source) = [_, _, _, (defBody s__law_source).getD 3 (.Pass ⟨0, 0, 0, 0⟩)] from rfl) ▸ (e4 ▸ pss_cons h1.ps (pss_cons h2.ps (pss_cons h3.ps (pss_one (ps_ret (pe_dl (k1 := "great") (k2 := "mixed") hg hm))))))
  refine ⟨_, hps, ?_⟩
  have hd0 : ∃ d0, Rp K (fun _ => False) H (.ref a) d0 ∧ (d0 = .scr ns ∨ d0 = .lst (ns.map .int)) := by
    rcases hS with (hS | ⟨o, hS⟩) | hS
    · exact ⟨_, .lst id hS (RpAll.ints ns), .inr rfl⟩
    · exact ⟨_, .scr id hS, .inl rfl⟩
    · exact ⟨_, .scrK hS, .inl rfl⟩
  obtain ⟨d0, r0, hd0⟩ := hd0
  have S0 := sd_start (K := K) (c := ⟨fun _ => False, none, Rg.pure⟩) (N := N__law_source) ⟨fun _ h => h, Rg.pure_ok, fun _ h => by cases h⟩ rfl (RpAll.cons r0 (.cons (.int b) .nil)) trivial (fun _ h => h.elim)
  -- the cells
  refine h1.rf _ rfl _ H _ _ H { nx := fun env' => ∃ cs : List Int, cs.length < 64 ∧ env' = [some (.dat d0), some (.dat (.int b)), some (.dat (.lst (cs.map .int))), none, none], rt := fun _ => False } _ S0 ?_ ?_ (fun _ _ _ q => q.elim) (fun _ _ _ _ q => q.elim) (fun _ _ _ q => q.elim) (fun _ _ _ q => q.elim)
  · obtain ⟨ms, em, lm⟩ := cut_ints ns (some b) (some 62)
    have hs : (1000000 : Nat) < sizeLine := by decide
    have ft : List.filter (fun _ : Int => true) ms = ms := by simp
    rcases hd0 with rfl | rfl <;>
      exact ⟨rfl, lc_at (p := fun _ : Int => true) (g := fun c : Int => D.int (if c < 0 then -c else c)) em (by omega) (fun c hc Qy Qn hy => ⟨rfl, hy⟩) ⟨Nat.le_of_ble_eq_true rfl, ms.map fun c => if c < 0 then -c else c, by rw [List.length_map]; omega, by rw [List.map_map, ft]; rfl⟩⟩
  · rintro env' σ' H' ⟨cs, lc, rfl⟩ S1
    refine h2.rf _ rfl _ H _ σ' H' { nx := fun env' => ∃ m : Int, 0 ≤ m ∧ m < 2147483647 ∧ env' = [some (.dat d0), some (.dat (.int b)), some (.dat (.lst (cs.map .int))), some (.dat (.int m)), none], rt := fun _ => False } _ S1 ?_ ?_ (fun _ _ _ q => q.elim) (fun _ _ _ _ q => q.elim) (fun _ _ _ q => q.elim) (fun _ _ _ q => q.elim)
    · exact ⟨.inl ⟨by decide, by decide⟩, Nat.le_of_ble_eq_true rfl, _, by omega, by omega, rfl⟩
    · rintro env' σ' H' ⟨m, m0, m1, rfl⟩ S2
      refine h3.rf _ rfl _ H _ σ' H' { nx := fun env' => ∃ (m : Int) (x4 : Option Sl), 0 ≤ m ∧ m < 2147483647 ∧ FreeS x4 ∧ env' = [some (.dat d0), some (.dat (.int b)), some (.dat (.lst (cs.map .int))), some (.dat (.int m)), x4], rt := fun _ => False } _ S2 ?_ ?_ (fun _ _ _ q => q.elim) (fun _ _ _ _ q => q.elim) (fun _ _ _ q => q.elim) (fun _ _ _ q => q.elim)
      · refine for_run (fun _ env' => ∃ (m : Int) (x4 : Option Sl), 0 ≤ m ∧ m < 2147483647 ∧ FreeS x4 ∧ env' = [some (.dat d0), some (.dat (.int b)), some (.dat (.lst (cs.map .int))), some (.dat (.int m)), x4]) ⟨m, none, m0, m1, .inl rfl, rfl⟩ ?_ (fun env' q => q)
        rintro i x env' hx ⟨m, x4, m0, m1, f4, rfl⟩
        refine ⟨by rcases f4 with rfl | ⟨y, rfl⟩ <;> rfl, .inr ⟨by decide, by decide⟩, by decide, by decide, Nat.le_of_ble_eq_true rfl, _, some _, Int.emod_nonneg _ (by decide), Int.emod_lt_of_pos _ (by decide), .inr ⟨_, rfl⟩, rfl⟩
      · rintro env' σ' H' ⟨m, x4, m0, m1, f4, rfl⟩ S3
        refine rf_dl (by decide) hg.rf hm.rf _ rfl _ H _ σ' H' _ _ S3 (rd cs m _ _ x4 (fun cs m' => cs.length < 64 ∧ m' = m) f4 lc fun cs' lc' => ⟨lc', rfl⟩) fun cs' m' p g H'' q hp hg' ne kk hp2 hg2 => ?_
        obtain ⟨lc', rfl⟩ := q
        have k0 : ∀ a o, H a = some o → H'' a = some o := fun a o e => kk a o (S3.kp a o e fun z => z.elim id fun z => by cases z) id
        have back : ∀ a, H' a = none → H a = none := fun a e => by
          cases q : H a with
          | none => rfl
          | some o => rw [S3.kp a o q fun z => z.elim id fun z => by cases z] at e; cases e
        exact out p g cs' m' H'' (back p hp) (back g hg') ne k0 hp2 hg2 lc' m0 m1
end
end K17

/-! Walks over dicts: the dict is locked meanwhile, and what holds dicts is out of sight. -/
namespace DL
open PySem L2 PySem.Spec PyProof.Rows
mutual
/-- no dict within -/
def noD : D → Bool
  | .dct _ _ => false
  | .lst ds => noDs ds
  | .tup ds => noDs ds
  | .obj _ _ ds => noDs ds
  | .non => true
  | .bl _ => true
  | .int _ => true
  | .str _ => true
  | .raw _ => true
  | .scr _ => true
def noDs : List D → Bool
  | [] => true
  | d :: ds => noD d && noDs ds
end
theorem noDs_map {α : Type} {enc : α → D} (h : ∀ x, noD (enc x) = true) : ∀ xs : List α, noDs (xs.map enc) = true
  | [] => rfl
  | x :: xs => by simp [noDs, h x, noDs_map h xs]
/-- a dict, locked or not -/
def IsDk (o : Option HO) : Prop := ∃ kvs, o = some (.dK kvs) ∨ ∃ q, o = some (.frz q (.dK kvs))
section
variable {K : PySem.W.Frag} {M : Addr → Prop} {H : Hp} {p : Addr} {u : HO}
mutual
theorem Rp.atD (hp : IsDk (H p)) : ∀ {v : V} {d : D}, Rp K M H v d → noD d = true → Rp K M (upd H p u) v d
  | _, _, .non, _ => .non
  | _, _, .bl b, _ => .bl b
  | _, _, .int b, _ => .int b
  | _, _, .str b, _ => .str b
  | _, _, .raw b, _ => .raw b
  | _, _, .scrK r, _ => .scrK r
  | _, _, .scr m r, _ => .scr m (by
      rw [upd_ne]
      · exact r
      · rintro rfl
        obtain ⟨kvs, h | ⟨q, h⟩⟩ := hp <;> (rw [r] at h; cases h))
  | _, _, .lst m r a, h => .lst m (by
      rw [upd_ne]
      · exact r
      · rintro rfl
        obtain ⟨kvs, h | ⟨q, h⟩⟩ := hp <;> (rw [r] at h; cases h)) (RpAll.atD hp a (by simpa [noD] using h))
  | _, _, .tup m r a, h => .tup m (by
      rw [upd_ne]
      · exact r
      · rintro rfl
        obtain ⟨kvs, h | ⟨q, h⟩⟩ := hp <;> (rw [r] at h; cases h)) (RpAll.atD hp a (by simpa [noD] using h))
  | _, _, .tupK r a, h => .tupK r (RpAll.atD hp a (by simpa [noD] using h))
  | _, _, .obj m r e a, h => .obj m (by
      rw [upd_ne]
      · exact r
      · rintro rfl
        obtain ⟨kvs, h | ⟨q, h⟩⟩ := hp <;> (rw [r] at h; cases h)) e (RpAll.atD hp a (by simpa [noD] using h))
  | _, _, .dct m r e a, h => by simp [noD] at h
theorem RpAll.atD (hp : IsDk (H p)) : ∀ {vs : List V} {ds : List D}, RpAll K M H vs ds → noDs ds = true → RpAll K M (upd H p u) vs ds
  | _, _, .nil, _ => .nil
  | _, _, .cons a b, h => by
    simp only [noDs, Bool.and_eq_true] at h
    exact .cons (Rp.atD hp a h.1) (RpAll.atD hp b h.2)
end
end
def hideS : Option Sl → Option Sl
  | some (.dat d) => if noD d = true then some (.dat d) else none
  | x => x
def okS : Option Sl → Bool
  | some (.own _ ds) => noDs ds
  | some (.ownD _ _ ds) => noDs ds
  | some (.self _ _ _ ds) => noDs ds
  | _ => true
def hideE (env : En) : En := env.map hideS
def okE (env : En) : Bool := env.all okS
section
variable {K : PySem.W.Frag} {c : Dc} {pn : Pin} {H0 : Hp} {env : En} {σ : L2.St} {H : Hp} {p : Addr} {od : Obj} {ks : List Key} {xs : List V} {ds : List D}
theorem hide_get {i : Nat} {s : Sl} (h : (hideE env)[i]? = some (some s)) : env[i]? = some (some s) ∧ ∀ d, s = .dat d → noD d = true := by
  unfold hideE at h
  rw [List.getElem?_map] at h
  cases e : env[i]? with
  | none => rw [e] at h; cases h
  | some x =>
    rw [e] at h
    have h : hideS x = some s := by simpa using h
    match x, h with
    | some (.dat d), h =>
      have h : (if noD d = true then some (Sl.dat d) else none) = some s := h
      by_cases hd : noD d = true
      · rw [if_pos hd] at h; cases h; exact ⟨rfl, fun d' e' => by cases e'; exact hd⟩
      · rw [if_neg hd] at h; cases h
    | some (.own a ds), h => cases h; exact ⟨rfl, fun d e => by cases e⟩
    | some (.ownD a ks ds), h => cases h; exact ⟨rfl, fun d e => by cases e⟩
    | some (.self a C ns ds), h => cases h; exact ⟨rfl, fun d e => by cases e⟩
theorem mof_hide {b : Addr} : Mof c (hideE env) b ↔ Mof c env b := by
  constructor
  · rintro (h | ⟨i, s, h1, h2⟩)
    · exact .inl h
    · exact .inr ⟨i, s, (hide_get h1).1, h2⟩
  · rintro (h | ⟨i, s, h1, h2⟩)
    · exact .inl h
    · refine .inr ⟨i, s, ?_, h2⟩
      unfold hideE
      rw [List.getElem?_map, h1]
      cases s with
      | dat d => cases h2
      | own a ds => rfl
      | ownD a ks ds => rfl
      | self a C ns ds => rfl
/-- what the lock holds -/
def lockPin (K : PySem.W.Frag) (p : Addr) (od : Obj) (ks : List Key) (xs : List V) (ds : List D) : Pin := fun M G => G p = some (.frz od (.dK (ks.zip xs))) ∧ ¬ M p ∧ RpAll K M G xs ds
theorem lockPin_ok : PinOk (lockPin K p od ks xs ds) := fun M G M' G' ⟨h1, h2, h3⟩ k m => by
  refine ⟨k p _ h1 h2, fun z => h2 (m p _ h1 z), ?_⟩
  have r1 : RpAll K (fun b => M b ∨ M' b) G xs ds := RpAll.anti (fun b o e z => z.elim id (m b o e)) h3
  have r2 : RpAll K (fun b => M b ∨ M' b) G' xs ds := RpAll.keep (k.mono fun b z => .inl z) r1
  exact RpAll.anti (fun _ _ _ z => .inr z) r2
theorem Sd.lockD (S : Sd K c pn H0 env σ H) (ok : okE env = true) (hp : H p = some (.dK (ks.zip xs))) (nM : ¬ Mof c env p) (r : RpAll K (Mof c env) H xs ds) (nd : noDs ds = true) :
    Sd K c (lockPin K p od ks xs ds) (upd H0 p (.frz od (.dK (ks.zip xs)))) (hideE env) σ (upd H p (.frz od (.dK (ks.zip xs)))) := by
  have dk : IsDk (H p) := ⟨_, .inl hp⟩
  have m1 : ∀ b, Mof c (hideE env) b → Mof c env b := fun b z => mof_hide.mp z
  have nlst : ∀ {a : Addr} {o : HO}, H a = some o → (∀ kvs, o ≠ .dK kvs) → a ≠ p := fun e h z => by
    subst z; rw [hp] at e; cases e; exact h _ rfl
  refine ⟨S.ok, by unfold hideE; rw [List.length_map]; exact S.len, fun i s e => ?_, ?_, fun b o e m => ?_, fun a h e => ?_, fun i j s t a e1 e2 e3 e4 => S.apart i j s t a (hide_get e1).1 (hide_get e2).1 e3 e4, lockPin_ok, upd_same, fun z => nM (m1 _ z), ?_⟩
  · obtain ⟨e1, e2⟩ := hide_get e
    obtain ⟨v, h1, h2⟩ := S.sl i s e1
    refine ⟨v, h1, ?_⟩
    have oks : okS (some s) = true := by
      have := List.all_eq_true.mp ok (some s) (List.mem_of_getElem? e1)
      exact this
    cases s with
    | dat d => exact Rp.anti (fun b _ _ z => m1 b z) (Rp.atD dk h2 (e2 d rfl))
    | own b es =>
      obtain ⟨q1, q2, q3, vs, q4, q5⟩ := h2
      have hb : b ≠ p := nlst q4 (fun _ z => by cases z)
      exact ⟨q1, by rw [upd_ne hb]; exact q2, q3, vs, by rw [upd_ne hb]; exact q4, RpAll.anti (fun b _ _ z => m1 b z) (RpAll.atD dk q5 oks)⟩
    | ownD b kz es =>
      obtain ⟨q1, q2, q3, vs, q4, ql, q5⟩ := h2
      have hb : b ≠ p := fun z => nM (by rw [← z]; exact .inr ⟨i, _, e1, rfl⟩)
      exact ⟨q1, by rw [upd_ne hb]; exact q2, q3, vs, by rw [upd_ne hb]; exact q4, ql, RpAll.anti (fun b _ _ z => m1 b z) (RpAll.atD dk q5 oks)⟩
    | self b C ns es =>
      obtain ⟨q1, q2, dx, vs, q4, q5, q6⟩ := h2
      have hb : b ≠ p := nlst q4 (fun _ z => by cases z)
      exact ⟨q1, q2, dx, vs, by rw [upd_ne hb]; exact q4, q5, RpAll.anti (fun b _ _ z => m1 b z) (RpAll.atD dk q6 oks)⟩
  · exact S.ok.rg.stay H _ S.j fun b o e hr => by rw [upd_ne (fun z => nM (by rw [← z]; exact Mof.of_R S.ok hr))]; exact e
  · by_cases hb : b = p
    · subst hb; rw [upd_same] at e ⊢; exact e
    · rw [upd_ne hb] at e ⊢; exact S.kp b o e m
  · by_cases ha : a = p
    · rw [ha, upd_same] at e; cases e
    · rw [upd_ne ha] at e; exact S.dom a h e
  · exact RpAll.anti (fun b _ _ z => m1 b z) (RpAll.atD dk r nd)
end
/-! ### [elt for target in the dict's .. if ..] -/
section
variable {K : PySem.W.Frag} {rg : Rg} {g : TG} {tt : TT} {te : TE} {sg : SG} {st : TB} {t : TD} {vs : List Nat}
/-- a list comprehension's loop, from what is known of its walk -/
theorem lc_walk (hg : RfG K rg g sg vs) (ht : RfT K rg tt st) (he : Rf K rg te t) {c : Dc} (hc : c.rg = rg) {pn : Pin} {H0 : Hp} {env : En} {σ : L2.St} {H : Hp} (S : Sd K c pn H0 env σ H) (hown : ownFree env vs = true) {xs : List D} {J : It} {G : Hp → Prop} {Y : Nat → Hp → V → Hp → Prop} (W : Walk J xs.length G Y)
    (hG : ∀ H2, Keep c.rg.R H H2 → G H2) (hY : ∀ (M : Addr → Prop) (i : Nat) (H2 : Hp) (x : V) (H3 : Hp), i < xs.length → Keep (Mof c env) H H2 → (∀ a o, H a = some o → M a → Mof c env a) → (∀ a, M a → H2 a ≠ none) → Y i H2 x H3 → ∃ d, xs[i]? = some d ∧ Same H2 H3 ∧ Rp K M H3 x d)
    {Qd : List D → Prop} {Q : VK} (q : ∃ I : Nat → List D → Prop, I 0 [] ∧ (∀ i x acc, xs[i]? = some x → I i acc → sg x (wipeE env vs) fun env2 => st env2 fun b => if b = true then t env2 fun y => acc.length < sizeLine ∧ I (i + 1) (acc ++ [y]) else I (i + 1) acc) ∧ ∀ acc, I xs.length acc → Qd acc)
    (k : ∀ ds a ws H', Qd ds → H a = none → Keep c.rg.R H H' → c.rg.J H' → H' a = some (.lst ws) → RpAll K (fun b => Mof c env b ∨ b = a) H' ws ds → Q (.ref a) H') :
    ∀ D, H D = none → ∃ W : Nat → Nat → Hp → Prop, (∃ m, W 0 m (upd H D (.lst []))) ∧ ∀ i m H, W i m H →
      (J.stop i H ∧ Q (.ref D) H) ∨ (J.go i H ∧ ∃ Nx : Hp → Prop, (∀ H', Nx H' → ∃ m', m' < m ∧ W (i + 1) m' H') ∧ ∀ x H', J.yld i H x H' → g x (L2.wipe σ vs) H' fun σ2 H2 => L2.wipe σ2 vs = L2.wipe σ vs ∧ tt σ2 H2 fun b H3 =>
        if b = true then te σ2 H3 fun y H4 => ∃ acc, H4 D = some (.lst acc) ∧ acc.length < sizeLine ∧ Nx (upd H4 D (.lst (acc ++ [y]))) else Nx H3) := by
  intro D' hD
  obtain ⟨I, i0, turn, fin⟩ := q
  have n0 : H0 D' = none := S.h0 hD
  have nR : ¬ c.rg.R D' := fun z => S.domM D' (Mof.of_R S.ok z) hD
  have nP : c.P ≠ some D' := fun z => S.dom D' (S.ok.pm D' z).1 hD
  have S2 : Sd K (c.with D') pn H0 (wipeE env vs) (L2.wipe σ vs) (upd H D' (.lst [])) := (S.inComp hD).wipe vs
  refine lc_it W (fun i H5 => ∃ acc ws, I i acc ∧ H5 D' = some (.lst ws) ∧ RpAll K (fun b => Mof c env b ∨ b = D') H5 ws acc ∧ Keep c.rg.R H H5 ∧ Sd K (c.with D') pn H0 (wipeE env vs) (L2.wipe σ vs) H5)
    ⟨[], [], i0, upd_same, .nil, Keep.upd_new hD, S2⟩ (fun i H5 _ ⟨_, _, _, _, _, k5, _⟩ => hG H5 k5) ?_ ?_
  · rintro i x H5 H6 hlt ⟨acc, ws, hI, hl, ra, k5, S5⟩ y
    have mD : ∀ b, Mof (c.with D') (wipeE env vs) b ↔ Mof c env b ∨ b = D' := fun b => mof_with.trans (by rw [← mof_wipe hown b])
    have k5M : Keep (Mof c env) H H5 := k5.mono fun b z => Mof.of_R S.ok z
    obtain ⟨d, hd, s6, rd⟩ := hY (Mof (c.with D') (wipeE env vs)) i H5 x H6 hlt k5M (fun b u e z => by
      rcases (mD b).mp z with z | rfl
      · exact z
      · rw [hD] at e; cases e) S5.domM y
    have S6 := S5.same s6
    refine hg (c.with D') hc pn H0 _ _ H6 x d _ _ S6 rd (turn i d acc hd hI) fun env2 σ2 q2 S7 m2 w2 => ⟨w2.trans ?_, ?_⟩
    · apply List.ext_getElem?
      intro j
      rw [wipe_get, wipe_get, wipe_length]
      split <;> rfl
    refine ht (c.with D') hc pn H0 env2 σ2 H6 _ _ S7 q2 fun b H8 q8 k8 j8 => ?_
    have S8 := S7.grow k8 j8
    have l8 : ∀ {G6 G8 : Hp}, Keep c.rg.R G6 G8 → ∀ {u}, G6 D' = some u → G8 D' = some u := fun kk u e => kk D' u e nR
    have ra6 : RpAll K (fun b => Mof c env b ∨ b = D') H6 ws acc := RpAll.keep (Keep.of_same s6) ra
    have sub : ∀ a, c.rg.R a → Mof c env a ∨ a = D' := fun a z => .inl (Mof.of_R S.ok z)
    have ra8 : RpAll K (fun b => Mof c env b ∨ b = D') H8 ws acc := RpAll.keep (Keep.mono (show Keep c.rg.R H6 H8 from k8) sub) ra6
    have hl8 : H8 D' = some (.lst ws) := l8 (show Keep c.rg.R H6 H8 from k8) (s6 _ _ hl)
    have k18 : Keep c.rg.R H H8 := (k5.trans (Keep.of_same s6)).trans (show Keep c.rg.R H6 H8 from k8)
    cases b with
    | false =>
      rw [if_neg Bool.false_ne_true] at q8 ⊢
      refine ⟨acc, ws, q8, hl8, ra8, k18, ?_⟩
      have k58 : Keep c.rg.R H5 H8 := (Keep.of_same s6).trans (show Keep c.rg.R H6 H8 from k8)
      exact S5.grow k58 S8.j
    | true =>
      rw [if_pos rfl] at q8 ⊢
      refine he (c.with D') hc pn H0 env2 σ2 H8 _ _ S8 q8 fun y v H9 q9 k9 j9 r9 => ?_
      have k9' : Keep c.rg.R H8 H9 := k9
      have hl9 : H9 D' = some (.lst ws) := l8 k9' hl8
      have ra9 : RpAll K (fun b => Mof c env b ∨ b = D') H9 ws acc := RpAll.keep (k9'.mono sub) ra8
      have r9' : Rp K (fun b => Mof c env b ∨ b = D') H9 v y := Rp.anti (fun b u e z => (m2 b).mp ((mD b).mpr z)) r9
      have kD : Keep (fun b => Mof c env b ∨ b = D') H9 (upd H9 D' (.lst (ws ++ [v]))) := fun b u e m => by rw [upd_ne fun z => m (.inr z)]; exact e
      have k59 : Keep c.rg.R H5 H9 := ((Keep.of_same s6).trans (show Keep c.rg.R H6 H8 from k8)).trans k9'
      have S9 : Sd K (c.with D') pn H0 (wipeE env vs) (L2.wipe σ vs) H9 := S5.grow k59 j9
      refine ⟨ws, hl9, by rw [RpAll.length ra9]; exact q9.1, acc ++ [y], ws ++ [v], q9.2, upd_same, RpAll.append (RpAll.keep kD ra9) (.cons (Rp.keep kD r9') .nil), ?_, S9.updD n0 nR nP⟩
      intro b u e m
      have hb : b ≠ D' := fun z => by rw [z, hD] at e; cases e
      rw [upd_ne hb]
      exact (k18.trans k9') b u e m
  · rintro H5 ⟨acc, ws, hI, hl, ra, k5, S5⟩
    exact k acc D' ws H5 (fin acc hI) hD k5 S5.j hl ra
/-! what a walk over a locked dict gives -/
def kD : Key → D
  | .inl i => .int i
  | .inr x => .str x
theorem rp_key {M : Addr → Prop} {H : Hp} (k : Key) : Rp K M H (kV k) (kD k) := by
  cases k with
  | inl i => exact .int i
  | inr x => exact .str x
inductive DkW where | keys | values | items
def dkD (w : DkW) (ks : List Key) (ds : List D) : List D := match w with
  | .keys => ks.map kD | .values => ds | .items => List.zipWith (fun k d => .tup [kD k, d]) ks ds
def dkI (w : DkW) (td : TE) : TI := match w with | .keys => iKeys td | .values => iVals td | .items => iItems td
def sLcK (w : DkW) (i : Nat) (sg : SG) (st : TB) (t : TD) (vs : List Nat) : TDs := fun env Q => match env[i]? with
  | some (some (.dat (.dct ks ds))) => (noDs ds = true ∧ okE env = true ∧ ownFree (hideE env) vs = true) ∧ ∃ I : Nat → List D → Prop, I 0 [] ∧ (∀ j x acc, (dkD w ks ds)[j]? = some x → I j acc → sg x (wipeE (hideE env) vs) fun env2 => st env2 fun b => if b = true then t env2 fun y => acc.length < sizeLine ∧ I (j + 1) (acc ++ [y]) else I (j + 1) acc) ∧
      ∀ acc, I (dkD w ks ds).length acc → noDs acc = true ∧ Q acc
  | _ => False
theorem dk_length {w : DkW} {ks : List Key} {ds : List D} (h : ks.length = ds.length) : (dkD w ks ds).length = ks.length := by
  cases w <;> simp [dkD, h]
theorem rf_lcK (w : DkW) {i : Nat} (hg : RfG K rg g sg vs) (ht : RfT K rg tt st) (he : Rf K rg te t) : RfF K rg (tLockE (tLc (dkI w (tVar i)) g tt te vs)) (sLcK w i sg st t vs) := fun c hc pn H0 env σ H Qd Q S hq k => by
  unfold sLcK at hq
  split at hq
  · rename_i ks ds hi
    obtain ⟨⟨nd, ok, hown⟩, hq⟩ := hq
    obtain ⟨v, hv, rv⟩ := S.sl i _ hi
    cases rv with
    | dct m e1 le ra =>
    rename_i a xs
    refine ⟨a, .dK (ks.zip xs), e1, trivial, fun od => ?_⟩
    have SL := S.lockD (od := od) ok e1 m ra nd
    generalize hH1 : upd H a (.frz od (.dK (ks.zip xs))) = H1 at SL
    have ha : H1 a = some (.frz od (.dK (ks.zip xs))) := by rw [← hH1]; exact upd_same
    have nR : ¬ c.rg.R a := fun z => m (Mof.of_R S.ok z)
    have lx : xs.length = ds.length := RpAll.length ra
    have lz : (ks.zip xs).length = ks.length := by rw [List.length_zip, le, Nat.min_self]
    have ld : (dkD w ks ds).length = (ks.zip xs).length := by rw [dk_length (by omega), lz]
    have pinR := SL.pn.2.2
    have hG : ∀ H2, Keep c.rg.R H1 H2 → H2 a = some (.frz od (.dK (ks.zip xs))) := fun H2 kk => kk a _ ha nR
    -- the end: the lock is off
    have fin : ∀ acc D' ws H5, (noDs acc = true ∧ Qd acc) → H1 D' = none → Keep c.rg.R H1 H5 → c.rg.J H5 → H5 D' = some (.lst ws) → RpAll K (fun b => Mof c (hideE env) b ∨ b = D') H5 ws acc → H5 a = some (.frz od (.dK (ks.zip xs))) ∧ Q (.ref D') (upd H5 a (.dK (ks.zip xs))) := fun acc D' ws H5 q hD k5 j5 hl r5 => by
      have h5 := hG H5 k5
      have neD : D' ≠ a := fun z => by rw [z, ha] at hD; cases hD
      have hD0 : H D' = none := by rw [← hH1, upd_ne neD] at hD; exact hD
      have kk : Keep c.rg.R H (upd H5 a (.dK (ks.zip xs))) := fun b o e mm => by
        by_cases hb : b = a
        · subst hb; rw [upd_same]; rw [e1] at e; exact e
        · rw [upd_ne hb]; exact k5 b o (by rw [← hH1, upd_ne hb]; exact e) mm
      refine ⟨h5, k acc D' ws _ q.2 hD0 kk (S.ok.rg.stay H5 _ j5 fun b o e hr => by rw [upd_ne (fun z => nR (by rw [← z]; exact hr))]; exact e) (by rw [upd_ne neD]; exact hl) ?_⟩
      exact RpAll.anti (fun b _ _ z => z.elim (fun z => .inl (mof_hide.mpr z)) .inr) (RpAll.atD ⟨_, .inr ⟨_, h5⟩⟩ r5 q.1)
    have lift : ∀ {M : Addr → Prop} {H2 : Hp} {x : V} {d : D}, Rp K (Mof c (hideE env)) H1 x d → Keep (Mof c (hideE env)) H1 H2 → (∀ b o, H1 b = some o → M b → Mof c (hideE env) b) → Rp K M H2 x d := fun r kk hm => by
      have r1 : Rp K (fun b => Mof c (hideE env) b ∨ _) H1 _ _ := Rp.anti (fun b o e z => z.elim id (hm b o e)) r
      exact Rp.anti (fun _ _ _ z => .inr z) (Rp.keep (kk.mono fun b z => .inl z) r1)
    cases w with
    | keys =>
      refine ⟨_, hv, a, od, rfl, .inl ⟨_, ha, ?_⟩⟩
      refine lc_walk (Q := fun v H' => H' a = some (.frz od (.dK (ks.zip xs))) ∧ Q v (upd H' a (.dK (ks.zip xs)))) hg ht he hc SL hown (xs := dkD .keys ks ds) (by rw [ld]; exact walk_keys) hG (fun M j H2 x H3 hlt kk hm _ y => ?_) hq fin
      obtain ⟨rfl, k', v', hx, rfl⟩ := y
      have hk : ks[j]? = some k' := by
        have hx' := List.getElem?_zip_eq_some.mp hx
        exact hx'.1
      exact ⟨kD k', by simp [dkD, hk], Same.refl _, rp_key k'⟩
    | values =>
      refine ⟨_, hv, a, od, _, rfl, ha, ?_⟩
      refine lc_walk (Q := fun v H' => H' a = some (.frz od (.dK (ks.zip xs))) ∧ Q v (upd H' a (.dK (ks.zip xs)))) hg ht he hc SL hown (xs := dkD .values ks ds) (by rw [ld]; exact walk_values) hG (fun M j H2 x H3 hlt kk hm _ y => ?_) hq fin
      obtain ⟨rfl, k', hx⟩ := y
      have hx' := (List.getElem?_zip_eq_some.mp hx).2
      obtain ⟨d, hd, rd⟩ := RpAll.get pinR hx'
      exact ⟨d, hd, Same.refl _, lift rd kk hm⟩
    | items =>
      refine ⟨_, hv, a, od, _, rfl, ha, ?_⟩
      refine lc_walk (Q := fun v H' => H' a = some (.frz od (.dK (ks.zip xs))) ∧ Q v (upd H' a (.dK (ks.zip xs)))) hg ht he hc SL hown (xs := dkD .items ks ds) (by rw [ld]; exact walk_items) hG (fun M j H2 x H3 hlt kk hm dom y => ?_) hq fin
      obtain ⟨T, x1, x2, rfl, hT, rfl, hx1, hx2⟩ := y
      have hx1 : ((ks.zip xs)[j]?).map (fun kv => kV kv.1) = some x1 := hx1
      have hx2 : ((ks.zip xs)[j]?).map Prod.snd = some x2 := hx2
      cases hz : (ks.zip xs)[j]? with
      | none => rw [hz] at hx1; cases hx1
      | some kv =>
        rw [hz] at hx1 hx2
        cases hx1; cases hx2
        obtain ⟨h1, h2⟩ := List.getElem?_zip_eq_some.mp hz
        obtain ⟨d, hd, rd⟩ := RpAll.get pinR h2
        refine ⟨.tup [kD kv.1, d], by simp [dkD, h1, hd, List.getElem?_zipWith], fun b o e => by rw [upd_ne (ne_of_none e hT)]; exact e, .tup (fun z => dom T z hT) upd_same (.cons (rp_key _) (.cons (Rp.keep (Keep.upd_new hT) (lift rd kk hm)) .nil))⟩
  · exact hq.elim
end
end DL

namespace DL
open PySem L2 PySem.Spec PyProof.Rows
/-- what a dict holds at a key -/
def valD (ks : List Key) (ds : List D) (k : Key) : Option D := ((ks.zip ds).find? fun kv => decide (kv.1 = k)).map (·.2)
theorem val_all {K : PySem.W.Frag} {M : Addr → Prop} {H : Hp} {k : Key} : ∀ {ks : List Key} {vs : List V} {ds : List D}, RpAll K M H vs ds → (∀ {y : D}, valD ks ds k = some y → ∃ v, valV (ks.zip vs) k = some v ∧ Rp K M H v y) ∧ (valD ks ds k = none → valV (ks.zip vs) k = none)
  | [], _, _, _ => by simp [valD, valV]
  | _ :: _, _, _, .nil => by simp [valD, valV]
  | q :: ks, v :: vs, d :: ds, .cons a b => by
    have ih := val_all (k := k) (ks := ks) b
    by_cases hq : q = k
    · refine ⟨fun {y} h => ?_, fun h => ?_⟩
      · have h : some d = some y := by simpa [valD, hq] using h
        cases h
        exact ⟨v, by simp [valV, hq], a⟩
      · simp [valD, hq] at h
    · have e1 : valD (q :: ks) (d :: ds) k = valD ks ds k := by simp [valD, hq]
      have e2 : valV ((q :: ks).zip (v :: vs)) k = valV (ks.zip vs) k := by simp [valV, hq]
      rw [e1, e2]
      exact ih
section
variable {X : Cx} {K : PySem.W.Frag} {rg : Rg} {e a b o kx vx : Expr} {es : List Expr} {te ta tb tk tv : TE} {t t1 t2 : TD} {pos apos cpos : Pos} {i : Nat}
/-! d[k] -/
def sDget (t1 t2 : TD) : TD := fun env Q => t1 env fun d => t2 env fun e => match d, e with
  | .dct ks ds, .str x => ∃ y, valD ks ds (.inr x) = some y ∧ Q y | .dct ks ds, .int x => ∃ y, valD ks ds (.inl x) = some y ∧ Q y | _, _ => False
theorem RpO.dct {M0 M : Addr → Prop} {H : Hp} {v : V} {ks : List Key} {ds : List D} : RpO K M0 M H v (.dct ks ds) → ∃ p xs, v = .ref p ∧ ¬ M p ∧ H p = some (.dK (ks.zip xs)) ∧ ks.length = xs.length ∧ RpAll K M H xs ds
  | .inl r => by cases r with | dct m e l a => exact ⟨_, _, rfl, m, e, l, a⟩
  | .inr ⟨a, vs, ds', e1, e2, m, e3, r⟩ => by cases e2
theorem d_dget (hu : X.A.units + 1 < cLine) (h1 : DO X K rg a ta t1) (h2 : DO X K rg b tb t2) (hs : NoSl b := by intro _ _; rfl) : DP X K rg (.Subscript a b pos) (tDGet ta tb) (sDget t1 t2) := by
  cases h1.kx
  exact ⟨rfl, pe_dget hu h1.pe h2.pe hs, fun c hc pn H0 env σ H Qd Q S ht k => by
    refine h1.rf c hc pn H0 env σ H _ _ S ht fun d v H1 q1 k1 j1 r1 => ?_
    subst hc
    have S1 := S.grow k1 j1
    refine h2.rf c rfl pn H0 env σ H1 _ _ S1 q1 fun e w H2 q2 k2 j2 r2 => ?_
    have r1' := RpO.keep k2 S.ok.sub (fun a h => Mof.of_R S.ok h) r1
    split at q2
    · obtain ⟨y, hy, q⟩ := q2
      obtain ⟨p, xs, rfl, m, hp, hl, ra⟩ := r1'.dct
      rw [r2.str]
      obtain ⟨v, hv, rv⟩ := (val_all ra).1 hy
      exact ⟨p, v, rfl, by rw [← hv]; exact DGet.k (k := .inr _) hp, k y v H2 q (k1.trans k2) j2 rv⟩
    · obtain ⟨y, hy, q⟩ := q2
      obtain ⟨p, xs, rfl, m, hp, hl, ra⟩ := r1'.dct
      rw [r2.int]
      obtain ⟨v, hv, rv⟩ := (val_all ra).1 hy
      exact ⟨p, v, rfl, by rw [← hv]; exact DGet.k (k := .inl _) hp, k y v H2 q (k1.trans k2) j2 rv⟩
    · exact q2.elim⟩
/-! len(d) -/
def fLenD : FL := fun ds Q => match ds with | [.dct ks _] => Q (.int ks.length) | _ => False
theorem cad_lenD : CaD K (fun xs H Q => ∃ a kvs, xs = [V.ref a] ∧ H a = some (.dK kvs) ∧ Q (.int kvs.length) H) fLenD := by
  intro M0 M H vs ds Qd Q hM r hf k
  unfold fLenD at hf
  split at hf
  · obtain ⟨v, rfl, r1⟩ := r.one
    obtain ⟨p, xs, rfl, m, hp, hl, ra⟩ := r1.dct
    refine ⟨p, _, rfl, hp, ?_⟩
    rw [List.length_zip, hl, Nat.min_self, ← hl]
    exact k _ _ H hf (Same.refl H) (.int _)
  · exact hf.elim
/-! sorted(d): its keys, texts -/
def fSortD : FL := fun ds Q => match ds with | [.dct ks _] => ∃ ns : List Str, ks = ns.map .inr ∧ ns.length < 64 ∧ ∀ ys : List Str, ys.Perm ns → sortedS ys = true → Q (.lst (ys.map .str)) | _ => False
theorem cad_sortedD : CaD K (fun xs H Q => ∃ (a : Addr) (kvs : List (Key × V)) (ks : List Str), xs = [.ref a] ∧ Rd H a (.dK kvs) ∧ kvs.map (·.1) = ks.map Sum.inr ∧ ks.length < 64 ∧ ∀ ys p, ys.Perm ks → sortedS ys = true → H p = none → Q (.ref p) (upd H p (.lst (ys.map V.str)))) fSortD := by
  intro M0 M H vs ds Qd Q hM r hf k
  unfold fSortD at hf
  split at hf
  · obtain ⟨ns, rfl, few, q⟩ := hf
    obtain ⟨v, rfl, r1⟩ := r.one
    obtain ⟨p, xs, rfl, m, hp, hl, ra⟩ := r1.dct
    refine ⟨p, _, ns, rfl, .inl hp, by rw [zip_fst hl], few, fun ys l hp hs hl => ?_⟩
    exact k _ _ _ (q ys hp hs) (fun b o e => by rw [upd_ne (ne_of_none e hl)]; exact e) (.lst (fun z => hM l z hl) upd_same (RpAll.strs ys))
  · exact hf.elim
/-! dict(a list of pairs) -/
/-- the pairs, their keys all different -/
def pairsD (ns : List Str) (ds : List D) : List D := List.zipWith (fun n d => .tup [.str n, d]) ns ds
def fDictP : FL := fun es Q => match es with | [.lst ps] => ∃ (ns : List Str) (ds : List D), ps = pairsD ns ds ∧ ns.length = ds.length ∧ ns.Nodup ∧ Q (.dct (ns.map .inr) ds) | _ => False
theorem pairs_all {M : Addr → Prop} {H : Hp} : ∀ {ns : List Str} {ds : List D} {vs : List V}, ns.length = ds.length → RpAll K M H vs (pairsD ns ds) → ∃ (as : List Addr) (xs : List V), vs = as.map V.ref ∧ xs.length = ds.length ∧ RpAll K M H xs ds ∧ Paired (fun p kv => SqT K H p [kV kv.1, kv.2]) as ((ns.map Sum.inr).zip xs)
  | [], [], _, _, h => by cases h; exact ⟨[], [], rfl, rfl, .nil, .nil⟩
  | [], _ :: _, _, h, _ => by simp at h
  | _ :: _, [], _, h, _ => by simp at h
  | n :: ns, d :: ds, _, hl, h => by
    cases h with
    | cons r1 r2 =>
    obtain ⟨as, xs, rfl, lx, ra, pr⟩ := pairs_all (show ns.length = ds.length by simpa using hl) r2
    have r1' : RpO K M M H _ (.tup [.str n, d]) := .inl r1
    obtain ⟨p, us, rfl, sq, rb⟩ := r1'.tup
    cases rb with
    | cons s1 s2 =>
    cases s2 with
    | cons s2 s3 =>
    cases s3; cases s1
    exact ⟨p :: as, _ :: xs, rfl, by simp [lx], .cons s2 ra, .cons sq pr⟩
theorem cad_dictP : CaD K (fun xs H Q => ∃ (a : Addr) (ps : List Addr) (kvs : List (Key × V)), xs = [.ref a] ∧ SqL K H a (ps.map V.ref) ∧ Paired (fun p kv => SqT K H p [kV kv.1, kv.2]) ps kvs ∧ ∀ p, H p = none → Q (.ref p) (upd H p (.dK (mergeK [] kvs)))) fDictP := by
  intro M0 M H vs ds Qd Q hM r hf k
  unfold fDictP at hf
  split at hf
  · obtain ⟨ns, ds, rfl, hl, nd, q⟩ := hf
    obtain ⟨v, rfl, r1⟩ := r.one
    obtain ⟨p, us, rfl, hp, ra⟩ := r1.lst
    obtain ⟨as, xs, rfl, lx, rx, pr⟩ := pairs_all hl ra
    have lk : (ns.map (Sum.inr : Str → Key)).length = xs.length := by rw [List.length_map]; omega
    refine ⟨p, as, _, rfl, SqL.of hp, pr, fun l hl' => ?_⟩
    have em : mergeK [] ((ns.map (Sum.inr : Str → Key)).zip xs) = (ns.map Sum.inr).zip xs := by
      rw [merge_new _ _ (by rw [zip_fst lk]; exact List.Pairwise.map _ (fun a b h e => h (Sum.inr.inj e)) nd) (fun k _ => rfl)]; simp
    rw [em]
    exact k _ _ _ q (fun b o e => by rw [upd_ne (ne_of_none e hl')]; exact e) (.dct (fun z => hM l z hl') upd_same lk (RpAll.keep (Keep.upd_new hl') rx))
  · exact hf.elim
end
section
variable {K : PySem.W.Frag} {X : Cx}
theorem cl_lenD (hK : X.K = K := by rfl) : CallR X (.builtin "len") (fun xs H Q => ∃ a kvs, xs = [V.ref a] ∧ H a = some (.dK kvs) ∧ Q (.int kvs.length) H) := by cases hK; exact call_lenD
theorem cl_sortedD (hc : X.calm = true) : CallR X (.builtin "sorted") (fun xs H Q => ∃ (a : Addr) (kvs : List (Key × V)) (ks : List Str), xs = [.ref a] ∧ Rd H a (.dK kvs) ∧ kvs.map (·.1) = ks.map Sum.inr ∧ ks.length < 64 ∧ ∀ ys p, ys.Perm ks → sortedS ys = true → H p = none → Q (.ref p) (upd H p (.lst (ys.map V.str)))) := call_sortedD hc
theorem cl_dictP (hc : X.calm = true) (hK : X.K = K := by rfl) : CallR X (.type "dict") (fun xs H Q => ∃ (a : Addr) (ps : List Addr) (kvs : List (Key × V)), xs = [.ref a] ∧ SqL K H a (ps.map V.ref) ∧ Paired (fun p kv => SqT K H p [kV kv.1, kv.2]) ps kvs ∧ ∀ p, H p = none → Q (.ref p) (upd H p (.dK (mergeK [] kvs)))) := by cases hK; exact call_dictP hc
end
end DL

/-! List comprehensions over dicts, d.items(), d.values(). -/
namespace DL
open PySem L2 PySem.Spec PyProof.Rows
section
variable {X : Cx} {K : PySem.W.Frag} {rg : Rg} {g : TG} {sg : SG} {tt : TT} {st : TB} {te : TE} {t : TD} {elt tg e : Expr} {ifs : List Expr} {scope : Scope} {own : List (Str × Nat)} {pos apos cpos : Pos} {i : Nat}
theorem df_lcKeys (hK : X.K = K) (hc : X.calm = true) (hN : X.N.Nodup) (ok : BlkOk X.N X.env.scope scope own) (hx : PE X e (tVar i))
    (hg : ∀ (s : Shared) (H : Hp) (C : Addr) (cl : List (Str × Addr)) (fp : List Addr), DG (X.blk s H scope (compEnvC scope cl C X.env) fp) K rg tg g sg (own.map (·.2)))
    (ht : ∀ (s : Shared) (H : Hp) (C : Addr) (cl : List (Str × Addr)) (fp : List Addr), DTs (X.blk s H scope (compEnvC scope cl C X.env) fp) K rg ifs tt st)
    (he : ∀ (s : Shared) (H : Hp) (C : Addr) (cl : List (Str × Addr)) (fp : List Addr), DP (X.blk s H scope (compEnvC scope cl C X.env) fp) K rg elt te t) (hs : ∀ x, foldedSetIterable e X.env x = pure x := by intro _; rfl) :
    DF X K rg (.ListComp elt [⟨tg, e, ifs, 0⟩] scope pos) (tLockE (tLc (dkI .keys (tVar i)) g tt te (own.map (·.2)))) (sLcK .keys i sg st t (own.map (·.2))) := by
  cases hK
  exact ⟨rfl, pe_lock (pe_lc hc hN (pi_keys hx) ok (fun s H C cl fp => (hg s H C cl fp).pg) (fun s H C cl fp => (ht s H C cl fp).pt) (fun s H C cl fp => (he s H C cl fp).pe) hs),
    rf_lcK .keys (hg X.s_0 X.H_0 0 [] []).rf (ht X.s_0 X.H_0 0 [] []).rf (he X.s_0 X.H_0 0 [] []).rf⟩
theorem df_lcVals (hK : X.K = K) (hc : X.calm = true) (hN : X.N.Nodup) (ok : BlkOk X.N X.env.scope scope own) (hx : PE X e (tVar i))
    (hg : ∀ (s : Shared) (H : Hp) (C : Addr) (cl : List (Str × Addr)) (fp : List Addr), DG (X.blk s H scope (compEnvC scope cl C X.env) fp) K rg tg g sg (own.map (·.2)))
    (ht : ∀ (s : Shared) (H : Hp) (C : Addr) (cl : List (Str × Addr)) (fp : List Addr), DTs (X.blk s H scope (compEnvC scope cl C X.env) fp) K rg ifs tt st)
    (he : ∀ (s : Shared) (H : Hp) (C : Addr) (cl : List (Str × Addr)) (fp : List Addr), DP (X.blk s H scope (compEnvC scope cl C X.env) fp) K rg elt te t)
    (hbase : attributeBase e "values" X.env (eval e X.env) = eval e X.env := by rfl) (hline : (apos.endLine == cpos.line) = true := by rfl)
    (hs : ∀ x, foldedSetIterable (.Call (.Attribute e "values" apos) [] [] cpos) X.env x = pure x := by intro _; rfl) :
    DF X K rg (.ListComp elt [⟨tg, .Call (.Attribute e "values" apos) [] [] cpos, ifs, 0⟩] scope pos) (tLockE (tLc (dkI .values (tVar i)) g tt te (own.map (·.2)))) (sLcK .values i sg st t (own.map (·.2))) := by
  cases hK
  exact ⟨rfl, pe_lock (pe_lc hc hN (pi_values hx hbase hline) ok (fun s H C cl fp => (hg s H C cl fp).pg) (fun s H C cl fp => (ht s H C cl fp).pt) (fun s H C cl fp => (he s H C cl fp).pe) hs),
    rf_lcK .values (hg X.s_0 X.H_0 0 [] []).rf (ht X.s_0 X.H_0 0 [] []).rf (he X.s_0 X.H_0 0 [] []).rf⟩
theorem df_lcItems {elts : List Expr} {kk : Nat} {tpos : Pos} (hK : X.K = K) (hc : X.calm = true) (hN : X.N.Nodup) (ok : BlkOk X.N X.env.scope scope own) (hx : PE X e (tVar i))
    (hg : ∀ (s : Shared) (H : Hp) (C : Addr) (cl : List (Str × Addr)) (fp : List Addr), DG (X.blk s H scope (compEnvC scope cl C X.env) fp) K rg (.Tuple elts kk tpos) g sg (own.map (·.2)))
    (ht : ∀ (s : Shared) (H : Hp) (C : Addr) (cl : List (Str × Addr)) (fp : List Addr), DTs (X.blk s H scope (compEnvC scope cl C X.env) fp) K rg ifs tt st)
    (he : ∀ (s : Shared) (H : Hp) (C : Addr) (cl : List (Str × Addr)) (fp : List Addr), DP (X.blk s H scope (compEnvC scope cl C X.env) fp) K rg elt te t)
    (hbase : attributeBase e "items" X.env (eval e X.env) = eval e X.env := by rfl) (hline : (apos.endLine == cpos.line) = true := by rfl)
    (hs : ∀ x, foldedSetIterable (.Call (.Attribute e "items" apos) [] [] cpos) X.env x = pure x := by intro _; rfl) :
    DF X K rg (.ListComp elt [⟨.Tuple elts kk tpos, .Call (.Attribute e "items" apos) [] [] cpos, ifs, 0⟩] scope pos) (tLockE (tLc (dkI .items (tVar i)) g tt te (own.map (·.2)))) (sLcK .items i sg st t (own.map (·.2))) := by
  cases hK
  exact ⟨rfl, pe_lock (pe_lc hc hN (pi_items hx hbase hline) ok (fun s H C cl fp => (hg s H C cl fp).pg) (fun s H C cl fp => (ht s H C cl fp).pt) (fun s H C cl fp => (he s H C cl fp).pe) hs),
    rf_lcK .items (hg X.s_0 X.H_0 0 [] []).rf (ht X.s_0 X.H_0 0 [] []).rf (he X.s_0 X.H_0 0 [] []).rf⟩
/-- a walk over an encoded dict: filter and map -/
theorem lcK_at {α : Type} {w : DkW} {ks : List Key} {ds : List D} {xs : List α} {enc : α → D} {p : α → Bool} {gD : α → D} {env : En} {vs : List Nat} {R : List D → Prop} (hi : env[i]? = some (some (.dat (.dct ks ds)))) (nd : noDs ds = true) (ok : okE env = true) (hw : ownFree (hideE env) vs = true)
    (e : dkD w ks ds = xs.map enc) (hz : xs.length ≤ 1000000)
    (step : ∀ x ∈ xs, ∀ (Qy : D → Prop) (Qn : Prop), (if p x = true then Qy (gD x) else Qn) → sg (enc x) (wipeE (hideE env) vs) fun env2 => st env2 fun b => if b = true then t env2 Qy else Qn)
    (fd : ∀ x ∈ xs, noD (gD x) = true) (fin : R ((xs.filter p).map gD)) : sLcK w i sg st t vs env R := by
  unfold sLcK
  rw [hi]
  refine ⟨⟨nd, ok, hw⟩, lc_at e hz step ⟨?_, fin⟩⟩
  have : ∀ ys : List α, (∀ y ∈ ys, y ∈ xs) → noDs (ys.map gD) = true := fun ys => by
    induction ys with
    | nil => intro _; rfl
    | cons y ys ih => intro h; simp [noDs, fd y (h y (by simp)), ih fun z hz => h z (by simp [hz])]
  exact this _ fun y hy => (List.mem_filter.mp hy).1
end
end DL

/-! Dict comprehensions whose keys are texts, all different. -/
namespace DL
open PySem L2 PySem.Spec PyProof.Rows
/-- keys and values of what is made so far -/
abbrev KD := List (Str × D)
def ksOf (acc : KD) : List Key := acc.map fun q => .inr q.1
def dsOf (acc : KD) : List D := acc.map (·.2)
theorem ksOf_snoc (acc : KD) (z : Str) (d : D) : ksOf (acc ++ [(z, d)]) = ksOf acc ++ [.inr z] := by simp [ksOf]
theorem dsOf_snoc (acc : KD) (z : Str) (d : D) : dsOf (acc ++ [(z, d)]) = dsOf acc ++ [d] := by simp [dsOf]
theorem ks_ds (acc : KD) : (ksOf acc).length = (dsOf acc).length := by simp [ksOf, dsOf]
theorem valV_none {k : Key} : ∀ {ks : List Key} {vs : List V}, (∀ q ∈ ks, q ≠ k) → valV (ks.zip vs) k = none
  | [], _, _ => by simp [valV]
  | _ :: _, [], _ => by simp [valV]
  | q :: ks, v :: vs, h => by
    have h1 := h q (by simp)
    have ih := valV_none (k := k) (ks := ks) (vs := vs) fun x hx => h x (by simp [hx])
    simp only [valV, List.zip_cons_cons, List.find?_cons, h1, decide_false] at ih ⊢
    exact ih
/-- {k: v for target in iter if ..} -/
def sDc (ti : TDs) (sg : SG) (st : TB) (tk t : TD) (vs : List Nat) : TD := fun env Q => ownFree env vs = true ∧ ti env fun xs => ∃ I : Nat → KD → Prop, I 0 [] ∧
  (∀ i x acc, xs[i]? = some x → I i acc → sg x (wipeE env vs) fun env2 => st env2 fun b => if b = true then tk env2 fun y => t env2 fun d => ∃ z, y = .str z ∧ (∀ q ∈ acc, q.1 ≠ z) ∧ acc.length < sizeLine ∧ I (i + 1) (acc ++ [(z, d)]) else I (i + 1) acc) ∧
  ∀ acc, I xs.length acc → Q (.dct (ksOf acc) (dsOf acc))
section
variable {X : Cx} {K : PySem.W.Frag} {rg : Rg} {wi : TI} {g : TG} {tt : TT} {te tk : TE} {ti : TDs} {sg : SG} {st : TB} {t sk : TD} {vs : List Nat}
theorem rf_dc (hi : RfI K rg true wi ti) (hg : RfG K rg g sg vs) (ht : RfT K rg tt st) (hk : Rf K rg tk sk) (he : Rf K rg te t) : Rf K rg (tDc wi g tt tk te vs) (sDc ti sg st sk t vs) := fun c hc pn H0 env σ H Qd Q S hq k => by
  obtain ⟨hown, hq⟩ := hq
  refine hi c hc pn H0 env σ H _ _ S hq fun xs J G Y H1 q1 k1 j1 W hG hY => ?_
  intro D' hD
  obtain ⟨I, i0, turn, fin⟩ := q1
  have S1 := S.grow k1 j1
  have nD : H D' = none := none_back S k1 j1 hD
  have n0 : H0 D' = none := S.h0 nD
  have nR : ¬ c.rg.R D' := fun z => S1.domM D' (Mof.of_R S.ok z) hD
  have nP : c.P ≠ some D' := fun z => S1.dom D' (S.ok.pm D' z).1 hD
  have S2 : Sd K (c.with D') pn H0 (wipeE env vs) (L2.wipe σ vs) (upd H1 D' (.dK [])) := (S1.inComp hD).wipe vs
  refine walk_any (B := fun Nx x H' => g x (L2.wipe σ vs) H' fun σ2 H2 => L2.wipe σ2 vs = L2.wipe σ vs ∧ tt σ2 H2 fun b H3 =>
    if b = true then tk σ2 H3 fun y H4 => te σ2 H4 fun z H5 => ∃ kvs k, y = kV k ∧ H5 D' = some (.dK kvs) ∧ kvs.length < sizeLine ∧ Nx (upd H5 D' (.dK (putK kvs k z))) else Nx H3) W
    (fun i H5 => ∃ acc ws, I i acc ∧ H5 D' = some (.dK ((ksOf acc).zip ws)) ∧ RpAll K (fun b => Mof c env b ∨ b = D') H5 ws (dsOf acc) ∧ Keep c.rg.R H1 H5 ∧ Sd K (c.with D') pn H0 (wipeE env vs) (L2.wipe σ vs) H5)
    ⟨[], [], i0, upd_same, .nil, Keep.upd_new hD, S2⟩ (fun i H5 _ ⟨_, _, _, _, _, k5, _⟩ => hG H5 (k5.mono S.ok.sub)) ?_ ?_
  · rintro i x H5 H6 hlt ⟨acc, ws, hI, hl, ra, k5, S5⟩ y
    have mD : ∀ b, Mof (c.with D') (wipeE env vs) b ↔ Mof c env b ∨ b = D' := fun b => mof_with.trans (by rw [← mof_wipe hown b])
    have k5M : Keep (Mof c env) H1 H5 := k5.mono fun b z => Mof.of_R S.ok z
    obtain ⟨d, hd, s6, rd⟩ := hY (Mof (c.with D') (wipeE env vs)) i H5 x H6 hlt (k5.mono S.ok.sub) k5M (fun b u e z => by
      rcases (mD b).mp z with z | rfl
      · exact z
      · rw [hD] at e; cases e) S5.domM y
    have S6 := S5.same s6
    refine hg (c.with D') hc pn H0 _ _ H6 x d _ _ S6 rd (turn i d acc hd hI) fun env2 σ2 q2 S7 m2 w2 => ⟨w2.trans ?_, ?_⟩
    · apply List.ext_getElem?
      intro j
      rw [wipe_get, wipe_get, wipe_length]
      split <;> rfl
    refine ht (c.with D') hc pn H0 env2 σ2 H6 _ _ S7 q2 fun b H8 q8 k8 j8 => ?_
    have k8' : Keep c.rg.R H6 H8 := k8
    have S8 := S7.grow k8 j8
    have sub : ∀ a, c.rg.R a → Mof c env a ∨ a = D' := fun a z => .inl (Mof.of_R S.ok z)
    have k58 : Keep c.rg.R H5 H8 := (Keep.of_same s6).trans k8'
    have ra8 : RpAll K (fun b => Mof c env b ∨ b = D') H8 ws (dsOf acc) := RpAll.keep (k58.mono sub) ra
    have hl8 : H8 D' = some (.dK ((ksOf acc).zip ws)) := k58 D' _ hl nR
    cases b with
    | false =>
      rw [if_neg Bool.false_ne_true] at q8 ⊢
      exact ⟨acc, ws, q8, hl8, ra8, k5.trans k58, S5.grow k58 S8.j⟩
    | true =>
      rw [if_pos rfl] at q8 ⊢
      refine hk (c.with D') hc pn H0 env2 σ2 H8 _ _ S8 q8 fun y v H9 q9 k9 j9 r9 => ?_
      have k9' : Keep c.rg.R H8 H9 := k9
      have S9' := S8.grow k9 j9
      refine he (c.with D') hc pn H0 env2 σ2 H9 _ _ S9' q9 fun d v2 H10 q10 k10 j10 r10 => ?_
      obtain ⟨z, rfl, new, room, q10⟩ := q10
      have k10' : Keep c.rg.R H9 H10 := k10
      have k810 := k9'.trans k10'
      have hl10 : H10 D' = some (.dK ((ksOf acc).zip ws)) := k810 D' _ hl8 nR
      have ra10 : RpAll K (fun b => Mof c env b ∨ b = D') H10 ws (dsOf acc) := RpAll.keep (k810.mono sub) ra8
      have r10' : Rp K (fun b => Mof c env b ∨ b = D') H10 v2 d := Rp.anti (fun b u e z => (m2 b).mp ((mD b).mpr z)) r10
      cases r9
      have lw : ws.length = acc.length := by rw [RpAll.length ra10]; simp [dsOf]
      have lk : (ksOf acc).length = ws.length := by rw [lw]; simp [ksOf]
      have hv : valV ((ksOf acc).zip ws) (.inr z) = none := valV_none fun q hq e => by
        obtain ⟨p, hp, rfl⟩ := List.mem_map.mp hq
        exact new p hp (Sum.inr.inj e)
      have kD : Keep (fun b => Mof c env b ∨ b = D') H10 (upd H10 D' (.dK (putK ((ksOf acc).zip ws) (.inr z) v2))) := fun b u e m => by rw [upd_ne fun z => m (.inr z)]; exact e
      have k510 : Keep c.rg.R H5 H10 := k58.trans k810
      have S10 : Sd K (c.with D') pn H0 (wipeE env vs) (L2.wipe σ vs) H10 := S5.grow k510 j10
      refine ⟨_, .inr z, rfl, hl10, by rw [List.length_zip]; omega, acc ++ [(z, d)], ws ++ [v2], q10, ?_, ?_, ?_, S10.updD n0 nR nP⟩
      · rw [upd_same, putK_new v2 hv, ksOf_snoc, List.zip_append lk]; rfl
      · rw [dsOf_snoc]; exact RpAll.append (RpAll.keep kD ra10) (.cons (Rp.keep kD r10') .nil)
      · intro b u e m
        have hb : b ≠ D' := fun z => by rw [z, hD] at e; cases e
        rw [upd_ne hb]
        exact (k5.trans k510) b u e m
  · rintro H5 ⟨acc, ws, hI, hl, ra, k5, S5⟩
    exact k _ (.ref D') H5 (fin acc hI) (k1.trans k5) S5.j (.dct (fun z => S.domM D' z nD) hl (by rw [RpAll.length ra]; exact ks_ds acc) (RpAll.anti (fun _ _ _ z => .inl z) ra))
theorem d_dc {kx vx tg iter : Expr} {ifs : List Expr} {scope : Scope} {own : List (Str × Nat)} {pos : Pos} (hc : X.calm = true) (hN : X.N.Nodup) (ok : BlkOk X.N X.env.scope scope own) (hi : DI X K rg true tg iter wi ti)
    (hg : ∀ (s : Shared) (H : Hp) (C : Addr) (cl : List (Str × Addr)) (fp : List Addr), DG (X.blk s H scope (compEnvC scope cl C X.env) fp) K rg tg g sg (own.map (·.2)))
    (ht : ∀ (s : Shared) (H : Hp) (C : Addr) (cl : List (Str × Addr)) (fp : List Addr), DTs (X.blk s H scope (compEnvC scope cl C X.env) fp) K rg ifs tt st)
    (hk : ∀ (s : Shared) (H : Hp) (C : Addr) (cl : List (Str × Addr)) (fp : List Addr), DP (X.blk s H scope (compEnvC scope cl C X.env) fp) K rg kx tk sk)
    (he : ∀ (s : Shared) (H : Hp) (C : Addr) (cl : List (Str × Addr)) (fp : List Addr), DP (X.blk s H scope (compEnvC scope cl C X.env) fp) K rg vx te t) (hs : ∀ x, foldedSetIterable iter X.env x = pure x := by intro _; rfl) :
    DP X K rg (.DictComp kx vx [⟨tg, iter, ifs, 0⟩] scope pos) (tDc wi g tt tk te (own.map (·.2))) (sDc ti sg st sk t (own.map (·.2))) := by
  cases hi.kx
  exact ⟨rfl, pe_dc hc hN hi.pi ok (fun s H C cl fp => (hg s H C cl fp).pg) (fun s H C cl fp => (ht s H C cl fp).pt) (fun s H C cl fp => (hk s H C cl fp).pe) (fun s H C cl fp => (he s H C cl fp).pe) hs,
   rf_dc hi.rf (hg X.s_0 X.H_0 0 [] []).rf (ht X.s_0 X.H_0 0 [] []).rf (hk X.s_0 X.H_0 0 [] []).rf (he X.s_0 X.H_0 0 [] []).rf⟩
end
/-- a dict comprehension over different texts -/
theorem dc_at {α : Type} {zs : List D} {xs : List α} {enc : α → D} {nm : α → Str} {gD : α → D} {ew : En} {sg : SG} {st : TB} {sk t : TD} {R : D → Prop} (e : zs = xs.map enc) (hz : xs.length ≤ 1000000) (nd : (xs.map nm).Nodup)
    (step : ∀ x ∈ xs, ∀ (Qy : D → D → Prop) (Qn : Prop), Qy (.str (nm x)) (gD x) → sg (enc x) ew fun env2 => st env2 fun b => if b = true then sk env2 fun y => t env2 fun d => Qy y d else Qn)
    (fin : R (.dct (xs.map fun x => .inr (nm x)) (xs.map gD))) :
    ∃ I : Nat → KD → Prop, I 0 [] ∧
      (∀ i x acc, zs[i]? = some x → I i acc → sg x ew fun env2 => st env2 fun b => if b = true then sk env2 fun y => t env2 fun d => ∃ z, y = .str z ∧ (∀ q ∈ acc, q.1 ≠ z) ∧ acc.length < sizeLine ∧ I (i + 1) (acc ++ [(z, d)]) else I (i + 1) acc) ∧
      ∀ acc, I zs.length acc → R (.dct (ksOf acc) (dsOf acc)) := by
  subst e
  refine ⟨fun i acc => acc = (xs.take i).map fun x => (nm x, gD x), by simp, fun i x acc hx hacc => ?_, fun acc h => ?_⟩
  · rw [List.getElem?_map] at hx
    cases hi : xs[i]? with
    | none => rw [hi] at hx; cases hx
    | some y =>
      rw [hi] at hx
      cases hx
      obtain ⟨hlt, e⟩ := List.getElem?_eq_some_iff.mp hi
      have et : xs.take (i + 1) = xs.take i ++ [y] := by rw [List.take_succ, hi]; rfl
      refine step y (e ▸ List.getElem_mem hlt) _ _ ⟨nm y, rfl, fun q hq => ?_, ?_, ?_⟩
      · subst hacc
        obtain ⟨x, hx, rfl⟩ := List.mem_map.mp hq
        intro ez
        have nd2 : ((xs.take (i + 1)).map nm).Nodup := by rw [List.map_take]; exact nd.sublist (List.take_sublist _ _)
        rw [et, List.map_append, List.nodup_append] at nd2
        exact nd2.2.2 (nm x) (List.mem_map.mpr ⟨x, hx, rfl⟩) (nm y) (by simp) ez
      · subst hacc
        have hs : (1000000 : Nat) < sizeLine := by decide
        rw [List.length_map, List.length_take]
        omega
      · show _ = _
        rw [et, hacc]; simp
  · rw [List.length_map, List.take_length] at h
    subst h
    simpa [ksOf, dsOf, Function.comp_def] using fin
end DL

set_option maxHeartbeats 1000000
/-! zip of a tuple with a list and the other way round, into one name or several. -/
namespace ZL
open PySem L2 PySem.Spec PyProof.Rows
def itName (k : Bool) : String := if k = true then "tuple_iterator" else "list_iterator"
abbrev itObj (k : Bool) (l : Addr) : Obj := { cls := .type (itName k), data := .fields #[.ref l, .int 0 0] }
theorem itAt_new {k : Bool} {h : Heap} {it l : Addr} (e : h.get? it = some (itObj k l)) : itAt k h it l 0 := by
  cases k with
  | true => exact ⟨_, e, rfl, rfl⟩
  | false => exact ⟨_, e, rfl, rfl⟩
theorem sqAt.push {k : Bool} {h : Heap} {a : Addr} {xs : Array Value} (p : sqAt k h a xs) (o : Obj) : sqAt k (h.push o) a xs := by
  cases k with
  | true => exact Heap.IsTuple.push p _
  | false => exact Heap.IsList.push p _
section
variable {prog : Program} {w : World} {A : Around} {E : Value → Shared → Prop} {s : Shared}
theorem iter_sq {k : Bool} {l : Addr} {xs : Array Value} {Q : Value → Shared → Prop} (p : sqAt k s.heap l xs) (h : Q (.ref s.heap.objs.size) { s with heap := s.heap.push (itObj k l) }) : wpAny (model prog w) A (pyIter (.ref l)) Q E s := by
  cases k with
  | true => exact wpAny_pyIter_tuple p h
  | false => exact wpAny_pyIter_list p h
end
abbrev zU1 (k1 : Bool) (h : Heap) (l1 : Addr) : Heap := h.push (itObj k1 l1)
abbrev zU2 (k1 k2 : Bool) (h : Heap) (l1 l2 : Addr) : Heap := (zU1 k1 h l1).push (itObj k2 l2)
abbrev zU3 (k1 k2 : Bool) (h : Heap) (l1 l2 : Addr) : Heap := (zU2 k1 k2 h l1 l2).push { cls := .type "tuple", data := .seq #[.ref h.objs.size, .ref (zU1 k1 h l1).objs.size] }
abbrev zU4 (k1 k2 : Bool) (h : Heap) (l1 l2 : Addr) : Heap := (zU3 k1 k2 h l1 l2).push { cls := .type "tuple", data := .seq #[.none, .none] }
abbrev zU5 (k1 k2 : Bool) (h : Heap) (l1 l2 : Addr) : Heap := (zU4 k1 k2 h l1 l2).push { cls := .type "zip", data := .fields #[.none, .bool false, .bool false, .ref (zU2 k1 k2 h l1 l2).objs.size, .ref (zU3 k1 k2 h l1 l2).objs.size] }
theorem new_U (k1 k2 : Bool) (l1 l2 : Addr) (xs ys : Array Value) :
    Meets (Builtin.«zip.__new__» ⟨[.type "zip", .ref l1, .ref l2], []⟩) (fun _ R s => sqAt k1 s.heap l1 xs ∧ sqAt k2 s.heap l2 ys ∧
      R (.ok (.ret (.ref (zU4 k1 k2 s.heap l1 l2).objs.size))) { s with heap := zU5 k1 k2 s.heap l1 l2 }) :=
  .of_wp fun prog w A R s h => by
    obtain ⟨hp, g, d, tk, os⟩ := s; obtain ⟨hl1, hl2, h⟩ := h
    have hsub := sub_zip
    have hL1 : sqAt k1 (Shared.heap ⟨hp, g, d, tk, os⟩) l1 xs := hl1
    have hL2 : sqAt k2 (Shared.heap ⟨hp.push (itObj k1 l1), g, d, tk, os⟩) l2 ys := hl2.push _
    wp_walk using iter_sq hL1, iter_sq hL2
    exact ⟨_, rfl, h⟩
theorem call_zipU {prog : Program} {w : World} {A : Around} {E : Value → Shared → Prop} {s : Shared} {k1 k2 : Bool} {l1 l2 : Addr} {xs ys : Array Value} {Q : Value → Shared → Prop} (p1 : sqAt k1 s.heap l1 xs) (p2 : sqAt k2 s.heap l2 ys)
    (h : ∀ h', ZAt h' (s.heap.objs.size + 4) (s.heap.objs.size + 2) (s.heap.objs.size + 3) .none false → IsTupOf2 h' (s.heap.objs.size + 2) (.ref s.heap.objs.size) (.ref (s.heap.objs.size + 1)) →
      IsTupOf2 h' (s.heap.objs.size + 3) .none .none → itAt k1 h' s.heap.objs.size l1 0 → itAt k2 h' (s.heap.objs.size + 1) l2 0 → h'.objs.size = s.heap.objs.size + 5 →
      (∀ b u, s.heap.get? b = some u → h'.get? b = some u) → Q (.ref (s.heap.objs.size + 4)) { s with heap := h' }) :
    wpAny (model prog w) A (call (.type "zip") [.ref l1, .ref l2]) Q E s := by
  refine callType_new F.called_zip (by decide) (F.typeCall_zip_2 _ _) (F.newCall_zip_2 _ _)
    (fun obj => F.args_object_init_3 obj _ _) F.entry_zip_new (new_U k1 k2 l1 l2 xs ys) ⟨p1, p2, ?_⟩
  have z1 : (zU1 k1 s.heap l1).objs.size = s.heap.objs.size + 1 := Heap.size_push ..
  have z2 : (zU2 k1 k2 s.heap l1 l2).objs.size = s.heap.objs.size + 2 := by rw [Heap.size_push, z1]
  have z3 : (zU3 k1 k2 s.heap l1 l2).objs.size = s.heap.objs.size + 3 := by rw [Heap.size_push, z2]
  have z4 : (zU4 k1 k2 s.heap l1 l2).objs.size = s.heap.objs.size + 4 := by rw [Heap.size_push, z3]
  have z5 : (zU5 k1 k2 s.heap l1 l2).objs.size = s.heap.objs.size + 5 := by rw [Heap.size_push, z4]
  have up : ∀ (h : Heap) (o : Obj) (c : Addr) (u : Obj), h.get? c = some u → (h.push o).get? c = some u := fun h o c u e => Heap.get?_push_of_some _ e
  have g5 : (zU5 k1 k2 s.heap l1 l2).get? (zU4 k1 k2 s.heap l1 l2).objs.size = some _ := Heap.get?_push_size _ rfl
  have g4 : (zU5 k1 k2 s.heap l1 l2).get? (zU3 k1 k2 s.heap l1 l2).objs.size = some _ := up _ _ _ _ (Heap.get?_push_size _ rfl)
  have g3 : (zU5 k1 k2 s.heap l1 l2).get? (zU2 k1 k2 s.heap l1 l2).objs.size = some _ := up _ _ _ _ (up _ _ _ _ (Heap.get?_push_size _ rfl))
  have g2 : (zU5 k1 k2 s.heap l1 l2).get? (zU1 k1 s.heap l1).objs.size = some (itObj k2 l2) := up _ _ _ _ (up _ _ _ _ (up _ _ _ _ (Heap.get?_push_size _ (by cases k2 <;> rfl))))
  have g1 : (zU5 k1 k2 s.heap l1 l2).get? s.heap.objs.size = some (itObj k1 l1) := up _ _ _ _ (up _ _ _ _ (up _ _ _ _ (up _ _ _ _ (Heap.get?_push_size _ (by cases k1 <;> rfl)))))
  show _ ∧ _
  rw [z2, z3, z4] at g5
  rw [z1, z2] at g3
  rw [z3] at g4
  rw [z1] at g2
  rw [z4]
  exact ⟨⟨_, g5, rfl⟩, h _ g5 g3 g4 (itAt_new g1) (itAt_new g2) z5 fun c o x => up _ _ _ _ (up _ _ _ _ (up _ _ _ _ (up _ _ _ _ (up _ _ _ _ x))))⟩
theorem made_U {X : Cx} {pins : List (Addr × Obj)} {σ : L2.St} {H : Hp} {s : Shared} {E : Value → Shared → Prop} {ka kb : Bool} {a b : Addr} {xs ys : List V} {Q : Value → Shared → Prop} (I : Inv X pins σ H s) (h1 : SqK ka X.K H a xs) (h2 : SqK kb X.K H b ys)
    (hQ : ∀ z TI TO i1 i2 h', Inv X pins σ H { s with heap := h' } → Apart z TI TO i1 i2 a b → tnN ka kb z TI TO i1 i2 a b 0 h' → (∀ c ∈ [z, TI, TO, i1, i2], FpOk X pins H c ∧ c < h'.objs.size) → Q (.ref z) { s with heap := h' }) :
    wpAny (model X.prog X.w) X.A (call (.type "zip") [.ref a, .ref b]) Q E s := by
  obtain ⟨its, rv, p, lt1⟩ := sq_of I h1
  obtain ⟨its2, rv2, p2, lt2⟩ := sq_of I h2
  have fok : ∀ c, c ∈ [s.heap.objs.size + 4, s.heap.objs.size + 2, s.heap.objs.size + 3, s.heap.objs.size, s.heap.objs.size + 1] → FpOk X pins H c ∧ c < s.heap.objs.size + 5 := fun c hcm => by
    have hle : s.heap.objs.size ≤ c ∧ c < s.heap.objs.size + 5 := by
      simp only [List.mem_cons, List.not_mem_nil, or_false] at hcm
      rcases hcm with q | q | q | q | q <;> subst q <;> constructor <;> first | exact Nat.le_add_right _ _ | exact Nat.le_refl _ | exact Nat.add_lt_add_left (by decide) _ | exact Nat.lt_add_of_pos_right (by decide)
    exact ⟨I.fpOk hle.1 (I.hok.fresh hle.1), hle.2⟩
  have D := apart_of s.heap.objs.size a b lt1 lt2
  refine call_zipU p p2 fun h' hz hTI hTO j1 j2 sz kp => ?_
  exact hQ _ _ _ _ _ h' (I.kept (t' := s.toks) kp) D ⟨⟨_, _, hz, .inl rfl⟩, hTI, ⟨_, _, hTO⟩, j1, j2⟩ fun c hcm => by rw [sz]; exact fok c hcm
/-- the pair is let go, where it is the zip's own -/
theorem let_go {prog : Program} {w : World} {A : Around} {E : Value → Shared → Prop} {s : Shared} {elts : List Expr} {kk : Nat} {pos : Pos} {z TI TO T : Addr} {f0 : Value} {k : Bool} {Q : Unit → Shared → Prop} (hz : ZAt s.heap z TI TO f0 k) (h1 : Q () s)
    (h2 : ∀ h', ZAt h' z TI TO .none k → Heap.SameBut z s.heap h' → Q () { s with heap := h' }) : wpAny (model prog w) A (letOwnedTupleGo (.Tuple elts kk pos) (.ref z) (.ref T)) Q E s := by
  unfold letOwnedTupleGo
  refine wpAny_bind (wpAny_load hz ?_)
  show wpAny _ _ (if ((_ : Bool) && (#[f0, .bool k, .bool false, .ref TI, .ref TO] : Array Value)[0]? == some (rawInt T)) = true then _ else _) Q E s
  split
  · refine wpAny_bind (wpAny_rule ?_)
    show wpAny _ _ (setField (.ref z) 0 .none) Q E s
    exact wpAny_setField_rec hz (by simp) fun h' hz' hs' => h2 h' hz' hs'
  · exact wpAny_pure h1
theorem turn_zipU {P : Program} {w : World} {K : PySem.W.Frag} {elts : List Expr} {kk : Nat} {tpos : Pos} {ka kb : Bool} {a b z TI TO i1 i2 : Addr} (D : Apart z TI TO i1 i2 a b) : Turn P w K (.Tuple elts kk tpos) (ItN K ka kb a b) [z, TI, TO, i1, i2] z (tnN ka kb z TI TO i1 i2 a b) where
  mem := by simp
  obj := (turn_zipN (P := P) (w := w) (K := K) (nm := "x") (npos := tpos) D).obj
  keep := (turn_zipN (P := P) (w := w) (K := K) (nm := "x") (npos := tpos) D).keep
  item := by
    intro X hP hw hK hc i pins s σ H E I hf st hg
    subst hP hw hK
    refine turn_item (I.ok.hd hc) D I hf st hg fun u s' x H' eu ex I' y' st' n' => ?_
    subst eu
    refine ⟨_, rfl, ?_⟩
    have hf' : ∀ c ∈ [z, TI, TO, i1, i2], FpOk X pins H' c := fun c hcm => ⟨n' c hcm, (hf c hcm).2⟩
    obtain ⟨⟨f0, k, hz, ho⟩, hTI, ⟨x0, y0, hTO⟩, h1, h2⟩ := id st'
    refine let_go hz ⟨x, H', I', by rw [ex]; rfl, y', st', n'⟩ fun h'' z'' sb => ⟨x, H', I'.turnedL (t' := s'.toks) (ch := [z, TI, TO, i1, i2]) (fun c o hb q => (sb.2 c (fun q' => hb (by simp [q']))).trans q) hf', by rw [ex]; rfl, y', ⟨⟨_, k, z'', .inl rfl⟩, ?_, ⟨x0, y0, ?_⟩, ?_, ?_⟩, n'⟩
    · exact (sb.2 _ D.p.TIz).trans hTI
    · exact (sb.2 _ D.p.TOz).trans hTO
    · exact h1.keep fun o q => (sb.2 _ (fun e => D.p.zf1 (by simp [e]))).trans q
    · exact h2.keep fun o q => (sb.2 _ (fun e => D.p.zf2 (by simp [e]))).trans q
  done := (turn_zipN (P := P) (w := w) (K := K) (nm := "x") (npos := tpos) D).done
  self := (turn_zipN (P := P) (w := w) (K := K) (nm := "x") (npos := tpos) D).self
/-- zip(a, b), each a list or a tuple -/
def iZipU (K : PySem.W.Frag) (ta : TA) : TI := fun σ H R => ta σ H fun vs H1 => ∃ (ka kb : Bool) (a b : Addr) (xs ys : List V), vs = [.ref a, .ref b] ∧ SqK ka K H1 a xs ∧ SqK kb K H1 b ys ∧ R (ItN K ka kb a b) H1
theorem pi_zipU {X : Cx} {e e2 : Expr} {ta : TA} {p pos tpos : Pos} {elts : List Expr} {kk : Nat} (hg : Gl X "zip") (hm : X.mg "zip" = none) (ha : PA X [e, e2] ta)
    (hs : starEach [e, e2] X.env = (false, eval e X.env) :: starEach [e2] X.env := by rfl) (hpl : (backTo pos (starEach [e2] X.env)).any (·.1) = false := by rfl) : PI X (.Tuple elts kk tpos) (.Call (.Name "zip" p) [e, e2] [] pos) (iZipU X.K ta) := by
  refine ⟨fun pins s σ H R I h => Call_ (ld_blt I hg hm PyProof.Rows.boot_zip (PyProof.Rows.callWith_type1 (thn (ha.run pos pins s σ H _ I h) fun us s1 ⟨vs, H1, I1, r1, q1⟩ => ?_) hs hpl))⟩
  obtain ⟨ka, kb, a, b, xs, ys, rfl, h1, h2, q⟩ := q1
  obtain ⟨u, u', rfl, ru, ru'⟩ := vals2 r1
  cases ru
  cases ru'
  refine made_U I1 h1 h2 fun z TI TO i1 i2 h' I2 D st fp => ?_
  have T := turn_zipU (P := X.prog) (w := X.w) (K := X.K) (elts := elts) (kk := kk) (tpos := tpos) (ka := ka) (kb := kb) D
  exact T.self X.A 0 _ _ _ st ⟨z, _, _, _, H1, rfl, I2, T, st, fun c hcm => (fp c hcm).1, q⟩
end ZL
namespace DL
open PySem L2 PySem.Spec PyProof.Rows ZL
/-- lists or tuples -/
def zipM (ds : List D) (Q : List D → List D → Prop) : Prop := match ds with
  | [.lst xs, .lst ys] => Q xs ys
  | [.tup xs, .tup ys] => Q xs ys
  | [.tup xs, .lst ys] => Q xs ys
  | [.lst xs, .tup ys] => Q xs ys
  | _ => False
def sZipU (u : TDs) : TDs := fun env Q => u env fun ds => zipM ds fun xs ys => Q (pairD xs ys)
section
variable {X : Cx} {K : PySem.W.Frag} {rg : Rg} {tg e e2 : Expr} {te : TE} {ta : TA} {u : TDs} {pos : Pos}
theorem zipM_seq {M0 M : Addr → Prop} {H : Hp} {vs : List V} {ds : List D} {Q : List D → List D → Prop} (hs : ∀ a, M0 a → M a) (r : RpOs K M0 M H vs ds) (h : zipM ds Q) :
    ∃ ka kb a b vx vy xs ys, vs = [.ref a, .ref b] ∧ RpAll K M H vx xs ∧ RpAll K M H vy ys ∧ Q xs ys ∧ ∀ H', Keep M0 H H' → SqK ka K H' a vx ∧ SqK kb K H' b vy := by
  unfold zipM at h
  split at h
  · obtain ⟨v, w, rfl, r1, r2⟩ := r.two
    obtain ⟨a, vx, rfl, a1, k1⟩ := sq_lst hs r1
    obtain ⟨b, vy, rfl, a2, k2⟩ := sq_lst hs r2
    exact ⟨false, false, a, b, vx, vy, _, _, rfl, a1, a2, h, fun H' k => ⟨k1 H' k, k2 H' k⟩⟩
  · obtain ⟨v, w, rfl, r1, r2⟩ := r.two
    obtain ⟨a, vx, rfl, a1, k1⟩ := sq_tup hs r1
    obtain ⟨b, vy, rfl, a2, k2⟩ := sq_tup hs r2
    exact ⟨true, true, a, b, vx, vy, _, _, rfl, a1, a2, h, fun H' k => ⟨k1 H' k, k2 H' k⟩⟩
  · obtain ⟨v, w, rfl, r1, r2⟩ := r.two
    obtain ⟨a, vx, rfl, a1, k1⟩ := sq_tup hs r1
    obtain ⟨b, vy, rfl, a2, k2⟩ := sq_lst hs r2
    exact ⟨true, false, a, b, vx, vy, _, _, rfl, a1, a2, h, fun H' k => ⟨k1 H' k, k2 H' k⟩⟩
  · obtain ⟨v, w, rfl, r1, r2⟩ := r.two
    obtain ⟨a, vx, rfl, a1, k1⟩ := sq_lst hs r1
    obtain ⟨b, vy, rfl, a2, k2⟩ := sq_tup hs r2
    exact ⟨false, true, a, b, vx, vy, _, _, rfl, a1, a2, h, fun H' k => ⟨k1 H' k, k2 H' k⟩⟩
  · exact h.elim
theorem walk_U {ka kb : Bool} {a b : Addr} {vx vy : List V} {n : Nat} (hn : n = min vx.length vy.length) : Walk (ItN K ka kb a b) n (fun H => SqK ka K H a vx ∧ SqK kb K H b vy) (YNew vx vy) := by
  subst hn
  refine ⟨fun i _ hi q => ?_, fun _ q => ⟨vx, vy, q.1, q.2, by omega, by omega, by omega⟩, fun i H v H' _ q y => ?_⟩
  · have h1 : i < vx.length := by omega
    have h2 : i < vy.length := by omega
    exact ⟨vx, vy, vx[i], vy[i], q.1, q.2, by simp [h1], by simp [h2]⟩
  · obtain ⟨T, x, z, h1, h2, h3, h4, h5⟩ := y
    exact ⟨T, x, z, h1, h2, h3, h4 vx q.1, h5 vy q.2⟩
theorem di_zipU {p tpos : Pos} {elts : List Expr} {kk : Nat} (hg : Gl X "zip") (hm : X.mg "zip" = none) (ha : DAO X K rg [e, e2] ta u) (hs : starEach [e, e2] X.env = (false, eval e X.env) :: starEach [e2] X.env := by rfl) (hpl : (backTo pos (starEach [e2] X.env)).any (·.1) = false := by rfl) :
    DI X K rg true (.Tuple elts kk tpos) (.Call (.Name "zip" p) [e, e2] [] pos) (iZipU K ta) (sZipU u) := by
  cases ha.kx
  exact ⟨rfl, pi_zipU hg hm ha.pa hs hpl, fun c hc pn H0 env σ H Qd R S ht k => by
    refine ha.rf c hc pn H0 env σ H _ _ S ht fun ds vs H1 q1 k1 j1 r1 => ?_
    obtain ⟨ka, kb, a, b, vx, vy, xs, ys, rfl, a1, a2, q, ks⟩ := zipM_seq (fun a z => .inl z) r1 q1
    refine ⟨ka, kb, a, b, vx, vy, rfl, (ks H1 Keep.refl).1, (ks H1 Keep.refl).2, k (pairD xs ys) _ (fun H => SqK ka X.K H a vx ∧ SqK kb X.K H b vy) (YNew vx vy) H1 q k1 j1 (by rw [pairD_length, ← RpAll.length a1, ← RpAll.length a2]; exact walk_U rfl) (fun H2 kk => ks H2 kk) ?_⟩
    exact fun M i H2 x H3 _ _ k2 hm' dom y => pair_facts a1 a2 M i H2 x H3 k2 hm' dom y⟩
end
end DL

/-! A list times a number; .get(k, x) of a written dict; dict displays whose keys are expressions. -/
namespace DL
open PySem L2 PySem.Spec PyProof.Rows
section
variable {X : Cx} {K : PySem.W.Frag} {rg : Rg} {e o f : Expr} {es : List Expr} {te ty tx : TE} {x t1 t2 : TD} {u : TDs} {pos apos cpos : Pos}
/-! ### list * int -/
def fRep : F2 := fun d e Q => match d, e with | .lst xs, .int k => -(2 ^ 63) ≤ k ∧ k < 2 ^ 63 ∧ xs.length * k.toNat ≤ sizeLine ∧ Q (.lst (List.replicate k.toNat xs).flatten) | _, _ => False
theorem RpAll.rep {M : Addr → Prop} {H : Hp} {vs : List V} {ds : List D} (h : RpAll K M H vs ds) : ∀ n : Nat, RpAll K M H (List.replicate n vs).flatten (List.replicate n ds).flatten
  | 0 => .nil
  | n + 1 => by
    rw [List.replicate_succ, List.replicate_succ, List.flatten_cons, List.flatten_cons]
    exact RpAll.append h (RpAll.rep h n)
theorem opd_rep : OpD K rRep fRep := by
  intro M0 M H v w d e Qd Q hM r1 r2 hf k
  unfold fRep at hf
  split at hf
  · obtain ⟨h1, h2, h3, q⟩ := hf
    obtain ⟨a, vs, rfl, ha, ra⟩ := r1.lst
    rw [r2.int]
    refine ⟨a, _, vs, rfl, rfl, ha, h1, h2, by rw [RpAll.length ra]; exact h3, fun p hp => ?_⟩
    exact k _ _ _ q (fun b u z => by rw [upd_ne (ne_of_none z hp)]; exact z) (.lst (fun z => hM p z hp) upd_same (RpAll.keep (Keep.upd_new hp) (RpAll.rep ra _)))
  · exact hf.elim
/-! ### d.get(k, x), d of the written part, its values truth values -/
def tKGet2 (K : PySem.W.Frag) (d : Addr) (ty tx : TE) : TE := fun σ H Q => ty σ H fun y H2 => tx σ H2 fun z H3 => ∃ (k : Str) (r : Option Bool), y = .str k ∧ PySem.W.nsIn K d k = some (r.map Value.bool) ∧ Q (match r with | some b => .bl b | none => z) H3
theorem pe_kget2 {d : Addr} {es : Array DictEntry} {n : Nat} (D : KDict X.K X.w d es n) (ho : PE X o (tC (.ref d))) (he : PE X e ty) (hf : PE X f tx) (m : M2 X o "get" apos e f cpos) : PE X (.Call (.Attribute o "get" apos) [e, f] [] cpos) (tKGet2 X.K d ty tx) := by
  refine ⟨fun pins s σ H Q I h => ?_⟩
  refine wpAny_Call_method m.base m.few m.line PySem.F.plainAttrs_dict PySem.F.slot_dict_get PySem.F.type_dict_get (thn (ho.run pins s σ H (fun x H1 => x = .ref d ∧ H1 = H) I ⟨rfl, rfl⟩) fun u s1 ⟨x, H1, I1, rx, ex, eh⟩ => ?_)
  subst ex eh
  obtain rfl : u = Value.ref d := rx
  have hm := PySem.W.mapOf_K (prog := X.prog) (w := X.w) I1.kIn D.at_ D.lit
  refine ⟨hm.typeIs, hm.noDict, ?_⟩
  rw [m.trees]
  refine Calls.callWith_builtin rfl (Calls.evalArgs_plain (Calls.spliced_cons (thn (he.run pins s1 σ H1 _ I1 h) fun iv s2 ⟨y, H2, I2, ry, q2⟩ =>
    Calls.spliced_cons (thn (hf.run pins s2 σ H2 _ I2 q2) fun fv s3 ⟨z, H3, I3, rz, k, r, ey, g, q3⟩ => Calls.spliced_nil ?_))))
  subst ey
  obtain ⟨t, rfl⟩ := (show ∃ t, iv = Value.str k t from ry)
  have hm3 := PySem.W.mapOf_K (prog := X.prog) (w := X.w) I3.kIn D.at_ D.lit
  refine call_meetsIn PySem.F.slot_dict_get hm3.typeIs PySem.F.entry_dict_get (PySem.F.args_dict_get_3 _ _ _) (meets_dict_get_default (PySem.strKind X.prog X.w) d (PySem.strKind_is X.prog X.w k t) D.low fv) ⟨_, hm3, ?_⟩
  rw [PySem.W.find_K D.at_ g]
  refine ⟨_, H3, I3.tok _, ?_, q3⟩
  cases r with
  | some b => rfl
  | none => exact rz
def sKGet2 (K : PySem.W.Frag) (d : Addr) (t1 t2 : TD) : TD := fun env Q => t1 env fun y => t2 env fun z => ∃ (k : Str) (r : Option Bool), y = .str k ∧ PySem.W.nsIn K d k = some (r.map Value.bool) ∧ Q (match r with | some b => .bl b | none => z)
theorem d_kget2 {d : Addr} {es : Array DictEntry} {n : Nat} (D : KDict K X.w d es n) (ho : PE X o (tC (.ref d))) (h1 : DP X K rg e ty t1) (h2 : DP X K rg f tx t2) (m : M2 X o "get" apos e f cpos) : DP X K rg (.Call (.Attribute o "get" apos) [e, f] [] cpos) (tKGet2 K d ty tx) (sKGet2 K d t1 t2) := by
  cases h1.kx
  exact ⟨rfl, pe_kget2 D ho h1.pe h2.pe m, fun c hc pn H0 env σ H Qd Q S ht k => by
    refine h1.rf c hc pn H0 env σ H _ _ S ht fun y v H1 q1 k1 j1 r1 => ?_
    subst hc
    refine h2.rf c rfl pn H0 env σ H1 _ _ (S.grow k1 j1) q1 fun z w H2 q2 k2 j2 r2 => ?_
    obtain ⟨key, r, rfl, g, q⟩ := q2
    cases r1
    refine ⟨key, r, rfl, g, k _ _ H2 q (k1.trans k2) j2 ?_⟩
    cases r with
    | some b => exact .bl b
    | none => exact r2⟩
/-! ### dict displays whose keys are expressions, texts, all different -/
structure DV2 (X : Cx) (K : PySem.W.Frag) (rg : Rg) (pos : Pos) (keys : List (Option Expr)) (vals : List Expr) (trs : List (TE × TE)) (u : En → (KD → Prop) → Prop) : Prop where
  kx : X.K = K
  pps : PPs X pos keys vals trs
  len : keys.length = vals.length
  rf : ∀ (c : Dc), c.rg = rg → ∀ (pn : Pin) (H0 : Hp) (env : En) (σ : L2.St) (H : Hp) (Qd : KD → Prop) (Q : List (V × V) → Hp → Prop), Sd K c pn H0 env σ H → u env Qd →
    (∀ acc vs H', Qd acc → acc.length = keys.length → Keep c.rg.R H H' → c.rg.J H' → RpAll K (Mof c env) H' vs (dsOf acc) → Q (((ksOf acc).zip vs).map fun kv => (kV kv.1, kv.2)) H') → tPairs trs σ H Q
def sNil2 : En → (KD → Prop) → Prop := fun _ Q => Q []
def sCons2 (t1 t2 : TD) (u : En → (KD → Prop) → Prop) : En → (KD → Prop) → Prop := fun env Q => t1 env fun y => t2 env fun d => u env fun acc => ∃ z, y = .str z ∧ Q ((z, d) :: acc)
theorem dv2_nil (hK : X.K = K := by rfl) : DV2 X K rg pos [] [] [] sNil2 := by
  cases hK
  exact ⟨rfl, pps_nil, rfl, fun c hc pn H0 env σ H Qd Q S ht k => k [] [] H ht rfl Keep.refl S.j .nil⟩
theorem dv2_cons {keys : List (Option Expr)} {vals : List Expr} {trs : List (TE × TE)} {v : En → (KD → Prop) → Prop} (h1 : DP X K rg o ty t1) (h : DP X K rg e te t2) (r : DV2 X K rg pos keys vals trs v) :
    DV2 X K rg pos (some o :: keys) (e :: vals) ((ty, te) :: trs) (sCons2 t1 t2 v) := by
  cases h.kx
  exact ⟨rfl, pps_cons h1.pe h.pe r.pps, by simp [r.len], fun c hc pn H0 env σ H Qd Q S ht k => by
    refine h1.rf c hc pn H0 env σ H _ _ S ht fun y v0 H1 q1 k1 j1 r1 => ?_
    subst hc
    have S1 := S.grow k1 j1
    refine h.rf c rfl pn H0 env σ H1 _ _ S1 q1 fun d v H2 q2 k2 j2 r2 => ?_
    refine r.rf c rfl pn H0 env σ H2 _ _ (S1.grow k2 j2) q2 fun acc vs H3 q3 hl k3 j3 r3 => ?_
    obtain ⟨z, rfl, q⟩ := q3
    cases r1
    exact k ((z, d) :: acc) (v :: vs) H3 q (by simp [hl]) ((k1.trans k2).trans k3) j3 (.cons (Rp.keep (k3.mono fun a z => Mof.of_R S.ok z) r2) r3)⟩
def sDct2 (u : En → (KD → Prop) → Prop) : TD := fun env Q => u env fun acc => (acc.map (·.1)).Nodup ∧ Q (.dct (ksOf acc) (dsOf acc))
theorem d_dct2 {keys : List (Option Expr)} {vals : List Expr} {trs : List (TE × TE)} {v : En → (KD → Prop) → Prop} (h : DV2 X K rg pos keys vals trs v) (hall : keys.all (·.isSome) = true) (h0 : keys ≠ []) (h15 : keys.length ≤ 15) :
    DP X K rg (.Dict keys vals pos) (tDisp trs) (sDct2 v) := by
  cases h.kx
  exact ⟨rfl, pe_disp h.pps hall h.len h0 h15, fun c hc pn H0 env σ H Qd Q S ht k => by
    subst hc
    intro p hp
    have pR : ¬ c.rg.R p := fun z => S.domM p (Mof.of_R S.ok z) hp
    have T : Sd X.K (c.with p) pn H0 env σ (upd H p (.dK [])) := S.inComp hp
    refine h.rf (c.with p) rfl pn H0 env σ _ _ _ T ht fun acc vs H2 q2 hl k2 j2 r2 => ?_
    obtain ⟨nd, q2⟩ := q2
    have k2' : Keep c.rg.R (upd H p (.dK [])) H2 := k2
    have hp2 : H2 p = some (.dK []) := k2' p _ upd_same pR
    have lv : (ksOf acc).length = vs.length := by rw [RpAll.length r2]; exact ks_ds acc
    have lk : (ksOf acc).length = acc.length := by simp [ksOf]
    refine ⟨hp2, (ksOf acc).zip vs, rfl, by rw [List.length_zip]; omega, ?_⟩
    have em : mergeK [] ((ksOf acc).zip vs) = (ksOf acc).zip vs := by
      rw [merge_new _ _ (by
        rw [zip_fst lv]
        have e : ksOf acc = (acc.map (·.1)).map Sum.inr := by simp [ksOf]
        rw [e]
        exact List.Pairwise.map _ (fun a b h e => h (Sum.inr.inj e)) nd) (fun k _ => rfl)]; simp
    rw [em]
    have kH : Keep c.rg.R H (upd H2 p (.dK ((ksOf acc).zip vs))) := fun b o e m => by
      have hb : b ≠ p := fun z => by rw [z, hp] at e; cases e
      rw [upd_ne hb]
      exact k2' b o (by rw [upd_ne hb]; exact e) m
    have up : Keep (Mof (c.with p) env) H2 (upd H2 p (.dK ((ksOf acc).zip vs))) := fun b o e m => by
      rw [upd_ne (fun z => m (mof_with.mpr (.inr z)))]; exact e
    refine k (.dct (ksOf acc) (dsOf acc)) (.ref p) _ q2 kH (S.ok.rg.stay H2 _ j2 fun b o e hr => by rw [upd_ne (fun z => pR (by rw [← z]; exact hr))]; exact e) ?_
    exact .dct (fun z => S.domM p z hp) upd_same lv (RpAll.anti (fun b _ _ z => mof_with.mpr (.inl z)) (RpAll.keep up r2))⟩
end
end DL

/-! {elt for target in ..} of numbers; its len. -/
namespace SG
open PySem PySem.Spec PyProof.Rows L2
/-- a set of numbers at a, that can be walked -/
def SetN (P : Program) (w : World) (a : Addr) (xs : List Int) : HO := .ext fun h => At (PySem.intKind P w) h a xs
theorem setN_new {P : Program} {w : World} {H : Hp} {h : Heap} {a : Addr} {xs : List Int} (R : At (PySem.intKind P w) h a xs) : ObjOk P w H h a (SetN P w a xs) := ⟨R, ⟨R.choose, R.choose_spec.choose_spec.choose_spec.choose_spec.1⟩, fun _ _ p k => At.at p k⟩
theorem setN_get {X : Cx} {pins : List (Addr × Obj)} {σ : L2.St} {H : Hp} {s : Shared} {a : Addr} {xs : List Int} (I : Inv X pins σ H s) (ha : H a = some (SetN X.prog X.w a xs)) : At (PySem.intKind X.prog X.w) s.heap a xs := (I.hok a _ ha).1
section
variable {X : Cx}
/-- a number is put in -/
theorem addN_ok {pins : List (Addr × Obj)} {σ : L2.St} {H : Hp} {s : Shared} {E : Value → Shared → Prop} {D : Addr} {xs : List Int} {y : Int} {t : Tok} {Q : Value → Shared → Prop} (I : Inv X pins σ H s) (hD : H D = some (SetN X.prog X.w D xs)) (room : xs.length + 1 < scanBound)
    (h : ∀ s', Inv X pins σ (upd H D (SetN X.prog X.w D (if y ∈ xs then xs else y :: xs))) s' → Q .none s') : wpAny (model X.prog X.w) X.A (call (.builtin "set.add") [.ref D, .int y t]) Q E s := by
  have R := setN_get I hD
  have of := R.setOf
  have hk : (PySem.intKind X.prog X.w).is y (.int y t) = true := by simp [PySem.intKind, Value.isInt]
  refine wpAny_call_entry F.slot_set_add of.typeIs F.entry_set_add ?_ (F.args_set_add_2 _ _)
  unfold Builtin.«set.add» Builtin.Frozenset.oneOther
  simp only [List.isEmpty_nil, bind_assoc]
  unfold Builtin.Frozenset.addrOf setAdd
  refine wpAny_bind (wpAny_pure ?_)
  try dsimp only
  refine wpAny_bind (wpAny_pure ?_)
  try dsimp only
  refine wpAny_bind (wpAny_holding (wpAny_bind ((PySem.intKind X.prog X.w).pyHash hk ?_)))
  refine At.addHashed (s := { s with toks := s.toks + 1 }) hk rfl R room fun h' sb new => ?_
  show wpAny _ _ (ret Value.none) _ _ _
  have there : ∃ u, h'.get? D = some u := ⟨_, new.choose_spec.choose_spec.choose_spec.choose_spec.1⟩
  exact wpAny_pure ⟨_, rfl, h _ (I.write (e := D) (t' := s.toks + 1) (by rw [hD]; trivial) (.inl rfl) (fun b u hb hu => (sb.2 b hb).trans hu) there (setN_new new))⟩
def PutN (P : Program) (w : World) (D : Addr) (y : V) (G : Hp) (N : Hp → Prop) : Prop :=
  ∃ x xs, y = .int x ∧ G D = some (SetN P w D xs) ∧ xs.length + 1 < scanBound ∧ N (upd G D (SetN P w D (if x ∈ xs then xs else x :: xs)))
def turnN (P : Program) (w : World) (D : Addr) (g : TG) (tt : TT) (te : TE) (vs : List Nat) (σ : L2.St) (Nx : Hp → Prop) (x : V) (G : Hp) : Prop :=
  g x (wipe σ vs) G fun σ2 G2 => wipe σ2 vs = wipe σ vs ∧ tt σ2 G2 fun b G3 => if b = true then te σ2 G3 fun y G4 => PutN P w D y G4 Nx else Nx G3
def tScN (P : Program) (w : World) (wi : TI) (g : TG) (tt : TT) (te : TE) (vs : List Nat) : TE := fun σ G Q => wi σ G fun J G1 => ∀ D, G1 D = none →
  ∃ U : Nat → Nat → Hp → Prop, (∃ m, U 0 m (upd G1 D (SetN P w D []))) ∧ ∀ i m G, U i m G →
    (J.stop i G ∧ Q (.ref D) G) ∨ (J.go i G ∧ ∃ Nx : Hp → Prop, (∀ G', Nx G' → ∃ m', m' < m ∧ U (i + 1) m' G') ∧ ∀ x G', J.yld i G x G' → turnN P w D g tt te vs σ Nx x G')
theorem pe_scN {elt tg iter : Expr} {ifs : List Expr} {scope : Scope} {own : List (Str × Nat)} {pos : Pos} {wi : TI} {g : TG} {tt : TT} {te : TE} (hc : X.calm = true) (hN : X.N.Nodup) (hi : PI X tg iter wi) (ok : BlkOk X.N X.env.scope scope own)
    (B : ∀ (s : Shared) (H : Hp) (C : Addr) (cl : List (Str × Addr)) (fp : List Addr), PG (X.blk s H scope (compEnvC scope cl C X.env) fp) tg g ∧ PTs (X.blk s H scope (compEnvC scope cl C X.env) fp) ifs tt ∧ PE (X.blk s H scope (compEnvC scope cl C X.env) fp) elt te)
    (hs : ∀ x, foldedSetIterable iter X.env x = pure x := by intro _; rfl) :
    PE X (.SetComp elt [⟨tg, iter, ifs, 0⟩] scope pos) (tScN X.prog X.w wi g tt te (own.map (·.2))) := by
  refine ⟨fun pins s σ H Q I h => ?_⟩
  rw [PpSet.eval_SetComp]
  have caught : ∀ n ∈ scope.names, n.2 = .free → ∃ c, X.env.cells.lookup n.1 = some c := fun n hn e => by
    rcases ok.free n hn e with k | k <;> first | exact I.ok.has _ (.inl k) | exact I.ok.has _ (.inr k)
  refine wpAny_comprehension_free (use := none) rfl hs (closure_ok caught) ok.kind (fun n hn e => by rw [ok.uniq n hn, e]) (thn (hi.run pins s σ H _ I h) fun _ _ q => thn q fun _ z2 q2 => ?_)
  obtain ⟨it, fp, tn, J, G2, rfl, I2, T, st2, f2, q⟩ := q2
  refine PpSet.newSet_ok (newEnv_comp ?_)
  generalize hD : z2.heap.objs.size = D
  obtain ⟨U, ⟨m0, u0⟩, turn⟩ := q D (I2.hok.fresh (Nat.le_of_eq hD))
  generalize hz3 : ({ z2 with heap := z2.heap.push { cls := .type "set", dict := none, data := .set #[] 0 (.fresh 0 0 (!X.w.params.followText "set-order")) } } : Shared) = z3
  have hp3 : z3.heap = z2.heap.push { cls := .type "set", dict := none, data := .set #[] 0 (.fresh 0 0 (!X.w.params.followText "set-order")) } := by subst hz3; rfl
  have I3 : Inv X pins σ (upd G2 D (SetN X.prog X.w D [])) z3 := by
    subst hz3
    refine I2.laid (t' := z2.toks) (fun b o e => Heap.get?_push_of_some _ e) (Nat.le_of_eq hD) ?_
    subst hD
    exact setN_new At.fresh
  have few : ∀ b ∈ fp, b < z2.heap.objs.size := fun b hb => let ⟨_, e, _⟩ := T.obj _ _ st2 b hb; Heap.lt_size e
  have f3 : ∀ b ∈ fp, FpOk X pins (upd G2 D (SetN X.prog X.w D [])) b ∧ b < z3.heap.objs.size := fun b hb => by
    have nD : b ≠ D := fun z => absurd (few b hb) (by rw [z, hD]; exact Nat.lt_irrefl _)
    exact ⟨⟨by rw [upd_ne nD]; exact (f2 b hb).1, (f2 b hb).2⟩, by rw [hp3, Heap.size_push]; exact Nat.lt_succ_of_lt (few b hb)⟩
  have st3 : tn 0 z3.heap := T.keep _ _ _ st2 fun b _ o e => by rw [hp3]; exact Heap.get?_push_of_some _ e
  have I4 := block_start I3 ok hN f3
  obtain ⟨pg, pt, pe⟩ := B z3 (upd G2 D (SetN X.prog X.w D [])) z3.heap.objs.size (cellsFrom (z3.heap.objs.size + 1) scope.names (cloFrom X.env.cells scope.names [])) fp
  have nfp : ∀ b ∈ fp, (upd G2 D (SetN X.prog X.w D [])) b = none := fun b hb => (f3 b hb).1.1
  show codeAny _ _ (.compStart _ 0 (.ref it) (.ref D) (compEnvC scope (cellsFrom (z3.heap.objs.size + 1) scope.names (cloFrom X.env.cells scope.names [])) z3.heap.objs.size X.env)) _ { z3 with heap := pushCells (z3.heap.push { cls := .type "dict", data := .dict #[] }) scope.names }
  generalize hce : compEnvC scope (cellsFrom (z3.heap.objs.size + 1) scope.names (cloFrom X.env.cells scope.names [])) z3.heap.objs.size X.env = ce at I4 pg pt pe ⊢
  have cL : ce.locals = z3.heap.objs.size := by subst hce; rfl
  generalize hG3 : upd G2 D (SetN X.prog X.w D []) = G3 at I3 I4 pg pt pe u0 nfp f3
  generalize hz4 : ({ z3 with heap := pushCells (z3.heap.push { cls := .type "dict", data := .dict #[] }) scope.names } : Shared) = z4 at I4 ⊢
  have st4 : tn 0 z4.heap := T.keep _ _ _ st3 fun b _ o e => by subst hz4; exact pushCells_keeps _ _ _ _ (Heap.get?_push_of_some _ e)
  have own0 : ∀ {σ' : L2.St} {G' : Hp} {z' : Shared}, Inv (X.blk z3 G3 scope ce fp) [] σ' G' z' → (∀ b ∈ fp, G' b = none) → ∀ b ∈ fp, FpOk (X.blk z3 G3 scope ce fp) [] G' b := fun J n b hb =>
    ⟨n b hb, (J.ok.exf b hb).1, J.ok.exfs b hb, .inl hb, fun x c e => (J.ok.exf b hb).2 x c e, fun p hp => absurd (show p ∈ ([] : List (Addr × Obj)) ++ [] from hp) (by simp)⟩
  have loop : codeAny (model X.prog X.w) X.A (.compLoop (.SetComp elt [⟨tg, iter, ifs, 0⟩] scope pos) 0 (.ref it) (.ref D) ce) (compPost (model X.prog X.w) X.A X.xe none (EP X pins σ Q) (.ref D) z3.heap.objs.size) z4 := by
    refine loop_act (t := tg) (ifs := ifs) (act := do let v ← eval elt ce; standAt elt.pos; let _ ← call (.builtin "set.add") [.ref D, v]) (fun n z => ∃ i G, Inv (X.blk z3 G3 scope ce fp) [] (wipe σ (own.map (·.2))) G z ∧ tn i z.heap ∧ (∀ b ∈ fp, G b = none) ∧ U i n G) rfl ?_ m0 ⟨0, G3, I4, st4, nfp, u0⟩
    rintro n z5 ⟨i, G5, I5, st5, n5, u5⟩
    rcases turn i n G5 u5 with ⟨stop, qq⟩ | ⟨go, Nx, hNx, step⟩
    · refine turn_of (B := X.blk z3 G3 scope ce fp) hc T pg pt rfl I5 (own0 I5 n5) st5 (wq := fun _ => True) (cl := fun _ _ _ => True) (.inl ⟨stop, fun z6 I6 => ?_⟩)
      have nC : G5 z3.heap.objs.size = none := by rw [← cL]; exact I6.free
      obtain ⟨m, hn, _⟩ := I6.loc
      rw [show (X.blk z3 G3 scope ce fp).env.locals = z3.heap.objs.size from cL] at hn
      refine ⟨m, hn, fun h'' sb => ?_⟩
      have I7 : Inv X pins σ G5 z6 := I3.call' (ch := fp) I6.os I6.base I6.hok I6.bare fun b hb => let f := (f3 b hb).1; ⟨f.2.2.2.1, f.2.1, f.2.2.2.2.1, f.2.2.2.2.2⟩
      obtain ⟨e0, e1, e2, e3, e4, e5⟩ := I3.fpOk (Nat.le_refl _) nC
      exact ⟨.ref D, G5, I7.turned (t' := z6.toks) (fun b o hb e => (sb.2 b hb).trans e) e0 e1 e3 e4 e5, rfl, qq⟩
    · refine turn_of (B := X.blk z3 G3 scope ce fp) hc T pg pt rfl I5 (own0 I5 n5) st5 (wq := fun σ2 => wipe σ2 (own.map (·.2)) = wipe σ (own.map (·.2))) (cl := fun b σ2 G9 => if b = true then te σ2 G9 fun y G4 => PutN X.prog X.w D y G4 Nx else Nx G9) (.inr ⟨go, step, fun z7 b σ8 G9 z9 w8 st7 have7 I9 q9 => ?_⟩)
      have close : ∀ {z' : Shared} {G' : Hp}, Inv (X.blk z3 G3 scope ce fp) ([] ++ pinsAt fp z7.heap) σ8 G' z' → Nx G' →
          ∃ m, m < n ∧ ∃ i G, Inv (X.blk z3 G3 scope ce fp) [] (wipe σ (own.map (·.2))) G z' ∧ tn i z'.heap ∧ (∀ b ∈ fp, G b = none) ∧ U i m G := fun {z' G'} J nx => by
        obtain ⟨m', lt, u'⟩ := hNx G' nx
        have held : ∀ b ∈ fp, ∀ o, z7.heap.get? b = some o → z'.heap.get? b = some o ∧ G' b = none := fun b hb o e =>
          ⟨(J.pin (b, o) (List.mem_append_right _ (List.mem_append_right _ (mem_pinsAt hb e)))).1, (J.pin (b, o) (List.mem_append_right _ (List.mem_append_right _ (mem_pinsAt hb e)))).2.1⟩
        refine ⟨m', lt, i + 1, G', (J.unpinned (pins := [])).weak (by rw [← w8, wipe_length]) (fun j v e => by rw [← w8] at e; exact (wipe_some e).1), T.keep _ _ _ st7 fun b hb o e => (held b hb o e).1, fun b hb => ?_, u'⟩
        obtain ⟨o, e⟩ := have7 b hb
        exact (held b hb o e).2
      cases b with
      | false =>
        simp only [Bool.false_eq_true, if_false] at q9 ⊢
        exact close I9 q9
      | true =>
        simp only [if_true] at q9 ⊢
        refine wpAny_bind (thnF (pe.run _ z9 σ8 G9 _ I9 q9) fun u z17 ⟨y, G17, I17, r17, x, xs, ey, hD17, room, nx⟩ => ?_)
        subst ey
        obtain ⟨t, rfl⟩ : ∃ t, u = .int x t := r17
        exact wpAny_bind (wpAny_standAt (wpAny_bind (addN_ok (X := X.blk z3 G3 scope ce fp) I17 hD17 room fun z18 I18 => wpAny_pure (close I18 nx))))
  exact start_set rfl loop (T.self X.A 0 _ _ _ st4 loop)
/-- len(a set of numbers) -/
def rLenN (P : Program) (w : World) : List V → Hp → VK → Prop := fun vs H Q => ∃ (a : Addr) (xs : List Int), vs = [.ref a] ∧ H a = some (SetN P w a xs) ∧ Q (.int xs.length) H
theorem cr_lenN : CallR X (.builtin "len") (rLenN X.prog X.w) := by
  intro pins s σ H vs us Q I r h
  obtain ⟨a, xs, rfl, ha, q⟩ := h
  rw [Vals.ref1 r]
  obtain ⟨o, es, ep, t, got, ex, dat, en, nd, few, fit, up, way⟩ := setN_get I ha
  have en' := en.length
  rw [Array.length_toList] at en'
  refine call_len_set got ex dat fit (by have : scanBound = 4096 := rfl; omega) ⟨.int xs.length, H, I.tok _, ⟨s.toks + 1, by rw [en']⟩, q⟩
end
end SG

/-! len({elt for target in d.values()}) of numbers. -/
namespace DL
open PySem L2 PySem.Spec PyProof.Rows SG
section
variable {P : Program} {w : World} {K : PySem.W.Frag} {rg : Rg} {g : TG} {tt : TT} {te : TE} {sg : SG} {st : TB} {t : TD} {vs : List Nat}
theorem sn_walk (hg : RfG K rg g sg vs) (ht : RfT K rg tt st) (he : Rf K rg te t) {c : Dc} (hc : c.rg = rg) {pn : Pin} {H0 : Hp} {env : En} {σ : L2.St} {H : Hp} (S : Sd K c pn H0 env σ H) (hown : ownFree env vs = true) {xs : List D} {J : It} {G : Hp → Prop} {Y : Nat → Hp → V → Hp → Prop} (W : Walk J xs.length G Y)
    (hG : ∀ H2, Keep c.rg.R H H2 → G H2) (hY : ∀ (M : Addr → Prop) (i : Nat) (H2 : Hp) (x : V) (H3 : Hp), i < xs.length → Keep (Mof c env) H H2 → (∀ a o, H a = some o → M a → Mof c env a) → (∀ a, M a → H2 a ≠ none) → Y i H2 x H3 → ∃ d, xs[i]? = some d ∧ Same H2 H3 ∧ Rp K M H3 x d)
    {Qd : List Int → Prop} {Q : VK} (q : ∃ I : Nat → List Int → Prop, I 0 [] ∧ (∀ i x acc, xs[i]? = some x → I i acc → sg x (wipeE env vs) fun env2 => st env2 fun b => if b = true then t env2 fun y => ∃ n, y = .int n ∧ acc.length < 4000 ∧ I (i + 1) (acc ++ [n]) else I (i + 1) acc) ∧ ∀ acc, I xs.length acc → Qd acc)
    (k : ∀ acc a ms H', Qd acc → H a = none → Keep c.rg.R H H' → c.rg.J H' → H' a = some (SetN P w a ms) → ms.Nodup → (∀ y, y ∈ ms ↔ y ∈ acc) → Q (.ref a) H') :
    ∀ D, H D = none → ∃ U : Nat → Nat → Hp → Prop, (∃ m, U 0 m (upd H D (SetN P w D []))) ∧ ∀ i m G, U i m G →
      (J.stop i G ∧ Q (.ref D) G) ∨ (J.go i G ∧ ∃ Nx : Hp → Prop, (∀ G', Nx G' → ∃ m', m' < m ∧ U (i + 1) m' G') ∧ ∀ x G', J.yld i G x G' → turnN P w D g tt te vs σ Nx x G') := by
  intro D' hD
  obtain ⟨I, i0, turn, fin⟩ := q
  have n0 : H0 D' = none := S.h0 hD
  have nR : ¬ c.rg.R D' := fun z => S.domM D' (Mof.of_R S.ok z) hD
  have nP : c.P ≠ some D' := fun z => S.dom D' (S.ok.pm D' z).1 hD
  have S2 : Sd K (c.with D') pn H0 (wipeE env vs) (L2.wipe σ vs) (upd H D' (SetN P w D' [])) := (S.inComp hD).wipe vs
  refine walk_any (B := fun Nx x H' => turnN P w D' g tt te vs σ Nx x H') W
    (fun i H5 => ∃ acc ms, I i acc ∧ H5 D' = some (SetN P w D' ms) ∧ ms.Nodup ∧ (∀ y, y ∈ ms ↔ y ∈ acc) ∧ Keep c.rg.R H H5 ∧ Sd K (c.with D') pn H0 (wipeE env vs) (L2.wipe σ vs) H5)
    ⟨[], [], i0, upd_same, List.nodup_nil, fun _ => Iff.rfl, Keep.upd_new hD, S2⟩ (fun i H5 _ ⟨_, _, _, _, _, _, k5, _⟩ => hG H5 k5) ?_ ?_
  · rintro i x H5 H6 hlt ⟨acc, ms, hI, hl, nd, mem, k5, S5⟩ y
    have mD : ∀ b, Mof (c.with D') (wipeE env vs) b ↔ Mof c env b ∨ b = D' := fun b => mof_with.trans (by rw [← mof_wipe hown b])
    have k5M : Keep (Mof c env) H H5 := k5.mono fun b z => Mof.of_R S.ok z
    obtain ⟨d, hd, s6, rd⟩ := hY (Mof (c.with D') (wipeE env vs)) i H5 x H6 hlt k5M (fun b u e z => by
      rcases (mD b).mp z with z | rfl
      · exact z
      · rw [hD] at e; cases e) S5.domM y
    have S6 := S5.same s6
    refine hg (c.with D') hc pn H0 _ _ H6 x d _ _ S6 rd (turn i d acc hd hI) fun env2 σ2 q2 S7 m2 w2 => ⟨w2.trans ?_, ?_⟩
    · apply List.ext_getElem?
      intro j
      rw [wipe_get, wipe_get, wipe_length]
      split <;> rfl
    refine ht (c.with D') hc pn H0 env2 σ2 H6 _ _ S7 q2 fun b H8 q8 k8 j8 => ?_
    have k8' : Keep c.rg.R H6 H8 := k8
    have S8 := S7.grow k8 j8
    have k58 : Keep c.rg.R H5 H8 := (Keep.of_same s6).trans k8'
    have hl8 : H8 D' = some (SetN P w D' ms) := k58 D' _ hl nR
    cases b with
    | false =>
      rw [if_neg Bool.false_ne_true] at q8 ⊢
      exact ⟨acc, ms, q8, hl8, nd, mem, k5.trans k58, S5.grow k58 S8.j⟩
    | true =>
      rw [if_pos rfl] at q8 ⊢
      refine he (c.with D') hc pn H0 env2 σ2 H8 _ _ S8 q8 fun y v H9 q9 k9 j9 r9 => ?_
      obtain ⟨n, rfl, room, q9⟩ := q9
      cases r9
      have k9' : Keep c.rg.R H8 H9 := k9
      have hl9 : H9 D' = some (SetN P w D' ms) := k9' D' _ hl8 nR
      have k59 : Keep c.rg.R H5 H9 := k58.trans k9'
      have S9 : Sd K (c.with D') pn H0 (wipeE env vs) (L2.wipe σ vs) H9 := S5.grow k59 j9
      have le : ms.length ≤ acc.length := nodup_le nd fun z hz => (mem z).mp hz
      refine ⟨n, ms, rfl, hl9, by show _ < 4096; omega, acc ++ [n], _, q9, upd_same, ?_, ?_, ?_, S9.updD n0 nR nP⟩
      · by_cases hx : n ∈ ms
        · rw [if_pos hx]; exact nd
        · rw [if_neg hx]; exact List.nodup_cons.mpr ⟨hx, nd⟩
      · intro y
        rw [List.mem_append, List.mem_singleton, ← mem y]
        by_cases hx : n ∈ ms
        · rw [if_pos hx]
          exact ⟨.inl, fun z => z.elim id fun e => e ▸ hx⟩
        · rw [if_neg hx, List.mem_cons]; exact Or.comm
      · intro b u e m
        have hb : b ≠ D' := fun z => by rw [z, hD] at e; cases e
        rw [upd_ne hb]
        exact (k5.trans k59) b u e m
  · rintro H5 ⟨acc, ms, hI, hl, nd, mem, k5, S5⟩
    exact k acc D' ms H5 (fin acc hI) hD k5 S5.j hl nd mem
/-- how many different numbers -/
def sLenV (i : Nat) (sg : SG) (st : TB) (t : TD) (vs : List Nat) : TD := fun env Q => match env[i]? with
  | some (some (.dat (.dct ks ds))) => (noDs ds = true ∧ okE env = true ∧ ownFree (hideE env) vs = true) ∧ ∃ I : Nat → List Int → Prop, I 0 [] ∧
      (∀ j x acc, ds[j]? = some x → I j acc → sg x (wipeE (hideE env) vs) fun env2 => st env2 fun b => if b = true then t env2 fun y => ∃ n, y = .int n ∧ acc.length < 4000 ∧ I (j + 1) (acc ++ [n]) else I (j + 1) acc) ∧
      ∀ acc, I ds.length acc → ∀ ms : List Int, ms.Nodup → (∀ y, y ∈ ms ↔ y ∈ acc) → Q (.int ms.length)
  | _ => False
theorem rf_lenV {i : Nat} (hg : RfG K rg g sg vs) (ht : RfT K rg tt st) (he : Rf K rg te t) : Rf K rg (tCB (rLenN P w) (tCons (tLockE (tScN P w (iVals (tVar i)) g tt te vs)) tNil)) (sLenV i sg st t vs) := fun c hc pn H0 env σ H Qd Q S hq k => by
  unfold sLenV at hq
  split at hq
  · rename_i ks ds hi
    obtain ⟨⟨nd, ok, hown⟩, hq⟩ := hq
    obtain ⟨v, hv, rv⟩ := S.sl i _ hi
    cases rv with
    | dct m e1 le ra =>
    rename_i a xs
    refine ⟨a, .dK (ks.zip xs), e1, trivial, fun od => ?_⟩
    have SL := S.lockD (od := od) ok e1 m ra nd
    generalize hH1 : upd H a (.frz od (.dK (ks.zip xs))) = H1 at SL
    have ha : H1 a = some (.frz od (.dK (ks.zip xs))) := by rw [← hH1]; exact upd_same
    have nR : ¬ c.rg.R a := fun z => m (Mof.of_R S.ok z)
    have lx : xs.length = ds.length := RpAll.length ra
    have lz : (ks.zip xs).length = ds.length := by rw [List.length_zip, le, Nat.min_self, lx]
    have pinR := SL.pn.2.2
    have hG : ∀ H2, Keep c.rg.R H1 H2 → H2 a = some (.frz od (.dK (ks.zip xs))) := fun H2 kk => kk a _ ha nR
    have lift : ∀ {M : Addr → Prop} {H2 : Hp} {x : V} {d : D}, Rp K (Mof c (hideE env)) H1 x d → Keep (Mof c (hideE env)) H1 H2 → (∀ b o, H1 b = some o → M b → Mof c (hideE env) b) → Rp K M H2 x d := fun r kk hm => by
      have r1 : Rp K (fun b => Mof c (hideE env) b ∨ _) H1 _ _ := Rp.anti (fun b o e z => z.elim id (hm b o e)) r
      exact Rp.anti (fun _ _ _ z => .inr z) (Rp.keep (kk.mono fun b z => .inl z) r1)
    refine ⟨_, hv, a, od, _, rfl, ha, ?_⟩
    refine sn_walk (P := P) (w := w) (Q := fun v H' => H' a = some (.frz od (.dK (ks.zip xs))) ∧ (fun v H1 => tNil σ H1 fun us H2 => rLenN P w (v :: us) H2 Q) v (upd H' a (.dK (ks.zip xs)))) hg ht he hc SL hown (xs := ds) (by rw [← lz]; exact walk_values) hG (fun M j H2 x H3 hlt kk hm _ y => ?_) hq ?_
    · obtain ⟨rfl, k', hx⟩ := y
      have hx' := (List.getElem?_zip_eq_some.mp hx).2
      obtain ⟨d, hd, rd⟩ := RpAll.get pinR hx'
      exact ⟨d, hd, Same.refl _, lift rd kk hm⟩
    · intro acc D' ms H5 q hD k5 j5 hl nd' mem
      have h5 := hG H5 k5
      have neD : D' ≠ a := fun z => by rw [z, ha] at hD; cases hD
      have kk : Keep c.rg.R H (upd H5 a (.dK (ks.zip xs))) := fun b o e mm => by
        by_cases hb : b = a
        · subst hb; rw [upd_same]; rw [e1] at e; exact e
        · rw [upd_ne hb]; exact k5 b o (by rw [← hH1, upd_ne hb]; exact e) mm
      refine ⟨h5, D', ms, rfl, by rw [upd_ne neD]; exact hl, ?_⟩
      exact k _ _ _ (q ms nd' mem) kk (S.ok.rg.stay H5 _ j5 fun b o e hr => by rw [upd_ne (fun z => nR (by rw [← z]; exact hr))]; exact e) (.int _)
  · exact hq.elim
end
section
variable {X : Cx} {K : PySem.W.Frag} {rg : Rg} {g : TG} {sg : SG} {tt : TT} {st : TB} {te : TE} {t : TD} {elt tg e : Expr} {ifs : List Expr} {scope : Scope} {own : List (Str × Nat)} {pos apos cpos p fpos : Pos} {i : Nat}
theorem d_lenV (hK : X.K = K) (hc : X.calm = true) (hgl : Gl X "len") (hml : X.mg "len" = none) (hN : X.N.Nodup) (ok : BlkOk X.N X.env.scope scope own) (hx : PE X e (tVar i))
    (hg : ∀ (s : Shared) (H : Hp) (C : Addr) (cl : List (Str × Addr)) (fp : List Addr), DG (X.blk s H scope (compEnvC scope cl C X.env) fp) K rg tg g sg (own.map (·.2)))
    (ht : ∀ (s : Shared) (H : Hp) (C : Addr) (cl : List (Str × Addr)) (fp : List Addr), DTs (X.blk s H scope (compEnvC scope cl C X.env) fp) K rg ifs tt st)
    (he : ∀ (s : Shared) (H : Hp) (C : Addr) (cl : List (Str × Addr)) (fp : List Addr), DP (X.blk s H scope (compEnvC scope cl C X.env) fp) K rg elt te t)
    (hbase : attributeBase e "values" X.env (eval e X.env) = eval e X.env := by rfl) (hline : (apos.endLine == cpos.line) = true := by rfl)
    (hs : ∀ x, foldedSetIterable (.Call (.Attribute e "values" apos) [] [] cpos) X.env x = pure x := by intro _; rfl)
    (hst : starEach [.SetComp elt [⟨tg, .Call (.Attribute e "values" apos) [] [] cpos, ifs, 0⟩] scope pos] X.env = (false, eval (.SetComp elt [⟨tg, .Call (.Attribute e "values" apos) [] [] cpos, ifs, 0⟩] scope pos) X.env) :: starEach [] X.env := by rfl) :
    DP X K rg (.Call (.Name "len" p) [.SetComp elt [⟨tg, .Call (.Attribute e "values" apos) [] [] cpos, ifs, 0⟩] scope pos] [] fpos) (tCB (rLenN X.prog X.w) (tCons (tLockE (tScN X.prog X.w (iVals (tVar i)) g tt te (own.map (·.2)))) tNil)) (sLenV i sg st t (own.map (·.2))) := by
  cases hK
  exact ⟨rfl, pe_callB cr_lenN hgl hml (by decide +kernel) (pa_cons (pe_lock (pe_scN hc hN (pi_values hx hbase hline) ok (fun s H C cl fp => ⟨(hg s H C cl fp).pg, (ht s H C cl fp).pt, (he s H C cl fp).pe⟩) hs)) pa_nil hst) (by decide) (by decide) hst rfl,
    rf_lenV (hg X.s_0 X.H_0 0 [] []).rf (ht X.s_0 X.H_0 0 [] []).rf (he X.s_0 X.H_0 0 [] []).rf⟩
end
/-- all numbers are the same: the set of them has one -/
theorem lenV_at {i : Nat} {ks : List Key} {α : Type} {xs : List α} {enc : α → D} {n : Int} {env : En} {vs : List Nat} {sg : SG} {st : TB} {t : TD} {Q : D → Prop} (hi : env[i]? = some (some (.dat (.dct ks (xs.map enc))))) (nd : noDs (xs.map enc) = true) (ok : okE env = true) (hw : ownFree (hideE env) vs = true) (h0 : xs ≠ []) (hz : xs.length ≤ 4000)
    (step : ∀ x ∈ xs, ∀ (Qy : D → Prop) (Qn : Prop), Qy (.int n) → sg (enc x) (wipeE (hideE env) vs) fun env2 => st env2 fun b => if b = true then t env2 Qy else Qn) (fin : Q (.int 1)) : sLenV i sg st t vs env Q := by
  unfold sLenV
  rw [hi]
  refine ⟨⟨nd, ok, hw⟩, fun j acc => acc = List.replicate j n, rfl, fun j x acc hx hacc => ?_, fun acc h ms nd' mem => ?_⟩
  · rw [List.getElem?_map] at hx
    cases hj : xs[j]? with
    | none => rw [hj] at hx; cases hx
    | some y =>
      rw [hj] at hx
      cases hx
      obtain ⟨hlt, e⟩ := List.getElem?_eq_some_iff.mp hj
      refine step y (e ▸ List.getElem_mem hlt) _ _ ⟨n, rfl, ?_, ?_⟩
      · rw [hacc, List.length_replicate]; omega
      · show _ = _
        rw [hacc, List.replicate_succ']
  · rw [List.length_map] at h
    have hp : 0 < xs.length := List.length_pos_iff.mpr h0
    have e1 : ∀ y, y ∈ ms ↔ y = n := fun y => by rw [mem y, h, List.mem_replicate]; exact ⟨fun z => z.2, fun z => ⟨by omega, z⟩⟩
    have : ms.length = 1 := by
      match ms, nd', e1 with
      | [], _, e1 => exact absurd ((e1 n).mpr rfl) (by simp)
      | [_], _, _ => rfl
      | a :: b :: _, nd', e1 =>
        have ha := (e1 a).mp (by simp)
        have hb := (e1 b).mp (by simp)
        rw [List.nodup_cons] at nd'
        exact absurd (by rw [ha, hb]; simp) nd'.1
    rw [this]; exact fin
end DL

/-! repr of truth values; tuples of the module. -/
namespace DL
open PySem L2 PySem.Spec PyProof.Rows
theorem room1 {n c : Nat} (h : n + 64 < c) : n + 1 < c := by omega
def rReprB : List V → Hp → VK → Prop := fun xs H Q => ∃ b : Bool, xs = [.bl b] ∧ Q (.str (if b then "True" else "False")) H
def fReprB : FL := fun ds Q => match ds with | [.bl b] => Q (.str (if b then "True" else "False")) | _ => False
section
variable {X : Cx} {K : PySem.W.Frag} {rg : Rg}
theorem cl_reprB : CallR X (.builtin "repr") rReprB := by
  intro pins s σ H vs us Q I r h
  obtain ⟨b, rfl, q⟩ := h
  obtain ⟨u, rfl, rx⟩ := vals1 r
  obtain rfl : u = Value.bool b := rx
  exact PySem.P.repr_of_bool ⟨.str (if b then "True" else "False"), H, I.tok _, ⟨s.toks, by cases b <;> rfl⟩, q⟩
theorem cad_reprB : CaD K rReprB fReprB := by
  intro M0 M H vs ds Qd Q hM r hf k
  unfold fReprB at hf
  split at hf
  · obtain ⟨v, rfl, r1⟩ := r.one
    rw [r1.bl]
    exact ⟨_, rfl, k _ _ H hf (Same.refl H) (.str _)⟩
  · exact hf.elim
/-- a tuple of texts of the module -/
def sGT (ws : List Str) : TD := fun _ Q => Q (.tup (ws.map .str))
theorem d_globT {x : Str} {a : Addr} {ws : List Str} {pos : Pos} (hK : X.K = K) (hg : Gl X x) (hm : X.mg x = some (.ref a)) (ht : KTup K a (ws.map V.str)) (hd : (x == ("__debug__" : Str)) = false := by decide) : DP X K rg (.Name x pos) (tC (.ref a)) (sGT ws) := by
  cases hK
  exact ⟨rfl, pe_glob (v := .ref a) hg hm rfl hd, fun c hc pn H0 env σ H Qd Q S ht' k => k _ _ H ht' Keep.refl S.j (.tupK ht (RpAll.strs ws))⟩
end
end DL

/-! Runs, told of data. -/
namespace RD
open PySem L2 DL PySem.Spec PyProof.Rows
abbrev Pl := Str × Bool
def isName (x : Str) : Bool := !(decide ((4 : Int) < x.length) || x == "none") && (Txt.isascii x && (Txt.isalpha x && Txt.islower x))
theorem isName_len {x : Str} (h : isName x = true) : x.length ≤ 4 := by
  unfold isName at h
  simp only [Bool.and_eq_true, Bool.not_eq_true', Bool.or_eq_false_iff, decide_eq_false_iff_not] at h
  omega
def ePl (p : Pl) : D := .tup [.str p.1, .bl p.2]
def sq (k : Bool) (ds : List D) : D := if k = true then .tup ds else .lst ds
def eRow (k : Bool) (r : List Pl) : D := sq k (r.map ePl)
def eRows (k : Bool) (R : List (List Pl)) : D := sq k (R.map (eRow k))
def eOrd (r : List Pl) : D := .tup (r.map fun p => .str p.1)
def eOrds (R : List (List Pl)) : D := .tup (R.map eOrd)
def eNs (ys : List Str) : D := .tup (ys.map .str)
def eRun (CR : Addr) (R : List (List Pl)) (ys : List Str) : D := .obj CR ["rows", "orders", "names"] [eRows true R, eOrds R, eNs ys]
structure Good (R : List (List Pl)) : Prop where
  ne : R ≠ []
  len : R.length < 1000
  row : ∀ r ∈ R, r ≠ [] ∧ r.length < 1000 ∧ ∀ p ∈ r, isName p.1 = true
def inR (R : List (List Pl)) (y : Str) : Prop := ∃ r ∈ R, ∃ p ∈ r, p.1 = y
/-- few names in all -/
def Few (R : List (List Pl)) : Prop := ∃ names : List Str, names.length < 64 ∧ ∀ r ∈ R, ∀ p ∈ r, p.1 ∈ names
def plText (p : Pl) : Str := if p.2 = true then p.1 ++ "!" else p.1
def rowText (r : List Pl) : Str := Txt.join " " (r.map plText)
def runText (R : List (List Pl)) : Str := Txt.join " | " (R.map rowText)
def tfIsName : Tf := fun rg ds Q => ∃ x, ds = [.str x] ∧ x.length < 1000 ∧ Q (.bl (isName x))
def tfItems : Tf := fun rg ds Q => ∃ k es, ds = [sq k es] ∧ Q (sq k es)
def tfFirst : Tf := fun rg ds Q => ∃ n : Nat, 0 < n ∧ ds = [.lst (List.replicate n (.bl true))] ∧ Q .non
def tfIsPlace : Tf := fun rg ds Q => ∃ p, ds = [ePl p] ∧ isName p.1 = true ∧ Q (.bl true)
def tfIsRow : Tf := fun rg ds Q => ∃ k r, ds = [eRow k r] ∧ r ≠ [] ∧ r.length < 1000 ∧ (∀ p ∈ r, isName p.1 = true) ∧ Q (.bl true)
def tfWrong : Tf := fun rg ds Q => ∃ k R, ds = [eRows k R] ∧ Good R ∧ Q .non
def tfRowText : Tf := fun rg ds Q => ∃ r, ds = [eRow true r] ∧ r.length < 1000 ∧ (∀ p ∈ r, isName p.1 = true) ∧ Q (.str (rowText r))
def tfReadPlace : Tf := fun rg ds Q => ∃ p, ds = [.str (plText p)] ∧ isName p.1 = true ∧ Q (ePl p)
def tfReadRows : Tf := fun rg ds Q => ∃ R, ds = [.str (runText R)] ∧ Good R ∧ Q (eRows false R)
def tfInit : Tfs := fun rg ds Q => ∃ k R, ds = [eRows k R] ∧ Good R ∧ Few R ∧ ∀ ys, AscOf ys (inR R) → Q [eRows true R, eOrds R, eNs ys]
def tfRead (CR : Addr) : Tf := fun rg ds Q => ∃ R, ds = [.raw (.ref CR), .str (runText R)] ∧ Good R ∧ Few R ∧ ∀ ys, AscOf ys (inR R) → Q (eRun CR R ys)
def tfAdd (CR : Addr) : Tf := fun rg ds Q => ∃ R S ys zs, ds = [eRun CR R ys, eRun CR S zs] ∧ Good (R ++ S) ∧ Few (R ++ S) ∧ ∀ us, AscOf us (inR (R ++ S)) → Q (eRun CR (R ++ S) us)
def tfLen (CR : Addr) : Tf := fun rg ds Q => ∃ R ys, ds = [eRun CR R ys] ∧ Good R ∧ Q (.int ((R.flatMap id).length : Nat))
def tfEq (CR : Addr) : Tf := fun rg ds Q => ∃ R S ys zs, ds = [eRun CR R ys, eRun CR S zs] ∧ Q (.bl (decide (R = S)))
def tfStr (CR : Addr) : Tf := fun rg ds Q => ∃ R ys, ds = [eRun CR R ys] ∧ Good R ∧ Q (.str (runText R))
/-- what of the class is asked -/
structure OR (K : PySem.W.Frag) (mg : Str → Option Value) (CR : Addr) : Prop where
  cls : Cls K CR
  rows : NoAttr K CR "rows"
  orders : NoAttr K CR "orders"
  names : NoAttr K CR "names"
  isi : IsiC K CR
  ne : NeOf K CR
  iop : IopC K CR (dunderI "add")
  sf : PySem.W.selfFirst K CR = true
  kit : PySem.W.kitOne K (.ref CR) (.ref CR) = some true
  mg : mg "Run" = some (.ref CR)
theorem deq_tup_map {α : Type} [DecidableEq α] {enc : α → D} (h : ∀ x y, deq (enc x) (enc y) = decide (x = y)) : ∀ xs ys : List α, deq (.tup (xs.map enc)) (.tup (ys.map enc)) = decide (xs = ys)
  | [], [] => by simp [deq, toPy, toPys, PyData.eqv, PyData.eqvAll]
  | [], _ :: _ => by simp [deq, toPy, toPys, PyData.eqv, PyData.eqvAll]
  | _ :: _, [] => by simp [deq, toPy, toPys, PyData.eqv, PyData.eqvAll]
  | x :: xs, y :: ys => by
    have ih := deq_tup_map h xs ys
    have hx := h x y
    simp only [deq, toPy, toPys, List.map_cons, PyData.eqv, PyData.eqvAll] at ih hx ⊢
    rw [ih, hx, Bool.eq_iff_iff]
    simp
theorem deq_bl (a b : Bool) : deq (.bl a) (.bl b) = (a == b) := by cases a <;> cases b <;> rfl
theorem deq_pl (p q : Pl) : deq (ePl p) (ePl q) = decide (p = q) := by
  unfold ePl
  rw [deq_pair, deq_str, deq_bl, Bool.eq_iff_iff]
  simp [Prod.ext_iff]
theorem deq_rows (R S : List (List Pl)) : deq (eRows true R) (eRows true S) = decide (R = S) := deq_tup_map (deq_tup_map deq_pl) R S
theorem deq_ord (r s : List Str) : deq (.tup (r.map .str)) (.tup (s.map .str)) = decide (r = s) := deq_tup_map (fun x y => by rw [deq_str]; rfl) r s
theorem pl_rows (R : List (List Pl)) : isPl (eRows true R) = true := isPls_map (enc := eRow true) (fun r => isPls_map (enc := ePl) (fun _ => rfl) r) R
theorem dep_map {α : Type} {enc : α → D} {m : Nat} (h : ∀ x, (toPy (enc x)).depth ≤ m) : ∀ xs : List α, PyData.depthAll (toPys (xs.map enc)) ≤ m
  | [] => by simp [toPys, PyData.depthAll]
  | x :: xs => by
    simp only [List.map_cons, toPys, PyData.depthAll]
    exact Nat.max_le.mpr ⟨h x, dep_map h xs⟩
theorem dep_tup {α : Type} {enc : α → D} {m : Nat} (h : ∀ x, (toPy (enc x)).depth ≤ m) (xs : List α) : (toPy (.tup (xs.map enc))).depth ≤ m + 1 := by
  have := dep_map h xs
  simp only [toPy, PyData.depth]
  omega
theorem dep_rows (R : List (List Pl)) : (toPy (eRows true R)).depth ≤ 60 := Nat.le_trans (dep_tup (m := 2) (enc := eRow true) (fun r => dep_tup (m := 1) (enc := ePl) (fun p => by simp [ePl, toPy, toPys, PyData.depth, PyData.depthAll]) r) R) (by decide)
end RD

/-! The texts of runs, read back. -/
namespace RD
open PySem L2 DL PySem.Spec PyProof.Rows TL
theorem empty_app (x : Str) : Str.empty ++ x = x := ext_tl (by rw [tl_append]; rfl)
theorem app_len (x y : Str) : (x ++ y).length = x.length + y.length := by rw [len_tl, tl_append, List.length_append, ← len_tl, ← len_tl]
theorem sub_at (x y : Str) (i : Nat) : PySem.Builtin.Str.subAt x y i = decide (((tl x).drop i).take y.length = tl y) := by
  have e : tl (PySem.Builtin.Str.strSub x i (i + y.length)) = ((tl x).drop i).take y.length := by rw [tl_strSub]; congr 1; omega
  rw [← e]
  unfold PySem.Builtin.Str.subAt PySem.Builtin.Str.strSub tl
  rw [Bool.eq_iff_iff, beq_iff_eq, decide_eq_true_iff]
  exact ⟨fun h => by rw [h], fun h => Array.toList_inj.mp h⟩
theorem name_signs {x : Str} (h : isName x = true) : tl x ≠ [] ∧ ∀ c ∈ tl x, c ≠ 32 ∧ c ≠ 33 ∧ c ≠ 124 := by
  unfold isName at h
  simp only [Bool.and_eq_true] at h
  have ha := h.2.2.1
  unfold Txt.isalpha at ha
  rw [Bool.and_eq_true, decide_eq_true_iff] at ha
  refine ⟨fun e => ?_, fun c hc => ?_⟩
  · have := len_tl x; rw [e] at this; simp at this; omega
  · have hal : PySem.Unicode.isAlpha c = true := by
      have := Array.all_eq_true_iff_forall_mem.mp ha.2 c (by simpa [tl] using hc)
      exact this
    refine ⟨fun e => ?_, fun e => ?_, fun e => ?_⟩ <;>
      (subst e; exact absurd hal (by decide +kernel))
theorem strip_mark (n : Str) : Txt.removesuffix (n ++ "!") "!" = n := by
  unfold Txt.removesuffix
  have l1 : ("!" : Str).length = 1 := rfl
  have ln : (n ++ "!" : Str).length = n.length + 1 := by rw [app_len]; rfl
  have hs : PySem.Builtin.Str.subAt (n ++ "!") "!" ((n ++ "!" : Str).length - ("!" : Str).length) = true := by
    rw [sub_at, ln, l1, Nat.add_sub_cancel, decide_eq_true_iff, tl_append, len_tl n, List.drop_left]
    rfl
  rw [hs]
  have le : (decide (("!" : Str).length ≤ (n ++ "!" : Str).length) && true) = true := by rw [ln, l1]; simp
  rw [if_pos le]
  unfold Txt.affix
  rw [ln, l1]
  have nb : ((n.length + 1 - 1 - 0 == n.length + 1) = true) = False := by simp
  simp only [nb, if_false]
  refine ext_tl ?_
  rw [tl_strSub, List.drop_zero, Nat.sub_zero, Nat.add_sub_cancel, tl_append, len_tl n, List.take_left]
theorem strip_none {n : Str} (h : isName n = true) : Txt.removesuffix n "!" = n := by
  unfold Txt.removesuffix
  obtain ⟨ne, hc⟩ := name_signs h
  have l1 : ("!" : Str).length = 1 := rfl
  have hs : PySem.Builtin.Str.subAt n "!" (n.length - ("!" : Str).length) = false := by
    rw [sub_at, decide_eq_false_iff_not]
    intro e
    have m : (33 : Nat) ∈ ((tl n).drop (n.length - ("!" : Str).length)).take ("!" : Str).length := by rw [e]; decide
    exact (hc 33 (List.mem_of_mem_drop (List.mem_of_mem_take m))).2.1 rfl
  rw [hs, Bool.and_false]
  rfl
theorem mark_ne (n : Str) : ((n : Str) == n ++ "!") = false := by
  rw [beq_eq_false_iff_ne]
  intro e
  have := congrArg Str.length e
  rw [app_len] at this
  have l1 : ("!" : Str).length = 1 := rfl
  omega
/-! splitting at a separator whose second sign is in no part -/
theorem free2 {s t : Nat} {S p q : List Nat} (hst : s ≠ t) (h : t ∉ p) (hq : q = [] ∨ ∃ r, q = s :: r) : ∀ i, i < p.length → pre (s :: t :: S) ((p ++ q).drop i) = false := fun i hi => by
  cases hp : pre (s :: t :: S) ((p ++ q).drop i) with
  | false => rfl
  | true =>
    exfalso
    have e : ((p ++ q).drop i).take (s :: t :: S).length = s :: t :: S := eq_of_beq hp
    have e1 : (((p ++ q).drop i).take (s :: t :: S).length)[1]? = some t := by rw [e]; rfl
    have e2 : (p ++ q)[i + 1]? = some t := by
      rw [List.getElem?_take_of_lt (by simp), List.getElem?_drop] at e1
      exact e1
    by_cases hl : i + 1 < p.length
    · rw [List.getElem?_append_left hl] at e2
      exact h (List.mem_of_getElem? e2)
    · rw [List.getElem?_append_right (by omega), show i + 1 - p.length = 0 by omega] at e2
      rcases hq with rfl | ⟨r, rfl⟩
      · simp at e2
      · simp at e2; exact hst e2
theorem spl_join2 {s t : Nat} {S : List Nat} (hst : s ≠ t) : ∀ {parts : List (List Nat)}, parts ≠ [] → (∀ p ∈ parts, t ∉ p) → spl (s :: t :: S) 0 [] (joinL (s :: t :: S) parts) = parts
  | [], h, _ => absurd rfl h
  | [p], _, hp => by
    have z := spl_last (S := s :: t :: S) (p := p) (acc := []) fun i hi => by
      have := free2 (S := S) hst (hp p (List.mem_singleton.mpr rfl)) (.inl rfl) i hi
      rwa [List.append_nil] at this
    exact z
  | p :: q :: r, _, hp => by
    show spl (s :: t :: S) 0 [] (p ++ (s :: t :: S ++ joinL (s :: t :: S) (q :: r))) = p :: q :: r
    have z := spl_part (S := s :: t :: S) (p := p) (rest := joinL (s :: t :: S) (q :: r)) (acc := []) (by simp) fun i hi => free2 (S := S) hst (hp p (List.mem_cons_self ..)) (.inr ⟨_, rfl⟩) i hi
    rw [z, List.nil_append, spl_join2 hst (by simp) fun z hz => hp z (List.mem_cons_of_mem _ hz)]
theorem split_join2 {y : Str} {s t : Nat} {S : List Nat} (ey : tl y = s :: t :: S) (hst : s ≠ t) (hk : y.cps.all (· < 256) = true) {parts : List Str} (hne : parts ≠ []) (hp : ∀ p ∈ parts, t ∉ tl p) : Txt.split (Txt.join y parts) y = parts := by
  refine map_tl_inj ?_
  rw [split_spl _ y (by rw [ey]; simp) (kind_ok hk), join_eq, tl_join, ey]
  refine spl_join2 hst (fun e => hne (List.map_eq_nil_iff.mp e)) fun p h => ?_
  obtain ⟨z, hz, rfl⟩ := List.mem_map.mp h
  exact hp z hz
theorem mem_joinL {S : List Nat} {c : Nat} : ∀ {parts : List (List Nat)}, c ∈ joinL S parts → c ∈ S ∨ ∃ p ∈ parts, c ∈ p
  | [], h => by simp [joinL] at h
  | [p], h => .inr ⟨p, by simp, h⟩
  | p :: q :: r, h => by
    have h : c ∈ p ++ (S ++ joinL S (q :: r)) := h
    rcases List.mem_append.mp h with h | h
    · exact .inr ⟨p, by simp, h⟩
    · rcases List.mem_append.mp h with h | h
      · exact .inl h
      · rcases mem_joinL h with h | ⟨z, hz, h⟩
        · exact .inl h
        · exact .inr ⟨z, by simp [hz], h⟩
/-! places, rows, runs -/
theorem tl_pl (p : Pl) : tl (plText p) = tl p.1 ++ (if p.2 = true then [33] else []) := by
  unfold plText
  split
  · rw [tl_append]; rfl
  · rw [List.append_nil]
theorem pl_signs {p : Pl} (h : isName p.1 = true) : ∀ c ∈ tl (plText p), c ≠ 32 ∧ c ≠ 124 := fun c hc => by
  rw [tl_pl] at hc
  rcases List.mem_append.mp hc with hc | hc
  · have := (name_signs h).2 c hc; exact ⟨this.1, this.2.2⟩
  · split at hc
    · have : c = 33 := by simpa using hc
      omega
    · simp at hc
theorem pl_len {p : Pl} (h : isName p.1 = true) : (plText p).length ≤ 5 := by
  have := isName_len h
  unfold plText
  split
  · rw [app_len]; have l1 : ("!" : Str).length = 1 := rfl; omega
  · omega
theorem read_pl {p : Pl} (h : isName p.1 = true) : Txt.removesuffix (plText p) "!" = p.1 := by
  unfold plText
  split
  · exact strip_mark _
  · exact strip_none h
theorem pl_inj {p q : Pl} (h1 : isName p.1 = true) (h2 : isName q.1 = true) (e : plText p = plText q) : p = q := by
  have e1 : p.1 = q.1 := by rw [← read_pl h1, ← read_pl h2, e]
  have e2 : p.2 = q.2 := by
    have := congrArg tl e
    rw [tl_pl, tl_pl, e1, List.append_cancel_left_eq] at this
    cases hp : p.2 <;> cases hq : q.2 <;> simp [hp, hq] at this ⊢
  exact Prod.ext e1 e2
theorem split_row {r : List Pl} (ne : r ≠ []) (h : ∀ p ∈ r, isName p.1 = true) : Txt.split (rowText r) " " = r.map plText :=
  split_join (s := 32) (S := []) rfl (by decide +kernel) (fun e => ne (List.map_eq_nil_iff.mp e)) fun z hz => by
    obtain ⟨p, hp, rfl⟩ := List.mem_map.mp hz
    exact fun m => (pl_signs (h p hp) 32 m).1 rfl
theorem row_signs {r : List Pl} (h : ∀ p ∈ r, isName p.1 = true) : (124 : Nat) ∉ tl (rowText r) := fun m => by
  unfold rowText at m
  rw [join_eq, tl_join] at m
  rcases mem_joinL m with m | ⟨z, hz, m⟩
  · exact absurd m (by decide)
  · rw [List.map_map] at hz
    obtain ⟨p, hp, rfl⟩ := List.mem_map.mp hz
    exact (pl_signs (h p hp) 124 m).2 rfl
theorem split_run {R : List (List Pl)} (G : Good R) : Txt.split (runText R) " | " = R.map rowText :=
  split_join2 (s := 32) (t := 124) (S := [32]) rfl (by decide) (by decide +kernel) (fun e => G.ne (List.map_eq_nil_iff.mp e)) fun z hz => by
    obtain ⟨r, hr, rfl⟩ := List.mem_map.mp hz
    exact row_signs (G.row r hr).2.2
theorem map_inj_on {α β : Type} {f : α → β} : ∀ {l m : List α}, (∀ x ∈ l, ∀ y ∈ m, f x = f y → x = y) → l.map f = m.map f → l = m
  | [], [], _, _ => rfl
  | [], _ :: _, _, h => by simp at h
  | _ :: _, [], _, h => by simp at h
  | x :: l, y :: m, hf, h => by
    rw [List.map_cons, List.map_cons, List.cons.injEq] at h
    rw [hf x (by simp) y (by simp) h.1, map_inj_on (fun a ha b hb => hf a (by simp [ha]) b (by simp [hb])) h.2]
theorem row_inj {r s : List Pl} (h1 : r ≠ []) (h2 : ∀ p ∈ r, isName p.1 = true) (h3 : s ≠ []) (h4 : ∀ p ∈ s, isName p.1 = true) (e : rowText r = rowText s) : r = s := by
  have : Txt.split (rowText r) " " = Txt.split (rowText s) " " := by rw [e]
  rw [split_row h1 h2, split_row h3 h4] at this
  exact map_inj_on (fun x hx y hy => pl_inj (h2 x hx) (h4 y hy)) this
theorem run_inj {R S : List (List Pl)} (G : Good R) (G' : Good S) (e : runText R = runText S) : R = S := by
  have : Txt.split (runText R) " | " = Txt.split (runText S) " | " := by rw [e]
  rw [split_run G, split_run G'] at this
  exact map_inj_on (fun x hx y hy => row_inj (G.row x hx).1 (G.row x hx).2.2 (G'.row y hy).1 (G'.row y hy).2.2) this
theorem joinL_len {S : List Nat} {m : Nat} : ∀ {parts : List (List Nat)}, (∀ p ∈ parts, p.length ≤ m) → (joinL S parts).length ≤ parts.length * (m + S.length)
  | [], _ => by simp [joinL]
  | [p], h => by
    have := h p (by simp)
    show p.length ≤ 1 * (m + S.length)
    omega
  | p :: q :: r, h => by
    have h1 := h p (by simp)
    have h2 := joinL_len (S := S) (m := m) (parts := q :: r) fun z hz => h z (by simp [hz])
    show (p ++ (S ++ joinL S (q :: r))).length ≤ (r.length + 1 + 1) * (m + S.length)
    rw [List.length_append, List.length_append, Nat.succ_mul]
    rw [List.length_cons] at h2
    omega
theorem join_len {y : Str} {m : Nat} {parts : List Str} (h : ∀ p ∈ parts, p.length ≤ m) : (Txt.join y parts).length ≤ parts.length * (m + y.length) := by
  rw [join_eq, len_tl, tl_join, len_tl y]
  have := joinL_len (S := tl y) (m := m) (parts := parts.map tl) fun p hp => by
    obtain ⟨z, hz, rfl⟩ := List.mem_map.mp hp
    rw [← len_tl]; exact h z hz
  rwa [List.length_map] at this
theorem row_len {r : List Pl} (hl : r.length < 1000) (h : ∀ p ∈ r, isName p.1 = true) : (rowText r).length ≤ 6000 := by
  have := join_len (y := " ") (m := 5) (parts := r.map plText) fun z hz => by
    obtain ⟨p, hp, rfl⟩ := List.mem_map.mp hz
    exact pl_len (h p hp)
  have l1 : (" " : Str).length = 1 := rfl
  rw [List.length_map, l1] at this
  show (Txt.join " " (r.map plText)).length ≤ 6000
  omega
theorem run_len {R : List (List Pl)} (G : Good R) : (runText R).length ≤ 6003000 := by
  have := join_len (y := " | ") (m := 6000) (parts := R.map rowText) fun z hz => by
    obtain ⟨r, hr, rfl⟩ := List.mem_map.mp hz
    exact row_len (G.row r hr).2.1 (G.row r hr).2.2
  have l1 : (" | " : Str).length = 3 := rfl
  rw [List.length_map, l1] at this
  show (Txt.join " | " (R.map rowText)).length ≤ 6003000
  have := G.len
  omega
theorem sum_le {m : Nat} : ∀ {l : List Nat}, (∀ x ∈ l, x ≤ m) → l.sum ≤ l.length * m
  | [], _ => by simp
  | x :: l, h => by
    have h1 := h x (by simp)
    have h2 := sum_le (m := m) (l := l) fun y hy => h y (by simp [hy])
    rw [List.sum_cons, List.length_cons, Nat.succ_mul]; omega
theorem run_app {R S : List (List Pl)} (h1 : R ≠ []) (h2 : S ≠ []) : runText (R ++ S) = (runText R ++ " | ") ++ runText S := by
  have go : ∀ (y : Str) (xs ys : List Str), xs ≠ [] → ys ≠ [] → Str.join y (xs ++ ys) = (Str.join y xs ++ y) ++ Str.join y ys := fun y xs => by
    induction xs with
    | nil => intro ys h; exact absurd rfl h
    | cons x xs ih =>
      intro ys _ hy
      cases xs with
      | nil =>
        cases ys with
        | nil => exact absurd rfl hy
        | cons z zs => rfl
      | cons z zs =>
        have := ih ys (by simp) hy
        show x ++ y ++ Str.join y ((z :: zs) ++ ys) = ((x ++ y ++ Str.join y (z :: zs)) ++ y) ++ Str.join y ys
        rw [this]
        refine ext_tl ?_
        simp only [tl_append, List.append_assoc]
  unfold runText
  rw [List.map_append, join_eq, join_eq, join_eq]
  exact go _ _ _ (fun e => h1 (List.map_eq_nil_iff.mp e)) (fun e => h2 (List.map_eq_nil_iff.mp e))
end RD

namespace RD
open PySem L2 DL PySem.Spec PyProof.Rows TL
/-! ascending texts, each once, are told by their members -/
theorem rising_mem : ∀ (l : List Str) (p : Str), risingS p l = true → ∀ x ∈ l, ¬ x.cps.toList < p.cps.toList
  | [], _, _, x, hx => by simp at hx
  | y :: l, p, h, x, hx => by
    unfold risingS at h
    rw [Bool.and_eq_true, Bool.not_eq_true', ltCps_eq, decide_eq_false_iff_not] at h
    rcases List.mem_cons.mp hx with rfl | hx
    · exact h.1
    · intro hlt
      have h2 := rising_mem l y h.2 x hx
      by_cases hp : y.cps.toList < p.cps.toList
      · exact h.1 hp
      · -- p ≤ y ≤ x < p
        have e1 : p.cps.toList ≤ y.cps.toList := List.not_lt.mp hp
        have e2 : y.cps.toList ≤ x.cps.toList := List.not_lt.mp h2
        exact absurd hlt (List.not_lt.mpr (List.le_trans e1 e2))
theorem sorted_tail {x : Str} {l : List Str} (h : sortedS (x :: l) = true) : sortedS l = true := by
  cases l with
  | nil => rfl
  | cons y l =>
    have h : risingS x (y :: l) = true := h
    unfold risingS at h
    rw [Bool.and_eq_true] at h
    exact h.2
theorem asc_unique : ∀ (xs ys : List Str), xs.Nodup → ys.Nodup → sortedS xs = true → sortedS ys = true → (∀ z, z ∈ xs ↔ z ∈ ys) → xs = ys
  | [], [], _, _, _, _, _ => rfl
  | [], y :: ys, _, _, _, _, h => by have := (h y).mpr (by simp); simp at this
  | x :: xs, [], _, _, _, _, h => by have := (h x).mp (by simp); simp at this
  | x :: xs, y :: ys, n1, n2, s1, s2, h => by
    have e : x = y := by
      have hx := (h x).mp (by simp)
      have hy := (h y).mpr (by simp)
      rcases List.mem_cons.mp hx with e | hx
      · exact e
      · rcases List.mem_cons.mp hy with e | hy
        · exact e.symm
        · have a := rising_mem ys y s2 x hx
          have b := rising_mem xs x s1 y hy
          exact Str.ext' (Array.toList_inj.mp (List.le_antisymm (List.not_lt.mp b) (List.not_lt.mp a)))
    subst e
    obtain ⟨m1, k1⟩ := List.nodup_cons.mp n1
    obtain ⟨m2, k2⟩ := List.nodup_cons.mp n2
    rw [asc_unique xs ys k1 k2 (sorted_tail s1) (sorted_tail s2) fun z => ⟨fun hz => ?_, fun hz => ?_⟩]
    · rcases List.mem_cons.mp ((h z).mp (by simp [hz])) with rfl | hz'
      · exact absurd hz m1
      · exact hz'
    · rcases List.mem_cons.mp ((h z).mpr (by simp [hz])) with rfl | hz'
      · exact absurd hz m2
      · exact hz'
theorem AscOf.unique {xs ys : List Str} {p q : Str → Prop} (h1 : AscOf xs p) (h2 : AscOf ys q) (h : ∀ z, p z ↔ q z) : xs = ys :=
  asc_unique xs ys h1.1 h2.1 h1.2.1 h2.2.1 fun z => (h1.2.2 z).trans ((h z).trans (h2.2.2 z).symm)
/-! rows over few names -/
structure GW (ws : List Str) (n : Nat) (R : List (List Pl)) : Prop where
  ne : R ≠ []
  len : R.length ≤ n
  row : ∀ r ∈ R, r ≠ [] ∧ r.length ≤ 6 ∧ ∀ p ∈ r, p.1 ∈ ws
section
variable {ws : List Str} {n m : Nat} {R S : List (List Pl)}
theorem GW.app (h : GW ws n R) (g : GW ws m S) : GW ws (n + m) (R ++ S) := ⟨fun e => h.ne (List.append_eq_nil_iff.mp e).1, by rw [List.length_append]; have := h.len; have := g.len; omega, fun r hr => (List.mem_append.mp hr).elim (h.row r) (g.row r)⟩
theorem GW.good (h : GW ws n R) (hn : n < 1000) (hw : ∀ x ∈ ws, isName x = true) : Good R := ⟨h.ne, by have := h.len; omega, fun r hr => ⟨(h.row r hr).1, by have := (h.row r hr).2.1; omega, fun p hp => hw _ ((h.row r hr).2.2 p hp)⟩⟩
theorem GW.few (h : GW ws n R) (hl : ws.length < 64) : Few R := ⟨ws, hl, fun r hr p hp => (h.row r hr).2.2 p hp⟩
theorem GW.flat (h : GW ws n R) : (R.flatMap id).length ≤ n * 6 := by
  rw [List.length_flatMap]
  have h1 := sum_le (m := 6) (l := R.map fun r => (id r).length) fun z hz => by
    obtain ⟨r, hr, rfl⟩ := List.mem_map.mp hz
    exact (h.row r hr).2.1
  rw [List.length_map] at h1
  have := h.len
  have : R.length * 6 ≤ n * 6 := Nat.mul_le_mul_right 6 this
  omega
theorem GW.ys {ys : List Str} (h : GW ws n R) (a : AscOf ys (inR R)) : ys.length ≤ ws.length := nodup_le a.1 fun y hy => by
  obtain ⟨r, hr, p, hp, e⟩ := (a.2.2 y).mp hy
  rw [← e]; exact (h.row r hr).2.2 p hp
end
theorem inR_app {R S : List (List Pl)} (y : Str) : inR (R ++ S) y ↔ inR R y ∨ inR S y := by
  unfold inR
  constructor
  · rintro ⟨r, hr, q⟩
    exact (List.mem_append.mp hr).elim (fun h => .inl ⟨r, h, q⟩) fun h => .inr ⟨r, h, q⟩
  · rintro (⟨r, hr, q⟩ | ⟨r, hr, q⟩)
    · exact ⟨r, List.mem_append_left _ hr, q⟩
    · exact ⟨r, List.mem_append_right _ hr, q⟩
def ordD (s : List Str) : D := .tup (s.map .str)
theorem eOrds_eq (R : List (List Pl)) : eOrds R = .tup ((R.map fun r => r.map (·.1)).map ordD) := by
  unfold eOrds
  rw [List.map_map]
  congr 1
  refine List.map_congr_left fun r _ => ?_
  simp [eOrd, ordD, Function.comp]
theorem deq_ords (R S : List (List Pl)) : deq (eOrds R) (eOrds S) = decide ((R.map fun r => r.map (·.1)) = S.map fun r => r.map (·.1)) := by
  rw [eOrds_eq, eOrds_eq]
  exact deq_tup_map (enc := ordD) (fun r s => deq_ord r s) _ _
theorem pl_ords (R : List (List Pl)) : isPl (eOrds R) = true := by
  rw [eOrds_eq]
  exact isPls_map (enc := ordD) (fun s => isPls_map (enc := D.str) (fun _ => rfl) s) _
theorem dep_ords (R : List (List Pl)) : (toPy (eOrds R)).depth ≤ 60 := by
  rw [eOrds_eq]
  exact Nat.le_trans (dep_tup (m := 2) (enc := ordD) (fun r => Nat.le_trans (dep_tup (m := 0) (enc := D.str) (fun x => Nat.le_refl 0) r) (by decide)) _) (by decide)
theorem pl_ns (ys : List Str) : isPl (eNs ys) = true := isPls_map (enc := D.str) (fun _ => rfl) ys
theorem dep_ns (ys : List Str) : (toPy (eNs ys)).depth ≤ 60 := Nat.le_trans (dep_tup (m := 0) (enc := D.str) (fun x => Nat.le_refl 0) ys) (by decide)
end RD

/-! Tables, told of data. -/
namespace TB
open PySem L2 DL RD PySem.Spec PyProof.Rows
abbrev Sg := Str × Str
abbrev Sf := Str → List Sg
def dW : List Str := ["sets", "clears", "leaves"]
def lW : List Str := ["never", "on", "off"]
def IsSg (s : Sg) : Prop := s.1 ∈ dW ∧ s.2 ∈ lW
def eSg (s : Sg) : D := .tup [.str s.1, .str s.2]
def eSs (k : Bool) (ss : List Sg) : D := sq k (ss.map eSg)
def eTab (k : Bool) (ns : List Str) (f : Sf) : D := .dct (ns.map .inr) (ns.map fun n => eSs k (f n))
structure GoodT (ns : List Str) (f : Sf) (m : Nat) : Prop where
  ne : ns ≠ []
  len : ns.length < 60
  nd : ns.Nodup
  name : ∀ n ∈ ns, isName n = true
  om : m = 1 ∨ m = 2
  sl : ∀ n ∈ ns, (f n).length = m
  sg : ∀ n ∈ ns, ∀ s ∈ f n, IsSg s
theorem GoodT.perm {ns ys : List Str} {f : Sf} {m : Nat} (h : GoodT ns f m) (p : ys.Perm ns) : GoodT ys f m where
  ne := fun e => h.ne (by rw [e] at p; exact p.symm.eq_nil)
  len := by rw [p.length_eq]; exact h.len
  nd := p.nodup_iff.mpr h.nd
  name := fun n hn => h.name n (p.mem_iff.mp hn)
  om := h.om
  sl := fun n hn => h.sl n (p.mem_iff.mp hn)
  sg := fun n hn => h.sg n (p.mem_iff.mp hn)
def eTable (CT : Addr) (ys : List Str) (f : Sf) (m : Nat) : D := .obj CT ["names", "_signs", "things"] [.tup (ys.map .str), eTab true ys f, .int (m : Nat)]
/-! how rows go -/
def failsB (ss : List Sg) (h : List Bool) : Bool := (List.zipWith (fun (s : Sg) (b : Bool) => s.2 == (if b then "on" else "off" : Str)) ss h).any id
def touch1 (d : Str) (b : Bool) : Bool := if d = "sets" then true else if d = "clears" then false else b
def touchB (ss : List Sg) (h : List Bool) : List Bool := List.zipWith (fun (s : Sg) (b : Bool) => touch1 s.1 b) ss h
def playB (f : Sf) : List Bool → List Str → List Pl
  | _, [] => []
  | h, n :: ns => (n, failsB (f n) h) :: playB f (touchB (f n) h) ns
def noB (m : Nat) : List Bool := List.replicate m false
def alone (f : Sf) (m : Nat) (b : Str) : Bool := failsB (f b) (noB m)
def behind (f : Sf) (m : Nat) (a b : Str) : Bool := failsB (f b) (touchB (f a) (noB m))
/-! promises -/
def tfIsSign : Tf := fun rg ds Q => ∃ s, ds = [eSg s] ∧ IsSg s ∧ Q (.bl true)
def tfAreSigns : Tf := fun rg ds Q => ∃ k ss, ds = [eSs k ss] ∧ (ss.length = 1 ∨ ss.length = 2) ∧ (∀ s ∈ ss, IsSg s) ∧ Q (.bl true)
def tfWrongT : Tf := fun rg ds Q => ∃ k ns f m, ds = [eTab k ns f] ∧ GoodT ns f m ∧ Q .non
def tfFails : Tf := fun rg ds Q => ∃ k ss h, ds = [eSs k ss, .lst (h.map .bl)] ∧ ss.length ≤ 2 ∧ h.length ≤ 2 ∧ Q (.bl (failsB ss h))
def tfTouched : Tf := fun rg ds Q => ∃ k ss h, ds = [eSs k ss, .lst (h.map .bl)] ∧ ss.length ≤ 2 ∧ h.length ≤ 2 ∧ (∀ s ∈ ss, IsSg s) ∧ Q (.lst ((touchB ss h).map .bl))
def tfInitT : Tfs := fun rg ds Q => ∃ k ns f m, ds = [eTab k ns f] ∧ GoodT ns f m ∧ ∀ ys, ys.Perm ns → sortedS ys = true → Q [.tup (ys.map .str), eTab true ys f, .int (m : Nat)]
def tfCheck (CT : Addr) : Tf := fun rg ds Q => ∃ ys f m n, ds = [eTable CT ys f m, .str n] ∧ ys.length < 60 ∧ n ∈ ys ∧ Q .non
def tfPlayed (CT : Addr) : Tf := fun rg ds Q => ∃ ys f m row, ds = [eTable CT ys f m, .lst (row.map .str)] ∧ GoodT ys f m ∧ row.length < 1000 ∧ (∀ n ∈ row, n ∈ ys) ∧ Q (.lst ((playB f (noB m) row).map ePl))
def tfAB (CT : Addr) : Tf := fun rg ds Q => ∃ ys f m a b, ds = [eTable CT ys f m, .str a, .str b] ∧ GoodT ys f m ∧ a ∈ ys ∧ b ∈ ys ∧ Q (.tup [.bl (alone f m b), .bl (behind f m a b)])
def tfPoi (CT : Addr) (g : Bool → Bool → Bool) : Tf := fun rg ds Q => ∃ ys f m a b, ds = [eTable CT ys f m, .str a, .str b] ∧ GoodT ys f m ∧ a ∈ ys ∧ b ∈ ys ∧ Q (.bl (g (alone f m b) (behind f m a b)))
def isPoi (x y : Bool) : Bool := !x && y
def isHeal (x y : Bool) : Bool := x && !y
/-- what of the class is asked -/
structure OT (K : PySem.W.Frag) (mg : Str → Option Value) (CT : Addr) : Prop where
  cls : Cls K CT
  names : NoAttr K CT "names"
  signs : NoAttr K CT "_signs"
  things : NoAttr K CT "things"
  mg : mg "Table" = some (.ref CT)
/-- the module's tuples, and its dict -/
structure OG (K : PySem.W.Frag) (w : World) (mg : Str → Option Value) : Prop where
  does : ∃ a, mg "DOES" = some (.ref a) ∧ KTup K a (dW.map V.str)
  looks : ∃ a, mg "LOOKS" = some (.ref a) ∧ KTup K a (lW.map V.str)
  tch : ∃ a es n, mg "TOUCHES" = some (.ref a) ∧ KDict K w a es n ∧ PySem.W.nsIn K a "sets" = some (some (.bool true)) ∧ PySem.W.nsIn K a "clears" = some (some (.bool false)) ∧ PySem.W.nsIn K a "leaves" = some none
/-! dicts of tables -/
theorem valD_map {ns : List Str} {g : Str → D} {n : Str} (h : n ∈ ns) : valD (ns.map .inr) (ns.map g) (.inr n) = some (g n) := by
  induction ns with
  | nil => simp at h
  | cons x xs ih =>
    by_cases e : x = n
    · subst e; simp [valD]
    · have hx : n ∈ xs := by
        rcases List.mem_cons.mp h with h | h
        · exact absurd h.symm e
        · exact h
      have := ih hx
      simp only [valD, List.map_cons, List.zip_cons_cons, List.find?_cons] at this ⊢
      rw [show decide ((Sum.inr x : Key) = Sum.inr n) = false from by simpa using e]
      exact this
theorem noD_Sg (s : Sg) : noD (eSg s) = true := rfl
theorem noD_Ss (k : Bool) (ss : List Sg) : noD (eSs k ss) = true := by
  cases k
  · show noDs (ss.map eSg) = true; exact noDs_map noD_Sg ss
  · show noDs (ss.map eSg) = true; exact noDs_map noD_Sg ss
theorem noDs_tab (k : Bool) (ns : List Str) (f : Sf) : noDs (ns.map fun n => eSs k (f n)) = true := noDs_map (fun n => noD_Ss k (f n)) ns
theorem zipD_map {α β : Type} {ea : α → D} {eb : β → D} : ∀ (xs : List α) (ys : List β), DL.pairD (xs.map ea) (ys.map eb) = (xs.zip ys).map fun p => .tup [ea p.1, eb p.2]
  | [], _ => by simp [DL.pairD]
  | _ :: _, [] => by simp [DL.pairD]
  | x :: xs, y :: ys => by
    have := zipD_map (ea := ea) (eb := eb) xs ys
    simp only [DL.pairD, List.map_cons, List.zipWith_cons_cons, List.zip_cons_cons] at this ⊢
    rw [this]
theorem pls_str : ∀ ws : List Str, isPls (ws.map .str) = true
  | [] => rfl
  | _ :: ws => by simp [isPls, isPl, pls_str ws]
theorem inD_str {x : Str} {ws : List Str} (h : x ∈ ws) : inD (.str x) (ws.map .str) = true := by
  unfold inD
  rw [List.any_eq_true]
  exact ⟨.str x, List.mem_map.mpr ⟨x, h, rfl⟩, by rw [deq_str]; simp⟩
theorem items_map (g : Str → D) : ∀ ns : List Str, dkD .items (ns.map .inr) (ns.map g) = ns.map fun n => .tup [.str n, g n]
  | [] => rfl
  | n :: ns => by
    have := items_map g ns
    simp only [dkD, List.map_cons, List.zipWith_cons_cons] at this ⊢
    rw [this]; rfl
theorem rep_noB : ∀ m : Nat, (List.replicate m [D.bl false]).flatten = (noB m).map .bl
  | 0 => rfl
  | m + 1 => by
    have := rep_noB m
    unfold noB at this ⊢
    rw [List.replicate_succ, List.replicate_succ, List.flatten_cons, List.map_cons, this]; rfl
theorem touch_len {ss : List Sg} {h : List Bool} : (touchB ss h).length ≤ ss.length := by unfold touchB; rw [List.length_zipWith]; omega
theorem touchB_eq (ss : List Sg) (h : List Bool) : touchB ss h = (ss.zip h).map fun p => touch1 p.1.1 p.2 := by
  unfold touchB
  rw [List.zip_eq_zipWith, List.map_zipWith]
theorem failsB_eq (ss : List Sg) (h : List Bool) : failsB ss h = ((ss.zip h).map fun p => p.1.2 == (if p.2 then "on" else "off" : Str)).any id := by
  unfold failsB
  rw [List.zip_eq_zipWith, List.map_zipWith]
theorem sDc_at {α : Type} {xs : List α} {enc : α → D} {nm : α → Str} {gD : α → D} {env : En} {vs : List Nat} {ti : TDs} {sg : SG} {st : TB} {sk t : TD} {R : D → Prop} (hw : ownFree env vs = true) (hti : ∀ Z : List D → Prop, Z (xs.map enc) → ti env Z) (hz : xs.length ≤ 1000000) (nd : (xs.map nm).Nodup)
    (step : ∀ x ∈ xs, ∀ (Qy : D → D → Prop) (Qn : Prop), Qy (.str (nm x)) (gD x) → sg (enc x) (wipeE env vs) fun env2 => st env2 fun b => if b = true then sk env2 fun y => t env2 fun d => Qy y d else Qn)
    (fin : R (.dct (xs.map fun x => .inr (nm x)) (xs.map gD))) : sDc ti sg st sk t vs env R := ⟨hw, hti _ (dc_at rfl hz nd step fin)⟩
end TB

/-! enumerate(a list). -/
namespace DL
open PySem L2 PySem.Spec PyProof.Rows
def enumD (ds : List D) : List D := ds.zipIdx.map fun p => .tup [.int (p.2 : Nat), p.1]
theorem enumD_length {ds : List D} : (enumD ds).length = ds.length := by simp [enumD]
theorem enumD_get {ds : List D} {i : Nat} {d : D} (h : ds[i]? = some d) : (enumD ds)[i]? = some (.tup [.int (i : Nat), d]) := by
  simp [enumD, List.getElem?_map, List.getElem?_zipIdx, h]
def sEnumL (t : TD) : TDs := fun env Q => t env fun d => match d with | .lst ds => Q (enumD ds) | _ => False
section
variable {X : Cx} {K : PySem.W.Frag} {rg : Rg} {e : Expr} {te : TE} {t : TD} {o : Bool}
theorem di_enum {p pos tpos : Pos} {elts : List Expr} {kk : Nat} (hg : Gl X "enumerate") (hm : X.mg "enumerate" = none) (h : DP X K rg e te t) (hs : starEach [e] X.env = [(false, eval e X.env)] := by rfl) :
    DI X K rg o (.Tuple elts kk tpos) (.Call (.Name "enumerate" p) [e] [] pos) (iEnum K (tCons te tNil)) (sEnumL t) := by
  cases h.kx
  exact ⟨rfl, pi_enum hg hm (pa_cons h.pe pa_nil (by rw [hs]; rfl)) hs, fun c hc pn H0 env σ H Qd R S ht k => by
    refine h.rf c hc pn H0 env σ H _ _ S ht fun d v H1 q1 k1 j1 r1 => ?_
    cases d with
    | lst ds =>
      cases r1 with
      | lst m e a =>
      rename_i l vs
      have sub : ∀ b, Zof o c env b → Mof c env b := fun b z => by
        cases o with
        | true => exact .inl z
        | false => exact z
      refine ⟨l, vs, rfl, SqL.of e, k (enumD ds) _ _ _ H1 q1 k1 j1 (by rw [enumD_length, ← RpAll.length a]; exact walk_enum) (fun H2 z => SqL.of (z _ _ e fun q => m (sub _ q))) ?_⟩
      intro M i H2 x H3 hi _ k2 hm' dom y
      obtain ⟨T, x1, x2, rfl, hT, rfl, h1, h2⟩ := y
      cases h1
      obtain ⟨d, hd, rd⟩ := RpAll.get a h2
      have r1 : Rp X.K (fun b => Mof c env b ∨ M b) H1 x2 d := Rp.anti (fun b o e z => z.elim id (hm' b o e)) rd
      have r2 : Rp X.K (fun b => Mof c env b ∨ M b) H2 x2 d := Rp.keep (k2.mono fun b z => .inl z) r1
      have r3 : Rp X.K M (upd H2 T (.tup [.int (i : Nat), x2])) x2 d := Rp.keep (Keep.upd_new hT) (Rp.anti (fun _ _ _ z => .inr z) r2)
      exact ⟨_, enumD_get hd, fun b o e => by rw [upd_ne (ne_of_none e hT)]; exact e, .tup (fun z => dom T z hT) upd_same (.cons (.int _) (.cons r3 .nil))⟩
    | _ => exact q1.elim⟩
end
end DL

/-! How the laws tell of tables: by the last test back that touches. -/
namespace TB
open PySem L2 DL RD PySem.Spec
def doesAt (ss : List Sg) (t : Nat) : Str := (ss.getD t ("", "")).1
def stateB (f : Sf) : List Str → Nat → Bool
  | [], _ => false
  | n :: r, t => if doesAt (f n) t = "leaves" then stateB f r t else doesAt (f n) t == "sets"
def lawFrom (st : Nat → Bool) : Nat → List Sg → Bool
  | _, [] => false
  | t, s :: ss => if (s.2 == "on" && st t || s.2 == "off" && !st t) = true then true else lawFrom st (t + 1) ss
theorem look_or {l : Str} (h : l ∈ lW) (b : Bool) : (l == "on" && b || l == "off" && !b) = (l == (if b then "on" else "off" : Str)) := by
  simp only [lW, List.mem_cons, List.not_mem_nil, or_false] at h
  rcases h with rfl | rfl | rfl <;> cases b <;> decide
theorem touch_state {d : Str} (h : d ∈ dW) : (if d = "leaves" then false else d == "sets") = touch1 d false := by
  simp only [dW, List.mem_cons, List.not_mem_nil, or_false] at h
  rcases h with rfl | rfl | rfl <;> decide
/-- a test by this law, where the things are so -/
theorem lawFrom_eq {st : Nat → Bool} : ∀ (ss : List Sg) (t : Nat) (h : List Bool), (∀ s ∈ ss, IsSg s) → h.length = ss.length → (∀ i b, h[i]? = some b → st (t + i) = b) → lawFrom st t ss = failsB ss h
  | [], _, _, _, _, _ => by simp [lawFrom, failsB]
  | s :: ss, t, [], _, hl, _ => by simp at hl
  | s :: ss, t, b :: h, hs, hl, hst => by
    have e0 : st t = b := by have := hst 0 b (by simp); simpa using this
    have ih := lawFrom_eq ss (t + 1) h (fun x hx => hs x (by simp [hx])) (by simpa using hl) (fun i c hc => by
      have := hst (i + 1) c (by simpa using hc)
      rw [← this]; congr 1; omega)
    have e1 : failsB (s :: ss) (b :: h) = ((s.2 == (if b then "on" else "off" : Str)) || failsB ss h) := by simp [failsB]
    rw [e1, lawFrom, e0, look_or (hs s (by simp)).2 b, ih]
    cases s.2 == (if b then "on" else "off" : Str) <;> simp
theorem law_alone {ns : List Str} {f : Sf} {m : Nat} (hG : GoodT ns f m) {b : Str} (hb : b ∈ ns) : lawFrom (stateB f []) 0 (f b) = alone f m b := by
  refine lawFrom_eq (f b) 0 (noB m) (hG.sg b hb) (by simp [noB, hG.sl b hb]) (fun i c hc => ?_)
  have : c = false := by
    have := List.mem_of_getElem? hc
    exact List.eq_of_mem_replicate this
  rw [this]; rfl
theorem law_behind {ns : List Str} {f : Sf} {m : Nat} (hG : GoodT ns f m) {a b : Str} (ha : a ∈ ns) (hb : b ∈ ns) : lawFrom (stateB f [a]) 0 (f b) = behind f m a b := by
  have la := hG.sl a ha
  refine lawFrom_eq (f b) 0 (touchB (f a) (noB m)) (hG.sg b hb) (by simp [touchB, noB, la, hG.sl b hb]) (fun i c hc => ?_)
  have hi : i < (touchB (f a) (noB m)).length := (List.getElem?_eq_some_iff.mp hc).1
  have hi2 : i < (f a).length := Nat.lt_of_lt_of_le hi touch_len
  have hc2 : c = touch1 (f a)[i].1 false := by
    rw [touchB_eq] at hc
    rw [List.getElem?_map] at hc
    have hz : ((f a).zip (noB m))[i]? = some ((f a)[i], false) := by
      rw [List.getElem?_zip_eq_some]
      exact ⟨by simp [hi2], by simp [noB, ← la, hi2]⟩
    rw [hz] at hc
    simpa using hc.symm
  have hd : doesAt (f a) (0 + i) = (f a)[i].1 := by
    unfold doesAt
    rw [Nat.zero_add, List.getD_eq_getElem?_getD, List.getElem?_eq_getElem hi2]; rfl
  show (if doesAt (f a) (0 + i) = "leaves" then false else doesAt (f a) (0 + i) == "sets") = c
  rw [hd, hc2]
  exact touch_state (hG.sg a ha _ (List.getElem_mem hi2)).1
theorem enum_map {α : Type} (enc : α → D) (xs : List α) : enumD (xs.map enc) = xs.zipIdx.map fun p => .tup [.int (p.2 : Nat), enc p.1] := by
  unfold enumD
  rw [List.zipIdx_map, List.map_map]
  rfl
/-! promises of the law's defs -/
abbrev rgT (a g : Addr) : Rg := ddRg "great" "mixed" a g
def tfSign : Tf := fun rg ds Q => ∃ a g, rg = rgT a g ∧ ds = [.raw (.ref a)] ∧ ∀ s, IsSg s → Q (eSg s)
def tfTable : Tf := fun rg ds Q => ∃ a g, ∃ ns : List Str, ∃ m : Nat, rg = rgT a g ∧ ds = [.raw (.ref a), .lst (ns.map .str), .int (m : Nat)] ∧ ns ≠ [] ∧ ns.length < 60 ∧ ns.Nodup ∧ (∀ n ∈ ns, isName n = true) ∧ (m = 1 ∨ m = 2) ∧ ∀ f, GoodT ns f m → Q (eTab false ns f)
def tfState : Tf := fun rg ds Q => ∃ ns f m, ∃ row : List Str, ∃ at_ t : Nat, ds = [eTab false ns f, .lst (row.map .str), .int (at_ : Nat), .int (t : Nat)] ∧ GoodT ns f m ∧ row.length < 60 ∧ (∀ n ∈ row, n ∈ ns) ∧ t < m ∧ Q (.bl (stateB f (row.take at_).reverse t))
def tfLF : Tf := fun rg ds Q => ∃ ns f m, ∃ row : List Str, ∃ n : Str, ∃ at_ : Nat, ds = [eTab false ns f, .lst (row.map .str), .int (at_ : Nat)] ∧ GoodT ns f m ∧ row.length < 60 ∧ (∀ n ∈ row, n ∈ ns) ∧ row[at_]? = some n ∧ Q (.bl (lawFrom (stateB f (row.take at_).reverse) 0 (f n)))
theorem for_at {α : Type} {zs : List D} {xs : List α} {enc : α → D} {sg : SG} {tb : TDS} {Dd : DEnds} (e : zs = xs.map enc) (I : Nat → En → Prop) {env : En} (i0 : I 0 env)
    (step : ∀ i x env', xs[i]? = some x → I i env' → sg (enc x) env' fun env2 => tb { Dd with nx := I (i + 1), ct := I (i + 1), bk := Dd.nx } env2) (fin : ∀ env', I xs.length env' → Dd.nx env') :
    ∃ I : Nat → En → Prop, I 0 env ∧ (∀ i x env', zs[i]? = some x → I i env' → sg x env' fun env2 => tb { Dd with nx := I (i + 1), ct := I (i + 1), bk := Dd.nx } env2) ∧ ∀ env', I zs.length env' → Dd.nx env' := by
  subst e
  exact for_run I i0 step fin
theorem pairs_map (g : Str → D) : ∀ ns : List Str, pairsD ns (ns.map g) = ns.map fun n => .tup [.str n, g n]
  | [] => rfl
  | n :: ns => by
    have := pairs_map g ns
    simp only [pairsD, List.map_cons, List.zipWith_cons_cons] at this ⊢
    rw [this]
end TB

/-! Walks over a text, a sign in a text, list.index of truth values. -/
namespace DL
open PySem L2 PySem.Spec PyProof.Rows
/-- the signs of a text -/
def signs (x : Str) : List Str := x.cps.toList.map fun c => ⟨#[c]⟩
def sStr (t : TD) : TDs := fun env Q => t env fun d => match d with | .str x => Q ((signs x).map .str) | _ => False
/-- a sign in a text -/
def fInS (neg : Bool) : F2 := fun d e Q => match d, e with | .str a, .str z => ∃ c : Nat, a = ⟨#[c]⟩ ∧ Q (.bl (if neg then !decide (c ∈ z.cps.toList) else decide (c ∈ z.cps.toList))) | _, _ => False
def rInSg (neg : Bool) : R2 := fun x y H Q => ∃ (c : Nat) (z : Str), x = .str ⟨#[c]⟩ ∧ y = .str z ∧ Q (.bl (if neg then !decide (c ∈ z.cps.toList) else decide (c ∈ z.cps.toList))) H
section
variable {X : Cx} {K : PySem.W.Frag} {rg : Rg} {e o : Expr} {te to : TE} {t x y : TD} {oo : Bool} {tg : Expr} {apos cpos pos : Pos}
theorem op_inSg : OpR X (compareOp .In) (rInSg false) := op_in_sign
theorem op_notInSg : OpR X (compareOp .NotIn) (rInSg true) := op_notIn_sign
theorem opd_inSg {neg : Bool} : OpD K (rInSg neg) (fInS neg) := fun M0 M H v w d e Qd Q hM r1 r2 hf k => by
  unfold fInS at hf
  split at hf
  · obtain ⟨c, rfl, q⟩ := hf
    exact ⟨c, _, r1.str, r2.str, k _ _ H q (fun _ _ e => e) (.bl _)⟩
  · exact hf.elim
theorem di_str (h : DP X K rg e te t) : DI X K rg oo tg e (iStr te) (sStr t) := by
  cases h.kx
  exact ⟨rfl, pi_str h.pe, fun c hc pn H0 env σ H Qd R S ht k => by
    refine h.rf c hc pn H0 env σ H _ _ S ht fun d v H1 q1 k1 j1 r1 => ?_
    cases d with
    | str z =>
      cases r1
      refine ⟨z, rfl, k ((signs z).map .str) _ _ _ H1 q1 k1 j1 (by rw [List.length_map, signs, List.length_map, Array.length_toList]; exact walk_str) (fun _ _ => trivial) fun M i H2 x H3 hi _ _ _ _ y => ?_⟩
      obtain ⟨rfl, cc, hcc, rfl⟩ := y
      refine ⟨.str ⟨#[cc]⟩, ?_, Same.refl _, .str _⟩
      rw [List.getElem?_map, signs, List.getElem?_map, Array.getElem?_toList, hcc]; rfl
    | _ => exact q1.elim⟩
/-- fits.index(b), b among them -/
def sIdxB (x y : TD) : TD := fun env Q => x env fun d => match d with | .lst es => ∃ bs : List Bool, es = bs.map D.bl ∧ y env fun e => (match e with | .bl b => ∃ j : Nat, bs[j]? = some b ∧ (∀ (m : Nat) (z : Bool), m < j → bs[m]? = some z → z ≠ b) ∧ Q (.int (j : Nat)) | _ => False) | _ => False
theorem RpAll.ofBls {K : PySem.W.Frag} {M : Addr → Prop} {H : Hp} : ∀ {vs : List V} (bs : List Bool), RpAll K M H vs (bs.map D.bl) → vs = bs.map V.bl
  | [], [], _ => rfl
  | _, z :: zs, .cons a b => by cases a; rw [RpAll.ofBls zs b]; rfl
theorem d_idxB (ho : DO X K rg o to x) (he : DP X K rg e te y)
    (hbase : attributeBase o "index" X.env (eval o X.env) = eval o X.env := by rfl)
    (hfew : ((backTo cpos (starEach [e] X.env)).all (fun x => !x.1) && (backToKw cpos (keywordEach [] X.env)).all (fun x => x.1.isSome) && decide ([e].length + ([] : List Keyword).length + (if ([] : List Keyword).isEmpty then 0 else 1) < 30)) = true := by rfl)
    (hline : (apos.endLine == cpos.line) = true := by rfl) (hs : starEach [e] X.env = (false, eval e X.env) :: starEach [] X.env := by rfl) (hplain : (backTo cpos (starEach [] X.env)).any (·.1) = false := by rfl) :
    DP X K rg (.Call (.Attribute o "index" apos) [e] [] cpos) (tBM K "list" (rIndex K) to (tCons te tNil)) (sIdxB x y) := by
  cases ho.kx
  refine ⟨rfl, pe_bm PySem.F.plainAttrs_list PySem.F.slot_list_index PySem.F.type_list_index mt_index ho.pe (pa_cons he.pe pa_nil hs) hbase hfew hline hs hplain, fun c hc pn H0 env σ H Qd Q S ht k => ?_⟩
  refine ho.rf c hc pn H0 env σ H _ _ S ht fun d v H1 q1 k1 j1 r1 => ?_
  subst hc
  cases d with
  | lst es =>
    obtain ⟨bs, rfl, q1⟩ := q1
    obtain ⟨p, vs, rfl, hl, aa⟩ := r1.lst
    have e := RpAll.ofBls bs aa
    subst e
    have S1 := S.grow k1 j1
    refine ⟨.inl ⟨rfl, _, SqL.of hl⟩, he.rf c rfl pn H0 env σ H1 _ _ S1 q1 fun e w H2 q2 k2 j2 r2 => ?_⟩
    cases e with
    | bl b =>
      cases r2
      obtain ⟨j, hj, hno, q⟩ := q2
      have hl2 : SqL X.K H2 p (bs.map V.bl) := by
        rcases r1 with r1 | ⟨a, vs', ds', e1, e2, m, e3, r⟩
        · cases r1 with
          | lst m e a =>
            refine SqL.of ?_
            have := k2 _ _ e (fun z => m (Mof.of_R S.ok z))
            rw [hl] at e; cases e
            exact this
        · cases e1
          rw [hl] at e3; cases e3
          exact SqL.of (k2 _ _ hl fun z => m (S.ok.sub _ z))
      refine ⟨p, bs.map V.bl, .bl b, j, .bl b, rfl, rfl, hl2, rfl, ?_, by rw [List.getElem?_map, hj]; rfl, by simp [eqV], fun m z hm hz => ?_, k _ _ H2 q (k1.trans k2) j2 (.int _)⟩
      · rw [List.all_eq_true]; intro u hu; obtain ⟨z, _, rfl⟩ := List.mem_map.mp hu; rfl
      · rw [List.getElem?_map] at hz
        cases hq : bs[m]? with
        | none => rw [hq] at hz; cases hz
        | some u =>
          rw [hq] at hz; cases hz
          have := hno m u hm hq
          cases u <;> cases b <;> simp_all [eqV]
    | _ => exact q2.elim
  | _ => exact q1.elim
end
end DL

set_option maxHeartbeats 1000000
/-! enumerate of a list or a tuple. -/
namespace ZL
open PySem L2 PySem.Spec PyProof.Rows
open AutoSeq1 (wpAny_loadPart')
theorem new_E (k : Bool) (l : Addr) (xs : Array Value) :
    Meets (Builtin.«enumerate.__new__» ⟨[.type "enumerate", .ref l], []⟩) (fun _ R s => sqAt k s.heap l xs ∧
      R (.ok (.ret (.ref (s.heap.push (itObj k l)).objs.size)))
        { s with heap := (s.heap.push (itObj k l)).push { cls := .type "enumerate", data := .fields #[.none, .bool false, .ref s.heap.objs.size, rawInt 0, .none, .none] } }) :=
  .of_wp fun prog w A R s h => by
    obtain ⟨hp, g, d, tk, os⟩ := s; obtain ⟨hl, h⟩ := h
    have hsub := sub_enumerate
    have hL : sqAt k (Shared.heap ⟨hp, g, d, tk, os⟩) l xs := hl
    obtain ⟨o, ho⟩ : ∃ o, hp.get? l = some o := by
      cases k with
      | true => obtain ⟨o, e, _⟩ := hl; exact ⟨o, e⟩
      | false => obtain ⟨o, e, _⟩ := hl; exact ⟨o, e⟩
    wp_walk using wpAny_loadPart' ho
    refine wpAny_stack_any fun st => wpAny_pure ?_
    split
    · rename_i c _ _ _ _ _
      cases (c == Value.type "enumerate")
      · wp_walk using wpAny_loadPart' ho, iter_sq hL
        exact ⟨_, rfl, h⟩
      · wp_walk using wpAny_loadPart' ho, iter_sq hL
        exact ⟨_, rfl, h⟩
    · wp_walk using wpAny_loadPart' ho, iter_sq hL
      exact ⟨_, rfl, h⟩
section
variable {prog : Program} {w : World} {A : Around} {E : Value → Shared → Prop} {s : Shared}
theorem call_enumU {k : Bool} {l : Addr} {items : Array Value} {Q : Value → Shared → Prop} (hL : sqAt k s.heap l items)
    (h : ∀ h', IsEnum h' (s.heap.objs.size + 1) s.heap.objs.size 0 .none → itAt k h' s.heap.objs.size l 0 → h'.objs.size = s.heap.objs.size + 2 →
      (∀ b o, s.heap.get? b = some o → h'.get? b = some o) → Q (.ref (s.heap.objs.size + 1)) { s with heap := h' }) :
    wpAny (model prog w) A (call (.type "enumerate") [.ref l]) Q E s := by
  refine callType_new F.called_enumerate (by decide) (F.typeCall_enumerate_1 _) (F.newCall_enumerate_1 _) (fun obj => F.args_object_init_2 obj _) F.entry_enumerate_new
    (new_E k l items) ⟨hL, ?_⟩
  have hz : (s.heap.push (itObj k l)).objs.size = s.heap.objs.size + 1 := Heap.size_push ..
  show _ ∧ _
  rw [hz]
  have he : IsEnum ((s.heap.push (itObj k l)).push
      { cls := .type "enumerate", data := .fields #[.none, .bool false, .ref s.heap.objs.size, rawInt 0, .none, .none] }) (s.heap.objs.size + 1) s.heap.objs.size 0 .none := by
    have := Heap.get?_push_size (s.heap.push (itObj k l))
      (o := { cls := .type "enumerate", data := .fields #[.none, .bool false, .ref s.heap.objs.size, rawInt 0, .none, .none] }) rfl
    rw [hz] at this; exact this
  refine ⟨⟨_, he, rfl⟩, h _ he (itAt_new (Heap.get?_push_of_some _ (Heap.get?_push_size _ (by cases k <;> rfl)))) (by rw [Heap.size_push, hz]) fun b o x => Heap.get?_push_of_some _ (Heap.get?_push_of_some _ x)⟩
end
/-- what stands at a at each turn, each item in a new pair -/
def IteU (k : Bool) (K : PySem.W.Frag) (a : Addr) : It :=
  ⟨fun i H => ∃ (xs : List V) (x : V), SqK k K H a xs ∧ xs[i]? = some x, fun i H v H' => ∃ T x, v = .ref T ∧ H T = none ∧ H' = upd H T (.tup [.int (i : Nat), x]) ∧ ∀ xs, SqK k K H a xs → xs[i]? = some x, fun i H => ∃ xs : List V, SqK k K H a xs ∧ xs.length = i⟩
theorem turn_enumU {P : Program} {w : World} {K : PySem.W.Frag} {elts : List Expr} {kk : Nat} {tpos : Pos} {k : Bool} (a e it : Addr) (hae : a ≠ e) (hai : a ≠ it) :
    Turn P w K (.Tuple elts kk tpos) (IteU k K a) [e, it] e (fun i h => (∃ old, IsEnum h e it ((i : Nat) : Int) old) ∧ itAt k h it a i ∧ e ≠ it) where
  mem := by simp
  obj := fun i h st b hb => by
    obtain ⟨⟨old, he⟩, hit, _⟩ := st
    have e' : b = e ∨ b = it := by simpa using hb
    rcases e' with z | z
    · rw [z]; exact ⟨_, he, fun v q => nomatch q⟩
    · rw [z]; exact hit.lt
  keep := fun i h h' st k => let ⟨⟨old, he⟩, hi, hne⟩ := st; ⟨⟨old, k e (by simp) _ he⟩, hi.keep fun o q => k it (by simp) o q, hne⟩
  item := by
    intro X hP hw hK hc i pins s σ H E I hf st hg
    subst hP hw hK
    obtain ⟨⟨old, he⟩, hit, hne⟩ := st
    obtain ⟨xs, x, hq, hx⟩ := hg
    obtain ⟨its, rv, p, hz⟩ := sq_of I hq
    obtain ⟨u, hu, ru⟩ := rv.get hx
    have hel : e < s.heap.objs.size := Heap.lt_size he
    have hil : it < s.heap.objs.size := by obtain ⟨_, q, _⟩ := hit.lt; exact Heap.lt_size q
    refine wpAny_pyNext_enum_itemD (draws_k k (A := X.A.in1) (show X.A.in1.handled = none from I.ok.hd hc) it a hai its.toArray) he ⟨hit, p⟩ (by have := (List.getElem?_eq_some_iff.mp hu).1; simpa using this) hne (by simp [hne, Ne.symm hae]) fun y h' tk hy ho hs' hT hsz hk => ?_
    have ey : y = u := by
      have : its.toArray[i]? = some y := hy
      simp only [List.getElem?_toArray] at this
      rw [hu] at this; exact (Option.some.inj this).symm
    subst ey
    refine ⟨_, rfl, wpAny_letOwnedTupleGo_enum (s := { s with heap := h', toks := tk + 1 }) ho fun h'' he' sb => ?_⟩
    have hT2 : h''.get? s.heap.objs.size = some { cls := .type "tuple", data := .seq #[.int i tk, y] } := (sb.2 _ (Nat.ne_of_gt hel)).trans hT
    have new : ObjOk X.prog X.w (upd H s.heap.objs.size (.tup [.int (i : Nat), x])) h'' s.heap.objs.size (.tup [.int (i : Nat), x]) :=
      ⟨by show 2 ≤ sizeLine; decide, [.int i tk, y], .cons ⟨_, rfl⟩ (.cons ru .nil), ⟨_, hT2, rfl, _, rfl⟩⟩
    have I1 : Inv X pins σ (upd H s.heap.objs.size (.tup [.int (i : Nat), x])) { s with heap := h'', toks := tk + 1 } :=
      I.turnedNew (ch := [e, it]) (fun b ob hb q => (sb.2 b (fun z => hb (by simp [z]))).trans (hk b ob (fun z => hb (by simp [z])) (fun z => hb (by simp [z])) q)) hf (Nat.le_refl _) new
    refine ⟨.ref s.heap.objs.size, _, I1, rfl, ⟨_, x, rfl, I.hok.fresh (Nat.le_refl _), rfl, fun ys hy => by rw [sq_inj I hy hq]; exact hx⟩, ⟨⟨y, ?_⟩, hs'.1.keep fun o q => (sb.2 it (Ne.symm hne)).trans q, hne⟩, fun b hb => ?_⟩
    · have e1 : ((i + 1 : Nat) : Int) = (i : Int) + 1 := by omega
      rw [e1]; exact he'
    · have hb' : b < s.heap.objs.size := by
        have e' : b = e ∨ b = it := by simpa using hb
        rcases e' with z | z
        · rw [z]; exact hel
        · rw [z]; exact hil
      rw [upd_ne (Nat.ne_of_lt hb')]
      exact (hf b hb).1
  done := by
    intro X hP hw hK hc i pins s σ H E I hf st hg
    subst hP hw hK
    obtain ⟨⟨old, he⟩, hit, hne⟩ := st
    obtain ⟨xs, hq, hx⟩ := hg
    obtain ⟨its, rv, p, hz⟩ := sq_of I hq
    obtain ⟨f0, f1, f2, f3, f4, f5⟩ := hf it (by simp)
    have hl := rv.length
    have hn : its.toArray.size = i := by simp; omega
    refine wpAny_pyNext_enum_endD (n := its.toArray.size) (draws_k k (A := X.A.in1) (show X.A.in1.handled = none from I.ok.hd hc) it a hai its.toArray) he ⟨by rw [hn]; exact hit, p⟩ fun h' eb => ⟨rfl, I.turned (t' := s.toks) (fun b o hb q => eb b o hb q) f0 f1 f3 f4 f5⟩
  self := fun A i s Q E st h => let ⟨⟨_, he⟩, _⟩ := st; wpAny_pyIter_enum he h
def iEnumU (K : PySem.W.Frag) (ta : TA) : TI := fun σ H R => ta σ H fun vs H1 => ∃ k a xs, vs = [.ref a] ∧ SqK k K H1 a xs ∧ R (IteU k K a) H1
theorem pi_enumU {X : Cx} {e : Expr} {ta : TA} {p pos tpos : Pos} {elts : List Expr} {kk : Nat} (hg : Gl X "enumerate") (hm : X.mg "enumerate" = none) (ha : PA X [e] ta) (hs : starEach [e] X.env = [(false, eval e X.env)] := by rfl) :
    PI X (.Tuple elts kk tpos) (.Call (.Name "enumerate" p) [e] [] pos) (iEnumU X.K ta) := by
  refine ⟨fun pins s σ H R I h => ?_⟩
  refine Call_ (ld_blt I hg hm boot_enumerate (PyProof.Rows.callWith_type1 (thn (ha.run pos pins s σ H _ I h) fun us s1 ⟨vs, H1, I1, r1, q1⟩ => ?_) hs rfl))
  obtain ⟨k, a, xs, ex, hq, q⟩ := q1
  subst ex
  cases r1 with
  | cons r rr =>
    cases rr
    cases r
    obtain ⟨its, rv, p', hz⟩ := sq_of I1 hq
    refine call_enumU p' fun h' he hit hsz hk => wpAny_pyIter_enum he ?_
    have I2 : Inv X pins σ H1 { s1 with heap := h' } := I1.kept (t' := s1.toks) hk
    refine ⟨s1.heap.objs.size + 1, [s1.heap.objs.size + 1, s1.heap.objs.size], _, _, H1, rfl, I2, turn_enumU a (s1.heap.objs.size + 1) s1.heap.objs.size (Nat.ne_of_lt (Nat.lt_succ_of_lt hz)) (Nat.ne_of_lt hz), ⟨⟨.none, he⟩, hit, Nat.succ_ne_self _⟩, fun b hb => ?_, q⟩
    have e' : b = s1.heap.objs.size + 1 ∨ b = s1.heap.objs.size := by simpa using hb
    have hle : s1.heap.objs.size ≤ b := by
      rcases e' with z | z
      · rw [z]; exact Nat.le_add_right _ _
      · rw [z]; exact Nat.le_refl _
    exact I1.fpOk hle (I1.hok.fresh hle)
end ZL
namespace DL
open PySem L2 PySem.Spec PyProof.Rows ZL
def sEnumU (t : TD) : TDs := fun env Q => t env fun d => match d with | .lst ds => Q (enumD ds) | .tup ds => Q (enumD ds) | _ => False
section
variable {X : Cx} {K : PySem.W.Frag} {rg : Rg} {e : Expr} {te : TE} {t : TD} {o : Bool}
theorem walk_enumU {k : Bool} {a : Addr} {xs : List V} : Walk (IteU k K a) xs.length (fun H => SqK k K H a xs) (YPair (fun i => some (.int (i : Nat))) (fun i => xs[i]?)) := by
  refine ⟨fun i _ hi q => ⟨xs, xs[i], q, by simp [hi]⟩, fun _ q => ⟨xs, q, rfl⟩, fun i H v H' _ q y => ?_⟩
  obtain ⟨T, x, h1, h2, h3, h4⟩ := y
  exact ⟨T, .int (i : Nat), x, h1, h2, h3, rfl, h4 xs q⟩
theorem di_enumU {p pos tpos : Pos} {elts : List Expr} {kk : Nat} (hg : Gl X "enumerate") (hm : X.mg "enumerate" = none) (h : DP X K rg e te t) (hs : starEach [e] X.env = [(false, eval e X.env)] := by rfl) :
    DI X K rg o (.Tuple elts kk tpos) (.Call (.Name "enumerate" p) [e] [] pos) (iEnumU K (tCons te tNil)) (sEnumU t) := by
  cases h.kx
  exact ⟨rfl, pi_enumU hg hm (pa_cons h.pe pa_nil (by rw [hs]; rfl)) hs, fun c hc pn H0 env σ H Qd R S ht kk => by
    refine h.rf c hc pn H0 env σ H _ _ S ht fun d v H1 q1 k1 j1 r1 => ?_
    have sub : ∀ b, Zof o c env b → Mof c env b := fun b z => by
      cases o with
      | true => exact .inl z
      | false => exact z
    have facts : ∀ {ds : List D} {vs : List V} {l : Addr} {k : Bool}, RpAll X.K (Mof c env) H1 vs ds → Qd (enumD ds) → SqK k X.K H1 l vs → (∀ H2, Keep (Zof o c env) H1 H2 → SqK k X.K H2 l vs) → R (IteU k X.K l) H1 := fun {ds vs l k} a q1 sq kp => by
      refine kk (enumD ds) _ _ _ H1 q1 k1 j1 (by rw [enumD_length, ← RpAll.length a]; exact walk_enumU) kp ?_
      intro M i H2 x H3 hi _ k2 hm' dom y
      obtain ⟨T, x1, x2, rfl, hT, rfl, h1, h2⟩ := y
      cases h1
      obtain ⟨d, hd, rd⟩ := RpAll.get a h2
      have r1 : Rp X.K (fun b => Mof c env b ∨ M b) H1 x2 d := Rp.anti (fun b o e z => z.elim id (hm' b o e)) rd
      have r2 : Rp X.K (fun b => Mof c env b ∨ M b) H2 x2 d := Rp.keep (k2.mono fun b z => .inl z) r1
      have r3 : Rp X.K M (upd H2 T (.tup [.int (i : Nat), x2])) x2 d := Rp.keep (Keep.upd_new hT) (Rp.anti (fun _ _ _ z => .inr z) r2)
      exact ⟨_, enumD_get hd, fun b o e => by rw [upd_ne (ne_of_none e hT)]; exact e, .tup (fun z => dom T z hT) upd_same (.cons (.int _) (.cons r3 .nil))⟩
    cases d with
    | lst ds =>
      cases r1 with
      | lst m e a =>
        exact ⟨false, _, _, rfl, SqL.of e, facts a q1 (SqL.of e) fun H2 z => SqL.of (z _ _ e fun q => m (sub _ q))⟩
    | tup ds =>
      cases r1 with
      | tup m e a =>
        exact ⟨true, _, _, rfl, SqT.of e, facts (k := true) a q1 (SqT.of e) fun H2 z => SqT.of (z _ _ e fun q => m (sub _ q))⟩
      | tupK e a =>
        exact ⟨true, _, _, rfl, .inr e, facts (k := true) a q1 (Or.inr e : SqT X.K H1 _ _) fun H2 z => (Or.inr e : SqT X.K H2 _ _)⟩
    | _ => exact q1.elim⟩
end
end DL

/-! A list of one's own told as data from now on; a + b as a new list; a < b < c. -/
namespace DL
open PySem L2 PySem.Spec PyProof.Rows
section
variable {K : PySem.W.Frag} {c : Dc} {pn : Pin} {H0 : Hp} {env : En} {σ : L2.St} {H : Hp} {i : Nat} {p : Addr} {ds : List D}
theorem Sd.frz (S : Sd K c pn H0 env σ H) (hi : env[i]? = some (some (.own p ds))) : Sd K c pn H0 (env.set i (some (.dat (.lst ds)))) σ H := by
  have hlt : i < env.length := (List.getElem?_eq_some_iff.mp hi).1
  obtain ⟨v, hv, rfl, h0, hm, vs, hl, ra⟩ := S.sl i _ hi
  have hM : ∀ a, Mof c (env.set i (some (.dat (.lst ds)))) a → Mof c env a := fun a h => by
    rcases h with h | ⟨j, s, h1, h2⟩
    · exact .inl h
    · by_cases e : i = j
      · subst e
        rw [List.getElem?_set_self hlt] at h1; cases h1; cases h2
      · rw [List.getElem?_set_ne e] at h1
        exact .inr ⟨j, s, h1, h2⟩
  have np : ¬ Mof c (env.set i (some (.dat (.lst ds)))) p := fun h => by
    rcases h with h | ⟨j, s, h1, h2⟩
    · exact hm h
    · by_cases e : i = j
      · subst e
        rw [List.getElem?_set_self hlt] at h1; cases h1; cases h2
      · rw [List.getElem?_set_ne e] at h1
        exact e (S.apart i j _ s p hi h1 rfl h2)
  have hM' : ∀ a o, H a = some o → Mof c (env.set i (some (.dat (.lst ds)))) a → Mof c env a := fun a o _ h => hM a h
  refine ⟨S.ok, by simp [S.len], fun j s e => ?_, S.j, S.kp, S.dom, fun j k s t a e1 e2 e3 e4 => ?_, S.pk, S.pk _ _ _ _ S.pn Keep.refl hM'⟩
  · by_cases e' : i = j
    · subst e'
      rw [List.getElem?_set_self hlt] at e; cases e
      exact ⟨.ref p, hv, .lst np hl (RpAll.anti hM' ra)⟩
    · rw [List.getElem?_set_ne e'] at e
      obtain ⟨w, h1, h2⟩ := S.sl j s e
      refine ⟨w, h1, ?_⟩
      cases s with
      | dat d => exact Rp.anti hM' h2
      | own b ds => obtain ⟨q1, q2, q3, vs, q4, q5⟩ := h2; exact ⟨q1, q2, q3, vs, q4, RpAll.anti hM' q5⟩
      | ownD b kz ds => obtain ⟨q1, q2, q3, vs, q4, ql, q5⟩ := h2; exact ⟨q1, q2, q3, vs, q4, ql, RpAll.anti hM' q5⟩
      | self b C ns ds => obtain ⟨q1, q2, dx, vs, q4, q5, q6⟩ := h2; exact ⟨q1, q2, dx, vs, q4, q5, RpAll.anti hM' q6⟩
  · by_cases h1 : i = j
    · subst h1
      rw [List.getElem?_set_self hlt] at e1; cases e1; cases e3
    · by_cases h2 : i = k
      · subst h2
        rw [List.getElem?_set_self hlt] at e2; cases e2; cases e4
      · rw [List.getElem?_set_ne h1] at e1
        rw [List.getElem?_set_ne h2] at e2
        exact S.apart j k s t a e1 e2 e3 e4
end
section
variable {X : Cx} {K : PySem.W.Frag} {rg : Rg} {rest : List Stmt} {us : TS} {u : TDS} {a b cc : Expr} {ta tb tc : TE} {t1 t2 t3 : TD} {pos : Pos} {i : Nat}
/-- from here on the list in slot i is data -/
def sFrz (i : Nat) (u : TDS) : TDS := fun Dd env => match env[i]? with | some (some (.own _ ds)) => u Dd (env.set i (some (.dat (.lst ds)))) | _ => False
theorem dss_frz (h : DSs X K rg rest us u) : DSs X K rg rest us (sFrz i u) :=
  ⟨h.kx, h.ps, fun c hc pn H0 env σ H Dd De S hs n r ro bk ct => by
    unfold sFrz at hs
    split at hs
    · rename_i p ds hi
      exact h.rf c hc pn H0 _ σ H Dd De (S.frz hi) hs n r ro bk ct
    · exact hs.elim⟩
/-- a + b, a new list -/
def sCat (t1 t2 : TD) : TDs := fun env Q => t1 env fun d => t2 env fun e => match d, e with | .lst xs, .lst ys => xs.length + ys.length ≤ sizeLine ∧ Q (xs ++ ys) | _, _ => False
theorem df_cat (h1 : DO X K rg a ta t1) (h2 : DO X K rg b tb t2) : DF X K rg (.BinOp a .Add b pos) (tOp rCat ta tb) (sCat t1 t2) := by
  cases h1.kx
  exact ⟨rfl, pe_op op_cat h1.pe h2.pe, fun c hc pn H0 env σ H Qd Q S ht k => by
    refine h1.rf c hc pn H0 env σ H _ _ S ht fun d v H1 q1 k1 j1 r1 => ?_
    subst hc
    refine h2.rf c rfl pn H0 env σ H1 _ _ (S.grow k1 j1) q1 fun e w H2 q2 k2 j2 r2 => ?_
    have S2 := S.grow (k1.trans k2) j2
    have r1 := RpO.keep k2 S.ok.sub (fun a h => Mof.of_R S.ok h) r1
    split at q2
    · obtain ⟨l, vs, rfl, hl, a1⟩ := r1.lst
      obtain ⟨m, ws, rfl, hm, a2⟩ := r2.lst
      exact ⟨l, m, vs, ws, rfl, rfl, hl, hm, by rw [RpAll.length a1, RpAll.length a2]; exact q2.1, fun p hp => k _ p _ _ q2.2 (none_back S (k1.trans k2) j2 hp) (fresh_keep (k1.trans k2) hp) (fresh_j S.ok j2 hp) upd_same (fresh_all hp (RpAll.append a1 a2))⟩
    · exact q2.elim⟩
/-- a < b < c -/
def sChain (f f' : F2) (t1 t2 t3 : TD) : TD := fun env Q => t1 env fun d => t2 env fun e => f d e fun r => match r with | .bl k => if k = true then t3 env fun g => f' e g Q else Q (.bl false) | _ => False
theorem rf_chain {r r' : R2} {f f' : F2} (hd : OpD K r f) (hd' : OpD K r' f') (h1 : Rf K rg ta t1) (h2 : Rf K rg tb t2) (h3 : Rf K rg tc t3) : Rf K rg (tChain r r' ta tb tc) (sChain f f' t1 t2 t3) := fun c hc pn H0 env σ H Qd Q S ht k => by
  refine h1 c hc pn H0 env σ H _ _ S ht fun d v H1 q1 k1 j1 r1 => ?_
  subst hc
  refine h2 c rfl pn H0 env σ H1 _ _ (S.grow k1 j1) q1 fun e w H2 q2 k2 j2 r2 => ?_
  have S2 := S.grow (k1.trans k2) j2
  have r1' := Rp.keep (k2.mono fun a h => Mof.of_R S.ok h) r1
  refine hd c.M (Mof c env) H2 v w d e _ _ S2.domM (.inl r1') (.inl r2) q2 fun d' v' H3 q3 s3 r3 => ?_
  have S3 := S2.same s3
  have k3 := (k1.trans k2).trans (Keep.of_same s3)
  cases d' with
  | bl b =>
    cases r3
    refine ⟨b, rfl, ?_⟩
    dsimp only at q3
    cases b with
    | true =>
      rw [if_pos rfl] at q3 ⊢
      refine h3 c rfl pn H0 env σ H3 _ _ S3 q3 fun g x H4 q4 k4 j4 r4 => ?_
      have S4 := S3.grow k4 j4
      have r2' := Rp.keep (k4.mono fun a h => Mof.of_R S.ok h) (Rp.keep (Keep.of_same s3) r2)
      refine hd' c.M (Mof c env) H4 w x e g _ _ S4.domM (.inl r2') (.inl r4) q4 fun d5 v5 H5 q5 s5 r5 => ?_
      exact k d5 v5 H5 q5 ((k3.trans k4).trans (Keep.of_same s5)) (S4.same s5).j r5
    | false =>
      rw [if_neg Bool.false_ne_true] at q3 ⊢
      exact k _ _ H3 q3 k3 S3.j (.bl _)
  | _ => exact q3.elim
theorem dt_chain {op op' : CmpOp} {r r' : R2} {f f' : F2} (ho : OpR X (compareOp op) r) (hd : OpD K r f) (ho' : OpR X (compareOp op') r') (hd' : OpD K r' f') (h1 : DP X K rg a ta t1) (h2 : DP X K rg b tb t2) (h3 : DP X K rg cc tc t3)
    (hm : lastMarks [op, op'] [b, cc] = false := by with_unfolding_all rfl) : DT X K rg (.Compare a [op, op'] [b, cc] pos) (tTest (tChain r r' ta tb tc)) (sTest (sChain f f' t1 t2 t3)) := by
  cases h1.kx
  exact ⟨rfl, pt_chain ho ho' h1.pe h2.pe h3.pe hm, rf_test (rf_chain hd hd' h1.rf h2.rf h3.rf)⟩
end
end DL

set_option maxHeartbeats 1000000
/-! A dict of one's own, changed in place, in the rest of a block: opened, set, told as data from a point on. -/
namespace DL
open PySem L2 PySem.Spec PyProof.Rows
/-- a fresh dict -/
abbrev TDd := En → (List Key → List D → Prop) → Prop
def RfFd (K : PySem.W.Frag) (rg : Rg) (te : TE) (t : TDd) : Prop :=
  ∀ (c : Dc), c.rg = rg → ∀ (pn : Pin) (H0 : Hp) (env : En) (σ : L2.St) (H : Hp) (Qd : List Key → List D → Prop) (Q : VK), Sd K c pn H0 env σ H → t env Qd →
    (∀ ks ds a vs H', Qd ks ds → H a = none → Keep c.rg.R H H' → c.rg.J H' → H' a = some (.dK (ks.zip vs)) → ks.length = vs.length → RpAll K (fun b => Mof c env b ∨ b = a) H' vs ds → Q (.ref a) H') → te σ H Q
structure DFd (X : Cx) (K : PySem.W.Frag) (rg : Rg) (e : Expr) (te : TE) (t : TDd) : Prop where
  kx : X.K = K
  pe : PE X e te
  rf : RfFd K rg te t
/-- the dict at p, the value of slot i -/
structure DkAt (K : PySem.W.Frag) (c : Dc) (env : En) (i : Nat) (p : Addr) (H0 : Hp) (σ : L2.St) (H : Hp) (ks : List Key) (ds : List D) : Prop where
  ok : c.Ok
  lt : i < env.length
  v : σ[i]? = some (some (.ref p))
  n0 : H0 p = none
  nM : ¬ c.M p
  ex : ∃ vs, H p = some (.dK (ks.zip vs)) ∧ ks.length = vs.length ∧ RpAll K (Mof (c.with p) env) H vs ds
def RfD (K : PySem.W.Frag) (rg : Rg) (i : Nat) (ts : TS) (t : List Key → List D → TDS) : Prop :=
  ∀ (c : Dc), c.rg = rg → ∀ (pn : Pin) (H0 : Hp) (env : En) (σ : L2.St) (H : Hp) (Dd : DEnds) (De : Ends) (p : Addr) (ks : List Key) (ds : List D), Sd K (c.with p) pn H0 env σ H → DkAt K c env i p H0 σ H ks ds → t ks ds Dd env →
    (∀ env' σ' H', Dd.nx env' → Sd K c pn H0 env' σ' H' → De.nx σ' H') →
    (∀ d v H', Dd.rt d → Keep (Rw c) H0 H' → c.rg.J H' → (∀ a, c.M a → H' a ≠ none) → Rp K c.M H' v d → De.rt v H') →
    (∀ ds a vs H', Dd.ro ds → H0 a = none → Keep (Rw c) H0 H' → c.rg.J H' → (∀ b, c.M b → H' b ≠ none) → ¬ c.M a → H' a = some (.lst vs) → RpAll K (fun b => c.M b ∨ b = a) H' vs ds → De.rt (.ref a) H') →
    (∀ env' σ' H', Dd.bk env' → Sd K c pn H0 env' σ' H' → De.bk σ' H') →
    (∀ env' σ' H', Dd.ct env' → Sd K c pn H0 env' σ' H' → De.ct σ' H') → ts De σ H
structure DSsD (X : Cx) (K : PySem.W.Frag) (rg : Rg) (i : Nat) (st : List Stmt) (ts : TS) (t : List Key → List D → TDS) : Prop where
  kx : X.K = K
  ps : PSs X st ts
  rf : RfD K rg i ts t
section
variable {K : PySem.W.Frag} {c : Dc} {pn : Pin} {H0 : Hp} {env : En} {σ : L2.St} {H : Hp} {i : Nat} {p : Addr} {ks : List Key} {ds : List D}
theorem Sd.close (S : Sd K (c.with p) pn H0 env σ H) (h : DkAt K c env i p H0 σ H ks ds) : Sd K c pn H0 (env.set i (some (.dat (.dct ks ds)))) σ H := by
  obtain ⟨ok, hlt, hv, n0, nM, vs, hp, hl, ra⟩ := h
  have ownNe : ∀ (j : Nat) (s : Sl), env[j]? = some (some s) → s.at ≠ some p := fun j s e z => by
    obtain ⟨w, h1, h2⟩ := S.sl j s e
    cases s with
    | dat d => cases z
    | own b es => cases z; exact h2.2.2.1 (.inr rfl)
    | ownD b kz es => cases z; exact h2.2.2.1 (.inr rfl)
    | self b C ns es => cases z; exact nM (ok.pm p h2.2.1).1
  have hM : ∀ a, Mof c (env.set i (some (.dat (.dct ks ds)))) a → Mof (c.with p) env a := fun a h => by
    rcases h with h | ⟨j, s, h1, h2⟩
    · exact .inl (.inl h)
    · by_cases e : i = j
      · subst e
        rw [List.getElem?_set_self hlt] at h1; cases h1; cases h2
      · rw [List.getElem?_set_ne e] at h1
        exact .inr ⟨j, s, h1, h2⟩
  have np : ¬ Mof c (env.set i (some (.dat (.dct ks ds)))) p := fun h => by
    rcases h with h | ⟨j, s, h1, h2⟩
    · exact nM h
    · by_cases e : i = j
      · subst e
        rw [List.getElem?_set_self hlt] at h1; cases h1; cases h2
      · rw [List.getElem?_set_ne e] at h1
        exact ownNe j s h1 h2
  have hM' : ∀ a o, H a = some o → Mof c (env.set i (some (.dat (.dct ks ds)))) a → Mof (c.with p) env a := fun a o _ h => hM a h
  refine ⟨ok, by simp [S.len], fun j s e => ?_, S.j, S.kp, fun a h => S.dom a (.inl h), fun j k s t a e1 e2 e3 e4 => ?_, S.pk, S.pk _ _ _ _ S.pn Keep.refl hM'⟩
  · by_cases e' : i = j
    · subst e'
      rw [List.getElem?_set_self hlt] at e; cases e
      exact ⟨.ref p, hv, .dct np hp hl (RpAll.anti hM' ra)⟩
    · rw [List.getElem?_set_ne e'] at e
      obtain ⟨w, h1, h2⟩ := S.sl j s e
      refine ⟨w, h1, ?_⟩
      cases s with
      | dat d => exact Rp.anti hM' h2
      | own b ds => obtain ⟨q1, q2, q3, vs, q4, q5⟩ := h2; exact ⟨q1, q2, fun z => q3 (.inl z), vs, q4, RpAll.anti hM' q5⟩
      | ownD b kz ds => obtain ⟨q1, q2, q3, vs, q4, ql, q5⟩ := h2; exact ⟨q1, q2, fun z => q3 (.inl z), vs, q4, ql, RpAll.anti hM' q5⟩
      | self b C ns ds => obtain ⟨q1, q2, dx, vs, q4, q5, q6⟩ := h2; exact ⟨q1, q2, dx, vs, q4, q5, RpAll.anti hM' q6⟩
  · by_cases h1 : i = j
    · subst h1
      rw [List.getElem?_set_self hlt] at e1; cases e1; cases e3
    · by_cases h2 : i = k
      · subst h2
        rw [List.getElem?_set_self hlt] at e2; cases e2; cases e4
      · rw [List.getElem?_set_ne h1] at e1
        rw [List.getElem?_set_ne h2] at e2
        exact S.apart j k s t a e1 e2 e3 e4
/-- a slot's value that is not told -/
theorem Sd.setV (S : Sd K c pn H0 env σ H) (i : Nat) (x : Option V) : Sd K c pn H0 (env.set i none) (σ.set i x) H := by
  have S1 := S.setN i
  refine ⟨S1.ok, by simp [S.len], fun j s e => ?_, S1.j, S1.kp, S1.dom, S1.apart, S1.pk, S1.pn⟩
  have hij : i ≠ j := fun z => by
    subst z
    by_cases hi : i < env.length
    · rw [List.getElem?_set_self hi] at e; cases e
    · rw [List.getElem?_eq_none (by simpa using hi)] at e; cases e
  obtain ⟨w, h1, h2⟩ := S1.sl j s e
  rw [List.getElem?_set_ne hij] at h1
  exact ⟨w, by rw [List.getElem?_set_ne hij]; exact h1, h2⟩
/-- a new object stands at p -/
theorem Sd.inAt (S : Sd K c pn H0 env σ H) (hD : H p = none) {H' : Hp} (k : Keep c.rg.R H H') (j : c.rg.J H') (hp : H' p ≠ none) : Sd K (c.with p) pn H0 env σ H' := by
  have np : c.P ≠ some p := fun z => S.dom p (S.ok.pm p z).1 hD
  refine (S.inComp hD (o := .lst [])).growD (fun b o e m => ?_) j hp (S.h0 hD) np
  have hb : b ≠ p := fun z => m (.inr z)
  rw [upd_ne hb] at e
  exact k b o e fun z => m (.inl z)
/-! a key is put -/
def hasK (ks : List Key) (k : Key) : Bool := ks.any fun z => decide (z = k)
theorem hasK_iff {ks : List Key} {k : Key} : hasK ks k = true ↔ k ∈ ks := by
  unfold hasK
  rw [List.any_eq_true]
  exact ⟨fun ⟨z, hz, e⟩ => by rw [decide_eq_true_iff] at e; rw [← e]; exact hz, fun h => ⟨k, h, by simp⟩⟩
def putDk (ks : List Key) (k : Key) : List Key := if hasK ks k = true then ks else ks ++ [k]
def putDv (ks : List Key) (ds : List D) (k : Key) (d : D) : List D := if hasK ks k = true then List.zipWith (fun z x => if z = k then d else x) ks ds else ds ++ [d]
theorem zipW_all {M : Addr → Prop} {k : Key} {d : D} {v : V} (r : Rp K M H v d) : ∀ {ks : List Key} {vs : List V} {ds : List D}, ks.length = vs.length → RpAll K M H vs ds → RpAll K M H (List.zipWith (fun z x => if z = k then v else x) ks vs) (List.zipWith (fun z x => if z = k then d else x) ks ds)
  | [], [], _, _, .nil => .nil
  | z :: ks, x :: vs, _, hl, .cons a b => by
    refine .cons ?_ (zipW_all r (by simpa using hl) b)
    show Rp K M H (if z = k then v else x) (if z = k then d else _)
    by_cases h : z = k
    · rw [if_pos h, if_pos h]; exact r
    · rw [if_neg h, if_neg h]; exact a
theorem put_map {k : Key} {v : V} : ∀ {ks : List Key} {vs : List V}, ks.length = vs.length → (ks.zip vs).map (fun kv => if kv.1 = k then (kv.1, v) else kv) = ks.zip (List.zipWith (fun z x => if z = k then v else x) ks vs)
  | [], [], _ => rfl
  | z :: ks, x :: vs, hl => by
    have := put_map (k := k) (v := v) (ks := ks) (vs := vs) (by simpa using hl)
    simp only [List.zip_cons_cons, List.map_cons, List.zipWith_cons_cons, this]
    by_cases h : z = k
    · simp [h]
    · simp [h]
theorem put_zip {M : Addr → Prop} {k : Key} {v : V} {d : D} {vs : List V} (hl : ks.length = vs.length) (ra : RpAll K M H vs ds) (r : Rp K M H v d) : ∃ ws, putK (ks.zip vs) k v = (putDk ks k).zip ws ∧ (putDk ks k).length = ws.length ∧ RpAll K M H ws (putDv ks ds k d) := by
  have any : ((ks.zip vs).any fun kv => decide (kv.1 = k)) = hasK ks k := by
    rw [Bool.eq_iff_iff, List.any_eq_true, hasK_iff]
    constructor
    · rintro ⟨⟨a, b⟩, hm, e⟩
      have := (List.of_mem_zip hm).1
      simp only [decide_eq_true_eq] at e
      rw [← e]; exact this
    · intro hk
      obtain ⟨j, hj, e⟩ := List.mem_iff_getElem.mp hk
      have hj2 : j < (ks.zip vs).length := by rw [List.length_zip]; omega
      exact ⟨(ks.zip vs)[j], List.getElem_mem hj2, by simp [e]⟩
  unfold putK putDk putDv
  rw [any]
  by_cases h : hasK ks k = true
  · rw [if_pos h, if_pos h, if_pos h]
    exact ⟨_, put_map hl, by rw [List.length_zipWith]; omega, zipW_all r hl ra⟩
  · rw [if_neg h, if_neg h, if_neg h]
    refine ⟨vs ++ [v], ?_, by simp [hl], RpAll.append ra (.cons r .nil)⟩
    rw [List.zip_append hl]; rfl
end
section
variable {X : Cx} {K : PySem.W.Frag} {rg : Rg} {st : Stmt} {rest : List Stmt} {us : TS} {u : TDS} {t : List Key → List D → TDS} {e e1 e2 o : Expr} {te t1 t2 : TE} {x y : TD} {xd : TDd} {pos pos' tpos : Pos} {i : Nat}
/-- told as data from here on -/
theorem dsd_close (h : DSs X K rg rest us u) : DSsD X K rg i rest us (fun ks ds Dd env => u Dd (env.set i (some (.dat (.dct ks ds))))) :=
  ⟨h.kx, h.ps, fun c hc pn H0 env σ H Dd De p ks ds S A q n r ro bk ct => h.rf c hc pn H0 _ σ H Dd De (S.close A) q n r ro bk ct⟩
/-- name[e1] = e2 -/
def sPutD (x y : TD) (t : List Key → List D → TDS) : List Key → List D → TDS := fun ks ds Dd env => y env fun d => x env fun k => match k with | .str s => ks.length < sizeLine ∧ t (putDk ks (.inr s)) (putDv ks ds (.inr s) d) Dd env | _ => False
theorem dsd_put (ho : PE X o (tVar i)) (h1 : DP X K rg e1 t1 x) (h2 : DP X K rg e2 t2 y) (hu : X.A.units + 1 < cLine) (hr : DSsD X K rg i rest us t) (hs : swapsWith e2 (some (.Subscript o e1 pos')) pos.line X.env = pure false := by rfl) :
    DSsD X K rg i (.Assign [.Subscript o e1 pos'] e2 pos :: rest) (tSeq (sDPut (tVar i) t1 t2) us) (sPutD x y t) := by
  cases h1.kx
  refine ⟨rfl, pss_cons (ps_dput hu ho h1.pe h2.pe hs) hr.ps, fun c hc pn H0 env σ H Dd De p ks ds S A q n r ro bk ct => ?_⟩
  obtain ⟨ok, hlt, hv, n0, nM, vs, hp, hl, ra⟩ := A
  have nR : ¬ c.rg.R p := fun z => nM (ok.sub p z)
  have np : c.P ≠ some p := fun z => nM (ok.pm p z).1
  have sub : ∀ a, c.rg.R a → Mof (c.with p) env a := fun a z => Mof.of_R (c := c.with p) S.ok z
  refine h2.rf (c.with p) hc pn H0 env σ H _ _ S q fun d v H1 q1 k1 j1 r1 => ?_
  have S1 : Sd X.K (c.with p) pn H0 env σ H1 := by subst hc; exact S.grow (c := c.with p) k1 j1
  refine ⟨_, hv, ?_⟩
  refine h1.rf (c.with p) hc pn H0 env σ H1 _ _ S1 q1 fun kd y H3 q3 k3 j3 r3 => ?_
  have S3 : Sd X.K (c.with p) pn H0 env σ H3 := by subst hc; exact S1.grow (c := c.with p) k3 j3
  have k13 : Keep c.rg.R H H3 := Keep.trans (show Keep c.rg.R H H1 from k1) (show Keep c.rg.R H1 H3 from k3)
  cases kd with
  | str s =>
    cases r3
    obtain ⟨lz, q3⟩ := q3
    have hp3 : H3 p = some (.dK (ks.zip vs)) := k13 p _ hp nR
    have ra3 : RpAll X.K (Mof (c.with p) env) H3 vs ds := RpAll.keep (k13.mono sub) ra
    have rv3 : Rp X.K (Mof (c.with p) env) H3 v d := Rp.keep (Keep.mono (show Keep c.rg.R H1 H3 from k3) sub) r1
    obtain ⟨ws, e4, l4, ra4⟩ := put_zip hl ra3 rv3 (k := .inr s)
    refine ⟨p, _, rfl, DPut.k (k := .inr s) hp3 (by rw [List.length_zip]; omega), ?_⟩
    rw [e4]
    have S4 := S3.updD n0 nR np (o := .dK ((putDk ks (.inr s)).zip ws))
    refine hr.rf c hc pn H0 env σ _ Dd De p _ _ S4 ⟨ok, hlt, hv, n0, nM, ws, upd_same, l4, ?_⟩ q3 n r ro bk ct
    refine RpAll.keep (fun b o e m => ?_) ra4
    rw [upd_ne fun z => m (mof_with.mpr (.inr z))]; exact e
  | _ => exact q3.elim
/-- name = a fresh dict -/
theorem dss_openD {n : Str} (he : DFd X K rg e te xd) (h2 : DSsD X K rg i rest us t) (hN : X.N.Nodup) (hi : X.N[i]? = some n) (hx : Loc X.env.scope n) (hs : swapsWith e (some (.Name n tpos)) pos.line X.env = pure false := by rfl) (hf : X.fn n = true ∨ X.env.scope.names.lookup n = some .local := by first | exact .inl rfl | exact .inr rfl) :
    DSs X K rg (.Assign [.Name n tpos] e pos :: rest) (tSeq (tAsg te (gName i)) us) (fun Dd env => i < env.length ∧ xd env fun ks ds => t ks ds Dd (env.set i none)) := by
  cases he.kx
  refine ⟨rfl, pss_cons (ps_set hN hi hx he.pe hs hf) h2.ps, fun c hc pn H0 env σ H Dd De S ht nx r ro bk ct => ?_⟩
  obtain ⟨hil, ht⟩ := ht
  refine he.rf c hc pn H0 env σ H _ _ S ht fun ks ds a vs H' q ha k j hp hl ra => ?_
  subst hc
  have S1 : Sd X.K (c.with a) pn H0 env σ H' := S.inAt ha k j (by rw [hp]; simp)
  have S2 := S1.setV i (some (.ref a))
  have nM : ¬ c.M a := fun z => S.dom a z ha
  have sub : ∀ b o, H' b = some o → Mof (c.with a) (env.set i none) b → Mof c env b ∨ b = a := fun b o _ z => by
    rcases mof_with.mp z with z | z
    · rcases z with z | ⟨j, s, h1, h2⟩
      · exact .inl (.inl z)
      · have hij : i ≠ j := fun z => by
          subst z
          rw [List.getElem?_set_self hil] at h1; cases h1
        rw [List.getElem?_set_ne hij] at h1
        exact .inl (.inr ⟨j, s, h1, h2⟩)
    · exact .inr z
  exact h2.rf c rfl pn H0 _ _ H' Dd De a ks ds S2 ⟨S.ok, by simpa using hil, by rw [List.getElem?_set_self (by rw [S.len]; exact hil)], S.h0 ha, nM, vs, hp, hl, RpAll.anti sub ra⟩ q nx r ro bk ct
end
/-! ### defs that hand back a fresh dict -/
abbrev Tfd := Rg → List D → (List Key → List D → Prop) → Prop
def spFd (K : PySem.W.Frag) (n : Nat) (tf : Tfd) : Sp := fun vs H Q _ => ∃ (c : Dc) (ds : List D) (Qd : List Key → List D → Prop), c.Ok ∧ c.P = none ∧ RpAll K c.M H vs ds ∧ c.rg.J H ∧ (∀ a, c.M a → H a ≠ none) ∧ vs.length = n ∧ tf c.rg ds Qd ∧
  ∀ ks es p ws H', Qd ks es → H p = none → Keep c.rg.R H H' → c.rg.J H' → H' p = some (.dK (ks.zip ws)) → ks.length = ws.length → RpAll K (fun b => c.M b ∨ b = p) H' ws es → Q (.ref p) H'
structure CalFd (P : Program) (w : World) (K : PySem.W.Frag) (mg : Str → Option Value) (base : Heap) (nm : Str) (lv n : Nat) (tf : Tfd) : Prop where
  ex : ∃ (f : Addr) (fd : FuncData) (ps : List Str), FnOk P w K mg base CX0 lv f fd ps (spFd K n tf) ∧ mg nm = some (.ref f) ∧ PySem.W.keepIn K (.ref f) = true ∧ Binds K fd ps []
section
variable {P : Program} {w : World} {K : PySem.W.Frag} {mg : Str → Option Value} {base : Heap}
/-- a def that is one return -/
theorem fn_Fd {x qual : Str} {st : Stmt} {f : Addr} {fd : FuncData} {N ps : List Str} {k n : Nat} {tf : Tfd} (F : Fun K x qual st f fd) (S : FnScope N ps (defScope st)) (hn : ps.length = n)
    (hbody : ∀ (rg : Rg) (cdv : Value) (A : Around) (outer : List Env) (s : Shared) (H : Hp) (E : XK), Room k (A.deeper (envOfC qual (defScope st) s.heap.objs.size f cdv)) →
      ∃ e te t pos, defBody st = [.Return (some e) pos] ∧ DFd (cxOf CX0 P w K mg base N qual (defScope st) f cdv A outer s H E).nox K rg e te t ∧ ∀ ds Qd, tf rg ds Qd → ds.length = n → t (startE N.length ds) Qd) :
    FnOk P w K mg base CX0 (k + 1) f fd ps (spFd K n tf) := by
  refine F.ok S (fun vs H Q E ⟨_, _, _, _, _, _, _, _, h, _⟩ => by rw [hn]; exact h) (fun cdv A outer s H vs Q E hr h => ?_)
  obtain ⟨c, ds, Qd, ok, hP, r, j, dom, hl, ht, out⟩ := h
  obtain ⟨e, te, t, pos, hb, hd, hs⟩ := hbody c.rg cdv A outer s H E hr
  refine ⟨tRet te, by rw [hb]; exact pss_one (ps_ret hd.pe), ?_⟩
  have S0 := sd_start (K := K) (N := N) ok hP r j dom
  refine hd.rf c rfl _ H _ _ H _ _ S0 (hs ds Qd ht (by rw [← RpAll.length r]; exact hl)) fun ks es a ws H' q ha k' j' hp hl' rr => ?_
  exact out ks es a ws H' q ha k' j' hp hl' (RpAll.anti (fun b o _ z => z.elim (fun z => .inl (.inl z)) .inr) rr)
end
section
variable {X : Cx} {K : PySem.W.Frag} {rg : Rg} {e : Expr} {es : List Expr} {te : TE} {ta : TA} {xs : TDs} {t : TD} {pos : Pos}
def sCallFd (n : Nat) (tf : Tfd) (rg : Rg) (xs : TDs) : TDd := fun env Q => xs env fun ds => ds.length = n ∧ tf rg ds Q
theorem dfd_callC {lv n : Nat} {tf : Tfd} {nm : Str} {p : Pos} (C : CalFd X.prog X.w X.K X.mg X.base nm lv n tf) (hr : Room lv X.A) (hg : Gl X nm) (ha : DA X K rg (e :: es) ta xs) (hdb : (nm == ("__debug__" : Str)) = false := by decide) (he : starEach (e :: es) X.env = (false, eval e X.env) :: starEach es X.env := by rfl) (hpl : (backTo pos (starEach es X.env)).any (·.1) = false := by rfl) :
    DFd X K rg (.Call (.Name nm p) (e :: es) [] pos) (tCall (spFd K n tf) [] E0 ta) (sCallFd n tf rg xs) := by
  cases ha.kx
  obtain ⟨f, fd, ps, F, hm, hk, hb⟩ := C.ex
  refine ⟨rfl, pe_call F hr hg hm hk hb .nil pass0 ha.pa hdb he hpl, fun c hc pn H0 env σ H Qd Q S ht k => ?_⟩
  refine ha.rf c hc pn H0 env σ H _ _ S ht fun ds vs H1 q1 k1 j1 r1 => ?_
  subst hc
  have S1 := S.grow k1 j1
  refine ⟨⟨Mof c env, none, c.rg⟩, ds, Qd, ⟨fun a z => Mof.of_R S.ok z, S.ok.rg, fun a z => by cases z⟩, rfl, by rw [List.append_nil]; exact r1, j1, S1.domM, by rw [List.append_nil, RpAll.length r1]; exact q1.1, q1.2, fun ks es p ws H' q hp k' j' hd hl r' => ?_⟩
  exact k ks es p ws H' q (none_back S k1 j1 hp) (k1.trans k') j' hd hl r'
/-- dict(a list of pairs) -/
def sDictP (t : TD) : TDd := fun env Q => t env fun d => match d with | .lst ps => ∃ (ns : List Str) (ds : List D), ps = pairsD ns ds ∧ ns.length = ds.length ∧ ns.Nodup ∧ Q (ns.map .inr) ds | _ => False
theorem dfd_dictP {p : Pos} (hc : X.calm = true) (hg : Gl X "dict") (hm : X.mg "dict" = none) (h : DO X K rg e te t)
    (he : starEach [e] X.env = (false, eval e X.env) :: starEach [] X.env := by rfl) : DFd X K rg (.Call (.Name "dict" p) [e] [] pos) (tCB (fun xs H Q => ∃ (a : Addr) (ps : List Addr) (kvs : List (Key × V)), xs = [.ref a] ∧ SqL K H a (ps.map V.ref) ∧ Paired (fun p kv => SqT K H p [kV kv.1, kv.2]) ps kvs ∧ ∀ p, H p = none → Q (.ref p) (upd H p (.dK (mergeK [] kvs)))) (tCons te tNil)) (sDictP t) := by
  cases h.kx
  exact ⟨rfl, pe_callTy (cl_dictP hc) hg hm (by decide +kernel) (pa_cons h.pe pa_nil he) (by decide) (by decide) he rfl, fun c hcc pn H0 env σ H Qd Q S ht k => by
    refine h.rf c hcc pn H0 env σ H _ _ S ht fun d v H1 q1 k1 j1 r1 => ?_
    subst hcc
    cases d with
    | lst ps =>
      obtain ⟨ns, ds, rfl, hl, nd, q⟩ := q1
      obtain ⟨p, us, rfl, hp, ra⟩ := r1.lst
      obtain ⟨as, xs, rfl, lx, rx, pr⟩ := pairs_all hl ra
      have lk : (ns.map (Sum.inr : Str → Key)).length = xs.length := by rw [List.length_map]; omega
      refine ⟨p, as, _, rfl, SqL.of hp, pr, fun l hl' => ?_⟩
      have em : mergeK [] ((ns.map (Sum.inr : Str → Key)).zip xs) = (ns.map Sum.inr).zip xs := by
        rw [merge_new _ _ (by rw [zip_fst lk]; exact List.Pairwise.map _ (fun a b h e => h (Sum.inr.inj e)) nd) (fun k _ => rfl)]; simp
      rw [em]
      exact k _ _ l xs _ q (none_back S k1 j1 hl') (fresh_keep k1 hl') (fresh_j S.ok j1 hl') upd_same lk (fresh_all hl' rx)
    | _ => exact q1.elim⟩
end
end DL

/-! dict(d): a fresh dict. -/
namespace DL
open PySem L2 PySem.Spec PyProof.Rows
section
variable {X : Cx} {K : PySem.W.Frag} {rg : Rg} {e : Expr} {te : TE} {t : TD} {pos : Pos}
def sDictC (t : TD) : TDd := fun env Q => t env fun d => match d with | .dct ks ds => Q ks ds | _ => False
theorem dfd_dictC {p : Pos} (hg : Gl X "dict") (hm : X.mg "dict" = none) (h : DO X K rg e te t)
    (he : starEach [e] X.env = (false, eval e X.env) :: starEach [] X.env := by rfl) : DFd X K rg (.Call (.Name "dict" p) [e] [] pos) (tCB (fun xs H Q => ∃ (a : Addr) (kvs : List (Key × V)), xs = [.ref a] ∧ Rd H a (.dK kvs) ∧ ∀ p, H p = none → Q (.ref p) (upd H p (.dK kvs))) (tCons te tNil)) (sDictC t) := by
  cases h.kx
  exact ⟨rfl, pe_callTy call_dictD hg hm (by decide +kernel) (pa_cons h.pe pa_nil he) (by decide) (by decide) he rfl, fun c hcc pn H0 env σ H Qd Q S ht k => by
    refine h.rf c hcc pn H0 env σ H _ _ S ht fun d v H1 q1 k1 j1 r1 => ?_
    subst hcc
    cases d with
    | dct ks ds =>
      obtain ⟨p, us, rfl, m, hp, hl, ra⟩ := r1.dct
      refine ⟨p, _, rfl, .inl hp, fun l hl' => ?_⟩
      exact k _ _ l us _ q1 (none_back S k1 j1 hl') (fresh_keep k1 hl') (fresh_j S.ok j1 hl') upd_same hl (fresh_all hl' ra)
    | _ => exact q1.elim⟩
end
end DL

/-! A dict of one's own in a slot: made, set, told as data for an expression, a test, or from a point on. -/
namespace DL
open PySem L2 PySem.Spec PyProof.Rows
section
variable {K : PySem.W.Frag} {c : Dc} {pn : Pin} {H0 : Hp} {env : En} {σ : L2.St} {H H' : Hp} {i : Nat} {a p : Addr} {ks : List Key} {ds : List D}
/-- a new dict of one's own at slot i; it was laid at a while all else grew -/
theorem Sd.setOD {ks : List Key} {ds : List D} {vs : List V} (S : Sd K c pn H0 env σ H) (i : Nat) (hi : i < env.length) (ha : H a = none) (k : Keep c.rg.R H H') (j : c.rg.J H') (hl : H' a = some (.dK (ks.zip vs))) (hlen : ks.length = vs.length) (r : RpAll K (fun b => Mof c env b ∨ b = a) H' vs ds) :
    Sd K c pn H0 (env.set i (some (.ownD a ks ds))) (σ.set i (some (.ref a))) H' := by
  have hM : ∀ b, Mof c (env.set i (some (.ownD a ks ds))) b → Mof c env b ∨ b = a := fun b h => by
    rcases h with h | ⟨j, s, h1, h2⟩
    · exact .inl (.inl h)
    · by_cases e : i = j
      · subst e
        rw [List.getElem?_set_self hi] at h1; cases h1; cases h2; exact .inr rfl
      · rw [List.getElem?_set_ne e] at h1
        exact .inl (.inr ⟨j, s, h1, h2⟩)
  have hMH : ∀ b o, H b = some o → Mof c (env.set i (some (.ownD a ks ds))) b → Mof c env b := fun b o e h => by
    rcases hM b h with z | rfl
    · exact z
    · rw [ha] at e; cases e
  have hM2 : ∀ b o, H' b = some o → Mof c (env.set i (some (.ownD a ks ds))) b → Mof c env b ∨ b = a := fun b o _ h => hM b h
  have kM : Keep (Mof c (env.set i (some (.ownD a ks ds)))) H H' := k.mono fun b h => .inl (S.ok.sub b h)
  have nM : ¬ Mof c env a := fun z => S.domM a z ha
  have S' := S.grow k j
  have H0a : H0 a = none := by
    cases q : H0 a with
    | none => rfl
    | some o =>
      by_cases h : Rw c a
      · rcases h with h | h
        · exact absurd ha (S.ok.rg.dom H S.j a h)
        · exact absurd ha (S.dom a (S.ok.pm a h).1)
      · rw [S.kp a o q h] at ha; cases ha
  refine ⟨S.ok, by simp [S.len], fun j' s e => ?_, j, S'.kp, S'.dom, fun j k s t b e1 e2 e3 e4 => ?_, S.pk, S.pk _ _ _ _ (S.pk _ _ _ _ S.pn Keep.refl hMH) kM fun _ _ _ z => z⟩
  · by_cases e' : i = j'
    · subst e'
      rw [List.getElem?_set_self hi] at e; cases e
      refine ⟨.ref a, by rw [List.getElem?_set_self (by rw [S.len]; exact hi)], rfl, H0a, fun z => nM (.inl z), vs, hl, hlen, RpAll.anti hM2 r⟩
    · rw [List.getElem?_set_ne e'] at e
      obtain ⟨w, h1, h2⟩ := S.sl j' s e
      refine ⟨w, by rw [List.getElem?_set_ne e']; exact h1, ?_⟩
      cases s with
      | dat d => exact Rp.keep kM (Rp.anti hMH h2)
      | own b es =>
        obtain ⟨q1, q2, q3, vs', q4, q5⟩ := h2
        exact ⟨q1, q2, q3, vs', k b _ q4 (fun z => q3 (S.ok.sub b z)), RpAll.keep kM (RpAll.anti hMH q5)⟩
      | ownD b kz es =>
        obtain ⟨q1, q2, q3, vs', q4, ql, q5⟩ := h2
        exact ⟨q1, q2, q3, vs', k b _ q4 (fun z => q3 (S.ok.sub b z)), ql, RpAll.keep kM (RpAll.anti hMH q5)⟩
      | self b C ns es =>
        obtain ⟨q1, q2, dx, vs', q4, q5, q6⟩ := h2
        exact ⟨q1, q2, dx, vs', k b _ q4 (S.ok.pm b q2).2, q5, RpAll.keep kM (RpAll.anti hMH q6)⟩
  · have fresh : ∀ (l : Nat) (s : Sl), env[l]? = some (some s) → s.at ≠ some a := fun l s e z => nM (.inr ⟨l, s, e, z⟩)
    by_cases h1 : i = j
    · by_cases h2 : i = k
      · exact h1.symm.trans h2
      · subst h1
        rw [List.getElem?_set_self hi] at e1; cases e1; cases e3
        rw [List.getElem?_set_ne h2] at e2
        exact absurd e4 (fresh k t e2)
    · by_cases h2 : i = k
      · subst h2
        rw [List.getElem?_set_self hi] at e2; cases e2; cases e4
        rw [List.getElem?_set_ne h1] at e1
        exact absurd e3 (fresh j s e1)
      · rw [List.getElem?_set_ne h1] at e1
        rw [List.getElem?_set_ne h2] at e2
        exact S.apart j k s t b e1 e2 e3 e4
/-- a dict of one's own is changed -/
theorem Sd.updOD {ks kz : List Key} {ds es : List D} {ws : List V} (S : Sd K c pn H0 env σ H) (hi : env[i]? = some (some (.ownD a ks ds))) (hlen : kz.length = ws.length) (r : RpAll K (Mof c env) H ws es) :
    Sd K c pn H0 (env.set i (some (.ownD a kz es))) σ (upd H a (.dK (kz.zip ws))) := by
  have hi' : i < env.length := (List.getElem?_eq_some_iff.mp hi).1
  obtain ⟨v, hv, rfl, h0, hm, vs, hl, hlv, rv⟩ := S.sl i _ hi
  have hat : ∀ (j : Nat) (s : Sl), (env.set i (some (.ownD a kz es)))[j]? = some (some s) → ∃ t, env[j]? = some (some t) ∧ t.at = s.at := fun j s e => by
    by_cases e' : i = j
    · subst e'
      rw [List.getElem?_set_self hi'] at e; cases e
      exact ⟨_, hi, rfl⟩
    · rw [List.getElem?_set_ne e'] at e
      exact ⟨s, e, rfl⟩
  have hM : ∀ b, Mof c (env.set i (some (.ownD a kz es))) b → Mof c env b := fun b h => by
    rcases h with h | ⟨j, s, h1, h2⟩
    · exact .inl h
    · obtain ⟨t, e1, e2⟩ := hat j s h1
      exact .inr ⟨j, t, e1, e2.trans h2⟩
  have Ma : Mof c env a := .inr ⟨i, _, hi, rfl⟩
  have kM : Keep (Mof c env) H (upd H a (.dK (kz.zip ws))) := fun b o e m => by
    rw [upd_ne (fun z => m (by rw [z]; exact Ma))]; exact e
  have hMH : ∀ (G : Hp) b o, G b = some o → Mof c (env.set i (some (.ownD a kz es))) b → Mof c env b := fun _ b o _ h => hM b h
  have ne : ∀ (j : Nat) (s : Sl) (b : Addr), i ≠ j → env[j]? = some (some s) → s.at = some b → b ≠ a := fun j s b hij e1 e2 z => by
    subst z
    exact hij (S.apart i j _ _ b hi e1 rfl e2)
  refine ⟨S.ok, by simp [S.len], fun j s e => ?_, ?_, fun b o e m => ?_, fun b h e => ?_, fun j k s t b e1 e2 e3 e4 => ?_, S.pk, S.pk _ _ _ _ S.pn kM (hMH H)⟩
  · by_cases e' : i = j
    · subst e'
      rw [List.getElem?_set_self hi'] at e; cases e
      exact ⟨_, hv, rfl, h0, hm, ws, upd_same, hlen, RpAll.anti (hMH _) (RpAll.keep kM r)⟩
    · rw [List.getElem?_set_ne e'] at e
      obtain ⟨w, h1, h2⟩ := S.sl j s e
      refine ⟨w, h1, ?_⟩
      cases s with
      | dat d => exact Rp.anti (hMH _) (Rp.keep kM h2)
      | own b es =>
        obtain ⟨q1, q2, q3, vs', q4, q5⟩ := h2
        exact ⟨q1, q2, q3, vs', by rw [upd_ne (ne j _ b e' e rfl)]; exact q4, RpAll.anti (hMH _) (RpAll.keep kM q5)⟩
      | ownD b kz es =>
        obtain ⟨q1, q2, q3, vs', q4, ql, q5⟩ := h2
        exact ⟨q1, q2, q3, vs', by rw [upd_ne (ne j _ b e' e rfl)]; exact q4, ql, RpAll.anti (hMH _) (RpAll.keep kM q5)⟩
      | self b C ns es =>
        obtain ⟨q1, q2, dx, vs', q4, q5, q6⟩ := h2
        exact ⟨q1, q2, dx, vs', by rw [upd_ne (ne j _ b e' e rfl)]; exact q4, q5, RpAll.anti (hMH _) (RpAll.keep kM q6)⟩
  · exact S.ok.rg.stay H _ S.j fun b o e hr => by
      rw [upd_ne (fun z => hm (by rw [← z]; exact S.ok.sub b hr))]; exact e
  · have hb : b ≠ a := fun z => by rw [z, h0] at e; cases e
    rw [upd_ne hb]; exact S.kp b o e m
  · by_cases hb : b = a
    · rw [hb, upd_same] at e; cases e
    · rw [upd_ne hb] at e; exact S.dom b h e
  · obtain ⟨s', f1, g1⟩ := hat j s e1
    obtain ⟨t', f2, g2⟩ := hat k t e2
    exact S.apart j k s' t' b f1 f2 (g1.trans e3) (g2.trans e4)
theorem Sd.frzD (S : Sd K c pn H0 env σ H) (hi : env[i]? = some (some (.ownD p ks ds))) : Sd K c pn H0 (env.set i (some (.dat (.dct ks ds)))) σ H := by
  have hlt : i < env.length := (List.getElem?_eq_some_iff.mp hi).1
  obtain ⟨v, hv, rfl, h0, hm, vs, hl, hlen, ra⟩ := S.sl i _ hi
  have hM : ∀ a, Mof c (env.set i (some (.dat (.dct ks ds)))) a → Mof c env a := fun a h => by
    rcases h with h | ⟨j, s, h1, h2⟩
    · exact .inl h
    · by_cases e : i = j
      · subst e
        rw [List.getElem?_set_self hlt] at h1; cases h1; cases h2
      · rw [List.getElem?_set_ne e] at h1
        exact .inr ⟨j, s, h1, h2⟩
  have np : ¬ Mof c (env.set i (some (.dat (.dct ks ds)))) p := fun h => by
    rcases h with h | ⟨j, s, h1, h2⟩
    · exact hm h
    · by_cases e : i = j
      · subst e
        rw [List.getElem?_set_self hlt] at h1; cases h1; cases h2
      · rw [List.getElem?_set_ne e] at h1
        exact e (S.apart i j _ s p hi h1 rfl h2)
  have hM' : ∀ a o, H a = some o → Mof c (env.set i (some (.dat (.dct ks ds)))) a → Mof c env a := fun a o _ h => hM a h
  refine ⟨S.ok, by simp [S.len], fun j s e => ?_, S.j, S.kp, S.dom, fun j k s t a e1 e2 e3 e4 => ?_, S.pk, S.pk _ _ _ _ S.pn Keep.refl hM'⟩
  · by_cases e' : i = j
    · subst e'
      rw [List.getElem?_set_self hlt] at e; cases e
      exact ⟨.ref p, hv, .dct np hl hlen (RpAll.anti hM' ra)⟩
    · rw [List.getElem?_set_ne e'] at e
      obtain ⟨w, h1, h2⟩ := S.sl j s e
      refine ⟨w, h1, ?_⟩
      cases s with
      | dat d => exact Rp.anti hM' h2
      | own b ds => obtain ⟨q1, q2, q3, vs, q4, q5⟩ := h2; exact ⟨q1, q2, q3, vs, q4, RpAll.anti hM' q5⟩
      | ownD b kz ds => obtain ⟨q1, q2, q3, vs, q4, ql, q5⟩ := h2; exact ⟨q1, q2, q3, vs, q4, ql, RpAll.anti hM' q5⟩
      | self b C ns ds => obtain ⟨q1, q2, dx, vs, q4, q5, q6⟩ := h2; exact ⟨q1, q2, dx, vs, q4, q5, RpAll.anti hM' q6⟩
  · by_cases h1 : i = j
    · subst h1
      rw [List.getElem?_set_self hlt] at e1; cases e1; cases e3
    · by_cases h2 : i = k
      · subst h2
        rw [List.getElem?_set_self hlt] at e2; cases e2; cases e4
      · rw [List.getElem?_set_ne h1] at e1
        rw [List.getElem?_set_ne h2] at e2
        exact S.apart j k s t a e1 e2 e3 e4

theorem Sd.ownDAt (S : Sd K c pn H0 env σ H) (h : env[i]? = some (some (.ownD p ks ds))) : σ[i]? = some (some (.ref p)) ∧ ∃ vs, H p = some (.dK (ks.zip vs)) ∧ ks.length = vs.length ∧ RpAll K (Mof c env) H vs ds := by
  obtain ⟨v, hv, rfl, _, _, vs, h4, h5, h6⟩ := S.sl i _ h
  exact ⟨hv, vs, h4, h5, h6⟩
mutual
/-- what holds no dict may stand where one more place is out of bounds, at which a dict is -/
theorem Rp.more {M M' : Addr → Prop} (hp : IsDk (H p)) (hm : ∀ b o, H b = some o → M' b → M b ∨ b = p) : ∀ {v : V} {d : D}, Rp K M H v d → noD d = true → Rp K M' H v d
  | _, _, .non, _ => .non
  | _, _, .bl b, _ => .bl b
  | _, _, .int b, _ => .int b
  | _, _, .str b, _ => .str b
  | _, _, .raw b, _ => .raw b
  | _, _, .scrK r, _ => .scrK r
  | _, _, .scr m r, _ => .scr (fun z => (hm _ _ r z).elim m (by
      rintro rfl
      obtain ⟨kvs, h | ⟨q, h⟩⟩ := hp <;> (rw [r] at h; cases h))) r
  | _, _, .lst m r a, h => .lst (fun z => (hm _ _ r z).elim m (by
      rintro rfl
      obtain ⟨kvs, h | ⟨q, h⟩⟩ := hp <;> (rw [r] at h; cases h))) r (RpAll.more hp hm a (by simpa [noD] using h))
  | _, _, .tup m r a, h => .tup (fun z => (hm _ _ r z).elim m (by
      rintro rfl
      obtain ⟨kvs, h | ⟨q, h⟩⟩ := hp <;> (rw [r] at h; cases h))) r (RpAll.more hp hm a (by simpa [noD] using h))
  | _, _, .tupK r a, h => .tupK r (RpAll.more hp hm a (by simpa [noD] using h))
  | _, _, .obj m r e a, h => .obj (fun z => (hm _ _ r z).elim m (by
      rintro rfl
      obtain ⟨kvs, h | ⟨q, h⟩⟩ := hp <;> (rw [r] at h; cases h))) r e (RpAll.more hp hm a (by simpa [noD] using h))
  | _, _, .dct m r e a, h => by simp [noD] at h
theorem RpAll.more {M M' : Addr → Prop} (hp : IsDk (H p)) (hm : ∀ b o, H b = some o → M' b → M b ∨ b = p) : ∀ {vs : List V} {ds : List D}, RpAll K M H vs ds → noDs ds = true → RpAll K M' H vs ds
  | _, _, .nil, _ => .nil
  | _, _, .cons a b, h => by
    simp only [noDs, Bool.and_eq_true] at h
    exact .cons (Rp.more hp hm a h.1) (RpAll.more hp hm b h.2)
end
theorem mof_frzD {d : D} (hi : env[i]? = some (some (.ownD p ks ds))) : ∀ b, Mof c env b → Mof c (env.set i (some (.dat d))) b ∨ b = p := fun b h => by
  rcases h with h | ⟨j, s, h1, h2⟩
  · exact .inl (.inl h)
  · by_cases e : i = j
    · subst e
      rw [hi] at h1; cases h1; cases h2; exact .inr rfl
    · exact .inl (.inr ⟨j, s, by rw [List.getElem?_set_ne e]; exact h1, h2⟩)
end
section
variable {X : Cx} {K : PySem.W.Frag} {rg : Rg} {st : Stmt} {rest : List Stmt} {ts us : TS} {u : TDS} {e e1 e2 o : Expr} {te t1 t2 : TE} {tt : TT} {bt : TB} {x y : TD} {xs : TDs} {xd : TDd} {pos pos' tpos : Pos} {i : Nat}
/-- from here on the dict in slot i is data -/
def sFrzD (i : Nat) (u : TDS) : TDS := fun Dd env => match env[i]? with | some (some (.ownD _ ks ds)) => u Dd (env.set i (some (.dat (.dct ks ds)))) | _ => False
theorem dss_frzD (h : DSs X K rg rest us u) : DSs X K rg rest us (sFrzD i u) :=
  ⟨h.kx, h.ps, fun c hc pn H0 env σ H Dd De S hs n r ro bk ct => by
    unfold sFrzD at hs
    split at hs
    · rename_i p ks ds hi
      exact h.rf c hc pn H0 _ σ H Dd De (S.frzD hi) hs n r ro bk ct
    · exact hs.elim⟩
/-- a test that reads the dict in slot i -/
def sFrzT (i : Nat) (b : TB) : TB := fun env Q => match env[i]? with | some (some (.ownD _ ks ds)) => b (env.set i (some (.dat (.dct ks ds)))) Q | _ => False
theorem dt_frzD (h : DT X K rg e tt bt) : DT X K rg e tt (sFrzT i bt) :=
  ⟨h.kx, h.pt, fun c hc pn H0 env σ H Qd Q S hs k => by
    unfold sFrzT at hs
    split at hs
    · rename_i p ks ds hi
      exact h.rf c hc pn H0 _ σ H Qd Q (S.frzD hi) hs k
    · exact hs.elim⟩
/-- an expression that reads the dict in slot i, its value holds no dict -/
def sFrzE (i : Nat) (x : TD) : TD := fun env Q => match env[i]? with | some (some (.ownD _ ks ds)) => x (env.set i (some (.dat (.dct ks ds)))) fun d => noD d = true ∧ Q d | _ => False
theorem d_frzD (h : DP X K rg e te x) : DP X K rg e te (sFrzE i x) :=
  ⟨h.kx, h.pe, fun c hc pn H0 env σ H Qd Q S hs k => by
    unfold sFrzE at hs
    split at hs
    · rename_i p ks ds hi
      refine h.rf c hc pn H0 _ σ H _ Q (S.frzD hi) hs fun d v H' q k1 j1 r => k d v H' q.2 k1 j1 ?_
      obtain ⟨_, vs, hp, _, _⟩ := (show Sd K c pn H0 env σ H' by subst hc; exact S.grow k1 j1).ownDAt hi
      exact Rp.more ⟨_, .inl hp⟩ (fun b _ _ z => mof_frzD hi b z) r q.1
    · exact hs.elim⟩
def sFrzF (i : Nat) (x : TDs) : TDs := fun env Q => match env[i]? with | some (some (.ownD _ ks ds)) => x (env.set i (some (.dat (.dct ks ds)))) fun d => noDs d = true ∧ Q d | _ => False
theorem df_frzD (h : DF X K rg e te xs) : DF X K rg e te (sFrzF i xs) :=
  ⟨h.kx, h.pe, fun c hc pn H0 env σ H Qd Q S hs k => by
    unfold sFrzF at hs
    split at hs
    · rename_i p ks ds hi
      refine h.rf c hc pn H0 _ σ H _ Q (S.frzD hi) hs fun es a vs H' q ha k1 j1 hl r => k es a vs H' q.2 ha k1 j1 hl ?_
      obtain ⟨_, ws, hp, _, _⟩ := (show Sd K c pn H0 env σ H' by subst hc; exact S.grow k1 j1).ownDAt hi
      refine RpAll.more ⟨_, .inl hp⟩ (fun b _ _ z => ?_) r q.1
      rcases z with z | z
      · exact (mof_frzD hi b z).elim (fun z => .inl (.inl z)) .inr
      · exact .inl (.inr z)
    · exact hs.elim⟩
/-- name = a fresh dict -/
def sSetOD (i : Nat) (xd : TDd) : TDS := fun Dd env => xd env fun ks ds => i < env.length ∧ ∀ a, Dd.nx (env.set i (some (.ownD a ks ds)))
theorem ds_setOD {n : Str} (he : DFd X K rg e te xd) (hN : X.N.Nodup) (hi : X.N[i]? = some n) (hx : Loc X.env.scope n) (hs : swapsWith e (some (.Name n tpos)) pos.line X.env = pure false := by rfl) (hf : X.fn n = true ∨ X.env.scope.names.lookup n = some .local := by first | exact .inl rfl | exact .inr rfl) :
    DS X K rg (.Assign [.Name n tpos] e pos) (tAsg te (gName i)) (sSetOD i xd) := by
  cases he.kx
  exact ⟨rfl, ps_set hN hi hx he.pe hs hf, fun c hc pn H0 env σ H Dd De S h n r ro bk ct =>
    he.rf c hc pn H0 env σ H _ _ S h fun ks ds a vs H' q ha k j hl hlen rr => n _ _ _ (q.2 a) (by subst hc; exact S.setOD i q.1 ha k j hl hlen rr)⟩
/-- {} -/
def sNewD : TDd := fun _ Q => Q [] []
theorem dfd_new (hK : X.K = K := by rfl) : DFd X K rg (.Dict [] [] pos) tDNewK sNewD := by
  cases hK
  exact ⟨rfl, pe_dnewK, fun c hc pn H0 env σ H Qd Q S ht k a ha => by
    subst hc
    exact k [] [] a [] _ ht ha (Keep.upd_new ha) (fresh_j S.ok S.j ha) upd_same rfl .nil⟩
/-- name[e1] = e2 -/
def sPutO (i : Nat) (x y : TD) : TDS := fun Dd env => match env[i]? with
  | some (some (.ownD p ks ds)) => y env fun d => x env fun k => (match k with | .str s => ks.length < sizeLine ∧ Dd.nx (env.set i (some (.ownD p (putDk ks (.inr s)) (putDv ks ds (.inr s) d)))) | _ => False)
  | _ => False
theorem ds_putO (ho : PE X o (tVar i)) (h1 : DP X K rg e1 t1 x) (h2 : DP X K rg e2 t2 y) (hu : X.A.units + 1 < cLine) (hs : swapsWith e2 (some (.Subscript o e1 pos')) pos.line X.env = pure false := by rfl) :
    DS X K rg (.Assign [.Subscript o e1 pos'] e2 pos) (sDPut (tVar i) t1 t2) (sPutO i x y) := by
  cases h1.kx
  refine ⟨rfl, ps_dput hu ho h1.pe h2.pe hs, fun c hc pn H0 env σ H Dd De S q n r ro bk ct => ?_⟩
  unfold sPutO at q
  split at q
  · rename_i p ks ds hi
    obtain ⟨hv, _⟩ := S.ownDAt hi
    refine h2.rf c hc pn H0 env σ H _ _ S q fun d v H1 q1 k1 j1 r1 => ?_
    have S1 : Sd X.K c pn H0 env σ H1 := by subst hc; exact S.grow k1 j1
    refine ⟨_, hv, ?_⟩
    refine h1.rf c hc pn H0 env σ H1 _ _ S1 q1 fun kd z H3 q3 k3 j3 r3 => ?_
    have S3 : Sd X.K c pn H0 env σ H3 := by subst hc; exact S1.grow k3 j3
    cases kd with
    | str s =>
      cases r3
      obtain ⟨lz, q3⟩ := q3
      obtain ⟨_, vs, hp, hl, ra⟩ := S3.ownDAt hi
      have rv3 : Rp X.K (Mof c env) H3 v d := by subst hc; exact Rp.keep (Keep.mono k3 fun a z => Mof.of_R S.ok z) r1
      obtain ⟨ws, e4, l4, ra4⟩ := put_zip hl ra rv3 (k := .inr s)
      refine ⟨p, _, rfl, DPut.k (k := .inr s) hp (by rw [List.length_zip]; omega), ?_⟩
      rw [e4]
      exact n _ _ _ q3 (S3.updOD hi l4 ra4)
    | _ => exact q3.elim
  · exact q.elim
end
end DL

/-! == of dicts whose values are plain. -/
namespace DL
open PySem L2 PySem.Spec PyProof.Rows
def eqDk (ks : List Key) (ds : List D) (kz : List Key) (es : List D) : Bool := ks.length == kz.length && ks.all fun k => match valD ks ds k, valD kz es k with | some d, some e => deq d e | _, _ => false
def rEqDk (K : PySem.W.Frag) : R2 := fun x y H Q => ∃ (a b : Addr) (M : Addr → Prop) (ks kz : List Key) (vs ws : List V) (ds es : List D), x = .ref a ∧ y = .ref b ∧ H a = some (.dK (ks.zip vs)) ∧ H b = some (.dK (kz.zip ws)) ∧ ks.length = vs.length ∧ kz.length = ws.length ∧ RpAll K M H vs ds ∧ RpAll K M H ws es ∧
  ks.Nodup ∧ isPls ds = true ∧ isPls es = true ∧ (∀ d ∈ ds, (toPy d).depth ≤ 60) ∧ Q (.bl (eqDk ks ds kz es)) H
theorem isPls_mem {d : D} : ∀ {ds : List D}, isPls ds = true → d ∈ ds → isPl d = true
  | x :: ds, h, hm => by
    simp only [isPls, Bool.and_eq_true] at h
    rcases List.mem_cons.mp hm with rfl | hm
    · exact h.1
    · exact isPls_mem h.2 hm
theorem valV_valD {K : PySem.W.Frag} {M : Addr → Prop} {H : Hp} {k : Key} : ∀ {ks : List Key} {vs : List V} {ds : List D}, ks.length = vs.length → RpAll K M H vs ds → match valV (ks.zip vs) k, valD ks ds k with | some v, some d => Rp K M H v d ∧ d ∈ ds | none, none => True | _, _ => False
  | [], [], _, _, .nil => by simp [valV, valD]
  | z :: ks, v :: vs, _, hl, .cons (d := d) (ds := ds) a b => by
    have ih := valV_valD (k := k) (ks := ks) (vs := vs) (ds := ds) (by simpa using hl) b
    by_cases e : z = k
    · subst e
      simp only [valV, valD, List.zip_cons_cons, List.find?_cons, decide_true, Option.map_some]
      exact ⟨a, by simp⟩
    · have e' : decide (z = k) = false := decide_eq_false e
      simp only [valV, valD, List.zip_cons_cons, List.find?_cons, e'] at ih ⊢
      split at ih
      · rename_i h1 h2
        rw [h1, h2]
        exact ⟨ih.1, List.mem_cons_of_mem _ ih.2⟩
      · rename_i h1 h2
        rw [h1, h2]; trivial
      · exact ih.elim
section
variable {X : Cx} {K : PySem.W.Frag}
theorem op_eqDk (hu : X.A.units + 64 < cLine) (hK : X.K = K := by rfl) : OpR X (compareOp .Eq) (rEqDk K) := by
  cases hK
  intro pins s σ H x y v u Q I rx ry h
  obtain ⟨a, b, M, ks, kz, vs, ws, ds, es, rfl, rfl, ha, hb, hl1, hl2, r1, r2, nd, p1, p2, dep, q⟩ := h
  cases rx
  cases ry
  obtain ⟨_, na, va, kva, da⟩ := dk_of I.hok ha
  obtain ⟨_, nb, vb, kvb, db⟩ := dk_of I.hok hb
  have key : ∀ k, ∀ vv yy, valueAt va k = some vv → valueAt vb k = some yy → PySem.W.EqTree X.prog X.w s 62 vv yy (match valD ks ds k, valD kz es k with | some d, some e => deq d e | _, _ => false) := fun k vv yy h1 h2 => by
    have m1 := KV.val kva k
    have m2 := KV.val kvb k
    have n1 := valV_valD (k := k) hl1 r1
    have n2 := valV_valD (k := k) hl2 r2
    rw [h1] at m1
    rw [h2] at m2
    cases e1 : valV (ks.zip vs) k with
    | none => rw [e1] at m1; exact m1.elim
    | some x1 =>
      cases e2 : valV (kz.zip ws) k with
      | none => rw [e2] at m2; exact m2.elim
      | some x2 =>
        rw [e1] at m1 n1
        rw [e2] at m2 n2
        cases f1 : valD ks ds k with
        | none => rw [f1] at n1; exact n1.elim
        | some d1 =>
          cases f2 : valD kz es k with
          | none => rw [f2] at n2; exact n2.elim
          | some d2 =>
            rw [f1] at n1
            rw [f2] at n2
            obtain ⟨as, q1⟩ := Dp.reads I _ x1 vv (Rp.dp n1.1 (isPls_mem p1 n1.2)) m1
            obtain ⟨bs, q2⟩ := Dp.reads I _ x2 yy (Rp.dp n2.1 (isPls_mem p2 n2.2)) m2
            refine .leaf fun A hA => ?_
            have := dep d1 n1.2
            exact SeqAt.eqAt_plain (toPy d1) (toPy d2) A s vv yy as bs q1 q2 (plain_toPy d1) (plain_toPy d2) (by have := Nat.min_le_left (toPy d1).depth (toPy d2).depth; omega)
  have kk : va.map (·.1) = ks := by rw [← KV.keys kva]; exact (by rw [List.map_fst_zip]; omega)
  have ndv : (va.map (·.1)).Nodup := by rw [kk]; exact nd
  show wpAny (model X.prog X.w) X.A (compareOp .Eq (.ref a) (.ref b)) (EP X pins σ Q) X.xe s
  refine PySem.W.eq_dictsT (n := 62) (e := fun k => match valD ks ds k, valD kz es k with | some d, some e => deq d e | _, _ => false) na nb da db (fun k vv yy hm hv => key k vv yy ?_ hv) (by omega) ?_
  · obtain ⟨j, hj, e⟩ := List.mem_iff_getElem.mp hm
    exact valueAt_of_get ndv (i := j) (by rw [List.getElem?_eq_getElem hj, e])
  · have la : va.length = ks.length := by rw [← kk, List.length_map]
    have lb : vb.length = kz.length := by rw [← KV.length kvb, List.length_zip]; omega
    have all : (va.all fun p => (valueAt vb p.1).isSome && (match valD ks ds p.1, valD kz es p.1 with | some d, some e => deq d e | _, _ => false)) = ks.all fun k => match valD ks ds k, valD kz es k with | some d, some e => deq d e | _, _ => false := by
      rw [← kk, List.all_map, kk]
      congr 1
      funext p
      have m2 := KV.val kvb p.1
      have n2 := valV_valD (k := p.1) hl2 r2
      cases e2 : valueAt vb p.1 with
      | none =>
        rw [e2] at m2
        cases f2 : valV (kz.zip ws) p.1 with
        | some _ => rw [f2] at m2; exact m2.elim
        | none =>
          rw [f2] at n2
          cases g2 : valD kz es p.1 with
          | some _ => rw [g2] at n2; exact n2.elim
          | none =>
            show _ = (match valD ks ds p.1, valD kz es p.1 with | some d, some e => deq d e | _, _ => false)
            rw [g2]
            cases valD ks ds p.1 <;> rfl
      | some _ => simp
    rw [la, lb, all]
    exact ⟨.bl _, H, I, rfl, q⟩
end
def fEqDk : F2 := fun d e Q => match d, e with
  | .dct ks ds, .dct kz es => ks.Nodup ∧ isPls ds = true ∧ isPls es = true ∧ (∀ d ∈ ds, (toPy d).depth ≤ 60) ∧ Q (.bl (eqDk ks ds kz es))
  | _, _ => False
theorem opd_eqDk {K : PySem.W.Frag} : OpD K (rEqDk K) fEqDk := by
  intro M0 M H v w d e Qd Q hM r1 r2 hf k
  unfold fEqDk at hf
  split at hf
  · obtain ⟨h1, h2, h3, h4, q⟩ := hf
    obtain ⟨a, vs, rfl, m, ha, hl, ra⟩ := r1.dct
    obtain ⟨b, ws, rfl, m2, hb, hl2, rb⟩ := r2.dct
    exact ⟨a, b, _, _, _, vs, ws, _, _, rfl, rfl, ha, hb, hl, hl2, ra, rb, h1, h2, h3, h4, k _ _ H q (Same.refl H) (.bl _)⟩
  · exact hf.elim
end DL

/-! Rows as they go, by the program and by the laws; outcomes that are otherwise, counted. -/
namespace TB
open PySem L2 DL RD PySem.Spec
theorem touch_state2 {d : Str} (h : d ∈ dW) (b : Bool) : (if d = "leaves" then b else d == "sets") = touch1 d b := by
  simp only [dW, List.mem_cons, List.not_mem_nil, or_false] at h
  rcases h with rfl | rfl | rfl <;> cases b <;> decide
theorem touch_step {ns : List Str} {f : Sf} {m : Nat} (hG : GoodT ns f m) {n : Str} (hn : n ∈ ns) {h : List Bool} (hl : h.length = m) {L : List Str} (hs : ∀ (i : Nat) (b : Bool), h[i]? = some b → stateB f L i = b) :
    ∀ (i : Nat) (b : Bool), (touchB (f n) h)[i]? = some b → stateB f (n :: L) i = b := fun i c hc => by
  have la := hG.sl n hn
  have hi : i < (touchB (f n) h).length := (List.getElem?_eq_some_iff.mp hc).1
  have hi2 : i < (f n).length := Nat.lt_of_lt_of_le hi touch_len
  have hi3 : i < h.length := by omega
  have hc2 : c = touch1 (f n)[i].1 h[i] := by
    rw [touchB_eq, List.getElem?_map] at hc
    have hz : ((f n).zip h)[i]? = some ((f n)[i], h[i]) := by
      rw [List.getElem?_zip_eq_some]
      exact ⟨by simp [hi2], by simp [hi3]⟩
    rw [hz] at hc
    simpa using hc.symm
  have hd : doesAt (f n) i = (f n)[i].1 := by
    unfold doesAt
    rw [List.getD_eq_getElem?_getD, List.getElem?_eq_getElem hi2]; rfl
  show (if doesAt (f n) i = "leaves" then stateB f L i else doesAt (f n) i == "sets") = c
  rw [hd, hs i h[i] (List.getElem?_eq_getElem hi3), hc2]
  exact touch_state2 (hG.sg n hn _ (List.getElem_mem hi2)).1 _
theorem touch_len2 {ns : List Str} {f : Sf} {m : Nat} (hG : GoodT ns f m) {n : Str} (hn : n ∈ ns) {h : List Bool} (hl : h.length = m) : (touchB (f n) h).length = m := by
  unfold touchB; rw [List.length_zipWith, hG.sl n hn, hl]; omega
theorem play_law {ns : List Str} {f : Sf} {m : Nat} (hG : GoodT ns f m) : ∀ (r pre : List Str) (h : List Bool), (∀ n ∈ r, n ∈ ns) → h.length = m → (∀ (i : Nat) (b : Bool), h[i]? = some b → stateB f pre.reverse i = b) →
    playB f h r = (r.zipIdx pre.length).map fun p => (p.1, lawFrom (stateB f ((pre ++ r).take p.2).reverse) 0 (f p.1))
  | [], _, _, _, _, _ => rfl
  | n :: r, pre, h, hr, hl, hs => by
    have hn := hr n (by simp)
    have e1 : (pre ++ n :: r).take pre.length = pre := by simp
    have e2 : lawFrom (stateB f pre.reverse) 0 (f n) = failsB (f n) h := lawFrom_eq (f n) 0 h (hG.sg n hn) (by rw [hl, hG.sl n hn]) (fun i b hb => by rw [Nat.zero_add]; exact hs i b hb)
    have ih := play_law hG r (pre ++ [n]) (touchB (f n) h) (fun x hx => hr x (by simp [hx])) (touch_len2 hG hn hl) (by
      rw [List.reverse_append]
      exact touch_step hG hn hl hs)
    rw [playB, ih, List.zipIdx_cons, List.map_cons, e1, e2, List.length_append]
    simp
theorem noB_state {f : Sf} {m : Nat} : ∀ (i : Nat) (b : Bool), (noB m)[i]? = some b → stateB f [] i = b := fun i b hb => by
  have := List.eq_of_mem_replicate (List.mem_of_getElem? hb)
  rw [this]; rfl
/-- one test of a row by the law -/
def lawAt (f : Sf) (r : List Str) (k : Nat) (n : Str) : Bool := lawFrom (stateB f (r.take k).reverse) 0 (f n)
theorem play_law0 {ns : List Str} {f : Sf} {m : Nat} (hG : GoodT ns f m) {r : List Str} (hr : ∀ n ∈ r, n ∈ ns) : playB f (noB m) r = r.zipIdx.map fun p => (p.1, lawAt f r p.2 p.1) := by
  have := play_law hG r [] (noB m) hr (by simp [noB]) noB_state
  simp only [List.nil_append, List.length_nil] at this
  exact this
def missRow (f : Sf) (m : Nat) (r : List Pl) : Nat := (((playB f (noB m) (r.map (·.1))).zip r).filter fun q => !decide (q.1 = q.2)).length
theorem play_map1 (f : Sf) : ∀ (h : List Bool) (r : List Str), (playB f h r).map (·.1) = r
  | _, [] => rfl
  | h, n :: ns => by simp [playB, play_map1 f _ ns]
theorem miss_self (f : Sf) (m : Nat) (r : List Str) : missRow f m (playB f (noB m) r) = 0 := by
  unfold missRow
  rw [play_map1]
  have : ∀ l : List Pl, ((l.zip l).filter fun q => !decide (q.1 = q.2)) = [] := fun l => by
    induction l with
    | nil => rfl
    | cons x l ih => rw [List.zip_cons_cons, List.filter_cons, ih]; simp
  rw [this]; rfl
def flipPl (p : Pl) : Pl := (p.1, !p.2)
theorem flip_map1 (r : List Pl) : (r.map flipPl).map (·.1) = r.map (·.1) := by rw [List.map_map]; rfl
theorem miss_flip (f : Sf) (m : Nat) (r : List Str) : missRow f m ((playB f (noB m) r).map flipPl) = r.length := by
  unfold missRow
  rw [flip_map1, play_map1]
  have : ∀ l : List Pl, ((l.zip (l.map flipPl)).filter fun q => !decide (q.1 = q.2)).length = l.length := fun l => by
    induction l with
    | nil => rfl
    | cons x l ih =>
      have ne : (!decide (x = flipPl x)) = true := by
        rw [Bool.not_eq_true', decide_eq_false_iff_not]
        intro e
        have := congrArg Prod.snd e
        simp [flipPl] at this
      rw [List.map_cons, List.zip_cons_cons, List.filter_cons, if_pos ne, List.length_cons, ih, List.length_cons]
  rw [this]
  have := congrArg List.length (play_map1 f (noB m) r)
  rwa [List.length_map] at this
/-- counted by the law -/
theorem miss_law {ns : List Str} {f : Sf} {m : Nat} (hG : GoodT ns f m) {r : List Pl} (hr : ∀ p ∈ r, p.1 ∈ ns) :
    (r.zipIdx.filter fun p => !(p.1.2 == lawAt f (r.map (·.1)) p.2 p.1.1)).length = missRow f m r := by
  unfold missRow
  rw [play_law0 hG (r := r.map (·.1)) (fun n hn => by obtain ⟨p, hp, rfl⟩ := List.mem_map.mp hn; exact hr p hp)]
  generalize lawAt f (r.map (·.1)) = g
  have key : ∀ (l : List Pl) (k : Nat), ((l.zipIdx k).filter fun p => !(p.1.2 == g p.2 p.1.1)).length = (((((l.map (·.1)).zipIdx k).map fun p => (p.1, g p.2 p.1)).zip l).filter fun q => !decide (q.1 = q.2)).length := fun l => by
    induction l with
    | nil => intro k; rfl
    | cons x l ih =>
      intro k
      have ih := ih (k + 1)
      simp only [List.map_cons, List.zipIdx_cons, List.zip_cons_cons, List.filter_cons]
      have e : (!(x.2 == g k x.1)) = !decide ((x.1, g k x.1) = x) := by
        obtain ⟨a, b⟩ := x
        show (!(b == g k a)) = !decide ((a, g k a) = (a, b))
        congr 1
        rw [Bool.eq_iff_iff, decide_eq_true_iff, beq_iff_eq]
        exact ⟨fun h => by rw [h], fun h => (congrArg Prod.snd h).symm⟩
      rw [e]
      by_cases h : (!decide ((x.1, g k x.1) = x)) = true
      · rw [if_pos h, if_pos h, List.length_cons, List.length_cons, ih]
      · rw [if_neg h, if_neg h, ih]
  exact key r 0
end TB

/-! == of tables. -/
namespace TB
open PySem L2 DL RD PySem.Spec
theorem deq_sg (x y : Sg) : deq (eSg x) (eSg y) = decide (x = y) := by
  obtain ⟨a, b⟩ := x
  obtain ⟨c, d⟩ := y
  show deq (.tup [.str a, .str b]) (.tup [.str c, .str d]) = _
  rw [deq_pair, deq_str, deq_str, Bool.eq_iff_iff]
  simp
theorem deq_ss (x y : List Sg) : deq (eSs true x) (eSs true y) = decide (x = y) := deq_tup_map deq_sg x y
def eqTab (ys : List Str) (f : Sf) (zs : List Str) (g : Sf) : Bool := ys.length == zs.length && ys.all fun n => decide (n ∈ zs) && decide (f n = g n)
theorem valD_not {ns : List Str} {g : Str → D} {n : Str} (h : n ∉ ns) : valD (ns.map .inr) (ns.map g) (.inr n) = none := by
  induction ns with
  | nil => rfl
  | cons x xs ih =>
    have h1 : ¬ x = n := fun e => h (by simp [e])
    have h2 := ih (fun z => h (by simp [z]))
    simp only [valD, List.map_cons, List.zip_cons_cons, List.find?_cons] at h2 ⊢
    rw [show decide ((Sum.inr x : Key) = Sum.inr n) = false from by simpa using h1]
    exact h2
theorem eqDk_tab (ys : List Str) (f : Sf) (zs : List Str) (g : Sf) : eqDk (ys.map .inr) (ys.map fun n => eSs true (f n)) (zs.map .inr) (zs.map fun n => eSs true (g n)) = eqTab ys f zs g := by
  have go : ∀ n ∈ ys, (match valD (ys.map .inr) (ys.map fun n => eSs true (f n)) (.inr n), valD (zs.map .inr) (zs.map fun n => eSs true (g n)) (.inr n) with | some d, some e => deq d e | _, _ => false) = (decide (n ∈ zs) && decide (f n = g n)) := fun n hn => by
    rw [valD_map hn]
    by_cases h : n ∈ zs
    · rw [valD_map h, decide_eq_true h]
      show deq (eSs true (f n)) (eSs true (g n)) = _
      rw [deq_ss]; rfl
    · rw [valD_not h, decide_eq_false h]; rfl
  unfold eqDk eqTab
  rw [List.length_map, List.length_map, List.all_map]
  congr 1
  rw [Bool.eq_iff_iff, List.all_eq_true, List.all_eq_true]
  constructor
  · intro h n hn
    rw [← go n hn]; exact h n hn
  · intro h n hn
    have := h n hn
    rw [← go n hn] at this; exact this
def tfEqT (CT : Addr) : Tf := fun rg ds Q => ∃ ys f m zs g k, ds = [eTable CT ys f m, eTable CT zs g k] ∧ GoodT ys f m ∧ GoodT zs g k ∧ Q (.bl (eqTab ys f zs g))
theorem pls_tab (ys : List Str) (f : Sf) : isPls (ys.map fun n => eSs true (f n)) = true := isPls_map (enc := fun n => eSs true (f n)) (fun n => by
  show isPls ((f n).map eSg) = true
  exact isPls_map (enc := eSg) (fun _ => rfl) _) ys
theorem nd_inr {ys : List Str} (h : ys.Nodup) : (ys.map (Sum.inr : Str → Key)).Nodup := List.Pairwise.map _ (fun a b h e => h (Sum.inr.inj e)) h
theorem dep_ss (ss : List Sg) : (toPy (eSs true ss)).depth ≤ 60 := Nat.le_trans (dep_tup (m := 1) (enc := eSg) (fun p => by simp [eSg, toPy, toPys, PyData.depth, PyData.depthAll]) ss) (by decide)
end TB

namespace K17
open PySem L2 DL RD TB PySem.Spec PyProof.Rows

def eOK (k : Bool) (r : List Str) : D := sq k (r.map .str)
def eOKs (k k' : Bool) (rs : List (List Str)) : D := sq k (rs.map (eOK k'))
def playR (f : Sf) (m : Nat) (rs : List (List Str)) : List (List Pl) := rs.map (playB f (noB m))
structure GoodRs (rs : List (List Str)) (ys : List Str) : Prop where
  ne : rs ≠ []
  len : rs.length < 1000
  row : ∀ r ∈ rs, r ≠ [] ∧ r.length < 1000 ∧ ∀ x ∈ r, x ∈ ys
def missR (f : Sf) (m : Nat) (R : List (List Pl)) : Nat := (((playR f m (R.map fun r => r.map (·.1))).zip R).flatMap fun q => (q.1.zip q.2).filter fun p => !decide (p.1 = p.2)).length
def tfIsOrder : Tf := fun rg ds Q => ∃ k r, ds = [eOK k r] ∧ r ≠ [] ∧ r.length < 1000 ∧ (∀ x ∈ r, isName x = true) ∧ Q (.bl true)
def tfCheckRows : Tf := fun rg ds Q => ∃ k k' rs ys, ds = [eOKs k k' rs, .tup (ys.map .str)] ∧ GoodRs rs ys ∧ ys.length < 60 ∧ (∀ y ∈ ys, isName y = true) ∧ Q .non
def tfPlayedK (CT : Addr) : Tf := fun rg ds Q => ∃ ys f m k row, ds = [eTable CT ys f m, eOK k row] ∧ GoodT ys f m ∧ row.length < 1000 ∧ (∀ n ∈ row, n ∈ ys) ∧ Q (.lst ((playB f (noB m) row).map ePl))
def tfPlay (CT CR : Addr) : Tf := fun rg ds Q => ∃ ys f m k k' rs, ds = [eTable CT ys f m, eOKs k k' rs] ∧ GoodT ys f m ∧ GoodRs rs ys ∧ ∀ zs, AscOf zs (inR (playR f m rs)) → Q (eRun CR (playR f m rs) zs)
def tfMisses (CT CR : Addr) : Tf := fun rg ds Q => ∃ ys f m R zs, ds = [eTable CT ys f m, eRun CR R zs] ∧ GoodT ys f m ∧ Good R ∧ (∀ r ∈ R, ∀ p ∈ r, p.1 ∈ ys) ∧ Q (.int (missR f m R : Nat))
theorem play_names (f : Sf) : ∀ (h : List Bool) (r : List Str), (playB f h r).map (·.1) = r
  | _, [] => rfl
  | h, n :: ns => by simp [playB, play_names f _ ns]
theorem play_len (f : Sf) (h : List Bool) (r : List Str) : (playB f h r).length = r.length := by
  have := congrArg List.length (play_names f h r)
  rwa [List.length_map] at this
theorem play_in {f : Sf} {h : List Bool} {r : List Str} {p : Pl} (hp : p ∈ playB f h r) : p.1 ∈ r := by
  have : p.1 ∈ (playB f h r).map (·.1) := List.mem_map.mpr ⟨p, hp, rfl⟩
  rwa [play_names f h r] at this
theorem play_good {f : Sf} {m : Nat} {rs : List (List Str)} {ys : List Str} (h : GoodRs rs ys) (nm : ∀ y ∈ ys, isName y = true) : Good (playR f m rs) := by
  refine ⟨fun e => h.ne (List.map_eq_nil_iff.mp e), by unfold playR; rw [List.length_map]; exact h.len, fun r hr => ?_⟩
  obtain ⟨s, hs, rfl⟩ := List.mem_map.mp hr
  obtain ⟨a, b, c⟩ := h.row s hs
  refine ⟨fun e => a ?_, by rw [play_len]; exact b, fun p hp => nm _ (c _ (play_in hp))⟩
  have := congrArg List.length e
  rw [play_len] at this
  exact List.eq_nil_of_length_eq_zero this
theorem play_few {f : Sf} {m : Nat} {rs : List (List Str)} {ys : List Str} (h : GoodRs rs ys) (l : ys.length < 60) : Few (playR f m rs) := by
  refine ⟨ys, by omega, fun r hr p hp => ?_⟩
  obtain ⟨s, hs, rfl⟩ := List.mem_map.mp hr
  exact (h.row s hs).2.2 _ (play_in hp)
theorem ords_eq (R : List (List Pl)) : eOrds R = eOKs true true (R.map fun r => r.map (·.1)) := by
  show D.tup (R.map eOrd) = D.tup ((R.map fun r => r.map (·.1)).map (eOK true))
  rw [List.map_map]
  congr 1
  refine List.map_congr_left fun r _ => ?_
  show D.tup (r.map fun p => .str p.1) = D.tup ((r.map (·.1)).map .str)
  rw [List.map_map]; rfl
theorem goodRs_of {R : List (List Pl)} {ys : List Str} (h : Good R) (hin : ∀ r ∈ R, ∀ p ∈ r, p.1 ∈ ys) : GoodRs (R.map fun r => r.map (·.1)) ys := by
  refine ⟨fun e => h.ne (List.map_eq_nil_iff.mp e), by rw [List.length_map]; exact h.len, fun s hs => ?_⟩
  obtain ⟨r, hr, rfl⟩ := List.mem_map.mp hs
  refine ⟨fun e => (h.row r hr).1 (List.map_eq_nil_iff.mp e), by rw [List.length_map]; exact (h.row r hr).2.1, fun x hx => ?_⟩
  obtain ⟨p, hp, rfl⟩ := List.mem_map.mp hx
  exact hin r hr p hp
def ePP (q : Pl × Pl) : D := .tup [ePl q.1, ePl q.2]

section
variable {P : Program} {w : World} {K : PySem.W.Frag} {mg : Str → Option Value} {base : Heap} {CT CR : Addr}

abbrev s_is_name : Stmt := top 10
abbrev N_is_name : List Str := ["value"]
theorem sc_is_name : FnScope N_is_name ["value"] (defScope s_is_name) := ⟨rfl, rfl, rfl, by decide +kernel, rfl, by decide +kernel, by decide +kernel⟩
theorem ok_is_name {f : Addr} {fd : FuncData} (F : Fun K "is_name" "is_name" s_is_name f fd) (T : Txt mg) : FnOk P w K mg base CX0 (0 + 1) f fd ["value"] (spD K 1 tfIsName) := by
  refine fn_D F sc_is_name rfl fun rg cdv A outer s H E hr => ?_
  have hu := hr.units
  refine ⟨_, _, (dss_cons (ds_if (DW.dt (dw_or (dt_not (dt_val (d_isi (T := "str") (by rfl) T.isinstance (by rfl) T.str (by decide +kernel) (DP.o (d_var (pv 0)))))) (dw_or (dt_cmp op_gt opd_cmpI (DP.o (d_callB cl_len cad_len (by rfl) T.len (by decide +kernel) (dao_cons (DP.o (d_var (pv 0))) dao_nil))) (DP.o d_int) (nomark _)) (dw_or1 (dt_cmp (op_eqP (by exact hu)) opd_eq (DP.o (d_var (pv 0))) (DP.o d_str) (nomark _)))))) (dss_one (ds_ret (DP.o d_bl))) dss_nil)
    (dss_one (ds_ret (DP.o (d_and (d_tm0 PySem.F.slot_str_isascii PySem.F.type_str_isascii mt_isascii (fun _ _ _ => .bl _) (d_var (pv 0))) (d_and (d_tm0 PySem.F.slot_str_isalpha PySem.F.type_str_isalpha mt_isalpha (fun _ _ _ => .bl _) (d_var (pv 0))) (d_one (d_tm0 PySem.F.slot_str_islower PySem.F.type_str_islower mt_islower (fun _ _ _ => .bl _) (d_var (pv 0)))))))))), fun ds Qd h hl => ?_⟩
  obtain ⟨x, rfl, lx, hq⟩ := h
  have hs : (1000 : Nat) < sizeLine := by decide
  refine ⟨"str", true, rfl, rfl, ?_⟩
  refine ⟨by omega, ?_⟩
  show (if decide ((x.length : Int) > 4) = true then _ else _)
  have hd := hq
  unfold isName at hd
  by_cases h4 : decide ((x.length : Int) > 4) = true
  · rw [if_pos h4]
    have e4 : decide ((4 : Int) < x.length) = true := h4
    rw [e4] at hd
    exact hd
  · rw [if_neg h4]
    have e4 : decide ((4 : Int) < x.length) = false := by simpa using h4
    rw [e4] at hd
    refine ⟨rfl, rfl, Nat.le_trans (Nat.min_le_right _ _) (by decide), ?_⟩
    show (if deq (.str x) (.str "none") = true then _ else _)
    rw [deq_str]
    by_cases h5 : (x == "none") = true
    · rw [if_pos h5]
      rw [h5] at hd
      exact hd
    · rw [if_neg h5]
      have e5 : (x == "none") = false := by simpa using h5
      rw [e5] at hd
      refine ⟨trivial, ?_⟩
      show (if Txt.isascii x = true then _ else _)
      cases e6 : Txt.isascii x with
      | false => rw [e6] at hd; exact hd
      | true =>
        rw [e6] at hd
        refine ⟨trivial, ?_⟩
        show (if Txt.isalpha x = true then _ else _)
        cases e7 : Txt.isalpha x with
        | false => rw [e7] at hd; exact hd
        | true =>
          rw [e7] at hd
          exact ⟨trivial, hd⟩

abbrev s_items_of : Stmt := top 11
abbrev N_items_of : List Str := ["value"]
theorem sc_items_of : FnScope N_items_of ["value"] (defScope s_items_of) := ⟨rfl, rfl, rfl, by decide +kernel, rfl, by decide +kernel, by decide +kernel⟩
theorem ok_items_of {f : Addr} {fd : FuncData} (F : Fun K "items_of" "items_of" s_items_of f fd) (T : Txt mg) : FnOk P w K mg base CX0 (0 + 1) f fd ["value"] (spD K 1 tfItems) := by
  refine fn_D F sc_items_of rfl fun rg cdv A outer s H E hr => ?_
  have hu := hr.units
  refine ⟨_, _, (dss_one (ds_ret (DP.o (d_if (dt_val (d_isi2 (by rfl) T.isinstance (DP.o (d_var (pv 0))) (pe_bltn (v := .ty "list") (by rfl) T.list (by decide +kernel) rfl) (pe_bltn (v := .ty "tuple") (by rfl) T.tuple (by decide +kernel) rfl) (.ty "list") (.ty "tuple"))) (d_var (pv 0)) (d_tup da_nil))))), fun ds Qd h hl => ?_⟩
  obtain ⟨k, es, rfl, hq⟩ := h
  cases k with
  | true => exact ⟨.type "tuple", true, rfl, trivial, rfl, hq⟩
  | false => exact ⟨.type "list", true, rfl, trivial, rfl, hq⟩

abbrev s_first_wrong : Stmt := top 12
abbrev N_first_wrong : List Str := ["fits"]
theorem sc_first_wrong : FnScope N_first_wrong ["fits"] (defScope s_first_wrong) := ⟨rfl, rfl, rfl, by decide +kernel, rfl, by decide +kernel, by decide +kernel⟩
theorem ok_first_wrong {f : Addr} {fd : FuncData} (F : Fun K "first_wrong" "first_wrong" s_first_wrong f fd) (T : Txt mg) : FnOk P w K mg base CX0 (0 + 1) f fd ["fits"] (spD K 1 tfFirst) := by
  refine fn_D F sc_first_wrong rfl fun rg cdv A outer s H E hr => ?_
  have hu := hr.units
  refine ⟨_, _, (dss_cons (ds_if (dt_cmp (op_eqP (by exact hu)) opd_eq (DP.o (d_callB cl_len cad_len (by rfl) T.len (by decide +kernel) (dao_cons (DP.o (d_var (pv 0))) dao_nil))) (DP.o d_int) (nomark _)) (dss_one (ds_ret (DP.o d_int))) dss_nil)
    (dss_one (ds_ret (DP.o (d_if (dt_cmp (op_inP (by exact hu)) (opd_in false) (DP.o d_bl) (DP.o (d_var (pv 0))) (by rfl)) d_no d_non))))), fun ds Qd h hl => ?_⟩
  obtain ⟨n, hn, rfl, hq⟩ := h
  refine ⟨rfl, rfl, Nat.le_trans (Nat.min_le_right _ _) (by decide), ?_⟩
  show (if deq (.int ((List.replicate n (D.bl true)).length : Nat)) (.int 0) = true then _ else _)
  rw [deq_int, List.length_replicate]
  have e0 : (((n : Nat) : Int) == 0) = false := by simp; omega
  rw [e0]
  have pl : ∀ n, isPls (List.replicate n (D.bl true)) = true := fun n => by
    induction n with
    | zero => rfl
    | succ n ih => rw [List.replicate_succ]; simp [isPls, isPl, ih]
  refine ⟨rfl, pl n, Nat.le_trans (Nat.min_le_right _ _) (by decide), ?_⟩
  show (if inD (.bl false) (List.replicate n (D.bl true)) = true then _ else _)
  have e1 : inD (.bl false) (List.replicate n (D.bl true)) = false := by
    unfold inD
    rw [List.any_eq_false]
    intro z hz
    rw [List.eq_of_mem_replicate hz]
    decide
  rw [e1]
  exact hq

abbrev s_is_order : Stmt := top 13
abbrev N_is_order : List Str := ["value", "names", "name"]
theorem sc_is_order : FnScope N_is_order ["value"] (defScope s_is_order) := ⟨rfl, rfl, rfl, by decide +kernel, rfl, by decide +kernel, by decide +kernel⟩
theorem ok_is_order {f : Addr} {fd : FuncData} (F : Fun K "is_order" "is_order" s_is_order f fd) (T : Txt mg) (CI : Cal P w K mg base "items_of" 1 1 tfItems) (CN : Cal P w K mg base "is_name" 1 1 tfIsName) : FnOk P w K mg base CX0 (1 + 1) f fd ["value"] (spD K 1 tfIsOrder) := by
  refine fn_D F sc_is_order rfl fun rg cdv A outer s H E hr => ?_
  have hu := hr.units
  refine ⟨_, _, (dss_cons (ds_setP (d_callC CI (hr.mono (by omega)) (by rfl) (da_cons (d_var (pv 0)) da_nil)) (i := 1) sc_is_order.nd rfl (by first | exact Or.inl rfl | exact Or.inr rfl))
    (dss_one (ds_ret (DP.o (d_and (d_cmp op_gt opd_cmpI (DP.o (d_callB cl_len cad_len (by rfl) T.len (by decide +kernel) (dao_cons (DP.o (d_var (pv 1))) dao_nil))) (DP.o d_int) (nomark _)) (d_one (d_callB (cl_all rfl) cad_all (by rfl) T.all (by decide +kernel) (dao_cons (DP.o (DF.p (df_lc (own := [("name", 2)]) rfl sc_is_order.nd (blkOk_by (N := N_is_order) (sc := (defScope s_is_order)) (by decide +kernel)) (di_op (DP.o (d_var (pv 1)))) (fun _ _ _ _ _ => by exact (dg_name (pg_name (i := 2) sc_is_order.nd rfl (by first | exact Or.inl rfl | exact Or.inr rfl)) (by decide))) (fun _ _ _ _ _ => by exact dts_nil) (fun _ _ _ _ _ => by exact (d_callC CN (hr.mono (by omega)) (by rfl) (da_cons (d_var (pv 2)) da_nil)))))) dao_nil)))))))), fun ds Qd h hl => ?_⟩
  obtain ⟨k, r, rfl, hne, hlen, hp, hq⟩ := h
  have l0 : 0 < r.length := List.length_pos_iff.mpr hne
  have c0 : decide ((0 : Int) < ((r.map D.str).length : Nat)) = true := by rw [List.length_map]; simp; omega
  refine ⟨rfl, k, r.map .str, rfl, Nat.le_of_ble_eq_true rfl, ?_⟩
  cases k <;>
  · show (if decide ((0 : Int) < ((r.map D.str).length : Nat)) = true then _ else _)
    rw [if_pos c0]
    refine ⟨rfl, lc_at (xs := r) (enc := D.str) (p := fun _ => true) (g := fun _ => D.bl true) rfl (by omega) (fun x hx Qy Qn hy => ⟨rfl, rfl, x, rfl, by have := isName_len (hp x hx); omega, ?_⟩) ⟨(r.filter fun _ => true).map fun _ => true, by rw [List.map_map]; rfl, ?_⟩⟩
    · rw [hp x hx]; exact hy
    have e1 : ((r.filter fun _ => true).map fun _ => true).all id = true := by simp
    show Qd (.bl (((r.filter fun _ => true).map fun _ => true).all id))
    rw [e1]; exact hq

abbrev s_is_place : Stmt := top 15
abbrev N_is_place : List Str := ["value"]
theorem sc_is_place : FnScope N_is_place ["value"] (defScope s_is_place) := ⟨rfl, rfl, rfl, by decide +kernel, rfl, by decide +kernel, by decide +kernel⟩
theorem ok_is_place {f : Addr} {fd : FuncData} (F : Fun K "is_place" "is_place" s_is_place f fd) (T : Txt mg) (CN : Cal P w K mg base "is_name" 1 1 tfIsName) : FnOk P w K mg base CX0 (1 + 1) f fd ["value"] (spD K 1 tfIsPlace) := by
  refine fn_D F sc_is_place rfl fun rg cdv A outer s H E hr => ?_
  have hu := hr.units
  refine ⟨_, _, (dss_one (ds_ret (DP.o (d_and (d_isi (T := "tuple") (by rfl) T.isinstance (by rfl) T.tuple (by decide +kernel) (DP.o (d_var (pv 0)))) (d_and (d_cmp (op_eqP (by exact hu)) opd_eq (DP.o (d_callB cl_len cad_len (by rfl) T.len (by decide +kernel) (dao_cons (DP.o (d_var (pv 0))) dao_nil))) (DP.o d_int) (nomark _)) (d_and (d_callC CN (hr.mono (by omega)) (by rfl) (da_cons (d_ix (DP.o (d_var (pv 0))) (DP.o d_int)) da_nil)) (d_one (d_isi (T := "bool") (by rfl) T.isinstance (by rfl) T.bool (by decide +kernel) (DP.o (d_ix (DP.o (d_var (pv 0))) (DP.o d_int))))))))))), fun ds Qd h hl => ?_⟩
  obtain ⟨p, rfl, hp, hq⟩ := h
  have l4 := isName_len hp
  refine ⟨"tuple", true, rfl, rfl, ?_⟩
  refine ⟨rfl, rfl, Nat.le_trans (Nat.min_le_right _ _) (by decide), ?_⟩
  show (if deq (.int 2) (.int 2) = true then _ else _)
  rw [deq_int]
  refine ⟨_, rfl, rfl, p.1, rfl, by omega, ?_⟩
  rw [hp]
  exact ⟨_, rfl, "bool", true, rfl, rfl, hq⟩

abbrev s_is_row : Stmt := top 16
abbrev N_is_row : List Str := ["value", "places", "place"]
theorem sc_is_row : FnScope N_is_row ["value"] (defScope s_is_row) := ⟨rfl, rfl, rfl, by decide +kernel, rfl, by decide +kernel, by decide +kernel⟩
theorem ok_is_row {f : Addr} {fd : FuncData} (F : Fun K "is_row" "is_row" s_is_row f fd) (T : Txt mg) (CI : Cal P w K mg base "items_of" 1 1 tfItems) (CP : Cal P w K mg base "is_place" 2 1 tfIsPlace) : FnOk P w K mg base CX0 (2 + 1) f fd ["value"] (spD K 1 tfIsRow) := by
  refine fn_D F sc_is_row rfl fun rg cdv A outer s H E hr => ?_
  have hu := hr.units
  refine ⟨_, _, (dss_cons (ds_setP (d_callC CI (hr.mono (by omega)) (by rfl) (da_cons (d_var (pv 0)) da_nil)) (i := 1) sc_is_row.nd rfl (by first | exact Or.inl rfl | exact Or.inr rfl))
    (dss_one (ds_ret (DP.o (d_and (d_cmp op_gt opd_cmpI (DP.o (d_callB cl_len cad_len (by rfl) T.len (by decide +kernel) (dao_cons (DP.o (d_var (pv 1))) dao_nil))) (DP.o d_int) (nomark _)) (d_one (d_callB (cl_all rfl) cad_all (by rfl) T.all (by decide +kernel) (dao_cons (DP.o (DF.p (df_lc (own := [("place", 2)]) rfl sc_is_row.nd (blkOk_by (N := N_is_row) (sc := (defScope s_is_row)) (by decide +kernel)) (di_op (DP.o (d_var (pv 1)))) (fun _ _ _ _ _ => by exact (dg_name (pg_name (i := 2) sc_is_row.nd rfl (by first | exact Or.inl rfl | exact Or.inr rfl)) (by decide))) (fun _ _ _ _ _ => by exact dts_nil) (fun _ _ _ _ _ => by exact (d_callC CP (hr.mono (by omega)) (by rfl) (da_cons (d_var (pv 2)) da_nil)))))) dao_nil)))))))), fun ds Qd h hl => ?_⟩
  obtain ⟨k, r, rfl, hne, hlen, hp, hq⟩ := h
  have l0 : 0 < r.length := List.length_pos_iff.mpr hne
  have c0 : decide ((0 : Int) < ((r.map ePl).length : Nat)) = true := by rw [List.length_map]; simp; omega
  refine ⟨rfl, k, r.map ePl, rfl, Nat.le_of_ble_eq_true rfl, ?_⟩
  cases k <;>
  · show (if decide ((0 : Int) < ((r.map ePl).length : Nat)) = true then _ else _)
    rw [if_pos c0]
    refine ⟨rfl, lc_at (xs := r) (enc := ePl) (p := fun _ => true) (g := fun _ => D.bl true) rfl (by omega) (fun x hx Qy Qn hy => ⟨rfl, rfl, x, rfl, hp x hx, hy⟩) ⟨(r.filter fun _ => true).map fun _ => true, by rw [List.map_map]; rfl, ?_⟩⟩
    have e1 : ((r.filter fun _ => true).map fun _ => true).all id = true := by simp
    show Qd (.bl (((r.filter fun _ => true).map fun _ => true).all id))
    rw [e1]; exact hq

abbrev s_wrong_row : Stmt := top 17
abbrev N_wrong_row : List Str := ["rows", "row"]
theorem sc_wrong_row : FnScope N_wrong_row ["rows"] (defScope s_wrong_row) := ⟨rfl, rfl, rfl, by decide +kernel, rfl, by decide +kernel, by decide +kernel⟩
theorem ok_wrong_row {f : Addr} {fd : FuncData} (F : Fun K "wrong_row" "wrong_row" s_wrong_row f fd) (T : Txt mg) (CI : Cal P w K mg base "items_of" 1 1 tfItems) (CR1 : Cal P w K mg base "is_row" 3 1 tfIsRow) (CF : Cal P w K mg base "first_wrong" 1 1 tfFirst) : FnOk P w K mg base CX0 (3 + 1) f fd ["rows"] (spD K 1 tfWrong) := by
  refine fn_D F sc_wrong_row rfl fun rg cdv A outer s H E hr => ?_
  have hu := hr.units
  refine ⟨_, _, (dss_one (ds_ret (DP.o (d_callC CF (hr.mono (by omega)) (by rfl) (da_cons (DF.p (df_lc (own := [("row", 1)]) rfl sc_wrong_row.nd (blkOk_by (N := N_wrong_row) (sc := (defScope s_wrong_row)) (by decide +kernel)) (di_op (DP.o (d_callC CI (hr.mono (by omega)) (by rfl) (da_cons (d_var (pv 0)) da_nil)))) (fun _ _ _ _ _ => by exact (dg_name (pg_name (i := 1) sc_wrong_row.nd rfl (by first | exact Or.inl rfl | exact Or.inr rfl)) (by decide))) (fun _ _ _ _ _ => by exact dts_nil) (fun _ _ _ _ _ => by exact (d_callC CR1 (hr.mono (by omega)) (by rfl) (da_cons (d_var (pv 1)) da_nil))))) da_nil))))), fun ds Qd h hl => ?_⟩
  obtain ⟨k, R, rfl, hG, hq⟩ := h
  have l0 : 0 < R.length := List.length_pos_iff.mpr hG.ne
  have l1 := hG.len
  cases k <;>
  · refine ⟨rfl, rfl, _, R.map (eRow _), rfl, ?_⟩
    refine lc_at (xs := R) (enc := eRow _) (p := fun _ => true) (g := fun _ => D.bl true) rfl (by omega) (fun x hx Qy Qn hy => ⟨rfl, rfl, _, x, rfl, (hG.row x hx).1, (hG.row x hx).2.1, (hG.row x hx).2.2, hy⟩) ⟨rfl, R.length, l0, ?_, hq⟩
    have e1 : R.filter (fun _ => true) = R := by simp
    rw [e1, List.map_const']

abbrev s_Run___init__ : Stmt := inClass (top 21) 0
abbrev N_Run___init__ : List Str := ["self", "rows", "at", "row", "order", "name", "_"]
theorem sc_Run___init__ : FnScope N_Run___init__ ["self", "rows"] (defScope s_Run___init__) := ⟨rfl, rfl, rfl, by decide +kernel, rfl, by decide +kernel, by decide +kernel⟩
theorem ok_Run___init__ {f : Addr} {fd : FuncData} (F : Fun K "__init__" "Run.__init__" s_Run___init__ f fd) (T : Txt mg) (O : OR K mg CR) (CW : Cal P w K mg base "wrong_row" 4 1 tfWrong) : FnOk P w K mg base CX0 (4 + 1) f fd ["self", "rows"] (spI K CR ["rows", "orders", "names"] 1 tfInit) := by
  refine fn_I F sc_Run___init__ rfl fun rg cdv A outer s H E hr => ?_
  have hu := hr.units
  refine ⟨_, _, (dss_cons (ds_setP (d_callC CW (hr.mono (by omega)) (by rfl) (da_cons (d_var (pv 1)) da_nil)) (i := 2) sc_Run___init__.nd rfl (by first | exact Or.inl rfl | exact Or.inr rfl))
    (dss_cons (ds_if (dt_cmp op_notN opd_notN (DP.o (d_var (pv 2))) (DP.o d_non) (nomark _)) (dss_one ds_never) dss_nil)
    (dss_cons (ds_fldS (pv 0) (d_callTy cl_tuple cad_tuple (by rfl) T.tuple (by decide +kernel) (dao_cons (DP.o (DF.p (df_lc (own := [("row", 3)]) rfl sc_Run___init__.nd (blkOk_by (N := N_Run___init__) (sc := (defScope s_Run___init__)) (by decide +kernel)) (di_op (DP.o (d_var (pv 1)))) (fun _ _ _ _ _ => by exact (dg_name (pg_name (i := 3) sc_Run___init__.nd rfl (by first | exact Or.inl rfl | exact Or.inr rfl)) (by decide))) (fun _ _ _ _ _ => by exact dts_nil) (fun _ _ _ _ _ => by exact (d_callTy cl_tuple cad_tuple (by rfl) T.tuple (by decide +kernel) (dao_cons (DP.o (d_var (pv 3))) dao_nil)))))) dao_nil)) O.cls O.rows)
    (dss_cons (ds_fldS (pv 0) (d_callTy cl_tuple cad_tuple (by rfl) T.tuple (by decide +kernel) (dao_cons (DP.o (DF.p (df_lc (own := [("row", 3)]) rfl sc_Run___init__.nd (blkOk_by (N := N_Run___init__) (sc := (defScope s_Run___init__)) (by decide +kernel)) (di_op (DP.o (d_fldS (pv 0) O.cls O.rows))) (fun _ _ _ _ _ => by exact (dg_name (pg_name (i := 3) sc_Run___init__.nd rfl (by first | exact Or.inl rfl | exact Or.inr rfl)) (by decide))) (fun _ _ _ _ _ => by exact dts_nil) (fun _ _ _ _ _ => by exact (d_callTy cl_tuple cad_tuple (by rfl) T.tuple (by decide +kernel) (dao_cons (DP.o (DF.p (df_lc (own := [("name", 5), ("_", 6)]) rfl sc_Run___init__.nd (blkOk_by (N := N_Run___init__) (sc := (relS _ (defScope s_Run___init__))) (by decide +kernel)) (di_op (DP.o (d_var (pv 3)))) (fun _ _ _ _ _ => by exact (dg_tup (n := 2) rfl (dgs_cons (dg_name (pg_name (i := 5) sc_Run___init__.nd rfl (by first | exact Or.inl rfl | exact Or.inr rfl)) (by decide)) (dgs_cons (dg_name (pg_name (i := 6) sc_Run___init__.nd rfl (by first | exact Or.inl rfl | exact Or.inr rfl)) (by decide)) dgs_nil)))) (fun _ _ _ _ _ => by exact dts_nil) (fun _ _ _ _ _ => by exact (d_var (pv 5)))))) dao_nil)))))) dao_nil)) O.cls O.orders)
    (dss_one (ds_fldS (pv 0) (d_callTy cl_tuple cad_tuple (by rfl) T.tuple (by decide +kernel) (dao_cons (DP.o (DF.p (df_sorted_sc2 (own := [("order", 4), ("name", 5)]) (vs1 := [5]) rfl (by rfl) T.sorted (by decide +kernel) sc_Run___init__.nd (blkOk_by (N := N_Run___init__) (sc := (defScope s_Run___init__)) (by decide +kernel)) (by decide) (di_op (DP.o (d_fldS (pv 0) O.cls O.orders))) (fun _ _ _ _ _ => by exact (dg_name (pg_name (i := 4) sc_Run___init__.nd rfl (by first | exact Or.inl rfl | exact Or.inr rfl)) (by decide))) (fun _ _ _ _ _ => by exact dts_nil) (fun _ _ _ _ _ => by exact (di_op (DP.o (d_var (pv 4))))) (fun _ _ _ _ _ => by exact (dg_name (pg_name (i := 5) sc_Run___init__.nd rfl (by first | exact Or.inl rfl | exact Or.inr rfl)) (by decide))) (fun _ _ _ _ _ => by exact dts_nil) (fun _ _ _ _ _ => by exact (d_var (pv 5)))))) dao_nil)) O.cls O.names)))))), fun x ds Qd h hl => ?_⟩
  obtain ⟨k, R, rfl, hG, hF, hq⟩ := h
  have l1 := hG.len
  have hs : (1000 : Nat) < sizeLine := by decide
  have e3 : R.filter (fun _ => true) = R := by simp
  refine ⟨rfl, k, R, rfl, hG, Nat.le_of_ble_eq_true rfl, ?_⟩
  -- rows
  have rows : ∀ Q : D → Prop, Q (eRows true R) → sCall fTuple (sCons (sF (sLc (sSeq (sVar 1)) (sgName 3) sYes (sCall fTuple (sCons (sVar 3) sNil)) [3])) sNil) [some (.self x CR [] []), some (.dat (eRows k R)), some (.dat .non), none, none, none, none] Q := fun Q hQ => by
    cases k <;>
    · refine ⟨rfl, lc_at (xs := R) (enc := eRow _) (p := fun _ => true) (g := eRow true) rfl (by omega) (fun r hr Qy Qn hy => ⟨rfl, hy⟩) ?_⟩
      rw [e3]; exact hQ
  refine rows _ ⟨rfl, by simp, by show 0 < 1000; decide, ?_⟩
  have ords : ∀ Q : D → Prop, Q (eOrds R) → sCall fTuple (sCons (sF (sLc (sSeq (sFldS CR 0 "rows")) (sgName 3) sYes (sCall fTuple (sCons (sF (sLc (sSeq (sVar 3)) (sgTup 2 (sgCons (sgName 5) (sgCons (sgName 6) sgNil))) sYes (sVar 5) [5, 6])) sNil)) [3])) sNil)
      [some (.self x CR ["rows"] [eRows true R]), some (.dat (eRows k R)), some (.dat .non), none, none, none, none] Q := fun Q hQ => by
    refine ⟨rfl, rfl, eRows true R, rfl, lc_at (xs := R) (enc := eRow true) (p := fun _ => true) (g := eOrd) rfl (by omega) (fun r hr Qy Qn hy => ?_) ?_⟩
    · have e4 : r.filter (fun _ => true) = r := by simp
      refine ⟨rfl, rfl, lc_at (xs := r) (enc := ePl) (p := fun _ => true) (g := fun p => D.str p.1) rfl (by have := (hG.row r hr).2.1; omega) (fun p hp Qy Qn hy => ⟨rfl, rfl, rfl, rfl, hy⟩) ?_⟩
      rw [e4]; exact hy
    · rw [e3]; exact hQ
  refine ords _ ⟨rfl, by decide, by show 1 < 1000; decide, ?_⟩
  obtain ⟨names, few, hin⟩ := hF
  refine ⟨names, few, rfl, rfl, eOrds R, rfl, lc2_at (xs := R) (enc := eOrd) (ys := fun r => r.map (·.1)) (enc1 := D.str) (p := fun _ _ => true) (g := fun _ n => D.str n) (m := 1000)
    (e2 := fun r => [some (.self x CR ["rows", "orders"] [eRows true R, eOrds R]), some (.dat (eRows k R)), some (.dat .non), none, some (.dat (eOrd r)), none, none]) rfl (by omega) (fun r hr => by rw [List.length_map]; exact Nat.le_of_lt (hG.row r hr).2.1)
    (fun r hr Z N hz => ⟨rfl, rfl, ?_⟩) (fun r hr n hn Qy Qn hy => ⟨rfl, ?_⟩) ?_⟩
  · have e5 : (r.map (·.1)).map D.str = r.map fun p => D.str p.1 := by rw [List.map_map]; rfl
    rw [e5] at hz
    exact hz
  · obtain ⟨p, hp, rfl⟩ := List.mem_map.mp hn
    exact ⟨p.1, hin r hr p hp, rfl, hy⟩
  · intro ys hy
    have hy' : AscOf ys (inR R) := ⟨hy.1, hy.2.1, fun y => (hy.2.2 y).trans ?_⟩
    · exact ⟨rfl, by decide, by show 2 < 1000; decide, _, rfl, hq ys hy'⟩
    · show D.str y ∈ List.flatMap _ R ↔ _
      rw [List.mem_flatMap]
      constructor
      · rintro ⟨r, hr, hm⟩
        rw [List.mem_map] at hm
        obtain ⟨n, hn, e⟩ := hm
        have hn := (List.mem_filter.mp hn).1
        obtain ⟨p, hp, e2⟩ := List.mem_map.mp hn
        cases e
        exact ⟨r, hr, p, hp, e2⟩
      · rintro ⟨r, hr, p, hp, rfl⟩
        exact ⟨r, hr, List.mem_map.mpr ⟨p.1, List.mem_filter.mpr ⟨List.mem_map.mpr ⟨p, hp, rfl⟩, rfl⟩, rfl⟩⟩

abbrev s_Run___add__ : Stmt := inClass (top 21) 2
abbrev N_Run___add__ : List Str := ["self", "other"]
theorem sc_Run___add__ : FnScope N_Run___add__ ["self", "other"] (defScope s_Run___add__) := ⟨rfl, rfl, rfl, by decide +kernel, rfl, by decide +kernel, by decide +kernel⟩
theorem ok_Run___add__ {f : Addr} {fd : FuncData} (F : Fun K "__add__" "Run.__add__" s_Run___add__ f fd) (T : Txt mg) (O : OR K mg CR) (MK : Mak P w K mg base "Run" CR ["rows", "orders", "names"] 5 1 tfInit) : FnOk P w K mg base CX0 (6 + 1) f fd ["self", "other"] (spD K 2 (tfAdd CR)) := by
  refine fn_D F sc_Run___add__ rfl fun rg cdv A outer s H E hr => ?_
  have hu := hr.units
  refine ⟨_, _, (dss_cons (ds_if (dt_not (dt_val (d_isiW (by rfl) T.isinstance (DP.o (d_var (pv 1))) (pe_glob (v := .ref CR) (by rfl) O.mg rfl) (.own CR)))) (dss_one (ds_ret (DP.o d_no))) dss_nil)
    (dss_one (ds_ret (DP.o (d_make MK (hr.mono (by omega)) (by rfl) (da_cons (d_op op_addU opd_add (DP.o (d_fld (DP.o (d_var (pv 0))) O.cls O.rows)) (DP.o (d_fld (DP.o (d_var (pv 1))) O.cls O.rows))) da_nil)))))), fun ds Qd h hl => ?_⟩
  obtain ⟨R, S, ys, zs, rfl, hG, hF, hq⟩ := h
  have hs : (1000 : Nat) < sizeLine := by decide
  have lG := hG.len
  rw [List.length_append] at lG
  refine ⟨_, true, rfl, O.isi, O.kit, ?_⟩
  refine ⟨rfl, eRows true R, rfl, rfl, eRows true S, rfl, by rw [List.length_map, List.length_map]; omega, rfl, true, R ++ S, ?_, hG, hF, fun us hu => hq us hu⟩
  show [D.tup (R.map (eRow true) ++ S.map (eRow true))] = [D.tup ((R ++ S).map (eRow true))]
  rw [List.map_append]

abbrev s_Run___eq__ : Stmt := inClass (top 21) 4
abbrev N_Run___eq__ : List Str := ["self", "other"]
theorem sc_Run___eq__ : FnScope N_Run___eq__ ["self", "other"] (defScope s_Run___eq__) := ⟨rfl, rfl, rfl, by decide +kernel, rfl, by decide +kernel, by decide +kernel⟩
theorem ok_Run___eq__ {f : Addr} {fd : FuncData} (F : Fun K "__eq__" "Run.__eq__" s_Run___eq__ f fd) (T : Txt mg) (O : OR K mg CR) : FnOk P w K mg base CX0 (0 + 1) f fd ["self", "other"] (spD K 2 (tfEq CR)) := by
  refine fn_D F sc_Run___eq__ rfl fun rg cdv A outer s H E hr => ?_
  have hu := hr.units
  refine ⟨_, _, (dss_one (ds_ret (DP.o (d_and (d_isiW (by rfl) T.isinstance (DP.o (d_var (pv 1))) (pe_glob (v := .ref CR) (by rfl) O.mg rfl) (.own CR)) (d_one (d_cmp (op_eqP (by exact hu)) opd_eq (DP.o (d_fld (DP.o (d_var (pv 0))) O.cls O.rows)) (DP.o (d_fld (DP.o (d_var (pv 1))) O.cls O.rows)) (nomark _))))))), fun ds Qd h hl => ?_⟩
  obtain ⟨R, S, ys, zs, rfl, hq⟩ := h
  refine ⟨_, true, rfl, O.isi, O.kit, ?_⟩
  refine ⟨rfl, eRows true R, rfl, rfl, eRows true S, rfl, pl_rows R, pl_rows S, Nat.le_trans (Nat.min_le_right _ _) (dep_rows S), ?_⟩
  show Qd (.bl (deq (eRows true R) (eRows true S)))
  rw [deq_rows]; exact hq

abbrev s_Run___len__ : Stmt := inClass (top 21) 3
abbrev N_Run___len__ : List Str := ["self", "row", "place"]
theorem sc_Run___len__ : FnScope N_Run___len__ ["self"] (defScope s_Run___len__) := ⟨rfl, rfl, rfl, by decide +kernel, rfl, by decide +kernel, by decide +kernel⟩
theorem ok_Run___len__ {f : Addr} {fd : FuncData} (F : Fun K "__len__" "Run.__len__" s_Run___len__ f fd) (T : Txt mg) (O : OR K mg CR) : FnOk P w K mg base CX0 (0 + 1) f fd ["self"] (spD K 1 (tfLen CR)) := by
  refine fn_D F sc_Run___len__ rfl fun rg cdv A outer s H E hr => ?_
  have hu := hr.units
  refine ⟨_, _, (dss_one (ds_ret (DP.o (d_callB cl_len cad_len (by rfl) T.len (by decide +kernel) (dao_cons (DP.o (DF.p (df_lc2 (own := [("row", 1), ("place", 2)]) (vs1 := [2]) rfl sc_Run___len__.nd (blkOk_by (N := N_Run___len__) (sc := (defScope s_Run___len__)) (by decide +kernel)) (by decide) (di_op (DP.o (d_fld (DP.o (d_var (pv 0))) O.cls O.rows))) (fun _ _ _ _ _ => by exact (dg_name (pg_name (i := 1) sc_Run___len__.nd rfl (by first | exact Or.inl rfl | exact Or.inr rfl)) (by decide))) (fun _ _ _ _ _ => by exact dts_nil) (fun _ _ _ _ _ => by exact (di_op (DP.o (d_var (pv 1))))) (fun _ _ _ _ _ => by exact (dg_name (pg_name (i := 2) sc_Run___len__.nd rfl (by first | exact Or.inl rfl | exact Or.inr rfl)) (by decide))) (fun _ _ _ _ _ => by exact dts_nil) (fun _ _ _ _ _ => by exact (d_var (pv 2)))))) dao_nil))))), fun ds Qd h hl => ?_⟩
  obtain ⟨R, ys, rfl, hG, hq⟩ := h
  have l1 := hG.len
  refine ⟨rfl, rfl, eRows true R, rfl, lc2_at (xs := R) (enc := eRow true) (ys := fun r => r) (enc1 := ePl) (p := fun _ _ => true) (g := fun _ p => ePl p) (m := 1000) (e2 := fun r => [some (.dat (eRun CR R ys)), some (.dat (eRow true r)), none]) rfl (by omega) (fun r hr => Nat.le_of_lt (hG.row r hr).2.1)
    (fun r hr Z N hz => ⟨rfl, rfl, hz⟩) (fun r hr n hn Qy Qn hy => ⟨rfl, hy⟩) ?_⟩
  show Qd (.int ((R.flatMap fun r => (r.filter fun _ => true).map ePl).length : Nat))
  have e : (R.flatMap fun r => (r.filter fun _ => true).map ePl).length = (R.flatMap id).length := by
    rw [List.length_flatMap, List.length_flatMap]
    congr 1
    refine List.map_congr_left fun r _ => ?_
    simp
  rw [e]; exact hq

abbrev s_row_text : Stmt := top 18
abbrev N_row_text : List Str := ["row", "name", "failed"]
theorem sc_row_text : FnScope N_row_text ["row"] (defScope s_row_text) := ⟨rfl, rfl, rfl, by decide +kernel, rfl, by decide +kernel, by decide +kernel⟩
theorem ok_row_text {f : Addr} {fd : FuncData} (F : Fun K "row_text" "row_text" s_row_text f fd) (T : Txt mg) : FnOk P w K mg base CX0 (0 + 1) f fd ["row"] (spD K 1 tfRowText) := by
  refine fn_D F sc_row_text rfl fun rg cdv A outer s H E hr => ?_
  have hu := hr.units
  refine ⟨_, _, (dss_one (ds_ret (DP.o (d_join d_str (DP.o (DF.p (df_lc (own := [("name", 1), ("failed", 2)]) rfl sc_row_text.nd (blkOk_by (N := N_row_text) (sc := (defScope s_row_text)) (by decide +kernel)) (di_op (DP.o (d_var (pv 0)))) (fun _ _ _ _ _ => by exact (dg_tup (n := 2) rfl (dgs_cons (dg_name (pg_name (i := 1) sc_row_text.nd rfl (by first | exact Or.inl rfl | exact Or.inr rfl)) (by decide)) (dgs_cons (dg_name (pg_name (i := 2) sc_row_text.nd rfl (by first | exact Or.inl rfl | exact Or.inr rfl)) (by decide)) dgs_nil)))) (fun _ _ _ _ _ => by exact dts_nil) (fun _ _ _ _ _ => by exact (d_if (dt_truth (DP.o (d_var (pv 2)))) (d_fstr (.cons (d_fmt (d_var (pv 1))) (.cons d_str .nil))) (d_var (pv 1))))))))))), fun ds Qd h hl => ?_⟩
  obtain ⟨r, rfl, hlen, hp, hq⟩ := h
  have hs : (1000 : Nat) < sizeLine := by decide
  refine ⟨rfl, lc_at (xs := r) (enc := ePl) (p := fun _ => true) (g := fun p => D.str (plText p)) rfl (by omega) (fun x hx Qy Qn hy => ?_) ⟨r.map plText, ?_, ?_, hq⟩⟩
  · refine ⟨rfl, rfl, rfl, rfl, ?_⟩
    have l4 := isName_len (hp x hx)
    have hy' : Qy (D.str (plText x)) := hy
    obtain ⟨n, b⟩ := x
    cases b with
    | true =>
      have e : plText (n, true) = (Str.empty ++ n) ++ "!" := by rw [empty_app]; rfl
      rw [e] at hy'
      have l4 : n.length ≤ 4 := l4
      refine ⟨by show n.length ≤ _; omega, ?_, ?_, hy'⟩
      · show (Str.empty ++ n).length ≤ _
        rw [empty_app]; omega
      · show ((Str.empty ++ n) ++ "!" : Str).length ≤ _
        rw [empty_app, app_len]; have l1 : ("!" : Str).length = 1 := rfl; omega
    | false => exact hy'
  · have e1 : r.filter (fun _ => true) = r := by simp
    rw [e1, List.map_map]; rfl
  · have h1 := sum_le (m := 5) (l := (r.map plText).map (·.length)) fun z hz => by
      rw [List.map_map] at hz
      obtain ⟨p, hp', rfl⟩ := List.mem_map.mp hz
      exact pl_len (hp p hp')
    rw [List.length_map, List.length_map] at h1
    have l1 : (" " : Str).length = 1 := rfl
    rw [List.length_map, l1]
    omega

abbrev s_Run___str__ : Stmt := inClass (top 21) 5
abbrev N_Run___str__ : List Str := ["self", "row"]
theorem sc_Run___str__ : FnScope N_Run___str__ ["self"] (defScope s_Run___str__) := ⟨rfl, rfl, rfl, by decide +kernel, rfl, by decide +kernel, by decide +kernel⟩
theorem ok_Run___str__ {f : Addr} {fd : FuncData} (F : Fun K "__str__" "Run.__str__" s_Run___str__ f fd) (T : Txt mg) (O : OR K mg CR) (CTx : Cal P w K mg base "row_text" 1 1 tfRowText) : FnOk P w K mg base CX0 (1 + 1) f fd ["self"] (spD K 1 (tfStr CR)) := by
  refine fn_D F sc_Run___str__ rfl fun rg cdv A outer s H E hr => ?_
  have hu := hr.units
  refine ⟨_, _, (dss_one (ds_ret (DP.o (d_join d_str (DP.o (DF.p (df_lc (own := [("row", 1)]) rfl sc_Run___str__.nd (blkOk_by (N := N_Run___str__) (sc := (defScope s_Run___str__)) (by decide +kernel)) (di_op (DP.o (d_fld (DP.o (d_var (pv 0))) O.cls O.rows))) (fun _ _ _ _ _ => by exact (dg_name (pg_name (i := 1) sc_Run___str__.nd rfl (by first | exact Or.inl rfl | exact Or.inr rfl)) (by decide))) (fun _ _ _ _ _ => by exact dts_nil) (fun _ _ _ _ _ => by exact (d_callC CTx (hr.mono (by omega)) (by rfl) (da_cons (d_var (pv 1)) da_nil)))))))))), fun ds Qd h hl => ?_⟩
  obtain ⟨R, ys, rfl, hG, hq⟩ := h
  have l1 := hG.len
  have e3 : R.filter (fun _ => true) = R := by simp
  refine ⟨rfl, rfl, eRows true R, rfl, lc_at (xs := R) (enc := eRow true) (p := fun _ => true) (g := fun r => D.str (rowText r)) rfl (by omega) (fun r hr Qy Qn hy => ⟨rfl, rfl, r, rfl, (hG.row r hr).2.1, (hG.row r hr).2.2, hy⟩) ⟨R.map rowText, ?_, ?_, hq⟩⟩
  · rw [e3, List.map_map]; rfl
  · have h1 := sum_le (m := 6000) (l := (R.map rowText).map (·.length)) fun z hz => by
      rw [List.map_map] at hz
      obtain ⟨r, hr, rfl⟩ := List.mem_map.mp hz
      exact row_len (hG.row r hr).2.1 (hG.row r hr).2.2
    rw [List.length_map, List.length_map] at h1
    have l3 : (" | " : Str).length = 3 := rfl
    rw [List.length_map, l3]
    omega

end
end K17

/-! Targets (a, b, ..) whose value is a list. -/
namespace OL
open PySem PySem.Spec
section
variable {prog : Program} {w : World} {A : Around} {E : Value → Shared → Prop}
theorem take_list {it l : Addr} {items : Array Value} (ne : l ≠ it) : ∀ (n i : Nat) (s : Shared) (Q : List Value → Shared → Prop), s.heap.IsListIter it l i → s.heap.IsList l items → i + n ≤ items.size →
    (∀ h', h'.IsListIter it l (i + n) → Heap.SameBut it s.heap h' → Q ((items.toList.drop i).take n) { s with heap := h' }) → wpAny (model prog w) A (draw (.ref it) n) Q E s
  | 0, i, s, Q, a, _, _, k => wpAny_pure (by simpa using k s.heap a (Heap.SameBut.refl ..))
  | n + 1, i, s, Q, a, b, le, k => by
    have lt : i < items.size := by omega
    have cut : (items.toList.drop i).take (n + 1) = items[i] :: (items.toList.drop (i + 1)).take n := by
      rw [List.drop_eq_getElem_cons (by simpa using lt), List.take_succ_cons]; simp
    show wpAny _ _ (pyNext (.ref it) >>= _) Q E s
    refine wpAny_bind (wpAny_pyNext_list_item a b (x := items[i]) (by simp [lt]) fun h1 a1 b1 => wpAny_bind (wpAny_holding (take_list ne n (i + 1) _ _ a1 (b.extBut b1.extBut ne) (by omega) fun h2 a2 b2 => wpAny_pure ?_)))
    have z := k h2 (by rw [show i + (n + 1) = i + 1 + n by omega]; exact a2) (b1.trans b2)
    rwa [cut] at z
theorem assign_of_list {env : Env} {elts : List Expr} {x1} {pos : Pos} {l : Addr} {items : Array Value} {s : Shared} {Q : Unit → Shared → Prop} (hh : A.handled = none) (hl : s.heap.IsList l items) (hn : (assignEach elts env).length = items.size) (hs : (assignEach elts env).findIdx? (·.1) = none)
    (h : ∀ h', Heap.ExtBut s.heap.objs.size s.heap h' → wpAny (model prog w) A (assignInOrder ((assignEach elts env).map (·.2)) items.toList) Q E { s with heap := h' }) : wpAny (model prog w) A (assign (.Tuple elts x1 pos) env (.ref l)) Q E s := by
  have ne : l ≠ s.heap.objs.size := by obtain ⟨o, ho, _⟩ := hl; exact Nat.ne_of_lt (Heap.lt_size ho)
  rw [PyProof.Rows.assign_Tuple]
  refine wpAny_bind (wpAny_standAt ?_)
  unfold unpack
  rw [hn, hs]
  refine wpAny_bind (wpAny_holding ?_)
  unfold unpackItems
  refine wpAny_bind ?_
  unfold notIterableAtAll
  refine wpAny_bind (wpAny_specialOf hl.typeIs slot_list_iter.lookup (wpAny_pure ?_))
  simp only [Bool.false_eq_true, if_false]
  refine wpAny_bind (wpAny_holding (wpAny_pyIter_list hl ?_))
  have hl1 := hl.push { cls := .type "list_iterator", data := .fields #[.ref l, .int 0 0] }
  refine wpAny_bind (wpAny_holding (take_list ne items.size 0 _ _ ⟨_, Heap.get?_push_size _ rfl, rfl, rfl⟩ hl1 (by omega) fun h1 a1 b1 => ?_))
  have all : (items.toList.drop 0).take items.size = items.toList := by rw [List.drop_zero, List.take_of_length_le (by simp)]
  rw [all, if_neg (by simp)]
  refine wpAny_bind (wpAny_holding (wpAny_pyNext_list_end hh a1 (hl1.extBut b1.extBut ne) (by simp) fun h2 b2 => ?_))
  simp only [Option.isSome_none, Bool.false_eq_true, if_false]
  exact wpAny_pure (h h2 fun b o nb e => b2 b o nb (b1.extBut b o nb (Heap.get?_push_of_some _ e)))
end
end OL
namespace DL
open PySem L2 PySem.Spec PyProof.Rows
/-- .. of a list of that length -/
def gLst (K : PySem.W.Frag) (n : Nat) (t : TGs) : TG := fun v σ H Q => ∃ a xs, v = .ref a ∧ SqL K H a xs ∧ xs.length = n ∧ t xs σ H Q
section
variable {X : Cx} {K : PySem.W.Frag} {rg : Rg} {es : List Expr} {gs : TGs} {sgs : SGs} {vs : List Nat} {pos : Pos} {k n : Nat}
theorem pg_lst (hc : X.calm = true) (h : PGs X es gs) (hn : (assignEach es X.env).length = n := by rfl) (hst : (assignEach es X.env).findIdx? (·.1) = none := by rfl) : PG X (.Tuple es k pos) (gLst X.K n gs) := by
  refine ⟨fun pins s σ H v u Q I r hw => ?_⟩
  obtain ⟨a, xs, rfl, hq, hl, hw⟩ := hw
  cases r
  obtain ⟨its, rv, p, hz⟩ := I.list hq
  refine OL.assign_of_list (I.ok.hd hc) p.isList (by simp [hn, ← hl, rv.length]) hst fun h' hx => ?_
  exact h.run pins _ σ H xs _ Q (I.kept (t' := s.toks) fun b o e => hx b o (Nat.ne_of_lt (Heap.lt_size e)) e) (by simpa using rv) hw
def sgLst (n : Nat) (sgs : SGs) : SG := fun d env Q => match d with | .lst ds => ds.length = n ∧ sgs ds env Q | _ => False
theorem dg_lst (hc : X.calm = true) (h : DGs X K rg es gs sgs vs) (hn : (assignEach es X.env).length = n := by rfl) (hst : (assignEach es X.env).findIdx? (·.1) = none := by rfl) : DG X K rg (.Tuple es k pos) (gLst K n gs) (sgLst n sgs) vs := by
  cases h.kx
  exact ⟨rfl, pg_lst hc h.pg hn hst, fun c hcc pn H0 env σ H v d Qe Q S r ht k => by
    cases d with
    | lst ds =>
      obtain ⟨h1, h2⟩ := ht
      cases r with
      | lst m e a => exact ⟨_, _, rfl, SqL.of e, (RpAll.length a).trans h1, h.rf c hcc pn H0 env σ H _ _ _ _ S a h2 k⟩
    | _ => exact ht.elim⟩
end
end DL

/-! repr of None, truth values, numbers. -/
namespace DL
open PySem L2 PySem.Spec PyProof.Rows
def rReprN : List V → Hp → VK → Prop := fun xs H Q => xs = [.non] ∧ Q (.str "None") H
def rReprI : List V → Hp → VK → Prop := fun xs H Q => ∃ i : Int, xs = [.int i] ∧ i.natAbs.log2 < 1920 ∧ Q (.str (toString i)) H
def rReprP : List V → Hp → VK → Prop := fun xs H Q => (rReprN xs H Q ∨ rReprB xs H Q) ∨ rReprI xs H Q
def fReprP : FL := fun ds Q => match ds with
  | [.non] => Q (.str "None") | [.bl b] => Q (.str (if b then "True" else "False")) | [.int i] => i.natAbs.log2 < 1920 ∧ Q (.str (toString i)) | _ => False
section
variable {X : Cx} {K : PySem.W.Frag}
theorem cl_reprN : CallR X (.builtin "repr") rReprN := by
  intro pins s σ H vs us Q I r h
  obtain ⟨rfl, q⟩ := h
  obtain ⟨u, rfl, rx⟩ := vals1 r
  obtain rfl : u = Value.none := rx
  exact PySem.P.repr_of_none ⟨.str "None", H, I.tok _, ⟨s.toks, rfl⟩, q⟩
theorem cl_reprP : CallR X (.builtin "repr") rReprP := (cl_reprN.or cl_reprB).or SkE.call_repr_int
theorem cad_reprP : CaD K rReprP fReprP := by
  intro M0 M H vs ds Qd Q hM r hf k
  unfold fReprP at hf
  split at hf
  · obtain ⟨v, rfl, r1⟩ := r.one
    rw [r1.non]
    exact .inl (.inl ⟨rfl, k _ _ H hf (Same.refl H) (.str _)⟩)
  · obtain ⟨v, rfl, r1⟩ := r.one
    rw [r1.bl]
    exact .inl (.inr ⟨_, rfl, k _ _ H hf (Same.refl H) (.str _)⟩)
  · obtain ⟨v, rfl, r1⟩ := r.one
    rw [r1.int]
    exact .inr ⟨_, rfl, hf.1, k _ _ H hf.2 (Same.refl H) (.str _)⟩
  · exact hf.elim
end
end DL

namespace K17
open PySem L2 DL RD TB PySem.Spec PyProof.Rows TL

/-- rows of names of a table -/
structure SmRs (rs : List (List Str)) (ns : List Str) : Prop where
  len : rs.length < 60
  row : ∀ r ∈ rs, r.length < 60 ∧ ∀ x ∈ r, x ∈ ns
def tfPlL : Tf := fun rg ds Q => ∃ ns f m rs, ds = [eTab false ns f, eOKs false false rs] ∧ GoodT ns f m ∧ SmRs rs ns ∧ Q (eRows false (playR f m rs))
structure SmR (R : List (List Pl)) (ns : List Str) : Prop where
  len : R.length < 60
  row : ∀ r ∈ R, r.length < 60 ∧ ∀ p ∈ r, p.1 ∈ ns
def missS (f : Sf) (m : Nat) (R : List (List Pl)) : Nat := (R.map (missRow f m)).sum
def tfSlips : Tf := fun rg ds Q => ∃ ns f m, ∃ Rs : List (List (List Pl)), ds = [eTab false ns f, .lst (Rs.map (eRows false))] ∧ GoodT ns f m ∧ Rs.length < 60 ∧ (∀ R ∈ Rs, SmR R ns) ∧ Q (.int ((Rs.map (missS f m)).sum : Nat))
def tfWide : Tf := fun rg ds Q => ∃ a g, ∃ ws : List Str, rg = rgD a g ∧ ds = [.raw (.ref a), .lst (ws.map .str)] ∧ 0 < ws.length ∧ ws.length < 60 ∧ ∀ rs : List (List Str), rs.length = 4 → (∀ r ∈ rs, r.length = 8 ∧ ∀ x ∈ r, x ∈ ws) → Q (eOKs false false rs)
section
variable {P : Program} {w : World} {K : PySem.W.Frag} {mg : Str → Option Value} {base : Heap} {CT CR : Addr}

abbrev s__law_sign : Stmt := top 37
abbrev N__law_sign : List Str := ["_law_deal"]
theorem sc__law_sign : FnScope N__law_sign ["_law_deal"] (defScope s__law_sign) := ⟨rfl, rfl, rfl, by decide +kernel, rfl, by decide +kernel, by decide +kernel⟩
theorem ok_law_sign {f : Addr} {fd : FuncData} (F : Fun K "_law_sign" "_law_sign" s__law_sign f fd) (T : Txt mg) (CP : Cal P w K mg base "_law_pick" 2 2 tfPick) : FnOk P w K mg base CX0 (2 + 1) f fd ["_law_deal"] (spD K 1 tfSign) := by
  refine fn_D F sc__law_sign rfl fun rg cdv A outer s H E hr => ?_
  have hu := hr.units
  refine ⟨_, _, (dss_one (ds_ret (DP.o (d_tup (da_cons (d_callC CP (hr.mono (by omega)) (by rfl) (da_cons (d_var (pv 0)) (da_cons (DF.p (df_lst (da_cons d_str (da_cons d_str (da_cons d_str da_nil))))) da_nil))) (da_cons (d_callC CP (hr.mono (by omega)) (by rfl) (da_cons (d_var (pv 0)) (da_cons (DF.p (df_lst (da_cons d_str (da_cons d_str (da_cons d_str da_nil))))) da_nil))) da_nil)))))), fun ds Qd h hl => ?_⟩
  obtain ⟨a, g, hrg, rfl, hq⟩ := h
  refine ⟨Nat.le_of_ble_eq_true rfl, rfl, a, g, dW.map .str, hrg, rfl, by decide, by decide, fun x hx => ?_⟩
  obtain ⟨d, hd, rfl⟩ := List.mem_map.mp hx
  refine ⟨Nat.le_of_ble_eq_true rfl, rfl, a, g, lW.map .str, hrg, rfl, by decide, by decide, fun y hy => ?_⟩
  obtain ⟨l, hl', rfl⟩ := List.mem_map.mp hy
  exact ⟨Nat.le_of_ble_eq_true rfl, hq (d, l) ⟨hd, hl'⟩⟩

abbrev s__law_table : Stmt := top 38
abbrev N__law_table : List Str := ["_law_deal", "_law_names_here", "_law_things", "_law_name", "_law_thing"]
theorem sc__law_table : FnScope N__law_table ["_law_deal", "_law_names_here", "_law_things"] (defScope s__law_table) := ⟨rfl, rfl, rfl, by decide +kernel, rfl, by decide +kernel, by decide +kernel⟩
theorem ok_law_table {f : Addr} {fd : FuncData} (F : Fun K "_law_table" "_law_table" s__law_table f fd) (T : Txt mg) (CSg : Cal P w K mg base "_law_sign" 3 1 tfSign) : FnOk P w K mg base CX0 (3 + 1) f fd ["_law_deal", "_law_names_here", "_law_things"] (spD K 3 tfTable) := by
  refine fn_D F sc__law_table rfl fun rg cdv A outer s H E hr => ?_
  have hu := hr.units
  refine ⟨_, _, (dss_one (ds_ret (DP.o (d_callTy (cl_dictP rfl) cad_dictP (by rfl) T.dict (by decide +kernel) (dao_cons (DP.o (DF.p (df_lc (own := [("_law_name", 3)]) rfl sc__law_table.nd (blkOk_by (N := N__law_table) (sc := (defScope s__law_table)) (by decide +kernel)) (di_op (DP.o (d_var (pv 1)))) (fun _ _ _ _ _ => by exact (dg_name (pg_name (i := 3) sc__law_table.nd rfl (by first | exact Or.inl rfl | exact Or.inr rfl)) (by decide))) (fun _ _ _ _ _ => by exact dts_nil) (fun _ _ _ _ _ => by exact (d_tup (da_cons (d_var (pv 3)) (da_cons (DF.p (df_lc (own := [("_law_thing", 4)]) rfl sc__law_table.nd (blkOk_by (N := N__law_table) (sc := (relS _ (defScope s__law_table))) (by decide +kernel)) (di_range1 (by rfl) T.range (da_cons (d_var (pv 2)) da_nil)) (fun _ _ _ _ _ => by exact (dg_name (pg_name (i := 4) sc__law_table.nd rfl (by first | exact Or.inl rfl | exact Or.inr rfl)) (by decide))) (fun _ _ _ _ _ => by exact dts_nil) (fun _ _ _ _ _ => by exact (d_callC CSg (hr.mono (by omega)) (by rfl) (da_cons (d_var (pv 0)) da_nil))))) da_nil))))))) dao_nil))))), fun ds Qd h hl => ?_⟩
  obtain ⟨a, g, ns, m, hrg, rfl, hne, hlen, hnd, hnm, hm, hq⟩ := h
  have hsz : (1000 : Nat) < sizeLine := by decide
  have hm2 : m ≤ 2 := by omega
  have lz : (intsD 0 ((m : Nat) : Int).toNat).length = m := intsD_length
  refine ⟨rfl, fun i acc => ∃ f : Sf, acc = (ns.take i).map (fun n => .tup [.str n, eSs false (f n)]) ∧ ∀ n ∈ ns.take i, (f n).length = m ∧ ∀ s ∈ f n, IsSg s, ⟨fun _ => [], rfl, by simp⟩, ?_, ?_⟩
  · rintro i x acc hx ⟨f, rfl, hf⟩
    rw [List.getElem?_map] at hx
    cases hi : ns[i]? with
    | none => rw [hi] at hx; cases hx
    | some n =>
      rw [hi] at hx
      cases hx
      obtain ⟨hlt, en⟩ := List.getElem?_eq_some_iff.mp hi
      have et : ns.take (i + 1) = ns.take i ++ [n] := by rw [List.take_succ, hi]; rfl
      have new : ∀ y ∈ ns.take i, y ≠ n := fun y hy e => by
        have nd2 : (ns.take (i + 1)).Nodup := hnd.sublist (List.take_sublist _ _)
        rw [et, List.nodup_append] at nd2
        exact nd2.2.2 y hy n (by simp) e
      refine ⟨rfl, rfl, by show -(2 ^ 62) ≤ ((m : Nat) : Int); omega, by show ((m : Nat) : Int) < 2 ^ 62; omega, ?_⟩
      refine ⟨fun j acc1 => ∃ ss : List Sg, acc1 = ss.map eSg ∧ ss.length = j ∧ ∀ s ∈ ss, IsSg s, ⟨[], rfl, rfl, by simp⟩, ?_, ?_⟩
      · rintro j y acc1 hy ⟨ss, rfl, hj, hs⟩
        have hlt1 := (List.getElem?_eq_some_iff.mp hy).1
        rw [lz] at hlt1
        refine ⟨rfl, rfl, a, g, hrg, rfl, fun s hs1 => ⟨by rw [List.length_map]; omega, ss ++ [s], by rw [List.map_append]; rfl, by rw [List.length_append, hj]; rfl, fun z hz => ?_⟩⟩
        rcases List.mem_append.mp hz with hz | hz
        · exact hs z hz
        · rw [List.mem_singleton.mp hz]; exact hs1
      · rintro acc1 ⟨ss, rfl, hj, hs⟩
        rw [lz] at hj
        refine ⟨Nat.le_of_ble_eq_true rfl, by rw [List.length_map, List.length_take]; omega, fun x => if x = n then ss else f x, ?_, ?_⟩
        · rw [et, List.map_append]
          congr 1
          · exact List.map_congr_left fun y hy => by
              show D.tup _ = D.tup [D.str y, eSs false (if y = n then ss else f y)]
              rw [if_neg (new y hy)]
          · show [_] = [D.tup [D.str n, eSs false (if n = n then ss else f n)]]
            rw [if_pos rfl]; rfl
        · intro y hy
          rw [et] at hy
          rcases List.mem_append.mp hy with hy | hy
          · have := hf y hy
            show (if y = n then ss else f y).length = m ∧ ∀ s ∈ (if y = n then ss else f y), IsSg s
            rw [if_neg (new y hy)]; exact this
          · have e := List.mem_singleton.mp hy
            show (if y = n then ss else f y).length = m ∧ ∀ s ∈ (if y = n then ss else f y), IsSg s
            rw [if_pos e]; exact ⟨hj, hs⟩
  · rintro acc ⟨f, rfl, hf⟩
    rw [List.length_map, List.take_length] at hf
    refine ⟨ns, ns.map fun n => eSs false (f n), ?_, by simp, hnd, hq f ⟨hne, hlen, hnd, hnm, hm, fun n hn => (hf n hn).1, fun n hn => (hf n hn).2⟩⟩
    rw [List.length_map, List.take_length, pairs_map]

abbrev s__law_state : Stmt := top 41
abbrev N__law_state : List Str := ["_law_table_here", "_law_row", "_law_at", "_law_thing", "_law_name", "_law_does"]
theorem sc__law_state : FnScope N__law_state ["_law_table_here", "_law_row", "_law_at", "_law_thing"] (defScope s__law_state) := ⟨rfl, rfl, rfl, by decide +kernel, rfl, by decide +kernel, by decide +kernel⟩
theorem ok_law_state {f : Addr} {fd : FuncData} (F : Fun K "_law_state" "_law_state" s__law_state f fd) (T : Txt mg) : FnOk P w K mg base CX0 (0 + 1) f fd ["_law_table_here", "_law_row", "_law_at", "_law_thing"] (spD K 4 tfState) := by
  refine fn_D F sc__law_state rfl fun rg cdv A outer s H E hr => ?_
  have hu := hr.units
  refine ⟨_, _, (dss_cons (ds_for (vs := [4]) PassesOwn.never rfl (di_data (DF.p (df_rev (DP.o (d_slice (DP.o (d_var (pv 1))) dpo_none (dpo_some (d_var (pv 2)))))))) (dg_name (pg_name (i := 4) sc__law_state.nd rfl (by first | exact Or.inl rfl | exact Or.inr rfl)) (by decide))
    (dss_cons (ds_setP (d_ix (DP.o (d_ix (DP.o (d_dget (by exact room1 hu) (DP.o (d_var (pv 0))) (DP.o (d_var (pv 4))))) (DP.o (d_var (pv 3))))) (DP.o d_int)) (i := 5) sc__law_state.nd rfl (by first | exact Or.inl rfl | exact Or.inr rfl))
    (dss_one (ds_if (dt_cmp (op_neP (by exact hu)) opd_ne (DP.o (d_var (pv 5))) (DP.o d_str) (nomark _)) (dss_one (ds_ret (DP.o (d_cmp (op_eqP (by exact hu)) opd_eq (DP.o (d_var (pv 5))) (DP.o d_str) (nomark _))))) dss_nil))))
    (dss_one (ds_ret (DP.o d_bl)))), fun ds Qd h hl => ?_⟩
  obtain ⟨ns, f, m, row, at_, t, rfl, hG, hrl, hrow, ht, hq⟩ := h
  have eL : (cutD (row.map D.str) none (some (at_ : Int))).reverse = ((row.take at_).reverse).map D.str := by rw [cut_to, ← List.map_take, List.map_reverse]
  have hL : ∀ n ∈ (row.take at_).reverse, n ∈ ns := fun n hn => hrow n (List.mem_of_mem_take (List.mem_reverse.mp hn))
  generalize (row.take at_).reverse = L at eL hL hq
  refine for_at eL (fun i env' => ∃ x4 x5 : Option Sl, env' = [some (.dat (eTab false ns f)), some (.dat (.lst (row.map .str))), some (.dat (.int (at_ : Nat))), some (.dat (.int (t : Nat))), x4, x5] ∧ FreeS x4 ∧ FreeS x5 ∧ stateB f (L.drop i) t = stateB f L t)
    ⟨none, none, rfl, .inl rfl, .inl rfl, rfl⟩ ?_ ?_
  · rintro i n env' hx ⟨x4, x5, rfl, f4, f5, hs⟩
    obtain ⟨hlt, hn⟩ := List.getElem?_eq_some_iff.mp hx
    have hn2 : n ∈ L := hn ▸ List.getElem_mem hlt
    have ed : L.drop i = n :: L.drop (i + 1) := by rw [List.drop_eq_getElem_cons hlt, hn]
    rw [ed] at hs
    have hsl := hG.sl n (hL n hn2)
    have lt : t < (f n).length := by omega
    have ea : atI ((f n).map eSg) ((t : Nat) : Int) = some (eSg (f n)[t]) := by rw [atI_nat (by simpa using lt)]; simp
    have edo : doesAt (f n) t = (f n)[t].1 := by unfold doesAt; rw [List.getD_eq_getElem?_getD, List.getElem?_eq_getElem lt]; rfl
    rw [stateB, edo] at hs
    refine ⟨by rcases f4 with rfl | ⟨y, rfl⟩ <;> rfl, eSs false (f n), valD_map (hL n hn2), eSg (f n)[t], ea, .str (f n)[t].1, rfl, Nat.le_of_ble_eq_true rfl, rfl, rfl, Nat.le_of_ble_eq_true rfl, ?_⟩
    show (if (!deq (.str (f n)[t].1) (.str "leaves")) = true then _ else _)
    rw [deq_str]
    by_cases hd : (f n)[t].1 = "leaves"
    · rw [if_pos hd] at hs
      have e0 : (!((f n)[t].1 == ("leaves" : Str))) = false := by simp [hd]
      rw [if_neg (by rw [e0]; decide)]
      exact ⟨_, _, rfl, .inr ⟨_, rfl⟩, .inr ⟨_, rfl⟩, hs⟩
    · rw [if_neg hd] at hs
      have e0 : (!((f n)[t].1 == ("leaves" : Str))) = true := by simp [hd]
      rw [if_pos e0]
      refine ⟨rfl, rfl, Nat.le_of_ble_eq_true rfl, ?_⟩
      show Qd (.bl (deq (.str (f n)[t].1) (.str "sets")))
      rw [deq_str, hs]; exact hq
  · rintro env' ⟨x4, x5, rfl, f4, f5, hs⟩
    rw [List.drop_length] at hs
    rw [← hs] at hq
    exact hq

abbrev s__law_fails : Stmt := top 42
abbrev N__law_fails : List Str := ["_law_table_here", "_law_row", "_law_at", "_law_thing", "_law_does", "_law_look", "_law_is_set"]
theorem sc__law_fails : FnScope N__law_fails ["_law_table_here", "_law_row", "_law_at"] (defScope s__law_fails) := ⟨rfl, rfl, rfl, by decide +kernel, rfl, by decide +kernel, by decide +kernel⟩
theorem ok_law_fails {f : Addr} {fd : FuncData} (F : Fun K "_law_fails" "_law_fails" s__law_fails f fd) (T : Txt mg) (CSt : Cal P w K mg base "_law_state" 1 4 tfState) : FnOk P w K mg base CX0 (1 + 1) f fd ["_law_table_here", "_law_row", "_law_at"] (spD K 3 tfLF) := by
  refine fn_D F sc__law_fails rfl fun rg cdv A outer s H E hr => ?_
  have hu := hr.units
  refine ⟨_, _, (dss_cons (ds_for (vs := [3, 4, 5]) PassesOwn.never rfl (di_enumU (by rfl) T.enumerate (d_dget (by exact room1 hu) (DP.o (d_var (pv 0))) (DP.o (d_ix (DP.o (d_var (pv 1))) (DP.o (d_var (pv 2))))))) (dg_tup (n := 2) rfl (dgs_cons (dg_name (pg_name (i := 3) sc__law_fails.nd rfl (by first | exact Or.inl rfl | exact Or.inr rfl)) (by decide)) (dgs_cons (dg_tup (n := 2) rfl (dgs_cons (dg_name (pg_name (i := 4) sc__law_fails.nd rfl (by first | exact Or.inl rfl | exact Or.inr rfl)) (by decide)) (dgs_cons (dg_name (pg_name (i := 5) sc__law_fails.nd rfl (by first | exact Or.inl rfl | exact Or.inr rfl)) (by decide)) dgs_nil))) dgs_nil)))
    (dss_cons (ds_setP (d_callC CSt (hr.mono (by omega)) (by rfl) (da_cons (d_var (pv 0)) (da_cons (d_var (pv 1)) (da_cons (d_var (pv 2)) (da_cons (d_var (pv 3)) da_nil))))) (i := 6) sc__law_fails.nd rfl (by first | exact Or.inl rfl | exact Or.inr rfl))
    (dss_one (ds_if (DW.dt (dw_or (DW.dt (dw_and (dt_cmp (op_eqP (by exact hu)) opd_eq (DP.o (d_var (pv 5))) (DP.o d_str) (nomark _)) (dw_and1 (dt_truth (DP.o (d_var (pv 6))))))) (dw_or1 (DW.dt (dw_and (dt_cmp (op_eqP (by exact hu)) opd_eq (DP.o (d_var (pv 5))) (DP.o d_str) (nomark _)) (dw_and1 (dt_not (dt_truth (DP.o (d_var (pv 6))))))))))) (dss_one (ds_ret (DP.o d_bl))) dss_nil))))
    (dss_one (ds_ret (DP.o d_bl)))), fun ds Qd h hl => ?_⟩
  obtain ⟨ns, f, m, row, n, at_, rfl, hG, hrl, hrow, hn, hq⟩ := h
  obtain ⟨hlt, en⟩ := List.getElem?_eq_some_iff.mp hn
  have hn2 : n ∈ ns := hrow n (en ▸ List.getElem_mem hlt)
  have ea : atI (row.map D.str) ((at_ : Nat) : Int) = some (.str n) := by rw [atI_nat (by simpa using hlt)]; simp [en]
  have hsl := hG.sl n hn2
  have hsg := hG.sg n hn2
  refine ⟨.str n, ea, eSs false (f n), valD_map hn2, ?_⟩
  generalize hst : stateB f (row.take at_).reverse = st at hq
  refine for_at (enum_map eSg (f n)) (fun i env' => ∃ x3 x4 x5 x6 : Option Sl, env' = [some (.dat (eTab false ns f)), some (.dat (.lst (row.map .str))), some (.dat (.int (at_ : Nat))), x3, x4, x5, x6] ∧ FreeS x3 ∧ FreeS x4 ∧ FreeS x5 ∧ FreeS x6 ∧ lawFrom st i ((f n).drop i) = lawFrom st 0 (f n))
    ⟨none, none, none, none, rfl, .inl rfl, .inl rfl, .inl rfl, .inl rfl, rfl⟩ ?_ ?_
  · rintro i p env' hx ⟨x3, x4, x5, x6, rfl, f3, f4, f5, f6, hs⟩
    rw [List.getElem?_zipIdx] at hx
    cases hi : (f n)[i]? with
    | none => rw [hi] at hx; cases hx
    | some s =>
      rw [hi] at hx
      have hx : (s, 0 + i) = p := by simpa using hx
      subst hx
      obtain ⟨hli, es⟩ := List.getElem?_eq_some_iff.mp hi
      have ed : (f n).drop i = s :: (f n).drop (i + 1) := by rw [List.drop_eq_getElem_cons hli, es]
      rw [ed, lawFrom] at hs
      have fin : ∀ y3 y4 y5 y6 : D, lawFrom st (i + 1) ((f n).drop (i + 1)) = lawFrom st 0 (f n) → ∃ x3 x4 x5 x6 : Option Sl, [some (.dat (eTab false ns f)), some (.dat (.lst (row.map .str))), some (.dat (.int (at_ : Nat))), some (.dat y3), some (.dat y4), some (.dat y5), some (.dat y6)] = [some (.dat (eTab false ns f)), some (.dat (.lst (row.map .str))), some (.dat (.int (at_ : Nat))), x3, x4, x5, x6] ∧ FreeS x3 ∧ FreeS x4 ∧ FreeS x5 ∧ FreeS x6 ∧ lawFrom st (i + 1) ((f n).drop (i + 1)) = lawFrom st 0 (f n) :=
        fun y3 y4 y5 y6 h => ⟨_, _, _, _, rfl, .inr ⟨_, rfl⟩, .inr ⟨_, rfl⟩, .inr ⟨_, rfl⟩, .inr ⟨_, rfl⟩, h⟩
      refine ⟨rfl, by rcases f3 with rfl | ⟨y, rfl⟩ <;> rfl, rfl, by rcases f4 with rfl | ⟨y, rfl⟩ <;> rfl, by rcases f5 with rfl | ⟨y, rfl⟩ <;> rfl, rfl, rfl, ?_⟩
      refine ⟨rfl, ns, f, m, row, at_, 0 + i, rfl, hG, hrl, hrow, by omega, Nat.le_of_ble_eq_true rfl, ?_⟩
      rw [hst, Nat.zero_add]
      refine ⟨rfl, rfl, Nat.le_of_ble_eq_true rfl, ?_⟩
      show (if deq (.str s.2) (.str "on") = true then _ else _)
      rw [deq_str]
      generalize hA : (s.2 == ("on" : Str)) = A at hs
      generalize hb : st i = b at hs
      cases A with
      | true =>
        cases b with
        | true =>
          have hs : true = lawFrom st 0 (f n) := by simpa using hs
          rw [← hs] at hq
          exact hq
        | false =>
          refine ⟨rfl, rfl, Nat.le_of_ble_eq_true rfl, ?_⟩
          show (if deq (.str s.2) (.str "off") = true then _ else _)
          rw [deq_str]
          generalize hB : (s.2 == ("off" : Str)) = B at hs
          cases B with
          | true =>
            have hs : true = lawFrom st 0 (f n) := by simpa using hs
            rw [← hs] at hq
            exact hq
          | false => exact fin _ _ _ _ (by simpa using hs)
      | false =>
        refine ⟨rfl, rfl, Nat.le_of_ble_eq_true rfl, ?_⟩
        show (if deq (.str s.2) (.str "off") = true then _ else _)
        rw [deq_str]
        generalize hB : (s.2 == ("off" : Str)) = B at hs
        cases B with
        | true =>
          cases b with
          | true => exact fin _ _ _ _ (by simpa using hs)
          | false =>
            have hs : true = lawFrom st 0 (f n) := by simpa using hs
            rw [← hs] at hq
            exact hq
        | false => exact fin _ _ _ _ (by cases b <;> simpa using hs)
  · rintro env' ⟨x3, x4, x5, x6, rfl, f3, f4, f5, f6, hs⟩
    rw [List.length_zipIdx, List.drop_length] at hs
    rw [← hs] at hq
    exact hq

abbrev s__law_played : Stmt := top 43
abbrev N__law_played : List Str := ["_law_table_here", "_law_orders_here", "_law_row", "_law_at", "_law_name"]
theorem sc__law_played : FnScope N__law_played ["_law_table_here", "_law_orders_here"] (defScope s__law_played) := ⟨rfl, rfl, rfl, by decide +kernel, rfl, by decide +kernel, by decide +kernel⟩
theorem ok_law_played {f : Addr} {fd : FuncData} (F : Fun K "_law_played" "_law_played" s__law_played f fd) (T : Txt mg) (CLf : Cal P w K mg base "_law_fails" 2 3 tfLF) : FnOk P w K mg base CX0 (2 + 1) f fd ["_law_table_here", "_law_orders_here"] (spD K 2 tfPlL) := by
  refine fn_D F sc__law_played rfl fun rg cdv A outer s H E hr => ?_
  have hu := hr.units
  refine ⟨_, _, (dss_one (ds_ret (DP.o (DF.p (df_lc (own := [("_law_row", 2)]) rfl sc__law_played.nd (blkOk_by (N := N__law_played) (sc := (defScope s__law_played)) (by decide +kernel)) (di_op (DP.o (d_var (pv 1)))) (fun _ _ _ _ _ => by exact (dg_name (pg_name (i := 2) sc__law_played.nd rfl (by first | exact Or.inl rfl | exact Or.inr rfl)) (by decide))) (fun _ _ _ _ _ => by exact dts_nil) (fun _ _ _ _ _ => by exact (DF.p (df_lc (own := [("_law_at", 3), ("_law_name", 4)]) rfl sc__law_played.nd (blkOk_by (N := N__law_played) (sc := (relS _ (defScope s__law_played))) (by decide +kernel)) (di_enumU (by rfl) T.enumerate (d_var (pv 2))) (fun _ _ _ _ _ => by exact (dg_tup (n := 2) rfl (dgs_cons (dg_name (pg_name (i := 3) sc__law_played.nd rfl (by first | exact Or.inl rfl | exact Or.inr rfl)) (by decide)) (dgs_cons (dg_name (pg_name (i := 4) sc__law_played.nd rfl (by first | exact Or.inl rfl | exact Or.inr rfl)) (by decide)) dgs_nil)))) (fun _ _ _ _ _ => by exact dts_nil) (fun _ _ _ _ _ => by exact (d_tup (da_cons (d_var (pv 4)) (da_cons (d_callC CLf (hr.mono (by omega)) (by rfl) (da_cons (d_var (pv 0)) (da_cons (d_var (pv 2)) (da_cons (d_var (pv 3)) da_nil)))) da_nil)))))))))))), fun ds Qd h hl => ?_⟩
  obtain ⟨ns, f, m, rs, rfl, hG, hR, hq⟩ := h
  have l1 := hR.len
  have ef : rs.filter (fun _ => true) = rs := List.filter_eq_self.mpr fun _ _ => rfl
  refine ⟨rfl, lc_at (xs := rs) (enc := eOK false) (p := fun _ => true) (g := fun r => eRow false (playB f (noB m) r)) rfl (by omega) (fun r hr Qy Qn hy => ?_) ?_⟩
  · obtain ⟨lr, hrn⟩ := hR.row r hr
    have eg : r.zipIdx.filter (fun _ => true) = r.zipIdx := List.filter_eq_self.mpr fun _ _ => rfl
    have hy : Qy (eRow false (playB f (noB m) r)) := hy
    rw [play_law0 hG hrn] at hy
    refine ⟨rfl, rfl, lc_at (xs := r.zipIdx) (enc := fun p => .tup [.int (p.2 : Nat), .str p.1]) (p := fun _ => true) (g := fun p => ePl (p.1, lawAt f r p.2 p.1)) (enum_map D.str r) (by rw [List.length_zipIdx]; omega) (fun p hp Zy Zn hz => ?_) ?_⟩
    · have hget : r[p.2]? = some p.1 := List.mem_zipIdx_iff_getElem?.mp hp
      exact ⟨rfl, rfl, rfl, rfl, rfl, ns, f, m, r, p.1, p.2, rfl, hG, lr, hrn, hget, Nat.le_of_ble_eq_true rfl, hz⟩
    · rw [eg]
      have e : eRow false (r.zipIdx.map fun p => (p.1, lawAt f r p.2 p.1)) = .lst (r.zipIdx.map fun p => ePl (p.1, lawAt f r p.2 p.1)) := by
        show D.lst _ = _
        rw [List.map_map]; rfl
      rw [e] at hy
      exact hy
  · rw [ef]
    have e : eRows false (playR f m rs) = .lst (rs.map fun r => eRow false (playB f (noB m) r)) := by
      show D.lst _ = _
      unfold playR
      rw [List.map_map]; rfl
    rw [e] at hq
    exact hq

def tfRunText : Tf := fun rg ds Q => ∃ R, ds = [eRows false R] ∧ Good R ∧ Q (.str (runText R))
abbrev s__law_run_text : Stmt := top 44
abbrev N__law_run_text : List Str := ["_law_rows", "_law_row", "_law_name", "_law_failed"]
theorem sc__law_run_text : FnScope N__law_run_text ["_law_rows"] (defScope s__law_run_text) := ⟨rfl, rfl, rfl, by decide +kernel, rfl, by decide +kernel, by decide +kernel⟩
theorem ok_law_run_text {f : Addr} {fd : FuncData} (F : Fun K "_law_run_text" "_law_run_text" s__law_run_text f fd) (T : Txt mg) : FnOk P w K mg base CX0 (0 + 1) f fd ["_law_rows"] (spD K 1 tfRunText) := by
  refine fn_D F sc__law_run_text rfl fun rg cdv A outer s H E hr => ?_
  have hu := hr.units
  refine ⟨_, _, (dss_one (ds_ret (DP.o (d_join d_str (DP.o (DF.p (df_lc (own := [("_law_row", 1)]) rfl sc__law_run_text.nd (blkOk_by (N := N__law_run_text) (sc := (defScope s__law_run_text)) (by decide +kernel)) (di_op (DP.o (d_var (pv 0)))) (fun _ _ _ _ _ => by exact (dg_name (pg_name (i := 1) sc__law_run_text.nd rfl (by first | exact Or.inl rfl | exact Or.inr rfl)) (by decide))) (fun _ _ _ _ _ => by exact dts_nil) (fun _ _ _ _ _ => by exact (d_join d_str (DP.o (DF.p (df_lc (own := [("_law_name", 2), ("_law_failed", 3)]) rfl sc__law_run_text.nd (blkOk_by (N := N__law_run_text) (sc := (relS _ (defScope s__law_run_text))) (by decide +kernel)) (di_op (DP.o (d_var (pv 1)))) (fun _ _ _ _ _ => by exact (dg_tup (n := 2) rfl (dgs_cons (dg_name (pg_name (i := 2) sc__law_run_text.nd rfl (by first | exact Or.inl rfl | exact Or.inr rfl)) (by decide)) (dgs_cons (dg_name (pg_name (i := 3) sc__law_run_text.nd rfl (by first | exact Or.inl rfl | exact Or.inr rfl)) (by decide)) dgs_nil)))) (fun _ _ _ _ _ => by exact dts_nil) (fun _ _ _ _ _ => by exact (d_op op_addU opd_add (DP.o (d_var (pv 2))) (DP.o (d_if (dt_truth (DP.o (d_var (pv 3)))) d_str d_str)))))))))))))))), fun ds Qd h hl => ?_⟩
  obtain ⟨R, rfl, hG, hq⟩ := h
  have l1 := hG.len
  have hs : (10000 : Nat) < sizeLine := by decide
  have e3 : R.filter (fun _ => true) = R := by simp
  refine ⟨rfl, lc_at (xs := R) (enc := eRow false) (p := fun _ => true) (g := fun r => D.str (rowText r)) rfl (by omega) (fun r hr Qy Qn hy => ?_) ⟨R.map rowText, ?_, ?_, hq⟩⟩
  · have e4 : r.filter (fun _ => true) = r := by simp
    have hn := (hG.row r hr).2.2
    refine ⟨rfl, rfl, lc_at (xs := r) (enc := ePl) (p := fun _ => true) (g := fun p => D.str (plText p)) rfl (by have := (hG.row r hr).2.1; omega) (fun p hp Qy Qn hy => ?_) ⟨r.map plText, ?_, ?_, hy⟩⟩
    · refine ⟨rfl, rfl, rfl, rfl, ?_⟩
      have l4 := isName_len (hn p hp)
      have hy' : Qy (D.str (plText p)) := hy
      obtain ⟨n, b⟩ := p
      have l4 : n.length ≤ 4 := l4
      cases b with
      | true => exact ⟨by show n.length + 1 ≤ _; omega, hy'⟩
      | false =>
        have e : plText (n, false) = n ++ "" := ext_tl (by rw [tl_append]; simp [plText]; rfl)
        rw [e] at hy'
        exact ⟨by show n.length + 0 ≤ _; omega, hy'⟩
    · rw [e4, List.map_map]; rfl
    · have h1 := sum_le (m := 5) (l := (r.map plText).map (·.length)) fun z hz => by
        rw [List.map_map] at hz
        obtain ⟨p, hp', rfl⟩ := List.mem_map.mp hz
        exact pl_len (hn p hp')
      have := (hG.row r hr).2.1
      rw [List.length_map, List.length_map] at h1
      have l1 : (" " : Str).length = 1 := rfl
      rw [List.length_map, l1]
      omega
  · rw [e3, List.map_map]; rfl
  · have h1 := sum_le (m := 6000) (l := (R.map rowText).map (·.length)) fun z hz => by
      rw [List.map_map] at hz
      obtain ⟨r, hr, rfl⟩ := List.mem_map.mp hz
      exact row_len (hG.row r hr).2.1 (hG.row r hr).2.2
    rw [List.length_map, List.length_map] at h1
    have l3 : (" | " : Str).length = 3 := rfl
    rw [List.length_map, l3]
    omega

end
end K17

/-! A list of lists of one's own at F, as: what it holds as data. -/
namespace DL
open PySem L2 PySem.Spec PyProof.Rows
/-- places that the data within may not hold -/
abbrev NM (M : Addr → Prop) (F : Addr) (as : List Addr) : Addr → Prop := fun b => M b ∨ b = F ∨ b ∈ as
structure NL (K : PySem.W.Frag) (M : Addr → Prop) (H : Hp) (F : Addr) (as : List Addr) (Ds : List (List D)) : Prop where
  f : H F = some (.lst (as.map V.ref))
  nd : as.Nodup
  nF : F ∉ as
  len : as.length = Ds.length
  row : ∀ (k : Nat) (b : Addr) (ds : List D), as[k]? = some b → Ds[k]? = some ds → ∃ ws, H b = some (.lst ws) ∧ RpAll K (NM M F as) H ws ds
section
variable {K : PySem.W.Frag} {M R : Addr → Prop} {H H' : Hp} {F : Addr} {as : List Addr} {Ds : List (List D)}
theorem NL.keep (h : NL K M H F as Ds) (k : Keep R H H') (hR : ∀ a, R a → M a) (nF : ¬ R F) (na : ∀ a ∈ as, ¬ R a) : NL K M H' F as Ds := by
  refine ⟨k _ _ h.f nF, h.nd, h.nF, h.len, fun j b ds hb hd => ?_⟩
  obtain ⟨ws, e, r⟩ := h.row j b ds hb hd
  exact ⟨ws, k _ _ e (na b (List.mem_of_getElem? hb)), RpAll.keep (k.mono fun a z => .inl (hR a z)) r⟩
theorem NL.data (h : NL K M H F as Ds) (mF : ¬ M F) (ma : ∀ a ∈ as, ¬ M a) : Rp K M H (.ref F) (.lst (Ds.map .lst)) := by
  refine .lst mF h.f (RpAll.ofGet (by rw [List.length_map, List.length_map, h.len]) fun j v d hv hd => ?_)
  rw [List.getElem?_map] at hv hd
  cases hb : as[j]? with
  | none => rw [hb] at hv; cases hv
  | some b =>
    cases he : Ds[j]? with
    | none => rw [he] at hd; cases hd
    | some ds =>
      rw [hb] at hv; rw [he] at hd; cases hv; cases hd
      obtain ⟨ws, e, r⟩ := h.row j b ds hb he
      exact .lst (ma b (List.mem_of_getElem? hb)) e (RpAll.anti (fun _ _ _ z => .inl z) r)
theorem RpAll.set {v : V} {d : D} (r : Rp K M H v d) : ∀ {vs : List V} {ds : List D} (j : Nat), RpAll K M H vs ds → RpAll K M H (vs.set j v) (ds.set j d)
  | [], [], _, .nil => .nil
  | _ :: _, _ :: _, 0, .cons _ b => .cons r b
  | _ :: _, _ :: _, j + 1, .cons a b => .cons a (RpAll.set r j b)
/-- one item of one of them is exchanged for a new tuple -/
theorem NL.put (h : NL K M H F as Ds) {k j : Nat} {b T : Addr} {ds : List D} {ws us : List V} {es : List D} (hb : as[k]? = some b) (hd : Ds[k]? = some ds) (hw : H b = some (.lst ws)) (hT : H T = none) (mT : ¬ M T) (ru : RpAll K (NM M F as) H us es) :
    NL K M (upd (upd H T (.tup us)) b (.lst (ws.set j (.ref T)))) F as (Ds.set k (ds.set j (.tup es))) := by
  have mb : b ∈ as := List.mem_of_getElem? hb
  have Tb : T ≠ b := fun z => by rw [z, hw] at hT; cases hT
  have TF : T ≠ F := fun z => by rw [z, h.f] at hT; cases hT
  have Ta : T ∉ as := fun z => by
    obtain ⟨i, hi, e⟩ := List.mem_iff_getElem.mp z
    have hi2 : i < Ds.length := by rw [← h.len]; exact hi
    obtain ⟨ws', e', _⟩ := h.row i T Ds[i] (by rw [List.getElem?_eq_getElem hi, e]) (List.getElem?_eq_getElem hi2)
    rw [e'] at hT; cases hT
  have Fb : F ≠ b := fun z => h.nF (by rw [z]; exact mb)
  have nT : ¬ NM M F as T := fun z => z.elim mT fun z => z.elim TF Ta
  have kp : Keep (NM M F as) H (upd (upd H T (.tup us)) b (.lst (ws.set j (.ref T)))) := fun x o e m => by
    rw [upd_ne (fun z => m (.inr (.inr (by rw [z]; exact mb)))), upd_ne (ne_of_none e hT)]; exact e
  have rT : Rp K (NM M F as) (upd (upd H T (.tup us)) b (.lst (ws.set j (.ref T)))) (.ref T) (.tup es) :=
    .tup nT (by rw [upd_ne Tb, upd_same]) (RpAll.keep kp ru)
  refine ⟨by rw [upd_ne Fb, upd_ne (Ne.symm TF)]; exact h.f, h.nd, h.nF, by rw [List.length_set]; exact h.len, fun i b' ds' hb' hd' => ?_⟩
  by_cases hik : k = i
  · subst hik
    rw [hb] at hb'; cases hb'
    rw [List.getElem?_set_self (List.getElem?_eq_some_iff.mp hd).1] at hd'
    cases hd'
    obtain ⟨ws', e, r⟩ := h.row k b ds hb hd
    rw [hw] at e; cases e
    exact ⟨_, upd_same, RpAll.set rT j (RpAll.keep kp r)⟩
  · rw [List.getElem?_set_ne hik] at hd'
    obtain ⟨ws', e, r⟩ := h.row i b' ds' hb' hd'
    have ne : b' ≠ b := fun z => by
      subst z
      obtain ⟨h1, e1⟩ := List.getElem?_eq_some_iff.mp hb
      obtain ⟨h2, e2⟩ := List.getElem?_eq_some_iff.mp hb'
      exact hik ((List.getElem_inj h.nd).mp (e1.trans e2.symm))
    refine ⟨ws', ?_, RpAll.keep kp r⟩
    rw [upd_ne ne, upd_ne (fun z => by rw [z, hT] at e; cases e)]; exact e
theorem atI_get {α : Type} {xs : List α} {z : Int} (h0 : 0 ≤ z) (h1 : z < xs.length) : atI xs z = xs[z.toNat]? := by
  unfold atI
  have : ixN xs.length z = some z.toNat := by unfold ixN; rw [if_pos h0, if_pos h1]
  rw [this]; rfl
theorem ixN_get {n : Nat} {z : Int} (h0 : 0 ≤ z) (h1 : z < n) : ixN n z = some z.toNat := by unfold ixN; rw [if_pos h0, if_pos h1]
end
end DL

namespace K17
open PySem L2 DL RD TB PySem.Spec PyProof.Rows
def tfFlip : Tf := fun rg ds Q => ∃ a g R, ∃ m : Nat, rg = rgD a g ∧ ds = [.raw (.ref a), eRows false R, .int (m : Nat)] ∧ R ≠ [] ∧ R.length < 1000 ∧ (∀ r ∈ R, r ≠ [] ∧ r.length < 1000) ∧ m < 1000 ∧ ∀ R' : List (List Pl), R'.map (fun r => r.map (·.1)) = R.map (fun r => r.map (·.1)) → Q (eRows false R')
section
variable {P : Program} {w : World} {K : PySem.W.Frag} {mg : Str → Option Value} {base : Heap}
abbrev s__law_flipped : Stmt := top 45
abbrev N__law_flipped : List Str := ["_law_deal", "_law_rows", "_law_amount", "_law_found", "_law_turn", "_law_at", "_law_spot", "_law_name", "_law_failed", "_law_row"]
theorem sc__law_flipped : FnScope N__law_flipped ["_law_deal", "_law_rows", "_law_amount"] (defScope s__law_flipped) := ⟨rfl, rfl, rfl, by decide +kernel, rfl, by decide +kernel, by decide +kernel⟩
theorem ok_flipped {f : Addr} {fd : FuncData} (F : Fun K "_law_flipped" "_law_flipped" s__law_flipped f fd) (T : Txt mg) (CD : Cal P w K mg base "_law_draw" 1 2 tfDr) : FnOk P w K mg base CX0 2 f fd ["_law_deal", "_law_rows", "_law_amount"] (spD K 3 tfFlip) := by
  refine F.ok (k := 1) sc__law_flipped (fun vs H Q E h => spD_len vs H Q E h) (fun cdv A outer s H vs Q E hr h => ?_)
  obtain ⟨c, ds, Qd, ok, hP, r, j, dom, hl, ht, out⟩ := h
  have hu := hr.units
  have s0 : DS (cxOf CX0 P w K mg base N__law_flipped "_law_flipped" (defScope s__law_flipped) f cdv A outer s H E).nox K Rg.pure ((defBody s__law_flipped).getD 0 (.Pass ⟨0, 0, 0, 0⟩)) _ _ := (ds_setLc (i := 3) (own := [("_law_row", 9)]) rfl sc__law_flipped.nd rfl rfl (sw_true rfl rfl rfl (by decide +kernel)) (blkOk_by (N := N__law_flipped) (sc := (defScope s__law_flipped)) (by decide +kernel)) (di_op (DP.o (d_var (pv 1)))) (fun _ _ _ _ _ => by exact (dg_name (pg_name (i := 9) sc__law_flipped.nd rfl (by first | exact Or.inl rfl | exact Or.inr rfl)) (by decide))) (fun _ _ _ _ _ => by exact dts_nil) (fun _ _ _ _ _ => by exact (DF.p (df_list (by rfl) T.list (by decide +kernel) (DP.o (d_var (pv 9)))))))
  refine ⟨_, pss_cons s0.ps (pss_cons (ps_for PassesOwn.never rfl (DI.pi (rg := c.rg) (K := K) (o := false) (di_range1 (by rfl) T.range (da_cons (d_var (pv 2)) da_nil))) (DG.pg (rg := c.rg) (K := K) (vs := [4]) (dg_name (pg_name (i := 4) sc__law_flipped.nd rfl (by first | exact Or.inl rfl | exact Or.inr rfl)) (by decide)))
    (pss_cons (DS.ps (rg := c.rg) (K := K) (ds_setP (d_callC CD (hr.mono (by omega)) (by rfl) (da_cons (d_var (pv 0)) (da_cons (d_callB cl_len cad_len (by rfl) T.len (by decide +kernel) (dao_cons (do_var (pv 3)) dao_nil)) da_nil))) (i := 5) sc__law_flipped.nd rfl (by first | exact Or.inl rfl | exact Or.inr rfl)))
    (pss_cons (DS.ps (rg := c.rg) (K := K) (ds_setP (d_callC CD (hr.mono (by omega)) (by rfl) (da_cons (d_var (pv 0)) (da_cons (d_callB cl_len cad_len (by rfl) T.len (by decide +kernel) (dao_cons (DP.o (d_ix (do_var (pv 3)) (DP.o (d_var (pv 5))))) dao_nil)) da_nil))) (i := 6) sc__law_flipped.nd rfl (by first | exact Or.inl rfl | exact Or.inr rfl)))
    (pss_cons (DS.ps (rg := c.rg) (K := K) (ds_asg (vs := [7, 8]) (d_ix (DP.o (d_ix (do_var (pv 3)) (DP.o (d_var (pv 5))))) (DP.o (d_var (pv 6)))) (dg_tup (n := 2) rfl (dgs_cons (dg_name (pg_name (i := 7) sc__law_flipped.nd rfl (by first | exact Or.inl rfl | exact Or.inr rfl)) (by decide)) (dgs_cons (dg_name (pg_name (i := 8) sc__law_flipped.nd rfl (by first | exact Or.inl rfl | exact Or.inr rfl)) (by decide)) dgs_nil)))))
    (pss_one (ps_asg (DP.pe (rg := c.rg) (K := K) (d_tup (da_cons (d_var (pv 7)) (da_cons (d_not (d_var (pv 8))) da_nil)))) (pg_sub (DP.pe (rg := c.rg) (K := K) (d_ix (do_var (pv 3)) (DP.o (d_var (pv 5))))) (pv 6) set_list))))))) (pss_one (ps_ret (pv 3)))), ?_⟩
  obtain ⟨a, g, R, m, hrg, rfl, hne, hlen, hrow, hm, hq⟩ := ht
  cases r with
  | cons r1 r =>
  cases r with
  | cons r2 r =>
  cases r with
  | cons r3 r =>
  cases r3; cases r; cases r1
  rename_i vR
  have r2' : RpO K c.M c.M H vR (.lst (R.map (eRow false))) := .inl r2
  cases r2 with
  | lst m2 hp0 ra =>
  rename_i p0 us
  have lu : us.length = R.length := by have := RpAll.length ra; rw [List.length_map] at this; exact this
  have hs : (100000 : Nat) < sizeLine := by decide
  have urow : ∀ (i : Nat) (x : V), us[i]? = some x → ∃ q ws r, x = .ref q ∧ H q = some (.lst ws) ∧ R[i]? = some r ∧ RpAll K c.M H ws (r.map ePl) := fun i x hx => by
    obtain ⟨d, hd, rd⟩ := RpAll.get ra hx
    rw [List.getElem?_map] at hd
    cases hr : R[i]? with
    | none => rw [hr] at hd; cases hd
    | some r =>
      rw [hr] at hd; cases hd
      have rd' : RpO K c.M c.M H x (.lst (r.map ePl)) := .inl rd
      obtain ⟨q, ws, rfl, h1, h2⟩ := rd'.lst
      exact ⟨q, ws, r, rfl, h1, rfl, h2⟩
  -- the new lists
  refine ⟨_, rfl, p0, rfl, .inl ⟨us, SqL.of hp0, fun F hF => ?_⟩⟩
  refine lc_it walk_list (fun i H5 => ∃ as : List Addr, as.length = i ∧ H5 F = some (.lst (as.map V.ref)) ∧ as.Nodup ∧ F ∉ as ∧ (∀ b ∈ as, H b = none) ∧ (∀ b o, H b = some o → H5 b = some o) ∧ ∀ (k : Nat) (b : Addr), as[k]? = some b → ∃ ws q, us[k]? = some (.ref q) ∧ H q = some (.lst ws) ∧ H5 b = some (.lst ws))
    ⟨[], rfl, upd_same, .nil, by simp, by simp, fun b o e => by rw [upd_ne (ne_of_none e hF)]; exact e, by simp⟩ (fun i H5 _ ⟨as, _, _, _, _, _, sm, _⟩ => SqL.of (sm _ _ hp0)) ?_ ?_
  · rintro i x H5 H6 hlt ⟨as, la, hFl, nd, nF, n0, sm, rows⟩ ⟨rfl, hx⟩
    obtain ⟨q, ws, r, rfl, hq5, hr, _⟩ := urow i x hx
    refine ⟨by rfl, _, rfl, q, ws, rfl, .inl (SqL.of (sm _ _ hq5)), fun l hl => ?_⟩
    have lF : l ≠ F := fun z => by rw [z, hFl] at hl; cases hl
    have la' : ∀ b ∈ as, b ≠ l := fun b hb z => by
      obtain ⟨j, hj, e⟩ := List.mem_iff_getElem.mp hb
      obtain ⟨ws', _, _, _, e'⟩ := rows j b (by rw [List.getElem?_eq_getElem hj, e])
      rw [z, hl] at e'; cases e'
    have hl0 : H l = none := by
      cases e : H l with
      | none => rfl
      | some o => rw [sm l o e] at hl; cases hl
    refine ⟨as.map V.ref, by rw [upd_ne (Ne.symm lF)]; exact hFl, by rw [List.length_map]; omega, as ++ [l], by rw [List.length_append, la]; rfl, by rw [upd_same, List.map_append]; rfl, ?_, ?_, ?_, ?_, ?_⟩
    · rw [List.nodup_append]
      exact ⟨nd, by simp, fun a ha b hb => by rw [List.mem_singleton.mp hb]; exact la' a ha⟩
    · intro hm
      rcases List.mem_append.mp hm with hm | hm
      · exact nF hm
      · exact lF (List.mem_singleton.mp hm).symm
    · intro b hb
      rcases List.mem_append.mp hb with hb | hb
      · exact n0 b hb
      · rw [List.mem_singleton.mp hb]; exact hl0
    · intro b o e
      have hb := sm b o e
      rw [upd_ne (fun z => by rw [z, hF] at e; cases e), upd_ne (ne_of_none hb hl)]; exact hb
    · intro k b hb
      by_cases hk : k < as.length
      · rw [List.getElem?_append_left hk] at hb
        obtain ⟨ws', q', e1, e2, e3⟩ := rows k b hb
        have mb := List.mem_of_getElem? hb
        exact ⟨ws', q', e1, e2, by rw [upd_ne (fun z => nF (by rw [← z]; exact mb)), upd_ne (la' b mb)]; exact e3⟩
      · rw [List.getElem?_append_right (by omega)] at hb
        have hk2 : k - as.length = 0 := by
          have := (List.getElem?_eq_some_iff.mp hb).1
          simp at this; omega
        rw [hk2] at hb
        cases hb
        exact ⟨ws, q, by rw [show k = i by omega]; exact hx, hq5, by rw [upd_ne lF, upd_same]⟩
  rintro H5 ⟨as, la, hF5, nd, nF, n0, sm, rows⟩
  have mF : ¬ c.M F := fun z => dom F z hF
  have ma : ∀ b ∈ as, ¬ c.M b := fun b hb z => dom b z (n0 b hb)
  have nRF : ¬ c.rg.R F := fun z => mF (ok.sub F z)
  have nRa : ∀ b ∈ as, ¬ c.rg.R b := fun b hb z => ma b hb (ok.sub b z)
  have N0 : NL K c.M H5 F as (R.map fun r => r.map ePl) := by
    refine ⟨hF5, nd, nF, by rw [List.length_map]; omega, fun k b ds hb hd => ?_⟩
    obtain ⟨ws, q, e1, e2, e3⟩ := rows k b hb
    obtain ⟨q', ws', r, e4, e5, e6, rr⟩ := urow k _ e1
    cases e4
    rw [e2] at e5; cases e5
    rw [List.getElem?_map, e6] at hd; cases hd
    refine ⟨ws, e3, RpAll.keep (H := H) (fun b o e _ => sm b o e) (RpAll.anti (fun x o e z => ?_) rr)⟩
    rcases z with z | z | z
    · exact z
    · rw [z, hF] at e; cases e
    · rw [n0 x z] at e; cases e
  have k0 : Keep c.rg.R H H5 := fun b o e _ => sm b o e
  have j0 : c.rg.J H5 := ok.rg.stay H H5 j fun b o e _ => sm b o e
  clear rows sm hF5 urow
  -- a draw
  have draw : ∀ (H6 : Hp) (n : Int) (Z : VK), Keep c.rg.R H H6 → c.rg.J H6 → 0 < n → n < 1073741824 → (∀ z H7, 0 ≤ z → z < n → Keep c.rg.R H6 H7 → c.rg.J H7 → Z (.int z) H7) → spD K 2 tfDr ([.ref a, .int n] ++ []) H6 Z E0 := fun H6 n Z k6 j6 h0 h1 hz => by
    refine ⟨c, [.raw (.ref a), .int n], fun d => ∃ z : Int, d = .int z ∧ 0 ≤ z ∧ z < n, ok, hP, .cons (.raw _) (.cons (.int _) .nil), j6, fun x hx => ?_, rfl, ⟨a, g, n, hrg, rfl, h0, h1, fun z z0 z1 => ⟨z, rfl, z0, z1⟩⟩, fun v d H7 hd k7 j7 rv => ?_⟩
    · by_cases hr : c.rg.R x
      · exact ok.rg.dom H6 j6 x hr
      · cases e : H x with
        | none => exact absurd e (dom x hx)
        | some o => rw [k6 x o e hr]; simp
    · obtain ⟨z, rfl, z0, z1⟩ := hd
      cases rv
      exact hz z H7 z0 z1 k7 j7
  -- the loop
  refine ⟨_, rfl, (m : Int), rfl, by omega, by omega, ?_⟩
  refine for_it walk_range (fun i σ H6 => ∃ (Rs : List (List Pl)) (x4 x5 x6 x7 x8 x9 : Option V), σ = [some (.ref a), some (.ref p0), some (.int (m : Nat)), some (.ref F), x4, x5, x6, x7, x8, x9] ∧ Rs.map (fun r => r.map (·.1)) = R.map (fun r => r.map (·.1)) ∧ Keep c.rg.R H H6 ∧ c.rg.J H6 ∧ NL K c.M H6 F as (Rs.map fun r => r.map ePl))
    ⟨R, none, none, none, none, none, none, rfl, rfl, k0, j0, N0⟩ (fun _ _ _ _ _ => trivial) ?_ ?_
  · rintro i x σ H6 H7 hlt ⟨Rs, x4, x5, x6, x7, x8, x9, rfl, nm, k6, j6, N6⟩ ⟨rfl, rfl⟩
    have lR : Rs.length = R.length := by have := congrArg List.length nm; simpa using this
    have l0 : 0 < R.length := List.length_pos_iff.mpr hne
    have lA : as.length = R.length := by have := N6.len; rw [List.length_map] at this; omega
    refine ⟨_, rfl, _, rfl, _, as.length, rfl, .inl ⟨_, SqL.of N6.f, by rw [List.length_map]⟩, ?_⟩
    refine draw _ _ _ k6 j6 (by omega) (by omega) fun z H8 z0 z1 k8 j8 => ?_
    have N8 := N6.keep k8 ok.sub nRF nRa
    have k08 := k6.trans k8
    clear N6 k6 j6 k8
    -- the row
    have hz : z.toNat < as.length := by omega
    have hz2 : z.toNat < Rs.length := by omega
    obtain ⟨b, hb⟩ : ∃ b, as[z.toNat]? = some b := ⟨_, List.getElem?_eq_getElem hz⟩
    obtain ⟨r, hr⟩ : ∃ r, Rs[z.toNat]? = some r := ⟨_, List.getElem?_eq_getElem hz2⟩
    have hix : atI (as.map V.ref) z = some (.ref b) := by rw [atI_get z0 (by rw [List.length_map]; exact z1), List.getElem?_map, hb]; rfl
    have hd : (Rs.map fun r => r.map ePl)[z.toNat]? = some (r.map ePl) := by rw [List.getElem?_map, hr]; rfl
    have mb : b ∈ as := List.mem_of_getElem? hb
    have hrl : 0 < r.length ∧ r.length < 1000 := by
      have e := congrArg (fun l => l[z.toNat]?) nm
      simp only [List.getElem?_map, hr, Option.map_some] at e
      cases e2 : R[z.toNat]? with
      | none => rw [e2] at e; cases e
      | some r0 =>
        rw [e2] at e
        have e3 := congrArg List.length (Option.some.inj e)
        rw [List.length_map, List.length_map] at e3
        have h0 := hrow r0 (List.mem_of_getElem? e2)
        have := List.length_pos_iff.mpr h0.1
        omega
    obtain ⟨ws, hw, rw8⟩ := N8.row _ b _ hb hd
    have lw : ws.length = r.length := by have := RpAll.length rw8; rw [List.length_map] at this; exact this
    refine ⟨_, rfl, _, rfl, _, rfl, .inl ⟨F, _, z, .ref b, rfl, rfl, SqL.of N8.f, hix, ?_⟩⟩
    refine ⟨_, ws.length, rfl, .inl ⟨_, SqL.of hw, rfl⟩, ?_⟩
    refine draw _ _ _ k08 j8 (by omega) (by omega) fun y H9 y0 y1 k9 j9 => ?_
    have N9 := N8.keep k9 ok.sub nRF nRa
    have k09 := k08.trans k9
    have hw9 : H9 b = some (.lst ws) := k9 _ _ hw (nRa b mb)
    have rw9 : RpAll K (NM c.M F as) H9 ws (r.map ePl) := RpAll.keep (k9.mono fun x q => .inl (ok.sub x q)) rw8
    clear N8 k08 k9 hw rw8
    -- the pair
    have hy : y.toNat < r.length := by omega
    obtain ⟨p, hp⟩ : ∃ p, r[y.toNat]? = some p := ⟨_, List.getElem?_eq_getElem hy⟩
    obtain ⟨v, hv, rv⟩ := RpAll.get' rw9 (show (r.map ePl)[y.toNat]? = some (ePl p) by rw [List.getElem?_map, hp]; rfl)
    have hiy : atI ws y = some v := by rw [atI_get y0 y1]; exact hv
    have rv' : RpO K (NM c.M F as) (NM c.M F as) H9 v (.tup [.str p.1, .bl p.2]) := .inl rv
    obtain ⟨q, vs, rfl, sq, rq⟩ := rv'.tup
    cases rq with
    | cons a1 rq =>
    cases rq with
    | cons a2 rq =>
    cases rq; cases a1; cases a2
    refine ⟨_, rfl, _, rfl, .inl ⟨F, _, z, .ref b, rfl, rfl, SqL.of N9.f, hix, ?_⟩⟩
    refine ⟨_, rfl, .inl ⟨b, ws, y, .ref q, rfl, rfl, SqL.of hw9, hiy, ?_⟩⟩
    refine ⟨q, _, rfl, sq, rfl, _, _, rfl, _, _, rfl, rfl, ?_⟩
    -- the store
    refine ⟨_, rfl, _, rfl, _, rfl, by show 2 ≤ sizeLine; decide, fun T hT => ?_⟩
    have TF : F ≠ T := ne_of_none N9.f hT
    have Tb : b ≠ T := ne_of_none hw9 hT
    refine ⟨_, rfl, _, rfl, .inl ⟨F, _, z, .ref b, rfl, rfl, SqL.of (by rw [upd_ne TF]; exact N9.f), hix, ?_⟩⟩
    refine ⟨_, rfl, b, ws, y, y.toNat, rfl, rfl, by rw [upd_ne Tb]; exact hw9, ixN_get y0 y1, ?_⟩
    have mT : ¬ c.M T := fun zz => by
      by_cases hr : c.rg.R T
      · exact ok.rg.dom H9 j9 T hr hT
      · cases e : H T with
        | none => exact dom T zz e
        | some o => rw [k09 T o e hr] at hT; cases hT
    have N10 := N9.put (j := y.toNat) hb hd hw9 hT mT (us := [.str p.1, .bl (!p.2)]) (es := [.str p.1, .bl (!p.2)]) (.cons (.str _) (.cons (.bl _) .nil))
    refine ⟨Rs.set z.toNat (r.set y.toNat (p.1, !p.2)), _, _, _, _, _, _, rfl, ?_, ?_, ?_, ?_⟩
    · rw [← nm, List.map_set]
      have e : (r.set y.toNat (p.1, !p.2)).map (·.1) = r.map (·.1) := by
        rw [List.map_set]
        refine List.ext_getElem? fun k => ?_
        by_cases hk : y.toNat = k
        · subst hk
          rw [List.getElem?_set_self (by rw [List.length_map]; exact hy), List.getElem?_map, hp]; rfl
        · rw [List.getElem?_set_ne hk]
      rw [e]
      refine List.ext_getElem? fun k => ?_
      by_cases hk : z.toNat = k
      · subst hk
        rw [List.getElem?_set_self (by rw [List.length_map]; exact hz2), List.getElem?_map, hr]; rfl
      · rw [List.getElem?_set_ne hk]
    · intro x o e mx
      have h9 := k09 x o e mx
      rw [upd_ne (fun q => by rw [q, n0 b mb] at e; cases e), upd_ne (fun q => by rw [q, hT] at h9; cases h9)]
      exact h9
    · refine ok.rg.stay H9 _ j9 fun x o e hx => ?_
      rw [upd_ne (fun q => nRa b mb (by rw [← q]; exact hx)), upd_ne (fun q => by rw [q, hT] at e; cases e)]
      exact e
    · have e : (Rs.set z.toNat (r.set y.toNat (p.1, !p.2))).map (fun r => r.map ePl) = (Rs.map fun r => r.map ePl).set z.toNat ((r.map ePl).set y.toNat (.tup [.str p.1, .bl (!p.2)])) := by
        rw [List.map_set, List.map_set]; rfl
      rw [e]
      exact N10
  · rintro σ H6 ⟨Rs, x4, x5, x6, x7, x8, x9, rfl, nm, k6, j6, N6⟩
    refine ⟨_, rfl, out _ (eRows false Rs) H6 (hq Rs nm) k6 j6 ?_⟩
    have := N6.data mF ma
    rw [List.map_map] at this
    exact this

end
end K17

/-! len(set(a list of texts that are all different)). -/
namespace SG
open PySem PySem.Spec PyProof.Rows L2
section
variable {X : Cx}
def rLenT (P : Program) (w : World) : List V → Hp → VK → Prop := fun vs H Q => ∃ (a : Addr) (xs : List Str), vs = [.ref a] ∧ H a = some (SetS P w a xs) ∧ Q (.int xs.length) H
theorem cr_lenT : CallR X (.builtin "len") (rLenT X.prog X.w) := by
  intro pins s σ H vs us Q I r h
  obtain ⟨a, xs, rfl, ha, q⟩ := h
  rw [Vals.ref1 r]
  obtain ⟨o, es, ep, t, got, ex, dat, en, nd, few, fit, up, way⟩ := setS_get I ha
  have en' := en.length
  rw [Array.length_toList] at en'
  refine call_len_set got ex dat fit (by have : scanBound = 4096 := rfl; omega) ⟨.int xs.length, H, I.tok _, ⟨s.toks + 1, by rw [en']⟩, q⟩
end
end SG
namespace DL
open PySem L2 SG PySem.Spec PyProof.Rows
section
variable {X : Cx} {K : PySem.W.Frag} {rg : Rg} {e : Expr} {te : TE} {t : TD}
def sLenSet (t : TD) : TD := fun env Q => t env fun d => match d with | .lst ds => ∃ ts : List Str, ds = ts.map .str ∧ ts.Nodup ∧ ts.length < 1000 ∧ Q (.int ts.length) | _ => False
theorem d_lenSet {x y : Str} {p py pos cpos : Pos} (hc : X.calm = true) (hg0 : Gl X x) (hm0 : X.mg x = none) (hv0 : bootBuiltins x = some (.builtin "len")) (hg1 : Gl X y) (hm1 : X.mg y = none) (hv1 : bootBuiltins y = some (.type "set")) (h : DO X K rg e te t)
    (hn : x ≠ "__name__" := by decide) (hdb : (x == ("__debug__" : Str)) = false := by decide) (hn1 : y ≠ "__name__" := by decide) (hdb1 : (y == ("__debug__" : Str)) = false := by decide) (hse : starEach [e] X.env = (false, eval e X.env) :: starEach [] X.env := by rfl)
    (hst : starEach [.Call (.Name y py) [e] [] pos] X.env = (false, eval (.Call (.Name y py) [e] [] pos) X.env) :: starEach [] X.env := by rfl) :
    DP X K rg (.Call (.Name x p) [.Call (.Name y py) [e] [] pos] [] cpos) (tCB (rLenT X.prog X.w) (tCons (tCB (rSetTx X.prog X.w) (tCons te tNil)) tNil)) (sLenSet t) := by
  cases h.kx
  refine ⟨rfl, pe_callB cr_lenT hg0 hm0 hv0 (pa_cons (pe_callTy (cr_setTx hc) hg1 hm1 hv1 (pa_cons h.pe pa_nil hse) hn1 hdb1 hse rfl) pa_nil hst) hn hdb hst rfl, fun c hcc pn H0 env σ H Qd Q S hq k => ?_⟩
  refine h.rf c hcc pn H0 env σ H _ _ S hq fun d v H1 q1 k1 j1 r1 => ?_
  subst hcc
  cases d with
  | lst ds =>
    obtain ⟨ts, rfl, nd, few, q1⟩ := q1
    obtain ⟨a, us, rfl, e1, ra⟩ := r1.lst
    have eu := strs_vals ra
    subst eu
    refine ⟨a, ts, rfl, e1, by omega, fun xs q nd2 mem hq => ?_⟩
    have le1 := nodup_le nd2 fun z hz => (mem z).mp hz
    have le2 := nodup_le nd fun z hz => (mem z).mpr hz
    have el : xs.length = ts.length := Nat.le_antisymm le1 le2
    refine ⟨q, xs, rfl, upd_same, ?_⟩
    rw [el]
    exact k _ _ _ q1 (fresh_keep k1 (o := SetS X.prog X.w q xs) hq) (fresh_j S.ok j1 (o := SetS X.prog X.w q xs) hq) (.int _)
  | _ => exact q1.elim
end
end DL

/-! Evidences, told of data. -/
namespace TB
open PySem L2 DL RD PySem.Spec PyProof.Rows
/-- a run with its names -/
abbrev Rn := List (List Pl) × List Str
def eRn (CR : Addr) (z : Rn) : D := eRun CR z.1 z.2
def eRns (CR : Addr) (k : Bool) (Z : List Rn) : D := sq k (Z.map (eRn CR))
def eEv (CE CR : Addr) (ys : List Str) (Z : List Rn) (m s : Int) : D := .obj CE ["names", "runs", "things", "slips"] [.tup (ys.map .str), eRns CR true Z, .int m, .int s]
structure OE (K : PySem.W.Frag) (mg : Str → Option Value) (CE : Addr) : Prop where
  cls : Cls K CE
  names : NoAttr K CE "names"
  runs : NoAttr K CE "runs"
  things : NoAttr K CE "things"
  slips : NoAttr K CE "slips"
  mg : mg "Evidence" = some (.ref CE)
/-- names of an evidence -/
structure GoodN (ns : List Str) : Prop where
  ne : ns ≠ []
  len : ns.length < 60
  nd : ns.Nodup
  name : ∀ n ∈ ns, isName n = true
/-- runs of these names -/
structure GoodZ (Z : List Rn) (ns : List Str) : Prop where
  len : Z.length < 60
  row : ∀ z ∈ Z, Good z.1 ∧ AscOf z.2 (inR z.1) ∧ ∀ r ∈ z.1, ∀ p ∈ r, p.1 ∈ ns
theorem GoodZ.sub {Z : List Rn} {ns : List Str} (h : GoodZ Z ns) : ∀ z ∈ Z, ∀ y ∈ z.2, y ∈ ns := fun z hz y hy => by
  obtain ⟨_, a, b⟩ := h.row z hz
  obtain ⟨r, hr, p, hp, rfl⟩ := (a.2.2 y).mp hy
  exact b r hr p hp
def tfIsInt : Tf := fun rg ds Q => ∃ i : Int, ds = [.int i] ∧ Q (.bl true)
def tfAreNames : Tf := fun rg ds Q => ∃ ns, ds = [.lst (ns.map .str)] ∧ GoodN ns ∧ Q (.bl true)
def tfIsRunOf (CR : Addr) : Tf := fun rg ds Q => ∃ (z : Rn) (ns : List Str), ds = [eRn CR z, .lst (ns.map .str)] ∧ z.2.length < 1000 ∧ ns.length < 60 ∧ (∀ y ∈ z.2, y ∈ ns) ∧ Q (.bl true)
def tfAreRunsOf (CR : Addr) : Tf := fun rg ds Q => ∃ (Z : List Rn) (ns : List Str), ds = [eRns CR false Z, .lst (ns.map .str)] ∧ GoodZ Z ns ∧ ns.length < 60 ∧ Q (.bl true)
def tfWrongE (CR : Addr) : Tf := fun rg ds Q => ∃ (ns : List Str) (Z : List Rn) (m s : Int), ds = [.lst (ns.map .str), eRns CR false Z, .int m, .int s] ∧ GoodN ns ∧ GoodZ Z ns ∧ (m = 1 ∨ m = 2) ∧ 0 ≤ s ∧ Q .non
def tfInitE (CR : Addr) : Tfs := fun rg ds Q => ∃ (ns : List Str) (Z : List Rn) (m s : Int), ds = [.lst (ns.map .str), eRns CR false Z, .int m, .int s] ∧ GoodN ns ∧ GoodZ Z ns ∧ (m = 1 ∨ m = 2) ∧ 0 ≤ s ∧
  ∀ ys, ys.Perm ns → sortedS ys = true → Q [.tup (ys.map .str), eRns CR true Z, .int m, .int s]
end TB

/-! Tables that play all short rows alike play all rows alike. -/
namespace TB
open PySem L2 DL RD PySem.Spec
def badB (s : Sg) (b : Bool) : Bool := s.2 == "on" && b || s.2 == "off" && !b
theorem lawFrom_iff {st : Nat → Bool} : ∀ (ss : List Sg) (k : Nat), lawFrom st k ss = true ↔ ∃ i s, ss[i]? = some s ∧ badB s (st (k + i)) = true
  | [], k => by simp [lawFrom]
  | s :: ss, k => by
    have ih := lawFrom_iff (st := st) ss (k + 1)
    rw [lawFrom]
    constructor
    · intro h
      by_cases hb : (s.2 == "on" && st k || s.2 == "off" && !st k) = true
      · exact ⟨0, s, rfl, hb⟩
      · rw [if_neg hb] at h
        obtain ⟨i, x, h1, h2⟩ := ih.mp h
        exact ⟨i + 1, x, by simpa using h1, by rw [show k + (i + 1) = k + 1 + i by omega]; exact h2⟩
    · rintro ⟨i, x, h1, h2⟩
      by_cases hb : (s.2 == "on" && st k || s.2 == "off" && !st k) = true
      · rw [if_pos hb]
      · rw [if_neg hb]
        cases i with
        | zero => simp at h1; subst h1; exact absurd h2 hb
        | succ i => exact ih.mpr ⟨i, x, by simpa using h1, by rw [show k + 1 + i = k + (i + 1) by omega]; exact h2⟩
theorem lawFrom_congr {st st' : Nat → Bool} {ss : List Sg} (h : ∀ t, t < ss.length → st t = st' t) : lawFrom st 0 ss = lawFrom st' 0 ss := by
  rw [Bool.eq_iff_iff, lawFrom_iff, lawFrom_iff]
  constructor
  · rintro ⟨i, s, h1, h2⟩
    have := (List.getElem?_eq_some_iff.mp h1).1
    exact ⟨i, s, h1, by rw [Nat.zero_add] at h2 ⊢; rw [← h i this]; exact h2⟩
  · rintro ⟨i, s, h1, h2⟩
    have := (List.getElem?_eq_some_iff.mp h1).1
    exact ⟨i, s, h1, by rw [Nat.zero_add] at h2 ⊢; rw [h i this]; exact h2⟩
/-- the nearest test that touches -/
def fstT (f : Sf) (t : Nat) : List Str → Nat
  | [] => 0
  | x :: r => if doesAt (f x) t = "leaves" then fstT f t r + 1 else 0
theorem state_erase {f : Sf} {t : Nat} : ∀ (L : List Str) (i : Nat), i ≠ fstT f t L → stateB f (L.eraseIdx i) t = stateB f L t
  | [], i, _ => by simp
  | x :: r, 0, h => by
    rw [fstT] at h
    by_cases e : doesAt (f x) t = "leaves"
    · rw [stateB, if_pos e]; rfl
    · rw [if_neg e] at h; exact absurd rfl h
  | x :: r, i + 1, h => by
    rw [fstT] at h
    rw [List.eraseIdx_cons_succ, stateB, stateB]
    by_cases e : doesAt (f x) t = "leaves"
    · rw [if_pos e] at h
      rw [if_pos e, if_pos e]
      exact state_erase r i (by omega)
    · rw [if_neg e, if_neg e]
/-- how a test comes out behind these, the last one first -/
abbrev outB (f : Sf) (L : List Str) (n : Str) : Bool := lawFrom (stateB f L) 0 (f n)
theorem free_at {k : Nat} (P : List Nat) (h : P.length < k) : ∃ i, i < k ∧ i ∉ P := by
  apply Classical.byContradiction
  intro hc
  have all : ∀ i ∈ List.range k, i ∈ P := fun i hi => Classical.byContradiction fun hn => hc ⟨i, List.mem_range.mp hi, hn⟩
  have := nodup_le (xs := List.range k) (ys := P) List.nodup_range all
  rw [List.length_range] at this
  omega
theorem shorter {ns : List Str} {f g : Sf} {m : Nat} (hF : GoodT ns f m) (hG : GoodT ns g m) {L : List Str} {n : Str} (hn : n ∈ ns) (hl : m + 1 < L.length) (h1 : outB f L n = true) (h2 : outB g L n = false) :
    ∃ i, i < L.length ∧ outB f (L.eraseIdx i) n = true ∧ outB g (L.eraseIdx i) n = false := by
  obtain ⟨t, s, e1, e2⟩ := (lawFrom_iff _ _).mp h1
  rw [Nat.zero_add] at e2
  obtain ⟨i, hi, hp⟩ := free_at (k := L.length) (fstT f t L :: (List.range m).map fun t => fstT g t L) (by simp; omega)
  have p1 : i ≠ fstT f t L := fun e => hp (by simp [e])
  have p2 : ∀ u, u < m → i ≠ fstT g u L := fun u hu e => hp (by
    refine List.mem_cons_of_mem _ (List.mem_map.mpr ⟨u, List.mem_range.mpr hu, e.symm⟩))
  refine ⟨i, hi, (lawFrom_iff _ _).mpr ⟨t, s, e1, by rw [Nat.zero_add, state_erase L i p1]; exact e2⟩, ?_⟩
  rw [← h2]
  exact lawFrom_congr fun u hu => state_erase L i (p2 u (by rw [hG.sl n hn] at hu; exact hu))
theorem alike {ns : List Str} {f g : Sf} {m : Nat} (hF : GoodT ns f m) (hG : GoodT ns g m) (h : ∀ L n, L.length ≤ m + 1 → (∀ x ∈ L, x ∈ ns) → n ∈ ns → outB f L n = outB g L n) :
    ∀ (k : Nat) (L : List Str) (n : Str), L.length = k → (∀ x ∈ L, x ∈ ns) → n ∈ ns → outB f L n = outB g L n := by
  intro k
  induction k with
  | zero => intro L n hl hL hn; exact h L n (by omega) hL hn
  | succ k ih =>
    intro L n hl hL hn
    by_cases hs : L.length ≤ m + 1
    · exact h L n hs hL hn
    · have sub : ∀ i, ∀ x ∈ L.eraseIdx i, x ∈ ns := fun i x hx => hL x (List.mem_of_mem_eraseIdx hx)
      have len : ∀ i, i < L.length → (L.eraseIdx i).length = k := fun i hi => by rw [List.length_eraseIdx_of_lt hi]; omega
      cases e1 : outB f L n with
      | true =>
        cases e2 : outB g L n with
        | true => rfl
        | false =>
          obtain ⟨i, hi, q1, q2⟩ := shorter hF hG hn (by omega) e1 e2
          have := ih (L.eraseIdx i) n (len i hi) (sub i) hn
          rw [q1, q2] at this
          exact this
      | false =>
        cases e2 : outB g L n with
        | false => rfl
        | true =>
          obtain ⟨i, hi, q1, q2⟩ := shorter hG hF hn (by omega) e2 e1
          have := ih (L.eraseIdx i) n (len i hi) (sub i) hn
          rw [q1, q2] at this
          exact this
/-- all rows of k places; all rows of 1 to k places -/
def lay (ns : List Str) : Nat → List (List Str)
  | 0 => [[]]
  | k + 1 => (lay ns k).flatMap fun r => ns.map fun n => r ++ [n]
def rowsTo (ns : List Str) : Nat → List (List Str)
  | 0 => []
  | k + 1 => rowsTo ns k ++ lay ns (k + 1)
theorem lay_len (ns : List Str) : ∀ k, (lay ns k).length = ns.length ^ k
  | 0 => rfl
  | k + 1 => by
    have ih := lay_len ns k
    rw [lay, List.length_flatMap]
    have : ((lay ns k).map fun r => (ns.map fun n => r ++ [n]).length) = (lay ns k).map fun _ => ns.length := List.map_congr_left fun r _ => by rw [List.length_map]
    rw [this, List.map_const', List.sum_replicate_nat, ih, Nat.pow_succ]
theorem mem_lay {ns : List Str} : ∀ (k : Nat) (r : List Str), r ∈ lay ns k ↔ r.length = k ∧ ∀ x ∈ r, x ∈ ns
  | 0, r => by
    rw [lay, List.mem_singleton]
    constructor
    · rintro rfl; exact ⟨rfl, by simp⟩
    · rintro ⟨h, _⟩; exact List.eq_nil_of_length_eq_zero h
  | k + 1, r => by
    have ih := mem_lay (ns := ns) k
    rw [lay, List.mem_flatMap]
    constructor
    · rintro ⟨q, hq, hr⟩
      obtain ⟨n, hn, rfl⟩ := List.mem_map.mp hr
      obtain ⟨h1, h2⟩ := (ih q).mp hq
      refine ⟨by rw [List.length_append, h1]; rfl, fun x hx => ?_⟩
      rcases List.mem_append.mp hx with hx | hx
      · exact h2 x hx
      · rw [List.mem_singleton.mp hx]; exact hn
    · rintro ⟨h1, h2⟩
      have hne : r ≠ [] := fun e => by rw [e] at h1; simp at h1
      refine ⟨r.dropLast, (ih _).mpr ⟨by rw [List.length_dropLast]; omega, fun x hx => h2 x ((List.dropLast_sublist r).subset hx)⟩, List.mem_map.mpr ⟨r.getLast hne, h2 _ (List.getLast_mem hne), List.dropLast_concat_getLast hne⟩⟩
theorem mem_rowsTo {ns : List Str} : ∀ (k : Nat) (r : List Str), r ∈ rowsTo ns k ↔ 1 ≤ r.length ∧ r.length ≤ k ∧ ∀ x ∈ r, x ∈ ns
  | 0, r => by
    rw [rowsTo]
    constructor
    · intro h; cases h
    · rintro ⟨a, b, _⟩; omega
  | k + 1, r => by
    rw [rowsTo, List.mem_append, mem_rowsTo k r, mem_lay]
    constructor
    · rintro (⟨a, b, c⟩ | ⟨a, b⟩)
      · exact ⟨a, by omega, c⟩
      · exact ⟨by omega, by omega, b⟩
    · rintro ⟨a, b, c⟩
      by_cases e : r.length = k + 1
      · exact .inr ⟨e, c⟩
      · exact .inl ⟨a, by omega, c⟩
/-- alike over short rows -/
def likeB (ns : List Str) (f g : Sf) (m k : Nat) : Bool := (rowsTo ns k).all fun r => decide (playB f (noB m) r = playB g (noB m) r)
theorem out_of_play {ns : List Str} {f g : Sf} {m : Nat} (hF : GoodT ns f m) (hG : GoodT ns g m) {L : List Str} {n : Str} (hL : ∀ x ∈ L, x ∈ ns) (hn : n ∈ ns) (h : playB f (noB m) (L.reverse ++ [n]) = playB g (noB m) (L.reverse ++ [n])) : outB f L n = outB g L n := by
  have hr : ∀ x ∈ L.reverse ++ [n], x ∈ ns := fun x hx => by
    rcases List.mem_append.mp hx with hx | hx
    · exact hL x (List.mem_reverse.mp hx)
    · rw [List.mem_singleton.mp hx]; exact hn
  rw [play_law0 hF hr, play_law0 hG hr] at h
  have e := congrArg (fun l => l[L.length]?) h
  have z : (L.reverse ++ [n]).zipIdx[L.length]? = some (n, L.length) := by
    rw [List.getElem?_zipIdx, List.getElem?_append_right (by rw [List.length_reverse]; omega), List.length_reverse, Nat.sub_self, Nat.zero_add]
    rfl
  simp only [List.getElem?_map, z, Option.map_some] at e
  have e2 := congrArg Prod.snd (Option.some.inj e)
  have tk : (L.reverse ++ [n]).take L.length = L.reverse := by
    rw [← List.length_reverse]; exact List.take_left
  simp only [lawAt, tk, List.reverse_reverse] at e2
  exact e2
theorem like_all {ns : List Str} {f g : Sf} {m : Nat} (hF : GoodT ns f m) (hG : GoodT ns g m) (h : likeB ns f g m (m + 2) = true) {r : List Str} (hr : ∀ x ∈ r, x ∈ ns) : playB f (noB m) r = playB g (noB m) r := by
  unfold likeB at h
  rw [List.all_eq_true] at h
  have short : ∀ L n, L.length ≤ m + 1 → (∀ x ∈ L, x ∈ ns) → n ∈ ns → outB f L n = outB g L n := fun L n hl hL hn => by
    refine out_of_play hF hG hL hn (of_decide_eq_true (h _ ((mem_rowsTo _ _).mpr ⟨by simp, by simp; omega, fun x hx => ?_⟩)))
    rcases List.mem_append.mp hx with hx | hx
    · exact hL x (List.mem_reverse.mp hx)
    · rw [List.mem_singleton.mp hx]; exact hn
  rw [play_law0 hF hr, play_law0 hG hr]
  refine List.map_congr_left fun p hp => ?_
  obtain ⟨n, k⟩ := p
  have hk : r[k]? = some n := List.mem_zipIdx_iff_getElem?.mp hp
  have := alike hF hG short _ (r.take k).reverse n rfl (fun x hx => hr x (List.mem_of_mem_take (List.mem_reverse.mp hx))) (hr n (List.mem_of_getElem? hk))
  exact congrArg (Prod.mk n) this
theorem play_congr {f g : Sf} : ∀ (r : List Str) (h : List Bool), (∀ n ∈ r, f n = g n) → playB f h r = playB g h r
  | [], _, _ => rfl
  | n :: r, h, e => by
    have e0 := e n (by simp)
    rw [playB, playB, e0, play_congr r _ fun x hx => e x (by simp [hx])]
theorem like_of_eq {ns ys : List Str} {f g : Sf} {m k : Nat} (hp : ∀ x, x ∈ ns → x ∈ ys) (h : eqTab ys f ys g = true) : likeB ns f g m k = true := by
  unfold likeB
  rw [List.all_eq_true]
  intro r hr
  obtain ⟨_, _, hr⟩ := (mem_rowsTo _ _).mp hr
  unfold eqTab at h
  simp only [Bool.and_eq_true, List.all_eq_true] at h
  exact decide_eq_true (play_congr r _ fun n hn => of_decide_eq_true (h.2 n (hp n (hr n hn))).2)
theorem like_alone {ns : List Str} {f g : Sf} {m : Nat} (hF : GoodT ns f m) (hG : GoodT ns g m) (h : likeB ns f g m (m + 2) = true) {a b : Str} (ha : a ∈ ns) (hb : b ∈ ns) : alone f m b = alone g m b ∧ behind f m a b = behind g m a b := by
  have e1 := like_all hF hG h (r := [b]) (by simpa using hb)
  have e2 := like_all hF hG h (r := [a, b]) (by simp [ha, hb])
  simp only [playB, List.cons.injEq, Prod.mk.injEq, true_and, and_true] at e1 e2
  exact ⟨e1, e2.2⟩
end TB

/-! Evidences of any sequences, and their texts. -/
namespace TB
open PySem L2 DL RD PySem.Spec PyProof.Rows TL
def IsSl (s : Int) : Prop := s = 0 ∨ s = 1 ∨ s = 2
def headText (ns : List Str) : Str := Txt.join " " (("tests" : Str) :: ns)
def numText (m s : Int) : Str := Str.empty ++ "things " ++ toString m ++ " slips " ++ toString s
def evText (ns : List Str) (Z : List Rn) (m s : Int) : Str := Txt.join "\n" (headText ns :: numText m s :: Z.map fun z => runText z.1)
def ShortZ (Z : List Rn) : Prop := ∀ z ∈ Z, (runText z.1).length ≤ 100000
def FewZ (Z : List Rn) : Prop := ∀ z ∈ Z, Few z.1
def tfAreNamesG : Tf := fun rg ds Q => ∃ k ns, ds = [sq k (ns.map .str)] ∧ GoodN ns ∧ Q (.bl true)
def tfIsRunOfG (CR : Addr) : Tf := fun rg ds Q => ∃ (z : Rn) (k : Bool) (ns : List Str), ds = [eRn CR z, sq k (ns.map .str)] ∧ z.2.length < 1000 ∧ ns.length < 60 ∧ (∀ y ∈ z.2, y ∈ ns) ∧ Q (.bl true)
def tfAreRunsOfG (CR : Addr) : Tf := fun rg ds Q => ∃ (kr : Bool) (Z : List Rn) (k : Bool) (ns : List Str), ds = [eRns CR kr Z, sq k (ns.map .str)] ∧ GoodZ Z ns ∧ ns.length < 60 ∧ Q (.bl true)
def tfWrongEG (CR : Addr) : Tf := fun rg ds Q => ∃ (k kr : Bool) (ns : List Str) (Z : List Rn) (m s : Int), ds = [sq k (ns.map .str), eRns CR kr Z, .int m, .int s] ∧ GoodN ns ∧ GoodZ Z ns ∧ (m = 1 ∨ m = 2) ∧ 0 ≤ s ∧ Q .non
def tfInitEG (CR : Addr) : Tfs := fun rg ds Q => ∃ (k kr : Bool) (ns : List Str) (Z : List Rn) (m s : Int), ds = [sq k (ns.map .str), eRns CR kr Z, .int m, .int s] ∧ GoodN ns ∧ GoodZ Z ns ∧ (m = 1 ∨ m = 2) ∧ 0 ≤ s ∧
  ∀ ys, ys.Perm ns → sortedS ys = true → Q [.tup (ys.map .str), eRns CR true Z, .int m, .int s]
def tfIsNumber : Tf := fun rg ds Q => ∃ s : Int, ds = [.str (toString s)] ∧ IsSl s ∧ Q (.bl true)
def tfReadNums : Tf := fun rg ds Q => ∃ m s : Int, ds = [.str (numText m s)] ∧ (m = 1 ∨ m = 2) ∧ IsSl s ∧ Q (.tup [.int m, .int s])
def tfReadRun (CR : Addr) : Tf := fun rg ds Q => ∃ (z : Rn) (at' : Int) (k : Bool) (ns : List Str), ds = [.str (runText z.1), .int at', sq k (ns.map .str)] ∧ Good z.1 ∧ Few z.1 ∧ AscOf z.2 (inR z.1) ∧ z.2.length < 1000 ∧ ns.length < 60 ∧ (∀ y ∈ z.2, y ∈ ns) ∧ Q (eRn CR z)
/-- an evidence that was made -/
structure GoodE (ys : List Str) (Z : List Rn) (m s : Int) : Prop where
  ns : GoodN ys
  so : sortedS ys = true
  zs : GoodZ Z ys
  om : m = 1 ∨ m = 2
  sl : 0 ≤ s
def tfReadE (CE CR : Addr) : Tf := fun rg ds Q => ∃ (ns : List Str) (Z : List Rn) (m s : Int), ds = [.raw (.ref CE), .str (evText ns Z m s)] ∧ GoodN ns ∧ GoodZ Z ns ∧ FewZ Z ∧ ShortZ Z ∧ (m = 1 ∨ m = 2) ∧ IsSl s ∧ ∀ ys, ys.Perm ns → sortedS ys = true → Q (eEv CE CR ys Z m s)
def tfStrE (CE CR : Addr) : Tf := fun rg ds Q => ∃ (ys : List Str) (Z : List Rn) (m s : Int), ds = [eEv CE CR ys Z m s] ∧ GoodE ys Z m s ∧ ShortZ Z ∧ IsSl s ∧ Q (.str (evText ys Z m s))
def tfPlusE (CE CR : Addr) : Tf := fun rg ds Q => ∃ (ys : List Str) (Z : List Rn) (m s : Int) (z : Rn), ds = [eEv CE CR ys Z m s, eRn CR z] ∧ GoodE ys (Z ++ [z]) m s ∧ Q (eEv CE CR ys (Z ++ [z]) m s)
def tfAllowE (CE CR : Addr) : Tf := fun rg ds Q => ∃ (ys : List Str) (Z : List Rn) (m s t : Int), ds = [eEv CE CR ys Z m s, .int t] ∧ GoodE ys Z m t ∧ Q (eEv CE CR ys Z m t)
def tfCheckE (CE CR : Addr) : Tf := fun rg ds Q => ∃ (ys : List Str) (Z : List Rn) (m s : Int) (i : Nat), ds = [eEv CE CR ys Z m s, .int (i : Nat)] ∧ i < Z.length ∧ Z.length < 60 ∧ Q .non
def tfWithoutE (CE CR : Addr) : Tf := fun rg ds Q => ∃ (ys : List Str) (Z : List Rn) (m s : Int) (i : Nat), ds = [eEv CE CR ys Z m s, .int (i : Nat)] ∧ i < Z.length ∧ GoodE ys Z m s ∧ Q (eEv CE CR ys (Z.take i ++ Z.drop (i + 1)) m s)
def tfAddE (CE CR : Addr) : Tf := fun rg ds Q => ∃ (ys : List Str) (Z Z2 : List Rn) (m s : Int), ds = [eEv CE CR ys Z m s, eEv CE CR ys Z2 m s] ∧ GoodE ys (Z ++ Z2) m s ∧ Q (eEv CE CR ys (Z ++ Z2) m s)
def tfEqE (CE CR : Addr) : Tf := fun rg ds Q => ∃ (ys : List Str) (Z : List Rn) (m s : Int), ds = [eEv CE CR ys Z m s, eEv CE CR ys Z m s] ∧ Q (.bl true)
def tfLenE (CE CR : Addr) : Tf := fun rg ds Q => ∃ (ys : List Str) (Z : List Rn) (m s : Int), ds = [eEv CE CR ys Z m s] ∧ Z.length < 60 ∧ Q (.int (Z.length : Nat))
def tfItemE (CE CR : Addr) : Tf := fun rg ds Q => ∃ (ys : List Str) (Z : List Rn) (m s : Int) (i : Nat) (z : Rn), ds = [eEv CE CR ys Z m s, .int (i : Nat)] ∧ Z.length < 60 ∧ Z[i]? = some z ∧ Q (eRn CR z)
/-! the texts -/
theorem num_split : ∀ {m s : Int}, (m = 1 ∨ m = 2) → IsSl s → Txt.split (numText m s) " " = [("things" : Str), Str.ofString (toString m), ("slips" : Str), Str.ofString (toString s)] := by
  rintro m s (rfl | rfl) (rfl | rfl | rfl) <;> decide +kernel
theorem num_nl : ∀ {m s : Int}, (m = 1 ∨ m = 2) → IsSl s → (10 : Nat) ∉ tl (numText m s) ∧ (numText m s).length ≤ 20 := by
  rintro m s (rfl | rfl) (rfl | rfl | rfl) <;> decide +kernel
end TB

/-! An item of a list of one's own is exchanged. -/
namespace DL
open PySem L2 PySem.Spec PyProof.Rows
section
variable {X : Cx} {K : PySem.W.Frag} {rg : Rg} {e1 e2 o : Expr} {t1 t2 : TE} {x y : TD} {pos pos' : Pos} {i : Nat}
def sSetAt (i : Nat) (x y : TD) : TDS := fun Dd env => match env[i]? with
  | some (some (.own p ds)) => y env fun d => x env fun z => (match z with | .int k => 0 ≤ k ∧ k < ds.length ∧ Dd.nx (env.set i (some (.own p (ds.set k.toNat d)))) | _ => False)
  | _ => False
theorem ds_setAtO (ho : PE X o (tVar i)) (h1 : DP X K rg e1 t1 x) (h2 : DP X K rg e2 t2 y) (hs : swapsWithSole [.Subscript o e1 pos'] e2 pos.line X.env = pure false := by rfl) (hw : swappedStores [.Subscript o e1 pos'] e2 X.env = pure none := by rfl)
    (h1' : (assignEach [.Subscript o e1 pos'] X.env).map (·.2) = [assign (.Subscript o e1 pos') X.env] := by rfl)
    (ha : ∀ v, assign (.Subscript o e1 pos') X.env v = (do
      let ov ← holding [v] (eval o X.env)
      let iv ← holding [v, ov] (eval e1 X.env)
      standAt pos'
      holding [v, ov, iv] (setItem ov iv v)
      release [v, ov, iv] []) := by intro _; rfl) :
    DS X K rg (.Assign [.Subscript o e1 pos'] e2 pos) (tAsg t2 (gSub (tVar i) t1 rSetL)) (sSetAt i x y) := by
  cases h1.kx
  refine ⟨rfl, ps_asg h2.pe (pg_sub ho h1.pe set_list ha) hs hw h1', fun c hc pn H0 env σ H Dd De S q n r ro bk ct => ?_⟩
  unfold sSetAt at q
  split at q
  · rename_i p ds hi
    obtain ⟨hv, _⟩ := S.ownAt hi
    refine h2.rf c hc pn H0 env σ H _ _ S q fun d v H1 q1 k1 j1 r1 => ?_
    have S1 : Sd X.K c pn H0 env σ H1 := by subst hc; exact S.grow k1 j1
    refine ⟨_, hv, ?_⟩
    refine h1.rf c hc pn H0 env σ H1 _ _ S1 q1 fun kd z H3 q3 k3 j3 r3 => ?_
    have S3 : Sd X.K c pn H0 env σ H3 := by subst hc; exact S1.grow k3 j3
    cases kd with
    | int k =>
      cases r3
      obtain ⟨k0, k1', q3⟩ := q3
      obtain ⟨_, vs, hp, ra⟩ := S3.ownAt hi
      have lv := RpAll.length ra
      have rv3 : Rp X.K (Mof c env) H3 v d := by subst hc; exact Rp.keep (Keep.mono k3 fun a z => Mof.of_R S.ok z) r1
      exact ⟨p, vs, k, k.toNat, rfl, rfl, hp, ixN_get k0 (by rw [lv]; exact k1'), n _ _ _ q3 (S3.updO hi (RpAll.set rv3 k.toNat ra))⟩
    | _ => exact q3.elim
  · exact q.elim
end
end DL

/-! A law's outer loop: over the bases. -/
namespace DL
open PySem L2
theorem law_start {d0 : D} {ns : List Int} (h : d0 = .scr ns ∨ d0 = .lst (ns.map .int)) {sg : SG} {tb u : TDS} {Dd : DEnds} {env : En} (he : env[0]? = some (some (.dat d0))) (I : En → Prop) (i0 : I env)
    (step : ∀ (b : Int) (env' : En), 0 ≤ b → b < 3 → I env' → sg (.int b) env' fun env2 => tb { nx := I, rt := Dd.rt, ro := Dd.ro, ct := I, bk := u Dd } env2) (fin : ∀ env', I env' → u Dd env') :
    sSeqS (sFor (sRng1 (sCons (sCall fMax2 (sCons (sC (.int 1)) (sCons (sCall fMin2 (sCons (sC (.int 3)) (sCons (sCall fLen (sCons (sVar 0) sNil)) sNil))) sNil))) sNil)) sg tb) u Dd env := by
  have mm : ∀ l : Nat, 1 ≤ (if (if (l : Int) < 3 then (l : Int) else 3) > 1 then (if (l : Int) < 3 then (l : Int) else 3) else 1) ∧ (if (if (l : Int) < 3 then (l : Int) else 3) > 1 then (if (l : Int) < 3 then (l : Int) else 3) else 1) ≤ 3 := fun l => by
    split <;> split <;> omega
  have hl : ∀ Q : D → Prop, (∀ l : Nat, Q (.int l)) → sCall fLen (sCons (sVar 0) sNil) env Q := fun Q hQ => by
    unfold sCall sCons sVar sNil
    rw [he]
    rcases h with rfl | rfl
    · exact hQ _
    · exact hQ _
  show sCall fLen (sCons (sVar 0) sNil) env _
  refine hl _ fun l => ?_
  refine ⟨Int.le_trans (by decide) (mm l).1, Int.lt_of_le_of_lt (mm l).2 (by decide), ?_⟩
  refine ⟨fun _ => I, i0, fun i x env' hx hI => ?_, fun env' hI => fin env' hI⟩
  obtain ⟨hlt, e⟩ := List.getElem?_eq_some_iff.mp hx
  rw [intsD_length] at hlt
  have e2 : x = .int (i : Nat) := by rw [← e]; simp [intsD]
  subst e2
  exact step _ env' (by omega) (by have := (mm l).2; omega) hI
end DL

/-! is, is not of truth values. -/
namespace DL
open PySem L2 PySem.Spec PyProof.Rows
def fIsB (neg : Bool) : F2 := fun d e Q => match d, e with | .bl a, .bl b => Q (.bl (if neg then !decide (a = b) else decide (a = b))) | _, _ => False
theorem opd_isB {K : PySem.W.Frag} : OpD K rIsB (fIsB false) := by
  intro M0 M H v w d e Qd Q hM r1 r2 hf k
  unfold fIsB at hf
  split at hf
  · rw [r1.bl, r2.bl]
    exact ⟨_, _, rfl, rfl, k _ _ H hf (Same.refl H) (.bl _)⟩
  · exact hf.elim
theorem opd_notB {K : PySem.W.Frag} : OpD K rNotB (fIsB true) := by
  intro M0 M H v w d e Qd Q hM r1 r2 hf k
  unfold fIsB at hf
  split at hf
  · rw [r1.bl, r2.bl]
    exact ⟨_, _, rfl, rfl, k _ _ H hf (Same.refl H) (.bl _)⟩
  · exact hf.elim
end DL

/-! What the data of laws ask again and again. -/
namespace TB
open PySem L2 DL RD PySem.Spec PyProof.Rows
theorem okS_fr {x : Option Sl} (h : FreeS x) : okS x = true := by rcases h with rfl | ⟨y, rfl⟩ <;> rfl
theorem own_hid {env : En} {i : Nat} {x : Option Sl} (h : env[i]? = some x) (f : FreeS x) : ownFree (hideE env) [i] = true := by
  have e : (hideE env)[i]? = some (hideS x) := by unfold hideE; rw [List.getElem?_map, h]; rfl
  unfold ownFree
  simp only [List.all_cons, List.all_nil, Bool.and_true]
  rw [e]
  rcases f with rfl | ⟨y, rfl⟩
  · rfl
  · cases hn : noD y <;> simp [hideS, hn]
theorem own_fr {env : En} {i : Nat} {x : Option Sl} (h : env[i]? = some x) (f : FreeS x) : ownFree env [i] = true := by
  unfold ownFree
  simp only [List.all_cons, List.all_nil, Bool.and_true]
  rw [h]
  rcases f with rfl | ⟨y, rfl⟩ <;> rfl
mutual
theorem eqv_self : ∀ d : D, PyData.eqv (toPy d) (toPy d) = true
  | .non => rfl
  | .bl b => by cases b <;> rfl
  | .int i => by simp [toPy, PyData.eqv]
  | .str x => by simp [toPy, PyData.eqv]
  | .lst ds => by simp only [toPy, PyData.eqv]; exact eqvs_self ds
  | .tup ds => by simp only [toPy, PyData.eqv]; exact eqvs_self ds
  | .obj _ _ _ => rfl
  | .dct _ _ => rfl
  | .raw _ => rfl
  | .scr _ => rfl
theorem eqvs_self : ∀ ds : List D, PyData.eqvAll (toPys ds) (toPys ds) = true
  | [] => rfl
  | d :: ds => by simp only [toPys, PyData.eqvAll, eqv_self d, eqvs_self ds, Bool.and_self]
end
theorem deq_self (d : D) : deq d d = true := eqv_self d
def kB (Q : Bool → Prop) : D → Prop := fun d => match d with | .bl k => Q k | _ => False
theorem ne_self {d e : D} {Q : Bool → Prop} (h : d = e) (hp : isPl d = true) (hd : (toPy d).depth ≤ 60) (hQ : Q false) : fEq true d e (kB Q) := by
  subst h
  refine ⟨hp, hp, Nat.le_trans (Nat.min_le_right _ _) hd, ?_⟩
  show Q (!deq d d)
  rw [deq_self]; exact hQ
theorem ifs_no {b : TB} {t : TDS} {Dd : DEnds} {env : En} (hb : ∀ Q : Bool → Prop, Q false → b env Q) (h : Dd.nx env) : sIfS b t sNext Dd env := hb _ h
theorem seq_no {b : TB} {t u : TDS} {Dd : DEnds} {env : En} (hb : ∀ Q : Bool → Prop, Q false → b env Q) (h : u Dd env) : sSeqS (sIfS b t sNext) u Dd env := hb _ h
theorem rep_sg (m : Nat) (s : Sg) : (List.replicate ((m : Nat) : Int).toNat [eSg s]).flatten = (List.replicate m s).map eSg := by
  rw [Int.toNat_natCast]
  induction m with
  | zero => rfl
  | succ m ih => rw [List.replicate_succ, List.flatten_cons, ih, List.replicate_succ, List.map_cons]; rfl
theorem seq_two {α : Type} {b : TB} {t v : TDS} {Dd : DEnds} {env : En} (P : Prop) (E : α → En) (ok : α → Prop) (a0 : α) (he : env = E a0) (k0 : ok a0) (hb : ∀ Q : Bool → Prop, (P → Q true) → Q false → b env Q)
    (ht : ∀ N : En → Prop, P → (∀ a, ok a → N (E a)) → t { nx := N, rt := Dd.rt, ro := Dd.ro, bk := Dd.bk, ct := Dd.ct } env) (rest : ∀ a, ok a → v Dd (E a)) : sSeqS (sIfS b t sNext) v Dd env :=
  hb _ (fun p => ht (v Dd) p rest) (by
    have := rest a0 k0
    rw [← he] at this
    exact this)
theorem perm_uniq {ns xs ys : List Str} (nd : ns.Nodup) (p1 : xs.Perm ns) (p2 : ys.Perm ns) (s1 : sortedS xs = true) (s2 : sortedS ys = true) : xs = ys :=
  asc_unique xs ys (p1.nodup_iff.mpr nd) (p2.nodup_iff.mpr nd) s1 s2 fun z => p1.mem_iff.trans p2.mem_iff.symm
theorem putk_map {ns : List Str} {n : Str} (h : n ∈ ns) : putDk (ns.map .inr) (.inr n) = ns.map .inr := by
  have : hasK (ns.map Sum.inr) (.inr n : Key) = true := hasK_iff.mpr (List.mem_map.mpr ⟨n, h, rfl⟩)
  unfold putDk
  rw [if_pos this]
theorem zipW_map {n : Str} {d : D} (g : Str → D) : ∀ ns : List Str, List.zipWith (fun (z : Key) x => if z = .inr n then d else x) (ns.map .inr) (ns.map g) = ns.map fun x => if x = n then d else g x
  | [] => rfl
  | x :: ns => by
    rw [List.map_cons, List.map_cons, List.zipWith_cons_cons, zipW_map g ns, List.map_cons]
    congr 1
    by_cases e : x = n
    · subst e; simp
    · rw [if_neg e, if_neg (fun z => e (Sum.inr.inj z))]
theorem putv_map {ns : List Str} {n : Str} {d : D} {g : Str → D} (h : n ∈ ns) : putDv (ns.map .inr) (ns.map g) (.inr n) d = ns.map fun x => if x = n then d else g x := by
  have : hasK (ns.map Sum.inr) (.inr n : Key) = true := hasK_iff.mpr (List.mem_map.mpr ⟨n, h, rfl⟩)
  unfold putDv
  rw [if_pos this, zipW_map]
theorem nodup01 {ws : List Str} {a b : Str} (nd : ws.Nodup) (e0 : ws[0]? = some a) (e1 : ws[1]? = some b) : a ≠ b := by
  cases ws with
  | nil => simp at e0
  | cons x ws =>
    cases ws with
    | nil => simp at e1
    | cons y ws =>
      simp only [List.getElem?_cons_zero, List.getElem?_cons_succ, Option.some.injEq] at e0 e1
      subst e0; subst e1
      rw [List.nodup_cons] at nd
      exact fun z => nd.1 (by simp [z])
theorem cutToR {α : Type} {enc : α → D} {xs : List α} {c : Nat} : DL.cutD (xs.map enc) none (some (c : Int)) = (xs.take c).map enc := by rw [cut_to, List.map_take]
theorem cutFrR {α : Type} {enc : α → D} {xs : List α} {c : Nat} : DL.cutD (xs.map enc) (some (c : Int)) none = (xs.drop c).map enc := by rw [cut_from, List.map_drop]
theorem cutFrR1 {α : Type} {enc : α → D} {xs : List α} {c : Nat} : DL.cutD (xs.map enc) (some ((c : Int) + 1)) none = (xs.drop (c + 1)).map enc := by
  have := cutFrR (enc := enc) (xs := xs) (c := c + 1)
  rw [← this]; rfl
theorem intsD_get {n : Nat} {i : Nat} {x : D} (h : (intsD 0 n)[i]? = some x) : ∃ b : Int, x = .int b ∧ 0 ≤ b ∧ b < n := by
  obtain ⟨hlt, e⟩ := List.getElem?_eq_some_iff.mp h
  rw [intsD_length] at hlt
  refine ⟨(i : Nat), ?_, by omega, by omega⟩
  rw [← e]
  simp [intsD]
theorem map_get {α : Type} {enc : α → D} {xs : List α} {i : Nat} {x : D} (h : (xs.map enc)[i]? = some x) : ∃ y ∈ xs, x = enc y := by
  obtain ⟨y, hy, e⟩ := List.mem_map.mp (List.mem_of_getElem? h)
  exact ⟨y, hy, e.symm⟩
theorem law_startN {q : Int} (q1 : 1 ≤ q) (q2 : q < 1000) {d0 : D} {ns : List Int} (h : d0 = .scr ns ∨ d0 = .lst (ns.map .int)) {sg : SG} {tb u : TDS} {Dd : DEnds} {env : En} (he : env[0]? = some (some (.dat d0))) (I : En → Prop) (i0 : I env)
    (step : ∀ (b : Int) (env' : En), 0 ≤ b → b < q → I env' → sg (.int b) env' fun env2 => tb { nx := I, rt := Dd.rt, ro := Dd.ro, ct := I, bk := u Dd } env2) (fin : ∀ env', I env' → u Dd env') :
    sSeqS (sFor (sRng1 (sCons (sCall fMax2 (sCons (sC (.int 1)) (sCons (sCall fMin2 (sCons (sC (.int q)) (sCons (sCall fLen (sCons (sVar 0) sNil)) sNil))) sNil))) sNil)) sg tb) u Dd env := by
  have mm : ∀ l : Nat, 1 ≤ (if (if (l : Int) < q then (l : Int) else q) > 1 then (if (l : Int) < q then (l : Int) else q) else 1) ∧ (if (if (l : Int) < q then (l : Int) else q) > 1 then (if (l : Int) < q then (l : Int) else q) else 1) ≤ q := fun l => by
    split <;> split <;> omega
  have hl : ∀ Q : D → Prop, (∀ l : Nat, Q (.int l)) → sCall fLen (sCons (sVar 0) sNil) env Q := fun Q hQ => by
    unfold sCall sCons sVar sNil
    rw [he]
    rcases h with rfl | rfl
    · exact hQ _
    · exact hQ _
  show sCall fLen (sCons (sVar 0) sNil) env _
  refine hl _ fun l => ?_
  refine ⟨Int.le_trans (by decide) (mm l).1, Int.lt_of_le_of_lt (mm l).2 (by omega), ?_⟩
  refine ⟨fun _ => I, i0, fun i x env' hx hI => ?_, fun env' hI => fin env' hI⟩
  obtain ⟨hlt, e⟩ := List.getElem?_eq_some_iff.mp hx
  rw [intsD_length] at hlt
  have e2 : x = .int (i : Nat) := by rw [← e]; simp [intsD]
  subst e2
  exact step _ env' (by omega) (by have := (mm l).2; omega) hI
end TB

/-! x.partition(text). -/
namespace DL
open PySem L2 PySem.Spec PyProof.Rows
section
variable {X : Cx} {K : PySem.W.Frag} {rg : Rg} {o e : Expr} {to te : TE} {x y : TD} {apos cpos : Pos}
def sPart (x y : TD) : TD := fun env Q => x env fun d => match d with | .str a => y env fun e => (match e with | .str b => (b.length == 0) = false ∧ a.length ≤ sizeLine ∧ Q (.tup [.str (Txt.partition a b).1, .str (Txt.partition a b).2.1, .str (Txt.partition a b).2.2]) | _ => False) | _ => False
theorem rf_part (h : Rf K rg to x) (h2 : Rf K rg te y) : Rf K rg (tBM K "str" (fun x xs H Q => ∃ a b, x = .str a ∧ xs = [.str b] ∧ (b.length == 0) = false ∧ a.length ≤ sizeLine ∧
    ∀ p, H p = none → Q (.ref p) (upd H p (.tup [.str (Txt.partition a b).1, .str (Txt.partition a b).2.1, .str (Txt.partition a b).2.2]))) to (tCons te tNil)) (sPart x y) := fun c hc pn H0 env σ H Qd Q S ht k => by
  refine h c hc pn H0 env σ H _ _ S ht fun d v H1 q1 k1 j1 r1 => ?_
  subst hc
  cases d with
  | str a =>
    cases r1
    have S1 := S.grow k1 j1
    refine ⟨rfl, h2 c rfl pn H0 env σ H1 _ _ S1 q1 fun e w H2 q2 k2 j2 r2 => ?_⟩
    cases e with
    | str b =>
      cases r2
      obtain ⟨q3, q4, q5⟩ := q2
      have S2 := S1.grow k2 j2
      refine ⟨a, b, rfl, rfl, q3, q4, fun p hp => ?_⟩
      exact k _ _ _ q5 (fresh_keep (k1.trans k2) hp) (fresh_j S.ok j2 hp) (.tup (fun z => S2.domM p z hp) upd_same (.cons (.str _) (.cons (.str _) (.cons (.str _) .nil))))
    | _ => exact q2.elim
  | _ => exact q1.elim
theorem d_part (ho : DP X K rg o to x) (he : DP X K rg e te y)
    (hbase : attributeBase o "partition" X.env (eval o X.env) = eval o X.env := by rfl)
    (hfew : ((backTo cpos (starEach [e] X.env)).all (fun x => !x.1) && (backToKw cpos (keywordEach [] X.env)).all (fun x => x.1.isSome) && decide ([e].length + ([] : List Keyword).length + (if ([] : List Keyword).isEmpty then 0 else 1) < 30)) = true := by rfl)
    (hline : (apos.endLine == cpos.line) = true := by rfl) (hs : starEach [e] X.env = (false, eval e X.env) :: starEach [] X.env := by rfl) (hplain : (backTo cpos (starEach [] X.env)).any (·.1) = false := by rfl) :
    DP X K rg (.Call (.Attribute o "partition" apos) [e] [] cpos) (tBM K "str" (fun x xs H Q => ∃ a b, x = .str a ∧ xs = [.str b] ∧ (b.length == 0) = false ∧ a.length ≤ sizeLine ∧
      ∀ p, H p = none → Q (.ref p) (upd H p (.tup [.str (Txt.partition a b).1, .str (Txt.partition a b).2.1, .str (Txt.partition a b).2.2]))) to (tCons te tNil)) (sPart x y) := by
  cases ho.kx
  exact ⟨rfl, pe_bm PySem.F.plainAttrs_str PySem.F.slot_str_partition PySem.F.type_str_partition mt_partition ho.pe (pa_cons he.pe pa_nil hs) hbase hfew hline hs hplain, rf_part ho.rf he.rf⟩
end
end DL

/-! {**d, k: v}: the machine's merge of a dict into a new one. -/
namespace OMG
open PySem
section
variable {prog : Program} {w : World} {K : Type} [DecidableEq K] {knd : KeyKind prog w K} {A : Around} {E : Value → Shared → Prop} {s : Shared}
theorem wpAny_dictPut_pairs {d : Addr} {kvs : List (K × Value)} {k : K} {key v : Value} {Q : Unit → Shared → Prop} (hkey : knd.is k key = true) (hm : s.heap.DictOf knd d kvs)
    (hQ : ∀ h', h'.DictOf knd d (stored kvs k v) → Heap.SameBut d s.heap h' → Q () { s with heap := h' })
    (hsz : kvs.length ≤ sizeLine) :
    wpAny (model prog w) A (dictPut d (knd.hash k) key v) Q E s := by
  obtain ⟨o, es, ep, ho, hc, hd, hk, hp, hn⟩ := hm
  have hes : es.size ≤ sizeLine := by have e1 := hp.length; have e2 : es.toList.length = es.size := by simp
                                      omega
  unfold dictPut
  refine wpAny_bind (wpAny_dictFind_of hkey ho hd hk ?_)
  have hidx : (es.findIdx? fun e => knd.is k e.key) = kvs.findIdx? fun kv => decide (kv.1 = k) := by
    rw [← hp.findIdx k]; obtain ⟨l⟩ := es; simp
  cases hi : es.findIdx? fun e => knd.is k e.key with
  | some i =>
    refine wpAny_updateDict ho hd (hQ _ ⟨_, _, ep, Heap.get?_update_self _ ho (Obj.isFreed_of_dict (Obj.data_mapDict hd _)),
      hc.mapDict _, Obj.data_mapDict hd _, hk.modify _ _, ?_, ?_⟩ (Heap.SameBut.update ..))
    · rw [stored, if_pos (any_of_findIdx_some (hidx ▸ hi))]
      have hl : (es.toList.findIdx? fun e => knd.is k e.key) = some i := by rw [← hi]; obtain ⟨l⟩ := es; simp
      have := hp.modify hn hl v
      obtain ⟨l⟩ := es
      simpa using this
    · rw [stored, if_pos (any_of_findIdx_some (hidx ▸ hi)), keys_map_store]; exact hn
  | none =>
    have hnot : k ∉ kvs.map (·.1) := not_mem_of_findIdx_none (hidx ▸ hi)
    have hany : ¬ (kvs.any fun kv => decide (kv.1 = k)) = true := by
      rw [List.any_eq_true]; rintro ⟨kv, hkv, he⟩
      exact hnot (List.mem_map.mpr ⟨kv, hkv, of_decide_eq_true he⟩)
    refine wpAny_updateDictKeys (hz := hes) ho hd (hQ _ ⟨_, _, ep + 1, Heap.get?_update_self _ ho (Obj.isFreed_of_dict (Obj.data_mapDictKeys hd _)),
      hc.mapDictKeys _, Obj.data_mapDictKeys hd _, hk.push hkey _, ?_, ?_⟩ (Heap.SameBut.update ..))
    · rw [stored, if_neg hany]
      have := hp.append hkey (knd.hash k) v
      obtain ⟨l⟩ := es
      simpa using this
    · rw [stored, if_neg hany, List.map_append, List.nodup_append]
      refine ⟨hn, by simp, ?_⟩
      intro a ha b hb
      simp only [List.map_cons, List.map_nil, List.mem_singleton] at hb
      subst hb
      exact fun e => hnot (e ▸ ha)
theorem wpAny_mergeMapping {d o : Addr} {kvs more : List (K × Value)} {Q : Unit → Shared → Prop} (hdo : d ≠ o) (hoS : (o == sysModules) = false)
    (hd : s.heap.DictOf knd d kvs) (ho : s.heap.DictOf knd o more)
    (hQ : ∀ h', h'.DictOf knd d (merged kvs more) → h'.DictOf knd o more → Heap.SameBut d s.heap h' → Q () { s with heap := h' })
    (hsz : kvs.length + more.length ≤ sizeLine) :
    wpAny (model prog w) A (mergeMapping d (.ref o) false) Q E s := by
  obtain ⟨od, esd, epd, hod, hcd, hdd, hkd, hpd, hnd⟩ := id hd
  obtain ⟨oo, eso, epo, hoo, hco, hdo', hko, hpo, hno⟩ := id ho
  have hlen : more.length = eso.size := by rw [← hpo.length]; simp
  have loop : wpAny (model prog w) A (do
      let l ← dictEntries o
      let epoch ← dictEpoch o
      forIn (List.range l.size) PUnit.unit fun i (_ : PUnit) => (do
          let l' ← dictEntries o
          match l'[i]? with
            | some e => do
              holding [e.key, e.val] (dictPut d e.hash e.key e.val)
              let ep' ← dictEpoch o
              if (ep' != epoch) = true then do
                  (unsupported "dict.changed-during-merge" : Sem PUnit)
                  pure (ForInStep.yield PUnit.unit)
                else pure (ForInStep.yield PUnit.unit)
            | _ => do
              (unsupported "dict.changed-during-merge" : Sem PUnit)
              pure (ForInStep.yield PUnit.unit) : Sem (ForInStep PUnit))
      pure ()) Q E s := by
    refine wpAny_bind (wpAny_dictEntries hoo hdo' ?_)
    refine wpAny_bind (wpAny_dictEpoch hoo hdo' ?_)
    refine wpAny_bind ?_
    rw [List.range_eq_range']
    refine wpAny_forIn_list _
      (fun rest _ s' => ∃ h' i, s' = { s with heap := h' } ∧ rest = List.range' i (eso.size - i) ∧ i ≤ eso.size ∧ h'.DictOf knd d (merged kvs (more.take i)) ∧ h'.get? o = some oo ∧ Heap.SameBut d s.heap h')
      _ ?_ ?_ _ _ ⟨s.heap, 0, rfl, by simp, Nat.zero_le _, by simpa [merged] using hd, hoo, Heap.SameBut.refl _ _⟩
    · rintro x rest b s' ⟨h', i, rfl, hr, hi, hd', hoo', hs'⟩
      have hlt : i < eso.size := by
        rcases Nat.lt_or_ge i eso.size with h | h
        · exact h
        · rw [Nat.sub_eq_zero_of_le h] at hr; simp at hr
      obtain ⟨rfl, hrest⟩ : x = i ∧ rest = List.range' (i + 1) (eso.size - (i + 1)) := by
        have e : eso.size - i = (eso.size - (i + 1)) + 1 := by omega
        rw [e, List.range'_succ] at hr
        injection hr with h1 h2
        exact ⟨h1, h2⟩
      refine wpAny_bind (wpAny_dictEntries hoo' hdo' ?_)
      rw [Array.getElem?_eq_getElem hlt]
      obtain ⟨kv, hkv⟩ : ∃ kv, more[x]? = some kv := ⟨more[x]'(by rw [hlen]; exact hlt), List.getElem?_eq_getElem _⟩
      obtain ⟨k, v⟩ := kv
      obtain ⟨hkey, hval⟩ := hpo.get? (e := eso[x]) (by simp [hlt]) hkv
      obtain ⟨k', hkey', hhash⟩ := hko eso[x] (Array.getElem_mem hlt)
      obtain rfl : k' = k := knd.inj _ _ _ hkey' hkey
      show wpAny _ _ (holding [eso[x].key, eso[x].val] (dictPut d eso[x].hash eso[x].key eso[x].val) >>= _) _ _ _
      rw [hhash, hval]
      have hmx : (merged kvs (more.take x)).length ≤ sizeLine := by
        have e1 := merged_length_le kvs (more.take x)
        have e2 : (more.take x).length ≤ more.length := by rw [List.length_take]; omega
        omega
      refine wpAny_bind (wpAny_holding (wpAny_dictPut_pairs (hsz := hmx) hkey hd' fun h'' hd'' hs'' => ?_))
      have hoo'' : h''.get? o = some oo := (hs''.2 o (Ne.symm hdo)).trans hoo'
      refine wpAny_bind (wpAny_dictEpoch hoo'' hdo' ?_)
      rw [if_neg (by simp)]
      exact wpAny_pure ⟨h'', x + 1, rfl, hrest, hlt, by rw [merged_take_succ kvs more x (k', v) hkv]; exact hd'', hoo'', hs'.trans hs''⟩
    · rintro b s' ⟨h', i, rfl, hr, hi, hd', hoo', hs'⟩
      have hin : i = eso.size := by
        rcases Nat.lt_or_ge i eso.size with h | h
        · have e : eso.size - i = (eso.size - (i + 1)) + 1 := by omega
          rw [e, List.range'_succ] at hr; exact nomatch hr
        · exact Nat.le_antisymm hi h
      refine wpAny_pure (hQ h' ?_ ⟨oo, eso, epo, hoo', hco, hdo', hko, hpo, hno⟩ hs')
      rw [hin, ← hlen, List.take_length] at hd'; exact hd'
  unfold mergeMapping
  refine wpAny_bind (wpAny_isInstance ho.typeIs isSubtype_dict_dict ?_)
  simp only [if_true]
  refine wpAny_bind (wpAny_specialOf ho.typeIs F.slot_dict_iter.lookup ?_)
  simp only [beq_self_eq_true]
  refine wpAny_bind (wpAny_pure ?_)
  dsimp only
  rw [if_neg (by rw [hoS]; exact Bool.false_ne_true)]
  refine wpAny_bind (wpAny_dictEntries hod hdd ?_)
  split
  · refine wpAny_bind (wpAny_dictEntries hoo hdo' ?_)
    refine wpAny_bind (wpAny_of_eq (a := PUnit.unit) ?_ ?_)
    · rw [← Array.forIn_toList]
      refine forIn_yield_id _ fun e he c => ?_
      obtain ⟨k, hkey, _⟩ := hko e (Array.mem_toList_iff.mp he)
      have hv := knd.byValue k _ hkey
      split
      · rename_i z hz
        rw [hz] at hv
        exact absurd hv (by simp [carriedByValue])
      · rfl
    · exact loop
  · exact loop
end
end OMG

namespace L2
open PySem PySem.Spec PyProof.Rows OMG
def tStar1 (tm tk tv : TE) : TE := fun σ H Q => ∀ d, H d = none → tm σ (upd H d (.dK [])) fun mv H1 => ∃ a kvs, mv = .ref a ∧ H1 a = some (.dK kvs) ∧ H1 d = some (.dK []) ∧ d ≠ a ∧ kvs.length < sizeLine ∧
  ∀ e, upd H1 d (.dK kvs) e = none → tk σ (upd (upd H1 d (.dK kvs)) e (.dK [])) fun x H3 => tv σ H3 fun y H4 => ∃ key, x = kV key ∧ H4 e = some (.dK []) ∧ H4 d = some (.dK kvs) ∧ d ≠ e ∧
    Q (.ref d) (upd (upd H4 e (.dK [(key, y)])) d (.dK (putK kvs key y)))
theorem pe_star1 {X : Cx} {m k v : Expr} {tm tk tv : TE} {pos : Pos} (hm : PE X m tm) (hk : PE X k tk) (hv : PE X v tv) : PE X (.Dict [none, some k] [m, v] pos) (tStar1 tm tk tv) := by
  refine ⟨fun pins s σ H Q I h => ?_⟩
  have hn := I.hok.fresh (Nat.le_refl s.heap.objs.size)
  have I1 := I.laid (a := s.heap.objs.size) (o := .dK []) (h' := s.heap.push { cls := .type "dict", data := .dict #[] }) (t' := s.toks) (fun _ _ q => Heap.get?_push_of_some _ q) (Nat.le_refl _) (dk_empty s.heap I.big)
  have h := h _ hn
  rw [arm_eval_Dict]
  refine wpAny_bind (wpAny_standAt ?_)
  show wpAny _ _ (dictDisplay [(none, (do let x ← eval m X.env; standAt pos; pure x)), (some (eval k X.env), (do let x ← eval v X.env; standAt pos; pure x))]) _ _ _
  unfold dictDisplay
  dsimp only
  rw [List.forIn_cons]
  simp only [List.isEmpty_nil, if_true]
  refine wpAny_bind ?_
  refine wpAny_bind ?_
  refine wpAny_bind (wpAny_pure ?_)
  dsimp only
  refine wpAny_bind (wpAny_alloc ?_)
  refine wpAny_bind (wpAny_holding (wpAny_bind (thn (hm.run pins _ σ _ _ I1 h) fun mv s2 ⟨x, H1, I2, rx, a, kvs, ex, ha, hd, hne, hsz, q⟩ => ?_)))
  subst ex
  obtain rfl : mv = Value.ref a := rx
  refine wpAny_bind (wpAny_standAt (wpAny_pure ?_))
  obtain ⟨_, na, va, kva, da⟩ := dk_of I2.hok ha
  obtain ⟨_, nd, vd, kvd, dd⟩ := dk_of I2.hok hd
  cases kvd
  have ndv : (va.map (·.1)).Nodup := by obtain ⟨o, es, ep, _, _, _, _, _, hn⟩ := da; exact hn
  have lva : va.length = kvs.length := (KV.length kva).symm
  refine wpAny_bind (wpAny_onRaise (wpAny_tryCatch (wpAny_onRaise (wpAny_holding (wpAny_mergeMapping (knd := mixKind X.prog X.w) hne na dd da (fun h' hd' ho' hs' => ?_) (by rw [List.length_nil]; omega))))))
  rw [merged_nil_of_nodup va ndv] at hd'
  have hz : kvs.length ≤ sizeLine := by omega
  have I3 := d_write (t' := s2.toks) (ob := .dK kvs) I2 (by rw [hd]; exact True.intro) hs' (let ⟨q, _, _, hq, _⟩ := hd'; ⟨q, hq⟩) (dk_new hz nd kva hd')
  refine wpAny_pure ?_
  dsimp only
  rw [List.forIn_cons]
  dsimp only
  refine wpAny_bind ?_
  show wpAny _ _ (pure (ForInStep.yield (some s.heap.objs.size, [(eval k X.env, (do let x ← eval v X.env; standAt pos; pure x))]))) _ _ _
  refine wpAny_pure ?_
  dsimp only
  rw [List.forIn_nil]
  refine wpAny_pure ?_
  dsimp only [List.isEmpty_cons]
  simp only [Bool.false_eq_true, if_false]
  have hn2 := I3.hok.fresh (Nat.le_refl h'.objs.size)
  have I4 := I3.laid (a := h'.objs.size) (o := .dK []) (h' := h'.push { cls := .type "dict", data := .dict #[] }) (t' := s2.toks) (fun _ _ q => Heap.get?_push_of_some _ q) (Nat.le_refl _) (dk_empty h' I3.big)
  refine wpAny_bind (wpAny_bind (wpAny_holding (wpAny_subDict (knd := mixKind X.prog X.w) (Nat.le_of_ble_eq_true rfl) ?_)))
  refine evalPairs_cons (thn (hk.run pins _ σ _ _ I4 (q _ hn2)) fun kv s3 ⟨x, H3, I5, rx, q3⟩ => ?_)
  refine wpAny_bind (thn (hv.run pins s3 σ H3 _ I5 q3) fun vv s4 ⟨y, H4, I6, ry, key, ex, he, hd4, hde, q4⟩ => wpAny_bind (wpAny_standAt (wpAny_pure (evalPairs_nil ?_))))
  subst ex
  obtain ⟨_, ne, ve, kve, de⟩ := dk_of I6.hok he
  cases kve
  refine ⟨[(key, vv)], ⟨kV_is rx, rfl, trivial⟩, de, fun h5 de5 hs5 => ?_⟩
  have m1 : merged [] [(key, vv)] = [(key, vv)] := merged_nil_of_nodup _ (by simp)
  rw [m1] at de5
  have I7 := d_write (t' := s4.toks + 1) (ob := .dK [(key, y)]) I6 (by rw [he]; exact True.intro) hs5 (let ⟨q, _, _, hq, _⟩ := de5; ⟨q, hq⟩) (dk_new (by show 1 ≤ sizeLine; rw [sizeLine_eq]; omega) ne (.cons ⟨rfl, ry⟩ .nil) de5)
  have hd7 : upd H4 h'.objs.size (.dK [(key, y)]) s.heap.objs.size = some (.dK kvs) := by rw [upd_ne hde]; exact hd4
  obtain ⟨_, nd7, vd7, kvd7, dd7⟩ := dk_of I7.hok hd7
  have l7 : vd7.length = kvs.length := (KV.length kvd7).symm
  refine wpAny_bind (wpAny_onRaise (wpAny_holding (wpAny_mergeMapping (knd := mixKind X.prog X.w) hde ne dd7 de5 (fun h6 hd6 ho6 hs6 => ?_) (by rw [l7]; show kvs.length + 1 ≤ sizeLine; omega))))
  have m2 : merged vd7 [(key, vv)] = stored vd7 key vv := rfl
  rw [m2] at hd6
  have hp7 := KV.put kvd7 key ry
  have lp : (putK kvs key y).length ≤ sizeLine := by
    have h1 := KV.length hp7
    have h2 := stored_length_le vd7 key vv
    omega
  have I8 := d_write (t' := s4.toks + 1) (ob := .dK (putK kvs key y)) I7 (by rw [hd7]; exact True.intro) hs6 (let ⟨q, _, _, hq, _⟩ := hd6; ⟨q, hq⟩) (dk_new lp nd7 hp7 hd6)
  exact wpAny_pure (wpAny_pure ⟨.ref s.heap.objs.size, _, I8, rfl, q4⟩)
end L2
namespace DL
open PySem L2 PySem.Spec PyProof.Rows
section
variable {X : Cx} {K : PySem.W.Frag} {rg : Rg} {m k v : Expr} {tm tk tv : TE} {xm xk xv : TD} {pos : Pos}
/-- {**m, k: v} -/
def sStar1 (m k v : TD) : TD := fun env Q => m env fun d => match d with
  | .dct ks ds => ks.length < sizeLine ∧ k env fun z => v env fun e => (match z with | .str s => Q (.dct (putDk ks (.inr s)) (putDv ks ds (.inr s) e)) | _ => False)
  | _ => False
theorem d_star1 (hm : DP X K rg m tm xm) (hk : DP X K rg k tk xk) (hv : DP X K rg v tv xv) : DP X K rg (.Dict [none, some k] [m, v] pos) (tStar1 tm tk tv) (sStar1 xm xk xv) := by
  cases hm.kx
  refine ⟨rfl, pe_star1 hm.pe hk.pe hv.pe, fun c hc pn H0 env σ H Qd Q S ht fin p hp => ?_⟩
  subst hc
  have S1 : Sd X.K (c.with p) pn H0 env σ (upd H p (.dK [])) := S.inComp hp
  have nR : ¬ c.rg.R p := fun z => S.domM p (Mof.of_R S.ok z) hp
  have nP : c.P ≠ some p := fun z => S.dom p (S.ok.pm p z).1 hp
  have H0p : H0 p = none := S.h0 hp
  refine hm.rf (c.with p) rfl pn H0 env σ _ _ _ S1 ht fun d mv H1 q1 k1 j1 r1 => ?_
  have S2 := S1.grow k1 j1
  have hp1 : H1 p = some (.dK []) := k1 p _ upd_same nR
  cases d with
  | dct ks ds =>
    obtain ⟨q0, q1⟩ := q1
    have o1 : RpO X.K (c.with p).M (Mof (c.with p) env) H1 mv (.dct ks ds) := .inl r1
    obtain ⟨a, vs, rfl, na, ha, hl, ra⟩ := o1.dct
    have pa : p ≠ a := fun z => na (mof_with.mpr (.inr z.symm))
    have lk : (ks.zip vs).length < sizeLine := by rw [List.length_zip]; have : ks.length < sizeLine := q0; omega
    refine ⟨a, ks.zip vs, rfl, ha, hp1, pa, lk, fun e he => ?_⟩
    have S3 : Sd X.K (c.with p) pn H0 env σ (upd H1 p (.dK (ks.zip vs))) := S2.updD H0p nR nP
    have S4 : Sd X.K ((c.with p).with e) pn H0 env σ (upd (upd H1 p (.dK (ks.zip vs))) e (.dK [])) := S3.inComp he
    have pe : p ≠ e := fun z => by rw [← z, upd_same] at he; cases he
    have he1 : H1 e = none := by rw [upd_ne (Ne.symm pe)] at he; exact he
    have nRe : ¬ c.rg.R e := fun z => S2.domM e (Mof.of_R S2.ok z) he1
    refine hk.rf ((c.with p).with e) rfl pn H0 env σ _ _ _ S4 q1 fun z x H3 q3 k3 j3 r3 => ?_
    have S5 := S4.grow k3 j3
    refine hv.rf ((c.with p).with e) rfl pn H0 env σ H3 _ _ S5 q3 fun ed y H4 q4 k4 j4 r4 => ?_
    have S6 := S5.grow k4 j4
    cases z with
    | str s =>
      cases r3
      have q := q4
      have k34 := Keep.trans (show Keep c.rg.R _ H3 from k3) (show Keep c.rg.R H3 H4 from k4)
      have he4 : H4 e = some (.dK []) := k34 e _ upd_same nRe
      have hp4 : H4 p = some (.dK (ks.zip vs)) := k34 p _ (by rw [upd_ne pe, upd_same]) nR
      refine ⟨.inr s, rfl, he4, hp4, pe, ?_⟩
      let M2 : Addr → Prop := Mof ((c.with p).with e) env
      have m1 : ∀ b, Mof c env b → M2 b := fun b z => mof_with.mpr (.inl (mof_with.mpr (.inl z)))
      have mR : ∀ b, c.rg.R b → M2 b := fun b z => m1 b (Mof.of_R S.ok z)
      have mp : M2 p := mof_with.mpr (.inl (mof_with.mpr (.inr rfl)))
      have me : M2 e := mof_with.mpr (.inr rfl)
      have kM : ∀ {G : Hp} {b : Addr} {o : HO}, M2 b → Keep M2 G (upd G b o) := fun hb b' o' e' n' => by rw [upd_ne (fun z => n' (by rw [z]; exact hb))]; exact e'
      have ra2 : RpAll X.K M2 H1 vs ds := RpAll.anti (fun b o eo z => by
        rcases mof_with.mp z with z | z
        · exact z
        · subst z; rw [he1] at eo; cases eo) ra
      have kk : Keep M2 H1 H4 := Keep.trans (Keep.trans (kM (o := .dK (ks.zip vs)) mp) (kM (o := .dK []) me)) (k34.mono mR)
      have ra4 : RpAll X.K M2 H4 vs ds := RpAll.keep kk ra2
      have r4' : Rp X.K M2 H4 y ed := r4
      have fin2 : Keep M2 H4 (upd (upd H4 e (.dK [(.inr s, y)])) p (.dK (putK (ks.zip vs) (.inr s) y))) := Keep.trans (kM me) (kM mp)
      obtain ⟨ws, e5, l5, ra5⟩ := put_zip hl (RpAll.keep fin2 ra4) (Rp.keep fin2 r4') (k := .inr s)
      have eH : H e = none := none_back S (show Keep c.rg.R H H1 from (Keep.upd_new hp).trans (show Keep c.rg.R _ H1 from k1)) (show c.rg.J H1 from j1) he1
      have np : ¬ Mof c env p := fun z => S.domM p z hp
      refine fin _ _ _ q (fun b o eo nb => ?_) ?_ (.dct np (by rw [upd_same, e5]) l5 ?_)
      · have bp : b ≠ p := fun z => by rw [z, hp] at eo; cases eo
        have be : b ≠ e := fun z => by rw [z, eH] at eo; cases eo
        rw [upd_ne bp, upd_ne be]
        refine k34 b o ?_ nb
        rw [upd_ne be, upd_ne bp]
        exact k1 b o (by rw [upd_ne bp]; exact eo) nb
      · refine S.ok.rg.stay H4 _ (show c.rg.J H4 from j4) fun b o eo hr => ?_
        rw [upd_ne (fun z => nR (by rw [← z]; exact hr)), upd_ne (fun z => nRe (by rw [← z]; exact hr))]
        exact eo
      · refine RpAll.anti (fun b _ _ z => m1 b z) ra5
    | _ => exact q4.elim
  | _ => exact q1.elim
end
end DL

/-! k in a dict. -/
namespace DL
open PySem L2 PySem.Spec PyProof.Rows
def rDkIn (neg : Bool) : R2 := fun x y H Q => ∃ (a : Addr) (k : Key) (kvs : List (Key × V)), x = kV k ∧ y = .ref a ∧ H a = some (.dK kvs) ∧ Q (.bl (if neg then !(valV kvs k).isSome else (valV kvs k).isSome)) H
section
variable {X : Cx}
theorem op_inDk (hu : X.A.units + 1 < cLine) : OpR X (compareOp .In) (rDkIn false) := by
  intro pins s σ H x y u v Q I rx ry h
  obtain ⟨a, k, kvs, rfl, rfl, ha, q⟩ := h
  cases ry
  exact d_in hu I (DGet.k ha) rx fun s' I' => ⟨.bl _, H, I', rfl, q⟩
theorem op_notInDk (hu : X.A.units + 1 < cLine) : OpR X (compareOp .NotIn) (rDkIn true) := by
  intro pins s σ H x y u v Q I rx ry h
  obtain ⟨a, k, kvs, rfl, rfl, ha, q⟩ := h
  cases ry
  exact d_notIn hu I (DGet.k ha) rx fun s' I' => ⟨.bl _, H, I', rfl, q⟩
end
theorem val_some {k : Key} : ∀ {ks : List Key} {vs : List V}, ks.length = vs.length → (valV (ks.zip vs) k).isSome = hasK ks k
  | [], [], _ => rfl
  | z :: ks, v :: vs, h => by
    have ih := val_some (k := k) (ks := ks) (vs := vs) (by simpa using h)
    by_cases e : z = k
    · subst e; simp [valV, hasK]
    · have e' : decide (z = k) = false := decide_eq_false e
      simp only [valV, hasK, List.zip_cons_cons, List.find?_cons, List.any_cons, e', Bool.false_or] at ih ⊢
      exact ih
def fInDk (neg : Bool) : F2 := fun d e Q => match d, e with | .str x, .dct ks ds => Q (.bl (if neg then !hasK ks (.inr x) else hasK ks (.inr x))) | _, _ => False
theorem opd_inDkG {K : PySem.W.Frag} (neg : Bool) : OpD K (rDkIn neg) (fInDk neg) := by
  intro M0 M H v w d e Qd Q hM r1 r2 hf k
  unfold fInDk at hf
  split at hf
  · obtain ⟨a, vs, rfl, m, ha, hl, ra⟩ := r2.dct
    rw [r1.str]
    refine ⟨a, .inr _, _, rfl, rfl, ha, ?_⟩
    rw [val_some hl]
    exact k _ _ H hf (Same.refl H) (.bl _)
  · exact hf.elim
theorem opd_inDk {K : PySem.W.Frag} : OpD K (rDkIn false) (fInDk false) := opd_inDkG false
theorem opd_notInDk {K : PySem.W.Frag} : OpD K (rDkIn true) (fInDk true) := opd_inDkG true
end DL

/-! Texts of tables. -/
namespace TB
open PySem L2 DL RD TL PySem.Spec PyProof.Rows
def sgText (s : Sg) : Str := s.1 ++ " " ++ s.2
def sgsText (ss : List Sg) : Str := Txt.join ", " (ss.map sgText)
def lineText (f : Sf) (n : Str) : Str := n ++ " " ++ sgsText (f n)
def tabText (f : Sf) (ys : List Str) : Str := Txt.join "\n" (ys.map (lineText f))
theorem name_nl {x : Str} (h : isName x = true) : ∀ c ∈ tl x, c ≠ 10 := by
  unfold isName at h
  simp only [Bool.and_eq_true] at h
  have ha := h.2.2.1
  unfold Txt.isalpha at ha
  rw [Bool.and_eq_true, decide_eq_true_iff] at ha
  intro c hc e
  have hal : PySem.Unicode.isAlpha c = true := Array.all_eq_true_iff_forall_mem.mp ha.2 c (by simpa [tl] using hc)
  subst e; exact absurd hal (by decide +kernel)
theorem sg_signs {s : Sg} (h : IsSg s) : 32 ∉ tl s.1 ∧ 44 ∉ tl (sgText s) ∧ 10 ∉ tl (sgText s) ∧ (sgText s).length ≤ 12 ∧ s.1.length ≤ 6 ∧ s.2.length ≤ 5 := by
  have k : ∀ x ∈ dW, ∀ y ∈ lW, 32 ∉ tl x ∧ 44 ∉ tl (x ++ " " ++ y) ∧ 10 ∉ tl (x ++ " " ++ y) ∧ (x ++ " " ++ y).length ≤ 12 ∧ x.length ≤ 6 ∧ y.length ≤ 5 := by decide +kernel
  exact k s.1 h.1 s.2 h.2
theorem part_sg {s : Sg} (h : IsSg s) : Txt.partition (sgText s) " " = (s.1, (" " : Str), s.2) := partition_app (y := " ") (s := 32) (S := []) rfl (sg_signs h).1
theorem split_sgs {ss : List Sg} (h0 : ss ≠ []) (h : ∀ s ∈ ss, IsSg s) : Txt.split (sgsText ss) ", " = ss.map sgText := by
  refine split_join (y := ", ") (s := 44) (S := [32]) rfl (by decide +kernel) (fun e => h0 (List.map_eq_nil_iff.mp e)) fun p hp => ?_
  obtain ⟨s, hs, rfl⟩ := List.mem_map.mp hp
  exact (sg_signs (h s hs)).2.1
theorem sgs_nl {ss : List Sg} (h : ∀ s ∈ ss, IsSg s) : 10 ∉ tl (sgsText ss) := fun hc => by
  unfold sgsText at hc
  rw [join_eq, tl_join] at hc
  rcases mem_joinL hc with hc | ⟨p, hp, hc⟩
  · exact absurd hc (by decide +kernel)
  · rw [List.map_map] at hp
    obtain ⟨s, hs, rfl⟩ := List.mem_map.mp hp
    exact (sg_signs (h s hs)).2.2.1 hc
theorem sgs_len {ss : List Sg} (h : ∀ s ∈ ss, IsSg s) (l : ss.length ≤ 2) : (sgsText ss).length ≤ 28 := by
  have := join_len (y := ", ") (m := 12) (parts := ss.map sgText) fun z hz => by
    obtain ⟨s, hs, rfl⟩ := List.mem_map.mp hz
    exact (sg_signs (h s hs)).2.2.2.1
  have l1 : (", " : Str).length = 2 := rfl
  rw [List.length_map, l1] at this
  show (Txt.join ", " (ss.map sgText)).length ≤ 28
  omega
theorem part_line {f : Sf} {n : Str} (h : isName n = true) : Txt.partition (lineText f n) " " = (n, (" " : Str), sgsText (f n)) := partition_app (y := " ") (s := 32) (S := []) rfl fun hc => ((name_signs h).2 32 hc).1 rfl
theorem line_nl {f : Sf} {n : Str} (h : isName n = true) (hs : ∀ s ∈ f n, IsSg s) : 10 ∉ tl (lineText f n) := fun hc => by
  unfold lineText at hc
  rw [tl_append, tl_append] at hc
  rcases List.mem_append.mp hc with hc | hc
  · rcases List.mem_append.mp hc with hc | hc
    · exact name_nl h 10 hc rfl
    · exact absurd hc (by decide +kernel)
  · exact sgs_nl hs hc
theorem line_len {f : Sf} {n : Str} (h : isName n = true) (hs : ∀ s ∈ f n, IsSg s) (l : (f n).length ≤ 2) : (lineText f n).length ≤ 33 := by
  have h1 := isName_len h
  have h2 := sgs_len hs l
  have l1 : (" " : Str).length = 1 := rfl
  unfold lineText
  rw [app_len, app_len, l1]; omega
theorem GoodT.two {ns : List Str} {f : Sf} {m : Nat} (h : GoodT ns f m) {n : Str} (hn : n ∈ ns) : (f n).length ≤ 2 ∧ f n ≠ [] := by
  have h1 := h.sl n hn
  have h2 := h.om
  refine ⟨by omega, fun e => ?_⟩
  rw [e] at h1
  have h1 : 0 = m := h1
  omega
theorem split_tab {ns : List Str} {f : Sf} {m : Nat} (h : GoodT ns f m) : Txt.split (tabText f ns) "\n" = ns.map (lineText f) := by
  refine split_join (y := "\n") (s := 10) (S := []) rfl (by decide +kernel) (fun e => h.ne (List.map_eq_nil_iff.mp e)) fun p hp => ?_
  obtain ⟨n, hn, rfl⟩ := List.mem_map.mp hp
  exact line_nl (h.name n hn) (h.sg n hn)
theorem tab_len {ns : List Str} {f : Sf} {m : Nat} (h : GoodT ns f m) : (tabText f ns).length ≤ 2040 := by
  have h1 := join_len (y := "\n") (m := 33) (parts := ns.map (lineText f)) fun z hz => by
    obtain ⟨n, hn, rfl⟩ := List.mem_map.mp hz
    exact line_len (h.name n hn) (h.sg n hn) (h.two hn).1
  have l1 : ("\n" : Str).length = 1 := rfl
  have h2 := h.len
  rw [List.length_map, l1] at h1
  show (Txt.join "\n" (ns.map (lineText f))).length ≤ 2040
  omega
theorem GoodT.pre {ns : List Str} {f : Sf} {m : Nat} (h : GoodT ns f m) (i : Nat) (hi : i < ns.length) : GoodT (ns.take (i + 1)) f m where
  ne := fun e => by have := congrArg List.length e; rw [List.length_take, List.length_nil] at this; omega
  len := by have := h.len; rw [List.length_take]; omega
  nd := h.nd.sublist (List.take_sublist _ _)
  name := fun n hn => h.name n (List.mem_of_mem_take hn)
  om := h.om
  sl := fun n hn => h.sl n (List.mem_of_mem_take hn)
  sg := fun n hn => h.sg n (List.mem_of_mem_take hn)
theorem put_next {ns : List Str} {f : Sf} {i : Nat} {n : Str} (nd : ns.Nodup) (e : ns[i]? = some n) :
    putDk ((ns.take i).map Sum.inr) (.inr n : Key) = (ns.take (i + 1)).map .inr ∧ putDv ((ns.take i).map Sum.inr) ((ns.take i).map fun n => eSs false (f n)) (.inr n : Key) (eSs false (f n)) = (ns.take (i + 1)).map (fun n => eSs false (f n)) ∧ hasK ((ns.take i).map Sum.inr) (.inr n : Key) = false := by
  have et : ns.take (i + 1) = ns.take i ++ [n] := by rw [List.take_succ, e]; rfl
  have hn : n ∉ ns.take i := fun h => by
    have nd2 : (ns.take (i + 1)).Nodup := nd.sublist (List.take_sublist _ _)
    rw [et, List.nodup_append] at nd2
    exact nd2.2.2 n h n (by simp) rfl
  have hk : hasK ((ns.take i).map Sum.inr) (.inr n : Key) = false := by
    rw [Bool.eq_false_iff]
    intro z
    obtain ⟨x, hx, ex⟩ := List.mem_map.mp (hasK_iff.mp z)
    exact hn (by rw [← Sum.inr.inj ex]; exact hx)
  unfold putDk putDv
  rw [hk, if_neg Bool.false_ne_true, if_neg Bool.false_ne_true, et, List.map_append, List.map_append]
  exact ⟨rfl, rfl, rfl⟩
/-! promises -/
def tfSgsText : Tf := fun rg ds Q => ∃ ss, ds = [eSs true ss] ∧ ss ≠ [] ∧ ss.length ≤ 2 ∧ (∀ s ∈ ss, IsSg s) ∧ Q (.str (sgsText ss))
def tfReadSg : Tf := fun rg ds Q => ∃ s, ds = [.str (sgText s)] ∧ IsSg s ∧ Q (eSg s)
def tfReadLine : Tf := fun rg ds Q => ∃ ns f m n, ds = [.str (lineText f n)] ∧ GoodT ns f m ∧ n ∈ ns ∧ Q (.tup [.str n, eSs false (f n)])
def tfReadT (CT : Addr) : Tf := fun rg ds Q => ∃ ns f m, ds = [.raw (.ref CT), .str (tabText f ns)] ∧ GoodT ns f m ∧ ∀ ys, ys.Perm ns → sortedS ys = true → Q (eTable CT ys f m)
def tfStrT (CT : Addr) : Tf := fun rg ds Q => ∃ ys f m, ds = [eTable CT ys f m] ∧ GoodT ys f m ∧ Q (.str (tabText f ys))
def tfAtT (CT : Addr) (g : Sg → Str) : Tf := fun rg ds Q => ∃ ys f m n t s, ds = [eTable CT ys f m, .str n, .int (t : Nat)] ∧ GoodT ys f m ∧ n ∈ ys ∧ (f n)[t]? = some s ∧ Q (.str (g s))
def tfLenT (CT : Addr) : Tf := fun rg ds Q => ∃ ys f m, ds = [eTable CT ys f m] ∧ ys.length < 60 ∧ Q (.int (ys.length : Nat))
def tfTabText : Tf := fun rg ds Q => ∃ ns f m, ds = [eTab false ns f] ∧ GoodT ns f m ∧ ∀ ys, ys.Perm ns → sortedS ys = true → Q (.str (tabText f ys))
end TB

set_option maxHeartbeats 1000000
/-! enumerate(list or tuple, count). -/
namespace ZL
open PySem L2 PySem.Spec PyProof.Rows
open AutoSeq1 (wpAny_loadPart')
theorem beg_sq (k : Bool) (l : Addr) (items : Array Value) : Begins (.ref l) (itObj k l) (fun h => sqAt k h l items) := by
  cases k with
  | true => exact begins_tuple l items
  | false => exact begins_list l items
section
variable {prog : Program} {w : World} {A : Around} {E : Value → Shared → Prop} {s : Shared}
theorem call_enumV {k : Bool} {l : Addr} {items : Array Value} {c : Int} {t : Tok} {Q : Value → Shared → Prop} (hL : sqAt k s.heap l items) (c0 : 0 ≤ c) (c1 : c < 2 ^ 62)
    (h : ∀ h', IsEnum h' (s.heap.objs.size + 1) s.heap.objs.size c .none → itAt k h' s.heap.objs.size l 0 → h'.objs.size = s.heap.objs.size + 2 →
      (∀ b o, s.heap.get? b = some o → h'.get? b = some o) → Q (.ref (s.heap.objs.size + 1)) { s with heap := h' }) :
    wpAny (model prog w) A (call (.type "enumerate") [.ref l, .int c t]) Q E s :=
  enum_begins (beg_sq k l items) hL (by omega) (by omega) fun h' a b d e => h h' a (itAt_new b) d e
end
/-- what stands at a at each turn, each item in a new pair -/
def IteV (k : Bool) (c : Int) (K : PySem.W.Frag) (a : Addr) : It :=
  ⟨fun i H => ∃ (xs : List V) (x : V), SqK k K H a xs ∧ xs[i]? = some x, fun i H v H' => ∃ T x, v = .ref T ∧ H T = none ∧ H' = upd H T (.tup [.int (c + (i : Nat)), x]) ∧ ∀ xs, SqK k K H a xs → xs[i]? = some x, fun i H => ∃ xs : List V, SqK k K H a xs ∧ xs.length = i⟩
theorem turn_enumV {P : Program} {w : World} {K : PySem.W.Frag} {elts : List Expr} {kk : Nat} {tpos : Pos} {k : Bool} {c : Int} (a e it : Addr) (hae : a ≠ e) (hai : a ≠ it) :
    Turn P w K (.Tuple elts kk tpos) (IteV k c K a) [e, it] e (fun i h => (∃ old, IsEnum h e it (c + ((i : Nat) : Int)) old) ∧ itAt k h it a i ∧ e ≠ it) where
  mem := by simp
  obj := fun i h st b hb => by
    obtain ⟨⟨old, he⟩, hit, _⟩ := st
    have e' : b = e ∨ b = it := by simpa using hb
    rcases e' with z | z
    · rw [z]; exact ⟨_, he, fun v q => nomatch q⟩
    · rw [z]; exact hit.lt
  keep := fun i h h' st k => let ⟨⟨old, he⟩, hi, hne⟩ := st; ⟨⟨old, k e (by simp) _ he⟩, hi.keep fun o q => k it (by simp) o q, hne⟩
  item := by
    intro X hP hw hK hc i pins s σ H E I hf st hg
    subst hP hw hK
    obtain ⟨⟨old, he⟩, hit, hne⟩ := st
    obtain ⟨xs, x, hq, hx⟩ := hg
    obtain ⟨its, rv, p, hz⟩ := sq_of I hq
    obtain ⟨u, hu, ru⟩ := rv.get hx
    have hel : e < s.heap.objs.size := Heap.lt_size he
    have hil : it < s.heap.objs.size := by obtain ⟨_, q, _⟩ := hit.lt; exact Heap.lt_size q
    refine wpAny_pyNext_enum_itemC (draws_k k (A := X.A.in1) (show X.A.in1.handled = none from I.ok.hd hc) it a hai its.toArray) he ⟨hit, p⟩ (by have := (List.getElem?_eq_some_iff.mp hu).1; simpa using this) hne (by simp [hne, Ne.symm hae]) fun y h' tk hy ho hs' hT hsz hk => ?_
    have ey : y = u := by
      have : its.toArray[i]? = some y := hy
      simp only [List.getElem?_toArray] at this
      rw [hu] at this; exact (Option.some.inj this).symm
    subst ey
    refine ⟨_, rfl, wpAny_letOwnedTupleGo_enum (s := { s with heap := h', toks := tk + 1 }) ho fun h'' he' sb => ?_⟩
    have hT2 : h''.get? s.heap.objs.size = some { cls := .type "tuple", data := .seq #[.int (c + (i : Nat)) tk, y] } := (sb.2 _ (Nat.ne_of_gt hel)).trans hT
    have new : ObjOk X.prog X.w (upd H s.heap.objs.size (.tup [.int (c + (i : Nat)), x])) h'' s.heap.objs.size (.tup [.int (c + (i : Nat)), x]) :=
      ⟨by show 2 ≤ sizeLine; decide, [.int (c + (i : Nat)) tk, y], .cons ⟨_, rfl⟩ (.cons ru .nil), ⟨_, hT2, rfl, _, rfl⟩⟩
    have I1 : Inv X pins σ (upd H s.heap.objs.size (.tup [.int (c + (i : Nat)), x])) { s with heap := h'', toks := tk + 1 } :=
      I.turnedNew (ch := [e, it]) (fun b ob hb q => (sb.2 b (fun z => hb (by simp [z]))).trans (hk b ob (fun z => hb (by simp [z])) (fun z => hb (by simp [z])) q)) hf (Nat.le_refl _) new
    refine ⟨.ref s.heap.objs.size, _, I1, rfl, ⟨_, x, rfl, I.hok.fresh (Nat.le_refl _), rfl, fun ys hy => by rw [sq_inj I hy hq]; exact hx⟩, ⟨⟨y, ?_⟩, hs'.1.keep fun o q => (sb.2 it (Ne.symm hne)).trans q, hne⟩, fun b hb => ?_⟩
    · have e1 : c + ((i + 1 : Nat) : Int) = c + (i : Int) + 1 := by omega
      rw [e1]; exact he'
    · have hb' : b < s.heap.objs.size := by
        have e' : b = e ∨ b = it := by simpa using hb
        rcases e' with z | z
        · rw [z]; exact hel
        · rw [z]; exact hil
      rw [upd_ne (Nat.ne_of_lt hb')]
      exact (hf b hb).1
  done := by
    intro X hP hw hK hc i pins s σ H E I hf st hg
    subst hP hw hK
    obtain ⟨⟨old, he⟩, hit, hne⟩ := st
    obtain ⟨xs, hq, hx⟩ := hg
    obtain ⟨its, rv, p, hz⟩ := sq_of I hq
    obtain ⟨f0, f1, f2, f3, f4, f5⟩ := hf it (by simp)
    have hl := rv.length
    have hn : its.toArray.size = i := by simp; omega
    refine wpAny_pyNext_enum_endD (n := its.toArray.size) (draws_k k (A := X.A.in1) (show X.A.in1.handled = none from I.ok.hd hc) it a hai its.toArray) he ⟨by rw [hn]; exact hit, p⟩ fun h' eb => ⟨rfl, I.turned (t' := s.toks) (fun b o hb q => eb b o hb q) f0 f1 f3 f4 f5⟩
  self := fun A i s Q E st h => let ⟨⟨_, he⟩, _⟩ := st; wpAny_pyIter_enum he h
def iEnumV (K : PySem.W.Frag) (c : Int) (ta : TA) : TI := fun σ H R => ta σ H fun vs H1 => ∃ k a xs, vs = [.ref a, .int c] ∧ SqK k K H1 a xs ∧ R (IteV k c K a) H1
theorem pi_enumV {X : Cx} {e e2 : Expr} {ta : TA} {p pos tpos : Pos} {elts : List Expr} {kk : Nat} {c : Int} (c0 : 0 ≤ c) (c1 : c < 2 ^ 62) (hg : Gl X "enumerate") (hm : X.mg "enumerate" = none) (ha : PA X [e, e2] ta) (hs : starEach [e, e2] X.env = (false, eval e X.env) :: starEach [e2] X.env := by rfl) (hp : (backTo pos (starEach [e2] X.env)).any (·.1) = false := by rfl) :
    PI X (.Tuple elts kk tpos) (.Call (.Name "enumerate" p) [e, e2] [] pos) (iEnumV X.K c ta) := by
  refine ⟨fun pins s σ H R I h => ?_⟩
  refine Call_ (ld_blt I hg hm boot_enumerate (PyProof.Rows.callWith_type1 (thn (ha.run pos pins s σ H _ I h) fun us s1 ⟨vs, H1, I1, r1, q1⟩ => ?_) hs hp))
  obtain ⟨k, a, xs, ex, hq, q⟩ := q1
  subst ex
  cases r1 with
  | cons r rr =>
    cases rr with
    | cons r2 rr =>
    cases rr
    cases r
    obtain ⟨t, rfl⟩ := r2
    obtain ⟨its, rv, p', hz⟩ := sq_of I1 hq
    refine call_enumV p' c0 c1 fun h' he hit hsz hk => wpAny_pyIter_enum he ?_
    have I2 : Inv X pins σ H1 { s1 with heap := h' } := I1.kept (t' := s1.toks) hk
    have e0 : c + ((0 : Nat) : Int) = c := by omega
    refine ⟨s1.heap.objs.size + 1, [s1.heap.objs.size + 1, s1.heap.objs.size], _, _, H1, rfl, I2, turn_enumV a (s1.heap.objs.size + 1) s1.heap.objs.size (Nat.ne_of_lt (Nat.lt_succ_of_lt hz)) (Nat.ne_of_lt hz), ⟨⟨.none, by rw [e0]; exact he⟩, hit, Nat.succ_ne_self _⟩, fun b hb => ?_, q⟩
    have e' : b = s1.heap.objs.size + 1 ∨ b = s1.heap.objs.size := by simpa using hb
    have hle : s1.heap.objs.size ≤ b := by
      rcases e' with z | z
      · rw [z]; exact Nat.le_add_right _ _
      · rw [z]; exact Nat.le_refl _
    exact I1.fpOk hle (I1.hok.fresh hle)
end ZL
namespace DL
open PySem L2 PySem.Spec PyProof.Rows ZL
def enumF (c : Int) (ds : List D) : List D := ds.zipIdx.map fun p => .tup [.int (c + (p.2 : Nat)), p.1]
theorem enumF_length {c : Int} {ds : List D} : (enumF c ds).length = ds.length := by simp [enumF]
theorem enumF_get {c : Int} {ds : List D} {i : Nat} {d : D} (h : ds[i]? = some d) : (enumF c ds)[i]? = some (.tup [.int (c + (i : Nat)), d]) := by
  simp [enumF, List.getElem?_map, List.getElem?_zipIdx, h]
def sEnumV (c : Int) (t : TD) : TDs := fun env Q => t env fun d => match d with | .lst ds => Q (enumF c ds) | .tup ds => Q (enumF c ds) | _ => False
section
variable {X : Cx} {K : PySem.W.Frag} {rg : Rg} {e e2 : Expr} {te : TE} {t : TD} {o : Bool} {c0 : Int}
theorem walk_enumV {k : Bool} {a : Addr} {xs : List V} : Walk (IteV k c0 K a) xs.length (fun H => SqK k K H a xs) (YPair (fun i => some (.int (c0 + (i : Nat)))) (fun i => xs[i]?)) := by
  refine ⟨fun i _ hi q => ⟨xs, xs[i], q, by simp [hi]⟩, fun _ q => ⟨xs, q, rfl⟩, fun i H v H' _ q y => ?_⟩
  obtain ⟨T, x, h1, h2, h3, h4⟩ := y
  exact ⟨T, .int (c0 + (i : Nat)), x, h1, h2, h3, rfl, h4 xs q⟩
theorem di_enumV {p pos tpos : Pos} {elts : List Expr} {kk : Nat} (h0 : 0 ≤ c0) (h1 : c0 < 2 ^ 62) (hg : Gl X "enumerate") (hm : X.mg "enumerate" = none) (h : DP X K rg e te t) (he2 : PE X e2 (tC (.int c0))) (hs : starEach [e, e2] X.env = (false, eval e X.env) :: starEach [e2] X.env := by rfl) (hs2 : starEach [e2] X.env = (false, eval e2 X.env) :: starEach [] X.env := by rfl) (hp : (backTo pos (starEach [e2] X.env)).any (·.1) = false := by rfl) :
    DI X K rg o (.Tuple elts kk tpos) (.Call (.Name "enumerate" p) [e, e2] [] pos) (iEnumV K c0 (tCons te (tCons (tC (.int c0)) tNil))) (sEnumV c0 t) := by
  cases h.kx
  exact ⟨rfl, pi_enumV h0 h1 hg hm (pa_cons h.pe (pa_cons he2 pa_nil hs2) hs) hs hp, fun c hc pn H0 env σ H Qd R S ht kk => by
    refine h.rf c hc pn H0 env σ H _ _ S ht fun d v H1 q1 k1 j1 r1 => ?_
    have sub : ∀ b, Zof o c env b → Mof c env b := fun b z => by
      cases o with
      | true => exact .inl z
      | false => exact z
    have facts : ∀ {ds : List D} {vs : List V} {l : Addr} {k : Bool}, RpAll X.K (Mof c env) H1 vs ds → Qd (enumF c0 ds) → SqK k X.K H1 l vs → (∀ H2, Keep (Zof o c env) H1 H2 → SqK k X.K H2 l vs) → R (IteV k c0 X.K l) H1 := fun {ds vs l k} a q1 sq kp => by
      refine kk (enumF c0 ds) _ _ _ H1 q1 k1 j1 (by rw [enumF_length, ← RpAll.length a]; exact walk_enumV) kp ?_
      intro M i H2 x H3 hi _ k2 hm' dom y
      obtain ⟨T, x1, x2, rfl, hT, rfl, h1, h2⟩ := y
      cases h1
      obtain ⟨d, hd, rd⟩ := RpAll.get a h2
      have r1 : Rp X.K (fun b => Mof c env b ∨ M b) H1 x2 d := Rp.anti (fun b o e z => z.elim id (hm' b o e)) rd
      have r2 : Rp X.K (fun b => Mof c env b ∨ M b) H2 x2 d := Rp.keep (k2.mono fun b z => .inl z) r1
      have r3 : Rp X.K M (upd H2 T (.tup [.int (c0 + (i : Nat)), x2])) x2 d := Rp.keep (Keep.upd_new hT) (Rp.anti (fun _ _ _ z => .inr z) r2)
      exact ⟨_, enumF_get hd, fun b o e => by rw [upd_ne (ne_of_none e hT)]; exact e, .tup (fun z => dom T z hT) upd_same (.cons (.int _) (.cons r3 .nil))⟩
    cases d with
    | lst ds =>
      cases r1 with
      | lst m e a =>
        exact ⟨false, _, _, rfl, SqL.of e, facts a q1 (SqL.of e) fun H2 z => SqL.of (z _ _ e fun q => m (sub _ q))⟩
    | tup ds =>
      cases r1 with
      | tup m e a =>
        exact ⟨true, _, _, rfl, SqT.of e, facts (k := true) a q1 (SqT.of e) fun H2 z => SqT.of (z _ _ e fun q => m (sub _ q))⟩
      | tupK e a =>
        exact ⟨true, _, _, rfl, .inr e, facts (k := true) a q1 (Or.inr e : SqT X.K H1 _ _) fun H2 z => (Or.inr e : SqT X.K H2 _ _)⟩
    | _ => exact q1.elim⟩
end
end DL

/-! Texts of evidences. -/
namespace TB
open PySem L2 DL RD PySem.Spec PyProof.Rows TL ZL
theorem head_split {ns : List Str} (h : GoodN ns) : Txt.split (headText ns) " " = ("tests" : Str) :: ns := by
  refine split_join (y := " ") (s := 32) (S := []) rfl (by decide +kernel) (by simp) fun p hp => ?_
  rcases List.mem_cons.mp hp with rfl | hp
  · decide +kernel
  · exact fun hc => ((name_signs (h.name p hp)).2 32 hc).1 rfl
theorem head_nl {ns : List Str} (h : GoodN ns) : (10 : Nat) ∉ tl (headText ns) := fun hc => by
  unfold headText at hc
  rw [join_eq, tl_join] at hc
  rcases mem_joinL hc with hc | ⟨p, hp, hc⟩
  · exact absurd hc (by decide +kernel)
  · obtain ⟨n, hn, rfl⟩ := List.mem_map.mp hp
    rcases List.mem_cons.mp hn with rfl | hn
    · exact absurd hc (by decide +kernel)
    · exact name_nl (h.name n hn) 10 hc rfl
theorem head_len {ns : List Str} (h : GoodN ns) : (headText ns).length ≤ 400 := by
  have := join_len (y := " ") (m := 5) (parts := ("tests" : Str) :: ns) fun z hz => by
    rcases List.mem_cons.mp hz with rfl | hz
    · decide +kernel
    · have := isName_len (h.name z hz); omega
  have l1 : (" " : Str).length = 1 := rfl
  rw [List.length_cons, l1] at this
  have := h.len
  show (Txt.join " " (("tests" : Str) :: ns)).length ≤ 400
  omega
theorem row_nl {r : List Pl} (h : ∀ p ∈ r, isName p.1 = true) : (10 : Nat) ∉ tl (rowText r) := fun m => by
  unfold rowText at m
  rw [join_eq, tl_join] at m
  rcases mem_joinL m with m | ⟨z, hz, m⟩
  · exact absurd m (by decide +kernel)
  · rw [List.map_map] at hz
    obtain ⟨p, hp, rfl⟩ := List.mem_map.mp hz
    have m : (10 : Nat) ∈ tl (plText p) := m
    rw [tl_pl] at m
    rcases List.mem_append.mp m with m | m
    · exact name_nl (h p hp) 10 m rfl
    · split at m
      · exact absurd m (by decide)
      · exact absurd m (by decide)
theorem run_nl {R : List (List Pl)} (G : Good R) : (10 : Nat) ∉ tl (runText R) := fun m => by
  unfold runText at m
  rw [join_eq, tl_join] at m
  rcases mem_joinL m with m | ⟨z, hz, m⟩
  · exact absurd m (by decide +kernel)
  · rw [List.map_map] at hz
    obtain ⟨r, hr, rfl⟩ := List.mem_map.mp hz
    exact row_nl (G.row r hr).2.2 m
theorem ev_split {ns : List Str} {Z : List Rn} {m s : Int} (h : GoodN ns) (hz : GoodZ Z ns) (hm : m = 1 ∨ m = 2) (hs : IsSl s) : Txt.split (evText ns Z m s) "\n" = headText ns :: numText m s :: Z.map fun z => runText z.1 := by
  refine split_join (y := "\n") (s := 10) (S := []) rfl (by decide +kernel) (by simp) fun p hp => ?_
  rcases List.mem_cons.mp hp with rfl | hp
  · exact head_nl h
  rcases List.mem_cons.mp hp with rfl | hp
  · exact (num_nl hm hs).1
  · obtain ⟨z, hz', rfl⟩ := List.mem_map.mp hp
    exact run_nl (hz.row z hz').1
theorem ev_len {ns : List Str} {Z : List Rn} {m s : Int} (h : GoodN ns) (l : Z.length < 60) (hz : ShortZ Z) (hm : m = 1 ∨ m = 2) (hs : IsSl s) : (evText ns Z m s).length ≤ 6300000 := by
  have := join_len (y := "\n") (m := 100000) (parts := headText ns :: numText m s :: Z.map fun z => runText z.1) fun p hp => by
    rcases List.mem_cons.mp hp with rfl | hp
    · have := head_len h; omega
    rcases List.mem_cons.mp hp with rfl | hp
    · have := (num_nl hm hs).2; omega
    · obtain ⟨z, hz', rfl⟩ := List.mem_map.mp hp
      exact hz z hz'
  have l1 : ("\n" : Str).length = 1 := rfl
  rw [List.length_cons, List.length_cons, List.length_map, l1] at this
  show (Txt.join "\n" (headText ns :: numText m s :: Z.map fun z => runText z.1)).length ≤ 6300000
  omega
theorem ev_lens {ns : List Str} {Z : List Rn} {m s : Int} (h : GoodN ns) (l : Z.length < 60) (hz : ShortZ Z) (hm : m = 1 ∨ m = 2) (hs : IsSl s) : ((headText ns :: numText m s :: Z.map fun z => runText z.1).map (·.length)).sum ≤ 6200000 := by
  have h1 := sum_le (m := 100000) (l := (Z.map fun z => runText z.1).map (·.length)) fun x hx => by
    rw [List.map_map] at hx
    obtain ⟨z, hz', rfl⟩ := List.mem_map.mp hx
    exact hz z hz'
  have h2 := head_len h
  have h3 := (num_nl hm hs).2
  rw [List.length_map, List.length_map] at h1
  rw [List.map_cons, List.map_cons, List.sum_cons, List.sum_cons]
  omega
theorem or_no {b1 b2 : TB} {env : En} {Q : Bool → Prop} (h1 : ∀ Q : Bool → Prop, Q false → b1 env Q) (h2 : b2 env Q) : sOr b1 b2 env Q := h1 _ (by rw [if_neg (by decide)]; exact h2)
theorem sl_facts : ∀ {s : Int}, IsSl s → Txt.isascii (Str.ofString (toString s)) = true ∧ Txt.isdigit (Str.ofString (toString s)) = true ∧ (Str.ofString (toString s)).length = 1 ∧ Txt.startswith (Str.ofString (toString s)) "0" = (Str.ofString (toString s) == ("0" : Str)) ∧ PySem.intText? (Str.ofString (toString s)) = some s := by
  rintro s (rfl | rfl | rfl) <;> decide +kernel
theorem one_two : ∀ {m : Int}, (m = 1 ∨ m = 2) → IsSl m ∧ inD (.str (Str.ofString (toString m))) [.str "1", .str "2"] = true := by
  rintro m (rfl | rfl)
  · exact ⟨.inr (.inl rfl), by decide +kernel⟩
  · exact ⟨.inr (.inr rfl), by decide +kernel⟩
theorem num_parts : ∀ {m s : Int}, (m = 1 ∨ m = 2) → IsSl s → (Str.empty ++ "things " : Str).length ≤ sizeLine ∧ m.natAbs.log2 < 1920 ∧ (Str.empty ++ "things " ++ toString m : Str).length ≤ sizeLine ∧ (Str.empty ++ "things " ++ toString m ++ " slips " : Str).length ≤ sizeLine ∧ s.natAbs.log2 < 1920 ∧ (numText m s).length ≤ sizeLine := by
  rintro m s (rfl | rfl) (rfl | rfl | rfl) <;> decide +kernel
theorem enumF_map {α : Type} (c : Int) (f : α → D) (l : List α) : enumF c (l.map f) = l.zipIdx.map fun p => .tup [.int (c + (p.2 : Nat)), f p.1] := by
  unfold enumF
  rw [List.zipIdx_map, List.map_map]
  rfl
theorem GoodZ.of_mem {Z Z' : List Rn} {ns : List Str} (h : GoodZ Z ns) (hl : Z'.length ≤ Z.length) (hm : ∀ z ∈ Z', z ∈ Z) : GoodZ Z' ns := ⟨Nat.lt_of_le_of_lt hl h.len, fun z hz => h.row z (hm z hz)⟩
theorem asc_same {R : List (List Pl)} {xs ys : List Str} (h1 : AscOf xs (inR R)) (h2 : AscOf ys (inR R)) : xs = ys := AscOf.unique h1 h2 fun _ => Iff.rfl
theorem ite_yes {c : Bool} {A B : Prop} (h : c = true) (a : A) : if c = true then A else B := by rw [if_pos h]; exact a
theorem ite_not {c : Bool} {A B : Prop} (h : c = false) (a : B) : if c = true then A else B := by rw [h, if_neg (by decide)]; exact a
theorem at_zero {x : D} {xs : List D} : atI (x :: xs) 0 = some x := by rw [atI_get (by decide) (by rw [List.length_cons]; omega)]; rfl
theorem at_one {x y : D} {xs : List D} : atI (x :: y :: xs) 1 = some y := by rw [atI_get (by decide) (by rw [List.length_cons, List.length_cons]; omega)]; rfl
theorem chain_in {i n : Nat} {t2 t3 : TD} {env : En} {Q : Bool → Prop} (h2 : ∀ K : D → Prop, K (.int (i : Nat)) → t2 env K) (h3 : ∀ K : D → Prop, K (.int (n : Nat)) → t3 env K) (lt : i < n) (hQ : Q true) :
    sTest (sChain (fCmpI fun i j => decide (i ≤ j)) (fCmpI fun i j => decide (i < j)) (sC (.int 0)) t2 t3) env Q := by
  refine h2 _ ?_
  have e : decide ((0 : Int) ≤ ((i : Nat) : Int)) = true := by simp
  dsimp only [fCmpI]
  rw [if_pos e]
  refine h3 _ ?_
  dsimp only [fCmpI]
  have e2 : decide (((i : Nat) : Int) < ((n : Nat) : Int)) = true := by simp; omega
  rw [e2]; exact hQ
end TB

/-! Names in order exist. -/
namespace TB
open PySem L2 DL RD PySem.Spec PyProof.Rows
def leS (a b : Str) : Bool := !ltCps b.cps.toList a.cps.toList
theorem leS_trans (a b c : Str) (h1 : leS a b = true) (h2 : leS b c = true) : leS a c = true := by
  unfold leS at *
  rw [ltCps_eq, Bool.not_eq_true', decide_eq_false_iff_not] at *
  exact fun h => h1 (List.not_le.mp fun h3 => absurd h (List.not_lt.mpr (List.le_trans h3 (List.not_lt.mp h2))))
theorem leS_total (a b : Str) : (leS a b || leS b a) = true := by
  unfold leS
  rw [ltCps_eq, ltCps_eq, Bool.or_eq_true, Bool.not_eq_true', Bool.not_eq_true', decide_eq_false_iff_not, decide_eq_false_iff_not]
  by_cases h : b.cps.toList < a.cps.toList
  · exact .inr fun h2 => List.lt_asymm h h2
  · exact .inl h
theorem sort_exists (l : List Str) : ∃ ys : List Str, ys.Perm l ∧ sortedS ys = true := by
  refine ⟨l.mergeSort leS, List.mergeSort_perm l leS, sortedS_of_pairwise _ ?_⟩
  refine (List.pairwise_mergeSort leS_trans leS_total l).imp fun {a b} h => ?_
  unfold leS at h
  simpa using h
def dd : List Str → List Str
  | [] => []
  | x :: xs => if x ∈ dd xs then dd xs else x :: dd xs
theorem dd_mem : ∀ {l : List Str} {y : Str}, y ∈ dd l ↔ y ∈ l
  | [], _ => Iff.rfl
  | x :: xs, y => by
    have ih := dd_mem (l := xs) (y := y)
    unfold dd
    split
    · rename_i h
      rw [ih, List.mem_cons]
      refine ⟨.inr, fun z => z.elim (fun e => ?_) id⟩
      rw [e]; exact dd_mem.mp h
    · rw [List.mem_cons, List.mem_cons, ih]
theorem dd_nodup : ∀ l : List Str, (dd l).Nodup
  | [] => List.nodup_nil
  | x :: xs => by
    unfold dd
    split
    · exact dd_nodup xs
    · rename_i h
      exact List.nodup_cons.mpr ⟨h, dd_nodup xs⟩
theorem asc_exists (R : List (List Pl)) : ∃ ys : List Str, AscOf ys (inR R) := by
  obtain ⟨ys, h1, h2⟩ := sort_exists (dd (R.flatMap fun r => r.map (·.1)))
  refine ⟨ys, h1.nodup_iff.mpr (dd_nodup _), h2, fun y => ?_⟩
  rw [h1.mem_iff, dd_mem, List.mem_flatMap]
  refine ⟨fun ⟨r, hr, hy⟩ => ?_, fun ⟨r, hr, p, hp, e⟩ => ⟨r, hr, List.mem_map.mpr ⟨p, hp, e⟩⟩⟩
  obtain ⟨p, hp, e⟩ := List.mem_map.mp hy
  exact ⟨r, hr, p, hp, e⟩
theorem rns_exist : ∀ T : List (List (List Pl)), ∃ Z : List Rn, Z.map (·.1) = T ∧ ∀ z ∈ Z, AscOf z.2 (inR z.1)
  | [] => ⟨[], rfl, fun _ h => by cases h⟩
  | R :: T => by
    obtain ⟨Z, h1, h2⟩ := rns_exist T
    obtain ⟨ys, hy⟩ := asc_exists R
    refine ⟨(R, ys) :: Z, by rw [List.map_cons, h1], fun z hz => ?_⟩
    rcases List.mem_cons.mp hz with rfl | hz
    · exact hy
    · exact h2 z hz
theorem rns_same : ∀ {Z Z2 : List Rn}, Z.map (·.1) = Z2.map (·.1) → (∀ z ∈ Z, AscOf z.2 (inR z.1)) → (∀ z ∈ Z2, AscOf z.2 (inR z.1)) → Z = Z2
  | [], [], _, _, _ => rfl
  | [], _ :: _, h, _, _ => by cases h
  | _ :: _, [], h, _, _ => by cases h
  | z :: Z, w :: W, h, h1, h2 => by
    rw [List.map_cons, List.map_cons, List.cons.injEq] at h
    have e1 := h1 z (by simp)
    have e2 := h2 w (by simp)
    rw [← h.1] at e2
    rw [Prod.ext h.1 (asc_same e1 e2), rns_same h.2 (fun x hx => h1 x (by simp [hx])) fun x hx => h2 x (by simp [hx])]
end TB

/-! An __init__ with defaults, all its arguments given. -/
namespace DL
open PySem L2 PySem.Spec PyProof.Rows
section
variable {P : Program} {w : World} {K : PySem.W.Frag} {mg : Str → Option Value} {base : Heap}
abbrev FunDs (K : PySem.W.Frag) (x qual : Str) (st : Stmt) (dvs : List V) (f : Addr) (fd : FuncData) : Prop := FunD K x qual (defArgs st) (defBody st) (defScope st) dvs [] f fd
theorem fn_ID {x0 qual : Str} {st : Stmt} {f : Addr} {fd : FuncData} {n0 : Str} {N ps : List Str} {k n : Nat} {C : Addr} {ns : List Str} {tf : Tfs} {dvs : List V} (F : FunDs K x0 qual st dvs f fd) (S : FnScope (n0 :: N) ps (defScope st)) (hn : ps.length = n + 1)
    (hbody : ∀ (rg : Rg) (cdv : Value) (A : Around) (outer : List Env) (s : Shared) (H : Hp) (E : XK), Room k (A.deeper (envOfC qual (defScope st) s.heap.objs.size f cdv)) →
      ∃ ts t, DSs (cxOf CX0 P w K mg base (n0 :: N) qual (defScope st) f cdv A outer s H E).nox K rg (defBody st) ts t ∧ ∀ x ds Qd, tf rg ds Qd → ds.length = n →
        t { nx := fun env => ∃ es, env[0]? = some (some (.self x C ns es)) ∧ Qd es, rt := fun _ => False } (startI (n0 :: N).length x C ds)) :
    FnOk P w K mg base CX0 (k + 1) f fd ps (spI K C ns n tf) := by
  refine FunD.ok F S (fun vs H Q E h => ?_) (fun cdv A outer s H vs Q E hr h => ?_)
  · obtain ⟨_, _, _, args, _, _, rfl, _, _, _, _, _, _, hl, _⟩ := h
    rw [hn, List.length_cons, hl]
  obtain ⟨c, x, dx, args, ds, Qd, rfl, ok, hP, hx, r, j, dom, hl, ht, out⟩ := h
  obtain ⟨ts, t, hd, hs⟩ := hbody c.rg cdv A outer s H E hr
  refine ⟨ts, hd.ps.nox, ?_⟩
  refine hd.rf c rfl _ H _ _ H _ _ (sd_startI ok hP hx r j dom) (hs x ds Qd ht (by rw [← RpAll.length r]; exact hl)) (fun env' σ' H' q S' => ?_) (fun _ _ _ q => q.elim) (fun _ _ _ _ q => q.elim) (fun _ _ _ q => q.elim) (fun _ _ _ q => q.elim)
  obtain ⟨es, he, q⟩ := q
  obtain ⟨v, hv, _, _, dx', ws, h1, h2, h3⟩ := S'.sl 0 _ he
  exact out es _ ws H' q S'.kp S'.j h1 h2 (RpAll.anti (fun _ _ _ z => .inl z) h3)
theorem funD_mk {x qual : Str} {st : Stmt} {f T : Addr} {oc : Value} {od an : Option Addr} {osl : Array (Option Value)} {kV doc pm cdv ct : Value} {o : Obj} {its : Array Value} {n : Nat} {dvs : List V}
    (l : K.lookup f = some ⟨oc, od, .func (PySem.W.fnOf x qual (defArgs st) (defBody st) (defScope st) (.ref T) kV doc pm an cdv ct), osl⟩)
    (c : PySem.W.codeIn K cdv qual = true) (k : PySem.W.keepIn K (.ref f) = true) (ne : dvs ≠ []) (lT : K.lookup T = some o) (oT : o.data = .seq its n) (r : Vals dvs its.toList) : FunDs K x qual st dvs f (PySem.W.fnOf x qual (defArgs st) (defBody st) (defScope st) (.ref T) kV doc pm an cdv ct) :=
  ⟨⟨oc, od, .ref T, kV, doc, pm, an, cdv, ct, osl, rfl, l, c, .inr ⟨ne, T, o, its.toList, n, rfl, lT, by simpa using oT, r⟩, .inl rfl⟩, k⟩
/-- all arguments given -/
theorem funD_all {x qual : Str} {st : Stmt} {f : Addr} {fd : FuncData} {ps : List Str} {dvs : List V} (F : FunDs K x qual st dvs f fd) (hd : dvs ≠ [])
    (h : ∀ (T : Addr) (kV doc pm : Value) (an : Option Addr) (cdv ct : Value) (us its : List Value), us.length = ps.length → its.length = dvs.length →
      ∃ k, bindArgs (PySem.W.fnOf x qual (defArgs st) (defBody st) (defScope st) (.ref T) kV doc pm an cdv ct) ⟨us, []⟩ = seqItems? (.ref T) >>= k ∧ k (some its.toArray) = pure (ps.zip (us ++ its.drop dvs.length))) : Binds K fd ps [] := by
  obtain ⟨ds, rv, b⟩ := FunD.binds1 F ps.length dvs.length hd (by omega) h
  rw [List.drop_length] at rv
  cases rv
  exact b
end
end DL

/-! a, *b = a list. -/
namespace OL
open PySem PySem.Spec PyProof.Rows
section
variable {prog : Program} {w : World} {A : Around} {E : Value → Shared → Prop}
theorem assign_star1 {env : Env} {elts : List Expr} {x1} {pos : Pos} {l : Addr} {v : Value} {vs : List Value} {items : Array Value} {s : Shared} {Q : Unit → Shared → Prop} (hh : A.handled = none) (hl : s.heap.IsList l items) (hn : (assignEach elts env).length = 2) (hs : (assignEach elts env).findIdx? (·.1) = some 1)
    (hv : items.toList = v :: vs) (hz : items.size ≤ sizeLine)
    (h : ∀ h' tk, Heap.ExtBut s.heap.objs.size s.heap h' → wpAny (model prog w) A (assignInOrder ((assignEach elts env).map (·.2)) [v, .ref h'.objs.size]) Q E { s with heap := h'.push { cls := .type "list", data := .seq vs.toArray }, toks := tk }) : wpAny (model prog w) A (assign (.Tuple elts x1 pos) env (.ref l)) Q E s := by
  have hlt : l ≠ s.heap.objs.size := by obtain ⟨o, ho, _⟩ := hl; exact Nat.ne_of_lt (Heap.lt_size ho)
  have hsz : items.size = vs.length + 1 := by rw [← Array.length_toList, hv, List.length_cons]
  rw [assign_Tuple]
  refine wpAny_bind (wpAny_standAt ?_)
  unfold unpack
  rw [hn, hs]
  refine wpAny_bind (wpAny_holding ?_)
  unfold unpackItems
  refine wpAny_bind ?_
  unfold notIterableAtAll
  refine wpAny_bind (wpAny_specialOf hl.typeIs slot_list_iter.lookup ?_)
  refine wpAny_pure ?_
  simp only [Bool.false_eq_true, if_false]
  refine wpAny_bind (wpAny_holding (wpAny_pyIter_list hl ?_))
  refine wpAny_bind (wpAny_holding (PySem.W.kun_draw hlt 1 0 _ _ ⟨_, Heap.get?_push_size _ rfl, rfl, rfl⟩ (hl.push _) (by omega) fun h₁ hit₁ hs₁ => ?_))
  have hl₁ : h₁.IsList l items := (hl.push _).extBut hs₁.extBut hlt
  rw [Nat.zero_add] at hit₁
  have hit₁' := hit₁
  obtain ⟨oi, hoi, _⟩ := hit₁'
  have hl₁' := hl₁
  obtain ⟨ol, hol, _⟩ := hl₁'
  rw [List.drop_zero, hv]
  rw [if_neg (by simp)]
  refine wpAny_bind (wpAny_holding (PySem.W.kun_collect (s := { s with heap := h₁ }) (T := "list_iterator") (.inr (.inr (.inl rfl))) (Walks.list (A := A.in1) hh s.heap.objs.size l hlt items) (fun j u st => st.1.typeIs) (k := 1) (by omega) ⟨hit₁, hl₁⟩ (Heap.lt_size hoi) (Heap.lt_size hol) (fun h₂ tk hk => ?_) hz))
  rw [hv]
  show wpAny _ _ (if vs.length < 2 - 1 - 1 then _ else _) _ _ _
  rw [if_neg (by omega)]
  show wpAny _ _ (newList (vs.take (vs.length - (2 - 1 - 1))) >>= fun d => pure ([v] ++ [d] ++ vs.drop (vs.length - (2 - 1 - 1)))) _ _ _
  rw [show vs.length - (2 - 1 - 1) = vs.length by omega, List.take_length, List.drop_length]
  have he : Heap.ExtBut s.heap.objs.size s.heap h₂ := fun b o hb e => hk b o hb (hs₁.extBut b o hb (Heap.get?_push_of_some _ e))
  exact wpAny_bind (wpAny_newList (wpAny_pure (h h₂ tk he)) (by omega))
end
end OL
namespace DL
open PySem L2 PySem.Spec PyProof.Rows
def gStar1 (K : PySem.W.Frag) (t : TGs) : TG := fun v σ H Q => ∃ a x xs, v = .ref a ∧ SqL K H a (x :: xs) ∧ ∀ p, H p = none → t [x, .ref p] σ (upd H p (.lst xs)) Q
section
variable {X : Cx} {K : PySem.W.Frag} {rg : Rg} {t1 t2 e : Expr} {gs : TGs} {sgs : SGs} {vs : List Nat} {pos pos' p3 : Pos} {k : Nat} {te : TE} {x : TD}
theorem pg_star1 (hc : X.calm = true) (h : PGs X [t1, t2] gs) (he : (assignEach [t1, .Starred t2 p3] X.env).map (·.2) = (assignEach [t1, t2] X.env).map (·.2) := by rfl) (hn : (assignEach [t1, .Starred t2 p3] X.env).length = 2 := by rfl) (hst : (assignEach [t1, .Starred t2 p3] X.env).findIdx? (·.1) = some 1 := by rfl) : PG X (.Tuple [t1, .Starred t2 p3] k pos) (gStar1 X.K gs) := by
  refine ⟨fun pins s σ H v u Q I r hw => ?_⟩
  obtain ⟨a, x, xs, rfl, hq, hw⟩ := hw
  cases r
  obtain ⟨its, rv, p, hz⟩ := I.list hq
  obtain ⟨u, us, rfl, ru, rus⟩ : ∃ u us, its = u :: us ∧ RelV x u ∧ Vals xs us := by
    cases rv with
    | cons a b => exact ⟨_, _, rfl, a, b⟩
  refine OL.assign_star1 (I.ok.hd hc) p.isList hn hst (v := u) (vs := us) (by simp) (by simp only [List.length_cons] at hz; rw [List.size_toArray, List.length_cons, ← rus.length]; exact hz) fun h' tk hx => ?_
  rw [he]
  have I1 : Inv X pins σ H { s with heap := h', toks := tk } := I.kept (t' := tk) fun b o e => hx b o (Nat.ne_of_lt (Heap.lt_size e)) e
  have hf : H h'.objs.size = none := I1.hok.fresh (Nat.le_refl _)
  have hz2 : xs.length ≤ sizeLine := by
    simp only [List.length_cons] at hz; omega
  have I2 : Inv X pins σ (upd H h'.objs.size (.lst xs)) { s with heap := h'.push { cls := .type "list", data := .seq us.toArray }, toks := tk } :=
    I1.laid (t' := tk) (fun b u e => Heap.get?_push_of_some _ e) (Nat.le_refl _) ⟨hz2, us, 0, rus, Heap.get?_push_size _ rfl⟩
  exact h.run pins _ σ _ [x, .ref h'.objs.size] [u, .ref h'.objs.size] Q I2 (.cons ru (.cons rfl .nil)) (hw _ hf)
/-- a, *b = e -/
def sStarU (sgs : SGs) (x : TD) : TDS := fun Dd env => x env fun d => match d with | .lst (z :: zs) => sgs [z, .lst zs] env Dd.nx | _ => False
theorem ds_star1 (hc : X.calm = true) (he : DP X K rg e te x) (hg : DGs X K rg [t1, t2] gs sgs vs) (hs : swapsWithSole [.Tuple [t1, .Starred t2 p3] k pos] e pos'.line X.env = pure false := by rfl) (hw : swappedStores [.Tuple [t1, .Starred t2 p3] k pos] e X.env = pure none := by rfl)
    (h1 : (assignEach [.Tuple [t1, .Starred t2 p3] k pos] X.env).map (·.2) = [assign (.Tuple [t1, .Starred t2 p3] k pos) X.env] := by rfl) (hee : (assignEach [t1, .Starred t2 p3] X.env).map (·.2) = (assignEach [t1, t2] X.env).map (·.2) := by rfl) (hn : (assignEach [t1, .Starred t2 p3] X.env).length = 2 := by rfl) (hst : (assignEach [t1, .Starred t2 p3] X.env).findIdx? (·.1) = some 1 := by rfl) :
    DS X K rg (.Assign [.Tuple [t1, .Starred t2 p3] k pos] e pos') (tAsg te (gStar1 K gs)) (sStarU sgs x) := by
  cases he.kx
  exact ⟨rfl, ps_asg he.pe (pg_star1 hc hg.pg hee hn hst) hs hw h1, fun c hc pn H0 env σ H Dd De S h n r ro bk ct =>
  he.rf c hc pn H0 env σ H _ _ S h fun d v H' q kk j rr => by
    have S1 : Sd X.K c pn H0 env σ H' := by subst hc; exact S.grow kk j
    unfold sStarU at *
    split at q
    · rename_i z zs
      cases rr with
      | lst m e a =>
        cases a with
        | cons r1 r2 =>
          refine ⟨_, _, _, rfl, SqL.of e, fun p hp => ?_⟩
          have S2 : ∀ ws : List V, Sd X.K c pn H0 env σ (upd H' p (.lst ws)) := fun ws => S1.grow (Keep.upd_new hp) (fresh_j S.ok S1.j hp)
          exact hg.rf c hc pn H0 env σ _ _ _ _ _ (S2 _) (.cons (Rp.keep (Keep.upd_new hp) r1) (.cons (.lst (fun z => S1.domM p z hp) upd_same (RpAll.keep (Keep.upd_new hp) r2)) .nil)) q fun env' σ' q' S' _ _ => n _ _ _ q' S'
    · exact q.elim⟩
end
end DL

/-! len(set(a tuple of texts)). -/
namespace SG
open PySem PySem.Spec PyProof.Rows L2
section
variable {P : Program} {w : World} {A : Around} {R : Result → Shared → Prop} {E : Value → Shared → Prop} {s : Shared}
set_option maxHeartbeats 3200000 in
theorem set_textsT {l : Addr} {items : Array Value} {ns : List Str} {Q : Value → Shared → Prop} (hh : A.handled = none) (hl : s.heap.IsTuple l items) (hi : StrsAre items.toList ns) (few : items.size + 1 < scanBound)
    (h : ∀ (h' : Heap) (tk : Nat) (xs : List Str), At (PySem.strKind P w) h' s.heap.objs.size xs → First (fun i => ns.getD i "") items.size xs → (∀ b o, s.heap.get? b = some o → h'.get? b = some o) → Q (.ref s.heap.objs.size) { s with heap := h', toks := tk }) :
    wpAny (model P w) A (call (.type "set") [.ref l]) Q E s := by
  obtain ⟨_, _, mro⟩ := PySem.F.called_set.mro
  have made := PySem.F.called_set.made
  have subs := PySem.F.called_set.sub
  have c1 := PySem.F.called_set.notType
  have c2 := PySem.F.called_set.canCreate
  have c3 := PySem.F.typeCall_set_1 (.ref l)
  refine wpAny_call (codeAny_of_tree ?_)
  show wpAny _ _ (callAny (.type "set") _) _ _ _
  refine wpAny_pure ⟨Code.quiet_builtin _ (by decide +kernel), codeAny_builtin F.entry_type_call ?_⟩
  rw [Around.under_plain (weight_type_call_type "set" [.ref l] []) rfl]
  repeat (any_goals (first | assumption | wp_step))
  refine codeAny_mono (new_one (.ref l) (E := E) (Q1 := fun v z => v = .ref s.heap.objs.size ∧ z = { s with heap := s.heap.push { cls := .type "set", dict := none, data := .set #[] 0 (.fresh 0 0 (!w.params.followText "set-order")) } }) ⟨rfl, rfl⟩) fun r z hr => ?_
  match r, hr with
  | .error e, hr => exact hr
  | .ok (.ret v), hr =>
    obtain ⟨rfl, rfl⟩ := hr
    generalize hled : (!w.params.followText "set-order") = led
    have got : (s.heap.push { cls := .type "set", dict := none, data := .set #[] 0 (.fresh 0 0 led) }).get? s.heap.objs.size = some { cls := .type "set", dict := none, data := .set #[] 0 (.fresh 0 0 led) } := Heap.get?_push_size _ rfl
    have isT : Shared.TypeIs { s with heap := s.heap.push { cls := .type "set", dict := none, data := .set #[] 0 (.fresh 0 0 led) } } (.ref s.heap.objs.size) "set" := ⟨_, got, rfl⟩
    have li := PySem.F.called_set.init.lookup
    have bi := PySem.F.called_set.init.bind (.ref s.heap.objs.size)
    repeat (any_goals (first | assumption | wp_step))
    refine codeAny_mono (codeAny_call_builtin (R := wants (fun r z => r = .none ∧ ∃ h' tk xs, z = { s with heap := h', toks := tk } ∧ At (PySem.strKind P w) h' s.heap.objs.size xs ∧ First (fun i => ns.getD i "") items.size xs ∧ ∀ b o, s.heap.get? b = some o → h'.get? b = some o) E)
      PySem.F.called_set.init.plain F.entry_set_init (check_set_init_1 isT ?_)) fun r z hr => ?_
    · obtain ⟨⟨ocls, odict, odata, oslots⟩, hol, hcl, nl, hdl⟩ := hl
      simp only at hcl hdl
      subst hcl hdl
      generalize hS : s.heap.push { cls := .type "set", dict := none, data := .set #[] 0 (.fresh 0 0 led) } = hp1 at got isT ⊢
      have sz1 : hp1.objs.size = s.heap.objs.size + 1 := by rw [← hS, Heap.size_push]
      have lst : hp1.get? l = some { cls := .type "tuple", dict := odict, data := .seq items nl, slots := oslots } := by rw [← hS]; exact Heap.get?_push_of_some _ hol
      have isL : hp1.IsTuple l items := ⟨_, lst, rfl, nl, rfl⟩
      have b1 := PySem.F.sub_tuple_set
      have b2 := PySem.F.sub_tuple_frozenset
      have b3 : (Value.type "tuple" == Value.type "dict") = false := by decide
      unfold Builtin.«set.__init__» noKeywords Builtin.Frozenset.updateFrom
      generalize hPI : pyIter = walkOf
      wp_walk
      subst hPI
      refine wpAny_pyIter_tuple isL (wpAny_bind (wpAny_runValue ?_))
      have lS : l < s.heap.objs.size := Heap.lt_size hol
      have apart : l ≠ hp1.objs.size := by rw [sz1]; exact Nat.ne_of_lt (Nat.lt_succ_of_lt lS)
      have outS : s.heap.objs.size ∉ [hp1.objs.size, l] := by
        rw [sz1]
        simp only [List.mem_cons, List.not_mem_nil, or_false, not_or]
        exact ⟨Nat.ne_of_lt (Nat.lt_succ_self _), Nat.ne_of_gt lS⟩
      have at0 : At (PySem.strKind P w) (hp1.push { cls := .type "tuple_iterator", data := .fields #[.ref l, .int 0 0] }) s.heap.objs.size [] := by
        have z : At (PySem.strKind P w) hp1 s.heap.objs.size [] := by rw [← hS, ← hled]; exact At.fresh
        exact z.at fun o e => Heap.get?_push_of_some _ e
      refine fill ((Walks.tuple (by simp [hh]) _ l apart items).toS) s.heap.objs.size outS (fun i => ns.getD i "") (fun i v hv => strs_at hi i v (by rw [Array.getElem?_toList]; exact hv)) few (items.size - 0) 0 _ [] (by omega) (Nat.zero_le _)
        ⟨⟨_, Heap.get?_push_size _ rfl, rfl, rfl⟩, isL.push _⟩ at0 ⟨Nat.le_refl _, fun y => by simp⟩ fun z' ys mv at1 f1 => ?_
      obtain ⟨h', g', d', tk', os'⟩ := z'
      have eg : g' = s.gens := mv.gens
      have ed : d' = s.drawn := mv.drawn
      have eo : os' = s.os := mv.os
      subst eg ed eo
      refine wpAny_pure ?_
      show wpAny _ _ (ret Value.none) _ _ _
      refine wpAny_pure ⟨rfl, h', tk', ys, rfl, at1, f1, fun b o e => ?_⟩
      have lb := Heap.lt_size e
      refine mv.heap b o (by simp only [List.mem_cons, List.not_mem_nil, or_false, not_or]; rw [sz1]; exact ⟨Nat.ne_of_lt lb, Nat.ne_of_lt (Nat.lt_succ_of_lt lb)⟩) (Heap.get?_push_of_some _ ?_)
      rw [← hS]
      exact Heap.get?_push_of_some _ e
    · match r, hr with
      | .error e, hr => exact hr
      | .ok (.ret r), hr =>
        obtain ⟨rfl, h', tk, xs, rfl, at1, f1, k1⟩ := hr
        repeat (any_goals (first | assumption | wp_step))
        exact h _ _ _ at1 f1 k1
end
end SG
namespace L2
open PySem PySem.Spec PyProof.Rows SG
def rSetTt (K : PySem.W.Frag) (P : Program) (w : World) : List V → Hp → VK → Prop := fun vs H Q => ∃ (a : Addr) (ts : List Str), vs = [.ref a] ∧ SqT K H a (ts.map V.str) ∧ ts.length < 1000 ∧
  ∀ (xs : List Str) (p : Addr), xs.Nodup → (∀ y, y ∈ xs ↔ y ∈ ts) → H p = none → Q (.ref p) (upd H p (SetS P w p xs))
theorem cr_setTt {X : Cx} (hc : X.calm = true) : CallR X (.type "set") (rSetTt X.K X.prog X.w) := by
  intro pins s σ H vs us Q I r h
  obtain ⟨a, ts, rfl, ha, few, q⟩ := h
  rw [Vals.ref1 r]
  obtain ⟨its, rv, il, hz⟩ := I.tuple ha
  have sa := texts_of_vals rv
  have len : its.length = ts.length := StrsAre.length sa
  refine set_textsT (items := its.toArray) (ns := ts) (I.ok.hd hc) il (by simpa using sa) (by rw [List.size_toArray, len]; show _ < 4096; omega) fun h' tk xs at1 f1 k1 => ?_
  have free : H s.heap.objs.size = none := I.hok.fresh (Nat.le_refl _)
  have nd : xs.Nodup := at1.choose_spec.choose_spec.choose_spec.choose_spec.2.2.2.2.1
  refine ⟨.ref _, _, I.laid (t' := tk) k1 (Nat.le_refl _) (setS_new at1), rfl, q xs _ nd (fun y => (f1.2 y).trans ?_) free⟩
  rw [List.size_toArray, len]
  constructor
  · rintro ⟨j, hj, e⟩
    have e : ts.getD j "" = y := e
    have e' : ts.getD j "" = ts[j] := by rw [List.getD_eq_getElem?_getD, List.getElem?_eq_getElem hj]; rfl
    rw [← e, e']; exact List.getElem_mem hj
  · intro hy
    obtain ⟨j, hj, e⟩ := List.mem_iff_getElem.mp hy
    refine ⟨j, hj, ?_⟩
    show ts.getD j "" = y
    rw [List.getD_eq_getElem?_getD, List.getElem?_eq_getElem hj]; exact e
end L2
namespace L2
open PySem PySem.Spec PyProof.Rows SG
def rSetU (K : PySem.W.Frag) (P : Program) (w : World) : List V → Hp → VK → Prop := fun vs H Q => rSetTx P w vs H Q ∨ rSetTt K P w vs H Q
theorem cr_setU {X : Cx} (hc : X.calm = true) : CallR X (.type "set") (rSetU X.K X.prog X.w) := by
  intro pins s σ H vs us Q I r h
  rcases h with h | h
  · exact cr_setTx hc pins s σ H vs us Q I r h
  · exact cr_setTt hc pins s σ H vs us Q I r h
end L2
namespace DL
open PySem L2 SG PySem.Spec PyProof.Rows
section
variable {X : Cx} {K : PySem.W.Frag} {rg : Rg} {e : Expr} {te : TE} {t : TD}
def sLenSetU (t : TD) : TD := fun env Q => t env fun d => ∃ ts : List Str, (d = .lst (ts.map .str) ∨ d = .tup (ts.map .str)) ∧ ts.Nodup ∧ ts.length < 1000 ∧ Q (.int ts.length)
theorem d_lenSetU {x y : Str} {p py pos cpos : Pos} (hc : X.calm = true) (hg0 : Gl X x) (hm0 : X.mg x = none) (hv0 : bootBuiltins x = some (.builtin "len")) (hg1 : Gl X y) (hm1 : X.mg y = none) (hv1 : bootBuiltins y = some (.type "set")) (h : DO X K rg e te t)
    (hn : x ≠ "__name__" := by decide) (hdb : (x == ("__debug__" : Str)) = false := by decide) (hn1 : y ≠ "__name__" := by decide) (hdb1 : (y == ("__debug__" : Str)) = false := by decide) (hse : starEach [e] X.env = (false, eval e X.env) :: starEach [] X.env := by rfl)
    (hst : starEach [.Call (.Name y py) [e] [] pos] X.env = (false, eval (.Call (.Name y py) [e] [] pos) X.env) :: starEach [] X.env := by rfl) :
    DP X K rg (.Call (.Name x p) [.Call (.Name y py) [e] [] pos] [] cpos) (tCB (rLenT X.prog X.w) (tCons (tCB (rSetU X.K X.prog X.w) (tCons te tNil)) tNil)) (sLenSetU t) := by
  cases h.kx
  refine ⟨rfl, pe_callB cr_lenT hg0 hm0 hv0 (pa_cons (pe_callTy (cr_setU hc) hg1 hm1 hv1 (pa_cons h.pe pa_nil hse) hn1 hdb1 hse rfl) pa_nil hst) hn hdb hst rfl, fun c hcc pn H0 env σ H Qd Q S hq k => ?_⟩
  refine h.rf c hcc pn H0 env σ H _ _ S hq fun d v H1 q1 k1 j1 r1 => ?_
  subst hcc
  obtain ⟨ts, hd, nd, few, q1⟩ := q1
  have fin : ∀ (xs : List Str) (q : Addr), xs.Nodup → (∀ y, y ∈ xs ↔ y ∈ ts) → H1 q = none → rLenT X.prog X.w [.ref q] (upd H1 q (SetS X.prog X.w q xs)) Q := fun xs q nd2 mem hq => by
    have le1 := nodup_le nd2 fun z hz => (mem z).mp hz
    have le2 := nodup_le nd fun z hz => (mem z).mpr hz
    have el : xs.length = ts.length := Nat.le_antisymm le1 le2
    refine ⟨q, xs, rfl, upd_same, ?_⟩
    rw [el]
    exact k _ _ _ q1 (fresh_keep k1 (o := SetS X.prog X.w q xs) hq) (fresh_j S.ok j1 (o := SetS X.prog X.w q xs) hq) (.int _)
  rcases hd with rfl | rfl
  · obtain ⟨a, us, rfl, e1, ra⟩ := r1.lst
    have eu := strs_vals ra
    subst eu
    exact .inl ⟨a, ts, rfl, e1, few, fin⟩
  · obtain ⟨a, us, rfl, e1, ra⟩ := r1.tup
    have eu := strs_vals ra
    subst eu
    exact .inr ⟨a, ts, rfl, e1, few, fin⟩
end
end DL

/-! int(text). -/
namespace DL
open PySem L2 PySem.Spec PyProof.Rows
section
variable {X : Cx} {K : PySem.W.Frag}
theorem mt_startsT : MtR X "str.startswith" (fun x xs H Q => ∃ a b, x = .str a ∧ xs = [.str b] ∧ True ∧ Q (.bl (Txt.startswith a b)) H) := fun pins s σ H x xs v us Q I r rs ⟨a, b, e1, e2, _, q⟩ => mt_startswith pins s σ H x xs v us Q I r rs ⟨a, b, e1, e2, q⟩
def fIntS : FL := fun ds Q => match ds with | [.str a] => ∃ n, PySem.intText? a = some n ∧ a.length ≤ 640 ∧ Q (.int n) | _ => False
theorem cad_intS : CaD K (fun xs H Q => ∃ a n, xs = [.str a] ∧ PySem.intText? a = some n ∧ a.length ≤ 640 ∧ Q (.int n) H) fIntS := by
  intro M0 M H vs ds Qd Q hM r hf k
  unfold fIntS at hf
  split at hf
  · obtain ⟨v, rfl, r1⟩ := r.one
    obtain ⟨n, h1, h2, q⟩ := hf
    rw [r1.str]
    exact ⟨_, _, rfl, h1, h2, k _ _ H q (Same.refl H) (.int _)⟩
  · exact hf.elim
def fStrI : FL := fun ds Q => match ds with | [.int i] => i.natAbs.log2 < 1920 ∧ Q (.str (toString i)) | _ => False
theorem cad_strI : CaD K (fun xs H Q => ∃ i, xs = [.int i] ∧ i.natAbs.log2 < 1920 ∧ Q (.str (toString i)) H) fStrI := by
  intro M0 M H vs ds Qd Q hM r hf k
  unfold fStrI at hf
  split at hf
  · obtain ⟨v, rfl, r1⟩ := r.one
    obtain ⟨h1, q⟩ := hf
    rw [r1.int]
    exact ⟨_, rfl, h1, k _ _ H q (Same.refl H) (.str _)⟩
  · exact hf.elim
end
end DL

/-! sorted(a list or a tuple of texts). -/
namespace SG
open PySem PySem.Spec PyProof.Rows L2
section
variable {P : Program} {w : World} {A : Around} {E : Value → Shared → Prop} {s : Shared} {a : Addr} {xs : List Str}
theorem sorted_tup {its : Array Value} {Q : Value → Shared → Prop} (ht : s.heap.IsTuple a its) (sk : StrsAre its.toList xs) (few : xs.length < 64)
    (hQ : ∀ (h' h2 : Heap) (out : Array Value) (c : Nat) (ys : List Str), (∀ b o, s.heap.get? b = some o → h'.get? b = some o) → (∀ b o, h'.get? b = some o → h2.get? b = some o) → h2.get? h'.objs.size = some (seqObj "list" out c) → StrsAre out.toList ys → ys.Perm xs → sortedS ys = true → Q (.ref h'.objs.size) { s with heap := h2 }) :
    wpAny (model P w) A (call (.builtin "sorted") [.ref a]) Q E s := by
  obtain ⟨o, got, cls, n, dat⟩ := ht
  refine Calls.call_function_entry kind_sorted plain_sorted entry_sorted (args_sorted1 _) ?_
  unfold Builtin.«sorted»
  refine wpAny_bind (m := checkCount "sorted" 1 1 _) (wpAny_pure ?_)
  have lz : its.toList.length < 64 := by rw [sk.length]; exact few
  refine wpAny_bind (wpAny_collect_seq a (.inr rfl) got cls dat (fun h' k1 => ?_) (by rw [← Array.length_toList, sizeLine_eq]; omega))
  have lv : its.toList.length < 64 := lz
  refine wpAny_bind (wpAny_newList ?_ (by rw [sizeLine_eq]; omega))
  have new : (h'.push (seqObj "list" its.toList.toArray 0)).get? h'.objs.size = some (seqObj "list" its.toList.toArray 0) := Heap.get?_push_size _ rfl
  refine wpAny_bind (wpAny_holding (wpAny_call_entry slot_list_sort ⟨_, new, rfl⟩ entry_list_sort (list_sort_treeK strKind_oneLt new sk.keysOf (fun v1 v2 rest e => keyKind_strs (by rw [← e]; exact sk)) lv fun st' p1 p2 => ⟨_, rfl, ?_⟩) (args_list_sort _)))
  obtain ⟨ys, y1, y2, y3⟩ := sorted_out_str sk p1 p2
  generalize Array.map (fun x : Keyed => x.2) (arrOf st') = out at y1 ⊢
  obtain ⟨c, hc⟩ := sortedHeap_at (vs := its.toList) (out := out) new
  have old : ∀ b u, h'.get? b = some u → (sortedHeap (h'.push (seqObj "list" its.toList.toArray 0)) h'.objs.size its.toList out).get? b = some u := fun b u q => by
    have lt := Heap.lt_size q
    rw [sortedHeap_old (Nat.ne_of_lt lt) (by rw [size_push']; exact Nat.lt_succ_of_lt lt), Heap.get?_push_of_some _ q]
  exact wpAny_pure ⟨_, rfl, hQ h' _ out c ys k1 old hc y1 y2 y3⟩
end
end SG
namespace L2
open PySem PySem.Spec PyProof.Rows SG
def rSortedST (K : PySem.W.Frag) : List V → Hp → VK → Prop := fun vs H Q => ∃ (a : Addr) (xs : List Str), vs = [V.ref a] ∧ SqT K H a (xs.map V.str) ∧ xs.length < 64 ∧
  ∀ (ys : List Str) (p : Addr), ys.Perm xs → sortedS ys = true → H p = none → Q (.ref p) (upd H p (.lst (ys.map V.str)))
def rSortedU (K : PySem.W.Frag) : List V → Hp → VK → Prop := fun vs H Q => rSortedS K vs H Q ∨ rSortedST K vs H Q
theorem cr_sortedU {X : Cx} : CallR X (.builtin "sorted") (rSortedU X.K) := by
  intro pins s σ H vs us Q I r h
  rcases h with h | h
  · exact cr_sortedS pins s σ H vs us Q I r h
  obtain ⟨a, xs, rfl, ha, few, q⟩ := h
  rw [Vals.ref1 r]
  obtain ⟨its, rv, ht, _⟩ := I.tuple ha
  refine sorted_tup ht (by simpa using rv.strs) few fun h' h2 out c ys k1 k2 hg st pm so => ?_
  have I1 : Inv X pins σ H { s with heap := h' } := I.kept (t' := s.toks) k1
  have len : (ys.map V.str).length ≤ sizeLine := by rw [List.length_map, pm.length_eq, sizeLine_eq]; omega
  have free : H h'.objs.size = none := I1.hok.fresh (Nat.le_refl _)
  exact ⟨.ref h'.objs.size, upd H h'.objs.size (.lst (ys.map V.str)), I1.laid (t' := s.toks) k2 (Nat.le_refl _) ⟨len, out.toList, c, vals_of_strs st, by rw [Array.toArray_toList]; exact hg⟩, rfl, q ys _ pm so free⟩
end L2
namespace DL
open PySem L2 PySem.Spec PyProof.Rows
section
variable {X : Cx} {K : PySem.W.Frag}
theorem cl_sortedU (hK : X.K = K := by rfl) : CallR X (.builtin "sorted") (rSortedU K) := by
  cases hK
  exact cr_sortedU
def fSortU : FL := fun ds Q => match ds with
  | [.lst es] => ∃ zs : List Str, es = zs.map D.str ∧ zs.length < 64 ∧ ∀ ys : List Str, ys.Perm zs → sortedS ys = true → Q (.lst (ys.map .str))
  | [.tup es] => ∃ zs : List Str, es = zs.map D.str ∧ zs.length < 64 ∧ ∀ ys : List Str, ys.Perm zs → sortedS ys = true → Q (.lst (ys.map .str))
  | _ => False
theorem cad_sortedU : CaD K (rSortedU K) fSortU := by
  intro M0 M H vs ds Qd Q hM r hf k
  unfold fSortU at hf
  split at hf
  · obtain ⟨zs, rfl, hz, q⟩ := hf
    obtain ⟨v, rfl, r1⟩ := r.one
    obtain ⟨p, ws, rfl, h1, a1⟩ := r1.lst
    have e := RpAll.ofStrs zs a1
    subst e
    refine .inl ⟨p, zs, rfl, SqL.of h1, hz, fun ys l hp hs hl => ?_⟩
    exact k _ _ _ (q ys hp hs) (fun b o e => by rw [upd_ne (ne_of_none e hl)]; exact e) (.lst (fun z => hM l z hl) upd_same (RpAll.strs ys))
  · obtain ⟨zs, rfl, hz, q⟩ := hf
    obtain ⟨v, rfl, r1⟩ := r.one
    obtain ⟨p, ws, rfl, h1, a1⟩ := r1.tup
    have e := RpAll.ofStrs zs a1
    subst e
    refine .inr ⟨p, zs, rfl, h1, hz, fun ys l hp hs hl => ?_⟩
    exact k _ _ _ (q ys hp hs) (fun b o e => by rw [upd_ne (ne_of_none e hl)]; exact e) (.lst (fun z => hM l z hl) upd_same (RpAll.strs ys))
  · exact hf.elim
end
end DL

/-! == and != of tuples whose items have a == of their own: with any answer. -/
namespace GQ
open PySem PySem.SeqAt
open AutoSeq1 (wpAny_loadPart')
open MeetsSeq MeetsSeq2 MeetsSeq3 SeqRoads2
section
variable {prog : Program} {w : World} {A : Around} {R : Result → Shared → Prop}
theorem tuple_eqB (l b : Addr) (items items2 : Array Value) (n n2 : Nat) (dd dd2 : Option Addr) (sl sl2 : Array (Option Value)) (e : Nat → Bool) (I : Nat → Shared → Prop)
    (turn : ∀ i (h1 : i < items.size) (h2 : i < items2.size) s, I i s → wpAny (model prog w) A.in1 (eqBool items[i] items2[i]) (fun r s' => r = e i ∧ I (i + 1) s') (fun e s' => R (.error e) s') s)
    (fin : ∀ i s, I i s → R (.ok (.ret (.bool ((List.range (min items.size items2.size)).all e && items.size == items2.size)))) s) {s : Shared} (hl1 : s.heap.get? l = some { cls := .type "tuple", dict := dd, data := .seq items n, slots := sl }) (hb1 : s.heap.get? b = some { cls := .type "tuple", dict := dd2, data := .seq items2 n2, slots := sl2 }) (h : I 0 s) :
    wpAny (model prog w) A.in1 (Builtin.«tuple.__eq__» ⟨[.ref l, .ref b], []⟩) (FinOf prog w A R) (fun e s' => R (.error e) s') s := by
  have f2 := AutoSeq1.sub_tuple_tuple
  have hZ : (items.toList.zip items2.toList).length = min items.size items2.size := by simp
  have h0 := h
  obtain ⟨hp, g, d, tk, os⟩ := s
  wp_walk using wpAny_loadPart' hl1, wpAny_loadPart' hb1, wpAny_forIn_list _ (fun rest b s' => b.1 = none ∧ ∃ i, rest = (items.toList.zip items2.toList).drop i ∧ I i s' ∧ (List.range (min items.size items2.size)).all e = ((List.range (min items.size items2.size)).drop i).all e) _
  case turn =>
    rintro ⟨y, x⟩ rest b s' ⟨hb', i, hz, hI, hA⟩
    have hlt : i < (items.toList.zip items2.toList).length := by
      rcases Nat.lt_or_ge i (items.toList.zip items2.toList).length with h' | h'
      · exact h'
      · rw [List.drop_of_length_le h'] at hz; cases hz
    have hm : i < min items.size items2.size := hZ ▸ hlt
    have h1 : i < items.size := Nat.lt_of_lt_of_le hm (Nat.min_le_left _ _)
    have h2 : i < items2.size := Nat.lt_of_lt_of_le hm (Nat.min_le_right _ _)
    rw [List.drop_eq_getElem_cons hlt] at hz
    injection hz with hyx hrest
    have hy : y = items[i] := by have := congrArg Prod.fst hyx; simpa using this
    have hx : x = items2[i] := by have := congrArg Prod.snd hyx; simpa using this
    subst hy hx
    have hd : (List.range (min items.size items2.size)).drop i = i :: (List.range (min items.size items2.size)).drop (i + 1) := by simp [List.drop_eq_getElem_cons, hm]
    rw [hd, List.all_cons] at hA
    refine wpAny_bind (wpAny_mono (turn i h1 h2 s' hI) (fun r s2 q2 => ?_) fun _ _ x => x)
    obtain ⟨hr, q2⟩ := q2
    subst hr
    cases hy : e i with
    | true =>
      rw [hy, Bool.true_and] at hA
      wp_walk
      exact ⟨rfl, i + 1, hrest, q2, hA⟩
    | false =>
      rw [hy, Bool.false_and] at hA
      have hR := fin (i + 1) s2 q2
      rw [hA, Bool.false_and] at hR
      wp_walk
      exact hR
  case fin =>
    rintro ⟨b1, b2⟩ s' ⟨hb', i, hz, hI, hA⟩
    simp only at hb'
    subst hb'
    have hge : min items.size items2.size ≤ i := by
      rcases Nat.lt_or_ge i (items.toList.zip items2.toList).length with h' | h'
      · rw [List.drop_eq_getElem_cons h'] at hz; cases hz
      · exact hZ ▸ h'
    rw [List.drop_of_length_le (by simpa using hge)] at hA
    have hR := fin i s' hI
    rw [hA] at hR
    wp_walk
    simpa [Builtin.Tuple.tupleCompareSizes] using hR
  case h =>
    exact ⟨rfl, 0, rfl, h0, rfl⟩
theorem tuple_neB (l b : Addr) (items items2 : Array Value) (n n2 : Nat) (dd dd2 : Option Addr) (sl sl2 : Array (Option Value)) (e : Nat → Bool) (I : Nat → Shared → Prop)
    (turn : ∀ i (h1 : i < items.size) (h2 : i < items2.size) s, I i s → wpAny (model prog w) A.in1 (eqBool items[i] items2[i]) (fun r s' => r = e i ∧ I (i + 1) s') (fun e s' => R (.error e) s') s)
    (fin : ∀ i s, I i s → R (.ok (.ret (.bool (!((List.range (min items.size items2.size)).all e && items.size == items2.size))))) s) {s : Shared} (hl1 : s.heap.get? l = some { cls := .type "tuple", dict := dd, data := .seq items n, slots := sl }) (hb1 : s.heap.get? b = some { cls := .type "tuple", dict := dd2, data := .seq items2 n2, slots := sl2 }) (h : I 0 s) :
    wpAny (model prog w) A.in1 (Builtin.«tuple.__ne__» ⟨[.ref l, .ref b], []⟩) (FinOf prog w A R) (fun e s' => R (.error e) s') s := by
  have f2 := AutoSeq1.sub_tuple_tuple
  have hZ : (items.toList.zip items2.toList).length = min items.size items2.size := by simp
  have h0 := h
  obtain ⟨hp, g, d, tk, os⟩ := s
  wp_walk using wpAny_loadPart' hl1, wpAny_loadPart' hb1, wpAny_forIn_list _ (fun rest b s' => b.1 = none ∧ ∃ i, rest = (items.toList.zip items2.toList).drop i ∧ I i s' ∧ (List.range (min items.size items2.size)).all e = ((List.range (min items.size items2.size)).drop i).all e) _
  case turn =>
    rintro ⟨y, x⟩ rest b s' ⟨hb', i, hz, hI, hA⟩
    have hlt : i < (items.toList.zip items2.toList).length := by
      rcases Nat.lt_or_ge i (items.toList.zip items2.toList).length with h' | h'
      · exact h'
      · rw [List.drop_of_length_le h'] at hz; cases hz
    have hm : i < min items.size items2.size := hZ ▸ hlt
    have h1 : i < items.size := Nat.lt_of_lt_of_le hm (Nat.min_le_left _ _)
    have h2 : i < items2.size := Nat.lt_of_lt_of_le hm (Nat.min_le_right _ _)
    rw [List.drop_eq_getElem_cons hlt] at hz
    injection hz with hyx hrest
    have hy : y = items[i] := by have := congrArg Prod.fst hyx; simpa using this
    have hx : x = items2[i] := by have := congrArg Prod.snd hyx; simpa using this
    subst hy hx
    have hd : (List.range (min items.size items2.size)).drop i = i :: (List.range (min items.size items2.size)).drop (i + 1) := by simp [List.drop_eq_getElem_cons, hm]
    rw [hd, List.all_cons] at hA
    refine wpAny_bind (wpAny_mono (turn i h1 h2 s' hI) (fun r s2 q2 => ?_) fun _ _ x => x)
    obtain ⟨hr, q2⟩ := q2
    subst hr
    cases hy : e i with
    | true =>
      rw [hy, Bool.true_and] at hA
      wp_walk
      exact ⟨rfl, i + 1, hrest, q2, hA⟩
    | false =>
      rw [hy, Bool.false_and] at hA
      have hR := fin (i + 1) s2 q2
      rw [hA, Bool.false_and] at hR
      wp_walk
      exact hR
  case fin =>
    rintro ⟨b1, b2⟩ s' ⟨hb', i, hz, hI, hA⟩
    simp only at hb'
    subst hb'
    have hge : min items.size items2.size ≤ i := by
      rcases Nat.lt_or_ge i (items.toList.zip items2.toList).length with h' | h'
      · rw [List.drop_eq_getElem_cons h'] at hz; cases hz
      · exact hZ ▸ h'
    rw [List.drop_of_length_le (by simpa using hge)] at hA
    have hR := fin i s' hI
    rw [hA] at hR
    wp_walk
    simpa [Builtin.Tuple.tupleCompareSizes, bne] using hR
  case h =>
    exact ⟨rfl, 0, rfl, h0, rfl⟩

/-- at each turn the two lists are read anew: N items each, the i-th two compared -/
def ListB (prog : Program) (w : World) (A : Around) (E : Value → Shared → Prop) (l b : Addr) (N : Nat) (e : Nat → Bool) (I : Nat → Shared → Prop) : Prop :=
  ∀ i s, I i s → ∃ (items items2 : Array Value) (n n2 : Nat), s.heap.get? l = some { cls := .type "list", data := .seq items n } ∧ s.heap.get? b = some { cls := .type "list", data := .seq items2 n2 } ∧ items.size = N ∧ items2.size = N ∧
    ∀ (h1 : i < items.size) (h2 : i < items2.size), wpAny (model prog w) A.in1 (eqBool items[i] items2[i]) (fun r s' => r = e i ∧ I (i + 1) s') E s
theorem eq_loopB (l b : Addr) (N : Nat) (e : Nat → Bool) (I : Nat → Shared → Prop) (hl : ListB prog w A (fun e s' => R (.error e) s') l b N e I)
    (fin : ∀ i s, I i s → R (.ok (.ret (.bool ((List.range N).all e)))) s) (k : Nat) :
    ∀ i : Nat, N - i = k → i ≤ N → (List.range N).all e = ((List.range N).drop i).all e → ∀ s, I i s →
      wpAny (model prog w) A.in1 (Builtin.«list.__eq__.loop» ⟨[.ref l, .ref b, rawInt i, rawInt 2], []⟩) (FinOf prog w A R) (fun e s' => R (.error e) s') s := by
  induction k with
  | zero =>
    intro i hk hi hA s h
    obtain ⟨items, items2, n, n2, hl1, hb1, hs1, hs2, _⟩ := hl _ _ h
    have hi' : i = N := by omega
    have hR := fin i s h
    rw [hA, List.drop_of_length_le (by simp; omega)] at hR
    obtain ⟨hp, g, d, tk, os⟩ := s
    wp_walk using wpAny_loadPart' hl1, wpAny_loadPart' hb1
    have hi1 : items[((i : Nat) : Int).toNat]? = none := by simp; omega
    have hi2 : items2[((i : Nat) : Int).toNat]? = none := by simp; omega
    rw [hi1, hi2]
    wp_walk using wpAny_loadPart' hl1, wpAny_loadPart' hb1
    show R (.ok (.ret (.bool (items.size == items2.size)))) _
    rw [hs1, hs2]
    simpa using hR
  | succ k ih =>
    intro i hk hi hA s h
    obtain ⟨items, items2, n, n2, hl1, hb1, hs1, hs2, turn⟩ := hl _ _ h
    have hlt : i < items.size := by omega
    have hlt2 : i < items2.size := by omega
    have ht := turn hlt hlt2
    have hd : (List.range N).drop i = i :: (List.range N).drop (i + 1) := by
      have : i < N := by omega
      simp [List.drop_eq_getElem_cons, this]
    rw [hd, List.all_cons] at hA
    obtain ⟨hp, g, d, tk, os⟩ := s
    wp_walk using wpAny_loadPart' hl1, wpAny_loadPart' hb1
    have hi1 : items[((i : Nat) : Int).toNat]? = some items[i] := by simp [hlt]
    have hi2 : items2[((i : Nat) : Int).toNat]? = some items2[i] := by simp [hlt2]
    have hc : ((i : Int) + 1) = ((i + 1 : Nat) : Int) := by omega
    rw [hi1, hi2]
    refine wpAny_bind (wpAny_mono ht (fun r s2 h2 => ?_) fun _ _ x => x)
    obtain ⟨hr, h2⟩ := h2
    subst hr
    cases hy : e i with
    | true =>
      rw [hy, Bool.true_and] at hA
      have hrec := ih (i + 1) (by omega) (by omega) hA s2 h2
      obtain ⟨hp2, g2, d2, tk2, os2⟩ := s2
      wp_walk
      rw [hc]
      exact ⟨plainId_quiet plain_eq_loop _, codeAny_builtin entry_eq_loop (by
        rw [Around.under_plainId plain_eq_loop _]
        exact hrec)⟩
    | false =>
      rw [hy, Bool.false_and] at hA
      have hR := fin (i + 1) s2 h2
      rw [hA] at hR
      obtain ⟨items', items2', n', n2', hl1', hb1', hs1', hs2', _⟩ := hl _ _ h2
      obtain ⟨hp2, g2, d2, tk2, os2⟩ := s2
      wp_walk using wpAny_loadPart' hl1', wpAny_loadPart' hb1'
      have hi1' : items'[((i : Nat) : Int).toNat]? = some (items'[i]'(by omega)) := by simp
      have hi2' : items2'[((i : Nat) : Int).toNat]? = some (items2'[i]'(by omega)) := by simp
      rw [hi1', hi2']
      wp_walk
      simpa using hR
theorem list_eqB (l b : Addr) (N : Nat) (e : Nat → Bool) (I : Nat → Shared → Prop) (hl : ListB prog w A (fun e s' => R (.error e) s') l b N e I)
    (fin : ∀ i s, I i s → R (.ok (.ret (.bool ((List.range N).all e)))) s) {s : Shared} (h : I 0 s) :
    wpAny (model prog w) A.in1 (Builtin.«list.__eq__» ⟨[.ref l, .ref b], []⟩) (FinOf prog w A R) (fun e s' => R (.error e) s') s := by
  obtain ⟨items, items2, n, n2, hl1, hb1, hs1, hs2, _⟩ := hl _ _ h
  have hrec := eq_loopB (A := A) (R := R) l b N e I hl fin _ 0 rfl (Nat.zero_le _) rfl s h
  obtain ⟨hp, g, d, tk, os⟩ := s
  have f3 := AutoSeq1.sub_list_list
  have hne : ¬ (items.size != items2.size) = true := by simp [hs1, hs2]
  wp_walk using wpAny_loadPart' hl1, wpAny_loadPart' hb1
  exact ⟨plainId_quiet plain_eq_loop _, codeAny_builtin entry_eq_loop (by
    rw [Around.under_plainId plain_eq_loop _]
    exact hrec)⟩
theorem ne_loopB (l b : Addr) (N : Nat) (e : Nat → Bool) (I : Nat → Shared → Prop) (hl : ListB prog w A (fun e s' => R (.error e) s') l b N e I)
    (fin : ∀ i s, I i s → R (.ok (.ret (.bool (!(List.range N).all e)))) s) (k : Nat) :
    ∀ i : Nat, N - i = k → i ≤ N → (List.range N).all e = ((List.range N).drop i).all e → ∀ s, I i s →
      wpAny (model prog w) A.in1 (Builtin.«list.__eq__.loop» ⟨[.ref l, .ref b, rawInt i, rawInt 3], []⟩) (FinOf prog w A R) (fun e s' => R (.error e) s') s := by
  induction k with
  | zero =>
    intro i hk hi hA s h
    obtain ⟨items, items2, n, n2, hl1, hb1, hs1, hs2, _⟩ := hl _ _ h
    have hi' : i = N := by omega
    have hR := fin i s h
    rw [hA, List.drop_of_length_le (by simp; omega)] at hR
    obtain ⟨hp, g, d, tk, os⟩ := s
    wp_walk using wpAny_loadPart' hl1, wpAny_loadPart' hb1
    have hi1 : items[((i : Nat) : Int).toNat]? = none := by simp; omega
    have hi2 : items2[((i : Nat) : Int).toNat]? = none := by simp; omega
    rw [hi1, hi2]
    wp_walk using wpAny_loadPart' hl1, wpAny_loadPart' hb1
    show R (.ok (.ret (.bool (items.size != items2.size)))) _
    rw [hs1, hs2]
    simpa using hR
  | succ k ih =>
    intro i hk hi hA s h
    obtain ⟨items, items2, n, n2, hl1, hb1, hs1, hs2, turn⟩ := hl _ _ h
    have hlt : i < items.size := by omega
    have hlt2 : i < items2.size := by omega
    have ht := turn hlt hlt2
    have hd : (List.range N).drop i = i :: (List.range N).drop (i + 1) := by
      have : i < N := by omega
      simp [List.drop_eq_getElem_cons, this]
    rw [hd, List.all_cons] at hA
    obtain ⟨hp, g, d, tk, os⟩ := s
    wp_walk using wpAny_loadPart' hl1, wpAny_loadPart' hb1
    have hi1 : items[((i : Nat) : Int).toNat]? = some items[i] := by simp [hlt]
    have hi2 : items2[((i : Nat) : Int).toNat]? = some items2[i] := by simp [hlt2]
    have hc : ((i : Int) + 1) = ((i + 1 : Nat) : Int) := by omega
    rw [hi1, hi2]
    refine wpAny_bind (wpAny_mono ht (fun r s2 h2 => ?_) fun _ _ x => x)
    obtain ⟨hr, h2⟩ := h2
    subst hr
    cases hy : e i with
    | true =>
      rw [hy, Bool.true_and] at hA
      have hrec := ih (i + 1) (by omega) (by omega) hA s2 h2
      obtain ⟨hp2, g2, d2, tk2, os2⟩ := s2
      wp_walk
      rw [hc]
      exact ⟨plainId_quiet plain_eq_loop _, codeAny_builtin entry_eq_loop (by
        rw [Around.under_plainId plain_eq_loop _]
        exact hrec)⟩
    | false =>
      rw [hy, Bool.false_and] at hA
      have hR := fin (i + 1) s2 h2
      rw [hA] at hR
      obtain ⟨items', items2', n', n2', hl1', hb1', hs1', hs2', _⟩ := hl _ _ h2
      obtain ⟨hp2, g2, d2, tk2, os2⟩ := s2
      wp_walk using wpAny_loadPart' hl1', wpAny_loadPart' hb1'
      have hi1' : items'[((i : Nat) : Int).toNat]? = some (items'[i]'(by omega)) := by simp
      have hi2' : items2'[((i : Nat) : Int).toNat]? = some (items2'[i]'(by omega)) := by simp
      rw [hi1', hi2']
      wp_walk
      simpa using hR
theorem list_neB (l b : Addr) (N : Nat) (e : Nat → Bool) (I : Nat → Shared → Prop) (hl : ListB prog w A (fun e s' => R (.error e) s') l b N e I)
    (fin : ∀ i s, I i s → R (.ok (.ret (.bool (!(List.range N).all e)))) s) {s : Shared} (h : I 0 s) :
    wpAny (model prog w) A.in1 (Builtin.«list.__ne__» ⟨[.ref l, .ref b], []⟩) (FinOf prog w A R) (fun e s' => R (.error e) s') s := by
  obtain ⟨items, items2, n, n2, hl1, hb1, hs1, hs2, _⟩ := hl _ _ h
  have hrec := ne_loopB (A := A) (R := R) l b N e I hl fin _ 0 rfl (Nat.zero_le _) rfl s h
  obtain ⟨hp, g, d, tk, os⟩ := s
  have f3 := AutoSeq1.sub_list_list
  have hne : ¬ (items.size != items2.size) = true := by simp [hs1, hs2]
  wp_walk using wpAny_loadPart' hl1, wpAny_loadPart' hb1
  exact ⟨plainId_quiet plain_eq_loop _, codeAny_builtin entry_eq_loop (by
    rw [Around.under_plainId plain_eq_loop _]
    exact hrec)⟩
end

section
variable {prog : Program} {w : World} {A : Around} {E : Value → Shared → Prop} {s : Shared}
theorem rc_tupB (neg : Bool) {l b : Addr} {items items2 : Array Value} {Q : Value → Shared → Prop} (e : Nat → Bool) (hu : A.units < cLine) (I : Nat → Shared → Prop)
    (hl : s.heap.IsTuple l items) (hb : s.heap.IsTuple b items2)
    (turn : ∀ i (h1 : i < items.size) (h2 : i < items2.size) s, I i s → wpAny (model prog w) A.in1 (eqBool items[i] items2[i]) (fun r s' => r = e i ∧ I (i + 1) s') E s)
    (fin : ∀ i s, I i s → Q (.bool (neg ^^ ((List.range (min items.size items2.size)).all e && items.size == items2.size))) s) (h : I 0 s) : wpAny (model prog w) A (richCompare (if neg then .NotEq else .Eq) (.ref l) (.ref b)) Q E s := by
  obtain ⟨⟨cls, dd, data, sl⟩, ho, hc, n, hd⟩ := id hl
  obtain ⟨⟨cls2, dd2, data2, sl2⟩, ho2, hc2, n2, hd2⟩ := id hb
  simp only at hc hd hc2 hd2
  subst hc hd hc2 hd2
  cases neg with
  | false =>
    refine wpAny_richCompare_same_room (op := .Eq) ⟨_, ho, rfl⟩ ⟨_, ho2, rfl⟩ F.slot_tuple_eq (call_here F.slot_tuple_eq ⟨_, ho, rfl⟩ F.entry_tuple_eq (F.args_tuple_eq_2 _ _) ?_) hu
    exact tuple_eqB (R := wants (fun v s' => v ≠ .notImplemented ∧ Q v s') E) l b items items2 n n2 dd dd2 sl sl2 e I turn (fun i s' q => ⟨(fun x => nomatch x), by simpa using fin i s' q⟩) ho ho2 h
  | true =>
    refine wpAny_richCompare_same_room (op := .NotEq) ⟨_, ho, rfl⟩ ⟨_, ho2, rfl⟩ F.slot_tuple_ne (call_here F.slot_tuple_ne ⟨_, ho, rfl⟩ F.entry_tuple_ne (F.args_tuple_ne_2 _ _) ?_) hu
    exact tuple_neB (R := wants (fun v s' => v ≠ .notImplemented ∧ Q v s') E) l b items items2 n n2 dd dd2 sl sl2 e I turn (fun i s' q => ⟨(fun x => nomatch x), by simpa using fin i s' q⟩) ho ho2 h
theorem rc_listB (neg : Bool) {l b : Addr} {N : Nat} {Q : Value → Shared → Prop} (e : Nat → Bool) (hu : A.units < cLine) (I : Nat → Shared → Prop) (hl : ListB prog w A E l b N e I)
    (fin : ∀ i s, I i s → Q (.bool (neg ^^ (List.range N).all e)) s) (h : I 0 s) : wpAny (model prog w) A (richCompare (if neg then .NotEq else .Eq) (.ref l) (.ref b)) Q E s := by
  obtain ⟨items, items2, n, n2, hl1, hb1, _, _, _⟩ := hl _ _ h
  cases neg with
  | false =>
    refine wpAny_richCompare_same_room (op := .Eq) ⟨_, hl1, rfl⟩ ⟨_, hb1, rfl⟩ F.slot_list_eq (call_here F.slot_list_eq ⟨_, hl1, rfl⟩ F.entry_list_eq (F.args_list_eq_2 _ _) ?_) hu
    exact list_eqB (R := wants (fun v s' => v ≠ .notImplemented ∧ Q v s') E) l b N e I hl (fun i s' q => ⟨(fun x => nomatch x), by simpa using fin i s' q⟩) h
  | true =>
    refine wpAny_richCompare_same_room (op := .NotEq) ⟨_, hl1, rfl⟩ ⟨_, hb1, rfl⟩ F.slot_list_ne (call_here F.slot_list_ne ⟨_, hl1, rfl⟩ F.entry_list_ne (F.args_list_ne_2 _ _) ?_) hu
    exact list_neB (R := wants (fun v s' => v ≠ .notImplemented ∧ Q v s') E) l b N e I hl (fun i s' q => ⟨(fun x => nomatch x), by simpa using fin i s' q⟩) h
end
end GQ
namespace DL
open PySem L2 PySem.Spec PyProof.Rows
section
variable {X : Cx} {CX : CXT} {n : Nat} {f C : Addr} {fd : FuncData} {ps : List Str} {sp : Sp} {E : XK}
/-- two instances of the class at C inside a list or a tuple -/
def PairO (X : Cx) (C : Addr) (sp : Sp) (E : XK) (e : Nat → Bool) (I : Nat → Hp → Prop) (xs ys : List V) : Prop := ∀ i x y H', xs[i]? = some x → ys[i]? = some y → I i H' → ∃ p q dx dy fs gs, x = .ref p ∧ y = .ref q ∧ H' p = some (.ins C dx fs) ∧ H' q = some (.ins C dy gs) ∧ (p = q → (∀ pins σ s, Inv X pins σ H' s → e i = true) ∧ I (i + 1) H') ∧ sp [x, y] H' (fun v H2 => v = .bl (e i) ∧ I (i + 1) H2) E
theorem eqBool_O {A : Around} (F : FnOk X.prog X.w X.K X.mg X.base CX n f fd ps sp) (hb : Binds X.K fd ps []) (hx : Passes CX X E) (sb : Sub X n A) (hs : PySem.W.findIn X.K (.ref C) "__eq__" = some (some (.ref f))) (hf : PySem.W.isFn X.K (.ref f) = true)
    {pins : List (Addr × Obj)} {σ : L2.St} {H : Hp} {s : Shared} {p q dx dy : Addr} {fs gs : List (Str × V)} {r : Bool} {J : Hp → Prop} (I : Inv X pins σ H s) (hp : H p = some (.ins C dx fs)) (hq : H q = some (.ins C dy gs)) (same : p = q → (∀ pins σ s, Inv X pins σ H s → r = true) ∧ J H) (h : sp [.ref p, .ref q] H (fun v H2 => v = .bl r ∧ J H2) E) :
    wpAny (model X.prog X.w) A (eqBool (.ref p) (.ref q)) (fun b s' => b = r ∧ ∃ H', Inv X pins σ H' s' ∧ J H') X.xe s := by
  by_cases hpq : p = q
  · subst hpq
    obtain ⟨hr, j⟩ := same rfl
    have hr := hr _ _ _ I
    exact SeqAt.EqAt.same (A := A) (s := s) (.ref p) X.prog X.w X.xe _ ⟨hr.symm, H, I, j⟩
  · obtain ⟨mA, J1, _⟩ := ins_get I.hok hp
    obtain ⟨mB, J2, _⟩ := ins_get I.hok hq
    obtain ⟨od, J1, _⟩ := J1.look
    obtain ⟨od', J2, _⟩ := J2.look
    obtain ⟨m, hF⟩ := I.fr
    refine GQ.eqBool_refG hpq (PySem.W.cmp_K (op := .Eq) (tb := .ref C) sb.room.units0 hF I.ok.mod.kin J1 J2.type (by simp [PySem.W.notFirst]) hs hf (wpAny_mono (run_sub (vs := [.ref p, .ref q]) F hb hx sb I (.cons rfl (.cons rfl .nil)) h) (fun w s' z => ?_) fun _ _ z => z))
    obtain ⟨z, H', I', rz, rfl, q⟩ := z
    cases rz
    exact ⟨r, rfl, rfl, H', I', q⟩
def rTupO (X : Cx) (K : PySem.W.Frag) (C : Addr) (sp : Sp) (E : XK) (neg : Bool) : R2 := fun x y H Q => ∃ (a b : Addr) (xs ys : List V) (e : Nat → Bool) (I : Nat → Hp → Prop), x = .ref a ∧ y = .ref b ∧ SqT K H a xs ∧ SqT K H b ys ∧ I 0 H ∧ PairO X C sp E e I xs ys ∧
  ∀ i H', I i H' → Q (.bl (neg ^^ ((List.range (min xs.length ys.length)).all e && xs.length == ys.length))) H'
theorem op_tupO (neg : Bool) (F : FnOk X.prog X.w X.K X.mg X.base CX n f fd ps sp) (hb : Binds X.K fd ps []) (hx : Passes CX X E) (hr : Room (n + 1) X.A) (hs : PySem.W.findIn X.K (.ref C) "__eq__" = some (some (.ref f))) (hf : PySem.W.isFn X.K (.ref f) = true) : OpR X (compareOp (if neg then .NotEq else .Eq)) (rTupO X X.K C sp E neg) := by
  rintro pins s σ H x y u v Q I rx ry ⟨a, b, xs, ys, e, J, rfl, rfl, ha, hb', j0, pr, fin⟩
  cases rx
  cases ry
  obtain ⟨its, r, e1, z⟩ := I.tuple ha
  obtain ⟨its2, r2, e2, z2⟩ := I.tuple hb'
  have sb : Sub X (n + 1) X.A := ⟨hr, rfl⟩
  have hc : ∀ v u, compareOp (if neg then .NotEq else .Eq) v u = richCompare (if neg then .NotEq else .Eq) v u := fun v u => by cases neg <;> rfl
  rw [hc]
  refine GQ.rc_tupB neg e sb.room.units0 (fun i s' => ∃ H', Inv X pins σ H' s' ∧ J i H') e1 e2 (fun i h1 h2 s' l => ?_) (fun i s' q => ?_) ⟨H, I, j0⟩
  · obtain ⟨H1, I1, j1⟩ := l
    have h1' : i < its.length := by simpa using h1
    have h2' : i < its2.length := by simpa using h2
    have k1 : i < xs.length := by rw [r.length]; exact h1'
    have k2 : i < ys.length := by rw [r2.length]; exact h2'
    obtain ⟨p, q, dx, dy, fs, gs, ex, ey, hp, hq, same, h⟩ := pr i xs[i] ys[i] H1 (List.getElem?_eq_getElem k1) (List.getElem?_eq_getElem k2) j1
    obtain ⟨u, hu, ru⟩ := r.get (List.getElem?_eq_getElem k1)
    obtain ⟨v, hv, rv⟩ := r2.get (List.getElem?_eq_getElem k2)
    rw [List.getElem?_eq_getElem h1'] at hu
    rw [List.getElem?_eq_getElem h2'] at hv
    rw [ex] at ru
    rw [ey] at rv
    rw [ex, ey] at h
    cases ru
    cases rv
    have g1 : its.toArray[i] = .ref p := by simpa using hu
    have g2 : its2.toArray[i] = .ref q := by simpa using hv
    rw [g1, g2]
    exact eqBool_O F hb hx sb.in1 hs hf I1 hp hq same h
  · obtain ⟨H1, I1, j1⟩ := q
    have := fin i H1 j1
    rw [List.size_toArray, List.size_toArray, ← r.length, ← r2.length]
    exact ⟨.bl _, H1, I1, rfl, this⟩
def rLstO (X : Cx) (C : Addr) (sp : Sp) (E : XK) (neg : Bool) : R2 := fun x y H Q => ∃ (a b : Addr) (xs ys : List V) (e : Nat → Bool) (I : Nat → Hp → Prop), x = .ref a ∧ y = .ref b ∧ xs.length = ys.length ∧ (∀ i H', I i H' → H' a = some (.lst xs) ∧ H' b = some (.lst ys)) ∧ I 0 H ∧ PairO X C sp E e I xs ys ∧
  ∀ i H', I i H' → Q (.bl (neg ^^ (List.range xs.length).all e)) H'
theorem op_lstO (neg : Bool) (F : FnOk X.prog X.w X.K X.mg X.base CX n f fd ps sp) (hb : Binds X.K fd ps []) (hx : Passes CX X E) (hr : Room (n + 1) X.A) (hs : PySem.W.findIn X.K (.ref C) "__eq__" = some (some (.ref f))) (hf : PySem.W.isFn X.K (.ref f) = true) : OpR X (compareOp (if neg then .NotEq else .Eq)) (rLstO X C sp E neg) := by
  rintro pins s σ H x y u v Q I rx ry ⟨a, b, xs, ys, e, J, rfl, rfl, hlen, hl, j0, pr, fin⟩
  cases rx
  cases ry
  have sb : Sub X (n + 1) X.A := ⟨hr, rfl⟩
  have hc : ∀ v u, compareOp (if neg then .NotEq else .Eq) v u = richCompare (if neg then .NotEq else .Eq) v u := fun v u => by cases neg <;> rfl
  rw [hc]
  refine GQ.rc_listB (N := xs.length) neg e sb.room.units0 (fun i s' => ∃ H', Inv X pins σ H' s' ∧ J i H') (fun i s' l => ?_) (fun i s' q => ?_) ⟨H, I, j0⟩
  · obtain ⟨H1, I1, j1⟩ := l
    obtain ⟨ha, hb'⟩ := hl i H1 j1
    obtain ⟨z, its, k, r, e1⟩ := I1.hok a _ ha
    obtain ⟨z2, its2, k2, r2, e2⟩ := I1.hok b _ hb'
    refine ⟨its.toArray, its2.toArray, k, k2, e1, e2, by rw [List.size_toArray, ← r.length], by rw [List.size_toArray, ← r2.length, hlen], fun h1 h2 => ?_⟩
    have h1' : i < its.length := by simpa using h1
    have h2' : i < its2.length := by simpa using h2
    have k1 : i < xs.length := by rw [r.length]; exact h1'
    have k2 : i < ys.length := by rw [r2.length]; exact h2'
    obtain ⟨p, q, dx, dy, fs, gs, ex, ey, hp, hq, same, h⟩ := pr i xs[i] ys[i] H1 (List.getElem?_eq_getElem k1) (List.getElem?_eq_getElem k2) j1
    obtain ⟨u, hu, ru⟩ := r.get (List.getElem?_eq_getElem k1)
    obtain ⟨v, hv, rv⟩ := r2.get (List.getElem?_eq_getElem k2)
    rw [List.getElem?_eq_getElem h1'] at hu
    rw [List.getElem?_eq_getElem h2'] at hv
    rw [ex] at ru
    rw [ey] at rv
    rw [ex, ey] at h
    cases ru
    cases rv
    have g1 : its.toArray[i] = .ref p := by simpa using hu
    have g2 : its2.toArray[i] = .ref q := by simpa using hv
    rw [g1, g2]
    exact eqBool_O F hb hx sb.in1 hs hf I1 hp hq same h
  · obtain ⟨H1, I1, j1⟩ := q
    exact ⟨.bl _, H1, I1, rfl, fin i H1 j1⟩
/-- two instances, their own == -/
def OPair (C : Addr) (tf : Tf) (rg : Rg) (x y : D) (r : Bool) : Prop := ∃ ns ds es ps qs, x = .obj C ns ds ∧ y = .obj C ns es ∧ tf rg [x, y] (fun d => d = .bl r) ∧ ds.head? = some (.tup ps) ∧ es.head? = some (.tup qs) ∧ isPls ps = true ∧ isPls qs = true ∧ (deq (.tup ps) (.tup qs) = true → r = true)
def OPairs (C : Addr) (tf : Tf) (rg : Rg) (b : Nat → Bool) (xs ys : List D) : Prop := ∀ i x y, xs[i]? = some x → ys[i]? = some y → OPair C tf rg x y (b i)
theorem zip_inj2 {α β : Type} : ∀ {ns : List α} {xs ys : List β}, ns.length = xs.length → ns.length = ys.length → ns.zip xs = ns.zip ys → xs = ys
  | [], [], [], _, _, _ => rfl
  | n :: ns, x :: xs, y :: ys, h1, h2, h => by
    simp only [List.zip_cons_cons, List.cons.injEq, Prod.mk.injEq, true_and] at h
    rw [h.1, zip_inj2 (by simpa using h1) (by simpa using h2) h.2]
theorem pair_of {K : PySem.W.Frag} {tf : Tf} {c : Dc} {pn : Pin} {H0 : Hp} {env : En} {σ : L2.St} {H2 : Hp} (hK : X.K = K) (S : Sd K c pn H0 env σ H2) {b : Nat → Bool} {vs ws : List V} {xs ys : List D} (r1 : RpAll K (Mof c env) H2 vs xs) (r2 : RpAll K (Mof c env) H2 ws ys) (h : OPairs C tf c.rg b xs ys) :
    PairO X C (spD K 2 tf) E b (fun _ H' => Keep c.rg.R H2 H' ∧ c.rg.J H') vs ws := by
  cases hK
  rintro i x y H' hx hy ⟨k, j⟩
  obtain ⟨d, hd, rd⟩ := RpAll.get r1 hx
  obtain ⟨e, he, re⟩ := RpAll.get r2 hy
  obtain ⟨ns, ds, es, ps, qs, rfl, rfl, ht, hp, hq, pp, pq, hr⟩ := h i d e hd he
  have kM : Keep (Mof c env) H2 H' := k.mono fun a z => Mof.of_R S.ok z
  have rd' := Rp.keep kM rd
  have re' := Rp.keep kM re
  have rd2 := rd'
  have re2 := re'
  cases rd2 with
  | obj m1 e1 l1 a1 =>
  cases re2 with
  | obj m2 e2 l2 a2 =>
  refine ⟨_, _, _, _, _, _, rfl, rfl, e1, e2, fun z => ⟨fun pins σ s I => ?_, k, j⟩, ⟨Mof c env, none, c.rg⟩, _, _, ⟨fun a z => Mof.of_R S.ok z, S.ok.rg, fun a z => by cases z⟩, rfl, .cons rd' (.cons re' .nil), j, (S.grow k j).domM, rfl, ht, fun v d H3 q' k' j' r' => ?_⟩
  · subst z
    rw [e1] at e2
    injection e2 with e2
    injection e2 with _ _ e2
    have ev := zip_inj2 l1 l2 e2
    subst ev
    obtain ⟨v0, hv0, rv0⟩ := RpAll.get' (i := 0) a1 (by rw [← List.head?_eq_getElem?]; exact hp)
    obtain ⟨w0, hw0, rw0⟩ := RpAll.get' (i := 0) a2 (by rw [← List.head?_eq_getElem?]; exact hq)
    rw [hv0] at hw0
    cases hw0
    obtain ⟨a, rfl⟩ : ∃ a, v0 = .ref a := by cases rv0 <;> exact ⟨_, rfl⟩
    obtain ⟨as, q1⟩ := Dp.reads I _ (.ref a) (.ref a) (Rp.dp rv0 pp) rfl
    obtain ⟨bs, q2⟩ := Dp.reads I _ (.ref a) (.ref a) (Rp.dp rw0 pq) rfl
    have := SeqAt.plain_unique _ _ _ _ _ (plain_toPy (.tup ps)) q1 q2
    refine hr ?_
    unfold deq
    rw [← this]
    exact SeqAt.eqv_refl_plain _ (plain_toPy _)
  · subst q'
    cases r'
    exact ⟨rfl, k.trans k', j'⟩
def sTupO (C : Addr) (tf : Tf) (rg : Rg) (neg : Bool) (t1 t2 : TD) : TD := fun env Q => t1 env fun d => t2 env fun e => ∃ (xs ys : List D) (b : Nat → Bool), d = .tup xs ∧ e = .tup ys ∧ OPairs C tf rg b xs ys ∧ Q (.bl (neg ^^ ((List.range (min xs.length ys.length)).all b && xs.length == ys.length)))
def sLstO (C : Addr) (tf : Tf) (rg : Rg) (neg : Bool) (t1 t2 : TD) : TD := fun env Q => t1 env fun d => t2 env fun e => ∃ (xs ys : List D) (b : Nat → Bool), d = .lst xs ∧ e = .lst ys ∧ xs.length = ys.length ∧ OPairs C tf rg b xs ys ∧ Q (.bl (neg ^^ (List.range xs.length).all b))
theorem rf_tupO {K : PySem.W.Frag} {rg : Rg} {neg : Bool} {tf : Tf} {ta tb : TE} {t1 t2 : TD} (hK : X.K = K) (h1 : Rf K rg ta t1) (h2 : Rf K rg tb t2) : Rf K rg (tOp (rTupO X K C (spD K 2 tf) E neg) ta tb) (sTupO C tf rg neg t1 t2) := fun c hc pn H0 env σ H Qd Q S ht k => by
  refine h1 c hc pn H0 env σ H _ _ S ht fun d v H1 q1 k1 j1 r1 => ?_
  subst hc
  have S1 := S.grow k1 j1
  refine h2 c rfl pn H0 env σ H1 _ _ S1 q1 fun e w H2 q2 k2 j2 r2 => ?_
  have S2 := S1.grow k2 j2
  have r1' := Rp.keep (k2.mono fun a h => Mof.of_R S.ok h) r1
  obtain ⟨xs, ys, b, rfl, rfl, hp, q⟩ := q2
  have o1 : RpO K c.M (Mof c env) H2 v (.tup xs) := .inl r1'
  have o2 : RpO K c.M (Mof c env) H2 w (.tup ys) := .inl r2
  obtain ⟨a, vs, rfl, ha, ra⟩ := o1.tup
  obtain ⟨a2, ws, rfl, ha2, rb⟩ := o2.tup
  refine ⟨a, a2, vs, ws, b, fun _ H' => Keep c.rg.R H2 H' ∧ c.rg.J H', rfl, rfl, ha, ha2, ⟨Keep.refl, j2⟩, pair_of hK S2 ra rb hp, fun i H' ⟨k', j'⟩ => ?_⟩
  rw [RpAll.length ra, RpAll.length rb]
  exact k _ _ H' q ((k1.trans k2).trans k') j' (.bl _)
theorem rf_lstO {K : PySem.W.Frag} {rg : Rg} {neg : Bool} {tf : Tf} {ta tb : TE} {t1 t2 : TD} (hK : X.K = K) (h1 : Rf K rg ta t1) (h2 : Rf K rg tb t2) : Rf K rg (tOp (rLstO X C (spD K 2 tf) E neg) ta tb) (sLstO C tf rg neg t1 t2) := fun c hc pn H0 env σ H Qd Q S ht k => by
  refine h1 c hc pn H0 env σ H _ _ S ht fun d v H1 q1 k1 j1 r1 => ?_
  subst hc
  have S1 := S.grow k1 j1
  refine h2 c rfl pn H0 env σ H1 _ _ S1 q1 fun e w H2 q2 k2 j2 r2 => ?_
  have S2 := S1.grow k2 j2
  have r1' := Rp.keep (k2.mono fun a h => Mof.of_R S.ok h) r1
  obtain ⟨xs, ys, b, rfl, rfl, hl, hp, q⟩ := q2
  cases r1' with
  | lst m1 ha ra =>
  cases r2 with
  | lst m2 hb rb =>
  refine ⟨_, _, _, _, b, fun _ H' => Keep c.rg.R H2 H' ∧ c.rg.J H', rfl, rfl, by rw [RpAll.length ra, RpAll.length rb]; exact hl, fun i H' ⟨k', _⟩ => ⟨k' _ _ ha fun z => m1 (Mof.of_R S.ok z), k' _ _ hb fun z => m2 (Mof.of_R S.ok z)⟩, ⟨Keep.refl, j2⟩, pair_of hK S2 ra rb hp, fun i H' ⟨k', j'⟩ => ?_⟩
  rw [RpAll.length ra]
  exact k _ _ H' q ((k1.trans k2).trans k') j' (.bl _)
end
section
variable {X : Cx} {K : PySem.W.Frag} {rg : Rg} {a b : Expr} {ta tb : TE} {t1 t2 : TD} {C : Addr} {tf : Tf} {pos : Pos} {lv : Nat}
theorem d_eqTupO (F : Spc X.prog X.w X.K X.mg X.base C "__eq__" lv 2 tf) (hr : Room (lv + 1) X.A) (h1 : DP X K rg a ta t1) (h2 : DP X K rg b tb t2) (hm : behindInMarks .Eq b = false) : DP X K rg (.Compare a [.Eq] [b] pos) (tOp (rTupO X K C (spD K 2 tf) E0 false) ta tb) (sTupO C tf rg false t1 t2) := by
  cases h1.kx
  obtain ⟨f, fd, ps, F, hb, hs, hf⟩ := F.ex
  exact ⟨rfl, pe_cmpR (op_tupO false F hb pass0 hr hs hf) h1.pe h2.pe hm, rf_tupO rfl h1.rf h2.rf⟩
theorem dt_eqTupO (F : Spc X.prog X.w X.K X.mg X.base C "__eq__" lv 2 tf) (hr : Room (lv + 1) X.A) (h1 : DP X K rg a ta t1) (h2 : DP X K rg b tb t2) (hm : behindInMarks .Eq b = false) : DT X K rg (.Compare a [.Eq] [b] pos) (tTest (tOp (rTupO X K C (spD K 2 tf) E0 false) ta tb)) (sTest (sTupO C tf rg false t1 t2)) := by
  cases h1.kx
  obtain ⟨f, fd, ps, F, hb, hs, hf⟩ := F.ex
  exact ⟨rfl, pt_cmpR (op_tupO false F hb pass0 hr hs hf) h1.pe h2.pe hm, rf_test (rf_tupO rfl h1.rf h2.rf)⟩
theorem dt_neTupO (F : Spc X.prog X.w X.K X.mg X.base C "__eq__" lv 2 tf) (hr : Room (lv + 1) X.A) (h1 : DP X K rg a ta t1) (h2 : DP X K rg b tb t2) (hm : behindInMarks .NotEq b = false) : DT X K rg (.Compare a [.NotEq] [b] pos) (tTest (tOp (rTupO X K C (spD K 2 tf) E0 true) ta tb)) (sTest (sTupO C tf rg true t1 t2)) := by
  cases h1.kx
  obtain ⟨f, fd, ps, F, hb, hs, hf⟩ := F.ex
  exact ⟨rfl, pt_cmpR (op_tupO true F hb pass0 hr hs hf) h1.pe h2.pe hm, rf_test (rf_tupO rfl h1.rf h2.rf)⟩
theorem dt_neLstO (F : Spc X.prog X.w X.K X.mg X.base C "__eq__" lv 2 tf) (hr : Room (lv + 1) X.A) (h1 : DP X K rg a ta t1) (h2 : DP X K rg b tb t2) (hm : behindInMarks .NotEq b = false) : DT X K rg (.Compare a [.NotEq] [b] pos) (tTest (tOp (rLstO X C (spD K 2 tf) E0 true) ta tb)) (sTest (sLstO C tf rg true t1 t2)) := by
  cases h1.kx
  obtain ⟨f, fd, ps, F, hb, hs, hf⟩ := F.ex
  exact ⟨rfl, pt_cmpR (op_lstO true F hb pass0 hr hs hf) h1.pe h2.pe hm, rf_test (rf_lstO rfl h1.rf h2.rf)⟩
end
end DL

/-! What raises nothing, where something may be raised; a try that runs through. -/
namespace DL
open PySem L2 PySem.Spec PyProof.Rows
section
variable {X : Cx} {K : PySem.W.Frag} {rg : Rg} {st : Stmt} {ss body : List Stmt} {t : TS} {h₀ : ExceptHandler} {hs : List ExceptHandler} {pos : Pos}
theorem ps_of_nox (h : PS X.nox st t) : PS X st t := ⟨fun pins s σ H D I hw => wpAny_mono (h.run pins s σ H D (I.wish _) hw) (fun _ _ q => q.unwish) (fun _ _ z => z.elim)⟩
theorem pss_of_nox (h : PSs X.nox ss t) : PSs X ss t := ⟨fun pins s σ H D I hw => wpAny_mono (h.run pins s σ H D (I.wish _) hw) (fun _ _ q => q.unwish) (fun _ _ z => z.elim)⟩
theorem pe_of_nox {e : Expr} {te : TE} (h : PE X.nox e te) : PE X e te := ⟨fun pins s σ H Q I hw => wpAny_mono (h.run pins s σ H Q (I.wish _) hw) (fun _ _ ⟨x, H', J, r, q⟩ => ⟨x, H', J.unwish, r, q⟩) (fun _ _ z => z.elim)⟩
/-- a try whose body raises nothing -/
theorem ds_thru {td : TDS} (hn : X.nox = X) (h : DSs X K rg body t td) : DS X K rg (.Try body (h₀ :: hs) [] [] pos) t td := by
  cases h.kx
  exact ⟨rfl, ps_try_thru0 (by rw [hn]; exact h.ps), h.rf⟩
end
end DL

namespace K17
open PySem L2 DL RD TB PySem.Spec PyProof.Rows


theorem sq_t (ds : List D) : sq true ds = .tup ds := rfl
theorem eq_self {d : D} {Q : D → Prop} (hp : isPl d = true) (hd : (toPy d).depth ≤ 60) (hQ : Q (.bl true)) : fEq false d d Q := ⟨hp, hp, Nat.le_trans (Nat.min_le_right _ _) hd, by
  show Q (.bl (deq d d))
  rw [deq_self]; exact hQ⟩
theorem runs_same {CR : Addr} (rg : Rg) (Z : List Rn) : OPairs CR (tfEq CR) rg (fun _ => true) (Z.map (eRn CR)) (Z.map (eRn CR)) := by
  intro i x y hx hy
  rw [hx] at hy
  cases hy
  obtain ⟨z, hz, rfl⟩ := List.mem_map.mp (List.mem_of_getElem? hx)
  refine ⟨["rows", "orders", "names"], [eRows true z.1, eOrds z.1, eNs z.2], [eRows true z.1, eOrds z.1, eNs z.2], _, _, rfl, rfl, ⟨z.1, z.1, z.2, z.2, rfl, ?_⟩, rfl, rfl, pl_rows z.1, pl_rows z.1, fun _ => rfl⟩
  rw [decide_eq_true (show z.1 = z.1 from rfl)]
section
variable {P : Program} {w : World} {K : PySem.W.Frag} {mg : Str → Option Value} {base : Heap} {CT CR CE : Addr}

abbrev s_is_integer : Stmt := top 9
abbrev N_is_integer : List Str := ["value"]
theorem sc_is_integer : FnScope N_is_integer ["value"] (defScope s_is_integer) := ⟨rfl, rfl, rfl, by decide +kernel, rfl, by decide +kernel, by decide +kernel⟩
theorem ok_is_integer {f : Addr} {fd : FuncData} (F : Fun K "is_integer" "is_integer" s_is_integer f fd) (T : Txt mg) : FnOk P w K mg base CX0 (0 + 1) f fd ["value"] (spD K 1 tfIsInt) := by
  refine fn_D F sc_is_integer rfl fun rg cdv A outer s H E hr => ?_
  have hu := hr.units
  refine ⟨_, _, (dss_one (ds_ret (DP.o (d_and (d_isi (T := "int") (by rfl) T.isinstance (by rfl) T.int (by decide +kernel) (DP.o (d_var (pv 0)))) (d_one (d_not (d_isi (T := "bool") (by rfl) T.isinstance (by rfl) T.bool (by decide +kernel) (DP.o (d_var (pv 0)))))))))), fun ds Qd h hl => ?_⟩
  obtain ⟨i, rfl, hq⟩ := h
  exact ⟨"int", true, rfl, rfl, "int", false, rfl, rfl, hq⟩

abbrev s_read_place : Stmt := top 19
abbrev N_read_place : List Str := ["word", "name"]
theorem sc_read_place : FnScope N_read_place ["word"] (defScope s_read_place) := ⟨rfl, rfl, rfl, by decide +kernel, rfl, by decide +kernel, by decide +kernel⟩
theorem ok_read_place {f : Addr} {fd : FuncData} (F : Fun K "read_place" "read_place" s_read_place f fd) (T : Txt mg) : FnOk P w K mg base CX0 (0 + 1) f fd ["word"] (spD K 1 tfReadPlace) := by
  refine fn_D F sc_read_place rfl fun rg cdv A outer s H E hr => ?_
  have hu := hr.units
  refine ⟨_, _, (dss_cons (ds_setP (d_tm1 PySem.F.slot_str_removesuffix PySem.F.type_str_removesuffix mt_removesuffix (fun _ _ _ _ => .str _) (d_var (pv 0)) d_str) (i := 1) sc_read_place.nd rfl (by first | exact Or.inl rfl | exact Or.inr rfl))
    (dss_one (ds_ret (DP.o (d_tup (da_cons (d_var (pv 1)) (da_cons (d_cmp (op_neP (by exact hu)) opd_ne (DP.o (d_var (pv 1))) (DP.o (d_var (pv 0))) (nomark _)) da_nil))))))), fun ds Qd h hl => ?_⟩
  obtain ⟨p, rfl, hp, hq⟩ := h
  have hs : (1000 : Nat) < sizeLine := by decide
  have l5 := pl_len hp
  refine ⟨by omega, Nat.le_of_ble_eq_true rfl, ?_⟩
  refine (show sTup (sCons (sVar 1) (sCons (sOp (fEq true) (sVar 1) (sVar 0)) sNil)) [some (.dat (.str (plText p))), some (.dat (.str (Txt.removesuffix (plText p) "!")))] Qd from ?_)
  rw [read_pl hp]
  refine ⟨rfl, rfl, Nat.le_trans (Nat.min_le_right _ _) (Nat.zero_le 60), Nat.le_of_ble_eq_true rfl, ?_⟩
  show Qd (.tup [.str p.1, .bl (!deq (.str p.1) (.str (plText p)))])
  rw [deq_str]
  have e : (!((p.1 : Str) == plText p)) = p.2 := by
    unfold plText
    cases hb : p.2 with
    | true => simp [mark_ne]
    | false => simp
  rw [e]; exact hq

abbrev s_read_rows : Stmt := top 20
abbrev N_read_rows : List Str := ["text", "rows", "row", "word"]
theorem sc_read_rows : FnScope N_read_rows ["text"] (defScope s_read_rows) := ⟨rfl, rfl, rfl, by decide +kernel, rfl, by decide +kernel, by decide +kernel⟩
theorem ok_read_rows {f : Addr} {fd : FuncData} (F : Fun K "read_rows" "read_rows" s_read_rows f fd) (T : Txt mg) (CP : Cal P w K mg base "read_place" 1 1 tfReadPlace) (CW : Cal P w K mg base "wrong_row" 4 1 tfWrong) : FnOk P w K mg base CX0 (4 + 1) f fd ["text"] (spD K 1 tfReadRows) := by
  refine fn_D F sc_read_rows rfl fun rg cdv A outer s H E hr => ?_
  have hu := hr.units
  refine ⟨_, _, (dss_cons (ds_setLc (i := 1) (own := [("row", 2)]) rfl sc_read_rows.nd rfl rfl (sw_true rfl rfl rfl (by decide +kernel)) (blkOk_by (N := N_read_rows) (sc := (defScope s_read_rows)) (by decide +kernel)) (di_op (DP.o (DF.p (df_split (d_var (pv 0)) d_str)))) (fun _ _ _ _ _ => by exact (dg_name (pg_name (i := 2) sc_read_rows.nd rfl (by first | exact Or.inl rfl | exact Or.inr rfl)) (by decide))) (fun _ _ _ _ _ => by exact dts_nil) (fun _ _ _ _ _ => by exact (DF.p (df_lc (own := [("word", 3)]) rfl sc_read_rows.nd (blkOk_by (N := N_read_rows) (sc := (relS _ (defScope s_read_rows))) (by decide +kernel)) (di_op (DP.o (DF.p (df_split (d_var (pv 2)) d_str)))) (fun _ _ _ _ _ => by exact (dg_name (pg_name (i := 3) sc_read_rows.nd rfl (by first | exact Or.inl rfl | exact Or.inr rfl)) (by decide))) (fun _ _ _ _ _ => by exact dts_nil) (fun _ _ _ _ _ => by exact (d_callC CP (hr.mono (by omega)) (by rfl) (da_cons (d_var (pv 3)) da_nil)))))))
    (dss_cons (ds_if (dt_cmp op_notN opd_notN (DP.o (d_callC CW (hr.mono (by omega)) (by rfl) (da_cons (d_var (pv 1)) da_nil))) (DP.o d_non) (nomark _)) (dss_one ds_never) dss_nil)
    (dss_one (ds_ret (DP.o (d_var (pv 1))))))), fun ds Qd h hl => ?_⟩
  obtain ⟨R, rfl, hG, hq⟩ := h
  have hs : (10000000 : Nat) < sizeLine := by decide
  have lr := run_len hG
  have l1 := hG.len
  have e0 : (Txt.split (runText R) " | ").map D.str = R.map fun r => D.str (rowText r) := by rw [split_run hG, List.map_map]; rfl
  refine ⟨rfl, by decide, by omega, ?_⟩
  refine lc_at (xs := R) (enc := fun r => D.str (rowText r)) (p := fun _ => true) (g := eRow false) e0 (by omega) (fun r hr Qy Qn hy => ?_) ?_
  · have e1 : (Txt.split (rowText r) " ").map D.str = r.map fun p => D.str (plText p) := by rw [split_row (hG.row r hr).1 (hG.row r hr).2.2, List.map_map]; rfl
    have e3 : r.filter (fun _ => true) = r := by simp
    have lw := row_len (hG.row r hr).2.1 (hG.row r hr).2.2
    refine ⟨rfl, rfl, by decide, by show (rowText r).length + 2 ≤ _; omega, lc_at (xs := r) (enc := fun p => D.str (plText p)) (p := fun _ => true) (g := ePl) e1 (by have := (hG.row r hr).2.1; omega) (fun p hp Qy Qn hy => ⟨rfl, rfl, p, rfl, (hG.row r hr).2.2 p hp, hy⟩) ?_⟩
    rw [e3]; exact hy
  · have e3 : R.filter (fun _ => true) = R := by simp
    rw [e3]
    exact ⟨Nat.le_of_ble_eq_true rfl, rfl, false, R, rfl, hG, hq⟩

abbrev s_Run_read : Stmt := inClass (top 21) 1
abbrev N_Run_read : List Str := ["cls", "text"]
theorem sc_Run_read : FnScope N_Run_read ["cls", "text"] (defScope s_Run_read) := ⟨rfl, rfl, rfl, by decide +kernel, rfl, by decide +kernel, by decide +kernel⟩
theorem ok_Run_read {f : Addr} {fd : FuncData} (F : Fun K "read" "Run.read" s_Run_read f fd) (T : Txt mg) (O : OR K mg CR) (MK : Mak P w K mg base "Run" CR ["rows", "orders", "names"] 5 1 tfInit) (CRR : Cal P w K mg base "read_rows" 5 1 tfReadRows) : FnOk P w K mg base CX0 (6 + 1) f fd ["cls", "text"] (spD K 2 (tfRead CR)) := by
  refine fn_D F sc_Run_read rfl fun rg cdv A outer s H E hr => ?_
  have hu := hr.units
  refine ⟨_, _, (dss_one (ds_ret (DP.o (d_makeL (i := 0) MK (hr.mono (by omega)) rfl (by first | exact Or.inl rfl | exact Or.inr (Or.inl rfl) | exact Or.inr (Or.inr rfl)) (da_cons (d_callC CRR (hr.mono (by omega)) (by rfl) (da_cons (d_var (pv 1)) da_nil)) da_nil))))), fun ds Qd h hl => ?_⟩
  obtain ⟨R, rfl, hG, hF, hq⟩ := h
  exact ⟨rfl, rfl, R, rfl, hG, rfl, false, R, rfl, hG, hF, fun ys hy => hq ys hy⟩

abbrev s_are_names : Stmt := top 23
abbrev N_are_names : List Str := ["value"]
theorem sc_are_names : FnScope N_are_names ["value"] (defScope s_are_names) := ⟨rfl, rfl, rfl, by decide +kernel, rfl, by decide +kernel, by decide +kernel⟩
theorem ok_are_names {f : Addr} {fd : FuncData} (F : Fun K "are_names" "are_names" s_are_names f fd) (T : Txt mg) (CIo : Cal P w K mg base "is_order" 2 1 tfIsOrder) : FnOk P w K mg base CX0 (2 + 1) f fd ["value"] (spD K 1 tfAreNamesG) := by
  refine fn_D F sc_are_names rfl fun rg cdv A outer s H E hr => ?_
  have hu := hr.units
  refine ⟨_, _, (dss_one (ds_ret (DP.o (d_and (d_callC CIo (hr.mono (by omega)) (by rfl) (da_cons (d_var (pv 0)) da_nil)) (d_one (d_cmp (op_eqP (by exact hu)) opd_eq (DP.o (d_lenSetU rfl (by rfl) T.len (by decide +kernel) (by rfl) T.set (by decide +kernel) (DP.o (d_var (pv 0))))) (DP.o (d_callB cl_len cad_len (by rfl) T.len (by decide +kernel) (dao_cons (DP.o (d_var (pv 0))) dao_nil))) (nomark _))))))), fun ds Qd h hl => ?_⟩
  obtain ⟨k, ns, rfl, hN, hq⟩ := h
  have l1 := hN.len
  refine ⟨rfl, k, ns, rfl, hN.ne, by omega, hN.name, ?_⟩
  have fin : Qd (.bl (deq (.int ns.length) (.int ((ns.map D.str).length : Nat)))) := by
    rw [deq_int, List.length_map]
    have e : (((ns.length : Nat) : Int) == ((ns.length : Nat) : Int)) = true := by simp
    rw [e]; exact hq
  cases k
  · exact ⟨ns, .inl rfl, hN.nd, by omega, rfl, rfl, Nat.zero_le 60, fin⟩
  · exact ⟨ns, .inr rfl, hN.nd, by omega, rfl, rfl, Nat.zero_le 60, fin⟩

abbrev s_is_run_of : Stmt := top 24
abbrev N_is_run_of : List Str := ["value", "names", "name"]
theorem sc_is_run_of : FnScope N_is_run_of ["value", "names"] (defScope s_is_run_of) := ⟨rfl, rfl, rfl, by decide +kernel, rfl, by decide +kernel, by decide +kernel⟩
theorem ok_is_run_of {f : Addr} {fd : FuncData} (F : Fun K "is_run_of" "is_run_of" s_is_run_of f fd) (T : Txt mg) (O : OR K mg CR) : FnOk P w K mg base CX0 (0 + 1) f fd ["value", "names"] (spD K 2 (tfIsRunOfG CR)) := by
  refine fn_D F sc_is_run_of rfl fun rg cdv A outer s H E hr => ?_
  have hu := hr.units
  refine ⟨_, _, (dss_one (ds_ret (DP.o (d_and (d_isiW (by rfl) T.isinstance (DP.o (d_var (pv 0))) (pe_glob (v := .ref CR) (by rfl) O.mg rfl) (.own CR)) (d_one (d_callB (cl_all rfl) cad_all (by rfl) T.all (by decide +kernel) (dao_cons (DP.o (DF.p (df_lc (own := [("name", 2)]) rfl sc_is_run_of.nd (blkOk_by (N := N_is_run_of) (sc := (defScope s_is_run_of)) (by decide +kernel)) (di_op (DP.o (d_fld (DP.o (d_var (pv 0))) O.cls O.names))) (fun _ _ _ _ _ => by exact (dg_name (pg_name (i := 2) sc_is_run_of.nd rfl (by first | exact Or.inl rfl | exact Or.inr rfl)) (by decide))) (fun _ _ _ _ _ => by exact dts_nil) (fun _ _ _ _ _ => by exact (d_cmp (op_inP (by exact hu)) (opd_in false) (DP.o (d_var (pv 2))) (DP.o (d_var (pv 1))) (by rfl)))))) dao_nil))))))), fun ds Qd h hl => ?_⟩
  obtain ⟨z, k, ns, rfl, hz, hn, hsub, hq⟩ := h
  refine ⟨_, true, rfl, O.isi, O.kit, ?_⟩
  have fin : Qd (.bl (((z.2.filter fun _ => true).map fun _ => true).all id)) := by
    have e1 : ((z.2.filter fun _ => true).map fun _ => true).all id = true := by simp
    rw [e1]; exact hq
  cases k
  all_goals
    refine ⟨rfl, rfl, eNs z.2, rfl, lc_at (xs := z.2) (enc := D.str) (p := fun _ => true) (g := fun _ => D.bl true) rfl (by omega) (fun y hy Qy Qn hy' => ⟨rfl, rfl, isPls_map (enc := D.str) (fun _ => rfl) ns, Nat.le_trans (Nat.min_le_right _ _) (Nat.zero_le 60), ?_⟩) ⟨(z.2.filter fun _ => true).map fun _ => true, by rw [List.map_map]; rfl, fin⟩⟩
    show Qy (.bl (inD (.str y) (ns.map D.str)))
    rw [inD_str (hsub y hy)]; exact hy'

abbrev s_are_runs_of : Stmt := top 25
abbrev N_are_runs_of : List Str := ["value", "names", "run"]
theorem sc_are_runs_of : FnScope N_are_runs_of ["value", "names"] (defScope s_are_runs_of) := ⟨rfl, rfl, rfl, by decide +kernel, rfl, by decide +kernel, by decide +kernel⟩
theorem ok_are_runs_of {f : Addr} {fd : FuncData} (F : Fun K "are_runs_of" "are_runs_of" s_are_runs_of f fd) (T : Txt mg) (CIr : Cal P w K mg base "is_run_of" 1 2 (tfIsRunOfG CR)) : FnOk P w K mg base CX0 (1 + 1) f fd ["value", "names"] (spD K 2 (tfAreRunsOfG CR)) := by
  refine fn_D F sc_are_runs_of rfl fun rg cdv A outer s H E hr => ?_
  have hu := hr.units
  refine ⟨_, _, (dss_one (ds_ret (DP.o (d_and (d_isi2 (by rfl) T.isinstance (DP.o (d_var (pv 0))) (pe_bltn (v := .ty "list") (by rfl) T.list (by decide +kernel) rfl) (pe_bltn (v := .ty "tuple") (by rfl) T.tuple (by decide +kernel) rfl) (.ty "list") (.ty "tuple")) (d_one (d_callB (cl_all rfl) cad_all (by rfl) T.all (by decide +kernel) (dao_cons (DP.o (DF.p (df_lc (own := [("run", 2)]) rfl sc_are_runs_of.nd (blkOk_by (N := N_are_runs_of) (sc := (defScope s_are_runs_of)) (by decide +kernel)) (di_op (DP.o (d_var (pv 0)))) (fun _ _ _ _ _ => by exact (dg_name (pg_name (i := 2) sc_are_runs_of.nd rfl (by first | exact Or.inl rfl | exact Or.inr rfl)) (by decide))) (fun _ _ _ _ _ => by exact dts_nil) (fun _ _ _ _ _ => by exact (d_callC CIr (hr.mono (by omega)) (by rfl) (da_cons (d_var (pv 2)) (da_cons (d_var (pv 1)) da_nil))))))) dao_nil))))))), fun ds Qd h hl => ?_⟩
  obtain ⟨kr, Z, k, ns, rfl, hZ, hn, hq⟩ := h
  have lZ := hZ.len
  have fin : Qd (.bl (((Z.filter fun _ => true).map fun _ => true).all id)) := by
    have e1 : ((Z.filter fun _ => true).map fun _ => true).all id = true := by simp
    rw [e1]; exact hq
  cases kr
  case' false => refine ⟨.type "list", true, rfl, trivial, rfl, ?_⟩
  case' true => refine ⟨.type "tuple", true, rfl, trivial, rfl, ?_⟩
  all_goals
    refine ⟨rfl, lc_at (xs := Z) (enc := eRn CR) (p := fun _ => true) (g := fun _ => D.bl true) rfl (by omega) (fun z hz Qy Qn hy' => ⟨rfl, rfl, z, k, ns, rfl, ?_, hn, hZ.sub z hz, hy'⟩) ⟨(Z.filter fun _ => true).map fun _ => true, by rw [List.map_map]; rfl, fin⟩⟩
    have := nodup_le (hZ.row z hz).2.1.1 (hZ.sub z hz)
    omega

abbrev s_wrong_word : Stmt := top 26
abbrev N_wrong_word : List Str := ["names", "runs", "things", "slips"]
theorem sc_wrong_word : FnScope N_wrong_word ["names", "runs", "things", "slips"] (defScope s_wrong_word) := ⟨rfl, rfl, rfl, by decide +kernel, rfl, by decide +kernel, by decide +kernel⟩
theorem ok_wrong_word {f : Addr} {fd : FuncData} (F : Fun K "wrong_word" "wrong_word" s_wrong_word f fd) (T : Txt mg) (CAn : Cal P w K mg base "are_names" 3 1 tfAreNamesG) (CAr : Cal P w K mg base "are_runs_of" 2 2 (tfAreRunsOfG CR)) (CIi : Cal P w K mg base "is_integer" 1 1 tfIsInt) : FnOk P w K mg base CX0 (3 + 1) f fd ["names", "runs", "things", "slips"] (spD K 4 (tfWrongEG CR)) := by
  refine fn_D F sc_wrong_word rfl fun rg cdv A outer s H E hr => ?_
  have hu := hr.units
  refine ⟨_, _, (dss_cons (ds_if (dt_not (dt_val (d_callC CAn (hr.mono (by omega)) (by rfl) (da_cons (d_var (pv 0)) da_nil)))) (dss_one (ds_ret (DP.o d_str))) dss_nil)
    (dss_cons (ds_if (dt_not (dt_val (d_callC CAr (hr.mono (by omega)) (by rfl) (da_cons (d_var (pv 1)) (da_cons (d_var (pv 0)) da_nil))))) (dss_one (ds_ret (DP.o d_str))) dss_nil)
    (dss_cons (ds_if (DW.dt (dw_or (dt_not (dt_val (d_callC CIi (hr.mono (by omega)) (by rfl) (da_cons (d_var (pv 2)) da_nil)))) (dw_or1 (dt_cmp (op_notInP (by exact hu)) (opd_in true) (DP.o (d_var (pv 2))) (DP.o (d_tup (da_cons d_int (da_cons d_int da_nil)))) (by rfl))))) (dss_one (ds_ret (DP.o d_str))) dss_nil)
    (dss_one (ds_ret (DP.o (d_if (DW.dt (dw_and (dt_val (d_callC CIi (hr.mono (by omega)) (by rfl) (da_cons (d_var (pv 3)) da_nil))) (dw_and1 (dt_cmp op_ge opd_cmpI (DP.o (d_var (pv 3))) (DP.o d_int) (nomark _))))) d_non d_str))))))), fun ds Qd h hl => ?_⟩
  obtain ⟨k, kr, ns, Z, m, s, rfl, hN, hZ, hm, h0, hq⟩ := h
  have l1 := hN.len
  refine ⟨rfl, k, ns, rfl, hN, ?_⟩
  refine ⟨rfl, kr, Z, k, ns, rfl, hZ, l1, ?_⟩
  refine ⟨rfl, m, rfl, ?_⟩
  have last : Qd .non := hq
  have hin : inD (.int m) [.int 1, .int 2] = true := by rcases hm with rfl | rfl <;> rfl
  refine ⟨Nat.le_of_ble_eq_true rfl, rfl, rfl, Nat.le_trans (Nat.min_le_right _ _) (Nat.zero_le 60), ?_⟩
  show (if (!inD (.int m) [.int 1, .int 2]) = true then _ else _)
  rw [hin]
  refine ⟨rfl, s, rfl, ?_⟩
  show (if decide ((0 : Int) ≤ s) = true then _ else _)
  rw [decide_eq_true h0]
  exact hq

abbrev s_Evidence___init__ : Stmt := inClass (top 30) 0
abbrev N_Evidence___init__ : List Str := ["self", "names", "runs", "things", "slips", "word"]
theorem sc_Evidence___init__ : FnScope N_Evidence___init__ ["self", "names", "runs", "things", "slips"] (defScope s_Evidence___init__) := ⟨rfl, rfl, rfl, by decide +kernel, rfl, by decide +kernel, by decide +kernel⟩
theorem ok_Evidence___init__ {f : Addr} {fd : FuncData} {dvs : List V} (F : FunDs K "__init__" "Evidence.__init__" s_Evidence___init__ dvs f fd) (T : Txt mg) (OEv : OE K mg CE) (CW : Cal P w K mg base "wrong_word" 4 4 (tfWrongEG CR)) : FnOk P w K mg base CX0 (4 + 1) f fd ["self", "names", "runs", "things", "slips"] (spI K CE ["names", "runs", "things", "slips"] 4 (tfInitEG CR)) := by
  refine fn_ID F sc_Evidence___init__ rfl fun rg cdv A outer s H E hr => ?_
  have hu := hr.units
  refine ⟨_, _, (dss_cons (ds_setP (d_callC CW (hr.mono (by omega)) (by rfl) (da_cons (d_var (pv 1)) (da_cons (d_var (pv 2)) (da_cons (d_var (pv 3)) (da_cons (d_var (pv 4)) da_nil))))) (i := 5) sc_Evidence___init__.nd rfl (by first | exact Or.inl rfl | exact Or.inr rfl))
    (dss_cons (ds_if (dt_cmp op_notN opd_notN (DP.o (d_var (pv 5))) (DP.o d_non) (nomark _)) (dss_one ds_never) dss_nil)
    (dss_cons (ds_fldS (pv 0) (d_callTy cl_tuple cad_tuple (by rfl) T.tuple (by decide +kernel) (dao_cons (DP.o (d_callB cl_sortedU cad_sortedU (by rfl) T.sorted (by decide +kernel) (dao_cons (DP.o (d_var (pv 1))) dao_nil))) dao_nil)) OEv.cls OEv.names)
    (dss_cons (ds_fldS (pv 0) (d_callTy cl_tuple cad_tuple (by rfl) T.tuple (by decide +kernel) (dao_cons (DP.o (d_var (pv 2))) dao_nil)) OEv.cls OEv.runs)
    (dss_cons (ds_fldS (pv 0) (d_var (pv 3)) OEv.cls OEv.things)
    (dss_one (ds_fldS (pv 0) (d_var (pv 4)) OEv.cls OEv.slips))))))), fun x ds Qd h hl => ?_⟩
  obtain ⟨k, kr, ns, Z, m, s, rfl, hN, hZ, hm, h0, hq⟩ := h
  have l1 := hN.len
  refine ⟨rfl, k, kr, ns, Z, m, s, rfl, hN, hZ, hm, h0, Nat.le_of_ble_eq_true rfl, ?_⟩
  cases k <;> cases kr
  all_goals
    refine ⟨ns, rfl, by omega, fun ys hp hs => ?_⟩
    refine ⟨rfl, by simp, by show 0 < 1000; decide, ?_⟩
    refine ⟨rfl, by decide, by show 1 < 1000; decide, ?_⟩
    refine ⟨rfl, by decide, by show 2 < 1000; decide, ?_⟩
    exact ⟨rfl, by decide, by show 3 < 1000; decide, _, rfl, hq ys hp hs⟩

abbrev s_is_number : Stmt := top 27
abbrev N_is_number : List Str := ["word"]
theorem sc_is_number : FnScope N_is_number ["word"] (defScope s_is_number) := ⟨rfl, rfl, rfl, by decide +kernel, rfl, by decide +kernel, by decide +kernel⟩
theorem ok_is_number {f : Addr} {fd : FuncData} (F : Fun K "is_number" "is_number" s_is_number f fd) (T : Txt mg) : FnOk P w K mg base CX0 (0 + 1) f fd ["word"] (spD K 1 tfIsNumber) := by
  refine fn_D F sc_is_number rfl fun rg cdv A outer s H E hr => ?_
  have hu := hr.units
  refine ⟨_, _, (dss_cons (ds_if (DW.dt (dw_or (dt_not (dt_truth (DP.o (d_tm0 PySem.F.slot_str_isascii PySem.F.type_str_isascii mt_isascii (fun _ _ _ => .bl _) (d_var (pv 0)))))) (dw_or (dt_not (dt_truth (DP.o (d_tm0 PySem.F.slot_str_isdigit PySem.F.type_str_isdigit mt_isdigit (fun _ _ _ => .bl _) (d_var (pv 0)))))) (dw_or1 (dt_cmp op_gt opd_cmpI (DP.o (d_callB cl_len cad_len (by rfl) T.len (by decide +kernel) (dao_cons (DP.o (d_var (pv 0))) dao_nil))) (DP.o d_int) (nomark _)))))) (dss_one (ds_ret (DP.o d_bl))) dss_nil)
    (dss_one (ds_ret (DP.o (d_or (d_cmp (op_eqP (by exact hu)) opd_eq (DP.o (d_var (pv 0))) (DP.o d_str) (nomark _)) (d_one (d_not (d_tm1 PySem.F.slot_str_startswith PySem.F.type_str_startswith mt_startsT (fun _ _ _ _ => .bl _) (d_var (pv 0)) d_str)))))))), fun ds Qd h hl => ?_⟩
  obtain ⟨s, rfl, hs, hq⟩ := h
  obtain ⟨a1, a2, a3, a4, a5⟩ := sl_facts hs
  have lz : (100 : Nat) < sizeLine := by decide
  with_reducible refine seq_no (fun Q hQ => or_no (fun Q hQ => ?_) (or_no (fun Q hQ => ?_) ?_)) ?_
  · refine ⟨trivial, ?_⟩
    show Q (!(Txt.isascii (Str.ofString (toString s))))
    rw [a1]; exact hQ
  · refine ⟨trivial, ?_⟩
    show Q (!(Txt.isdigit (Str.ofString (toString s))))
    rw [a2]; exact hQ
  · refine ⟨by show (Str.ofString (toString s)).length ≤ _; omega, ?_⟩
    show Q (decide ((2 : Int) < ((Str.ofString (toString s)).length : Nat)))
    rw [a3]; exact hQ
  · refine ⟨rfl, rfl, Nat.le_trans (Nat.min_le_right _ _) (Nat.zero_le 60), ?_⟩
    show (if deq (.str (Str.ofString (toString s))) (.str "0") = true then Qd (.bl true) else (True ∧ Qd (.bl (!(Txt.startswith (Str.ofString (toString s)) "0")))))
    rw [deq_str, a4]
    cases (Str.ofString (toString s) == ("0" : Str)) with
    | true => exact hq
    | false => exact ⟨trivial, hq⟩

abbrev s_read_numbers : Stmt := top 28
abbrev N_read_numbers : List Str := ["line", "words"]
theorem sc_read_numbers : FnScope N_read_numbers ["line"] (defScope s_read_numbers) := ⟨rfl, rfl, rfl, by decide +kernel, rfl, by decide +kernel, by decide +kernel⟩
theorem ok_read_numbers {f : Addr} {fd : FuncData} (F : Fun K "read_numbers" "read_numbers" s_read_numbers f fd) (T : Txt mg) (CIn : Cal P w K mg base "is_number" 1 1 tfIsNumber) : FnOk P w K mg base CX0 (1 + 1) f fd ["line"] (spD K 1 tfReadNums) := by
  refine fn_D F sc_read_numbers rfl fun rg cdv A outer s H E hr => ?_
  have hu := hr.units
  refine ⟨_, _, (dss_cons (ds_setP (DF.p (df_split (d_var (pv 0)) d_str)) (i := 1) sc_read_numbers.nd rfl (by first | exact Or.inl rfl | exact Or.inr rfl))
    (dss_cons (ds_if (DW.dt (dw_or (dt_cmp (op_neP (by exact hu)) opd_ne (DP.o (d_callB cl_len cad_len (by rfl) T.len (by decide +kernel) (dao_cons (DP.o (d_var (pv 1))) dao_nil))) (DP.o d_int) (nomark _)) (dw_or (dt_cmp (op_neP (by exact hu)) opd_ne (DP.o (d_ix (DP.o (d_var (pv 1))) (DP.o d_int))) (DP.o d_str) (nomark _)) (dw_or1 (dt_cmp (op_neP (by exact hu)) opd_ne (DP.o (d_ix (DP.o (d_var (pv 1))) (DP.o d_int))) (DP.o d_str) (nomark _)))))) (dss_one (ds_ret (DP.o d_non))) dss_nil)
    (dss_cons (ds_if (DW.dt (dw_or (dt_cmp (op_notInP (by exact hu)) (opd_in true) (DP.o (d_ix (DP.o (d_var (pv 1))) (DP.o d_int))) (DP.o (d_tup (da_cons d_str (da_cons d_str da_nil)))) (by rfl)) (dw_or1 (dt_not (dt_val (d_callC CIn (hr.mono (by omega)) (by rfl) (da_cons (d_ix (DP.o (d_var (pv 1))) (DP.o d_int)) da_nil))))))) (dss_one (ds_ret (DP.o d_non))) dss_nil)
    (dss_one (ds_ret (DP.o (d_tup (da_cons (d_callTy call_int_str cad_intS (by rfl) T.int (by decide +kernel) (dao_cons (DP.o (d_ix (DP.o (d_var (pv 1))) (DP.o d_int))) dao_nil)) (da_cons (d_callTy call_int_str cad_intS (by rfl) T.int (by decide +kernel) (dao_cons (DP.o (d_ix (DP.o (d_var (pv 1))) (DP.o d_int))) dao_nil)) da_nil))))))))), fun ds Qd h hl => ?_⟩
  obtain ⟨m, s, rfl, hm, hs, hq⟩ := h
  have lz : (10000 : Nat) < sizeLine := by decide
  have ln := (num_nl hm hs).2
  obtain ⟨b1, b2⟩ := one_two hm
  obtain ⟨c1, c2, c3, c4, c5⟩ := sl_facts b1
  obtain ⟨a1, a2, a3, a4, a5⟩ := sl_facts hs
  refine ⟨rfl, by show (numText m s).length + 2 ≤ _; omega, Nat.le_of_ble_eq_true rfl, ?_⟩
  rw [num_split hm hs]
  with_reducible refine seq_no (fun Q1 hQ1 => or_no (fun Q hQ => ?_) (or_no (fun Q hQ => ?_) ?_)) ?_
  · exact ne_self (Q := Q) rfl rfl (by simp [toPy, PyData.depth]) hQ
  · exact ⟨_, rfl, ne_self (Q := Q) rfl rfl (by simp [toPy, PyData.depth]) hQ⟩
  · exact ⟨_, rfl, ne_self (Q := Q1) rfl rfl (by simp [toPy, PyData.depth]) hQ1⟩
  with_reducible refine seq_no (fun Q1 hQ1 => or_no (fun Q hQ => ?_) ?_) ?_
  · refine ⟨_, rfl, by decide, rfl, rfl, Nat.le_trans (Nat.min_le_right _ _) (Nat.zero_le 60), ?_⟩
    show Q (!inD (.str (Str.ofString (toString m))) [.str "1", .str "2"])
    rw [b2]; exact hQ
  · exact ⟨_, rfl, rfl, s, rfl, hs, hQ1⟩
  · exact ⟨_, rfl, m, c5, by show (Str.ofString (toString m)).length ≤ 640; omega, _, rfl, s, a5, by show (Str.ofString (toString s)).length ≤ 640; omega, by show 2 ≤ sizeLine; omega, hq⟩

abbrev s_read_run : Stmt := top 29
abbrev N_read_run : List Str := ["line", "at", "names", "run"]
theorem sc_read_run : FnScope N_read_run ["line", "at", "names"] (defScope s_read_run) := ⟨rfl, rfl, rfl, by decide +kernel, rfl, by decide +kernel, by decide +kernel⟩
theorem ok_read_run {f : Addr} {fd : FuncData} (F : Fun K "read_run" "read_run" s_read_run f fd) (T : Txt mg) (MK : Mak P w K mg base "Run" CR ["rows", "orders", "names"] 5 1 tfInit) (O : OR K mg CR) (CRR : Cal P w K mg base "read_rows" 5 1 tfReadRows) (CIr : Cal P w K mg base "is_run_of" 1 2 (tfIsRunOfG CR)) : FnOk P w K mg base CX0 (6 + 1) f fd ["line", "at", "names"] (spD K 3 (tfReadRun CR)) := by
  refine fn_D F sc_read_run rfl fun rg cdv A outer s H E hr => ?_
  have hu := hr.units
  refine ⟨_, _, (dss_cons (ds_thru rfl (dss_one (ds_setP (d_make MK (hr.mono (by omega)) (by rfl) (da_cons (d_callC CRR (hr.mono (by omega)) (by rfl) (da_cons (d_var (pv 0)) da_nil)) da_nil)) (i := 3) sc_read_run.nd rfl (by first | exact Or.inl rfl | exact Or.inr rfl))))
    (dss_cons (ds_if (dt_not (dt_val (d_callC CIr (hr.mono (by omega)) (by rfl) (da_cons (d_var (pv 3)) (da_cons (d_var (pv 2)) da_nil))))) (dss_one ds_never) dss_nil)
    (dss_one (ds_ret (DP.o (d_var (pv 3))))))), fun ds Qd h hl => ?_⟩
  obtain ⟨z, a, k, ns, rfl, hG, hF, hA, hz, hn, hsub, hq⟩ := h
  refine ⟨rfl, z.1, rfl, hG, rfl, false, z.1, rfl, hG, hF, fun ys hy => ⟨Nat.le_of_ble_eq_true rfl, ?_⟩⟩
  have e := asc_same hy hA
  subst e
  with_reducible refine seq_no (fun Q hQ => ?_) ?_
  · exact ⟨rfl, z, k, ns, rfl, hz, hn, hsub, hQ⟩
  · exact hq

abbrev s_Evidence_read : Stmt := inClass (top 30) 1
abbrev N_Evidence_read : List Str := ["cls", "text", "lines", "word", "names", "numbers", "runs", "at", "line"]
theorem sc_Evidence_read : FnScope N_Evidence_read ["cls", "text"] (defScope s_Evidence_read) := ⟨rfl, rfl, rfl, by decide +kernel, rfl, by decide +kernel, by decide +kernel⟩
theorem ok_Evidence_read {f : Addr} {fd : FuncData} (F : Fun K "read" "Evidence.read" s_Evidence_read f fd) (T : Txt mg) (OEv : OE K mg CE) (MKE : Mak P w K mg base "Evidence" CE ["names", "runs", "things", "slips"] 5 4 (tfInitEG CR)) (CAn : Cal P w K mg base "are_names" 3 1 tfAreNamesG) (CNu : Cal P w K mg base "read_numbers" 2 1 tfReadNums) (CRu : Cal P w K mg base "read_run" 7 3 (tfReadRun CR)) : FnOk P w K mg base CX0 (7 + 1) f fd ["cls", "text"] (spD K 2 (tfReadE CE CR)) := by
  refine fn_D F sc_Evidence_read rfl fun rg cdv A outer s H E hr => ?_
  have hu := hr.units
  refine ⟨_, _, (dss_cons (ds_setP (DF.p (df_split (d_var (pv 1)) d_str)) (i := 2) sc_Evidence_read.nd rfl (by first | exact Or.inl rfl | exact Or.inr rfl))
    (dss_cons (ds_star1 (vs := [3, 4]) rfl (DF.p (df_split (d_ix (DP.o (d_var (pv 2))) (DP.o d_int)) d_str)) (dgs_cons (dg_name (pg_name (i := 3) sc_Evidence_read.nd rfl (by first | exact Or.inl rfl | exact Or.inr rfl)) (by decide)) (dgs_cons (dg_name (pg_name (i := 4) sc_Evidence_read.nd rfl (by first | exact Or.inl rfl | exact Or.inr rfl)) (by decide)) dgs_nil)))
    (dss_cons (ds_if (DW.dt (dw_or (dt_cmp (op_neP (by exact hu)) opd_ne (DP.o (d_var (pv 3))) (DP.o d_str) (nomark _)) (dw_or1 (dt_not (dt_val (d_callC CAn (hr.mono (by omega)) (by rfl) (da_cons (d_var (pv 4)) da_nil))))))) (dss_one ds_never) dss_nil)
    (dss_cons (ds_setP (d_if (dt_cmp op_gt opd_cmpI (DP.o (d_callB cl_len cad_len (by rfl) T.len (by decide +kernel) (dao_cons (DP.o (d_var (pv 2))) dao_nil))) (DP.o d_int) (nomark _)) (d_callC CNu (hr.mono (by omega)) (by rfl) (da_cons (d_ix (DP.o (d_var (pv 2))) (DP.o d_int)) da_nil)) d_non) (i := 5) sc_Evidence_read.nd rfl (by first | exact Or.inl rfl | exact Or.inr rfl))
    (dss_cons (ds_if (dt_cmp op_isN opd_isN (DP.o (d_var (pv 5))) (DP.o d_non) (nomark _)) (dss_one ds_never) dss_nil)
    (dss_cons (ds_setLc (i := 6) (own := [("at", 7), ("line", 8)]) rfl sc_Evidence_read.nd rfl rfl (sw_true rfl rfl rfl (by decide +kernel)) (blkOk_by (N := N_Evidence_read) (sc := (defScope s_Evidence_read)) (by decide +kernel)) (di_enumV (c0 := 2) (by decide) (by decide) (by rfl) T.enumerate (d_slice (DP.o (d_var (pv 2))) (dpo_some d_int) dpo_none) pe_int) (fun _ _ _ _ _ => by exact (dg_tup (n := 2) rfl (dgs_cons (dg_name (pg_name (i := 7) sc_Evidence_read.nd rfl (by first | exact Or.inl rfl | exact Or.inr rfl)) (by decide)) (dgs_cons (dg_name (pg_name (i := 8) sc_Evidence_read.nd rfl (by first | exact Or.inl rfl | exact Or.inr rfl)) (by decide)) dgs_nil)))) (fun _ _ _ _ _ => by exact dts_nil) (fun _ _ _ _ _ => by exact (d_callC CRu (hr.mono (by omega)) (by rfl) (da_cons (d_var (pv 8)) (da_cons (d_var (pv 7)) (da_cons (d_var (pv 4)) da_nil))))))
    (dss_one (ds_ret (DP.o (d_makeL (i := 0) MKE (hr.mono (by omega)) rfl (by first | exact Or.inl rfl | exact Or.inr (Or.inl rfl) | exact Or.inr (Or.inr rfl)) (da_cons (d_var (pv 4)) (da_cons (d_var (pv 6)) (da_cons (d_ix (DP.o (d_var (pv 5))) (DP.o d_int)) (da_cons (d_ix (DP.o (d_var (pv 5))) (DP.o d_int)) da_nil)))))))))))))), fun ds Qd h hl => ?_⟩
  obtain ⟨ns, Z, m, s, rfl, hN, hZ, hF, hS, hm, hs, hq⟩ := h
  have hz : (10000000 : Nat) < sizeLine := by decide
  have lt := ev_len hN hZ.len hS hm hs
  have lh := head_len hN
  have l1 := hN.len
  have lZ := hZ.len
  have h0 : 0 ≤ s := by rcases hs with rfl | rfl | rfl <;> decide
  refine ⟨rfl, by show (evText ns Z m s).length + 2 ≤ _; omega, Nat.le_of_ble_eq_true rfl, ?_⟩
  rw [ev_split hN hZ hm hs]
  refine ⟨.str (headText ns), at_zero, rfl, by show (headText ns).length + 2 ≤ _; omega, ?_⟩
  rw [head_split hN]
  refine ⟨rfl, rfl, rfl, ?_⟩
  with_reducible refine seq_no (fun Q1 hQ1 => or_no (fun Q hQ => ?_) ?_) ?_
  · exact ne_self (Q := Q) rfl rfl (by simp [toPy, PyData.depth]) hQ
  · exact ⟨rfl, false, ns, rfl, hN, hQ1⟩
  refine ite_yes (c := decide ((1 : Int) < (((headText ns :: numText m s :: Z.map fun z => runText z.1).map D.str).length : Nat))) (by rw [List.length_map, List.length_cons, List.length_cons]; simp; omega) ?_
  refine ⟨.str (numText m s), at_one, rfl, m, s, rfl, hm, hs, Nat.le_of_ble_eq_true rfl, ?_⟩
  with_reducible refine seq_no (fun Q hQ => ?_) ?_
  · exact hQ
  have mem : ∀ p ∈ Z.zipIdx, p.1 ∈ Z := fun p hp => by
    have h := List.mem_map_of_mem (f := Prod.fst) hp
    rw [List.zipIdx_map_fst] at h
    exact h
  have eL : enumF 2 (DL.cutD ((headText ns :: numText m s :: Z.map fun z => runText z.1).map D.str) (some 2) none) = Z.zipIdx.map fun p => .tup [.int (2 + (p.2 : Nat)), .str (runText p.1.1)] := by
    rw [show (some (2 : Int)) = some (((2 : Nat) : Int)) from rfl, cut_from]
    show enumF 2 ((Z.map fun z => runText z.1).map D.str) = _
    rw [List.map_map, enumF_map]; rfl
  refine ⟨rfl, lc_at (xs := Z.zipIdx) (enc := fun p => D.tup [.int (2 + (p.2 : Nat)), .str (runText p.1.1)]) (p := fun _ => true) (g := fun p => eRn CR p.1) eL (by rw [List.length_zipIdx]; omega) (fun p hp Qy Qn hy => ?_) ?_⟩
  · have g := hZ.row p.1 (mem p hp)
    have hsub := hZ.sub p.1 (mem p hp)
    have := nodup_le g.2.1.1 hsub
    exact ⟨rfl, rfl, rfl, rfl, rfl, p.1, _, false, ns, rfl, g.1, hF p.1 (mem p hp), g.2.1, by omega, l1, hsub, hy⟩
  · rw [List.filter_eq_self.mpr fun _ _ => rfl]
    have eZ : (Z.zipIdx.map fun p => eRn CR p.1) = Z.map (eRn CR) := by
      rw [show (fun p : Rn × Nat => eRn CR p.1) = eRn CR ∘ Prod.fst from rfl, ← List.map_map, List.zipIdx_map_fst]
    rw [eZ]
    refine ⟨Nat.le_of_ble_eq_true rfl, rfl, _, rfl, _, rfl, rfl, false, false, ns, Z, m, s, rfl, hN, hZ, hm, h0, hq⟩

abbrev s_Evidence__check : Stmt := inClass (top 30) 6
abbrev N_Evidence__check : List Str := ["self", "at"]
theorem sc_Evidence__check : FnScope N_Evidence__check ["self", "at"] (defScope s_Evidence__check) := ⟨rfl, rfl, rfl, by decide +kernel, rfl, by decide +kernel, by decide +kernel⟩
theorem ok_Evidence__check {f : Addr} {fd : FuncData} (F : Fun K "_check" "Evidence._check" s_Evidence__check f fd) (T : Txt mg) (OEv : OE K mg CE) (CIi : Cal P w K mg base "is_integer" 1 1 tfIsInt) : FnOk P w K mg base CX0 (1 + 1) f fd ["self", "at"] (spD K 2 (tfCheckE CE CR)) := by
  refine fn_D F sc_Evidence__check rfl fun rg cdv A outer s H E hr => ?_
  have hu := hr.units
  refine ⟨_, _, (dss_one (ds_if (DW.dt (dw_or (dt_not (dt_val (d_callC CIi (hr.mono (by omega)) (by rfl) (da_cons (d_var (pv 1)) da_nil)))) (dw_or1 (dt_not (dt_chain op_le opd_cmpI op_lt opd_cmpI d_int (d_var (pv 1)) (d_callB cl_len cad_len (by rfl) T.len (by decide +kernel) (dao_cons (DP.o (d_fld (DP.o (d_var (pv 0))) OEv.cls OEv.runs)) dao_nil))))))) (dss_one ds_never) dss_nil)), fun ds Qd h hl => ?_⟩
  obtain ⟨ys, Z, m, s, i, rfl, hi, lZ, hq⟩ := h
  refine ifs_no (fun Q1 hQ1 => or_no (fun Q hQ => ?_) ?_) hq
  · exact ⟨rfl, (i : Int), rfl, hQ⟩
  · exact chain_in (i := i) (n := Z.length) (fun K h => h) (fun K h => ⟨rfl, _, rfl, by show K (.int ((Z.map (eRn CR)).length : Nat)); rw [List.length_map]; exact h⟩) hi hQ1

abbrev s_Evidence___getitem__ : Stmt := inClass (top 30) 9
abbrev N_Evidence___getitem__ : List Str := ["self", "at"]
theorem sc_Evidence___getitem__ : FnScope N_Evidence___getitem__ ["self", "at"] (defScope s_Evidence___getitem__) := ⟨rfl, rfl, rfl, by decide +kernel, rfl, by decide +kernel, by decide +kernel⟩
theorem ok_Evidence___getitem__ {f : Addr} {fd : FuncData} (F : Fun K "__getitem__" "Evidence.__getitem__" s_Evidence___getitem__ f fd) (T : Txt mg) (OEv : OE K mg CE) (MCk : Met P w K mg base CE "_check" 2 1 (tfCheckE CE CR)) : FnOk P w K mg base CX0 (2 + 1) f fd ["self", "at"] (spD K 2 (tfItemE CE CR)) := by
  refine fn_D F sc_Evidence___getitem__ rfl fun rg cdv A outer s H E hr => ?_
  have hu := hr.units
  refine ⟨_, _, (dss_cons (ds_expr (d_meth MCk (hr.mono (by omega)) (DP.o (d_var (pv 0))) (da_cons (d_var (pv 1)) da_nil)))
    (dss_one (ds_ret (DP.o (d_ix (DP.o (d_fld (DP.o (d_var (pv 0))) OEv.cls OEv.runs)) (DP.o (d_var (pv 1)))))))), fun ds Qd h hl => ?_⟩
  obtain ⟨ys, Z, m, s, i, z, rfl, lZ, hi, hq⟩ := h
  have li := (List.getElem?_eq_some_iff.mp hi).1
  refine ⟨rfl, by decide, rfl, ys, Z, m, s, i, rfl, li, lZ, ?_⟩
  refine ⟨rfl, _, rfl, eRn CR z, ?_, hq⟩
  show atI (Z.map (eRn CR)) (i : Int) = some (eRn CR z)
  rw [atI_get (by omega) (by rw [List.length_map]; omega), Int.toNat_natCast, List.getElem?_map, hi]; rfl

abbrev s_Evidence___add__ : Stmt := inClass (top 30) 7
abbrev N_Evidence___add__ : List Str := ["self", "other"]
theorem sc_Evidence___add__ : FnScope N_Evidence___add__ ["self", "other"] (defScope s_Evidence___add__) := ⟨rfl, rfl, rfl, by decide +kernel, rfl, by decide +kernel, by decide +kernel⟩
theorem ok_Evidence___add__ {f : Addr} {fd : FuncData} (F : Fun K "__add__" "Evidence.__add__" s_Evidence___add__ f fd) (T : Txt mg) (OEv : OE K mg CE) (MKE : Mak P w K mg base "Evidence" CE ["names", "runs", "things", "slips"] 5 4 (tfInitEG CR)) (IE : IsiC K CE) (KE : PySem.W.kitOne K (.ref CE) (.ref CE) = some true) : FnOk P w K mg base CX0 (6 + 1) f fd ["self", "other"] (spD K 2 (tfAddE CE CR)) := by
  refine fn_D F sc_Evidence___add__ rfl fun rg cdv A outer s H E hr => ?_
  have hu := hr.units
  refine ⟨_, _, (dss_cons (ds_if (dt_not (dt_val (d_isiW (by rfl) T.isinstance (DP.o (d_var (pv 1))) (pe_glob (v := .ref CE) (by rfl) OEv.mg rfl) (.own CE)))) (dss_one (ds_ret (DP.o d_no))) dss_nil)
    (dss_cons (ds_if (DW.dt (dw_or (dt_cmp (op_neP (by exact hu)) opd_ne (DP.o (d_fld (DP.o (d_var (pv 0))) OEv.cls OEv.names)) (DP.o (d_fld (DP.o (d_var (pv 1))) OEv.cls OEv.names)) (nomark _)) (dw_or (dt_cmp (op_neP (by exact hu)) opd_ne (DP.o (d_fld (DP.o (d_var (pv 0))) OEv.cls OEv.things)) (DP.o (d_fld (DP.o (d_var (pv 1))) OEv.cls OEv.things)) (nomark _)) (dw_or1 (dt_cmp (op_neP (by exact hu)) opd_ne (DP.o (d_fld (DP.o (d_var (pv 0))) OEv.cls OEv.slips)) (DP.o (d_fld (DP.o (d_var (pv 1))) OEv.cls OEv.slips)) (nomark _)))))) (dss_one ds_never) dss_nil)
    (dss_one (ds_ret (DP.o (d_make MKE (hr.mono (by omega)) (by rfl) (da_cons (d_fld (DP.o (d_var (pv 0))) OEv.cls OEv.names) (da_cons (d_op op_addU opd_add (DP.o (d_fld (DP.o (d_var (pv 0))) OEv.cls OEv.runs)) (DP.o (d_fld (DP.o (d_var (pv 1))) OEv.cls OEv.runs))) (da_cons (d_fld (DP.o (d_var (pv 0))) OEv.cls OEv.things) (da_cons (d_fld (DP.o (d_var (pv 0))) OEv.cls OEv.slips) da_nil)))))))))), fun ds Qd h hl => ?_⟩
  obtain ⟨ys, Z, Z2, m, s, rfl, hE, hq⟩ := h
  have l1 := hE.zs.len
  rw [List.length_append] at l1
  have hz : (10000000 : Nat) < sizeLine := by decide
  with_reducible refine seq_no (fun Q hQ => ?_) ?_
  · exact ⟨_, true, rfl, IE, KE, hQ⟩
  with_reducible refine seq_no (fun Q1 hQ1 => or_no (fun Q hQ => ?_) (or_no (fun Q hQ => ?_) ?_)) ?_
  · exact ⟨rfl, _, rfl, rfl, _, rfl, ne_self (Q := Q) rfl (isPls_map (enc := D.str) (fun _ => rfl) ys) (dep_ns ys) hQ⟩
  · exact ⟨rfl, _, rfl, rfl, _, rfl, ne_self (Q := Q) rfl rfl (by simp [toPy, PyData.depth]) hQ⟩
  · exact ⟨rfl, _, rfl, rfl, _, rfl, ne_self (Q := Q1) rfl rfl (by simp [toPy, PyData.depth]) hQ1⟩
  refine ⟨rfl, _, rfl, rfl, _, rfl, rfl, _, rfl, by rw [List.length_map, List.length_map]; omega, rfl, _, rfl, rfl, _, rfl, rfl, true, true, ys, Z ++ Z2, m, s, ?_, hE.ns, hE.zs, hE.om, hE.sl, fun zs hp hs => ?_⟩
  · simp [eRns, sq]
  · have e := perm_uniq hE.ns.nd hp (.refl _) hs hE.so
    subst e
    exact hq

abbrev s_Evidence___eq__ : Stmt := inClass (top 30) 11
abbrev N_Evidence___eq__ : List Str := ["self", "other"]
theorem sc_Evidence___eq__ : FnScope N_Evidence___eq__ ["self", "other"] (defScope s_Evidence___eq__) := ⟨rfl, rfl, rfl, by decide +kernel, rfl, by decide +kernel, by decide +kernel⟩
theorem ok_Evidence___eq__ {f : Addr} {fd : FuncData} (F : Fun K "__eq__" "Evidence.__eq__" s_Evidence___eq__ f fd) (T : Txt mg) (OEv : OE K mg CE) (SQr : Spc P w K mg base CR "__eq__" 1 2 (tfEq CR)) (IE : IsiC K CE) (KE : PySem.W.kitOne K (.ref CE) (.ref CE) = some true) : FnOk P w K mg base CX0 (2 + 1) f fd ["self", "other"] (spD K 2 (tfEqE CE CR)) := by
  refine fn_D F sc_Evidence___eq__ rfl fun rg cdv A outer s H E hr => ?_
  have hu := hr.units
  refine ⟨_, _, (dss_one (ds_ret (DP.o (d_and (d_isiW (by rfl) T.isinstance (DP.o (d_var (pv 1))) (pe_glob (v := .ref CE) (by rfl) OEv.mg rfl) (.own CE)) (d_and (d_cmp (op_eqP (by exact hu)) opd_eq (DP.o (d_fld (DP.o (d_var (pv 0))) OEv.cls OEv.names)) (DP.o (d_fld (DP.o (d_var (pv 1))) OEv.cls OEv.names)) (nomark _)) (d_and (d_cmp (op_eqP (by exact hu)) opd_eq (DP.o (d_fld (DP.o (d_var (pv 0))) OEv.cls OEv.things)) (DP.o (d_fld (DP.o (d_var (pv 1))) OEv.cls OEv.things)) (nomark _)) (d_and (d_cmp (op_eqP (by exact hu)) opd_eq (DP.o (d_fld (DP.o (d_var (pv 0))) OEv.cls OEv.slips)) (DP.o (d_fld (DP.o (d_var (pv 1))) OEv.cls OEv.slips)) (nomark _)) (d_one (d_eqTupO SQr (hr.mono (by omega)) (d_fld (DP.o (d_var (pv 0))) OEv.cls OEv.runs) (d_fld (DP.o (d_var (pv 1))) OEv.cls OEv.runs) (nomark _)))))))))), fun ds Qd h hl => ?_⟩
  obtain ⟨ys, Z, m, s, rfl, hq⟩ := h
  refine ⟨_, true, rfl, IE, KE, ?_⟩
  refine ⟨rfl, _, rfl, rfl, _, rfl, eq_self (isPls_map (enc := D.str) (fun _ => rfl) ys) (dep_ns ys) ?_⟩
  refine ⟨rfl, _, rfl, rfl, _, rfl, eq_self rfl (by simp [toPy, PyData.depth]) ?_⟩
  refine ⟨rfl, _, rfl, rfl, _, rfl, eq_self rfl (by simp [toPy, PyData.depth]) ?_⟩
  refine ⟨rfl, _, rfl, rfl, _, rfl, Z.map (eRn CR), Z.map (eRn CR), fun _ => true, rfl, rfl, runs_same rg Z, ?_⟩
  have e : (false ^^ ((List.range (min (Z.map (eRn CR)).length (Z.map (eRn CR)).length)).all (fun _ => true) && (Z.map (eRn CR)).length == (Z.map (eRn CR)).length)) = true := by simp
  rw [e]; exact hq

abbrev s_Evidence___len__ : Stmt := inClass (top 30) 8
abbrev N_Evidence___len__ : List Str := ["self"]
theorem sc_Evidence___len__ : FnScope N_Evidence___len__ ["self"] (defScope s_Evidence___len__) := ⟨rfl, rfl, rfl, by decide +kernel, rfl, by decide +kernel, by decide +kernel⟩
theorem ok_Evidence___len__ {f : Addr} {fd : FuncData} (F : Fun K "__len__" "Evidence.__len__" s_Evidence___len__ f fd) (T : Txt mg) (OEv : OE K mg CE) : FnOk P w K mg base CX0 (0 + 1) f fd ["self"] (spD K 1 (tfLenE CE CR)) := by
  refine fn_D F sc_Evidence___len__ rfl fun rg cdv A outer s H E hr => ?_
  have hu := hr.units
  refine ⟨_, _, (dss_one (ds_ret (DP.o (d_callB cl_len cad_len (by rfl) T.len (by decide +kernel) (dao_cons (DP.o (d_fld (DP.o (d_var (pv 0))) OEv.cls OEv.runs)) dao_nil))))), fun ds Qd h hl => ?_⟩
  obtain ⟨ys, Z, m, s, rfl, lZ, hq⟩ := h
  refine ⟨rfl, _, rfl, ?_⟩
  show Qd (.int ((Z.map (eRn CR)).length : Nat))
  rw [List.length_map]; exact hq

abbrev s_Evidence___str__ : Stmt := inClass (top 30) 12
abbrev N_Evidence___str__ : List Str := ["self", "head", "run"]
theorem sc_Evidence___str__ : FnScope N_Evidence___str__ ["self"] (defScope s_Evidence___str__) := ⟨rfl, rfl, rfl, by decide +kernel, rfl, by decide +kernel, by decide +kernel⟩
theorem ok_Evidence___str__ {f : Addr} {fd : FuncData} (F : Fun K "__str__" "Evidence.__str__" s_Evidence___str__ f fd) (T : Txt mg) (OEv : OE K mg CE) (SSr : Spc P w K mg base CR "__str__" 2 1 (tfStr CR)) : FnOk P w K mg base CX0 (4 + 1) f fd ["self"] (spD K 1 (tfStrE CE CR)) := by
  refine fn_D F sc_Evidence___str__ rfl fun rg cdv A outer s H E hr => ?_
  have hu := hr.units
  refine ⟨_, _, (dss_cons (ds_setP (DF.p (df_lst (da_cons (d_join d_str (DP.o (DF.p (df_lst (da_cons d_str (da_star (DP.o (d_fld (DP.o (d_var (pv 0))) OEv.cls OEv.names)) da_nil)))))) (da_cons (d_fstr (.cons d_str (.cons (d_fmt (d_fld (DP.o (d_var (pv 0))) OEv.cls OEv.things)) (.cons d_str (.cons (d_fmt (d_fld (DP.o (d_var (pv 0))) OEv.cls OEv.slips)) .nil))))) da_nil)))) (i := 1) sc_Evidence___str__.nd rfl (by first | exact Or.inl rfl | exact Or.inr rfl))
    (dss_one (ds_ret (DP.o (d_join d_str (DP.o (DF.p (df_lst (da_star (DP.o (d_var (pv 1))) (da_star (DP.o (DF.p (df_lc (own := [("run", 2)]) rfl sc_Evidence___str__.nd (blkOk_by (N := N_Evidence___str__) (sc := (defScope s_Evidence___str__)) (by decide +kernel)) (di_op (DP.o (d_fld (DP.o (d_var (pv 0))) OEv.cls OEv.runs))) (fun _ _ _ _ _ => by exact (dg_name (pg_name (i := 2) sc_Evidence___str__.nd rfl (by first | exact Or.inl rfl | exact Or.inr rfl)) (by decide))) (fun _ _ _ _ _ => by exact dts_nil) (fun _ _ _ _ _ => by exact (d_strOwn SSr (hr.mono (by omega)) (by rfl) T.str (DP.o (d_var (pv 2)))))))) da_nil)))))))))), fun ds Qd h hl => ?_⟩
  obtain ⟨ys, Z, m, s, rfl, hE, hS, hs, hq⟩ := h
  have lZ := hE.zs.len
  have hz : (10000000 : Nat) < sizeLine := by decide
  obtain ⟨p1, p2, p3, p4, p5, p6⟩ := num_parts hE.om hs
  have l1 := hE.ns.len
  have hs1 := sum_le (m := 5) (l := (("tests" : Str) :: ys).map (·.length)) fun z hz => by
    obtain ⟨x, hx, rfl⟩ := List.mem_map.mp hz
    rcases List.mem_cons.mp hx with rfl | hx
    · decide +kernel
    · have := isName_len (hE.ns.name x hx); omega
  rw [List.length_map, List.length_cons] at hs1
  have k1 : (" " : Str).length = 1 := rfl
  have k2 : ("\n" : Str).length = 1 := rfl
  refine ⟨rfl, _, rfl, by show (ys.map D.str ++ []).length + 1 ≤ _; rw [List.append_nil, List.length_map]; omega, ("tests" : Str) :: ys, by simp, by rw [List.length_cons, k1]; omega, ?_⟩
  refine ⟨p1, rfl, _, rfl, p2, p3, p4, rfl, _, rfl, p5, p6, by show 2 ≤ _; omega, Nat.le_of_ble_eq_true rfl, ?_⟩
  refine ⟨rfl, rfl, _, rfl, lc_at (xs := Z) (enc := eRn CR) (p := fun _ => true) (g := fun z => D.str (runText z.1)) rfl (by omega) (fun z hz Qy Qn hy => ⟨rfl, rfl, z.1, z.2, rfl, (hE.zs.row z hz).1, hy⟩) ?_⟩
  rw [List.filter_eq_self.mpr fun _ _ => rfl]
  have hs2 := ev_lens hE.ns lZ hS hE.om hs
  refine ⟨?_, headText ys :: numText m s :: Z.map fun z => runText z.1, ?_, ?_, ?_⟩
  · simp; omega
  · simp; exact ⟨rfl, rfl⟩
  · rw [k2, List.length_cons, List.length_cons, List.length_map]; omega
  · show Qd (.str (evText ys Z m s))
    exact hq

end
end K17

namespace K17
open PySem L2 DL RD TB PySem.Spec PyProof.Rows

/-- runs as a law tells of them -/
structure OKt (T : List (List (List Pl))) (ns : List Str) (rows most : Nat) : Prop where
  row : ∀ R ∈ T, R ≠ [] ∧ R.length ≤ rows ∧ ∀ r ∈ R, r ≠ [] ∧ r.length ≤ most ∧ ∀ p ∈ r, p.1 ∈ ns
theorem nm_playR (f : Sf) (m : Nat) (rs : List (List Str)) : (playR f m rs).map (fun r => r.map (·.1)) = rs := by
  unfold playR
  rw [List.map_map]
  have : ((fun r : List Pl => r.map (·.1)) ∘ playB f (noB m)) = id := funext fun r => play_map1 f (noB m) r
  rw [this, List.map_id]
theorem okt_of {R : List (List Pl)} {oss : List (List Str)} {ns : List Str} {rows most : Nat} (h : R.map (fun r => r.map (·.1)) = oss) (o1 : oss ≠ []) (o2 : oss.length ≤ rows) (o3 : ∀ o ∈ oss, o ≠ [] ∧ o.length ≤ most ∧ ∀ x ∈ o, x ∈ ns) :
    R ≠ [] ∧ R.length ≤ rows ∧ ∀ r ∈ R, r ≠ [] ∧ r.length ≤ most ∧ ∀ p ∈ r, p.1 ∈ ns := by
  subst h
  rw [List.length_map] at o2
  refine ⟨fun e => o1 (by rw [e]; rfl), o2, fun r hr => ?_⟩
  obtain ⟨a, b, c⟩ := o3 (r.map (·.1)) (List.mem_map.mpr ⟨r, hr, rfl⟩)
  rw [List.length_map] at b
  exact ⟨fun e => a (by rw [e]; rfl), b, fun p hp => c p.1 (List.mem_map.mpr ⟨p, hp, rfl⟩)⟩
def tfSeen : Tf := fun rg ds Q => ∃ a g, ∃ (ns : List Str) (f : Sf) (m A rows most : Nat), rg = rgD a g ∧ ds = [.raw (.ref a), eTab false ns f, .int (A : Nat), .int (rows : Nat), .int (most : Nat)] ∧ GoodT ns f m ∧ A ≤ 20 ∧ 1 ≤ rows ∧ rows ≤ 8 ∧ 1 ≤ most ∧ most ≤ 8 ∧
  ∀ T : List (List (List Pl)), T.length ≤ A → OKt T ns rows most → Q (.lst (T.map (eRows false)))
def tfWith : Tf := fun rg ds Q => ∃ (ns : List Str) (f : Sf) (n : Str) (ss : List Sg), ds = [eTab false ns f, .str n, eSs false ss] ∧ ns.length < 60 ∧ Q (eTab false (if n ∈ ns then ns else ns ++ [n]) (fun x => if x = n then ss else f x))
theorem put_with {ns : List Str} {f : Sf} {n : Str} {ss : List Sg} : D.dct (putDk (ns.map .inr) (.inr n)) (putDv (ns.map .inr) (ns.map fun n => eSs false (f n)) (.inr n) (eSs false ss)) = eTab false (if n ∈ ns then ns else ns ++ [n]) (fun x => if x = n then ss else f x) := by
  have hk : hasK (ns.map Sum.inr) (.inr n : Key) = decide (n ∈ ns) := by
    rw [Bool.eq_iff_iff, hasK_iff]
    simp
  unfold putDk putDv eTab
  rw [hk]
  by_cases h : n ∈ ns
  · rw [if_pos (decide_eq_true h), if_pos (decide_eq_true h), if_pos h]
    congr 1
    clear h hk
    induction ns with
    | nil => rfl
    | cons x ns ih =>
      rw [List.map_cons, List.map_cons, List.zipWith_cons_cons, ih, List.map_cons]
      congr 1
      by_cases e : x = n
      · subst e; simp
      · rw [if_neg (fun z => e (Sum.inr.inj z))]
        show _ = eSs false (if x = n then ss else f x)
        rw [if_neg e]
  · have h2 : ¬ decide (n ∈ ns) = true := by simpa using h
    rw [if_neg h2, if_neg h2, if_neg h, List.map_append, List.map_append]
    congr 1
    congr 1
    · refine List.map_congr_left fun x hx => ?_
      have e : ¬ x = n := fun e => h (by rw [← e]; exact hx)
      show _ = eSs false (if x = n then ss else f x)
      rw [if_neg e]
    · simp
section
variable {P : Program} {w : World} {K : PySem.W.Frag} {mg : Str → Option Value} {base : Heap} {CT CR CE : Addr}

abbrev s__law_seen_runs : Stmt := top 46
abbrev N__law_seen_runs : List Str := ["_law_deal", "_law_table_here", "_law_amount", "_law_rows", "_law_most", "_law_names_here", "_law_found", "_law_turn", "_law_told", "_law_name"]
theorem sc__law_seen_runs : FnScope N__law_seen_runs ["_law_deal", "_law_table_here", "_law_amount", "_law_rows", "_law_most"] (defScope s__law_seen_runs) := ⟨rfl, rfl, rfl, by decide +kernel, rfl, by decide +kernel, by decide +kernel⟩
theorem ok_law_seen_runs {f : Addr} {fd : FuncData} (F : Fun K "_law_seen_runs" "_law_seen_runs" s__law_seen_runs f fd) (T : Txt mg) (CD : Cal P w K mg base "_law_draw" 1 2 tfDr) (CPd : Cal P w K mg base "_law_played" 3 2 tfPlL) (COs : Cal P w K mg base "_law_orders" 4 4 tfOrders) (CFl : Cal P w K mg base "_law_flipped" 2 3 tfFlip) : FnOk P w K mg base CX0 (4 + 1) f fd ["_law_deal", "_law_table_here", "_law_amount", "_law_rows", "_law_most"] (spD K 5 tfSeen) := by
  refine fn_D F sc__law_seen_runs rfl fun rg cdv A outer s H E hr => ?_
  have hu := hr.units
  refine ⟨_, _, (dss_cons (ds_parPF (i := 5) (j := 6) rfl sc__law_seen_runs.nd rfl rfl (by decide) rfl rfl (DF.p (df_lcKeys (own := [("_law_name", 9)]) (i := 1) rfl rfl sc__law_seen_runs.nd (blkOk_by (N := N__law_seen_runs) (sc := (defScope s__law_seen_runs)) (by decide +kernel)) (pv 1) (fun _ _ _ _ _ => by exact (dg_name (pg_name (i := 9) sc__law_seen_runs.nd rfl (by first | exact Or.inl rfl | exact Or.inr rfl)) (by decide))) (fun _ _ _ _ _ => by exact dts_nil) (fun _ _ _ _ _ => by exact (d_callTy SkE.call_str_str cad_str (by rfl) T.str (by decide +kernel) (dao_cons (DP.o (d_var (pv 9))) dao_nil))))) (df_lst da_nil) (by rfl))
    (dss_cons (ds_for (vs := [7]) PassesOwn.never rfl (di_range1 (by rfl) T.range (da_cons (d_callC CD (hr.mono (by omega)) (by rfl) (da_cons (d_var (pv 0)) (da_cons (d_op op_addU opd_add (DP.o (d_var (pv 2))) (DP.o d_int)) da_nil))) da_nil)) (dg_name (pg_name (i := 7) sc__law_seen_runs.nd rfl (by first | exact Or.inl rfl | exact Or.inr rfl)) (by decide))
    (dss_cons (ds_setP (d_callC CPd (hr.mono (by omega)) (by rfl) (da_cons (d_var (pv 1)) (da_cons (d_callC COs (hr.mono (by omega)) (by rfl) (da_cons (d_var (pv 0)) (da_cons (d_var (pv 5)) (da_cons (d_var (pv 3)) (da_cons (d_var (pv 4)) da_nil))))) da_nil))) (i := 8) sc__law_seen_runs.nd rfl (by first | exact Or.inl rfl | exact Or.inr rfl))
    (dss_one (ds_appP (i := 6) (pv 6) (d_callC CFl (hr.mono (by omega)) (by rfl) (da_cons (d_var (pv 0)) (da_cons (d_var (pv 8)) (da_cons (d_if (dt_cmp (op_eqP (by exact hu)) opd_eq (DP.o (d_callC CD (hr.mono (by omega)) (by rfl) (da_cons (d_var (pv 0)) (da_cons d_int da_nil)))) (DP.o d_int) (nomark _)) d_int d_int) da_nil))))))))
    (dss_one (ds_ret (do_var (pv 6)))))), fun ds Qd h hl => ?_⟩
  obtain ⟨a, g, ns, f, m, A, rows, most, hrg, rfl, hG, hA, r1, r2, m1, m2, hq⟩ := h
  have hs1 : (1000 : Nat) < sizeLine := by decide
  have l1 := hG.len
  have l0 : 0 < ns.length := List.length_pos_iff.mpr hG.ne
  have ek : dkD .keys (ns.map .inr) (ns.map fun n => eSs false (f n)) = ns.map D.str := by
    show (ns.map (Sum.inr : Str → Key)).map _ = _
    rw [List.map_map]; rfl
  refine (show sLcK .keys 1 _ sYes _ [9] [some (.dat (.raw (.ref a))), some (.dat (eTab false ns f)), some (.dat (.int (A : Nat))), some (.dat (.int (rows : Nat))), some (.dat (.int (most : Nat))), none, none, none, none, none] _ from ?_)
  refine lcK_at (xs := ns) (enc := D.str) (p := fun _ => true) (gD := D.str) (by rfl) (noDs_tab false ns f) (by rfl) (by rfl) ek (by omega) (fun n hn Qy Qn hy => ?_) (fun _ _ => rfl) ?_
  · exact ⟨rfl, hy⟩
  rw [List.filter_eq_self.mpr fun _ _ => rfl]
  refine ⟨Nat.le_of_ble_eq_true rfl, Nat.le_of_ble_eq_true rfl, Nat.le_of_ble_eq_true rfl, fun q => ?_⟩
  refine ⟨rfl, a, g, (A : Int) + 1, hrg, rfl, by omega, by omega, fun z z0 z1 => ⟨by omega, by omega, ?_⟩⟩
  have lz : (intsD 0 z.toNat).length = z.toNat := intsD_length
  refine ⟨fun i env' => ∃ T' : List (List (List Pl)), T'.length = i ∧ OKt T' ns rows most ∧ ∃ y7 y8 : Option Sl, env' = [some (.dat (.raw (.ref a))), some (.dat (eTab false ns f)), some (.dat (.int (A : Nat))), some (.dat (.int (rows : Nat))), some (.dat (.int (most : Nat))), some (.dat (.lst (ns.map .str))), some (.own q (T'.map (eRows false))), y7, y8, none] ∧ FreeS y7, ⟨[], rfl, ⟨fun _ h => by cases h⟩, none, none, rfl, .inl rfl⟩, ?_, ?_⟩
  · rintro i x env' hx ⟨T', lT, hT, y7, y8, rfl, f7⟩
    have hlt := (List.getElem?_eq_some_iff.mp hx).1
    rw [lz] at hlt
    refine ⟨by rcases f7 with rfl | ⟨y, rfl⟩ <;> rfl, ?_⟩
    refine ⟨rfl, a, g, ns, rows, most, hrg, rfl, l0, by omega, by omega, by omega, by omega, by omega, fun oss o1 o2 o3 => ?_⟩
    refine ⟨rfl, ns, f, m, oss, rfl, hG, ⟨by omega, fun r hr => ⟨by have := (o3 r hr).2.1; omega, (o3 r hr).2.2⟩⟩, Nat.le_of_ble_eq_true rfl, ?_⟩
    have R1 : (playR f m oss).length = oss.length := by unfold playR; rw [List.length_map]
    have R0 : playR f m oss ≠ [] := fun e => o1 (List.eq_nil_of_length_eq_zero (by rw [← R1, e]; rfl))
    have R2 : ∀ r ∈ playR f m oss, r ≠ [] ∧ r.length ≤ most ∧ ∀ p ∈ r, p.1 ∈ ns := (okt_of (nm_playR f m oss) o1 o2 o3).2.2
    refine ⟨rfl, a, g, 6, hrg, rfl, by decide, by decide, fun u u0 u1 => ⟨rfl, rfl, Nat.le_of_ble_eq_true rfl, ?_⟩⟩
    show (if deq (.int u) (.int 0) = true then _ else _)
    rw [deq_int]
    by_cases hu0 : (u == 0) = true
    · rw [if_pos hu0]
      · refine ⟨rfl, a, g, playR f m oss, 1, hrg, rfl, R0, by rw [R1]; omega, fun r hr => ⟨(R2 r hr).1, by have := (R2 r hr).2.1; omega⟩, by decide, fun R' hR' => ⟨by rw [List.length_map]; omega, T' ++ [R'], by rw [List.length_append, lT]; rfl, ⟨fun Z hZ => ?_⟩, _, _, by rw [List.map_append]; rfl, .inr ⟨_, rfl⟩⟩⟩
        rcases List.mem_append.mp hZ with hZ | hZ
        · exact hT.row Z hZ
        · rw [List.mem_singleton.mp hZ]
          exact okt_of (by rw [hR', nm_playR]) o1 o2 o3
    · rw [if_neg hu0]
      · refine ⟨rfl, a, g, playR f m oss, 0, hrg, rfl, R0, by rw [R1]; omega, fun r hr => ⟨(R2 r hr).1, by have := (R2 r hr).2.1; omega⟩, by decide, fun R' hR' => ⟨by rw [List.length_map]; omega, T' ++ [R'], by rw [List.length_append, lT]; rfl, ⟨fun Z hZ => ?_⟩, _, _, by rw [List.map_append]; rfl, .inr ⟨_, rfl⟩⟩⟩
        rcases List.mem_append.mp hZ with hZ | hZ
        · exact hT.row Z hZ
        · rw [List.mem_singleton.mp hZ]
          exact okt_of (by rw [hR', nm_playR]) o1 o2 o3
  · rintro env' ⟨T', lT, hT, y7, y8, rfl, f7⟩
    rw [lz] at lT
    exact hq T' (by omega) hT

end
end K17

/-! == and != of pairs: plain data, and a tuple of own instances. -/
namespace DL
open PySem L2 PySem.Spec PyProof.Rows
section
variable {X : Cx} {CX : CXT} {n : Nat} {f C : Addr} {fd : FuncData} {ps : List Str} {sp : Sp} {E : XK}
/-- == of two values, with an answer -/
def EqB (X : Cx) (n : Nat) (x y : V) (r : Bool) (I J : Hp → Prop) : Prop :=
  ∀ (A : Around) (pins : List (Addr × Obj)) (s : Shared) (σ : L2.St) (H : Hp) (u v : Value), Sub X n A → Inv X pins σ H s → RelV x u → RelV y v → I H →
    wpAny (model X.prog X.w) A (eqBool u v) (fun b s' => b = r ∧ ∃ H', Inv X pins σ H' s' ∧ J H') X.xe s
theorem eqB_plain {x y : V} {d e : PyData} {I J : Hp → Prop} (h : ∀ H, I H → Dp X.K H x d ∧ Dp X.K H y e ∧ J H) (pd : d.plain = true) (pe : e.plain = true) (hz : min d.depth e.depth ≤ 60) : EqB X n x y (PyData.eqv d e) I J := by
  intro A pins s σ H u v sb Iv rx ry hi
  obtain ⟨h1, h2, h3⟩ := h H hi
  obtain ⟨as, r1⟩ := Dp.reads Iv d x u h1 rx
  obtain ⟨bs, r2⟩ := Dp.reads Iv e y v h2 ry
  exact SeqAt.eqAt_plain d e A s u v as bs r1 r2 pd pe (by have := sb.room.units; omega) X.prog X.w X.xe _ ⟨rfl, H, Iv, h3⟩
theorem eqB_tupO (F : FnOk X.prog X.w X.K X.mg X.base CX n f fd ps sp) (hb : Binds X.K fd ps []) (hx : Passes CX X E) (hs : PySem.W.findIn X.K (.ref C) "__eq__" = some (some (.ref f))) (hf : PySem.W.isFn X.K (.ref f) = true)
    {a b : Addr} {xs ys : List V} {e : Nat → Bool} {I0 J0 : Hp → Prop} {I : Nat → Hp → Prop} (ht : ∀ H, I0 H → SqT X.K H a xs ∧ SqT X.K H b ys ∧ I 0 H) (pr : PairO X C sp E e I xs ys) (fin : ∀ i H, I i H → J0 H) :
    EqB X (n + 1) (.ref a) (.ref b) ((List.range (min xs.length ys.length)).all e && xs.length == ys.length) I0 J0 := by
  intro A pins s σ H u v sb Iv rx ry hi
  cases rx
  cases ry
  obtain ⟨ha, hb', j0⟩ := ht H hi
  by_cases hab : a = b
  · subst hab
    have exy : xs = ys := Iv.tuple_inj ha hb'
    subst exy
    have go : ∀ k, k ≤ xs.length → I k H ∧ (List.range k).all e = true := fun k => by
      induction k with
      | zero => exact fun _ => ⟨j0, rfl⟩
      | succ k ih =>
        intro hk
        obtain ⟨ik, ek⟩ := ih (by omega)
        have hk' : k < xs.length := hk
        obtain ⟨p, q, dx, dy, fs, gs, ex, ey, hp, hq, same, _⟩ := pr k xs[k] xs[k] H (List.getElem?_eq_getElem hk') (List.getElem?_eq_getElem hk') ik
        have hpq : p = q := by rw [ex] at ey; cases ey; rfl
        obtain ⟨h1, h2⟩ := same hpq
        refine ⟨h2, ?_⟩
        rw [List.range_succ, List.all_append, ek]
        simp [h1 _ _ _ Iv]
    obtain ⟨ik, ek⟩ := go xs.length (Nat.le_refl _)
    have er : ((List.range (min xs.length xs.length)).all e && xs.length == xs.length) = true := by rw [Nat.min_self, ek]; simp
    exact SeqAt.EqAt.same (A := A) (s := s) (.ref a) X.prog X.w X.xe _ ⟨er.symm, H, Iv, fin _ _ ik⟩
  · obtain ⟨its, r, e1, z⟩ := Iv.tuple ha
    obtain ⟨its2, r2, e2, z2⟩ := Iv.tuple hb'
    refine GQ.eqBool_refG hab (GQ.rc_tupB false e sb.room.units0 (fun i s' => ∃ H', Inv X pins σ H' s' ∧ I i H') e1 e2 (fun i h1 h2 s' l => ?_) (fun i s' q => ?_) ⟨H, Iv, j0⟩)
    · obtain ⟨H1, I1, j1⟩ := l
      have h1' : i < its.length := by simpa using h1
      have h2' : i < its2.length := by simpa using h2
      have k1 : i < xs.length := by rw [r.length]; exact h1'
      have k2 : i < ys.length := by rw [r2.length]; exact h2'
      obtain ⟨p, q, dx, dy, fs, gs, ex, ey, hp, hq, same, h⟩ := pr i xs[i] ys[i] H1 (List.getElem?_eq_getElem k1) (List.getElem?_eq_getElem k2) j1
      obtain ⟨u, hu, ru⟩ := r.get (List.getElem?_eq_getElem k1)
      obtain ⟨v, hv, rv⟩ := r2.get (List.getElem?_eq_getElem k2)
      rw [List.getElem?_eq_getElem h1'] at hu
      rw [List.getElem?_eq_getElem h2'] at hv
      rw [ex] at ru
      rw [ey] at rv
      rw [ex, ey] at h
      cases ru
      cases rv
      have g1 : its.toArray[i] = .ref p := by simpa using hu
      have g2 : its2.toArray[i] = .ref q := by simpa using hv
      rw [g1, g2]
      exact eqBool_O F hb hx sb.in1 hs hf I1 hp hq same h
    · obtain ⟨H1, I1, j1⟩ := q
      rw [List.size_toArray, List.size_toArray, ← r.length, ← r2.length]
      exact ⟨_, rfl, by simp, H1, I1, fin i H1 j1⟩
def rTupE (X : Cx) (K : PySem.W.Frag) (n : Nat) (neg : Bool) : R2 := fun x y H Q => ∃ (a b : Addr) (xs ys : List V) (e : Nat → Bool) (I : Nat → Hp → Prop), x = .ref a ∧ y = .ref b ∧ SqT K H a xs ∧ SqT K H b ys ∧ I 0 H ∧ (∀ i x y, xs[i]? = some x → ys[i]? = some y → EqB X n x y (e i) (I i) (I (i + 1))) ∧
  ∀ i H', I i H' → Q (.bl (neg ^^ ((List.range (min xs.length ys.length)).all e && xs.length == ys.length))) H'
theorem op_tupE (neg : Bool) (hr : Room (n + 1) X.A) : OpR X (compareOp (if neg then .NotEq else .Eq)) (rTupE X X.K n neg) := by
  rintro pins s σ H x y u v Q I rx ry ⟨a, b, xs, ys, e, J, rfl, rfl, ha, hb', j0, pr, fin⟩
  cases rx
  cases ry
  obtain ⟨its, r, e1, z⟩ := I.tuple ha
  obtain ⟨its2, r2, e2, z2⟩ := I.tuple hb'
  have sb : Sub X (n + 1) X.A := ⟨hr, rfl⟩
  have hc : ∀ v u, compareOp (if neg then .NotEq else .Eq) v u = richCompare (if neg then .NotEq else .Eq) v u := fun v u => by cases neg <;> rfl
  rw [hc]
  refine GQ.rc_tupB neg e sb.room.units0 (fun i s' => ∃ H', Inv X pins σ H' s' ∧ J i H') e1 e2 (fun i h1 h2 s' l => ?_) (fun i s' q => ?_) ⟨H, I, j0⟩
  · obtain ⟨H1, I1, j1⟩ := l
    have h1' : i < its.length := by simpa using h1
    have h2' : i < its2.length := by simpa using h2
    have k1 : i < xs.length := by rw [r.length]; exact h1'
    have k2 : i < ys.length := by rw [r2.length]; exact h2'
    obtain ⟨u, hu, ru⟩ := r.get (List.getElem?_eq_getElem k1)
    obtain ⟨v, hv, rv⟩ := r2.get (List.getElem?_eq_getElem k2)
    rw [List.getElem?_eq_getElem h1'] at hu
    rw [List.getElem?_eq_getElem h2'] at hv
    have g1 : its.toArray[i] = u := by simpa using hu
    have g2 : its2.toArray[i] = v := by simpa using hv
    rw [g1, g2]
    exact pr i xs[i] ys[i] (List.getElem?_eq_getElem k1) (List.getElem?_eq_getElem k2) X.A.in1 pins s' σ H1 u v sb.in1 I1 ru rv j1
  · obtain ⟨H1, I1, j1⟩ := q
    have := fin i H1 j1
    rw [List.size_toArray, List.size_toArray, ← r.length, ← r2.length]
    exact ⟨.bl _, H1, I1, rfl, this⟩
def sTupN (C : Addr) (tf : Tf) (rg : Rg) (neg : Bool) (t1 t2 : TD) : TD := fun env Q => t1 env fun d => t2 env fun e => ∃ (p q : D) (xs ys : List D) (b : Nat → Bool), d = .tup [p, .tup xs] ∧ e = .tup [q, .tup ys] ∧ isPl p = true ∧ isPl q = true ∧ min (toPy p).depth (toPy q).depth ≤ 60 ∧ OPairs C tf rg b xs ys ∧
  Q (.bl (neg ^^ (deq p q && ((List.range (min xs.length ys.length)).all b && xs.length == ys.length))))
theorem tup_stay {K : PySem.W.Frag} {M : Addr → Prop} {H : Hp} {v : V} {xs : List D} (r : Rp K M H v (.tup xs)) : ∃ a vs, v = .ref a ∧ RpAll K M H vs xs ∧ ∀ H', Keep M H H' → SqT K H' a vs := by
  cases r with
  | tup m e a => exact ⟨_, _, rfl, a, fun H' k => SqT.of (k _ _ e m)⟩
  | tupK e a => exact ⟨_, _, rfl, a, fun H' _ => .inr e⟩
theorem rf_tupN {K : PySem.W.Frag} {rg : Rg} {neg : Bool} {tf : Tf} {ta tb : TE} {t1 t2 : TD} (hK : X.K = K) (F : FnOk X.prog X.w X.K X.mg X.base CX n f fd ps (spD K 2 tf)) (hb : Binds X.K fd ps []) (hx : Passes CX X E) (hs : PySem.W.findIn X.K (.ref C) "__eq__" = some (some (.ref f))) (hf : PySem.W.isFn X.K (.ref f) = true)
    (h1 : Rf K rg ta t1) (h2 : Rf K rg tb t2) : Rf K rg (tOp (rTupE X K (n + 1) neg) ta tb) (sTupN C tf rg neg t1 t2) := fun c hc pn H0 env σ H Qd Q S ht k => by
  refine h1 c hc pn H0 env σ H _ _ S ht fun d v H1 q1 k1 j1 r1 => ?_
  subst hc
  have S1 := S.grow k1 j1
  refine h2 c rfl pn H0 env σ H1 _ _ S1 q1 fun e w H2 q2 k2 j2 r2 => ?_
  have S2 := S1.grow k2 j2
  have r1' := Rp.keep (k2.mono fun a h => Mof.of_R S.ok h) r1
  obtain ⟨p, q, xs, ys, b, rfl, rfl, pp, pq, hz, hp, hq⟩ := q2
  obtain ⟨a, vs, rfl, ra, ka⟩ := tup_stay r1'
  obtain ⟨a2, ws, rfl, rb, kb⟩ := tup_stay r2
  cases ra with
  | cons ra1 ra =>
  cases ra with
  | cons ra2 ra =>
  cases ra
  cases rb with
  | cons rb1 rb =>
  cases rb with
  | cons rb2 rb =>
  cases rb
  obtain ⟨a3, us, rfl, rc, kc⟩ := tup_stay ra2
  obtain ⟨a4, zs, rfl, rd, kd⟩ := tup_stay rb2
  have kM : ∀ {H'}, Keep c.rg.R H2 H' → Keep (Mof c env) H2 H' := fun k => k.mono fun a z => Mof.of_R S.ok z
  cases hK
  have pr := pair_of (E := E) rfl S2 rc rd hp
  refine ⟨a, a2, _, _, fun i => if i = 0 then deq p q else ((List.range (min us.length zs.length)).all b && us.length == zs.length), fun _ H' => Keep c.rg.R H2 H' ∧ c.rg.J H', rfl, rfl, ka H2 Keep.refl, kb H2 Keep.refl, ⟨Keep.refl, j2⟩, fun i x y hx' hy' => ?_, fun i H' ⟨k', j'⟩ => ?_⟩
  · cases i with
    | zero =>
      cases hx'
      cases hy'
      exact eqB_plain (d := toPy p) (e := toPy q) (I := fun H' => Keep c.rg.R H2 H' ∧ c.rg.J H') (J := fun H' => Keep c.rg.R H2 H' ∧ c.rg.J H') (fun H' ⟨k', j'⟩ => ⟨(Rp.keep (kM k') ra1).dp pp, (Rp.keep (kM k') rb1).dp pq, k', j'⟩) (plain_toPy _) (plain_toPy _) hz
    | succ i =>
      cases i with
      | zero =>
        cases hx'
        cases hy'
        exact eqB_tupO (I0 := fun H' => Keep c.rg.R H2 H' ∧ c.rg.J H') (J0 := fun H' => Keep c.rg.R H2 H' ∧ c.rg.J H') F hb hx hs hf (fun H' ⟨k', j'⟩ => ⟨kc H' (kM k'), kd H' (kM k'), k', j'⟩) pr fun i H z => z
      | succ i => cases hx'
  · have e1 : ((List.range 2).all fun i => if i = 0 then deq p q else ((List.range (min us.length zs.length)).all b && us.length == zs.length)) = (deq p q && ((List.range (min us.length zs.length)).all b && us.length == zs.length)) := by
      simp [List.range_succ]
    show Q (.bl (neg ^^ (((List.range 2).all fun i => if i = 0 then deq p q else ((List.range (min us.length zs.length)).all b && us.length == zs.length)) && true))) H'
    rw [e1, Bool.and_true, RpAll.length rc, RpAll.length rd]
    exact k _ _ H' hq ((k1.trans k2).trans k') j' (.bl _)
end
section
variable {X : Cx} {K : PySem.W.Frag} {rg : Rg} {a b : Expr} {ta tb : TE} {t1 t2 : TD} {C : Addr} {tf : Tf} {pos : Pos} {lv : Nat}
theorem dt_neTupN (F : Spc X.prog X.w X.K X.mg X.base C "__eq__" lv 2 tf) (hr : Room (lv + 2) X.A) (h1 : DP X K rg a ta t1) (h2 : DP X K rg b tb t2) (hm : behindInMarks .NotEq b = false) : DT X K rg (.Compare a [.NotEq] [b] pos) (tTest (tOp (rTupE X K (lv + 1) true) ta tb)) (sTest (sTupN C tf rg true t1 t2)) := by
  cases h1.kx
  obtain ⟨f, fd, ps, F, hb, hs, hf⟩ := F.ex
  exact ⟨rfl, pt_cmpR (op_tupE true hr) h1.pe h2.pe hm, rf_test (rf_tupN rfl F hb pass0 hs hf h1.rf h2.rf)⟩
end
end DL

namespace K17
open PySem L2 DL RD TB PySem.Spec PyProof.Rows
section
variable {P : Program} {w : World} {K : PySem.W.Frag} {mg : Str → Option Value} {base : Heap} {CT CR CE : Addr}

def spLaw (K : PySem.W.Frag) : Sp := fun vs H Q _ => ∃ (a : Addr) (ns : List Int), vs = [.ref a] ∧ SqL K H a (ns.map V.int) ∧ ns.length ≤ 63 ∧ ∀ H', Q (.bl true) H'
theorem intsD_get {n : Nat} {i : Nat} {x : D} (h : (intsD 0 n)[i]? = some x) : ∃ b : Int, x = .int b ∧ 0 ≤ b ∧ b < n := by
  obtain ⟨hlt, e⟩ := List.getElem?_eq_some_iff.mp h
  rw [intsD_length] at hlt
  refine ⟨(i : Nat), ?_, by omega, by omega⟩
  rw [← e]
  simp [intsD]
theorem map_get {α : Type} {enc : α → D} {xs : List α} {i : Nat} {x : D} (h : (xs.map enc)[i]? = some x) : ∃ y ∈ xs, x = enc y := by
  obtain ⟨y, hy, e⟩ := List.mem_map.mp (List.mem_of_getElem? h)
  exact ⟨y, hy, e.symm⟩

def tfEvText : Tf := fun rg ds Q => ∃ (ws : List Str) (T' : List (List (List Pl))) (m s : Int), ds = [.lst (ws.map .str), .lst (T'.map (eRows false)), .int m, .int s] ∧ GoodN ws ∧ T'.length < 60 ∧ (∀ R ∈ T', Good R ∧ (runText R).length ≤ 100000) ∧ (m = 1 ∨ m = 2) ∧ IsSl s ∧ ∀ ys, ys.Perm ws → sortedS ys = true → Q (.str (Txt.join "\n" (headText ys :: numText m s :: T'.map runText)))
theorem frI {env : En} {i : Nat} {x : Option Sl} (e : env[i]? = some x) (h : FreeS x) : slotFree env i = true := by
  unfold slotFree
  rw [e]
  rcases h with rfl | ⟨y, rfl⟩ <;> rfl
theorem W_names : ∀ x ∈ W, isName x = true := by decide +kernel
def EnvL (d0 : D) (e : En) : Prop := ∃ x1 x2 x3 x4 x5 x6 x7 x8 x9 x10 x11 x12 x13 x14 x15 : Option Sl, e = [some (.dat d0), x1, x2, x3, x4, x5, x6, x7, x8, x9, x10, x11, x12, x13, x14, x15] ∧ FreeS x1 ∧ FreeS x2 ∧ FreeS x3 ∧ FreeS x4 ∧ FreeS x5 ∧ FreeS x6 ∧ FreeS x7 ∧ FreeS x8 ∧ FreeS x9 ∧ FreeS x10 ∧ FreeS x11 ∧ FreeS x12 ∧ FreeS x13 ∧ FreeS x14 ∧ FreeS x15
def EnvT (d0 : D) (a : Addr) (e : En) : Prop := ∃ x1 x3 x4 x5 x6 x7 x8 x9 x10 x11 x12 x13 x14 x15 : Option Sl, e = [some (.dat d0), x1, some (.dat (.raw (.ref a))), x3, x4, x5, x6, x7, x8, x9, x10, x11, x12, x13, x14, x15] ∧ FreeS x1 ∧ FreeS x3 ∧ FreeS x4 ∧ FreeS x5 ∧ FreeS x6 ∧ FreeS x7 ∧ FreeS x8 ∧ FreeS x9 ∧ FreeS x10 ∧ FreeS x11 ∧ FreeS x12 ∧ FreeS x13 ∧ FreeS x14 ∧ FreeS x15
theorem envT_L {d0 : D} {a : Addr} {e : En} : EnvT d0 a e → EnvL d0 e := fun ⟨x1, x3, x4, x5, x6, x7, x8, x9, x10, x11, x12, x13, x14, x15, h, f1, f3, f4, f5, f6, f7, f8, f9, f10, f11, f12, f13, f14, f15⟩ => ⟨x1, _, x3, x4, x5, x6, x7, x8, x9, x10, x11, x12, x13, x14, x15, h, f1, .inr ⟨_, rfl⟩, f3, f4, f5, f6, f7, f8, f9, f10, f11, f12, f13, f14, f15⟩
theorem perm_back {α β : Type} (g : α → β) : ∀ {L M : List β}, L.Perm M → ∀ xs : List α, M = xs.map g → ∃ zs : List α, zs.Perm xs ∧ L = zs.map g := by
  intro L M h
  induction h with
  | nil => intro xs e; exact ⟨xs, .refl _, e⟩
  | cons x h ih =>
    intro xs e
    cases xs with
    | nil => cases e
    | cons y ys =>
      simp only [List.map_cons, List.cons.injEq] at e
      obtain ⟨zs, p, e2⟩ := ih ys e.2
      exact ⟨y :: zs, p.cons y, by rw [List.map_cons, e.1, e2]⟩
  | swap x y l =>
    intro xs e
    cases xs with
    | nil => cases e
    | cons a xs =>
      cases xs with
      | nil => simp at e
      | cons b xs =>
        simp only [List.map_cons, List.cons.injEq] at e
        exact ⟨b :: a :: xs, .swap a b xs, by rw [List.map_cons, List.map_cons, e.1, e.2.1, e.2.2]⟩
  | trans h1 h2 ih1 ih2 =>
    intro xs e
    obtain ⟨zs, p, e2⟩ := ih2 xs e
    obtain ⟨ws, p2, e3⟩ := ih1 zs e2
    exact ⟨ws, p2.trans p, e3⟩
theorem evT {T : List (List (List Pl))} {Z : List Rn} (h : Z.map (·.1) = T) : (Z.map fun z => runText z.1) = T.map runText := by rw [← h, List.map_map]; rfl
theorem lens_of {T : List (List (List Pl))} (l : T.length < 60) (h : ∀ R ∈ T, (runText R).length ≤ 100000) : ((T.map runText).map (·.length)).sum ≤ 6000000 := by
  have h1 := sum_le (m := 100000) (l := (T.map runText).map (·.length)) fun x hx => by
    rw [List.map_map] at hx
    obtain ⟨R, hR, rfl⟩ := List.mem_map.mp hx
    exact h R hR
  rw [List.length_map, List.length_map] at h1
  omega
theorem heads_sum {ns : List Str} (h : GoodN ns) : ((("tests" : Str) :: ns).map (·.length)).sum ≤ 305 := by
  have hs1 := sum_le (m := 5) (l := (("tests" : Str) :: ns).map (·.length)) fun z hz => by
    obtain ⟨x, hx, rfl⟩ := List.mem_map.mp hz
    rcases List.mem_cons.mp hx with rfl | hx
    · decide +kernel
    · have := isName_len (h.name x hx); omega
  rw [List.length_map, List.length_cons] at hs1
  have := h.len
  omega
theorem num_split2 : ∀ {m s : Int}, (m = 1 ∨ m = 2) → IsSl s → m.natAbs.log2 < 1920 ∧ ("things " : Str).length + (Str.ofString (toString m)).length ≤ sizeLine ∧ ("things " ++ Str.ofString (toString m) : Str).length + (" slips " : Str).length ≤ sizeLine ∧ s.natAbs.log2 < 1920 ∧ ("things " ++ Str.ofString (toString m) ++ " slips " : Str).length + (Str.ofString (toString s)).length ≤ sizeLine ∧ ("things " ++ Str.ofString (toString m) ++ " slips " ++ Str.ofString (toString s) : Str) = numText m s := by
  rintro m s (rfl | rfl) (rfl | rfl | rfl) <;> decide +kernel
theorem goodN_perm {ns ys : List Str} (h : GoodN ns) (p : ys.Perm ns) : GoodN ys := ⟨fun e => h.ne (by rw [e] at p; exact p.symm.eq_nil), by rw [p.length_eq]; exact h.len, p.nodup_iff.mpr h.nd, fun n hn => h.name n (p.mem_iff.mp hn)⟩
theorem goodZ_names {Z : List Rn} {ns ys : List Str} (h : GoodZ Z ns) (p : ys.Perm ns) : GoodZ Z ys := ⟨h.len, fun z hz => ⟨(h.row z hz).1, (h.row z hz).2.1, fun r hr q hq => p.mem_iff.mpr ((h.row z hz).2.2 r hr q hq)⟩⟩
abbrev s__law_evidence_text : Stmt := top 47
abbrev N__law_evidence_text : List Str := ["_law_names_here", "_law_runs", "_law_things", "_law_slips", "_law_head", "_law_rows", "_law_name"]
theorem sc__law_evidence_text : FnScope N__law_evidence_text ["_law_names_here", "_law_runs", "_law_things", "_law_slips"] (defScope s__law_evidence_text) := ⟨rfl, rfl, rfl, by decide +kernel, rfl, by decide +kernel, by decide +kernel⟩
theorem ok_law_evidence_text {f : Addr} {fd : FuncData} (F : Fun K "_law_evidence_text" "_law_evidence_text" s__law_evidence_text f fd) (T : Txt mg) (CRx : Cal P w K mg base "_law_run_text" 1 1 tfRunText) : FnOk P w K mg base CX0 (1 + 1) f fd ["_law_names_here", "_law_runs", "_law_things", "_law_slips"] (spD K 4 tfEvText) := by
  refine fn_D F sc__law_evidence_text rfl fun rg cdv A outer s H E hr => ?_
  have hu := hr.units
  refine ⟨_, _, (dss_cons (ds_setFO (df_lst (da_cons (d_join d_str (DP.o (d_op op_addU opd_add (DP.o (DF.p (df_lst (da_cons d_str da_nil)))) (DP.o (d_callB cl_sortedS cad_sortedS (by rfl) T.sorted (by decide +kernel) (dao_cons (DP.o (DF.p (df_lc (own := [("_law_name", 6)]) rfl sc__law_evidence_text.nd (blkOk_by (N := N__law_evidence_text) (sc := (defScope s__law_evidence_text)) (by decide +kernel)) (di_op (DP.o (d_var (pv 0)))) (fun _ _ _ _ _ => by exact (dg_name (pg_name (i := 6) sc__law_evidence_text.nd rfl (by first | exact Or.inl rfl | exact Or.inr rfl)) (by decide))) (fun _ _ _ _ _ => by exact dts_nil) (fun _ _ _ _ _ => by exact (d_callTy SkE.call_str_str cad_str (by rfl) T.str (by decide +kernel) (dao_cons (DP.o (d_var (pv 6))) dao_nil)))))) dao_nil)))))) da_nil)) (i := 4) sc__law_evidence_text.nd rfl (by first | exact Or.inl rfl | exact Or.inr rfl))
    (dss_cons (ds_appP (i := 4) (pv 4) (d_op op_addU opd_add (DP.o (d_op op_addU opd_add (DP.o (d_op op_addU opd_add (DP.o d_str) (DP.o (d_callTy call_str_int cad_strI (by rfl) T.str (by decide +kernel) (dao_cons (DP.o (d_var (pv 2))) dao_nil))))) (DP.o d_str))) (DP.o (d_callTy call_str_int cad_strI (by rfl) T.str (by decide +kernel) (dao_cons (DP.o (d_var (pv 3))) dao_nil)))))
    (dss_one (ds_ret (DP.o (d_join d_str (DP.o (d_op op_addU opd_add (do_var (pv 4)) (DP.o (DF.p (df_lc (own := [("_law_rows", 5)]) rfl sc__law_evidence_text.nd (blkOk_by (N := N__law_evidence_text) (sc := (defScope s__law_evidence_text)) (by decide +kernel)) (di_op (DP.o (d_var (pv 1)))) (fun _ _ _ _ _ => by exact (dg_name (pg_name (i := 5) sc__law_evidence_text.nd rfl (by first | exact Or.inl rfl | exact Or.inr rfl)) (by decide))) (fun _ _ _ _ _ => by exact dts_nil) (fun _ _ _ _ _ => by exact (d_callC CRx (hr.mono (by omega)) (by rfl) (da_cons (d_var (pv 5)) da_nil)))))))))))))), fun ds Qd h hl => ?_⟩
  obtain ⟨ws, T', m, s, rfl, hN, lT, hT, hm, hs, hq⟩ := h
  have hz : (10000000 : Nat) < sizeLine := by decide
  have l1 := hN.len
  have k1 : (" " : Str).length = 1 := rfl
  have k2 : ("\n" : Str).length = 1 := rfl
  refine ⟨by show 1 ≤ sizeLine; omega, rfl, lc_at (xs := ws) (enc := D.str) (p := fun _ => true) (g := D.str) rfl (by omega) (fun n hn Qy Qn hy => ⟨rfl, hy⟩) ?_⟩
  rw [List.filter_eq_self.mpr fun _ _ => rfl]
  refine ⟨ws, rfl, by omega, fun ys hp hso => ?_⟩
  have hY := goodN_perm hN hp
  have hh := heads_sum hY
  have ly := hY.len
  refine ⟨by rw [List.length_map]; show 1 + ys.length ≤ sizeLine; omega, ("tests" : Str) :: ys, rfl, by rw [k1, List.length_cons]; omega, ?_⟩
  refine ⟨by show 1 ≤ sizeLine; omega, Nat.le_of_ble_eq_true rfl, fun p => ?_⟩
  obtain ⟨n1, n2, n3, n4, n5, n6⟩ := num_split2 hm hs
  refine ⟨n1, n2, n3, n4, n5, ?_⟩
  refine ⟨by show 1 < sizeLine; omega, ?_⟩
  refine ⟨rfl, lc_at (xs := T') (enc := eRows false) (p := fun _ => true) (g := fun R => D.str (runText R)) rfl (by omega) (fun R hR Qy Qn hy => ⟨rfl, rfl, R, rfl, (hT R hR).1, hy⟩) ?_⟩
  rw [List.filter_eq_self.mpr fun _ _ => rfl]
  have hl2 := lens_of lT fun R hR => (hT R hR).2
  have hh2 := head_len hY
  have hn2 := (num_nl hm hs).2
  refine ⟨by rw [List.length_map]; show 2 + T'.length ≤ sizeLine; omega, headText ys :: numText m s :: T'.map runText, ?_, ?_, hq ys hp hso⟩
  · rw [List.map_cons, List.map_cons, List.map_map]
    show D.str (Txt.join " " (("tests" : Str) :: ys)) :: D.str _ :: _ = _
    rw [n6]
    rfl
  · rw [List.map_cons, List.map_cons, List.sum_cons, List.sum_cons, List.length_cons, List.length_cons, List.length_map, k2]
    omega

abbrev s_law : Stmt := top 48
abbrev N_law : List Str := ["_law_script", "_law_base", "_law_deal", "_law_turn", "_law_things", "_law_slips", "_law_table_here", "_law_told", "_law_names_here", "_law_text", "_law_lines", "_law_read", "_law_made", "_law_wide", "_law_name", "_law_rows"]
theorem sc_law : FnScope N_law ["_law_script"] (defScope s_law) := ⟨rfl, rfl, rfl, by decide +kernel, rfl, by decide +kernel, by decide +kernel⟩
set_option maxHeartbeats 0 in
theorem ok_law {f : Addr} {fd : FuncData} (F : Fun K "law" "law" s_law f fd) (T : Txt mg)
    (CS : Src P w K mg base "_law_source" "great" "mixed" 1) (CD : Cal P w K mg base "_law_draw" 1 2 tfDr) (CM : CalF P w K mg base "_law_mixed" 2 2 tfMixed) (CNm : Cal P w K mg base "_law_names" 3 2 tfNames) (CTb : Cal P w K mg base "_law_table" 4 3 tfTable) (CSr : Cal P w K mg base "_law_seen_runs" 5 5 tfSeen) (CEt : Cal P w K mg base "_law_evidence_text" 2 4 tfEvText)
    (O : OR K mg CR) (OEv : OE K mg CE) (NE : NeOf K CE) (SQr : Spc P w K mg base CR "__eq__" 1 2 (tfEq CR)) (SQe : Spc P w K mg base CE "__eq__" 3 2 (tfEqE CE CR)) (SLe : Spc P w K mg base CE "__len__" 1 1 (tfLenE CE CR)) (SSe : Spc P w K mg base CE "__str__" 5 1 (tfStrE CE CR))
    (MKR : Mak P w K mg base "Run" CR ["rows", "orders", "names"] 5 1 tfInit) (MKE : Mak P w K mg base "Evidence" CE ["names", "runs", "things", "slips"] 5 4 (tfInitEG CR)) (MRe : Cmt P w K mg base CE "read" 8 1 (tfReadE CE CR)) : FnOk P w K mg base CX0 12 f fd ["_law_script"] (spLaw K) := by
  refine F.ok (k := 11) sc_law (fun vs H Q E h => by obtain ⟨a, ns, rfl, _⟩ := h; rfl) (fun cdv A outer s H vs Q E hr h => ?_)
  obtain ⟨a, ns, rfl, hS, hl, k⟩ := h
  have hu := hr.units
  have hd : DSs (cxOf CX0 P w K mg base N_law "law" (defScope s_law) f cdv A outer s H E).nox K Rg.pure (defBody s_law) _ _ := (dss_cons (ds_for (vs := [1]) PassesOwn.never rfl (di_range1 (by rfl) T.range (da_cons (d_callB (call_max2 rfl) cad_max2 (by rfl) T.max (by decide +kernel) (dao_cons (DP.o d_int) (dao_cons (DP.o (d_callB (call_min2 rfl) cad_min2 (by rfl) T.min (by decide +kernel) (dao_cons (DP.o d_int) (dao_cons (DP.o (d_callB cl_len cad_len (by rfl) T.len (by decide +kernel) (dao_cons (DP.o (d_var (pv 0))) dao_nil))) dao_nil)))) dao_nil))) da_nil)) (dg_name (pg_name (i := 1) sc_law.nd rfl (by first | exact Or.inl rfl | exact Or.inr rfl)) (by decide)) (dss_deal CS (hr.mono (by omega)) (by rfl) (da_cons (d_var (pv 0)) (da_cons (d_var (pv 1)) da_nil))
    (fun rg => (dss_one (ds_for (vs := [3]) PassesOwn.never rfl (di_range1 (by rfl) T.range (da_cons d_int da_nil)) (dg_name (pg_name (i := 3) sc_law.nd rfl (by first | exact Or.inl rfl | exact Or.inr rfl)) (by decide))
    (dss_cons (ds_par (i := 4) (j := 5) rfl sc_law.nd rfl rfl (by decide) rfl rfl (d_op op_addU opd_add (DP.o d_int) (DP.o (d_callC CD (hr.mono (by omega)) (by rfl) (da_cons (d_var (pv 2)) (da_cons d_int da_nil))))) (d_callC CD (hr.mono (by omega)) (by rfl) (da_cons (d_var (pv 2)) (da_cons d_int da_nil))) (by rfl))
    (dss_cons (ds_setP (d_callC CTb (hr.mono (by omega)) (by rfl) (da_cons (d_var (pv 2)) (da_cons (d_callC CNm (hr.mono (by omega)) (by rfl) (da_cons (d_var (pv 2)) (da_cons (d_op op_addU opd_add (DP.o d_int) (DP.o (d_callC CD (hr.mono (by omega)) (by rfl) (da_cons (d_var (pv 2)) (da_cons d_int da_nil))))) da_nil))) (da_cons (d_var (pv 4)) da_nil)))) (i := 6) sc_law.nd rfl (by first | exact Or.inl rfl | exact Or.inr rfl))
    (dss_cons (ds_par (i := 7) (j := 8) rfl sc_law.nd rfl rfl (by decide) rfl rfl (d_callC CSr (hr.mono (by omega)) (by rfl) (da_cons (d_var (pv 2)) (da_cons (d_var (pv 6)) (da_cons d_int (da_cons d_int (da_cons d_int da_nil)))))) (DF.p (df_lcKeys (own := [("_law_name", 14)]) (i := 6) rfl rfl sc_law.nd (blkOk_by (N := N_law) (sc := (defScope s_law)) (by decide +kernel)) (pv 6) (fun _ _ _ _ _ => by exact (dg_name (pg_name (i := 14) sc_law.nd rfl (by first | exact Or.inl rfl | exact Or.inr rfl)) (by decide))) (fun _ _ _ _ _ => by exact dts_nil) (fun _ _ _ _ _ => by exact (d_callTy SkE.call_str_str cad_str (by rfl) T.str (by decide +kernel) (dao_cons (DP.o (d_var (pv 14))) dao_nil))))) (by rfl))
    (dss_cons (ds_setP (d_callC CEt (hr.mono (by omega)) (by rfl) (da_cons (d_var (pv 8)) (da_cons (d_var (pv 7)) (da_cons (d_var (pv 4)) (da_cons (d_var (pv 5)) da_nil))))) (i := 9) sc_law.nd rfl (by first | exact Or.inl rfl | exact Or.inr rfl))
    (dss_cons (ds_setP (DF.p (df_split (d_var (pv 9)) d_str)) (i := 10) sc_law.nd rfl (by first | exact Or.inl rfl | exact Or.inr rfl))
    (dss_cons (ds_setP (d_cmeth MRe (hr.mono (by omega)) (pe_glob (v := .ref CE) (by rfl) OEv.mg rfl) (da_cons (d_join d_str (DP.o (d_op op_addU opd_add (DP.o (DF.p (df_lst (da_cons (d_join d_str (DP.o (d_op op_addU opd_add (DP.o (DF.p (df_lst (da_cons d_str da_nil)))) (DP.o (DF.p (df_callC CM (hr.mono (by omega)) (by rfl) (da_cons (d_var (pv 2)) (da_cons (d_var (pv 8)) da_nil)))))))) da_nil)))) (DP.o (d_slice (DP.o (d_var (pv 10))) (dpo_some d_int) dpo_none))))) da_nil)) (i := 11) sc_law.nd rfl (by first | exact Or.inl rfl | exact Or.inr rfl))
    (dss_cons (ds_setP (d_make MKE (hr.mono (by omega)) (by rfl) (da_cons (d_var (pv 8)) (da_cons (DF.p (df_lc (own := [("_law_rows", 15)]) rfl sc_law.nd (blkOk_by (N := N_law) (sc := (defScope s_law)) (by decide +kernel)) (di_op (DP.o (d_var (pv 7)))) (fun _ _ _ _ _ => by exact (dg_name (pg_name (i := 15) sc_law.nd rfl (by first | exact Or.inl rfl | exact Or.inr rfl)) (by decide))) (fun _ _ _ _ _ => by exact dts_nil) (fun _ _ _ _ _ => by exact (d_make MKR (hr.mono (by omega)) (by rfl) (da_cons (d_var (pv 15)) da_nil))))) (da_cons (d_var (pv 4)) (da_cons (d_var (pv 5)) da_nil))))) (i := 12) sc_law.nd rfl (by first | exact Or.inl rfl | exact Or.inr rfl))
    (dss_cons (ds_if (DW.dt (dw_or (dt_neOwn SQe NE (hr.mono (by omega)) (DP.o (d_var (pv 11))) (DP.o (d_var (pv 12))) (nomark _)) (dw_or (dt_cmp (op_neP (by exact hu)) opd_ne (DP.o (d_strOwn SSe (hr.mono (by omega)) (by rfl) T.str (DP.o (d_var (pv 11))))) (DP.o (d_var (pv 9))) (nomark _)) (dw_or (dt_neOwn SQe NE (hr.mono (by omega)) (DP.o (d_cmeth MRe (hr.mono (by omega)) (pe_glob (v := .ref CE) (by rfl) OEv.mg rfl) (da_cons (d_var (pv 9)) da_nil))) (DP.o (d_var (pv 12))) (nomark _)) (dw_or1 (dt_neOwn SQe NE (hr.mono (by omega)) (DP.o (d_cmeth MRe (hr.mono (by omega)) (pe_glob (v := .ref CE) (by rfl) OEv.mg rfl) (da_cons (d_strOwn SSe (hr.mono (by omega)) (by rfl) T.str (DP.o (d_var (pv 11)))) da_nil))) (DP.o (d_var (pv 11))) (nomark _))))))) (dss_one (ds_ret (DP.o d_bl))) dss_nil)
    (dss_one (ds_if (DW.dt (dw_or (dt_neTupN SQr (hr.mono (by omega)) (d_tup (da_cons (d_fld (DP.o (d_var (pv 11))) OEv.cls OEv.names) (da_cons (d_fld (DP.o (d_var (pv 11))) OEv.cls OEv.runs) da_nil))) (d_tup (da_cons (d_fld (DP.o (d_var (pv 12))) OEv.cls OEv.names) (da_cons (d_fld (DP.o (d_var (pv 12))) OEv.cls OEv.runs) da_nil))) (nomark _)) (dw_or1 (dt_cmp (op_neP (by exact hu)) opd_ne (DP.o (d_tup (da_cons (d_fld (DP.o (d_var (pv 11))) OEv.cls OEv.things) (da_cons (d_fld (DP.o (d_var (pv 11))) OEv.cls OEv.slips) da_nil)))) (DP.o (d_tup (da_cons (d_var (pv 4)) (da_cons (d_var (pv 5)) da_nil)))) (nomark _))))) (dss_one (ds_ret (DP.o d_bl))) dss_nil))))))))))))) sc_law.nd (i := 2) rfl (by first | exact Or.inl rfl | exact Or.inr rfl))) (dss_cons (ds_setP (d_cmeth MRe (hr.mono (by omega)) (pe_glob (v := .ref CE) (by rfl) OEv.mg rfl) (da_cons d_str da_nil)) (i := 13) sc_law.nd rfl (by first | exact Or.inl rfl | exact Or.inr rfl))
    (dss_one (ds_ret (DP.o (d_and (d_cmp (op_eqP (by exact hu)) opd_eq (DP.o (d_tup (da_cons (d_fld (DP.o (d_var (pv 13))) OEv.cls OEv.things) (da_cons (d_fld (DP.o (d_var (pv 13))) OEv.cls OEv.slips) (da_cons (d_lenOwn SLe (hr.mono (by omega)) (by rfl) T.len (DP.o (d_var (pv 13)))) da_nil))))) (DP.o (d_tup (da_cons d_int (da_cons d_int (da_cons d_int da_nil))))) (nomark _)) (d_one (d_cmp (op_eqP (by exact hu)) opd_eq (DP.o (d_strOwn SSe (hr.mono (by omega)) (by rfl) T.str (DP.o (d_var (pv 13))))) (DP.o d_str) (nomark _)))))))))
  refine ⟨_, hd.ps, ?_⟩
  have hd0 : ∃ d0, Rp K (fun _ => False) H (.ref a) d0 ∧ (d0 = .scr ns ∨ d0 = .lst (ns.map .int)) := by
    rcases hS with (hS | ⟨o, hS⟩) | hS
    · exact ⟨_, .lst id hS (RpAll.ints ns), .inr rfl⟩
    · exact ⟨_, .scr id hS, .inl rfl⟩
    · exact ⟨_, .scrK hS, .inl rfl⟩
  obtain ⟨d0, r0, hd0⟩ := hd0
  have S0 := sd_start (K := K) (c := ⟨fun _ => False, none, Rg.pure⟩) (N := N_law) ⟨fun _ h => h, Rg.pure_ok, fun _ h => by cases h⟩ rfl (RpAll.cons r0 .nil) trivial (fun _ h => h.elim)
  refine hd.rf _ rfl _ H _ _ H { nx := fun _ => False, rt := fun d => d = .bl true } _ S0 ?_ (fun _ _ _ q => q.elim) (fun d v H2 q _ _ _ r => ?_) (fun _ _ _ _ q => q.elim) (fun _ _ _ q => q.elim) (fun _ _ _ q => q.elim)
  rotate_left
  · subst q
    cases r
    exact k H2
  have hs : (16000000 : Nat) < sizeLine := by decide
  refine law_start hd0 rfl (fun e => EnvL d0 e) ⟨none, none, none, none, none, none, none, none, none, none, none, none, none, none, none, rfl, .inl rfl, .inl rfl, .inl rfl, .inl rfl, .inl rfl, .inl rfl, .inl rfl, .inl rfl, .inl rfl, .inl rfl, .inl rfl, .inl rfl, .inl rfl, .inl rfl, .inl rfl⟩ ?_ (fun env' hE => ?_)
  rotate_left
  · obtain ⟨x1, x2, x3, x4, x5, x6, x7, x8, x9, x10, x11, x12, x13, x14, x15, rfl, f1, f2, f3, f4, f5, f6, f7, f8, f9, f10, f11, f12, f13, f14, f15⟩ := hE
    have gN1 : GoodN ["a"] := ⟨by simp, by decide, by decide, fun n hn => by rw [List.mem_singleton.mp hn]; decide +kernel⟩
    have gZ0 : GoodZ [] ["a"] := ⟨by show 0 < 60; decide, fun z hz => by cases hz⟩
    have et : evText ["a"] [] 2 2 = ("tests a\nthings 2 slips 2" : Str) := by decide +kernel
    refine ⟨rfl, ["a"], [], 2, 2, by rw [et], gN1, gZ0, (fun z hz => by cases hz), (fun z hz => by cases hz), .inr rfl, .inr (.inr rfl), fun ys hp hso => ⟨Nat.le_of_ble_eq_true rfl, ?_⟩⟩
    have ey := List.perm_singleton.mp hp
    subst ey
    refine ⟨rfl, _, rfl, rfl, _, rfl, rfl, ["a"], [], 2, 2, rfl, by show 0 < 60; decide, ⟨by decide, by decide, ?_⟩⟩
    refine ⟨by show 3 ≤ sizeLine; omega, by show 3 ≤ sizeLine; omega, eq_self rfl (by decide) ?_⟩
    refine ⟨rfl, ["a"], [], 2, 2, rfl, ⟨gN1, hso, gZ0, .inr rfl, by decide⟩, (fun z hz => by cases hz), .inr (.inr rfl), ?_⟩
    rw [et]
    exact eq_self (Q := fun d => d = D.bl true) rfl (by decide) rfl
  rintro b env' b0 b1 ⟨x1, x2, x3, x4, x5, x6, x7, x8, x9, x10, x11, x12, x13, x14, x15, rfl, f1, f2, f3, f4, f5, f6, f7, f8, f9, f10, f11, f12, f13, f14, f15⟩
  refine ⟨frI (i := 1) rfl f1, Nat.le_of_ble_eq_true rfl, ns, b, hd0.elim (fun e => .inl (by rw [e])) (fun e => .inr (by rw [e])), hl, b0, by omega, fun a g => ?_⟩
  refine ⟨by decide, by decide, ?_⟩
  refine ⟨fun i env' => EnvT d0 a env', ⟨_, x3, x4, x5, x6, x7, x8, x9, x10, x11, x12, x13, x14, x15, rfl, .inr ⟨_, rfl⟩, f3, f4, f5, f6, f7, f8, f9, f10, f11, f12, f13, f14, f15⟩, ?_, fun env' h => envT_L h⟩
  clear x1 x2 x3 x4 x5 x6 x7 x8 x9 x10 x11 x12 x13 x14 x15 f1 f2 f3 f4 f5 f6 f7 f8 f9 f10 f11 f12 f13 f14 f15 b0 b1 hd hS k r0 S0 hd0 hl hr hu
  rintro i x env' hx ⟨x1, x3, x4, x5, x6, x7, x8, x9, x10, x11, x12, x13, x14, x15, rfl, f1, f3, f4, f5, f6, f7, f8, f9, f10, f11, f12, f13, f14, f15⟩
  obtain ⟨t, rfl, t0, t1⟩ := intsD_get hx
  clear hx
  refine ⟨frI (i := 3) rfl f3, ?_⟩
  refine ⟨rfl, a, g, 2, rfl, rfl, by decide, by decide, fun y y0 y1 => ?_⟩
  refine ⟨rfl, a, g, 3, rfl, rfl, by decide, by decide, fun s s0 s1 => ⟨Nat.le_of_ble_eq_true rfl, Nat.le_of_ble_eq_true rfl, ?_⟩⟩
  obtain ⟨m, hm, em⟩ : ∃ m : Nat, (m = 1 ∨ m = 2) ∧ ((m : Nat) : Int) = 1 + y := ⟨(1 + y).toNat, by omega, by omega⟩
  rw [← em]
  clear em y0 y1 y
  have hsl : IsSl s := by unfold IsSl; omega
  refine ⟨rfl, a, g, 5, rfl, rfl, by decide, by decide, fun z z0 z1 => ?_⟩
  obtain ⟨n, en, n0, n1⟩ : ∃ n : Nat, ((n : Nat) : Int) = 1 + z ∧ 1 ≤ n ∧ n ≤ 5 := ⟨(1 + z).toNat, by omega, by omega, by omega⟩
  refine ⟨rfl, a, g, n, rfl, by rw [en], by omega, fun ws hw nd inW => ?_⟩
  have nm : ∀ x ∈ ws, isName x = true := fun x hx => W_names x (inW x hx)
  have ne : ws ≠ [] := fun e => by rw [e] at hw; simp at hw; omega
  have l0 : 0 < ws.length := List.length_pos_iff.mpr ne
  have lw : ws.length ≤ 5 := by omega
  clear en z0 z1 hw n0 n1 n z inW s1
  refine ⟨rfl, a, g, ws, m, rfl, rfl, ne, by omega, nd, nm, hm, fun f hG => ⟨Nat.le_of_ble_eq_true rfl, ?_⟩⟩
  refine ⟨rfl, a, g, ws, f, m, 6, 2, 5, rfl, rfl, hG, by decide, by decide, by decide, by decide, by decide, fun T' lT hT => ?_⟩
  have ek : dkD .keys (ws.map .inr) (ws.map fun n => eSs false (f n)) = ws.map D.str := by
    show (ws.map (Sum.inr : Str → Key)).map _ = _
    rw [List.map_map]; rfl
  refine (show sLcK .keys 6 _ sYes _ [14] [some (.dat d0), x1, some (.dat (.raw (.ref a))), some (.dat (.int t)), some (.dat (.int (m : Nat))), some (.dat (.int s)), some (.dat (eTab false ws f)), x7, x8, x9, x10, x11, x12, x13, x14, x15] _ from ?_)
  have okx : okE [some (.dat d0), x1, some (.dat (.raw (.ref a))), some (.dat (.int t)), some (.dat (.int (m : Nat))), some (.dat (.int s)), some (.dat (eTab false ws f)), x7, x8, x9, x10, x11, x12, x13, x14, x15] = true := by
    simp only [okE, List.all_cons, List.all_nil, okS_fr f1, okS_fr f7, okS_fr f8, okS_fr f9, okS_fr f10, okS_fr f11, okS_fr f12, okS_fr f13, okS_fr f14, okS_fr f15, Bool.and_true]
    rfl
  refine lcK_at (xs := ws) (enc := D.str) (p := fun _ => true) (gD := D.str) (by rfl) (noDs_tab false ws f) okx (own_hid (x := x14) rfl f14) ek (by omega) (fun n hn Qy Qn hy => ⟨rfl, hy⟩) (fun _ _ => rfl) ?_
  rw [List.filter_eq_self.mpr fun _ _ => rfl]
  refine ⟨Nat.le_of_ble_eq_true rfl, Nat.le_of_ble_eq_true rfl, ?_⟩
  clear okx ek
  have gT : ∀ R ∈ T', Good R ∧ Few R ∧ SmR R ws ∧ (runText R).length ≤ 100000 := fun R hR => by
    obtain ⟨a1, a2, a3⟩ := hT.row R hR
    have gR : Good R := ⟨a1, by omega, fun r hr => ⟨(a3 r hr).1, by have := (a3 r hr).2.1; omega, fun p hp => nm _ ((a3 r hr).2.2 p hp)⟩⟩
    refine ⟨gR, ⟨ws, by omega, fun r hr => (a3 r hr).2.2⟩, ⟨by omega, fun r hr => ⟨by have := (a3 r hr).2.1; omega, (a3 r hr).2.2⟩⟩, ?_⟩
    have := join_len (y := " | ") (m := 6000) (parts := R.map rowText) fun z hz => by
      obtain ⟨r, hr, rfl⟩ := List.mem_map.mp hz
      exact row_len (gR.row r hr).2.1 (gR.row r hr).2.2
    have l1 : (" | " : Str).length = 3 := rfl
    rw [List.length_map, l1] at this
    show (Txt.join " | " (R.map rowText)).length ≤ 100000
    omega
  obtain ⟨Z, hz, hA⟩ := rns_exist T'
  have lZ : Z.length = T'.length := by rw [← hz, List.length_map]
  have mZ : ∀ z ∈ Z, z.1 ∈ T' := fun z hzm => by rw [← hz]; exact List.mem_map.mpr ⟨z, hzm, rfl⟩
  have hZ : GoodZ Z ws := ⟨by omega, fun z hzm => ⟨(gT z.1 (mZ z hzm)).1, hA z hzm, fun r hr p hp => ((hT.row z.1 (mZ z hzm)).2.2 r hr).2.2 p hp⟩⟩
  have fZ : FewZ Z := fun z hzm => (gT z.1 (mZ z hzm)).2.1
  have sZ : ShortZ Z := fun z hzm => (gT z.1 (mZ z hzm)).2.2.2
  have gNw : GoodN ws := ⟨ne, by omega, nd, nm⟩
  have hm2 : ((m : Nat) : Int) = 1 ∨ ((m : Nat) : Int) = 2 := by omega
  have eT := evT hz
  refine ⟨rfl, ws, T', (m : Nat), s, rfl, gNw, by omega, fun R hR => ⟨(gT R hR).1, (gT R hR).2.2.2⟩, hm2, hsl, fun ys hp hso => ⟨Nat.le_of_ble_eq_true rfl, ?_⟩⟩
  rw [← eT]
  have gN := goodN_perm gNw hp
  have gZ := goodZ_names hZ hp
  have gE : GoodE ys Z (m : Nat) s := ⟨gN, hso, gZ, hm2, s0⟩
  have lt := ev_len gN gZ.len sZ hm2 hsl
  have e1 : Txt.split (Txt.join "\n" (headText ys :: numText (m : Nat) s :: Z.map fun z => runText z.1)) "\n" = _ := ev_split gN gZ hm2 hsl
  refine ⟨rfl, by show (evText ys Z (m : Nat) s).length + 2 ≤ _; omega, Nat.le_of_ble_eq_true rfl, ?_⟩
  rw [e1]
  have k1 : (" " : Str).length = 1 := rfl
  have k2 : ("\n" : Str).length = 1 := rfl
  have h0z : (m = 1 ∨ m = 2) := hm
  refine ⟨by show 1 ≤ sizeLine; omega, rfl, a, g, _, rfl, rfl, by rw [List.length_map]; omega, fun L hL => ?_⟩
  obtain ⟨L', hL', eL⟩ := perm_back D.str hL ws rfl
  subst eL
  have gL := goodN_perm gNw hL'
  have hh := heads_sum gL
  have lL := gL.len
  have hh2 := ev_lens gL gZ.len sZ hm2 hsl
  refine ⟨by rw [List.length_map]; show 1 + L'.length ≤ sizeLine; omega, ("tests" : Str) :: L', rfl, by rw [k1, List.length_cons]; omega, ?_⟩
  have eC : DL.cutD ((headText ys :: numText (m : Nat) s :: Z.map fun z => runText z.1).map D.str) (some 1) none = (numText (m : Nat) s :: Z.map fun z => runText z.1).map D.str := by
    rw [show (some (1 : Int)) = some (((1 : Nat) : Int)) from rfl, cut_from]; rfl
  refine ⟨by show 1 ≤ sizeLine; omega, ?_⟩
  refine ⟨?_, headText L' :: numText (m : Nat) s :: Z.map fun z => runText z.1, ?_, ?_, ?_⟩
  · show 1 + (DL.cutD ((headText ys :: numText (m : Nat) s :: Z.map fun z => runText z.1).map D.str) (some 1) none).length ≤ sizeLine
    rw [eC, List.length_map, List.length_cons, List.length_map]
    omega
  · show D.str (headText L') :: DL.cutD ((headText ys :: numText (m : Nat) s :: Z.map fun z => runText z.1).map D.str) (some 1) none = _
    rw [eC]; rfl
  · rw [k2, List.length_cons, List.length_cons, List.length_map]; omega
  refine ⟨rfl, L', Z, (m : Nat), s, rfl, gL, goodZ_names hZ hL', fZ, sZ, hm2, hsl, fun ys2 hp2 hso2 => ⟨Nat.le_of_ble_eq_true rfl, ?_⟩⟩
  have ey : ys = ys2 := (perm_uniq nd (hp2.trans hL') hp hso2 hso).symm
  subst ey
  clear hp2 hso2 hh hh2 lL gL
  refine ⟨own_fr (x := x15) rfl f15, fun j acc => ∃ Z : List Rn, acc = Z.map (eRn CR) ∧ Z.map (·.1) = T'.take j ∧ ∀ z ∈ Z, AscOf z.2 (inR z.1), ⟨[], rfl, by simp, by simp⟩, ?_, ?_⟩
  · rintro j x acc hx ⟨Z, rfl, hz, hA⟩
    rw [List.getElem?_map] at hx
    cases hR : T'[j]? with
    | none => rw [hR] at hx; cases hx
    | some R =>
      rw [hR] at hx
      cases hx
      obtain ⟨h1, h2, _, _⟩ := gT R (List.mem_of_getElem? hR)
      have lZ : Z.length = (T'.take j).length := by rw [← hz, List.length_map]
      rw [List.length_take] at lZ
      refine ⟨rfl, rfl, false, R, rfl, h1, h2, fun zs hzs => ⟨by rw [List.length_map]; omega, Z ++ [(R, zs)], by rw [List.map_append]; rfl, by rw [List.map_append, hz, List.take_succ, hR]; rfl, fun z hz => ?_⟩⟩
      rcases List.mem_append.mp hz with hz | hz
      · exact hA z hz
      · rw [List.mem_singleton.mp hz]; exact hzs
  rintro acc ⟨Z2, rfl, hz2, hA2⟩
  rw [List.length_map, List.take_length] at hz2
  have eZ : Z = Z2 := rns_same (hz.trans hz2.symm) hA hA2
  subst eZ
  clear hz2 hA2
  refine ⟨rfl, false, false, ws, Z, (m : Nat), s, rfl, gNw, hZ, hm2, s0, fun ys' hp' hso' => ⟨Nat.le_of_ble_eq_true rfl, ?_⟩⟩
  have ey : ys = ys' := (perm_uniq nd hp' hp hso' hso).symm
  subst ey
  clear hp' hso'
  with_reducible refine seq_no (fun Q1 hQ1 => or_no (fun Q hQ => ?_) (or_no (fun Q hQ => ?_) (or_no (fun Q hQ => ?_) ?_))) ?_
  · exact ⟨rfl, rfl, ys, Z, (m : Nat), s, rfl, hQ⟩
  · refine ⟨rfl, ys, Z, (m : Nat), s, rfl, gE, sZ, hsl, ?_⟩
    exact ne_self (Q := Q) rfl rfl (by simp [toPy, PyData.depth]) hQ
  · refine ⟨rfl, ys, Z, (m : Nat), s, rfl, gN, gZ, fZ, sZ, hm2, hsl, fun ys3 hp3 hso3 => ?_⟩
    have ey : ys = ys3 := (perm_uniq gN.nd hp3 (.refl _) hso3 hso).symm
    subst ey
    exact ⟨rfl, rfl, ys, Z, (m : Nat), s, rfl, hQ⟩
  · refine ⟨rfl, ys, Z, (m : Nat), s, rfl, gE, sZ, hsl, rfl, ys, Z, (m : Nat), s, rfl, gN, gZ, fZ, sZ, hm2, hsl, fun ys3 hp3 hso3 => ?_⟩
    have ey : ys = ys3 := (perm_uniq gN.nd hp3 (.refl _) hso3 hso).symm
    subst ey
    exact ⟨rfl, rfl, ys, Z, (m : Nat), s, rfl, hQ1⟩
  dsimp only
  refine ifs_no (fun Q1 hQ1 => or_no (fun Q hQ => ?_) ?_) ?_
  · refine ⟨rfl, _, rfl, rfl, _, rfl, by show 2 ≤ sizeLine; omega, rfl, _, rfl, rfl, _, rfl, by show 2 ≤ sizeLine; omega, eNs ys, eNs ys, Z.map (eRn CR), Z.map (eRn CR), fun _ => true, rfl, rfl, isPls_map (enc := D.str) (fun _ => rfl) ys, isPls_map (enc := D.str) (fun _ => rfl) ys, Nat.le_trans (Nat.min_le_right _ _) (dep_ns ys), runs_same _ Z, ?_⟩
    have e : (true ^^ (deq (eNs ys) (eNs ys) && ((List.range (min (Z.map (eRn CR)).length (Z.map (eRn CR)).length)).all (fun _ => true) && (Z.map (eRn CR)).length == (Z.map (eRn CR)).length))) = false := by rw [deq_self]; simp
    rw [e]; exact hQ
  · refine ⟨rfl, _, rfl, rfl, _, rfl, by show 2 ≤ sizeLine; omega, by show 2 ≤ sizeLine; omega, ?_⟩
    exact ne_self (Q := Q1) rfl rfl (by simp [toPy, toPys, PyData.depth, PyData.depthAll]) hQ1
  exact ⟨x1, _, _, _, _, _, _, _, _, _, _, x13, x14, x15, rfl, f1, .inr ⟨_, rfl⟩, .inr ⟨_, rfl⟩, .inr ⟨_, rfl⟩, .inr ⟨_, rfl⟩, .inr ⟨_, rfl⟩, .inr ⟨_, rfl⟩, .inr ⟨_, rfl⟩, .inr ⟨_, rfl⟩, .inr ⟨_, rfl⟩, .inr ⟨_, rfl⟩, f13, f14, f15⟩
end
end K17

set_option autoImplicit false
namespace K17
open PySem L2 DL RD TB PySem.Spec PyProof.Rows
theorem kit_ty {K : PySem.W.Frag} {C : Addr} {T : String} {b : Bool} (h : PySem.W.subIn K (.ref C) (.type T) = some b) (m : PySem.W.kitMeta T = true) : PySem.W.kitOne K (.ref C) (.type T) = some b := by
  have e : ((Value.ref C) == Value.type T) = false := by rfl
  simp [PySem.W.kitOne, PySem.W.kitCls, e, h, m]
theorem kit_rf {K : PySem.W.Frag} {C D : Addr} {b : Bool} (n : ((Value.ref C) == Value.ref D) = false) (h2 : PySem.W.isClsIn K D = true) (h3 : PySem.W.typeIn K (.ref D) = some (.type "type")) (h : PySem.W.subIn K (.ref C) (.ref D) = some b) : PySem.W.kitOne K (.ref C) (.ref D) = some b := by
  unfold PySem.W.isClsIn at h2
  simp only [PySem.W.kitOne, n, PySem.W.kitCls, h2, h3, h]
  simp

set_option maxHeartbeats 4000000 in
theorem all_mk {l : PySem.W.OpenLaw} {w : World} {K : PySem.W.Frag} {h : Heap} {mg : Str → Option Value} {fa CR CE aEm aDf39 pc43 f1 f2 f3 f4 f5 f6 f7 f8 f9 f10 f11 f12 f13 f14 f15 f16 f17 f18 f19 f20 f21 f22 f23 f24 f25 f26 f27 f28 f29 f30 f31 f32 f33 f34 f35 f36 f37 f38 f39 f40 f41 f42 f43 : Addr} {cdr : ClassData} {oDf39 : Value} {odDf39 : Option Addr} {itDf39 : Array Value} {nDf39 : Nat} {slDf39 : Array (Option Value)} {rest43 : List Value} (X : K.In h) (G : h.Ns mainGlobals mg) (hfa : mg "law" = some (.ref fa))
    {od1 an1 od2 an2 od3 an3 od4 an4 od5 an5 od6 an6 od7 an7 od8 an8 od9 an9 od10 an10 od11 an11 od12 an12 od13 an13 od14 an14 od15 an15 od16 an16 od17 an17 od18 an18 od19 an19 od20 an20 od21 an21 od22 an22 od23 an23 od24 an24 od25 an25 od26 an26 od27 an27 od28 an28 od29 an29 od30 an30 od31 an31 od32 an32 od33 an33 od34 an34 od35 an35 od36 an36 od37 an37 od38 an38 od39 an39 od40 an40 od41 an41 od42 an42 od43 an43 : Option Addr} {sl1 sl2 sl3 sl4 sl5 sl6 sl7 sl8 sl9 sl10 sl11 sl12 sl13 sl14 sl15 sl16 sl17 sl18 sl19 sl20 sl21 sl22 sl23 sl24 sl25 sl26 sl27 sl28 sl29 sl30 sl31 sl32 sl33 sl34 sl35 sl36 sl37 sl38 sl39 sl40 sl41 sl42 sl43 : Array (Option Value)} {oc1 kV1 dc1 pm1 cd1 ct1 oc2 kV2 dc2 pm2 cd2 ct2 oc3 kV3 dc3 pm3 cd3 ct3 oc4 kV4 dc4 pm4 cd4 ct4 oc5 kV5 dc5 pm5 cd5 ct5 oc6 kV6 dc6 pm6 cd6 ct6 oc7 kV7 dc7 pm7 cd7 ct7 oc8 kV8 dc8 pm8 cd8 ct8 oc9 kV9 dc9 pm9 cd9 ct9 oc10 kV10 dc10 pm10 cd10 ct10 oc11 kV11 dc11 pm11 cd11 ct11 oc12 kV12 dc12 pm12 cd12 ct12 oc13 kV13 dc13 pm13 cd13 ct13 oc14 kV14 dc14 pm14 cd14 ct14 oc15 kV15 dc15 pm15 cd15 ct15 oc16 kV16 dc16 pm16 cd16 ct16 oc17 kV17 dc17 pm17 cd17 ct17 oc18 kV18 dc18 pm18 cd18 ct18 oc19 kV19 dc19 pm19 cd19 ct19 oc20 kV20 dc20 pm20 cd20 ct20 oc21 kV21 dc21 pm21 cd21 ct21 oc22 kV22 dc22 pm22 cd22 ct22 oc23 kV23 dc23 pm23 cd23 ct23 oc24 kV24 dc24 pm24 cd24 ct24 oc25 kV25 dc25 pm25 cd25 ct25 oc26 kV26 dc26 pm26 cd26 ct26 oc27 kV27 dc27 pm27 cd27 ct27 oc28 kV28 dc28 pm28 cd28 ct28 oc29 kV29 dc29 pm29 cd29 ct29 oc30 kV30 dc30 pm30 cd30 ct30 oc31 kV31 dc31 pm31 cd31 ct31 oc32 kV32 dc32 pm32 cd32 ct32 oc33 kV33 dc33 pm33 cd33 ct33 oc34 kV34 dc34 pm34 cd34 ct34 oc35 kV35 dc35 pm35 cd35 ct35 oc36 kV36 dc36 pm36 cd36 ct36 oc37 kV37 dc37 pm37 cd37 ct37 oc38 kV38 dc38 pm38 cd38 ct38 oc39 kV39 dc39 pm39 cd39 ct39 oc40 kV40 dc40 pm40 cd40 ct40 oc41 kV41 dc41 pm41 cd41 ct41 oc42 kV42 dc42 pm42 cd42 ct42 oc43 kV43 dc43 pm43 cd43 ct43 : Value}
    (raC : PySem.W.nsIn K mainGlobals "Run" = some (some (.ref CR)))
    (rpg : PySem.W.plainGet K CR Str.empty = true)
    (rhd : PySem.W.hasDictIn K CR = true)
    (rpo : PySem.W.plainOver K CR = true)
    (rsa : PySem.W.findIn K (.ref CR) "__setattr__" = some (some (.builtin "object.__setattr__")))
    (rmk : PySem.W.makesIn K CR = true)
    (rkc : PySem.W.keepIn K (.ref CR) = true)
    (rn0 : PySem.W.findIn K (.ref CR) "rows" = some none)
    (rn1 : PySem.W.findIn K (.ref CR) "orders" = some none)
    (rn2 : PySem.W.findIn K (.ref CR) "names" = some none)
    (rha : PySem.W.findIn K (.ref CR) "__class__" = some (some (.builtin "object.__class__")))
    (rhm : PySem.W.mroIn K CR (.type "object") = some true)
    (rne : PySem.W.findIn K (.ref CR) "__ne__" = some (some (.builtin "object.__ne__")))
    (rcd : PySem.W.clsIn K CR = some cdr)
    (rown : PySem.W.findIn K (.ref CR) "__iadd__" = some none)
    (robj : PySem.W.findIn K (.type "object") "__iadd__" = some none)
    (rsf : PySem.W.selfFirst K CR = true)
    (rmro : cdr.mro = [.ref CR, .type "object"])
    (hn : PySem.W.specialIn K (.builtin "object.__class__") "__get__" = some (some (.builtin "getset_descriptor.__get__")))
    (ht : PySem.W.takesIn K (.builtin "object.__class__") = some true)
    (eaC : PySem.W.nsIn K mainGlobals "Evidence" = some (some (.ref CE)))
    (epg : PySem.W.plainGet K CE Str.empty = true)
    (ehd : PySem.W.hasDictIn K CE = true)
    (epo : PySem.W.plainOver K CE = true)
    (esa : PySem.W.findIn K (.ref CE) "__setattr__" = some (some (.builtin "object.__setattr__")))
    (emk : PySem.W.makesIn K CE = true)
    (ekc : PySem.W.keepIn K (.ref CE) = true)
    (en0 : PySem.W.findIn K (.ref CE) "names" = some none)
    (en1 : PySem.W.findIn K (.ref CE) "runs" = some none)
    (en2 : PySem.W.findIn K (.ref CE) "things" = some none)
    (en3 : PySem.W.findIn K (.ref CE) "slips" = some none)
    (eha : PySem.W.findIn K (.ref CE) "__class__" = some (some (.builtin "object.__class__")))
    (ehm : PySem.W.mroIn K CE (.type "object") = some true)
    (ene : PySem.W.findIn K (.ref CE) "__ne__" = some (some (.builtin "object.__ne__")))
    (a1 : PySem.W.nsIn K mainGlobals "is_integer" = some (some (.ref f1)))
    (l1 : K.lookup f1 = some ⟨oc1, od1, .func (PySem.W.fnOf "is_integer" "is_integer" (defArgs s_is_integer) (defBody s_is_integer) (defScope s_is_integer) .none kV1 dc1 pm1 an1 cd1 ct1), sl1⟩)
    (c1 : PySem.W.codeIn K cd1 "is_integer" = true)
    (k1 : PySem.W.keepIn K (.ref f1) = true)
    (a2 : PySem.W.nsIn K mainGlobals "is_name" = some (some (.ref f2)))
    (l2 : K.lookup f2 = some ⟨oc2, od2, .func (PySem.W.fnOf "is_name" "is_name" (defArgs s_is_name) (defBody s_is_name) (defScope s_is_name) .none kV2 dc2 pm2 an2 cd2 ct2), sl2⟩)
    (c2 : PySem.W.codeIn K cd2 "is_name" = true)
    (k2 : PySem.W.keepIn K (.ref f2) = true)
    (a3 : PySem.W.nsIn K mainGlobals "items_of" = some (some (.ref f3)))
    (l3 : K.lookup f3 = some ⟨oc3, od3, .func (PySem.W.fnOf "items_of" "items_of" (defArgs s_items_of) (defBody s_items_of) (defScope s_items_of) .none kV3 dc3 pm3 an3 cd3 ct3), sl3⟩)
    (c3 : PySem.W.codeIn K cd3 "items_of" = true)
    (k3 : PySem.W.keepIn K (.ref f3) = true)
    (a4 : PySem.W.nsIn K mainGlobals "first_wrong" = some (some (.ref f4)))
    (l4 : K.lookup f4 = some ⟨oc4, od4, .func (PySem.W.fnOf "first_wrong" "first_wrong" (defArgs s_first_wrong) (defBody s_first_wrong) (defScope s_first_wrong) .none kV4 dc4 pm4 an4 cd4 ct4), sl4⟩)
    (c4 : PySem.W.codeIn K cd4 "first_wrong" = true)
    (k4 : PySem.W.keepIn K (.ref f4) = true)
    (a5 : PySem.W.nsIn K mainGlobals "is_order" = some (some (.ref f5)))
    (l5 : K.lookup f5 = some ⟨oc5, od5, .func (PySem.W.fnOf "is_order" "is_order" (defArgs s_is_order) (defBody s_is_order) (defScope s_is_order) .none kV5 dc5 pm5 an5 cd5 ct5), sl5⟩)
    (c5 : PySem.W.codeIn K cd5 "is_order" = true)
    (k5 : PySem.W.keepIn K (.ref f5) = true)
    (a6 : PySem.W.nsIn K mainGlobals "is_place" = some (some (.ref f6)))
    (l6 : K.lookup f6 = some ⟨oc6, od6, .func (PySem.W.fnOf "is_place" "is_place" (defArgs s_is_place) (defBody s_is_place) (defScope s_is_place) .none kV6 dc6 pm6 an6 cd6 ct6), sl6⟩)
    (c6 : PySem.W.codeIn K cd6 "is_place" = true)
    (k6 : PySem.W.keepIn K (.ref f6) = true)
    (a7 : PySem.W.nsIn K mainGlobals "is_row" = some (some (.ref f7)))
    (l7 : K.lookup f7 = some ⟨oc7, od7, .func (PySem.W.fnOf "is_row" "is_row" (defArgs s_is_row) (defBody s_is_row) (defScope s_is_row) .none kV7 dc7 pm7 an7 cd7 ct7), sl7⟩)
    (c7 : PySem.W.codeIn K cd7 "is_row" = true)
    (k7 : PySem.W.keepIn K (.ref f7) = true)
    (a8 : PySem.W.nsIn K mainGlobals "wrong_row" = some (some (.ref f8)))
    (l8 : K.lookup f8 = some ⟨oc8, od8, .func (PySem.W.fnOf "wrong_row" "wrong_row" (defArgs s_wrong_row) (defBody s_wrong_row) (defScope s_wrong_row) .none kV8 dc8 pm8 an8 cd8 ct8), sl8⟩)
    (c8 : PySem.W.codeIn K cd8 "wrong_row" = true)
    (k8 : PySem.W.keepIn K (.ref f8) = true)
    (a9 : PySem.W.nsIn K mainGlobals "row_text" = some (some (.ref f9)))
    (l9 : K.lookup f9 = some ⟨oc9, od9, .func (PySem.W.fnOf "row_text" "row_text" (defArgs s_row_text) (defBody s_row_text) (defScope s_row_text) .none kV9 dc9 pm9 an9 cd9 ct9), sl9⟩)
    (c9 : PySem.W.codeIn K cd9 "row_text" = true)
    (k9 : PySem.W.keepIn K (.ref f9) = true)
    (a10 : PySem.W.nsIn K mainGlobals "read_place" = some (some (.ref f10)))
    (l10 : K.lookup f10 = some ⟨oc10, od10, .func (PySem.W.fnOf "read_place" "read_place" (defArgs s_read_place) (defBody s_read_place) (defScope s_read_place) .none kV10 dc10 pm10 an10 cd10 ct10), sl10⟩)
    (c10 : PySem.W.codeIn K cd10 "read_place" = true)
    (k10 : PySem.W.keepIn K (.ref f10) = true)
    (a11 : PySem.W.nsIn K mainGlobals "read_rows" = some (some (.ref f11)))
    (l11 : K.lookup f11 = some ⟨oc11, od11, .func (PySem.W.fnOf "read_rows" "read_rows" (defArgs s_read_rows) (defBody s_read_rows) (defScope s_read_rows) .none kV11 dc11 pm11 an11 cd11 ct11), sl11⟩)
    (c11 : PySem.W.codeIn K cd11 "read_rows" = true)
    (k11 : PySem.W.keepIn K (.ref f11) = true)
    (a12 : PySem.W.nsIn K mainGlobals "are_names" = some (some (.ref f12)))
    (l12 : K.lookup f12 = some ⟨oc12, od12, .func (PySem.W.fnOf "are_names" "are_names" (defArgs s_are_names) (defBody s_are_names) (defScope s_are_names) .none kV12 dc12 pm12 an12 cd12 ct12), sl12⟩)
    (c12 : PySem.W.codeIn K cd12 "are_names" = true)
    (k12 : PySem.W.keepIn K (.ref f12) = true)
    (a13 : PySem.W.nsIn K mainGlobals "is_run_of" = some (some (.ref f13)))
    (l13 : K.lookup f13 = some ⟨oc13, od13, .func (PySem.W.fnOf "is_run_of" "is_run_of" (defArgs s_is_run_of) (defBody s_is_run_of) (defScope s_is_run_of) .none kV13 dc13 pm13 an13 cd13 ct13), sl13⟩)
    (c13 : PySem.W.codeIn K cd13 "is_run_of" = true)
    (k13 : PySem.W.keepIn K (.ref f13) = true)
    (a14 : PySem.W.nsIn K mainGlobals "are_runs_of" = some (some (.ref f14)))
    (l14 : K.lookup f14 = some ⟨oc14, od14, .func (PySem.W.fnOf "are_runs_of" "are_runs_of" (defArgs s_are_runs_of) (defBody s_are_runs_of) (defScope s_are_runs_of) .none kV14 dc14 pm14 an14 cd14 ct14), sl14⟩)
    (c14 : PySem.W.codeIn K cd14 "are_runs_of" = true)
    (k14 : PySem.W.keepIn K (.ref f14) = true)
    (a15 : PySem.W.nsIn K mainGlobals "wrong_word" = some (some (.ref f15)))
    (l15 : K.lookup f15 = some ⟨oc15, od15, .func (PySem.W.fnOf "wrong_word" "wrong_word" (defArgs s_wrong_word) (defBody s_wrong_word) (defScope s_wrong_word) .none kV15 dc15 pm15 an15 cd15 ct15), sl15⟩)
    (c15 : PySem.W.codeIn K cd15 "wrong_word" = true)
    (k15 : PySem.W.keepIn K (.ref f15) = true)
    (a16 : PySem.W.nsIn K mainGlobals "is_number" = some (some (.ref f16)))
    (l16 : K.lookup f16 = some ⟨oc16, od16, .func (PySem.W.fnOf "is_number" "is_number" (defArgs s_is_number) (defBody s_is_number) (defScope s_is_number) .none kV16 dc16 pm16 an16 cd16 ct16), sl16⟩)
    (c16 : PySem.W.codeIn K cd16 "is_number" = true)
    (k16 : PySem.W.keepIn K (.ref f16) = true)
    (a17 : PySem.W.nsIn K mainGlobals "read_numbers" = some (some (.ref f17)))
    (l17 : K.lookup f17 = some ⟨oc17, od17, .func (PySem.W.fnOf "read_numbers" "read_numbers" (defArgs s_read_numbers) (defBody s_read_numbers) (defScope s_read_numbers) .none kV17 dc17 pm17 an17 cd17 ct17), sl17⟩)
    (c17 : PySem.W.codeIn K cd17 "read_numbers" = true)
    (k17 : PySem.W.keepIn K (.ref f17) = true)
    (a18 : PySem.W.nsIn K mainGlobals "read_run" = some (some (.ref f18)))
    (l18 : K.lookup f18 = some ⟨oc18, od18, .func (PySem.W.fnOf "read_run" "read_run" (defArgs s_read_run) (defBody s_read_run) (defScope s_read_run) .none kV18 dc18 pm18 an18 cd18 ct18), sl18⟩)
    (c18 : PySem.W.codeIn K cd18 "read_run" = true)
    (k18 : PySem.W.keepIn K (.ref f18) = true)
    (a19 : PySem.W.nsIn K mainGlobals "_law_source" = some (some (.ref f19)))
    (l19 : K.lookup f19 = some ⟨oc19, od19, .func (PySem.W.fnOf "_law_source" "_law_source" (defArgs s__law_source) (defBody s__law_source) (defScope s__law_source) .none kV19 dc19 pm19 an19 cd19 ct19), sl19⟩)
    (c19 : PySem.W.codeIn K cd19 "_law_source" = true)
    (k19 : PySem.W.keepIn K (.ref f19) = true)
    (a20 : PySem.W.nsIn K mainGlobals "_law_draw" = some (some (.ref f20)))
    (l20 : K.lookup f20 = some ⟨oc20, od20, .func (PySem.W.fnOf "_law_draw" "_law_draw" (defArgs s_draw) (defBody s_draw) (defScope s_draw) .none kV20 dc20 pm20 an20 cd20 ct20), sl20⟩)
    (c20 : PySem.W.codeIn K cd20 "_law_draw" = true)
    (k20 : PySem.W.keepIn K (.ref f20) = true)
    (a21 : PySem.W.nsIn K mainGlobals "_law_pick" = some (some (.ref f21)))
    (l21 : K.lookup f21 = some ⟨oc21, od21, .func (PySem.W.fnOf "_law_pick" "_law_pick" (defArgs s__law_pick) (defBody s__law_pick) (defScope s__law_pick) .none kV21 dc21 pm21 an21 cd21 ct21), sl21⟩)
    (c21 : PySem.W.codeIn K cd21 "_law_pick" = true)
    (k21 : PySem.W.keepIn K (.ref f21) = true)
    (a22 : PySem.W.nsIn K mainGlobals "_law_mixed" = some (some (.ref f22)))
    (l22 : K.lookup f22 = some ⟨oc22, od22, .func (PySem.W.fnOf "_law_mixed" "_law_mixed" (defArgs s__law_mixed) (defBody s__law_mixed) (defScope s__law_mixed) .none kV22 dc22 pm22 an22 cd22 ct22), sl22⟩)
    (c22 : PySem.W.codeIn K cd22 "_law_mixed" = true)
    (k22 : PySem.W.keepIn K (.ref f22) = true)
    (a23 : PySem.W.nsIn K mainGlobals "_law_names" = some (some (.ref f23)))
    (l23 : K.lookup f23 = some ⟨oc23, od23, .func (PySem.W.fnOf "_law_names" "_law_names" (defArgs s__law_names) (defBody s__law_names) (defScope s__law_names) .none kV23 dc23 pm23 an23 cd23 ct23), sl23⟩)
    (c23 : PySem.W.codeIn K cd23 "_law_names" = true)
    (k23 : PySem.W.keepIn K (.ref f23) = true)
    (a24 : PySem.W.nsIn K mainGlobals "_law_sign" = some (some (.ref f24)))
    (l24 : K.lookup f24 = some ⟨oc24, od24, .func (PySem.W.fnOf "_law_sign" "_law_sign" (defArgs s__law_sign) (defBody s__law_sign) (defScope s__law_sign) .none kV24 dc24 pm24 an24 cd24 ct24), sl24⟩)
    (c24 : PySem.W.codeIn K cd24 "_law_sign" = true)
    (k24 : PySem.W.keepIn K (.ref f24) = true)
    (a25 : PySem.W.nsIn K mainGlobals "_law_table" = some (some (.ref f25)))
    (l25 : K.lookup f25 = some ⟨oc25, od25, .func (PySem.W.fnOf "_law_table" "_law_table" (defArgs s__law_table) (defBody s__law_table) (defScope s__law_table) .none kV25 dc25 pm25 an25 cd25 ct25), sl25⟩)
    (c25 : PySem.W.codeIn K cd25 "_law_table" = true)
    (k25 : PySem.W.keepIn K (.ref f25) = true)
    (a26 : PySem.W.nsIn K mainGlobals "_law_order" = some (some (.ref f26)))
    (l26 : K.lookup f26 = some ⟨oc26, od26, .func (PySem.W.fnOf "_law_order" "_law_order" (defArgs s__law_order) (defBody s__law_order) (defScope s__law_order) .none kV26 dc26 pm26 an26 cd26 ct26), sl26⟩)
    (c26 : PySem.W.codeIn K cd26 "_law_order" = true)
    (k26 : PySem.W.keepIn K (.ref f26) = true)
    (a27 : PySem.W.nsIn K mainGlobals "_law_orders" = some (some (.ref f27)))
    (l27 : K.lookup f27 = some ⟨oc27, od27, .func (PySem.W.fnOf "_law_orders" "_law_orders" (defArgs s__law_orders) (defBody s__law_orders) (defScope s__law_orders) .none kV27 dc27 pm27 an27 cd27 ct27), sl27⟩)
    (c27 : PySem.W.codeIn K cd27 "_law_orders" = true)
    (k27 : PySem.W.keepIn K (.ref f27) = true)
    (a28 : PySem.W.nsIn K mainGlobals "_law_state" = some (some (.ref f28)))
    (l28 : K.lookup f28 = some ⟨oc28, od28, .func (PySem.W.fnOf "_law_state" "_law_state" (defArgs s__law_state) (defBody s__law_state) (defScope s__law_state) .none kV28 dc28 pm28 an28 cd28 ct28), sl28⟩)
    (c28 : PySem.W.codeIn K cd28 "_law_state" = true)
    (k28 : PySem.W.keepIn K (.ref f28) = true)
    (a29 : PySem.W.nsIn K mainGlobals "_law_fails" = some (some (.ref f29)))
    (l29 : K.lookup f29 = some ⟨oc29, od29, .func (PySem.W.fnOf "_law_fails" "_law_fails" (defArgs s__law_fails) (defBody s__law_fails) (defScope s__law_fails) .none kV29 dc29 pm29 an29 cd29 ct29), sl29⟩)
    (c29 : PySem.W.codeIn K cd29 "_law_fails" = true)
    (k29 : PySem.W.keepIn K (.ref f29) = true)
    (a30 : PySem.W.nsIn K mainGlobals "_law_played" = some (some (.ref f30)))
    (l30 : K.lookup f30 = some ⟨oc30, od30, .func (PySem.W.fnOf "_law_played" "_law_played" (defArgs s__law_played) (defBody s__law_played) (defScope s__law_played) .none kV30 dc30 pm30 an30 cd30 ct30), sl30⟩)
    (c30 : PySem.W.codeIn K cd30 "_law_played" = true)
    (k30 : PySem.W.keepIn K (.ref f30) = true)
    (a31 : PySem.W.nsIn K mainGlobals "_law_run_text" = some (some (.ref f31)))
    (l31 : K.lookup f31 = some ⟨oc31, od31, .func (PySem.W.fnOf "_law_run_text" "_law_run_text" (defArgs s__law_run_text) (defBody s__law_run_text) (defScope s__law_run_text) .none kV31 dc31 pm31 an31 cd31 ct31), sl31⟩)
    (c31 : PySem.W.codeIn K cd31 "_law_run_text" = true)
    (k31 : PySem.W.keepIn K (.ref f31) = true)
    (a32 : PySem.W.nsIn K mainGlobals "_law_flipped" = some (some (.ref f32)))
    (l32 : K.lookup f32 = some ⟨oc32, od32, .func (PySem.W.fnOf "_law_flipped" "_law_flipped" (defArgs s__law_flipped) (defBody s__law_flipped) (defScope s__law_flipped) .none kV32 dc32 pm32 an32 cd32 ct32), sl32⟩)
    (c32 : PySem.W.codeIn K cd32 "_law_flipped" = true)
    (k32 : PySem.W.keepIn K (.ref f32) = true)
    (a33 : PySem.W.nsIn K mainGlobals "_law_seen_runs" = some (some (.ref f33)))
    (l33 : K.lookup f33 = some ⟨oc33, od33, .func (PySem.W.fnOf "_law_seen_runs" "_law_seen_runs" (defArgs s__law_seen_runs) (defBody s__law_seen_runs) (defScope s__law_seen_runs) .none kV33 dc33 pm33 an33 cd33 ct33), sl33⟩)
    (c33 : PySem.W.codeIn K cd33 "_law_seen_runs" = true)
    (k33 : PySem.W.keepIn K (.ref f33) = true)
    (a34 : PySem.W.nsIn K mainGlobals "_law_evidence_text" = some (some (.ref f34)))
    (l34 : K.lookup f34 = some ⟨oc34, od34, .func (PySem.W.fnOf "_law_evidence_text" "_law_evidence_text" (defArgs s__law_evidence_text) (defBody s__law_evidence_text) (defScope s__law_evidence_text) .none kV34 dc34 pm34 an34 cd34 ct34), sl34⟩)
    (c34 : PySem.W.codeIn K cd34 "_law_evidence_text" = true)
    (k34 : PySem.W.keepIn K (.ref f34) = true)
    (a35 : PySem.W.nsIn K mainGlobals "law" = some (some (.ref f35)))
    (l35 : K.lookup f35 = some ⟨oc35, od35, .func (PySem.W.fnOf "law" "law" (defArgs s_law) (defBody s_law) (defScope s_law) .none kV35 dc35 pm35 an35 cd35 ct35), sl35⟩)
    (c35 : PySem.W.codeIn K cd35 "law" = true)
    (k35 : PySem.W.keepIn K (.ref f35) = true)
    (a36 : PySem.W.findIn K (.ref CR) "__init__" = some (some (.ref f36)))
    (i36 : PySem.W.isFn K (.ref f36) = true)
    (l36 : K.lookup f36 = some ⟨oc36, od36, .func (PySem.W.fnOf "__init__" "Run.__init__" (defArgs s_Run___init__) (defBody s_Run___init__) (defScope s_Run___init__) .none kV36 dc36 pm36 an36 cd36 ct36), sl36⟩)
    (c36 : PySem.W.codeIn K cd36 "Run.__init__" = true)
    (k36 : PySem.W.keepIn K (.ref f36) = true)
    (a37 : PySem.W.findIn K (.ref CR) "__eq__" = some (some (.ref f37)))
    (i37 : PySem.W.isFn K (.ref f37) = true)
    (l37 : K.lookup f37 = some ⟨oc37, od37, .func (PySem.W.fnOf "__eq__" "Run.__eq__" (defArgs s_Run___eq__) (defBody s_Run___eq__) (defScope s_Run___eq__) .none kV37 dc37 pm37 an37 cd37 ct37), sl37⟩)
    (c37 : PySem.W.codeIn K cd37 "Run.__eq__" = true)
    (k37 : PySem.W.keepIn K (.ref f37) = true)
    (a38 : PySem.W.findIn K (.ref CR) "__str__" = some (some (.ref f38)))
    (i38 : PySem.W.isFn K (.ref f38) = true)
    (l38 : K.lookup f38 = some ⟨oc38, od38, .func (PySem.W.fnOf "__str__" "Run.__str__" (defArgs s_Run___str__) (defBody s_Run___str__) (defScope s_Run___str__) .none kV38 dc38 pm38 an38 cd38 ct38), sl38⟩)
    (c38 : PySem.W.codeIn K cd38 "Run.__str__" = true)
    (k38 : PySem.W.keepIn K (.ref f38) = true)
    (a39 : PySem.W.findIn K (.ref CE) "__init__" = some (some (.ref f39)))
    (i39 : PySem.W.isFn K (.ref f39) = true)
    (l39 : K.lookup f39 = some ⟨oc39, od39, .func (PySem.W.fnOf "__init__" "Evidence.__init__" (defArgs s_Evidence___init__) (defBody s_Evidence___init__) (defScope s_Evidence___init__) (.ref aDf39) kV39 dc39 pm39 an39 cd39 ct39), sl39⟩)
    (c39 : PySem.W.codeIn K cd39 "Evidence.__init__" = true)
    (k39 : PySem.W.keepIn K (.ref f39) = true)
    (dl39 : K.lookup aDf39 = some ⟨oDf39, odDf39, .seq itDf39 nDf39, slDf39⟩)
    (dv39 : Vals [V.ref aEm, .int 1, .int 0] itDf39.toList)
    (a40 : PySem.W.findIn K (.ref CE) "__eq__" = some (some (.ref f40)))
    (i40 : PySem.W.isFn K (.ref f40) = true)
    (l40 : K.lookup f40 = some ⟨oc40, od40, .func (PySem.W.fnOf "__eq__" "Evidence.__eq__" (defArgs s_Evidence___eq__) (defBody s_Evidence___eq__) (defScope s_Evidence___eq__) .none kV40 dc40 pm40 an40 cd40 ct40), sl40⟩)
    (c40 : PySem.W.codeIn K cd40 "Evidence.__eq__" = true)
    (k40 : PySem.W.keepIn K (.ref f40) = true)
    (a41 : PySem.W.findIn K (.ref CE) "__len__" = some (some (.ref f41)))
    (i41 : PySem.W.isFn K (.ref f41) = true)
    (l41 : K.lookup f41 = some ⟨oc41, od41, .func (PySem.W.fnOf "__len__" "Evidence.__len__" (defArgs s_Evidence___len__) (defBody s_Evidence___len__) (defScope s_Evidence___len__) .none kV41 dc41 pm41 an41 cd41 ct41), sl41⟩)
    (c41 : PySem.W.codeIn K cd41 "Evidence.__len__" = true)
    (k41 : PySem.W.keepIn K (.ref f41) = true)
    (a42 : PySem.W.findIn K (.ref CE) "__str__" = some (some (.ref f42)))
    (i42 : PySem.W.isFn K (.ref f42) = true)
    (l42 : K.lookup f42 = some ⟨oc42, od42, .func (PySem.W.fnOf "__str__" "Evidence.__str__" (defArgs s_Evidence___str__) (defBody s_Evidence___str__) (defScope s_Evidence___str__) .none kV42 dc42 pm42 an42 cd42 ct42), sl42⟩)
    (c42 : PySem.W.codeIn K cd42 "Evidence.__str__" = true)
    (k42 : PySem.W.keepIn K (.ref f42) = true)
    (a43 : PySem.W.findCls K (.ref CE) (.type "type") "read" = some (.get (.builtin "classmethod.__get__") (.ref pc43) .none (.ref CE)))
    (r43 : PySem.W.recIn K pc43 "classmethod" = some (.ref f43 :: rest43))
    (i43 : PySem.W.fnIn K f43 = true)
    (rd43 : PySem.W.readsIn K CE (.type "type") = true)
    (ga43 : PySem.W.specialIn K (.ref CE) "__getattribute__" = some (some (.builtin "type.__getattribute__")))
    (l43 : K.lookup f43 = some ⟨oc43, od43, .func (PySem.W.fnOf "read" "Evidence.read" (defArgs s_Evidence_read) (defBody s_Evidence_read) (defScope s_Evidence_read) .none kV43 dc43 pm43 an43 cd43 ct43), sl43⟩)
    (c43 : PySem.W.codeIn K cd43 "Evidence.read" = true)
    (k43 : PySem.W.keepIn K (.ref f43) = true)
    (z_abs : PySem.W.nsIn K mainGlobals "abs" = some none)
    (z_all : PySem.W.nsIn K mainGlobals "all" = some none)
    (z_any : PySem.W.nsIn K mainGlobals "any" = some none)
    (z_bool : PySem.W.nsIn K mainGlobals "bool" = some none)
    (z_dict : PySem.W.nsIn K mainGlobals "dict" = some none)
    (z_enumerate : PySem.W.nsIn K mainGlobals "enumerate" = some none)
    (z_int : PySem.W.nsIn K mainGlobals "int" = some none)
    (z_isinstance : PySem.W.nsIn K mainGlobals "isinstance" = some none)
    (z_len : PySem.W.nsIn K mainGlobals "len" = some none)
    (z_list : PySem.W.nsIn K mainGlobals "list" = some none)
    (z_max : PySem.W.nsIn K mainGlobals "max" = some none)
    (z_min : PySem.W.nsIn K mainGlobals "min" = some none)
    (z_range : PySem.W.nsIn K mainGlobals "range" = some none)
    (z_repr : PySem.W.nsIn K mainGlobals "repr" = some none)
    (z_set : PySem.W.nsIn K mainGlobals "set" = some none)
    (z_sorted : PySem.W.nsIn K mainGlobals "sorted" = some none)
    (z_str : PySem.W.nsIn K mainGlobals "str" = some none)
    (z_sum : PySem.W.nsIn K mainGlobals "sum" = some none)
    (z_tuple : PySem.W.nsIn K mainGlobals "tuple" = some none)
    (z_zip : PySem.W.nsIn K mainGlobals "zip" = some none) :
    ∃ fd : FuncData, (∀ (s : Shared) (v : Value), BindsTo s fd ⟨[v], []⟩ [("_law_script", v)]) ∧ ∀ base : Heap, K.In base → base.Ns mainGlobals mg → FnOk l.prog w K mg base CX0 12 fa fd ["_law_script"] (spLaw K) := by
  have e := hfa.symm.trans (PySem.W.mg_of X G a35)
  cases e
  have T : Txt mg := ⟨PySem.W.mg_none_of X G z_abs, PySem.W.mg_none_of X G z_all, PySem.W.mg_none_of X G z_any, PySem.W.mg_none_of X G z_bool, PySem.W.mg_none_of X G z_dict, PySem.W.mg_none_of X G z_enumerate, PySem.W.mg_none_of X G z_int, PySem.W.mg_none_of X G z_isinstance, PySem.W.mg_none_of X G z_len, PySem.W.mg_none_of X G z_list, PySem.W.mg_none_of X G z_max, PySem.W.mg_none_of X G z_min, PySem.W.mg_none_of X G z_range, PySem.W.mg_none_of X G z_repr, PySem.W.mg_none_of X G z_set, PySem.W.mg_none_of X G z_sorted, PySem.W.mg_none_of X G z_str, PySem.W.mg_none_of X G z_sum, PySem.W.mg_none_of X G z_tuple, PySem.W.mg_none_of X G z_zip⟩
  have F1 := fun_mk (st := s_is_integer) l1 c1 k1
  have b1 := F1.binds (ps := ["value"]) fun _ _ _ _ _ _ us hl => match us, hl with | [_], _ => rfl
  have m1 := PySem.W.mg_of X G a1
  have F2 := fun_mk (st := s_is_name) l2 c2 k2
  have b2 := F2.binds (ps := ["value"]) fun _ _ _ _ _ _ us hl => match us, hl with | [_], _ => rfl
  have m2 := PySem.W.mg_of X G a2
  have F3 := fun_mk (st := s_items_of) l3 c3 k3
  have b3 := F3.binds (ps := ["value"]) fun _ _ _ _ _ _ us hl => match us, hl with | [_], _ => rfl
  have m3 := PySem.W.mg_of X G a3
  have F4 := fun_mk (st := s_first_wrong) l4 c4 k4
  have b4 := F4.binds (ps := ["fits"]) fun _ _ _ _ _ _ us hl => match us, hl with | [_], _ => rfl
  have m4 := PySem.W.mg_of X G a4
  have F5 := fun_mk (st := s_is_order) l5 c5 k5
  have b5 := F5.binds (ps := ["value"]) fun _ _ _ _ _ _ us hl => match us, hl with | [_], _ => rfl
  have m5 := PySem.W.mg_of X G a5
  have F6 := fun_mk (st := s_is_place) l6 c6 k6
  have b6 := F6.binds (ps := ["value"]) fun _ _ _ _ _ _ us hl => match us, hl with | [_], _ => rfl
  have m6 := PySem.W.mg_of X G a6
  have F7 := fun_mk (st := s_is_row) l7 c7 k7
  have b7 := F7.binds (ps := ["value"]) fun _ _ _ _ _ _ us hl => match us, hl with | [_], _ => rfl
  have m7 := PySem.W.mg_of X G a7
  have F8 := fun_mk (st := s_wrong_row) l8 c8 k8
  have b8 := F8.binds (ps := ["rows"]) fun _ _ _ _ _ _ us hl => match us, hl with | [_], _ => rfl
  have m8 := PySem.W.mg_of X G a8
  have F9 := fun_mk (st := s_row_text) l9 c9 k9
  have b9 := F9.binds (ps := ["row"]) fun _ _ _ _ _ _ us hl => match us, hl with | [_], _ => rfl
  have m9 := PySem.W.mg_of X G a9
  have F10 := fun_mk (st := s_read_place) l10 c10 k10
  have b10 := F10.binds (ps := ["word"]) fun _ _ _ _ _ _ us hl => match us, hl with | [_], _ => rfl
  have m10 := PySem.W.mg_of X G a10
  have F11 := fun_mk (st := s_read_rows) l11 c11 k11
  have b11 := F11.binds (ps := ["text"]) fun _ _ _ _ _ _ us hl => match us, hl with | [_], _ => rfl
  have m11 := PySem.W.mg_of X G a11
  have F12 := fun_mk (st := s_are_names) l12 c12 k12
  have b12 := F12.binds (ps := ["value"]) fun _ _ _ _ _ _ us hl => match us, hl with | [_], _ => rfl
  have m12 := PySem.W.mg_of X G a12
  have F13 := fun_mk (st := s_is_run_of) l13 c13 k13
  have b13 := F13.binds (ps := ["value", "names"]) fun _ _ _ _ _ _ us hl => match us, hl with | [_, _], _ => rfl
  have m13 := PySem.W.mg_of X G a13
  have F14 := fun_mk (st := s_are_runs_of) l14 c14 k14
  have b14 := F14.binds (ps := ["value", "names"]) fun _ _ _ _ _ _ us hl => match us, hl with | [_, _], _ => rfl
  have m14 := PySem.W.mg_of X G a14
  have F15 := fun_mk (st := s_wrong_word) l15 c15 k15
  have b15 := F15.binds (ps := ["names", "runs", "things", "slips"]) fun _ _ _ _ _ _ us hl => match us, hl with | [_, _, _, _], _ => rfl
  have m15 := PySem.W.mg_of X G a15
  have F16 := fun_mk (st := s_is_number) l16 c16 k16
  have b16 := F16.binds (ps := ["word"]) fun _ _ _ _ _ _ us hl => match us, hl with | [_], _ => rfl
  have m16 := PySem.W.mg_of X G a16
  have F17 := fun_mk (st := s_read_numbers) l17 c17 k17
  have b17 := F17.binds (ps := ["line"]) fun _ _ _ _ _ _ us hl => match us, hl with | [_], _ => rfl
  have m17 := PySem.W.mg_of X G a17
  have F18 := fun_mk (st := s_read_run) l18 c18 k18
  have b18 := F18.binds (ps := ["line", "at", "names"]) fun _ _ _ _ _ _ us hl => match us, hl with | [_, _, _], _ => rfl
  have m18 := PySem.W.mg_of X G a18
  have F19 := fun_mk (st := s__law_source) l19 c19 k19
  have b19 := F19.binds (ps := ["_law_script", "_law_base"]) fun _ _ _ _ _ _ us hl => match us, hl with | [_, _], _ => rfl
  have m19 := PySem.W.mg_of X G a19
  have F20 := fun_mk (st := s_draw) l20 c20 k20
  have b20 := F20.binds (ps := ["_law_deal", "_law_wide"]) fun _ _ _ _ _ _ us hl => match us, hl with | [_, _], _ => rfl
  have m20 := PySem.W.mg_of X G a20
  have F21 := fun_mk (st := s__law_pick) l21 c21 k21
  have b21 := F21.binds (ps := ["_law_deal", "_law_some"]) fun _ _ _ _ _ _ us hl => match us, hl with | [_, _], _ => rfl
  have m21 := PySem.W.mg_of X G a21
  have F22 := fun_mk (st := s__law_mixed) l22 c22 k22
  have b22 := F22.binds (ps := ["_law_deal", "_law_some"]) fun _ _ _ _ _ _ us hl => match us, hl with | [_, _], _ => rfl
  have m22 := PySem.W.mg_of X G a22
  have F23 := fun_mk (st := s__law_names) l23 c23 k23
  have b23 := F23.binds (ps := ["_law_deal", "_law_amount"]) fun _ _ _ _ _ _ us hl => match us, hl with | [_, _], _ => rfl
  have m23 := PySem.W.mg_of X G a23
  have F24 := fun_mk (st := s__law_sign) l24 c24 k24
  have b24 := F24.binds (ps := ["_law_deal"]) fun _ _ _ _ _ _ us hl => match us, hl with | [_], _ => rfl
  have m24 := PySem.W.mg_of X G a24
  have F25 := fun_mk (st := s__law_table) l25 c25 k25
  have b25 := F25.binds (ps := ["_law_deal", "_law_names_here", "_law_things"]) fun _ _ _ _ _ _ us hl => match us, hl with | [_, _, _], _ => rfl
  have m25 := PySem.W.mg_of X G a25
  have F26 := fun_mk (st := s__law_order) l26 c26 k26
  have b26 := F26.binds (ps := ["_law_deal", "_law_names_here", "_law_most"]) fun _ _ _ _ _ _ us hl => match us, hl with | [_, _, _], _ => rfl
  have m26 := PySem.W.mg_of X G a26
  have F27 := fun_mk (st := s__law_orders) l27 c27 k27
  have b27 := F27.binds (ps := ["_law_deal", "_law_names_here", "_law_rows", "_law_most"]) fun _ _ _ _ _ _ us hl => match us, hl with | [_, _, _, _], _ => rfl
  have m27 := PySem.W.mg_of X G a27
  have F28 := fun_mk (st := s__law_state) l28 c28 k28
  have b28 := F28.binds (ps := ["_law_table_here", "_law_row", "_law_at", "_law_thing"]) fun _ _ _ _ _ _ us hl => match us, hl with | [_, _, _, _], _ => rfl
  have m28 := PySem.W.mg_of X G a28
  have F29 := fun_mk (st := s__law_fails) l29 c29 k29
  have b29 := F29.binds (ps := ["_law_table_here", "_law_row", "_law_at"]) fun _ _ _ _ _ _ us hl => match us, hl with | [_, _, _], _ => rfl
  have m29 := PySem.W.mg_of X G a29
  have F30 := fun_mk (st := s__law_played) l30 c30 k30
  have b30 := F30.binds (ps := ["_law_table_here", "_law_orders_here"]) fun _ _ _ _ _ _ us hl => match us, hl with | [_, _], _ => rfl
  have m30 := PySem.W.mg_of X G a30
  have F31 := fun_mk (st := s__law_run_text) l31 c31 k31
  have b31 := F31.binds (ps := ["_law_rows"]) fun _ _ _ _ _ _ us hl => match us, hl with | [_], _ => rfl
  have m31 := PySem.W.mg_of X G a31
  have F32 := fun_mk (st := s__law_flipped) l32 c32 k32
  have b32 := F32.binds (ps := ["_law_deal", "_law_rows", "_law_amount"]) fun _ _ _ _ _ _ us hl => match us, hl with | [_, _, _], _ => rfl
  have m32 := PySem.W.mg_of X G a32
  have F33 := fun_mk (st := s__law_seen_runs) l33 c33 k33
  have b33 := F33.binds (ps := ["_law_deal", "_law_table_here", "_law_amount", "_law_rows", "_law_most"]) fun _ _ _ _ _ _ us hl => match us, hl with | [_, _, _, _, _], _ => rfl
  have m33 := PySem.W.mg_of X G a33
  have F34 := fun_mk (st := s__law_evidence_text) l34 c34 k34
  have b34 := F34.binds (ps := ["_law_names_here", "_law_runs", "_law_things", "_law_slips"]) fun _ _ _ _ _ _ us hl => match us, hl with | [_, _, _, _], _ => rfl
  have m34 := PySem.W.mg_of X G a34
  have F35 := fun_mk (st := s_law) l35 c35 k35
  have b35 := F35.binds (ps := ["_law_script"]) fun _ _ _ _ _ _ us hl => match us, hl with | [_], _ => rfl
  have m35 := PySem.W.mg_of X G a35
  have F36 := fun_mk (st := s_Run___init__) l36 c36 k36
  have b36 := F36.binds (ps := ["self", "rows"]) fun _ _ _ _ _ _ us hl => match us, hl with | [_, _], _ => rfl
  have F37 := fun_mk (st := s_Run___eq__) l37 c37 k37
  have b37 := F37.binds (ps := ["self", "other"]) fun _ _ _ _ _ _ us hl => match us, hl with | [_, _], _ => rfl
  have F38 := fun_mk (st := s_Run___str__) l38 c38 k38
  have b38 := F38.binds (ps := ["self"]) fun _ _ _ _ _ _ us hl => match us, hl with | [_], _ => rfl
  have F39 := funD_mk (st := s_Evidence___init__) (dvs := [V.ref aEm, .int 1, .int 0]) l39 c39 k39 (by simp) dl39 rfl dv39
  have b39 := funD_all F39 (ps := ["self", "names", "runs", "things", "slips"]) (by simp) fun _ _ _ _ _ _ _ us its hl hl2 => match us, its, hl, hl2 with | [_, _, _, _, _], [_, _, _], _, _ => ⟨_, rfl, rfl⟩
  have F40 := fun_mk (st := s_Evidence___eq__) l40 c40 k40
  have b40 := F40.binds (ps := ["self", "other"]) fun _ _ _ _ _ _ us hl => match us, hl with | [_, _], _ => rfl
  have F41 := fun_mk (st := s_Evidence___len__) l41 c41 k41
  have b41 := F41.binds (ps := ["self"]) fun _ _ _ _ _ _ us hl => match us, hl with | [_], _ => rfl
  have F42 := fun_mk (st := s_Evidence___str__) l42 c42 k42
  have b42 := F42.binds (ps := ["self"]) fun _ _ _ _ _ _ us hl => match us, hl with | [_], _ => rfl
  have F43 := fun_mk (st := s_Evidence_read) l43 c43 k43
  have b43 := F43.binds (ps := ["cls", "text"]) fun _ _ _ _ _ _ us hl => match us, hl with | [_, _], _ => rfl

  refine ⟨PySem.W.fnOf "law" "law" (defArgs s_law) (defBody s_law) (defScope s_law) .none kV35 dc35 pm35 an35 cd35 ct35, fun s v => .of_eq rfl, fun base _ _ => ?_⟩
  have O : OR K mg CR := ⟨⟨rpg, rhd, rpo, rsa⟩, rn0, rn1, rn2, ⟨⟨rpg, rhd, rpo, rsa⟩, rha, hn, ht, rhm⟩, ⟨rne, rhm⟩, ⟨⟨cdr, rcd, rmro⟩, rown, robj⟩, rsf, by simp [PySem.W.kitOne], PySem.W.mg_of X G raC⟩
  have OEv : OE K mg CE := ⟨⟨epg, ehd, epo, esa⟩, en0, en1, en2, en3, PySem.W.mg_of X G eaC⟩
  have IE : IsiC K CE := ⟨⟨epg, ehd, epo, esa⟩, eha, hn, ht, ehm⟩
  have KE : PySem.W.kitOne K (.ref CE) (.ref CE) = some true := by simp [PySem.W.kitOne]
  have NE : NeOf K CE := ⟨ene, ehm⟩
  have CN : Cal l.prog w K mg base "is_name" 1 1 tfIsName := ⟨_, _, _, ok_is_name F2 T, m2, k2, b2⟩
  have CIt : Cal l.prog w K mg base "items_of" 1 1 tfItems := ⟨_, _, _, ok_items_of F3 T, m3, k3, b3⟩
  have CF : Cal l.prog w K mg base "first_wrong" 1 1 tfFirst := ⟨_, _, _, ok_first_wrong F4 T, m4, k4, b4⟩
  have CPl : Cal l.prog w K mg base "is_place" 2 1 tfIsPlace := ⟨_, _, _, ok_is_place F6 T CN, m6, k6, b6⟩
  have CRo : Cal l.prog w K mg base "is_row" 3 1 tfIsRow := ⟨_, _, _, ok_is_row F7 T CIt CPl, m7, k7, b7⟩
  have CW : Cal l.prog w K mg base "wrong_row" 4 1 tfWrong := ⟨_, _, _, ok_wrong_row F8 T CIt CRo CF, m8, k8, b8⟩
  have MKR : Mak l.prog w K mg base "Run" CR ["rows", "orders", "names"] 5 1 tfInit := ⟨_, _, _, ok_Run___init__ F36 T O CW, ⟨rmk, a36, i36, rkc⟩, PySem.W.mg_of X G raC, b36⟩
  have SQr : Spc l.prog w K mg base CR "__eq__" 1 2 (tfEq CR) := ⟨_, _, _, ok_Run___eq__ F37 T O, b37, a37, i37⟩
  have CIi : Cal l.prog w K mg base "is_integer" 1 1 tfIsInt := ⟨_, _, _, ok_is_integer F1 T, m1, k1, b1⟩
  have CIo : Cal l.prog w K mg base "is_order" 2 1 tfIsOrder := ⟨_, _, _, ok_is_order F5 T CIt CN, m5, k5, b5⟩
  have CAn : Cal l.prog w K mg base "are_names" 3 1 tfAreNamesG := ⟨_, _, _, ok_are_names F12 T CIo, m12, k12, b12⟩
  have CIr : Cal l.prog w K mg base "is_run_of" 1 2 (tfIsRunOfG CR) := ⟨_, _, _, ok_is_run_of F13 T O, m13, k13, b13⟩
  have CAr : Cal l.prog w K mg base "are_runs_of" 2 2 (tfAreRunsOfG CR) := ⟨_, _, _, ok_are_runs_of F14 T CIr, m14, k14, b14⟩
  have CWe : Cal l.prog w K mg base "wrong_word" 4 4 (tfWrongEG CR) := ⟨_, _, _, ok_wrong_word F15 T CAn CAr CIi, m15, k15, b15⟩
  have MKE : Mak l.prog w K mg base "Evidence" CE ["names", "runs", "things", "slips"] 5 4 (tfInitEG CR) := ⟨_, _, _, ok_Evidence___init__ F39 T OEv CWe, ⟨emk, a39, i39, ekc⟩, PySem.W.mg_of X G eaC, b39⟩
  have CRx : Cal l.prog w K mg base "row_text" 1 1 tfRowText := ⟨_, _, _, ok_row_text F9 T, m9, k9, b9⟩
  have SSr : Spc l.prog w K mg base CR "__str__" 2 1 (tfStr CR) := ⟨_, _, _, ok_Run___str__ F38 T O CRx, b38, a38, i38⟩
  have CRp : Cal l.prog w K mg base "read_place" 1 1 tfReadPlace := ⟨_, _, _, ok_read_place F10 T, m10, k10, b10⟩
  have CRR : Cal l.prog w K mg base "read_rows" 5 1 tfReadRows := ⟨_, _, _, ok_read_rows F11 T CRp CW, m11, k11, b11⟩
  have CIn : Cal l.prog w K mg base "is_number" 1 1 tfIsNumber := ⟨_, _, _, ok_is_number F16 T, m16, k16, b16⟩
  have CNu : Cal l.prog w K mg base "read_numbers" 2 1 tfReadNums := ⟨_, _, _, ok_read_numbers F17 T CIn, m17, k17, b17⟩
  have CRu : Cal l.prog w K mg base "read_run" 7 3 (tfReadRun CR) := ⟨_, _, _, ok_read_run F18 T MKR O CRR CIr, m18, k18, b18⟩
  have MRe : Cmt l.prog w K mg base CE "read" 8 1 (tfReadE CE CR) := ⟨_, _, _, _, _, ⟨rd43, ga43⟩, ⟨a43, ⟨_, r43⟩, i43⟩, ok_Evidence_read F43 T OEv MKE CAn CNu CRu, b43⟩
  have SLe : Spc l.prog w K mg base CE "__len__" 1 1 (tfLenE CE CR) := ⟨_, _, _, ok_Evidence___len__ F41 T OEv, b41, a41, i41⟩
  have SSe : Spc l.prog w K mg base CE "__str__" 5 1 (tfStrE CE CR) := ⟨_, _, _, ok_Evidence___str__ F42 T OEv SSr, b42, a42, i42⟩
  have SQe : Spc l.prog w K mg base CE "__eq__" 3 2 (tfEqE CE CR) := ⟨_, _, _, ok_Evidence___eq__ F40 T OEv SQr IE KE, b40, a40, i40⟩
  have CS : Src l.prog w K mg base "_law_source" "great" "mixed" 1 := ⟨_, _, _, ok_law_source F19 T, m19, k19, b19⟩
  have CD : Cal l.prog w K mg base "_law_draw" 1 2 tfDr := ⟨_, _, _, ok_draw F20 T, m20, k20, b20⟩
  have CPk : Cal l.prog w K mg base "_law_pick" 2 2 tfPick := ⟨_, _, _, ok_law_pick F21 T CD, m21, k21, b21⟩
  have CM : CalF l.prog w K mg base "_law_mixed" 2 2 tfMixed := ⟨_, _, _, ok_law_mixed F22 T CD, m22, k22, b22⟩
  have CNm : Cal l.prog w K mg base "_law_names" 3 2 tfNames := ⟨_, _, _, ok_law_names F23 T CM, m23, k23, b23⟩
  have CSg : Cal l.prog w K mg base "_law_sign" 3 1 tfSign := ⟨_, _, _, ok_law_sign F24 T CPk, m24, k24, b24⟩
  have CTb : Cal l.prog w K mg base "_law_table" 4 3 tfTable := ⟨_, _, _, ok_law_table F25 T CSg, m25, k25, b25⟩
  have COd : Cal l.prog w K mg base "_law_order" 3 3 tfOrder := ⟨_, _, _, ok_law_order F26 T CD CPk CM, m26, k26, b26⟩
  have COs : Cal l.prog w K mg base "_law_orders" 4 4 tfOrders := ⟨_, _, _, ok_law_orders F27 T CD COd, m27, k27, b27⟩
  have CSta : Cal l.prog w K mg base "_law_state" 1 4 tfState := ⟨_, _, _, ok_law_state F28 T, m28, k28, b28⟩
  have CLf : Cal l.prog w K mg base "_law_fails" 2 3 tfLF := ⟨_, _, _, ok_law_fails F29 T CSta, m29, k29, b29⟩
  have CPd : Cal l.prog w K mg base "_law_played" 3 2 tfPlL := ⟨_, _, _, ok_law_played F30 T CLf, m30, k30, b30⟩
  have CLx : Cal l.prog w K mg base "_law_run_text" 1 1 tfRunText := ⟨_, _, _, ok_law_run_text F31 T, m31, k31, b31⟩
  have CFl : Cal l.prog w K mg base "_law_flipped" 2 3 tfFlip := ⟨_, _, _, ok_flipped F32 T CD, m32, k32, b32⟩
  have CSr : Cal l.prog w K mg base "_law_seen_runs" 5 5 tfSeen := ⟨_, _, _, ok_law_seen_runs F33 T CD CPd COs CFl, m33, k33, b33⟩
  have CEt : Cal l.prog w K mg base "_law_evidence_text" 2 4 tfEvText := ⟨_, _, _, ok_law_evidence_text F34 T CLx, m34, k34, b34⟩
  exact ok_law F35 T CS CD CM CNm CTb CSr CEt O OEv NE SQr SQe SLe SSe MKR MKE MRe
theorem walk {l : PySem.W.OpenLaw} {q : Program} {loose : List Str} {XP : (Str → Option Value) → Heap → Prop} {YP : World → Heap → Prop} {d : DefRec} {K : Params → PySem.W.Frag} (hn : l.most = some 63) (hdf : d.params.defaults = [])
    (hY : ∀ (w : World) (h : Heap), YP w h → (K w.params).In h)
    (F : ∀ (w : World) (mg : Str → Option Value) (fa : Addr) (h : Heap), (K w.params).In h → h.Ns mainGlobals mg → mg d.name = some (.ref fa) →
      ∃ fd : FuncData, (∀ (s : Shared) (u : Value), BindsTo s fd ⟨[u], []⟩ [("_law_script", u)]) ∧ ∀ base : Heap, (K w.params).In base → base.Ns mainGlobals mg → FnOk l.prog w (K w.params) mg base CX0 12 fa fd ["_law_script"] (spLaw (K w.params))) :
    PySem.W.WalkO q loose XP YP l.row.toRowW d [] (fun f vs => PySem.call f vs) :=
  L2.walk_of (n := 63) (k := 12) (x := "_law_script") (CX := fun _ => CX0) (sp := fun w => spLaw (K w.params)) hn (by decide) hdf ⟨rfl, by decide, by decide⟩ hY F (fun _ _ a ns hl _ hS => ⟨a, ns, rfl, hS, hl, fun _ => rfl⟩) fun _ _ _ _ _ z => z
end K17
open PySem PySem.W PyProof.Rows
set_option maxRecDepth 100000 in
set_option maxHeartbeats 0 in
theorem PySem.Challenge.cw_poisonruns_k17_texts_of_evidences_holds : PySem.Challenge.rw_poisonruns_k17_texts_of_evidences.Holds := by
  w_on; o_law; k_head; (case hw => w_witness2)
  k_fill
  refine K17.walk (l := PySem.Challenge.rw_poisonruns_k17_texts_of_evidences) rfl rfl (fun w h Y => PySem.W.kIn_of Y) ?F
  case F =>
    intro w mg fa h KX G hmg
    refine' K17.all_mk KX G hmg ?raC ?rpg ?rhd ?rpo ?rsa ?rmk ?rkc ?rn0 ?rn1 ?rn2 ?rha ?rhm ?rne ?rcd ?rown ?robj ?rsf ?rmro ?hn ?ht ?eaC ?epg ?ehd ?epo ?esa ?emk ?ekc ?en0 ?en1 ?en2 ?en3 ?eha ?ehm ?ene ?a1 ?l1 ?c1 ?k1 ?a2 ?l2 ?c2 ?k2 ?a3 ?l3 ?c3 ?k3 ?a4 ?l4 ?c4 ?k4 ?a5 ?l5 ?c5 ?k5 ?a6 ?l6 ?c6 ?k6 ?a7 ?l7 ?c7 ?k7 ?a8 ?l8 ?c8 ?k8 ?a9 ?l9 ?c9 ?k9 ?a10 ?l10 ?c10 ?k10 ?a11 ?l11 ?c11 ?k11 ?a12 ?l12 ?c12 ?k12 ?a13 ?l13 ?c13 ?k13 ?a14 ?l14 ?c14 ?k14 ?a15 ?l15 ?c15 ?k15 ?a16 ?l16 ?c16 ?k16 ?a17 ?l17 ?c17 ?k17 ?a18 ?l18 ?c18 ?k18 ?a19 ?l19 ?c19 ?k19 ?a20 ?l20 ?c20 ?k20 ?a21 ?l21 ?c21 ?k21 ?a22 ?l22 ?c22 ?k22 ?a23 ?l23 ?c23 ?k23 ?a24 ?l24 ?c24 ?k24 ?a25 ?l25 ?c25 ?k25 ?a26 ?l26 ?c26 ?k26 ?a27 ?l27 ?c27 ?k27 ?a28 ?l28 ?c28 ?k28 ?a29 ?l29 ?c29 ?k29 ?a30 ?l30 ?c30 ?k30 ?a31 ?l31 ?c31 ?k31 ?a32 ?l32 ?c32 ?k32 ?a33 ?l33 ?c33 ?k33 ?a34 ?l34 ?c34 ?k34 ?a35 ?l35 ?c35 ?k35 ?a36 ?i36 ?l36 ?c36 ?k36 ?a37 ?i37 ?l37 ?c37 ?k37 ?a38 ?i38 ?l38 ?c38 ?k38 ?a39 ?i39 ?l39 ?c39 ?k39 ?dl39 ?dv39 ?a40 ?i40 ?l40 ?c40 ?k40 ?a41 ?i41 ?l41 ?c41 ?k41 ?a42 ?i42 ?l42 ?c42 ?k42 ?a43 ?r43 ?i43 ?rd43 ?ga43 ?l43 ?c43 ?k43 ?z_abs ?z_all ?z_any ?z_bool ?z_dict ?z_enumerate ?z_int ?z_isinstance ?z_len ?z_list ?z_max ?z_min ?z_range ?z_repr ?z_set ?z_sorted ?z_str ?z_sum ?z_tuple ?z_zip
    (case raC => k_is)
    (case rpg => k_is)
    (case rhd => k_is)
    (case rpo => k_is)
    (case rsa => k_is)
    (case rmk => k_is)
    (case rkc => k_is)
    (case rn0 => k_is)
    (case rn1 => k_is)
    (case rn2 => k_is)
    (case rha => k_is)
    (case rhm => k_is)
    (case rne => k_is)
    (case rcd => k_is)
    (case rown => k_is)
    (case robj => k_is)
    (case rsf => k_is)
    (case rmro => rfl)
    (case hn => k_is)
    (case ht => k_is)
    (case eaC => k_is)
    (case epg => k_is)
    (case ehd => k_is)
    (case epo => k_is)
    (case esa => k_is)
    (case emk => k_is)
    (case ekc => k_is)
    (case en0 => k_is)
    (case en1 => k_is)
    (case en2 => k_is)
    (case en3 => k_is)
    (case eha => k_is)
    (case ehm => k_is)
    (case ene => k_is)
    (case a1 => k_is)
    (case l1 => k_is)
    (case c1 => k_is)
    (case k1 => k_is)
    (case a2 => k_is)
    (case l2 => k_is)
    (case c2 => k_is)
    (case k2 => k_is)
    (case a3 => k_is)
    (case l3 => k_is)
    (case c3 => k_is)
    (case k3 => k_is)
    (case a4 => k_is)
    (case l4 => k_is)
    (case c4 => k_is)
    (case k4 => k_is)
    (case a5 => k_is)
    (case l5 => k_is)
    (case c5 => k_is)
    (case k5 => k_is)
    (case a6 => k_is)
    (case l6 => k_is)
    (case c6 => k_is)
    (case k6 => k_is)
    (case a7 => k_is)
    (case l7 => k_is)
    (case c7 => k_is)
    (case k7 => k_is)
    (case a8 => k_is)
    (case l8 => k_is)
    (case c8 => k_is)
    (case k8 => k_is)
    (case a9 => k_is)
    (case l9 => k_is)
    (case c9 => k_is)
    (case k9 => k_is)
    (case a10 => k_is)
    (case l10 => k_is)
    (case c10 => k_is)
    (case k10 => k_is)
    (case a11 => k_is)
    (case l11 => k_is)
    (case c11 => k_is)
    (case k11 => k_is)
    (case a12 => k_is)
    (case l12 => k_is)
    (case c12 => k_is)
    (case k12 => k_is)
    (case a13 => k_is)
    (case l13 => k_is)
    (case c13 => k_is)
    (case k13 => k_is)
    (case a14 => k_is)
    (case l14 => k_is)
    (case c14 => k_is)
    (case k14 => k_is)
    (case a15 => k_is)
    (case l15 => k_is)
    (case c15 => k_is)
    (case k15 => k_is)
    (case a16 => k_is)
    (case l16 => k_is)
    (case c16 => k_is)
    (case k16 => k_is)
    (case a17 => k_is)
    (case l17 => k_is)
    (case c17 => k_is)
    (case k17 => k_is)
    (case a18 => k_is)
    (case l18 => k_is)
    (case c18 => k_is)
    (case k18 => k_is)
    (case a19 => k_is)
    (case l19 => k_is)
    (case c19 => k_is)
    (case k19 => k_is)
    (case a20 => k_is)
    (case l20 => k_is)
    (case c20 => k_is)
    (case k20 => k_is)
    (case a21 => k_is)
    (case l21 => k_is)
    (case c21 => k_is)
    (case k21 => k_is)
    (case a22 => k_is)
    (case l22 => k_is)
    (case c22 => k_is)
    (case k22 => k_is)
    (case a23 => k_is)
    (case l23 => k_is)
    (case c23 => k_is)
    (case k23 => k_is)
    (case a24 => k_is)
    (case l24 => k_is)
    (case c24 => k_is)
    (case k24 => k_is)
    (case a25 => k_is)
    (case l25 => k_is)
    (case c25 => k_is)
    (case k25 => k_is)
    (case a26 => k_is)
    (case l26 => k_is)
    (case c26 => k_is)
    (case k26 => k_is)
    (case a27 => k_is)
    (case l27 => k_is)
    (case c27 => k_is)
    (case k27 => k_is)
    (case a28 => k_is)
    (case l28 => k_is)
    (case c28 => k_is)
    (case k28 => k_is)
    (case a29 => k_is)
    (case l29 => k_is)
    (case c29 => k_is)
    (case k29 => k_is)
    (case a30 => k_is)
    (case l30 => k_is)
    (case c30 => k_is)
    (case k30 => k_is)
    (case a31 => k_is)
    (case l31 => k_is)
    (case c31 => k_is)
    (case k31 => k_is)
    (case a32 => k_is)
    (case l32 => k_is)
    (case c32 => k_is)
    (case k32 => k_is)
    (case a33 => k_is)
    (case l33 => k_is)
    (case c33 => k_is)
    (case k33 => k_is)
    (case a34 => k_is)
    (case l34 => k_is)
    (case c34 => k_is)
    (case k34 => k_is)
    (case a35 => k_is)
    (case l35 => k_is)
    (case c35 => k_is)
    (case k35 => k_is)
    (case a36 => k_is)
    (case i36 => k_is)
    (case l36 => k_is)
    (case c36 => k_is)
    (case k36 => k_is)
    (case a37 => k_is)
    (case i37 => k_is)
    (case l37 => k_is)
    (case c37 => k_is)
    (case k37 => k_is)
    (case a38 => k_is)
    (case i38 => k_is)
    (case l38 => k_is)
    (case c38 => k_is)
    (case k38 => k_is)
    (case a39 => k_is)
    (case i39 => k_is)
    (case l39 => k_is)
    (case c39 => k_is)
    (case k39 => k_is)
    (case dl39 => k_is)
    (case dv39 => exact .cons rfl (.cons ⟨_, rfl⟩ (.cons ⟨_, rfl⟩ .nil)))
    (case a40 => k_is)
    (case i40 => k_is)
    (case l40 => k_is)
    (case c40 => k_is)
    (case k40 => k_is)
    (case a41 => k_is)
    (case i41 => k_is)
    (case l41 => k_is)
    (case c41 => k_is)
    (case k41 => k_is)
    (case a42 => k_is)
    (case i42 => k_is)
    (case l42 => k_is)
    (case c42 => k_is)
    (case k42 => k_is)
    (case a43 => k_is)
    (case r43 => k_is)
    (case i43 => k_is)
    (case rd43 => k_is)
    (case ga43 => k_is)
    (case l43 => k_is)
    (case c43 => k_is)
    (case k43 => k_is)
    (case z_abs => k_is)
    (case z_all => k_is)
    (case z_any => k_is)
    (case z_bool => k_is)
    (case z_dict => k_is)
    (case z_enumerate => k_is)
    (case z_int => k_is)
    (case z_isinstance => k_is)
    (case z_len => k_is)
    (case z_list => k_is)
    (case z_max => k_is)
    (case z_min => k_is)
    (case z_range => k_is)
    (case z_repr => k_is)
    (case z_set => k_is)
    (case z_sorted => k_is)
    (case z_str => k_is)
    (case z_sum => k_is)
    (case z_tuple => k_is)
    (case z_zip => k_is)
