import PyProof.Rows.All
import Wide.All
import OpenK.AllK
import Wide.FinOn
import HandS.ForMost
import HandS.Walk
import HandS.Deep
import HandS.Star
import KE.DataEq
import HandS.TupAny
import HandS.IsInst
import HandS.Style
import HandS.RaiseMore
import KE.GoesZip
import KE.GoesMore
import HandS.Zip
import PySem.Challenge.RW_poisonruns_k44_orders_that_stand_near
set_option Elab.async false
set_option linter.all false
set_option maxRecDepth 100000
/-! Data: values with all that they hold, as one term; the readings of the hand layer told over such terms. -/
namespace DL
open PySem L2

/-- a value with all that it holds -/
inductive D where
  | non | bl (b : Bool) | int (i : Int) | str (x : Str) | lst (ds : List D) | tup (ds : List D)
  | obj (C : Addr) (ns : List Str) (ds : List D)
  | dct (ks : List Key) (ds : List D)
  | raw (v : V)
  /-- the script -/
  | scr (ns : List Int)

/-- a tuple of the written part -/
def KTup (K : PySem.W.Frag) (a : Addr) (xs : List V) : Prop :=
  ∃ (o : Obj) (its : Array Value) (n : Nat), K.lookup a = some o ∧ o.cls = .type "tuple" ∧ o.data = .seq its n ∧ its.size ≤ sizeLine ∧ Vals xs its.toList

/-- a list of the written part -/
def KLst (K : PySem.W.Frag) (a : Addr) (xs : List V) : Prop :=
  ∃ (o : Obj) (its : Array Value) (n : Nat), K.lookup a = some o ∧ o.cls = .type "list" ∧ o.dict = none ∧ o.data = .seq its n ∧ its.size ≤ sizeLine ∧ Vals xs its.toList
mutual
/-- v holds d in H, nothing of it at a place of M -/
inductive Rp (K : PySem.W.Frag) (M : Addr → Prop) (H : Hp) : V → D → Prop
  | non : Rp K M H .non .non
  | bl (b : Bool) : Rp K M H (.bl b) (.bl b)
  | int (i : Int) : Rp K M H (.int i) (.int i)
  | str (x : Str) : Rp K M H (.str x) (.str x)
  | raw (v : V) : Rp K M H v (.raw v)
  | scr {a : Addr} {o : Obj} {ns : List Int} : ¬ M a → H a = some (.frz o (.lst (ns.map V.int))) → Rp K M H (.ref a) (.scr ns)
  | scrK {a : Addr} {ns : List Int} : KLst K a (ns.map V.int) → Rp K M H (.ref a) (.scr ns)
  | lst {a : Addr} {xs : List V} {ds : List D} : ¬ M a → H a = some (.lst xs) → RpAll K M H xs ds → Rp K M H (.ref a) (.lst ds)
  | tup {a : Addr} {xs : List V} {ds : List D} : ¬ M a → H a = some (.tup xs) → RpAll K M H xs ds → Rp K M H (.ref a) (.tup ds)
  | tupK {a : Addr} {xs : List V} {ds : List D} : KTup K a xs → RpAll K M H xs ds → Rp K M H (.ref a) (.tup ds)
  | obj {a C dx : Addr} {ns : List Str} {xs : List V} {ds : List D} : ¬ M a → H a = some (.ins C dx (ns.zip xs)) → ns.length = xs.length → RpAll K M H xs ds → Rp K M H (.ref a) (.obj C ns ds)
  | dct {a : Addr} {ks : List Key} {xs : List V} {ds : List D} : ¬ M a → H a = some (.dK (ks.zip xs)) → ks.length = xs.length → RpAll K M H xs ds → Rp K M H (.ref a) (.dct ks ds)
inductive RpAll (K : PySem.W.Frag) (M : Addr → Prop) (H : Hp) : List V → List D → Prop
  | nil : RpAll K M H [] []
  | cons {v : V} {vs : List V} {d : D} {ds : List D} : Rp K M H v d → RpAll K M H vs ds → RpAll K M H (v :: vs) (d :: ds)
end

section
variable {K : PySem.W.Frag} {M M' : Addr → Prop} {H H' : Hp}
/-- what is not at M stays -/
def Keep (M : Addr → Prop) (H H' : Hp) : Prop := ∀ a o, H a = some o → ¬ M a → H' a = some o
theorem Keep.refl : Keep M H H := fun _ _ e _ => e
theorem Keep.trans {H2 : Hp} (h : Keep M H H') (h' : Keep M H' H2) : Keep M H H2 := fun a o e m => h' a o (h a o e m) m
theorem Keep.mono (h : Keep M H H') (hm : ∀ a, M a → M' a) : Keep M' H H' := fun a o e m => h a o e fun z => m (hm a z)
theorem Keep.of_same (h : Same H H') : Keep M H H' := fun a o e _ => h a o e
theorem Keep.rd {a : Addr} {u : HO} (k : Keep M H H') (m : ¬ M a) (r : Rd H a u) : Rd H' a u := by
  rcases r with r | ⟨o, r⟩
  · exact .inl (k a _ r m)
  · exact .inr ⟨o, k a _ r m⟩
mutual
theorem Rp.keep (k : Keep M H H') : ∀ {v : V} {d : D}, Rp K M H v d → Rp K M H' v d
  | _, _, .non => .non
  | _, _, .bl b => .bl b
  | _, _, .int b => .int b
  | _, _, .str b => .str b
  | _, _, .raw b => .raw b
  | _, _, .scr m r => .scr m (k _ _ r m)
  | _, _, .scrK r => .scrK r
  | _, _, .lst m r a => .lst m (k _ _ r m) (RpAll.keep k a)
  | _, _, .tup m r a => .tup m (k _ _ r m) (RpAll.keep k a)
  | _, _, .tupK r a => .tupK r (RpAll.keep k a)
  | _, _, .obj m r e a => .obj m (k _ _ r m) e (RpAll.keep k a)
  | _, _, .dct m r e a => .dct m (k _ _ r m) e (RpAll.keep k a)
theorem RpAll.keep (k : Keep M H H') : ∀ {vs : List V} {ds : List D}, RpAll K M H vs ds → RpAll K M H' vs ds
  | _, _, .nil => .nil
  | _, _, .cons a b => .cons (Rp.keep k a) (RpAll.keep k b)
end
mutual
/-- other places: those of M' that hold something are of M -/
theorem Rp.anti (hm : ∀ a o, H a = some o → M' a → M a) : ∀ {v : V} {d : D}, Rp K M H v d → Rp K M' H v d
  | _, _, .non => .non
  | _, _, .bl b => .bl b
  | _, _, .int b => .int b
  | _, _, .str b => .str b
  | _, _, .raw b => .raw b
  | _, _, .scr m r => .scr (fun z => m (hm _ _ r z)) r
  | _, _, .scrK r => .scrK r
  | _, _, .lst m r a => .lst (fun z => m (hm _ _ r z)) r (RpAll.anti hm a)
  | _, _, .tup m r a => .tup (fun z => m (hm _ _ r z)) r (RpAll.anti hm a)
  | _, _, .tupK r a => .tupK r (RpAll.anti hm a)
  | _, _, .obj m r e a => .obj (fun z => m (hm _ _ r z)) r e (RpAll.anti hm a)
  | _, _, .dct m r e a => .dct (fun z => m (hm _ _ r z)) r e (RpAll.anti hm a)
theorem RpAll.anti (hm : ∀ a o, H a = some o → M' a → M a) : ∀ {vs : List V} {ds : List D}, RpAll K M H vs ds → RpAll K M' H vs ds
  | _, _, .nil => .nil
  | _, _, .cons a b => .cons (Rp.anti hm a) (RpAll.anti hm b)
end
theorem Rp.scr_seq {v : V} {ns : List Int} (r : Rp K M H v (.scr ns)) : ∃ a, v = .ref a ∧ SqL K H a (ns.map V.int) := by
  cases r with
  | scr m r => exact ⟨_, rfl, .inl (.inr ⟨_, r⟩)⟩
  | scrK r => exact ⟨_, rfl, .inr r⟩
theorem RpAll.ints : ∀ ns : List Int, RpAll K M H (ns.map V.int) (ns.map D.int)
  | [] => .nil
  | n :: ns => .cons (.int n) (RpAll.ints ns)
theorem RpAll.length : ∀ {vs : List V} {ds : List D}, RpAll K M H vs ds → vs.length = ds.length
  | _, _, .nil => rfl
  | _, _, .cons _ b => by simp [RpAll.length b]
theorem RpAll.get : ∀ {vs : List V} {ds : List D} {i : Nat} {v : V}, RpAll K M H vs ds → vs[i]? = some v → ∃ d, ds[i]? = some d ∧ Rp K M H v d
  | _, _, _, _, .nil, h => by simp at h
  | _, _, 0, _, .cons a b, h => by simp at h; subst h; exact ⟨_, rfl, a⟩
  | _, _, i + 1, _, .cons a b, h => RpAll.get (i := i) b (by simpa using h)
theorem RpAll.get' : ∀ {vs : List V} {ds : List D} {i : Nat} {d : D}, RpAll K M H vs ds → ds[i]? = some d → ∃ v, vs[i]? = some v ∧ Rp K M H v d
  | _, _, _, _, .nil, h => by simp at h
  | _, _, 0, _, .cons a b, h => by simp at h; subst h; exact ⟨_, rfl, a⟩
  | _, _, i + 1, _, .cons a b, h => RpAll.get' (i := i) b (by simpa using h)
theorem RpAll.append : ∀ {vs ws : List V} {ds es : List D}, RpAll K M H vs ds → RpAll K M H ws es → RpAll K M H (vs ++ ws) (ds ++ es)
  | _, _, _, _, .nil, h => h
  | _, _, _, _, .cons a b, h => .cons a (RpAll.append b h)
theorem RpAll.take : ∀ {vs : List V} {ds : List D} (n : Nat), RpAll K M H vs ds → RpAll K M H (vs.take n) (ds.take n)
  | _, _, 0, _ => .nil
  | _, _, _ + 1, .nil => .nil
  | _, _, n + 1, .cons a b => .cons a (RpAll.take n b)
theorem RpAll.drop : ∀ {vs : List V} {ds : List D} (n : Nat), RpAll K M H vs ds → RpAll K M H (vs.drop n) (ds.drop n)
  | _, _, 0, h => h
  | _, _, _ + 1, .nil => .nil
  | _, _, n + 1, .cons _ b => RpAll.drop n b
theorem RpAll.eraseIdx : ∀ {vs : List V} {ds : List D} (n : Nat), RpAll K M H vs ds → RpAll K M H (vs.eraseIdx n) (ds.eraseIdx n)
  | _, _, _, .nil => .nil
  | _, _, 0, .cons _ b => b
  | _, _, n + 1, .cons a b => .cons a (RpAll.eraseIdx n b)
theorem RpAll.reverse : ∀ {vs : List V} {ds : List D}, RpAll K M H vs ds → RpAll K M H vs.reverse ds.reverse
  | _, _, .nil => .nil
  | _, _, .cons a b => by rw [List.reverse_cons, List.reverse_cons]; exact RpAll.append (RpAll.reverse b) (.cons a .nil)
theorem Keep.upd_new {a : Addr} {o : HO} (h : H a = none) : Keep M H (upd H a o) := fun b u e _ => by rw [upd_ne (ne_of_none e h)]; exact e
end
end DL

namespace DL
open PySem L2

/-- a region that callees may change, and what is always true of it -/
structure Rg where
  R : Addr → Prop
  J : Hp → Prop
structure Rg.Ok (r : Rg) : Prop where
  stay : ∀ H H', r.J H → (∀ a o, H a = some o → r.R a → H' a = some o) → r.J H'
  dom : ∀ H, r.J H → ∀ a, r.R a → H a ≠ none
def Rg.pure : Rg := ⟨fun _ => False, fun _ => True⟩
theorem Rg.pure_ok : Rg.pure.Ok := ⟨fun _ _ _ _ => trivial, fun _ _ _ h => h.elim⟩
/-- where one stands: places that no data may hold, the object that is made, the region -/
structure Dc where
  M : Addr → Prop
  P : Option Addr
  rg : Rg
structure Dc.Ok (c : Dc) : Prop where
  sub : ∀ a, c.rg.R a → c.M a
  rg : c.rg.Ok
  pm : ∀ a, c.P = some a → c.M a ∧ ¬ c.rg.R a
/-- what a slot holds: data; a list of one's own; the object that is made -/
inductive Sl where
  | dat (d : D) | own (a : Addr) (ds : List D) | self (a C : Addr) (ns : List Str) (ds : List D)
def Sl.at : Sl → Option Addr
  | .dat _ => none
  | .own a _ => some a
  | .self a _ _ _ => some a
abbrev En := List (Option Sl)
def Mof (c : Dc) (env : En) (a : Addr) : Prop := c.M a ∨ ∃ (i : Nat) (s : Sl), env[i]? = some (some s) ∧ s.at = some a
abbrev Rw (c : Dc) : Addr → Prop := fun a => c.rg.R a ∨ c.P = some a
def SlOk (K : PySem.W.Frag) (c : Dc) (env : En) (H0 H : Hp) : Sl → V → Prop
  | .dat d, v => Rp K (Mof c env) H v d
  | .own a ds, v => v = .ref a ∧ H0 a = none ∧ ¬ c.M a ∧ ∃ vs, H a = some (.lst vs) ∧ RpAll K (Mof c env) H vs ds
  | .self a C ns ds, v => v = .ref a ∧ c.P = some a ∧ ∃ dx vs, H a = some (.ins C dx (ns.zip vs)) ∧ ns.length = vs.length ∧ RpAll K (Mof c env) H vs ds
/-- what is held through all: stable -/
abbrev Pin := (Addr → Prop) → Hp → Prop
def PinOk (p : Pin) : Prop := ∀ M H M' H', p M H → Keep M H H' → (∀ a o, H a = some o → M' a → M a) → p M' H'
structure Sd (K : PySem.W.Frag) (c : Dc) (pn : Pin) (H0 : Hp) (env : En) (σ : St) (H : Hp) : Prop where
  ok : c.Ok
  len : σ.length = env.length
  sl : ∀ (i : Nat) (s : Sl), env[i]? = some (some s) → ∃ v, σ[i]? = some (some v) ∧ SlOk K c env H0 H s v
  j : c.rg.J H
  kp : Keep (Rw c) H0 H
  dom : ∀ a, c.M a → H a ≠ none
  apart : ∀ (i j : Nat) (s t : Sl) (a : Addr), env[i]? = some (some s) → env[j]? = some (some t) → s.at = some a → t.at = some a → i = j
  pk : PinOk pn
  pn : pn (Mof c env) H
section
variable {K : PySem.W.Frag} {c : Dc} {pn : Pin} {H0 : Hp} {env env' : En} {σ : St} {H H' : Hp} {i : Nat} {s : Sl} {a : Addr} {d : D} {v : V}
theorem Mof.of_R (ok : c.Ok) {a : Addr} (h : c.rg.R a) : Mof c env a := .inl (ok.sub a h)
theorem Sd.domM (S : Sd K c pn H0 env σ H) : ∀ a, Mof c env a → H a ≠ none := fun a h e => by
  rcases h with h | ⟨i, s, h1, h2⟩
  · exact S.dom a h e
  · obtain ⟨v, _, q⟩ := S.sl i s h1
    cases s with
    | dat d => cases h2
    | own b ds =>
      cases h2
      obtain ⟨_, _, _, vs, hb, _⟩ := q
      rw [hb] at e; cases e
    | self b C ns ds =>
      cases h2
      obtain ⟨_, _, dx, vs, hb, _⟩ := q
      rw [hb] at e; cases e
/-- the heap grows: a callee ran, objects were made -/
theorem Sd.grow (S : Sd K c pn H0 env σ H) (k : Keep c.rg.R H H') (j : c.rg.J H') : Sd K c pn H0 env σ H' := by
  have kM : Keep (Mof c env) H H' := k.mono fun a h => Mof.of_R S.ok h
  refine ⟨S.ok, S.len, fun i s e => ?_, j, S.kp.trans (k.mono fun a h => .inl h), fun a h e => ?_, S.apart, S.pk, S.pk _ _ _ _ S.pn kM fun a o _ h => h⟩
  · obtain ⟨v, h1, h2⟩ := S.sl i s e
    refine ⟨v, h1, ?_⟩
    cases s with
    | dat d => exact Rp.keep kM h2
    | own b ds =>
      obtain ⟨q1, q2, q3, vs, q4, q5⟩ := h2
      exact ⟨q1, q2, q3, vs, k b _ q4 fun z => q3 (S.ok.sub b z), RpAll.keep kM q5⟩
    | self b C ns ds =>
      obtain ⟨q1, q2, dx, vs, q4, q5, q6⟩ := h2
      exact ⟨q1, q2, dx, vs, k b _ q4 (S.ok.pm b q2).2, q5, RpAll.keep kM q6⟩
  · by_cases hr : c.rg.R a
    · exact S.ok.rg.dom H' j a hr e
    · cases q : H a with
      | none => exact S.dom a h q
      | some o => rw [k a o q hr] at e; cases e
theorem Sd.same (S : Sd K c pn H0 env σ H) (k : Same H H') : Sd K c pn H0 env σ H' :=
  S.grow (Keep.of_same k) (S.ok.rg.stay H H' S.j fun a o e _ => k a o e)
/-- all slots but i as they were: data anew at i -/
theorem Sd.setD (S : Sd K c pn H0 env σ H) (i : Nat) (hi : i < env.length) (r : Rp K (Mof c env) H v d) : Sd K c pn H0 (env.set i (some (.dat d))) (σ.set i (some v)) H := by
  have hM : ∀ a, Mof c (env.set i (some (.dat d))) a → Mof c env a := fun a h => by
    rcases h with h | ⟨j, s, h1, h2⟩
    · exact .inl h
    · by_cases e : i = j
      · subst e
        rw [List.getElem?_set_self hi] at h1; cases h1; cases h2
      · rw [List.getElem?_set_ne e] at h1
        exact .inr ⟨j, s, h1, h2⟩
  have hM' : ∀ a o, H a = some o → Mof c (env.set i (some (.dat d))) a → Mof c env a := fun a o _ h => hM a h
  refine ⟨S.ok, by simp [S.len], fun j s e => ?_, S.j, S.kp, S.dom, fun j k s t a e1 e2 e3 e4 => ?_, S.pk, S.pk _ _ _ _ S.pn Keep.refl hM'⟩
  · by_cases e' : i = j
    · subst e'
      rw [List.getElem?_set_self hi] at e; cases e
      exact ⟨v, by rw [List.getElem?_set_self (by rw [S.len]; exact hi)], Rp.anti hM' r⟩
    · rw [List.getElem?_set_ne e'] at e
      obtain ⟨w, h1, h2⟩ := S.sl j s e
      refine ⟨w, by rw [List.getElem?_set_ne e']; exact h1, ?_⟩
      cases s with
      | dat d => exact Rp.anti hM' h2
      | own b ds => obtain ⟨q1, q2, q3, vs, q4, q5⟩ := h2; exact ⟨q1, q2, q3, vs, q4, RpAll.anti hM' q5⟩
      | self b C ns ds => obtain ⟨q1, q2, dx, vs, q4, q5, q6⟩ := h2; exact ⟨q1, q2, dx, vs, q4, q5, RpAll.anti hM' q6⟩
  · by_cases h1 : i = j
    · subst h1
      rw [List.getElem?_set_self hi] at e1; cases e1; cases e3
    · by_cases h2 : i = k
      · subst h2
        rw [List.getElem?_set_self hi] at e2; cases e2; cases e4
      · rw [List.getElem?_set_ne h1] at e1
        rw [List.getElem?_set_ne h2] at e2
        exact S.apart j k s t a e1 e2 e3 e4
/-- a slot's value is forgotten -/
theorem Sd.setN (S : Sd K c pn H0 env σ H) (i : Nat) : Sd K c pn H0 (env.set i none) (σ.set i none) H := by
  have hM : ∀ a, Mof c (env.set i none) a → Mof c env a := fun a h => by
    rcases h with h | ⟨j, s, h1, h2⟩
    · exact .inl h
    · by_cases e : i = j
      · subst e
        by_cases hi : i < env.length
        · rw [List.getElem?_set_self hi] at h1; cases h1
        · rw [List.getElem?_eq_none (by simpa using hi)] at h1; cases h1
      · rw [List.getElem?_set_ne e] at h1
        exact .inr ⟨j, s, h1, h2⟩
  have hM' : ∀ a o, H a = some o → Mof c (env.set i none) a → Mof c env a := fun a o _ h => hM a h
  have old : ∀ (j : Nat) (s : Sl), (env.set i none)[j]? = some (some s) → i ≠ j ∧ env[j]? = some (some s) := fun j s e => by
    by_cases e' : i = j
    · subst e'
      by_cases hi : i < env.length
      · rw [List.getElem?_set_self hi] at e; cases e
      · rw [List.getElem?_eq_none (by simpa using hi)] at e; cases e
    · rw [List.getElem?_set_ne e'] at e
      exact ⟨e', e⟩
  refine ⟨S.ok, by simp [S.len], fun j s e => ?_, S.j, S.kp, S.dom, fun j k s t a e1 e2 e3 e4 => S.apart j k s t a (old j s e1).2 (old k t e2).2 e3 e4, S.pk, S.pk _ _ _ _ S.pn Keep.refl hM'⟩
  obtain ⟨e', e⟩ := old j s e
  obtain ⟨w, h1, h2⟩ := S.sl j s e
  refine ⟨w, by rw [List.getElem?_set_ne e']; exact h1, ?_⟩
  cases s with
  | dat d => exact Rp.anti hM' h2
  | own b ds => obtain ⟨q1, q2, q3, vs, q4, q5⟩ := h2; exact ⟨q1, q2, q3, vs, q4, RpAll.anti hM' q5⟩
  | self b C ns ds => obtain ⟨q1, q2, dx, vs, q4, q5, q6⟩ := h2; exact ⟨q1, q2, dx, vs, q4, q5, RpAll.anti hM' q6⟩
def wipeE (env : En) : List Nat → En
  | [] => env
  | v :: vs => (wipeE env vs).set v none
theorem Sd.wipe (S : Sd K c pn H0 env σ H) : ∀ vs : List Nat, Sd K c pn H0 (wipeE env vs) (L2.wipe σ vs) H
  | [] => S
  | v :: vs => (S.wipe vs).setN v
/-- a new list of one's own at slot i; it was laid at a while all else grew -/
theorem Sd.setO {ds : List D} {vs : List V} (S : Sd K c pn H0 env σ H) (i : Nat) (hi : i < env.length) (ha : H a = none) (k : Keep c.rg.R H H') (j : c.rg.J H') (hl : H' a = some (.lst vs)) (r : RpAll K (fun b => Mof c env b ∨ b = a) H' vs ds) :
    Sd K c pn H0 (env.set i (some (.own a ds))) (σ.set i (some (.ref a))) H' := by
  have hM : ∀ b, Mof c (env.set i (some (.own a ds))) b → Mof c env b ∨ b = a := fun b h => by
    rcases h with h | ⟨j, s, h1, h2⟩
    · exact .inl (.inl h)
    · by_cases e : i = j
      · subst e
        rw [List.getElem?_set_self hi] at h1; cases h1; cases h2; exact .inr rfl
      · rw [List.getElem?_set_ne e] at h1
        exact .inl (.inr ⟨j, s, h1, h2⟩)
  have hMH : ∀ b o, H b = some o → Mof c (env.set i (some (.own a ds))) b → Mof c env b := fun b o e h => by
    rcases hM b h with z | rfl
    · exact z
    · rw [ha] at e; cases e
  have hM2 : ∀ b o, H' b = some o → Mof c (env.set i (some (.own a ds))) b → Mof c env b ∨ b = a := fun b o _ h => hM b h
  have kM : Keep (Mof c (env.set i (some (.own a ds)))) H H' := k.mono fun b h => .inl (S.ok.sub b h)
  have nM : ¬ Mof c env a := fun z => S.domM a z ha
  have S' := S.grow k j
  have H0a : H0 a = none := by
    cases q : H0 a with
    | none => rfl
    | some o =>
      by_cases h : Rw c a
      · rcases h with h | h
        · exact absurd ha (S.ok.rg.dom H S.j a h)
        · exact absurd ha (S.dom a (S.ok.pm a h).1)
      · rw [S.kp a o q h] at ha; cases ha
  refine ⟨S.ok, by simp [S.len], fun j' s e => ?_, j, S'.kp, S'.dom, fun j k s t b e1 e2 e3 e4 => ?_, S.pk, S.pk _ _ _ _ (S.pk _ _ _ _ S.pn Keep.refl hMH) kM fun _ _ _ z => z⟩
  · by_cases e' : i = j'
    · subst e'
      rw [List.getElem?_set_self hi] at e; cases e
      refine ⟨.ref a, by rw [List.getElem?_set_self (by rw [S.len]; exact hi)], rfl, H0a, fun z => nM (.inl z), vs, hl, RpAll.anti hM2 r⟩
    · rw [List.getElem?_set_ne e'] at e
      obtain ⟨w, h1, h2⟩ := S.sl j' s e
      refine ⟨w, by rw [List.getElem?_set_ne e']; exact h1, ?_⟩
      cases s with
      | dat d => exact Rp.keep kM (Rp.anti hMH h2)
      | own b es =>
        obtain ⟨q1, q2, q3, vs', q4, q5⟩ := h2
        exact ⟨q1, q2, q3, vs', k b _ q4 (fun z => q3 (S.ok.sub b z)), RpAll.keep kM (RpAll.anti hMH q5)⟩
      | self b C ns es =>
        obtain ⟨q1, q2, dx, vs', q4, q5, q6⟩ := h2
        exact ⟨q1, q2, dx, vs', k b _ q4 (S.ok.pm b q2).2, q5, RpAll.keep kM (RpAll.anti hMH q6)⟩
  · have fresh : ∀ (l : Nat) (s : Sl), env[l]? = some (some s) → s.at ≠ some a := fun l s e z => nM (.inr ⟨l, s, e, z⟩)
    by_cases h1 : i = j
    · by_cases h2 : i = k
      · exact h1.symm.trans h2
      · subst h1
        rw [List.getElem?_set_self hi] at e1; cases e1; cases e3
        rw [List.getElem?_set_ne h2] at e2
        exact absurd e4 (fresh k t e2)
    · by_cases h2 : i = k
      · subst h2
        rw [List.getElem?_set_self hi] at e2; cases e2; cases e4
        rw [List.getElem?_set_ne h1] at e1
        exact absurd e3 (fresh j s e1)
      · rw [List.getElem?_set_ne h1] at e1
        rw [List.getElem?_set_ne h2] at e2
        exact S.apart j k s t b e1 e2 e3 e4
/-- a list of one's own is changed -/
theorem Sd.updO {ds es : List D} {ws : List V} (S : Sd K c pn H0 env σ H) (hi : env[i]? = some (some (.own a ds))) (r : RpAll K (Mof c env) H ws es) :
    Sd K c pn H0 (env.set i (some (.own a es))) σ (upd H a (.lst ws)) := by
  have hi' : i < env.length := (List.getElem?_eq_some_iff.mp hi).1
  obtain ⟨v, hv, rfl, h0, hm, vs, hl, rv⟩ := S.sl i _ hi
  have hat : ∀ (j : Nat) (s : Sl), (env.set i (some (.own a es)))[j]? = some (some s) → ∃ t, env[j]? = some (some t) ∧ t.at = s.at := fun j s e => by
    by_cases e' : i = j
    · subst e'
      rw [List.getElem?_set_self hi'] at e; cases e
      exact ⟨_, hi, rfl⟩
    · rw [List.getElem?_set_ne e'] at e
      exact ⟨s, e, rfl⟩
  have hM : ∀ b, Mof c (env.set i (some (.own a es))) b → Mof c env b := fun b h => by
    rcases h with h | ⟨j, s, h1, h2⟩
    · exact .inl h
    · obtain ⟨t, e1, e2⟩ := hat j s h1
      exact .inr ⟨j, t, e1, e2.trans h2⟩
  have Ma : Mof c env a := .inr ⟨i, _, hi, rfl⟩
  have kM : Keep (Mof c env) H (upd H a (.lst ws)) := fun b o e m => by
    rw [upd_ne (fun z => m (by rw [z]; exact Ma))]; exact e
  have hMH : ∀ (G : Hp) b o, G b = some o → Mof c (env.set i (some (.own a es))) b → Mof c env b := fun _ b o _ h => hM b h
  have ne : ∀ (j : Nat) (s : Sl) (b : Addr), i ≠ j → env[j]? = some (some s) → s.at = some b → b ≠ a := fun j s b hij e1 e2 z => by
    subst z
    exact hij (S.apart i j _ _ b hi e1 rfl e2)
  refine ⟨S.ok, by simp [S.len], fun j s e => ?_, ?_, fun b o e m => ?_, fun b h e => ?_, fun j k s t b e1 e2 e3 e4 => ?_, S.pk, S.pk _ _ _ _ S.pn kM (hMH H)⟩
  · by_cases e' : i = j
    · subst e'
      rw [List.getElem?_set_self hi'] at e; cases e
      exact ⟨_, hv, rfl, h0, hm, ws, upd_same, RpAll.anti (hMH _) (RpAll.keep kM r)⟩
    · rw [List.getElem?_set_ne e'] at e
      obtain ⟨w, h1, h2⟩ := S.sl j s e
      refine ⟨w, h1, ?_⟩
      cases s with
      | dat d => exact Rp.anti (hMH _) (Rp.keep kM h2)
      | own b es =>
        obtain ⟨q1, q2, q3, vs', q4, q5⟩ := h2
        exact ⟨q1, q2, q3, vs', by rw [upd_ne (ne j _ b e' e rfl)]; exact q4, RpAll.anti (hMH _) (RpAll.keep kM q5)⟩
      | self b C ns es =>
        obtain ⟨q1, q2, dx, vs', q4, q5, q6⟩ := h2
        exact ⟨q1, q2, dx, vs', by rw [upd_ne (ne j _ b e' e rfl)]; exact q4, q5, RpAll.anti (hMH _) (RpAll.keep kM q6)⟩
  · exact S.ok.rg.stay H _ S.j fun b o e hr => by
      rw [upd_ne (fun z => hm (by rw [← z]; exact S.ok.sub b hr))]; exact e
  · have hb : b ≠ a := fun z => by rw [z, h0] at e; cases e
    rw [upd_ne hb]; exact S.kp b o e m
  · by_cases hb : b = a
    · rw [hb, upd_same] at e; cases e
    · rw [upd_ne hb] at e; exact S.dom b h e
  · obtain ⟨s', f1, g1⟩ := hat j s e1
    obtain ⟨t', f2, g2⟩ := hat k t e2
    exact S.apart j k s' t' b f1 f2 (g1.trans e3) (g2.trans e4)
end
end DL

namespace DL
open PySem L2

/-- what an expression may say of data: a reading told over slots of data -/
abbrev TD := En → (D → Prop) → Prop
abbrev TDs := En → (List D → Prop) → Prop
abbrev TB := En → (Bool → Prop) → Prop

/-- v holds d, or is a list of one's own that holds it -/
def RpO (K : PySem.W.Frag) (M0 M : Addr → Prop) (H : Hp) (v : V) (d : D) : Prop :=
  Rp K M H v d ∨ ∃ a vs ds, v = .ref a ∧ d = .lst ds ∧ ¬ M0 a ∧ H a = some (.lst vs) ∧ RpAll K M H vs ds
inductive RpOs (K : PySem.W.Frag) (M0 M : Addr → Prop) (H : Hp) : List V → List D → Prop
  | nil : RpOs K M0 M H [] []
  | cons {v : V} {vs : List V} {d : D} {ds : List D} : RpO K M0 M H v d → RpOs K M0 M H vs ds → RpOs K M0 M H (v :: vs) (d :: ds)

def Rf (K : PySem.W.Frag) (rg : Rg) (te : TE) (t : TD) : Prop :=
  ∀ (c : Dc), c.rg = rg → ∀ (pn : Pin) (H0 : Hp) (env : En) (σ : St) (H : Hp) (Qd : D → Prop) (Q : VK), Sd K c pn H0 env σ H → t env Qd →
    (∀ d v H', Qd d → Keep c.rg.R H H' → c.rg.J H' → Rp K (Mof c env) H' v d → Q v H') → te σ H Q
def RfO (K : PySem.W.Frag) (rg : Rg) (te : TE) (t : TD) : Prop :=
  ∀ (c : Dc), c.rg = rg → ∀ (pn : Pin) (H0 : Hp) (env : En) (σ : St) (H : Hp) (Qd : D → Prop) (Q : VK), Sd K c pn H0 env σ H → t env Qd →
    (∀ d v H', Qd d → Keep c.rg.R H H' → c.rg.J H' → RpO K c.M (Mof c env) H' v d → Q v H') → te σ H Q
def RfF (K : PySem.W.Frag) (rg : Rg) (te : TE) (t : TDs) : Prop :=
  ∀ (c : Dc), c.rg = rg → ∀ (pn : Pin) (H0 : Hp) (env : En) (σ : St) (H : Hp) (Qd : List D → Prop) (Q : VK), Sd K c pn H0 env σ H → t env Qd →
    (∀ ds a vs H', Qd ds → H a = none → Keep c.rg.R H H' → c.rg.J H' → H' a = some (.lst vs) → RpAll K (fun b => Mof c env b ∨ b = a) H' vs ds → Q (.ref a) H') → te σ H Q
def RfA (K : PySem.W.Frag) (rg : Rg) (ta : TA) (t : TDs) : Prop :=
  ∀ (c : Dc), c.rg = rg → ∀ (pn : Pin) (H0 : Hp) (env : En) (σ : St) (H : Hp) (Qd : List D → Prop) (Q : List V → Hp → Prop), Sd K c pn H0 env σ H → t env Qd →
    (∀ ds vs H', Qd ds → Keep c.rg.R H H' → c.rg.J H' → RpAll K (Mof c env) H' vs ds → Q vs H') → ta σ H Q
def RfAO (K : PySem.W.Frag) (rg : Rg) (ta : TA) (t : TDs) : Prop :=
  ∀ (c : Dc), c.rg = rg → ∀ (pn : Pin) (H0 : Hp) (env : En) (σ : St) (H : Hp) (Qd : List D → Prop) (Q : List V → Hp → Prop), Sd K c pn H0 env σ H → t env Qd →
    (∀ ds vs H', Qd ds → Keep c.rg.R H H' → c.rg.J H' → RpOs K c.M (Mof c env) H' vs ds → Q vs H') → ta σ H Q
def RfT (K : PySem.W.Frag) (rg : Rg) (tt : TT) (t : TB) : Prop :=
  ∀ (c : Dc), c.rg = rg → ∀ (pn : Pin) (H0 : Hp) (env : En) (σ : St) (H : Hp) (Qd : Bool → Prop) (Q : Bool → Hp → Prop), Sd K c pn H0 env σ H → t env Qd →
    (∀ b H', Qd b → Keep c.rg.R H H' → c.rg.J H' → Q b H') → tt σ H Q

structure DP (X : Cx) (K : PySem.W.Frag) (rg : Rg) (e : Expr) (te : TE) (t : TD) : Prop where
  kx : X.K = K
  pe : PE X e te
  rf : Rf K rg te t
structure DO (X : Cx) (K : PySem.W.Frag) (rg : Rg) (e : Expr) (te : TE) (t : TD) : Prop where
  kx : X.K = K
  pe : PE X e te
  rf : RfO K rg te t
structure DF (X : Cx) (K : PySem.W.Frag) (rg : Rg) (e : Expr) (te : TE) (t : TDs) : Prop where
  kx : X.K = K
  pe : PE X e te
  rf : RfF K rg te t
structure DA (X : Cx) (K : PySem.W.Frag) (rg : Rg) (es : List Expr) (ta : TA) (t : TDs) : Prop where
  kx : X.K = K
  pa : PA X es ta
  rf : RfA K rg ta t
structure DAO (X : Cx) (K : PySem.W.Frag) (rg : Rg) (es : List Expr) (ta : TA) (t : TDs) : Prop where
  kx : X.K = K
  pa : PA X es ta
  rf : RfAO K rg ta t
structure DT (X : Cx) (K : PySem.W.Frag) (rg : Rg) (e : Expr) (tt : TT) (t : TB) : Prop where
  kx : X.K = K
  pt : PT X e tt
  rf : RfT K rg tt t
structure DW (X : Cx) (K : PySem.W.Frag) (rg : Rg) (e : Expr) (tt : TT) (t : TB) : Prop where
  kx : X.K = K
  pw : PW X e tt
  rf : RfT K rg tt t

section
variable {K : PySem.W.Frag} {M0 M : Addr → Prop} {H H' : Hp}
theorem RpO.keep {R : Addr → Prop} (k : Keep R H H') (h0 : ∀ a, R a → M0 a) (h1 : ∀ a, R a → M a) {v : V} {d : D} : RpO K M0 M H v d → RpO K M0 M H' v d
  | .inl r => .inl (Rp.keep (k.mono h1) r)
  | .inr ⟨a, vs, ds, e1, e2, m, e3, r⟩ => .inr ⟨a, vs, ds, e1, e2, m, k a _ e3 fun z => m (h0 a z), RpAll.keep (k.mono h1) r⟩
theorem RpOs.keep {R : Addr → Prop} (k : Keep R H H') (h0 : ∀ a, R a → M0 a) (h1 : ∀ a, R a → M a) {vs : List V} {ds : List D} (r : RpOs K M0 M H vs ds) : RpOs K M0 M H' vs ds := by
  induction r with
  | nil => exact .nil
  | cons a _ ih => exact .cons (RpO.keep k h0 h1 a) ih
theorem RpO.lst {v : V} {ds : List D} : RpO K M0 M H v (.lst ds) → ∃ a vs, v = .ref a ∧ H a = some (.lst vs) ∧ RpAll K M H vs ds
  | .inl r => by cases r with | lst m e a => exact ⟨_, _, rfl, e, a⟩
  | .inr ⟨a, vs, ds', e1, e2, m, e3, r⟩ => by cases e2; exact ⟨a, vs, e1, e3, r⟩
theorem RpO.tup {v : V} {ds : List D} : RpO K M0 M H v (.tup ds) → ∃ a vs, v = .ref a ∧ SqT K H a vs ∧ RpAll K M H vs ds
  | .inl r => by
    cases r with
    | tup m e a => exact ⟨_, _, rfl, SqT.of e, a⟩
    | tupK e a => exact ⟨_, _, rfl, .inr e, a⟩
  | .inr ⟨a, vs, ds', e1, e2, m, e3, r⟩ => by cases e2
theorem RpO.int {v : V} {i : Int} : RpO K M0 M H v (.int i) → v = .int i
  | .inl r => by cases r; rfl
  | .inr ⟨a, vs, ds', e1, e2, m, e3, r⟩ => by cases e2
theorem RpO.str {v : V} {i : Str} : RpO K M0 M H v (.str i) → v = .str i
  | .inl r => by cases r; rfl
  | .inr ⟨a, vs, ds', e1, e2, m, e3, r⟩ => by cases e2
theorem RpO.bl {v : V} {i : Bool} : RpO K M0 M H v (.bl i) → v = .bl i
  | .inl r => by cases r; rfl
  | .inr ⟨a, vs, ds', e1, e2, m, e3, r⟩ => by cases e2
theorem RpO.non {v : V} : RpO K M0 M H v .non → v = .non
  | .inl r => by cases r; rfl
  | .inr ⟨a, vs, ds', e1, e2, m, e3, r⟩ => by cases e2
end

section
variable {X : Cx} {K : PySem.W.Frag} {rg : Rg} {e a b : Expr} {es : List Expr} {te ta tb : TE} {ts tr : TA} {t t1 t2 : TD} {u u1 u2 : TDs} {tt tt1 tt2 : TT} {b1 b2 : TB} {pos : Pos}
/-! ### from one judgement to another -/
theorem DP.o (h : DP X K rg e te t) : DO X K rg e te t := by
  cases h.kx
  exact ⟨rfl, h.pe, fun c hc pn H0 env σ H Qd Q S ht k => h.rf c hc pn H0 env σ H Qd Q S ht fun d v H' q k1 j r => k d v H' q k1 j (.inl r)⟩
/-- a new list, as data -/
def sF (u : TDs) : TD := fun env Q => u env fun ds => Q (.lst ds)
theorem DF.p (h : DF X K rg e te u) : DP X K rg e te (sF u) := by
  cases h.kx
  exact ⟨rfl, h.pe, fun c hc pn H0 env σ H Qd Q S ht k => h.rf c hc pn H0 env σ H _ Q S ht fun ds a vs H' q ha k1 j e r =>
  k (.lst ds) (.ref a) H' q k1 j (.lst (fun z => S.domM a z ha) e (RpAll.anti (fun _ _ _ z => .inl z) r))⟩
theorem DF.o (h : DF X K rg e te u) : DO X K rg e te (sF u) := h.p.o

end
end DL

namespace DL
open PySem L2
section
variable {X : Cx} {K : PySem.W.Frag} {rg : Rg} {e a b : Expr} {es : List Expr} {te ta tb : TE} {ts tr : TA} {t t1 t2 : TD} {u u1 u2 : TDs} {tt tt1 tt2 : TT} {b1 b2 : TB} {pos : Pos}
/-! ### names, constants -/
def sVar (i : Nat) : TD := fun env Q => match env[i]? with | some (some (.dat d)) => Q d | _ => False
def sVarO (i : Nat) : TD := fun env Q => match env[i]? with | some (some (.dat d)) => Q d | some (some (.own _ ds)) => Q (.lst ds) | _ => False
def sC (d : D) : TD := fun _ Q => Q d
theorem d_var {i : Nat} (h : PE X e (tVar i)) (hK : X.K = K := by rfl) : DP X K rg e (tVar i) (sVar i) := by
  cases hK
  exact ⟨rfl, h, fun c hc pn H0 env σ H Qd Q S ht k => by
  unfold sVar at ht
  split at ht
  · rename_i d he
    obtain ⟨v, h1, h2⟩ := S.sl i _ he
    exact ⟨v, h1, k d v H ht Keep.refl S.j h2⟩
  · exact ht.elim⟩
theorem do_var {i : Nat} (h : PE X e (tVar i)) (hK : X.K = K := by rfl) : DO X K rg e (tVar i) (sVarO i) := by
  cases hK
  exact ⟨rfl, h, fun c hc pn H0 env σ H Qd Q S ht k => by
  unfold sVarO at ht
  split at ht
  · rename_i d he
    obtain ⟨v, h1, h2⟩ := S.sl i _ he
    exact ⟨v, h1, k d v H ht Keep.refl S.j (.inl h2)⟩
  · rename_i p ds he
    obtain ⟨v, h1, rfl, _, h3, vs, h4, h5⟩ := S.sl i _ he
    exact ⟨_, h1, k _ _ H ht Keep.refl S.j (.inr ⟨p, vs, ds, rfl, rfl, h3, h4, h5⟩)⟩
  · exact ht.elim⟩
theorem d_const {v : V} {d : D} (h : PE X e (tC v)) (r : ∀ M H, Rp K M H v d) (hK : X.K = K := by rfl) : DP X K rg e (tC v) (sC d) := by
  cases hK
  exact ⟨rfl, h, fun c hc pn H0 env σ H Qd Q S ht k => k d v H ht Keep.refl S.j (r _ _)⟩
theorem d_int {i j} (hK : X.K = K := by rfl) : DP X K rg (.Constant (.int i) j pos) (tC (.int i)) (sC (.int i)) := d_const pe_int (fun _ _ => .int _) hK
theorem d_bl {i j} (hK : X.K = K := by rfl) : DP X K rg (.Constant (.bool i) j pos) (tC (.bl i)) (sC (.bl i)) := d_const pe_bl (fun _ _ => .bl _) hK
theorem d_str {i j} (hK : X.K = K := by rfl) : DP X K rg (.Constant (.str i) j pos) (tC (.str i)) (sC (.str i)) := d_const pe_str (fun _ _ => .str _) hK
theorem d_non {j} (hK : X.K = K := by rfl) : DP X K rg (.Constant .none j pos) (tC .non) (sC .non) := d_const pe_non (fun _ _ => .non) hK
/-! ### arguments -/
def sNil : TDs := fun _ Q => Q []
def sCons (t : TD) (u : TDs) : TDs := fun env Q => t env fun d => u env fun ds => Q (d :: ds)
theorem da_nil (hK : X.K = K := by rfl) : DA X K rg [] tNil sNil := by
  cases hK
  exact ⟨rfl, pa_nil, fun c hc pn H0 env σ H Qd Q S ht k => k [] [] H ht Keep.refl S.j .nil⟩
theorem dao_nil (hK : X.K = K := by rfl) : DAO X K rg [] tNil sNil := by
  cases hK
  exact ⟨rfl, pa_nil, fun c hc pn H0 env σ H Qd Q S ht k => k [] [] H ht Keep.refl S.j .nil⟩
theorem da_cons (h1 : DP X K rg e te t) (h2 : DA X K rg es ts u) (hs : starEach (e :: es) X.env = (false, eval e X.env) :: starEach es X.env := by rfl) : DA X K rg (e :: es) (tCons te ts) (sCons t u) := by
  cases h1.kx
  exact ⟨rfl, pa_cons h1.pe h2.pa hs, fun c hc pn H0 env σ H Qd Q S ht k => by
    refine h1.rf c hc pn H0 env σ H _ _ S ht fun d v H1 q1 k1 j1 r1 => ?_
    subst hc
    refine h2.rf c rfl pn H0 env σ H1 _ _ (S.grow k1 j1) q1 fun ds vs H2 q2 k2 j2 r2 => ?_
    exact k _ _ H2 q2 (k1.trans k2) j2 (.cons (Rp.keep (k2.mono fun a h => Mof.of_R S.ok h) r1) r2)⟩
theorem dao_cons (h1 : DO X K rg e te t) (h2 : DAO X K rg es ts u) (hs : starEach (e :: es) X.env = (false, eval e X.env) :: starEach es X.env := by rfl) : DAO X K rg (e :: es) (tCons te ts) (sCons t u) := by
  cases h1.kx
  exact ⟨rfl, pa_cons h1.pe h2.pa hs, fun c hc pn H0 env σ H Qd Q S ht k => by
    refine h1.rf c hc pn H0 env σ H _ _ S ht fun d v H1 q1 k1 j1 r1 => ?_
    subst hc
    refine h2.rf c rfl pn H0 env σ H1 _ _ (S.grow k1 j1) q1 fun ds vs H2 q2 k2 j2 r2 => ?_
    exact k _ _ H2 q2 (k1.trans k2) j2 (.cons (RpO.keep k2 (S.ok.sub) (fun a h => Mof.of_R S.ok h) r1) r2)⟩
/-- *e among the items -/
def sStar (t : TD) (u : TDs) : TDs := fun env Q => t env fun d => match d with | .lst xs => u env fun ds => Q (xs ++ ds) | .tup xs => u env fun ds => Q (xs ++ ds) | _ => False
theorem RpAll.keep' {K : PySem.W.Frag} {c : Dc} (ok : c.Ok) {env : En} {H H' : Hp} (k : Keep c.rg.R H H') {vs : List V} {ds : List D} (r : RpAll K (Mof c env) H vs ds) : RpAll K (Mof c env) H' vs ds := RpAll.keep (k.mono fun a h => Mof.of_R ok h) r
theorem da_star {p : Pos} (h1 : DO X K rg e te t) (h2 : DA X K rg es ts u) (hs : starEach (.Starred e p :: es) X.env = (true, eval e X.env) :: starEach es X.env := by rfl) : DA X K rg (.Starred e p :: es) (StX.tStar K te ts) (sStar t u) := by
  cases h1.kx
  exact ⟨rfl, StX.pa_star h1.pe h2.pa hs, fun c hc pn H0 env σ H Qd Q S ht k => by
    refine h1.rf c hc pn H0 env σ H _ _ S ht fun d v H1 q1 k1 j1 r1 => ?_
    subst hc
    cases d with
    | lst xs =>
      obtain ⟨a, vs, rfl, hl, rr⟩ := r1.lst
      refine ⟨a, vs, rfl, .inr (SqL.of hl), h2.rf c rfl pn H0 env σ H1 _ _ (S.grow k1 j1) q1 fun ds ws H2 q2 k2 j2 r2 => ?_⟩
      exact k _ _ H2 q2 (k1.trans k2) j2 (RpAll.append (RpAll.keep' S.ok k2 rr) r2)
    | tup xs =>
      obtain ⟨a, vs, rfl, hl, rr⟩ := r1.tup
      refine ⟨a, vs, rfl, .inl hl, h2.rf c rfl pn H0 env σ H1 _ _ (S.grow k1 j1) q1 fun ds ws H2 q2 k2 j2 r2 => ?_⟩
      exact k _ _ H2 q2 (k1.trans k2) j2 (RpAll.append (RpAll.keep' S.ok k2 rr) r2)
    | _ => exact q1.elim⟩
/-! ### displays -/
theorem fresh_keep {R : Addr → Prop} {H H1 : Hp} (k : Keep R H H1) {p : Addr} {o : HO} (hp : H1 p = none) : Keep R H (upd H1 p o) := k.trans (Keep.upd_new hp)
theorem fresh_j {c : Dc} (ok : c.Ok) {H1 : Hp} (j : c.rg.J H1) {p : Addr} {o : HO} (hp : H1 p = none) : c.rg.J (upd H1 p o) :=
  ok.rg.stay H1 _ j fun a o e _ => by rw [upd_ne (ne_of_none e hp)]; exact e
/-- what was not there behind is not there ahead -/
theorem none_back {K : PySem.W.Frag} {c : Dc} {pn : Pin} {H0 : Hp} {env : En} {σ : St} {H H1 : Hp} (S : Sd K c pn H0 env σ H) (k : Keep c.rg.R H H1) (j : c.rg.J H1) {p : Addr} (hp : H1 p = none) : H p = none := by
  cases q : H p with
  | none => rfl
  | some o =>
    by_cases hr : c.rg.R p
    · exact absurd hp (S.ok.rg.dom H1 j p hr)
    · rw [k p o q hr] at hp; cases hp
def sTup (u : TDs) : TD := fun env Q => u env fun ds => ds.length ≤ sizeLine ∧ Q (.tup ds)
def sLst (u : TDs) : TDs := fun env Q => u env fun ds => ds.length ≤ sizeLine ∧ Q ds
theorem d_tup {x1} (h : DA X K rg es ts u) : DP X K rg (.Tuple es x1 pos) (tTup ts) (sTup u) := by
  cases h.kx
  exact ⟨rfl, pe_tup h.pa, fun c hc pn H0 env σ H Qd Q S ht k => by
  refine h.rf c hc pn H0 env σ H _ _ S ht fun ds vs H1 q1 k1 j1 r1 => ?_
  subst hc
  refine ⟨by rw [RpAll.length r1]; exact q1.1, fun p hp => ?_⟩
  have S1 := S.grow k1 j1
  exact k _ _ _ q1.2 (fresh_keep k1 hp) (fresh_j S.ok j1 hp) (.tup (fun z => S1.domM p z hp) upd_same (RpAll.keep (Keep.upd_new hp) r1))⟩
theorem df_lst (h : DA X K rg es ts u) : DF X K rg (.List es pos) (tLst ts) (sLst u) := by
  cases h.kx
  exact ⟨rfl, pe_lst h.pa, fun c hc pn H0 env σ H Qd Q S ht k => by
  refine h.rf c hc pn H0 env σ H _ _ S ht fun ds vs H1 q1 k1 j1 r1 => ?_
  subst hc
  refine ⟨by rw [RpAll.length r1]; exact q1.1, fun p hp => ?_⟩
  refine k ds p vs _ q1.2 (none_back S k1 j1 hp) (fresh_keep k1 hp) (fresh_j S.ok j1 hp) upd_same (RpAll.keep (Keep.upd_new hp) (RpAll.anti (fun b o e z => ?_) r1))
  rcases z with z | rfl
  · exact z
  · rw [hp] at e; cases e⟩
/-! ### operators by values -/
abbrev F2 := D → D → (D → Prop) → Prop
/-- the rule r does f to data -/
def OpD (K : PySem.W.Frag) (r : R2) (f : F2) : Prop := ∀ (M0 M : Addr → Prop) (H : Hp) (v w : V) (d e : D) (Qd : D → Prop) (Q : VK), (∀ a, M a → H a ≠ none) → RpO K M0 M H v d → RpO K M0 M H w e → f d e Qd →
  (∀ d' v' H', Qd d' → Same H H' → Rp K M H' v' d' → Q v' H') → r v w H Q
def sOp (f : F2) (t1 t2 : TD) : TD := fun env Q => t1 env fun d => t2 env fun e => f d e Q
theorem rf_op {K : PySem.W.Frag} {r : R2} {f : F2} (hd : OpD K r f) (h1 : RfO K rg ta t1) (h2 : RfO K rg tb t2) : Rf K rg (tOp r ta tb) (sOp f t1 t2) := fun c hc pn H0 env σ H Qd Q S ht k => by
  refine h1 c hc pn H0 env σ H _ _ S ht fun d v H1 q1 k1 j1 r1 => ?_
  subst hc
  refine h2 c rfl pn H0 env σ H1 _ _ (S.grow k1 j1) q1 fun e w H2 q2 k2 j2 r2 => ?_
  have S2 := S.grow (k1.trans k2) j2
  refine hd c.M (Mof c env) H2 v w d e Qd Q S2.domM (RpO.keep k2 S.ok.sub (fun a h => Mof.of_R S.ok h) r1) r2 q2 fun d' v' H3 q3 s3 r3 => ?_
  have S3 := S2.same s3
  exact k d' v' H3 q3 ((k1.trans k2).trans (Keep.of_same s3)) S3.j r3
theorem d_op {op : Operator} {r : R2} {f : F2} (ho : OpR X (binaryOp op) r) (hd : OpD K r f) (h1 : DO X K rg a ta t1) (h2 : DO X K rg b tb t2) : DP X K rg (.BinOp a op b pos) (tOp r ta tb) (sOp f t1 t2) := by
  cases h1.kx
  exact ⟨rfl, pe_op ho h1.pe h2.pe, rf_op hd h1.rf h2.rf⟩
theorem d_cmp {op : CmpOp} {r : R2} {f : F2} (ho : OpR X (compareOp op) r) (hd : OpD K r f) (h1 : DO X K rg a ta t1) (h2 : DO X K rg b tb t2) (hm : behindInMarks op b = false) : DP X K rg (.Compare a [op] [b] pos) (tOp r ta tb) (sOp f t1 t2) := by
  cases h1.kx
  exact ⟨rfl, pe_cmpR ho h1.pe h2.pe hm, rf_op hd h1.rf h2.rf⟩
/-- a value that is a bool, as a test -/
def sTest (t : TD) : TB := fun env Q => t env fun d => match d with | .bl k => Q k | _ => False
theorem rf_test {K : PySem.W.Frag} (h : Rf K rg te t) : RfT K rg (tTest te) (sTest t) := fun c hc pn H0 env σ H Qd Q S ht k => by
  refine h c hc pn H0 env σ H _ _ S ht fun d v H1 q1 k1 j1 r1 => ?_
  cases d with
  | bl b => cases r1; exact ⟨b, rfl, k b H1 q1 k1 j1⟩
  | _ => exact q1.elim
theorem dt_cmp {op : CmpOp} {r : R2} {f : F2} (ho : OpR X (compareOp op) r) (hd : OpD K r f) (h1 : DO X K rg a ta t1) (h2 : DO X K rg b tb t2) (hm : behindInMarks op b = false) : DT X K rg (.Compare a [op] [b] pos) (tTest (tOp r ta tb)) (sTest (sOp f t1 t2)) := by
  cases h1.kx
  exact ⟨rfl, pt_cmpR ho h1.pe h2.pe hm, rf_test (rf_op hd h1.rf h2.rf)⟩
theorem dt_val (h : DP X K rg e te t) (he : ∀ whole, isTrue e X.env whole = (do let v ← whole; standAt e.pos; holding [v] (truthy v)) := by intro _; rfl) : DT X K rg e (tB te) (sTest t) := by
  cases h.kx
  exact ⟨rfl, pt_val h.pe he, rf_test h.rf⟩
theorem OpR.or {f : Value → Value → Sem Value} {r r' : R2} (h : OpR X f r) (h' : OpR X f r') : OpR X f (fun x y H Q => r x y H Q ∨ r' x y H Q) := by
  intro pins s σ H x y v u Q I rx ry q
  rcases q with q | q
  · exact h pins s σ H x y v u Q I rx ry q
  · exact h' pins s σ H x y v u Q I rx ry q
/-! ### + -/
def rAdd' : R2 := fun x y H Q => ∃ i j, x = .int i ∧ y = .int j ∧ Q (.int (i + j)) H
def rAddS : R2 := fun x y H Q => ∃ i j, x = .str i ∧ y = .str j ∧ i.length + j.length ≤ sizeLine ∧ Q (.str (i ++ j)) H
def rAddU (K : PySem.W.Frag) : R2 := fun x y H Q => (rAdd' x y H Q ∨ rAddS x y H Q) ∨ (rCat x y H Q ∨ rCatA K x y H Q)
theorem op_addU (hK : X.K = K := by rfl) : OpR X (binaryOp .Add) (rAddU K) := by
  cases hK
  exact OpR.or (OpR.or op_add op_add_str) (OpR.or op_cat op_catA)
def fAdd : F2 := fun d e Q => match d, e with
  | .int i, .int j => Q (.int (i + j))
  | .str x, .str y => x.length + y.length ≤ sizeLine ∧ Q (.str (x ++ y))
  | .lst xs, .lst ys => xs.length + ys.length ≤ sizeLine ∧ Q (.lst (xs ++ ys))
  | .tup xs, .tup ys => xs.length + ys.length ≤ sizeLine ∧ Q (.tup (xs ++ ys))
  | _, _ => False
theorem opd_add {K : PySem.W.Frag} : OpD K (rAddU K) fAdd := by
  intro M0 M H v w d e Qd Q hM r1 r2 hf k
  unfold fAdd at hf
  split at hf
  · rw [r1.int, r2.int]
    exact .inl (.inl ⟨_, _, rfl, rfl, k _ _ H hf (Same.refl H) (.int _)⟩)
  · rw [r1.str, r2.str]
    exact .inl (.inr ⟨_, _, rfl, rfl, hf.1, k _ _ H hf.2 (Same.refl H) (.str _)⟩)
  · obtain ⟨p, xs, rfl, h1, a1⟩ := r1.lst
    obtain ⟨q, ys, rfl, h2, a2⟩ := r2.lst
    refine .inr (.inl ⟨p, q, xs, ys, rfl, rfl, h1, h2, by rw [RpAll.length a1, RpAll.length a2]; exact hf.1, fun l hl => ?_⟩)
    exact k _ _ _ hf.2 (fun b o e => by rw [upd_ne (ne_of_none e hl)]; exact e) (.lst (fun z => hM l z hl) upd_same (RpAll.keep (Keep.upd_new hl) (RpAll.append a1 a2)))
  · obtain ⟨p, xs, rfl, h1, a1⟩ := r1.tup
    obtain ⟨q, ys, rfl, h2, a2⟩ := r2.tup
    refine .inr (.inr ⟨p, q, xs, ys, rfl, rfl, h1, h2, by rw [RpAll.length a1, RpAll.length a2]; exact hf.1, fun hx => ?_, fun hx hy => ?_, fun _ _ l hl => ?_⟩)
    · subst hx
      cases a1
      rcases r2 with r2 | ⟨_, _, _, _, e, _⟩
      · exact k _ _ H (by simpa using hf.2) (Same.refl H) r2
      · cases e
    · subst hy
      cases a2
      rcases r1 with r1 | ⟨_, _, _, _, e, _⟩
      · exact k _ _ H (by simpa using hf.2) (Same.refl H) r1
      · cases e
    · exact k _ _ _ hf.2 (fun b o e => by rw [upd_ne (ne_of_none e hl)]; exact e) (.tup (fun z => hM l z hl) upd_same (RpAll.keep (Keep.upd_new hl) (RpAll.append a1 a2)))
  · exact hf.elim
/-! ### ints -/
theorem opd_int {K : PySem.W.Frag} {C : Int → Int → Prop} {g : Int → Int → Int} : OpD K (rI C fun i j => .int (g i j)) (fun d e Q => match d, e with | .int i, .int j => C i j ∧ Q (.int (g i j)) | _, _ => False) := by
  intro M0 M H v w d e Qd Q hM r1 r2 hf k
  split at hf
  · rw [r1.int, r2.int]
    exact ⟨_, _, rfl, rfl, hf.1, k _ _ H hf.2 (Same.refl H) (.int _)⟩
  · exact hf.elim
theorem opd_int0 {K : PySem.W.Frag} {g : Int → Int → Int} : OpD K (rI0 fun i j => .int (g i j)) (fun d e Q => match d, e with | .int i, .int j => Q (.int (g i j)) | _, _ => False) := by
  intro M0 M H v w d e Qd Q hM r1 r2 hf k
  split at hf
  · rw [r1.int, r2.int]
    exact ⟨_, _, rfl, rfl, k _ _ H hf (Same.refl H) (.int _)⟩
  · exact hf.elim
def fCmpI (g : Int → Int → Bool) : F2 := fun d e Q => match d, e with | .int i, .int j => Q (.bl (g i j)) | _, _ => False
theorem opd_cmpI {K : PySem.W.Frag} {g : Int → Int → Bool} : OpD K (rI0 fun i j => .bl (g i j)) (fCmpI g) := by
  intro M0 M H v w d e Qd Q hM r1 r2 hf k
  unfold fCmpI at hf
  split at hf
  · rw [r1.int, r2.int]
    exact ⟨_, _, rfl, rfl, k _ _ H hf (Same.refl H) (.bl _)⟩
  · exact hf.elim
def fIntC (C : Int → Int → Prop) (g : Int → Int → Int) : F2 := fun d e Q => match d, e with | .int i, .int j => C i j ∧ Q (.int (g i j)) | _, _ => False
def fInt0 (g : Int → Int → Int) : F2 := fun d e Q => match d, e with | .int i, .int j => Q (.int (g i j)) | _, _ => False
/-! ### ==, in -/
mutual
def toPy : D → PyData
  | .non => .none
  | .bl b => .bool b
  | .int i => .int i
  | .str x => .str x
  | .lst ds => .list (toPys ds)
  | .tup ds => .tuple (toPys ds)
  | .obj _ _ _ => .none
  | .dct _ _ => .none
  | .raw _ => .none
  | .scr _ => .none
def toPys : List D → List PyData
  | [] => []
  | d :: ds => toPy d :: toPys ds
end
mutual
/-- plain data -/
def isPl : D → Bool
  | .obj _ _ _ => false
  | .dct _ _ => false
  | .raw _ => false
  | .scr _ => false
  | .lst ds => isPls ds
  | .tup ds => isPls ds
  | .non => true
  | .bl _ => true
  | .int _ => true
  | .str _ => true
def isPls : List D → Bool
  | [] => true
  | d :: ds => isPl d && isPls ds
end
mutual
theorem plain_toPy : ∀ d : D, (toPy d).plain = true
  | .non => rfl
  | .bl _ => rfl
  | .int _ => rfl
  | .str _ => rfl
  | .lst ds => by simp only [toPy, PyData.plain]; exact plain_toPys ds
  | .tup ds => by simp only [toPy, PyData.plain]; exact plain_toPys ds
  | .obj _ _ _ => rfl
  | .dct _ _ => rfl
  | .raw _ => rfl
  | .scr _ => rfl
theorem plain_toPys : ∀ ds : List D, PyData.plainAll (toPys ds) = true
  | [] => rfl
  | d :: ds => by simp only [toPys, PyData.plainAll, plain_toPy d, plain_toPys ds, Bool.and_self]
end
mutual
theorem Rp.dp {K : PySem.W.Frag} {M : Addr → Prop} {H : Hp} : ∀ {v : V} {d : D}, Rp K M H v d → isPl d = true → Dp K H v (toPy d)
  | _, _, .non, _ => .non
  | _, _, .bl b, _ => .bl b
  | _, _, .int b, _ => .int b
  | _, _, .str b, _ => .str b
  | _, _, .raw b, h => by simp [isPl] at h
  | _, _, .scr _ _, h => by simp [isPl] at h
  | _, _, .scrK _, h => by simp [isPl] at h
  | _, _, .lst m r a, h => by simp only [toPy]; exact .lst (SqL.of r) (RpAll.dp a (by simpa [isPl] using h))
  | _, _, .tup m r a, h => by simp only [toPy]; exact .tup (SqT.of r) (RpAll.dp a (by simpa [isPl] using h))
  | _, _, .tupK r a, h => by simp only [toPy]; exact .tup (.inr r) (RpAll.dp a (by simpa [isPl] using h))
  | _, _, .obj m r e a, h => by simp [isPl] at h
  | _, _, .dct m r e a, h => by simp [isPl] at h
theorem RpAll.dp {K : PySem.W.Frag} {M : Addr → Prop} {H : Hp} : ∀ {vs : List V} {ds : List D}, RpAll K M H vs ds → isPls ds = true → DpAll K H vs (toPys ds)
  | _, _, .nil, _ => by simp only [toPys]; exact .nil
  | _, _, .cons a b, h => by
    simp only [isPls, Bool.and_eq_true] at h
    simp only [toPys]
    exact .cons (Rp.dp a h.1) (RpAll.dp b h.2)
end
theorem RpO.dp {K : PySem.W.Frag} {M0 M : Addr → Prop} {H : Hp} {v : V} {d : D} : RpO K M0 M H v d → isPl d = true → Dp K H v (toPy d)
  | .inl r, h => Rp.dp r h
  | .inr ⟨a, vs, ds, e1, e2, m, e3, r⟩, h => by
    subst e1 e2
    simp only [toPy]
    exact .lst (SqL.of e3) (RpAll.dp r (by simpa [isPl] using h))
/-- == of plain data -/
def deq (d e : D) : Bool := PyData.eqv (toPy d) (toPy e)
def rEqP (K : PySem.W.Frag) : R2 := fun x y H Q => ∃ d e : PyData, Dp K H x d ∧ Dp K H y e ∧ d.plain = true ∧ e.plain = true ∧ min d.depth e.depth ≤ 60 ∧ Q (.bl (PyData.eqv d e)) H
def rNeP (K : PySem.W.Frag) : R2 := fun x y H Q => ∃ d e : PyData, Dp K H x d ∧ Dp K H y e ∧ d.plain = true ∧ e.plain = true ∧ min d.depth e.depth ≤ 60 ∧ Q (.bl (!PyData.eqv d e)) H
theorem op_eqP (hu : X.A.units + 64 < cLine) (hK : X.K = K := by rfl) : OpR X (compareOp .Eq) (rEqP K) := by
  cases hK
  intro pins s σ H x y v u Q I rx ry h
  obtain ⟨d, e, hd, he, sd, se, hz, q⟩ := h
  obtain ⟨as, r1⟩ := Dp.reads I d x v hd rx
  obtain ⟨bs, r2⟩ := Dp.reads I e y u he ry
  exact SeqAt.eq_plain r1 r2 sd se (by omega) ⟨.bl _, H, I, rfl, q⟩
theorem op_neP (hu : X.A.units + 64 < cLine) (hK : X.K = K := by rfl) : OpR X (compareOp .NotEq) (rNeP K) := by
  cases hK
  intro pins s σ H x y v u Q I rx ry h
  obtain ⟨d, e, hd, he, sd, se, hz, q⟩ := h
  obtain ⟨as, r1⟩ := Dp.reads I d x v hd rx
  obtain ⟨bs, r2⟩ := Dp.reads I e y u he ry
  exact SeqAt.ne_plain r1 r2 sd se (by omega) ⟨.bl _, H, I, rfl, q⟩
def fEq (neg : Bool) : F2 := fun d e Q => isPl d = true ∧ isPl e = true ∧ min (toPy d).depth (toPy e).depth ≤ 60 ∧ Q (.bl (if neg then !deq d e else deq d e))
theorem opd_eq {K : PySem.W.Frag} : OpD K (rEqP K) (fEq false) := fun M0 M H v w d e Qd Q hM r1 r2 ⟨h1, h2, h3, h4⟩ k =>
  ⟨_, _, r1.dp h1, r2.dp h2, plain_toPy d, plain_toPy e, h3, k _ _ H h4 (Same.refl H) (.bl _)⟩
theorem opd_ne {K : PySem.W.Frag} : OpD K (rNeP K) (fEq true) := fun M0 M H v w d e Qd Q hM r1 r2 ⟨h1, h2, h3, h4⟩ k =>
  ⟨_, _, r1.dp h1, r2.dp h2, plain_toPy d, plain_toPy e, h3, k _ _ H h4 (Same.refl H) (.bl _)⟩
/-- x in a list or a tuple -/
def rInP (K : PySem.W.Frag) (neg : Bool) : R2 := fun x y H Q => ∃ (d : PyData) (ds : List PyData), Dp K H x d ∧ (Dp K H y (.list ds) ∨ Dp K H y (.tuple ds)) ∧ d.plain = true ∧ PyData.plainAll ds = true ∧ min (PyData.depthAll ds) d.depth ≤ 60 ∧
  Q (.bl (if neg then !(ds.any fun z => PyData.eqv z d) else (ds.any fun z => PyData.eqv z d))) H
theorem op_inP (hu : X.A.units + 64 < cLine) (hK : X.K = K := by rfl) : OpR X (compareOp .In) (rInP K false) := by
  cases hK
  intro pins s σ H x y v u Q I rx ry h
  obtain ⟨d, ds, hd, he, sd, se, hz, q⟩ := h
  obtain ⟨as, r1⟩ := Dp.reads I d x v hd rx
  rcases he with he | he
  · obtain ⟨bs, r2⟩ := Dp.reads I _ y u he ry
    exact SeqAt.in_list_data r2 r1 se sd (by omega) ⟨.bl _, H, I, rfl, q⟩
  · obtain ⟨bs, r2⟩ := Dp.reads I _ y u he ry
    exact SeqAt.in_tuple_data r2 r1 se sd (by omega) ⟨.bl _, H, I, rfl, q⟩
theorem op_notInP (hu : X.A.units + 64 < cLine) (hK : X.K = K := by rfl) : OpR X (compareOp .NotIn) (rInP K true) := by
  cases hK
  intro pins s σ H x y v u Q I rx ry h
  obtain ⟨d, ds, hd, he, sd, se, hz, q⟩ := h
  obtain ⟨as, r1⟩ := Dp.reads I d x v hd rx
  rcases he with he | he
  · obtain ⟨bs, r2⟩ := Dp.reads I _ y u he ry
    exact SeqAt.notIn_list_data r2 r1 se sd (by omega) ⟨.bl _, H, I, rfl, q⟩
  · obtain ⟨bs, r2⟩ := Dp.reads I _ y u he ry
    exact SeqAt.notIn_tuple_data r2 r1 se sd (by omega) ⟨.bl _, H, I, rfl, q⟩
def inD (d : D) (ds : List D) : Bool := ds.any fun z => deq z d
theorem any_toPys (d : D) : ∀ ds : List D, ((toPys ds).any fun z => PyData.eqv z (toPy d)) = inD d ds
  | [] => rfl
  | e :: ds => by simp only [toPys, List.any_cons, inD, deq, any_toPys d ds]
def fIn (neg : Bool) : F2 := fun d e Q => match e with
  | .lst ds => isPl d = true ∧ isPls ds = true ∧ min (PyData.depthAll (toPys ds)) (toPy d).depth ≤ 60 ∧ Q (.bl (if neg then !inD d ds else inD d ds))
  | .tup ds => isPl d = true ∧ isPls ds = true ∧ min (PyData.depthAll (toPys ds)) (toPy d).depth ≤ 60 ∧ Q (.bl (if neg then !inD d ds else inD d ds))
  | _ => False
theorem opd_in {K : PySem.W.Frag} (neg : Bool) : OpD K (rInP K neg) (fIn neg) := by
  intro M0 M H v w d e Qd Q hM r1 r2 hf k
  unfold fIn at hf
  split at hf
  · obtain ⟨h1, h2, h3, h4⟩ := hf
    have r := r2.dp (by simpa [isPl] using h2)
    simp only [toPy] at r
    exact ⟨_, _, r1.dp h1, .inl r, plain_toPy d, plain_toPys _, h3, by rw [any_toPys]; exact k _ _ H h4 (Same.refl H) (.bl _)⟩
  · obtain ⟨h1, h2, h3, h4⟩ := hf
    have r := r2.dp (by simpa [isPl] using h2)
    simp only [toPy] at r
    exact ⟨_, _, r1.dp h1, .inr r, plain_toPy d, plain_toPys _, h3, by rw [any_toPys]; exact k _ _ H h4 (Same.refl H) (.bl _)⟩
  · exact hf.elim
/-! ### is None -/
def rIsNP : R2 := fun x y H Q => y = .non ∧ Q (.bl (decide (x = .non))) H
def fIsN (neg : Bool) : F2 := fun d e Q => match d, e with
  | .non, .non => Q (.bl (!neg)) | .bl _, .non => Q (.bl neg) | .int _, .non => Q (.bl neg) | .str _, .non => Q (.bl neg)
  | .lst _, .non => Q (.bl neg) | .tup _, .non => Q (.bl neg) | .obj _ _ _, .non => Q (.bl neg) | .dct _ _, .non => Q (.bl neg) | _, _ => False
theorem RpO.isNon {K : PySem.W.Frag} {M0 M : Addr → Prop} {H : Hp} {v : V} {d : D} (r : RpO K M0 M H v d) (hd : ∀ w, d ≠ .raw w) (hn : d ≠ .non) : v ≠ .non := by
  intro e
  subst e
  rcases r with r | ⟨a, vs, ds, e1, _⟩
  · cases r with
    | non => exact hn rfl
    | raw _ => exact hd _ rfl
  · cases e1
theorem opd_isN {K : PySem.W.Frag} : OpD K rIsNP (fIsN false) := by
  intro M0 M H v w d e Qd Q hM r1 r2 hf k
  unfold fIsN at hf
  split at hf <;> first
    | exact hf.elim
    | (rw [r1.non, r2.non]; exact ⟨rfl, k _ _ H hf (Same.refl H) (.bl _)⟩)
    | (rw [r2.non]; exact ⟨rfl, by rw [decide_eq_false (r1.isNon (by intro w z; cases z) (by intro z; cases z))]; exact k _ _ H hf (Same.refl H) (.bl _)⟩)
theorem opd_notN {K : PySem.W.Frag} : OpD K (fun x y H Q => y = .non ∧ Q (.bl (!decide (x = .non))) H) (fIsN true) := by
  intro M0 M H v w d e Qd Q hM r1 r2 hf k
  unfold fIsN at hf
  split at hf <;> first
    | exact hf.elim
    | (rw [r1.non, r2.non]; exact ⟨rfl, k _ _ H hf (Same.refl H) (.bl _)⟩)
    | (rw [r2.non]; exact ⟨rfl, by rw [decide_eq_false (r1.isNon (by intro w z; cases z) (by intro z; cases z))]; exact k _ _ H hf (Same.refl H) (.bl _)⟩)
end
end DL

namespace DL
open PySem L2
section
variable {X : Cx} {K : PySem.W.Frag} {rg : Rg} {e a b : Expr} {es rest : List Expr} {te ta tb : TE} {ts tr : TA} {t t1 t2 : TD} {u u1 u2 : TDs} {tt tt1 tt2 : TT} {b1 b2 : TB} {pos : Pos}
/-! ### tests -/
def sNot (b : TB) : TB := fun env Q => b env fun k => Q (!k)
def sAnd (b1 b2 : TB) : TB := fun env Q => b1 env fun k => if k = true then b2 env Q else Q false
def sOr (b1 b2 : TB) : TB := fun env Q => b1 env fun k => if k = true then Q true else b2 env Q
theorem dt_not (h : DT X K rg e tt b1) : DT X K rg (.UnaryOp .Not e pos) (tNot tt) (sNot b1) := by
  cases h.kx
  exact ⟨rfl, pt_not h.pt, fun c hc pn H0 env σ H Qd Q S ht k => h.rf c hc pn H0 env σ H _ _ S ht fun d H1 q k1 j1 => k _ H1 q k1 j1⟩
theorem rf_and {K : PySem.W.Frag} (h1 : RfT K rg tt1 b1) (h2 : RfT K rg tt2 b2) : RfT K rg (tAnd tt1 tt2) (sAnd b1 b2) := fun c hc pn H0 env σ H Qd Q S ht k => by
  refine h1 c hc pn H0 env σ H _ _ S ht fun d H1 q1 k1 j1 => ?_
  subst hc
  cases d with
  | true =>
    rw [if_pos rfl] at q1 ⊢
    exact h2 c rfl pn H0 env σ H1 _ _ (S.grow k1 j1) q1 fun d2 H2 q2 k2 j2 => k d2 H2 q2 (k1.trans k2) j2
  | false =>
    rw [if_neg Bool.false_ne_true] at q1 ⊢
    exact k false H1 q1 k1 j1
theorem rf_or {K : PySem.W.Frag} (h1 : RfT K rg tt1 b1) (h2 : RfT K rg tt2 b2) : RfT K rg (tOr tt1 tt2) (sOr b1 b2) := fun c hc pn H0 env σ H Qd Q S ht k => by
  refine h1 c hc pn H0 env σ H _ _ S ht fun d H1 q1 k1 j1 => ?_
  subst hc
  cases d with
  | false =>
    rw [if_neg Bool.false_ne_true] at q1 ⊢
    exact h2 c rfl pn H0 env σ H1 _ _ (S.grow k1 j1) q1 fun d2 H2 q2 k2 j2 => k d2 H2 q2 (k1.trans k2) j2
  | true =>
    rw [if_pos rfl] at q1 ⊢
    exact k true H1 q1 k1 j1
theorem dw_and1 (h : DT X K rg e tt b1) : DW X K rg (.BoolOp .And [e] pos) tt b1 := by
  cases h.kx
  exact ⟨rfl, pw_and1 h.pt, h.rf⟩
theorem dw_or1 (h : DT X K rg e tt b1) : DW X K rg (.BoolOp .Or [e] pos) tt b1 := by
  cases h.kx
  exact ⟨rfl, pw_or1 h.pt, h.rf⟩
theorem dw_and (h1 : DT X K rg a tt1 b1) (h2 : DW X K rg (.BoolOp .And (b :: rest) pos) tt2 b2) : DW X K rg (.BoolOp .And (a :: b :: rest) pos) (tAnd tt1 tt2) (sAnd b1 b2) := by
  cases h1.kx
  exact ⟨rfl, pw_and h1.pt h2.pw, rf_and h1.rf h2.rf⟩
theorem dw_or (h1 : DT X K rg a tt1 b1) (h2 : DW X K rg (.BoolOp .Or (b :: rest) pos) tt2 b2) : DW X K rg (.BoolOp .Or (a :: b :: rest) pos) (tOr tt1 tt2) (sOr b1 b2) := by
  cases h1.kx
  exact ⟨rfl, pw_or h1.pt h2.pw, rf_or h1.rf h2.rf⟩
theorem DW.dt (h : DW X K rg e tt b1) : DT X K rg e tt b1 := by
  cases h.kx
  exact ⟨rfl, h.pw.pt, h.rf⟩
/-- a and b, a or b as values: bools but for the last -/
def sAndV (t1 t2 : TD) : TD := fun env Q => t1 env fun d => match d with | .bl k => if k = true then t2 env Q else Q (.bl false) | _ => False
def sOrV (t1 t2 : TD) : TD := fun env Q => t1 env fun d => match d with | .bl k => if k = true then Q (.bl true) else t2 env Q | _ => False
def sNotV (t1 : TD) : TD := fun env Q => t1 env fun d => match d with | .bl k => Q (.bl (!k)) | _ => False
theorem d_one {op} (h : DP X K rg a ta t) : DP X K rg (.BoolOp op [a] pos) ta t := by
  cases h.kx
  exact ⟨rfl, pe_one h.pe, h.rf⟩
theorem d_and (h1 : DP X K rg a ta t1) (h2 : DP X K rg (.BoolOp .And (b :: rest) pos) tb t2) : DP X K rg (.BoolOp .And (a :: b :: rest) pos) (tAndV ta tb) (sAndV t1 t2) := by
  cases h1.kx
  exact ⟨rfl, pe_and h1.pe h2.pe, fun c hc pn H0 env σ H Qd Q S ht k => by
  refine h1.rf c hc pn H0 env σ H _ _ S ht fun d v H1 q1 k1 j1 r1 => ?_
  subst hc
  cases d with
  | bl x =>
    cases r1
    refine ⟨x, rfl, ?_⟩
    cases x with
    | true =>
      rw [if_pos rfl]
      exact h2.rf c rfl pn H0 env σ H1 _ _ (S.grow k1 j1) (by simpa using q1) fun d2 v2 H2 q2 k2 j2 r2 => k d2 v2 H2 q2 (k1.trans k2) j2 r2
    | false => exact k _ _ H1 (by simpa using q1) k1 j1 (.bl _)
  | _ => exact q1.elim⟩
theorem d_or (h1 : DP X K rg a ta t1) (h2 : DP X K rg (.BoolOp .Or (b :: rest) pos) tb t2) : DP X K rg (.BoolOp .Or (a :: b :: rest) pos) (tOrV ta tb) (sOrV t1 t2) := by
  cases h1.kx
  exact ⟨rfl, pe_or h1.pe h2.pe, fun c hc pn H0 env σ H Qd Q S ht k => by
  refine h1.rf c hc pn H0 env σ H _ _ S ht fun d v H1 q1 k1 j1 r1 => ?_
  subst hc
  cases d with
  | bl x =>
    cases r1
    refine ⟨x, rfl, ?_⟩
    cases x with
    | false =>
      rw [if_neg Bool.false_ne_true]
      exact h2.rf c rfl pn H0 env σ H1 _ _ (S.grow k1 j1) (by simpa using q1) fun d2 v2 H2 q2 k2 j2 r2 => k d2 v2 H2 q2 (k1.trans k2) j2 r2
    | true => exact k _ _ H1 (by simpa using q1) k1 j1 (.bl _)
  | _ => exact q1.elim⟩
theorem d_not (h1 : DP X K rg a ta t1) : DP X K rg (.UnaryOp .Not a pos) (tNotV ta) (sNotV t1) := by
  cases h1.kx
  exact ⟨rfl, pe_not h1.pe, fun c hc pn H0 env σ H Qd Q S ht k => by
  refine h1.rf c hc pn H0 env σ H _ _ S ht fun d v H1 q1 k1 j1 r1 => ?_
  cases d with
  | bl x => cases r1; exact ⟨x, rfl, k _ _ H1 q1 k1 j1 (.bl _)⟩
  | _ => exact q1.elim⟩
/-- truth -/
def sTru (t : TD) : TB := fun env Q => t env fun d => match d with
  | .non => Q false | .bl k => Q k | .int i => Q (i != 0) | .str x => x.length ≤ sizeLine ∧ Q ((x.length : Int) != 0) | .lst ds => Q (!ds.isEmpty) | .tup ds => Q (!ds.isEmpty) | _ => False
theorem empty_eq {K : PySem.W.Frag} {M : Addr → Prop} {H : Hp} {vs : List V} {ds : List D} (r : RpAll K M H vs ds) : (!vs.isEmpty) = !ds.isEmpty := by cases r <;> rfl
theorem dt_truth (h : DO X K rg e te t) (he : ∀ whole, isTrue e X.env whole = (do let v ← whole; standAt e.pos; holding [v] (truthy v)) := by intro _; rfl) : DT X K rg e (fun σ H Q => te σ H fun x H' => ∃ k, TruV K x H' k ∧ Q k H') (sTru t) := by
  cases h.kx
  exact ⟨rfl, pt_truth h.pe he, fun c hc pn H0 env σ H Qd Q S ht k => by
    refine h.rf c hc pn H0 env σ H _ _ S ht fun d v H1 q1 k1 j1 r1 => ?_
    cases d with
    | non => rw [r1.non]; exact ⟨false, rfl, k _ H1 q1 k1 j1⟩
    | bl x => rw [r1.bl]; exact ⟨x, rfl, k _ H1 q1 k1 j1⟩
    | int x => rw [r1.int]; exact ⟨_, rfl, k _ H1 q1 k1 j1⟩
    | str x => rw [r1.str]; exact ⟨_, ⟨q1.1, rfl⟩, k _ H1 q1.2 k1 j1⟩
    | lst ds =>
      obtain ⟨p, vs, rfl, h1, a1⟩ := r1.lst
      exact ⟨_, .inl ⟨vs, SqL.of h1, rfl⟩, by rw [empty_eq a1]; exact k _ H1 q1 k1 j1⟩
    | tup ds =>
      obtain ⟨p, vs, rfl, h1, a1⟩ := r1.tup
      exact ⟨_, .inr (.inl ⟨vs, h1, rfl⟩), by rw [empty_eq a1]; exact k _ H1 q1 k1 j1⟩
    | _ => exact q1.elim⟩
/-- a if c else b -/
def sIf (b : TB) (t1 t2 : TD) : TD := fun env Q => b env fun k => if k = true then t1 env Q else t2 env Q
theorem d_if {x : Expr} (hc : DT X K rg x tt b1) (h1 : DP X K rg a ta t1) (h2 : DP X K rg b tb t2) : DP X K rg (.IfExp x a b pos) (tIf tt ta tb) (sIf b1 t1 t2) := by
  cases hc.kx
  exact ⟨rfl, pe_ifExp hc.pt h1.pe h2.pe, fun c hcc pn H0 env σ H Qd Q S ht k => by
  refine hc.rf c hcc pn H0 env σ H _ _ S ht fun d H1 q1 k1 j1 => ?_
  subst hcc
  cases d with
  | true => rw [if_pos rfl] at q1 ⊢; exact h1.rf c rfl pn H0 env σ H1 _ _ (S.grow k1 j1) q1 fun d2 v2 H2 q2 k2 j2 r2 => k d2 v2 H2 q2 (k1.trans k2) j2 r2
  | false => rw [if_neg Bool.false_ne_true] at q1 ⊢; exact h2.rf c rfl pn H0 env σ H1 _ _ (S.grow k1 j1) q1 fun d2 v2 H2 q2 k2 j2 r2 => k d2 v2 H2 q2 (k1.trans k2) j2 r2⟩
/-! ### items, slices -/
def fIx : F2 := fun d e Q => match d, e with
  | .lst ds, .int i => ∃ x, atI ds i = some x ∧ Q x
  | .tup ds, .int i => ∃ x, atI ds i = some x ∧ Q x
  | .str z, .int i => ∃ c, z.length ≤ sizeLine ∧ atI z.cps.toList i = some c ∧ Q (.str ⟨#[c]⟩)
  | _, _ => False
theorem atI_all {K : PySem.W.Frag} {M : Addr → Prop} {H : Hp} {vs : List V} {ds : List D} (r : RpAll K M H vs ds) {i : Int} {x : D} (h : atI ds i = some x) : ∃ v, atI vs i = some v ∧ Rp K M H v x := by
  unfold atI at h ⊢
  rw [RpAll.length r]
  cases q : ixN ds.length i with
  | none => rw [q] at h; cases h
  | some j =>
    rw [q] at h
    exact RpAll.get' r h
theorem opd_ix {K : PySem.W.Frag} : OpD K (rIx K) fIx := by
  intro M0 M H v w d e Qd Q hM r1 r2 hf k
  unfold fIx at hf
  split at hf
  · obtain ⟨x, hx, q⟩ := hf
    obtain ⟨p, xs, rfl, h1, a1⟩ := r1.lst
    rw [r2.int]
    obtain ⟨y, hy, ry⟩ := atI_all a1 hx
    exact .inl ⟨p, xs, _, y, rfl, rfl, SqL.of h1, hy, k _ _ H q (Same.refl H) ry⟩
  · obtain ⟨x, hx, q⟩ := hf
    obtain ⟨p, xs, rfl, h1, a1⟩ := r1.tup
    rw [r2.int]
    obtain ⟨y, hy, ry⟩ := atI_all a1 hx
    exact .inr (.inl ⟨p, xs, _, y, rfl, rfl, h1, hy, k _ _ H q (Same.refl H) ry⟩)
  · obtain ⟨x, hz, hx, q⟩ := hf
    rw [r1.str, r2.int]
    exact .inr (.inr ⟨_, _, x, rfl, rfl, hz, hx, k _ _ H q (Same.refl H) (.str _)⟩)
  · exact hf.elim
theorem d_ix (h1 : DO X K rg a ta t1) (h2 : DO X K rg b tb t2) (hs : PlainIx b := by intro _ _; rfl) : DP X K rg (.Subscript a b pos) (tOp (rIx K) ta tb) (sOp fIx t1 t2) := by
  cases h1.kx
  exact ⟨rfl, pe_ix ix_seq h1.pe h2.pe hs, rf_op opd_ix h1.rf h2.rf⟩
/-- an end of a slice -/
structure DPo (X : Cx) (K : PySem.W.Frag) (rg : Rg) (e : Option Expr) (to : TO) (t : En → (Option Int → Prop) → Prop) : Prop where
  kx : X.K = K
  po : PO X e to
  rf : ∀ (c : Dc), c.rg = rg → ∀ (pn : Pin) (H0 : Hp) (env : En) (σ : St) (H : Hp) (Qd : Option Int → Prop) (Q : Option Int → Hp → Prop), Sd K c pn H0 env σ H → t env Qd →
    (∀ d H', Qd d → Keep c.rg.R H H' → c.rg.J H' → Q d H') → to σ H Q
def sPn : En → (Option Int → Prop) → Prop := fun _ Q => Q none
def sPs (t : TD) : En → (Option Int → Prop) → Prop := fun env Q => t env fun d => match d with | .int i => Q (some i) | _ => False
theorem dpo_none (hK : X.K = K := by rfl) : DPo X K rg none tNoPart sPn := by
  cases hK
  exact ⟨rfl, po_none, fun c hc pn H0 env σ H Qd Q S ht k => k none H ht Keep.refl S.j⟩
theorem dpo_some (h : DP X K rg e te t) : DPo X K rg (some e) (tPart te) (sPs t) := by
  cases h.kx
  exact ⟨rfl, po_some h.pe, fun c hc pn H0 env σ H Qd Q S ht k => by
  refine h.rf c hc pn H0 env σ H _ _ S ht fun d v H1 q1 k1 j1 r1 => ?_
  cases d with
  | int i => cases r1; exact ⟨i, rfl, k _ H1 q1 k1 j1⟩
  | _ => exact q1.elim⟩
def cutD (ds : List D) (lo hi : Option Int) : List D := (ds.drop (HT.sIx ds.length 0 lo)).take (HT.sIx ds.length ds.length hi - HT.sIx ds.length 0 lo)
theorem cut_all {K : PySem.W.Frag} {M : Addr → Prop} {H : Hp} {vs : List V} {ds : List D} (r : RpAll K M H vs ds) (lo hi : Option Int) : RpAll K M H (cutV vs lo hi) (cutD ds lo hi) := by
  unfold cutV cutD
  rw [RpAll.length r]
  exact RpAll.take _ (RpAll.drop _ r)
def rSlU (K : PySem.W.Frag) : V → Option Int → Option Int → Hp → VK → Prop := fun x lo hi H Q => rSlL K x lo hi H Q ∨ rSlA K x lo hi H Q
theorem sl_U : SlR X (rSlU X.K) := SlR.or sl_list sl_tupA
def sSl (t : TD) (l h : En → (Option Int → Prop) → Prop) : TD := fun env Q => t env fun d => l env fun lo => h env fun hi => match d with
  | .lst ds => Q (.lst (cutD ds lo hi)) | .scr ns => Q (.lst (cutD (ns.map .int) lo hi)) | .tup ds => Q (.tup (cutD ds lo hi)) | _ => False
theorem cut_whole {ds : List D} {lo hi : Option Int} (h : HT.sIx ds.length 0 lo = 0 ∧ HT.sIx ds.length ds.length hi = ds.length) : cutD ds lo hi = ds := by
  unfold cutD
  rw [h.1, h.2]
  simp
theorem d_slice {lo hi : Option Expr} {tl th : TO} {l h : En → (Option Int → Prop) → Prop} {p2 : Pos} (h1 : DO X K rg e te t) (hl : DPo X K rg lo tl l) (hh : DPo X K rg hi th h) : DP X K rg (.Subscript e (.Slice lo hi none p2) pos) (tSl (rSlU K) te tl th) (sSl t l h) := by
  cases h1.kx
  exact ⟨rfl, pe_slice sl_U h1.pe hl.po hh.po, fun c hc pn H0 env σ H Qd Q S ht k => by
    refine h1.rf c hc pn H0 env σ H _ _ S ht fun d v H1 q1 k1 j1 r1 => ?_
    subst hc
    have S1 := S.grow k1 j1
    refine hl.rf c rfl pn H0 env σ H1 _ _ S1 q1 fun i H2 q2 k2 j2 => ?_
    have S2 := S1.grow k2 j2
    refine hh.rf c rfl pn H0 env σ H2 _ _ S2 q2 fun j H3 q3 k3 j3 => ?_
    have S3 := S2.grow k3 j3
    have r3 := RpO.keep (k2.trans k3) S.ok.sub (fun a h => Mof.of_R S.ok h) r1
    have k13 := (k1.trans k2).trans k3
    cases d with
    | lst ds =>
      obtain ⟨p, vs, rfl, hp, aa⟩ := r3.lst
      refine .inl ⟨p, vs, rfl, SqL.of hp, fun l hl => ?_⟩
      exact k _ _ _ q3 (fresh_keep k13 hl) (fresh_j S.ok j3 hl) (.lst (fun z => S3.domM l z hl) upd_same (RpAll.keep (Keep.upd_new hl) (cut_all aa _ _)))
    | scr ns =>
      rcases r3 with r3 | ⟨_, _, _, _, e, _⟩
      · obtain ⟨p, rfl, hp⟩ := r3.scr_seq
        refine .inl ⟨p, _, rfl, hp, fun l hl => ?_⟩
        exact k _ _ _ q3 (fresh_keep k13 hl) (fresh_j S.ok j3 hl) (.lst (fun z => S3.domM l z hl) upd_same (RpAll.keep (Keep.upd_new hl) (cut_all (RpAll.ints ns) _ _)))
      · cases e
    | tup ds =>
      obtain ⟨p, vs, rfl, hp, aa⟩ := r3.tup
      have el := RpAll.length aa
      refine .inr ⟨p, vs, rfl, hp, fun hw => ?_, fun _ l hl => ?_⟩
      · rw [el] at hw
        have q3' : Qd (.tup ds) := by rw [← cut_whole hw]; exact q3
        rcases r3 with r3 | ⟨_, _, _, _, e, _⟩
        · exact k _ _ H3 q3' k13 j3 r3
        · cases e
      · exact k _ _ _ q3 (fresh_keep k13 hl) (fresh_j S.ok j3 hl) (.tup (fun z => S3.domM l z hl) upd_same (RpAll.keep (Keep.upd_new hl) (cut_all aa _ _)))
    | _ => exact q3.elim⟩
/-! ### calls of what is built in -/
abbrev FL := List D → (D → Prop) → Prop
def CaD (K : PySem.W.Frag) (r : List V → Hp → VK → Prop) (f : FL) : Prop := ∀ (M0 M : Addr → Prop) (H : Hp) (vs : List V) (ds : List D) (Qd : D → Prop) (Q : VK), (∀ a, M a → H a ≠ none) → RpOs K M0 M H vs ds → f ds Qd →
  (∀ d' v' H', Qd d' → Same H H' → Rp K M H' v' d' → Q v' H') → r vs H Q
def sCall (f : FL) (u : TDs) : TD := fun env Q => u env fun ds => f ds Q
theorem rf_cb {K : PySem.W.Frag} {r : List V → Hp → VK → Prop} {f : FL} (hd : CaD K r f) (h : RfAO K rg ts u) : Rf K rg (tCB r ts) (sCall f u) := fun c hc pn H0 env σ H Qd Q S ht k => by
  refine h c hc pn H0 env σ H _ _ S ht fun ds vs H1 q1 k1 j1 r1 => ?_
  subst hc
  have S1 := S.grow k1 j1
  refine hd c.M (Mof c env) H1 vs ds Qd Q S1.domM r1 q1 fun d' v' H2 q2 s2 r2 => ?_
  exact k d' v' H2 q2 (k1.trans (Keep.of_same s2)) (S1.same s2).j r2
theorem d_callB {id : String} {x : Str} {p : Pos} {r : List V → Hp → VK → Prop} {f : FL} (hc : CallR X (.builtin id) r) (hd : CaD K r f) (hg : Gl X x) (hm : X.mg x = none) (hv : bootBuiltins x = some (.builtin id)) (ha : DAO X K rg (e :: es) ts u) (hn : x ≠ "__name__" := by decide) (hdb : (x == ("__debug__" : Str)) = false := by decide)
    (he : starEach (e :: es) X.env = (false, eval e X.env) :: starEach es X.env := by rfl) (hpl : (backTo pos (starEach es X.env)).any (·.1) = false := by rfl) : DP X K rg (.Call (.Name x p) (e :: es) [] pos) (tCB r ts) (sCall f u) := by
  cases ha.kx
  exact ⟨rfl, pe_callB hc hg hm hv ha.pa hn hdb he hpl, rf_cb hd ha.rf⟩
theorem d_callTy {T : String} {x : Str} {p : Pos} {r : List V → Hp → VK → Prop} {f : FL} (hc : CallR X (.type T) r) (hd : CaD K r f) (hg : Gl X x) (hm : X.mg x = none) (hv : bootBuiltins x = some (.type T)) (ha : DAO X K rg (e :: es) ts u) (hn : x ≠ "__name__" := by decide) (hdb : (x == ("__debug__" : Str)) = false := by decide)
    (he : starEach (e :: es) X.env = (false, eval e X.env) :: starEach es X.env := by rfl) (hpl : (backTo pos (starEach es X.env)).any (·.1) = false := by rfl) : DP X K rg (.Call (.Name x p) (e :: es) [] pos) (tCB r ts) (sCall f u) := by
  cases ha.kx
  exact ⟨rfl, pe_callTy hc hg hm hv ha.pa hn hdb he hpl, rf_cb hd ha.rf⟩
theorem RpOs.one {K : PySem.W.Frag} {M0 M : Addr → Prop} {H : Hp} {vs : List V} {d : D} (r : RpOs K M0 M H vs [d]) : ∃ v, vs = [v] ∧ RpO K M0 M H v d := by
  cases r with | cons a b => cases b; exact ⟨_, rfl, a⟩
theorem RpOs.two {K : PySem.W.Frag} {M0 M : Addr → Prop} {H : Hp} {vs : List V} {d e : D} (r : RpOs K M0 M H vs [d, e]) : ∃ v w, vs = [v, w] ∧ RpO K M0 M H v d ∧ RpO K M0 M H w e := by
  cases r with | cons a b => cases b with | cons a' b => cases b; exact ⟨_, _, rfl, a, a'⟩
/-- len -/
def fLen : FL := fun ds Q => match ds with
  | [.lst xs] => Q (.int xs.length) | [.scr xs] => Q (.int xs.length) | [.tup xs] => Q (.int xs.length) | [.str z] => z.length ≤ sizeLine ∧ Q (.int z.length) | _ => False
theorem cad_len {K : PySem.W.Frag} : CaD K (fun xs H Q => ∃ x n, xs = [x] ∧ LenV K x H n ∧ Q (.int n) H) fLen := by
  intro M0 M H vs ds Qd Q hM r hf k
  unfold fLen at hf
  split at hf
  · obtain ⟨v, rfl, r1⟩ := r.one
    obtain ⟨p, xs, rfl, h1, a1⟩ := r1.lst
    exact ⟨_, _, rfl, .inl ⟨xs, SqL.of h1, rfl⟩, by rw [RpAll.length a1]; exact k _ _ H hf (Same.refl H) (.int _)⟩
  · obtain ⟨v, rfl, r1⟩ := r.one
    rcases r1 with r1 | ⟨_, _, _, _, e, _⟩
    · obtain ⟨p, rfl, h1⟩ := r1.scr_seq
      exact ⟨_, _, rfl, .inl ⟨_, h1, rfl⟩, by rw [List.length_map]; exact k _ _ H hf (Same.refl H) (.int _)⟩
    · cases e
  · obtain ⟨v, rfl, r1⟩ := r.one
    obtain ⟨p, xs, rfl, h1, a1⟩ := r1.tup
    exact ⟨_, _, rfl, .inr ⟨xs, h1, rfl⟩, by rw [RpAll.length a1]; exact k _ _ H hf (Same.refl H) (.int _)⟩
  · obtain ⟨v, rfl, r1⟩ := r.one
    rw [r1.str]
    exact ⟨_, _, rfl, ⟨hf.1, rfl⟩, k _ _ H hf.2 (Same.refl H) (.int _)⟩
  · exact hf.elim
/-- tuple(..) -/
def fTuple : FL := fun ds Q => match ds with | [.lst xs] => Q (.tup xs) | [.tup xs] => Q (.tup xs) | _ => False
theorem cad_tuple {K : PySem.W.Frag} : CaD K (fun xs H Q => ∃ p ys, xs = [.ref p] ∧ ((SqL K H p ys ∧ ∀ l, H l = none → Q (.ref l) (upd H l (.tup ys))) ∨ (SqT K H p ys ∧ Q (.ref p) H))) fTuple := by
  intro M0 M H vs ds Qd Q hM r hf k
  unfold fTuple at hf
  split at hf
  · obtain ⟨v, rfl, r1⟩ := r.one
    obtain ⟨p, xs, rfl, h1, a1⟩ := r1.lst
    exact ⟨p, xs, rfl, .inl ⟨SqL.of h1, fun l hl => k _ _ _ hf (fun b o e => by rw [upd_ne (ne_of_none e hl)]; exact e) (.tup (fun z => hM l z hl) upd_same (RpAll.keep (Keep.upd_new hl) a1))⟩⟩
  · obtain ⟨v, rfl, r1⟩ := r.one
    obtain ⟨p, xs, rfl, h1, a1⟩ := r1.tup
    rcases r1 with r1 | ⟨_, _, _, _, e, _⟩
    · exact ⟨p, xs, rfl, .inr ⟨h1, k _ _ H hf (Same.refl H) r1⟩⟩
    · cases e
  · exact hf.elim
/-- list(..): a new one -/
def sListOf (t : TD) : TDs := fun env Q => t env fun d => match d with | .lst xs => Q xs | .tup xs => Q xs | _ => False
theorem fresh_all {K : PySem.W.Frag} {M : Addr → Prop} {H : Hp} {p : Addr} {o : HO} (hp : H p = none) {vs : List V} {ds : List D} (r : RpAll K M H vs ds) : RpAll K (fun b => M b ∨ b = p) (upd H p o) vs ds :=
  RpAll.keep (Keep.upd_new hp) (RpAll.anti (fun b o e z => by rcases z with z | rfl; exact z; rw [hp] at e; cases e) r)
theorem df_list {x : Str} {p : Pos} (hg : Gl X x) (hm : X.mg x = none) (hv : bootBuiltins x = some (.type "list")) (h : DO X K rg e te t) (hn : x ≠ "__name__" := by decide) (hdb : (x == ("__debug__" : Str)) = false := by decide)
    (he : starEach [e] X.env = (false, eval e X.env) :: starEach [] X.env := by rfl) : DF X K rg (.Call (.Name x p) [e] [] pos) (tCB (fun xs H Q => ∃ p ys, xs = [.ref p] ∧ (SqL K H p ys ∨ SqT K H p ys) ∧ ∀ l, H l = none → Q (.ref l) (upd H l (.lst ys))) (tCons te tNil)) (sListOf t) := by
  cases h.kx
  exact ⟨rfl, pe_callTy call_list_of hg hm hv (pa_cons h.pe pa_nil he) hn hdb he rfl, fun c hc pn H0 env σ H Qd Q S ht k => by
    refine h.rf c hc pn H0 env σ H _ _ S ht fun d v H1 q1 k1 j1 r1 => ?_
    subst hc
    cases d with
    | lst xs =>
      obtain ⟨p, vs, rfl, h1, a1⟩ := r1.lst
      exact ⟨p, vs, rfl, .inl (SqL.of h1), fun l hl => k xs l vs _ q1 (none_back S k1 j1 hl) (fresh_keep k1 hl) (fresh_j S.ok j1 hl) upd_same (fresh_all hl a1)⟩
    | tup xs =>
      obtain ⟨p, vs, rfl, h1, a1⟩ := r1.tup
      exact ⟨p, vs, rfl, .inr h1, fun l hl => k xs l vs _ q1 (none_back S k1 j1 hl) (fresh_keep k1 hl) (fresh_j S.ok j1 hl) upd_same (fresh_all hl a1)⟩
    | _ => exact q1.elim⟩
/-- a slice of a list: a new one -/
def sSlF (t : TD) (l h : En → (Option Int → Prop) → Prop) : TDs := fun env Q => t env fun d => l env fun lo => h env fun hi => match d with | .lst ds => Q (cutD ds lo hi) | _ => False
theorem df_slice {lo hi : Option Expr} {tl th : TO} {l h : En → (Option Int → Prop) → Prop} {p2 : Pos} (h1 : DO X K rg e te t) (hl : DPo X K rg lo tl l) (hh : DPo X K rg hi th h) : DF X K rg (.Subscript e (.Slice lo hi none p2) pos) (tSl (rSlL K) te tl th) (sSlF t l h) := by
  cases h1.kx
  exact ⟨rfl, pe_slice sl_list h1.pe hl.po hh.po, fun c hc pn H0 env σ H Qd Q S ht k => by
    refine h1.rf c hc pn H0 env σ H _ _ S ht fun d v H1 q1 k1 j1 r1 => ?_
    subst hc
    have S1 := S.grow k1 j1
    refine hl.rf c rfl pn H0 env σ H1 _ _ S1 q1 fun i H2 q2 k2 j2 => ?_
    have S2 := S1.grow k2 j2
    refine hh.rf c rfl pn H0 env σ H2 _ _ S2 q2 fun j H3 q3 k3 j3 => ?_
    have r3 := RpO.keep (k2.trans k3) S.ok.sub (fun a h => Mof.of_R S.ok h) r1
    have k13 := (k1.trans k2).trans k3
    cases d with
    | lst ds =>
      obtain ⟨p, vs, rfl, hp, aa⟩ := r3.lst
      refine ⟨p, vs, rfl, SqL.of hp, fun l hl => ?_⟩
      exact k _ l _ _ q3 (none_back S k13 j3 hl) (fresh_keep k13 hl) (fresh_j S.ok j3 hl) upd_same (fresh_all hl (cut_all aa _ _))
    | _ => exact q3.elim⟩
theorem cl_len (hK : X.K = K := by rfl) : CallR X (.builtin "len") (fun xs H Q => ∃ x n, xs = [x] ∧ LenV K x H n ∧ Q (.int n) H) := by
  cases hK
  exact call_len
theorem cl_tuple (hK : X.K = K := by rfl) : CallR X (.type "tuple") (fun xs H Q => ∃ p ys, xs = [.ref p] ∧ ((SqL K H p ys ∧ ∀ l, H l = none → Q (.ref l) (upd H l (.tup ys))) ∨ (SqT K H p ys ∧ Q (.ref p) H))) := by
  cases hK
  exact call_tuple_of
theorem cl_sortedS (hK : X.K = K := by rfl) : CallR X (.builtin "sorted") (rSortedS K) := by
  cases hK
  exact cr_sortedS
end
end DL

namespace DL
open PySem L2
/-! ### targets -/
abbrev SG := D → En → (En → Prop) → Prop
abbrev SGs := List D → En → (En → Prop) → Prop
def slotFree (env : En) (i : Nat) : Bool := match env[i]? with | some none => true | some (some (.dat _)) => true | _ => false
def RfG (K : PySem.W.Frag) (rg : Rg) (g : TG) (sg : SG) (vs : List Nat) : Prop :=
  ∀ (c : Dc), c.rg = rg → ∀ (pn : Pin) (H0 : Hp) (env : En) (σ : St) (H : Hp) (v : V) (d : D) (Qe : En → Prop) (Q : St → Hp → Prop), Sd K c pn H0 env σ H → Rp K (Mof c env) H v d → sg d env Qe →
    (∀ env' σ', Qe env' → Sd K c pn H0 env' σ' H → (∀ a, Mof c env a ↔ Mof c env' a) → L2.wipe σ' vs = L2.wipe σ vs → Q σ' H) → g v σ H Q
def RfGs (K : PySem.W.Frag) (rg : Rg) (g : TGs) (sg : SGs) (vs : List Nat) : Prop :=
  ∀ (c : Dc), c.rg = rg → ∀ (pn : Pin) (H0 : Hp) (env : En) (σ : St) (H : Hp) (xs : List V) (ds : List D) (Qe : En → Prop) (Q : St → Hp → Prop), Sd K c pn H0 env σ H → RpAll K (Mof c env) H xs ds → sg ds env Qe →
    (∀ env' σ', Qe env' → Sd K c pn H0 env' σ' H → (∀ a, Mof c env a ↔ Mof c env' a) → L2.wipe σ' vs = L2.wipe σ vs → Q σ' H) → g xs σ H Q
structure DG (X : Cx) (K : PySem.W.Frag) (rg : Rg) (tg : Expr) (g : TG) (sg : SG) (vs : List Nat) : Prop where
  kx : X.K = K
  pg : PG X tg g
  rf : RfG K rg g sg vs
structure DGs (X : Cx) (K : PySem.W.Frag) (rg : Rg) (tg : List Expr) (g : TGs) (sg : SGs) (vs : List Nat) : Prop where
  kx : X.K = K
  pg : PGs X tg g
  rf : RfGs K rg g sg vs
theorem wipe_get (σ : St) : ∀ (vs : List Nat) (j : Nat), (L2.wipe σ vs)[j]? = if j ∈ vs ∧ j < σ.length then some none else σ[j]?
  | [], j => by simp [L2.wipe]
  | v :: vs, j => by
    have ih := wipe_get σ vs j
    unfold L2.wipe
    rw [List.getElem?_set, wipe_length]
    by_cases h : v = j
    · subst h
      by_cases hl : v < σ.length
      · simp [hl]
      · simp [hl]
    · rw [if_neg h, ih]
      have : (j ∈ v :: vs) ↔ j ∈ vs := by
        rw [List.mem_cons]
        exact ⟨fun z => z.elim (fun e => absurd e.symm h) id, .inr⟩
      simp only [this]
theorem wipe_set {σ : St} {i : Nat} {x : Option V} {vs : List Nat} (h : i ∈ vs) : L2.wipe (σ.set i x) vs = L2.wipe σ vs := by
  apply List.ext_getElem?
  intro j
  rw [wipe_get, wipe_get, List.length_set, List.getElem?_set]
  by_cases e : i = j
  · subst e
    by_cases hl : i < σ.length
    · simp [h, hl]
    · simp [hl]
  · simp [e]
theorem mof_set {c : Dc} {env : En} {i : Nat} {d : D} (h : slotFree env i = true) (a : Addr) : Mof c env a ↔ Mof c (env.set i (some (.dat d))) a := by
  constructor
  · rintro (m | ⟨j, s, h1, h2⟩)
    · exact .inl m
    · refine .inr ⟨j, s, ?_, h2⟩
      rw [List.getElem?_set_ne]
      · exact h1
      · rintro rfl
        unfold slotFree at h
        rw [h1] at h
        cases s with
        | dat d => cases h2
        | _ => cases h
  · rintro (m | ⟨j, s, h1, h2⟩)
    · exact .inl m
    · by_cases e : i = j
      · subst e
        by_cases hl : i < env.length
        · rw [List.getElem?_set_self hl] at h1; cases h1; cases h2
        · rw [List.getElem?_eq_none (by simpa using hl)] at h1; cases h1
      · rw [List.getElem?_set_ne e] at h1
        exact .inr ⟨j, s, h1, h2⟩
def sgName (i : Nat) : SG := fun d env Q => slotFree env i = true ∧ Q (env.set i (some (.dat d)))
section
variable {X : Cx} {K : PySem.W.Frag} {rg : Rg} {tg : Expr} {es : List Expr} {g : TG} {gs : TGs} {sg : SG} {sgs : SGs} {vs : List Nat} {pos : Pos}
theorem slot_lt {env : En} {i : Nat} (h : slotFree env i = true) : i < env.length := by
  unfold slotFree at h
  cases e : env[i]? with
  | none => rw [e] at h; cases h
  | some s => exact (List.getElem?_eq_some_iff.mp e).1
theorem dg_name {i : Nat} (h : PG X tg (gName i)) (hi : i ∈ vs) (hK : X.K = K := by rfl) : DG X K rg tg (gName i) (sgName i) vs := by
  cases hK
  exact ⟨rfl, h, fun c hc pn H0 env σ H v d Qe Q S r ht k => by
  obtain ⟨h1, h2⟩ := ht
  exact k _ _ h2 (S.setD i (slot_lt h1) r) (mof_set h1) (wipe_set hi)⟩
def sgNil : SGs := fun ds env Q => ds = [] ∧ Q env
def sgCons (sg : SG) (sgs : SGs) : SGs := fun ds env Q => match ds with | d :: ds => sg d env fun env' => sgs ds env' Q | [] => False
def sgTup (n : Nat) (sgs : SGs) : SG := fun d env Q => match d with | .tup ds => ds.length = n ∧ sgs ds env Q | _ => False
theorem dgs_nil (hK : X.K = K := by rfl) : DGs X K rg [] gNil sgNil vs := by
  cases hK
  exact ⟨rfl, pgs_nil, fun c hc pn H0 env σ H xs ds Qe Q S r ht k => by
  obtain ⟨rfl, h⟩ := ht
  cases r
  exact ⟨rfl, k _ _ h S (fun _ => Iff.rfl) rfl⟩⟩
theorem dgs_cons {e : Expr} (h1 : DG X K rg e g sg vs) (h2 : DGs X K rg es gs sgs vs) (hs : (assignEach (e :: es) X.env).map (·.2) = assign e X.env :: (assignEach es X.env).map (·.2) := by rfl) : DGs X K rg (e :: es) (gCons g gs) (sgCons sg sgs) vs := by
  cases h1.kx
  exact ⟨rfl, pgs_cons h1.pg h2.pg hs, fun c hc pn H0 env σ H xs ds Qe Q S r ht k => by
    cases r with
    | nil => exact ht.elim
    | cons r1 r2 =>
      refine ⟨_, _, rfl, h1.rf c hc pn H0 env σ H _ _ _ _ S r1 ht fun env1 σ1 q1 S1 m1 w1 => ?_⟩
      exact h2.rf c hc pn H0 env1 σ1 H _ _ _ _ S1 (RpAll.anti (fun a o e z => (m1 a).mpr z) r2) q1 fun env2 σ2 q2 S2 m2 w2 => k env2 σ2 q2 S2 (fun a => (m1 a).trans (m2 a)) (w2.trans w1)⟩
theorem dg_tup {k n : Nat} (hc : X.calm = true) (h : DGs X K rg es gs sgs vs) (hn : (assignEach es X.env).length = n := by rfl) (hst : (assignEach es X.env).findIdx? (·.1) = none := by rfl) : DG X K rg (.Tuple es k pos) (gTup K n gs) (sgTup n sgs) vs := by
  cases h.kx
  exact ⟨rfl, pg_tup hc h.pg hn hst, fun c hcc pn H0 env σ H v d Qe Q S r ht k => by
    cases d with
    | tup ds =>
      obtain ⟨h1, h2⟩ := ht
      cases r with
      | tup m e a => exact ⟨_, _, rfl, SqT.of e, (RpAll.length a).trans h1, h.rf c hcc pn H0 env σ H _ _ _ _ S a h2 k⟩
      | tupK e a => exact ⟨_, _, rfl, .inr e, (RpAll.length a).trans h1, h.rf c hcc pn H0 env σ H _ _ _ _ S a h2 k⟩
    | _ => exact ht.elim⟩
end
/-! ### what is walked -/
def Zof (o : Bool) (c : Dc) (env : En) : Addr → Prop := if o then c.M else Mof c env
def RfI (K : PySem.W.Frag) (rg : Rg) (o : Bool) (wi : TI) (ti : TDs) : Prop :=
  ∀ (c : Dc), c.rg = rg → ∀ (pn : Pin) (H0 : Hp) (env : En) (σ : St) (H : Hp) (Qd : List D → Prop) (R : It → Hp → Prop), Sd K c pn H0 env σ H → ti env Qd →
    (∀ (xs : List D) (J : It) (G : Hp → Prop) (Y : Nat → Hp → V → Hp → Prop) (H1 : Hp), Qd xs → Keep c.rg.R H H1 → c.rg.J H1 → Walk J xs.length G Y → (∀ H2, Keep (Zof o c env) H1 H2 → G H2) →
      (∀ (M : Addr → Prop) (i : Nat) (H2 : Hp) (x : V) (H3 : Hp), i < xs.length → Keep (Zof o c env) H1 H2 → Keep (Mof c env) H1 H2 → (∀ a o, H1 a = some o → M a → Mof c env a) → (∀ a, M a → H2 a ≠ none) → Y i H2 x H3 → ∃ d, xs[i]? = some d ∧ Same H2 H3 ∧ Rp K M H3 x d) → R J H1) → wi σ H R
structure DI (X : Cx) (K : PySem.W.Frag) (rg : Rg) (o : Bool) (tg iter : Expr) (wi : TI) (ti : TDs) : Prop where
  kx : X.K = K
  pi : PI X tg iter wi
  rf : RfI K rg o wi ti
/-- over a list or a tuple -/
def iSeqU (K : PySem.W.Frag) (te : TE) : TI := fun σ H R => te σ H fun x H1 => ∃ a, x = .ref a ∧ ((∃ xs, SqL K H1 a xs ∧ R (Itl K a) H1) ∨ (∃ xs, SqT K H1 a xs ∧ R (Itt K a) H1))
section
variable {X : Cx} {K : PySem.W.Frag} {rg : Rg} {tg e : Expr} {te : TE} {t : TD} {pos : Pos}
theorem pi_seqU (h : PE X e te) : PI X tg e (iSeqU X.K te) := by
  refine ⟨fun pins s σ H R I hw => ?_⟩
  refine thn (h.run pins s σ H _ I hw) fun v s1 ⟨x, H1, I1, r1, q1⟩ => ?_
  obtain ⟨a, rfl, q1⟩ := q1
  cases r1
  rcases q1 with ⟨xs, hq, q⟩ | ⟨xs, hq, q⟩
  · obtain ⟨its, rv, p, hz⟩ := I1.list hq
    refine wpAny_pyIter_list p.isList ?_
    refine ⟨s1.heap.objs.size, [s1.heap.objs.size], _, _, H1, rfl, I1.kept (t' := s1.toks) fun b o e => Heap.get?_push_of_some _ e, turn_list a _, ⟨_, Heap.get?_push_size _ rfl, rfl, rfl⟩, fun b hb => ?_, q⟩
    have e : b = s1.heap.objs.size := by simpa using hb
    subst e
    exact I1.fpOk (Nat.le_refl _) (I1.hok.fresh (Nat.le_refl _))
  · obtain ⟨its, rv, p, hz⟩ := I1.tuple hq
    refine wpAny_pyIter_tuple (show s1.heap.IsTuple a its.toArray from p) ?_
    refine ⟨s1.heap.objs.size, [s1.heap.objs.size], _, _, H1, rfl, I1.kept (t' := s1.toks) fun b o e => Heap.get?_push_of_some _ e, turn_tuple a _, ⟨_, Heap.get?_push_size _ rfl, rfl, rfl⟩, fun b hb => ?_, q⟩
    have e : b = s1.heap.objs.size := by simpa using hb
    subst e
    exact I1.fpOk (Nat.le_refl _) (I1.hok.fresh (Nat.le_refl _))
def sSeq (t : TD) : TDs := fun env Q => t env fun d => match d with | .lst xs => Q xs | .tup xs => Q xs | _ => False
/-- what a walk over items gives -/
theorem walk_facts {K : PySem.W.Frag} {c : Dc} {env : En} {o : Bool} {H1 : Hp} {vs : List V} {xs : List D} (r : RpAll K (Mof c env) H1 vs xs) (M : Addr → Prop) (i : Nat) (H2 : Hp) (x : V) (H3 : Hp) (k : Keep (Mof c env) H1 H2) (hm : ∀ a o, H1 a = some o → M a → Mof c env a)
    (y : YAt vs i H2 x H3) : ∃ d, xs[i]? = some d ∧ Same H2 H3 ∧ Rp K M H3 x d := by
  obtain ⟨rfl, hx⟩ := y
  obtain ⟨d, hd, rd⟩ := RpAll.get r hx
  have rd1 : Rp K (fun b => Mof c env b ∨ M b) H1 x d := Rp.anti (fun b o e z => z.elim id (hm b o e)) rd
  have rd2 : Rp K (fun b => Mof c env b ∨ M b) _ x d := Rp.keep (k.mono fun b z => .inl z) rd1
  exact ⟨d, hd, Same.refl _, Rp.anti (fun _ _ _ z => .inr z) rd2⟩
theorem di_data (h : DP X K rg e te t) : DI X K rg false tg e (iSeqU K te) (sSeq t) := by
  cases h.kx
  exact ⟨rfl, pi_seqU h.pe, fun c hc pn H0 env σ H Qd R S ht k => by
  refine h.rf c hc pn H0 env σ H _ _ S ht fun d v H1 q1 k1 j1 r1 => ?_
  cases d with
  | lst xs =>
    cases r1 with
    | lst m e a =>
      refine ⟨_, rfl, .inl ⟨_, SqL.of e, k xs _ _ _ H1 q1 k1 j1 (by rw [← RpAll.length a]; exact walk_list) (fun H2 z => SqL.of (z _ _ e m)) fun M i H2 x H3 _ _ k2 hm _ y => walk_facts (o := false) a M i H2 x H3 k2 hm y⟩⟩
  | tup xs =>
    cases r1 with
    | tup m e a =>
      refine ⟨_, rfl, .inr ⟨_, SqT.of e, k xs _ _ _ H1 q1 k1 j1 (by rw [← RpAll.length a]; exact walk_tup) (fun H2 z => SqT.of (z _ _ e m)) fun M i H2 x H3 _ _ k2 hm _ y => walk_facts (o := false) a M i H2 x H3 k2 hm y⟩⟩
    | tupK e a =>
      refine ⟨_, rfl, .inr ⟨_, .inr e, k xs _ _ _ H1 q1 k1 j1 (by rw [← RpAll.length a]; exact walk_tup) (fun H2 z => (Or.inr e : SqT X.K H2 _ _)) fun M i H2 x H3 _ _ k2 hm _ y => walk_facts (o := false) a M i H2 x H3 k2 hm y⟩⟩
  | _ => exact q1.elim⟩
theorem di_op (h : DO X K rg e te t) : DI X K rg true tg e (iSeqU K te) (sSeq t) := by
  cases h.kx
  exact ⟨rfl, pi_seqU h.pe, fun c hc pn H0 env σ H Qd R S ht k => by
  refine h.rf c hc pn H0 env σ H _ _ S ht fun d v H1 q1 k1 j1 r1 => ?_
  have nR : ∀ a, ¬ Mof c env a → ¬ c.M a := fun a m z => m (.inl z)
  cases d with
  | lst xs =>
    rcases r1 with r1 | ⟨p, vs, ds, rfl, e2, m, e, a⟩
    · cases r1 with
      | lst m e a =>
        exact ⟨_, rfl, .inl ⟨_, SqL.of e, k xs _ _ _ H1 q1 k1 j1 (by rw [← RpAll.length a]; exact walk_list) (fun H2 z => SqL.of (z _ _ e (nR _ m))) fun M i H2 x H3 _ _ k2 hm _ y => walk_facts (o := true) a M i H2 x H3 k2 hm y⟩⟩
    · cases e2
      exact ⟨_, rfl, .inl ⟨_, SqL.of e, k xs _ _ _ H1 q1 k1 j1 (by rw [← RpAll.length a]; exact walk_list) (fun H2 z => SqL.of (z _ _ e m)) fun M i H2 x H3 _ _ k2 hm _ y => walk_facts (o := true) a M i H2 x H3 k2 hm y⟩⟩
  | tup xs =>
    rcases r1 with r1 | ⟨p, vs, ds, rfl, e2, m, e, a⟩
    · cases r1 with
      | tup m e a =>
        exact ⟨_, rfl, .inr ⟨_, SqT.of e, k xs _ _ _ H1 q1 k1 j1 (by rw [← RpAll.length a]; exact walk_tup) (fun H2 z => SqT.of (z _ _ e (nR _ m))) fun M i H2 x H3 _ _ k2 hm _ y => walk_facts (o := true) a M i H2 x H3 k2 hm y⟩⟩
      | tupK e a =>
        exact ⟨_, rfl, .inr ⟨_, .inr e, k xs _ _ _ H1 q1 k1 j1 (by rw [← RpAll.length a]; exact walk_tup) (fun H2 z => (Or.inr e : SqT X.K H2 _ _)) fun M i H2 x H3 _ _ k2 hm _ y => walk_facts (o := true) a M i H2 x H3 k2 hm y⟩⟩
    · cases e2
  | _ => exact q1.elim⟩
/-- range(n) -/
def intsD (lo : Int) (n : Nat) : List D := (List.range n).map fun i => .int (lo + (i : Nat))
def sRng1 (u : TDs) : TDs := fun env Q => u env fun ds => match ds with | [.int j] => -(2 ^ 62) ≤ j ∧ j < 2 ^ 62 ∧ Q (intsD 0 j.toNat) | _ => False
def sRng2 (u : TDs) : TDs := fun env Q => u env fun ds => match ds with | [.int i, .int j] => (-(2 ^ 62) ≤ i ∧ i < 2 ^ 62 ∧ -(2 ^ 62) ≤ j ∧ j < 2 ^ 62) ∧ Q (intsD i (j - i).toNat) | _ => False
theorem intsD_length {lo : Int} {n : Nat} : (intsD lo n).length = n := by simp [intsD]
theorem rng_facts {K : PySem.W.Frag} {lo : Int} {n : Nat} (M : Addr → Prop) (i : Nat) (H2 : Hp) (x : V) (H3 : Hp) (hi : i < (intsD lo n).length) (y : YFn (fun i => V.int (lo + (i : Nat))) i H2 x H3) : ∃ d, (intsD lo n)[i]? = some d ∧ Same H2 H3 ∧ Rp K M H3 x d := by
  obtain ⟨rfl, rfl⟩ := y
  rw [intsD_length] at hi
  exact ⟨.int (lo + i), by simp [intsD, hi], Same.refl _, .int _⟩
theorem di_range1 {o : Bool} {a : Expr} {ta : TA} {u : TDs} {p : Pos} (hg : Gl X "range") (hm : X.mg "range" = none) (ha : DA X K rg [a] ta u) (hs : starEach [a] X.env = [(false, eval a X.env)] := by rfl) : DI X K rg o tg (.Call (.Name "range" p) [a] [] pos) (iRng1 ta) (sRng1 u) := by
  cases ha.kx
  exact ⟨rfl, pi_range1 hg hm ha.pa hs, fun c hc pn H0 env σ H Qd R S ht k => by
    refine ha.rf c hc pn H0 env σ H _ _ S ht fun ds vs H1 q1 k1 j1 r1 => ?_
    unfold sRng1 at ht
    match ds, q1 with
    | [.int j], q1 =>
      cases r1 with
      | cons r1 r2 =>
        cases r1; cases r2
        exact ⟨j, rfl, q1.1, q1.2.1, k _ _ _ _ H1 q1.2.2 k1 j1 (by rw [intsD_length]; exact walk_range) (fun _ _ => trivial) fun M i H2 x H3 hi _ _ _ _ y => rng_facts M i H2 x H3 hi y⟩⟩
theorem di_range2 {o : Bool} {a b : Expr} {ta : TA} {u : TDs} {p : Pos} (hg : Gl X "range") (hm : X.mg "range" = none) (ha : DA X K rg [a, b] ta u) (hs : starEach [a, b] X.env = [(false, eval a X.env), (false, eval b X.env)] := by rfl) (hs2 : starEach [b] X.env = [(false, eval b X.env)] := by rfl) :
    DI X K rg o tg (.Call (.Name "range" p) [a, b] [] pos) (iRng2 ta) (sRng2 u) := by
  cases ha.kx
  exact ⟨rfl, pi_range2 hg hm ha.pa hs hs2, fun c hc pn H0 env σ H Qd R S ht k => by
    refine ha.rf c hc pn H0 env σ H _ _ S ht fun ds vs H1 q1 k1 j1 r1 => ?_
    match ds, q1 with
    | [.int i, .int j], q1 =>
      cases r1 with
      | cons r1 r2 =>
        cases r2 with
        | cons r2 r3 =>
          cases r1; cases r2; cases r3
          exact ⟨i, j, rfl, q1.1, k _ _ _ _ H1 q1.2 k1 j1 (by rw [intsD_length]; exact walk_range) (fun _ _ => trivial) fun M i H2 x H3 hi _ _ _ _ y => rng_facts M i H2 x H3 hi y⟩⟩
end
end DL

namespace DL
open PySem L2
def Dc.with (c : Dc) (D : Addr) : Dc := ⟨fun a => c.M a ∨ a = D, c.P, c.rg⟩
section
variable {K : PySem.W.Frag} {c : Dc} {pn : Pin} {H0 : Hp} {env env' : En} {σ : St} {H H' : Hp} {i : Nat} {s : Sl} {a D' : Addr} {d : D} {v : V}
theorem mof_with {b : Addr} : Mof (c.with D') env b ↔ Mof c env b ∨ b = D' := by
  constructor
  · rintro ((h | h) | h)
    · exact .inl (.inl h)
    · exact .inr h
    · exact .inl (.inr h)
  · rintro ((h | h) | h)
    · exact .inl (.inl h)
    · exact .inr h
    · exact .inl (.inr h)
/-- what was not there at the entry -/
theorem Sd.h0 (S : Sd K c pn H0 env σ H) (h : H a = none) : H0 a = none := by
  cases q : H0 a with
  | none => rfl
  | some o =>
    by_cases hr : Rw c a
    · rcases hr with hr | hr
      · exact absurd h (S.ok.rg.dom H S.j a hr)
      · exact absurd h (S.dom a (S.ok.pm a hr).1)
    · rw [S.kp a o q hr] at h; cases h
/-- a new object that no data may hold -/
theorem Sd.inComp (S : Sd K c pn H0 env σ H) (hD : H D' = none) {o : HO} : Sd K (c.with D') pn H0 env σ (upd H D' o) := by
  have hM : ∀ b u, H b = some u → Mof (c.with D') env b → Mof c env b := fun b u e z => by
    rcases mof_with.mp z with z | rfl
    · exact z
    · rw [hD] at e; cases e
  have kM : ∀ M : Addr → Prop, Keep M H (upd H D' o) := fun M => Keep.upd_new hD
  refine ⟨⟨fun a h => .inl (S.ok.sub a h), S.ok.rg, fun a h => ⟨.inl (S.ok.pm a h).1, (S.ok.pm a h).2⟩⟩, S.len, fun i s e => ?_, fresh_j S.ok S.j hD, S.kp.trans (kM _), fun a h e => ?_, S.apart, S.pk, S.pk _ _ _ _ (S.pk _ _ _ _ S.pn Keep.refl hM) (kM _) fun _ _ _ z => z⟩
  · obtain ⟨v, h1, h2⟩ := S.sl i s e
    refine ⟨v, h1, ?_⟩
    cases s with
    | dat d => exact Rp.keep (kM _) (Rp.anti hM h2)
    | own b ds =>
      obtain ⟨q1, q2, q3, vs, q4, q5⟩ := h2
      refine ⟨q1, q2, ?_, vs, kM (fun _ => False) b _ q4 id, RpAll.keep (kM _) (RpAll.anti hM q5)⟩
      rintro (z | rfl)
      · exact q3 z
      · rw [hD] at q4; cases q4
    | self b C ns ds =>
      obtain ⟨q1, q2, dx, vs, q4, q5, q6⟩ := h2
      exact ⟨q1, q2, dx, vs, kM (fun _ => False) b _ q4 id, q5, RpAll.keep (kM _) (RpAll.anti hM q6)⟩
  · by_cases ea : a = D'
    · rw [ea, upd_same] at e; cases e
    · rw [upd_ne ea] at e
      rcases h with h | h
      · exact S.dom a h e
      · exact ea h
/-- that object is changed -/
theorem Sd.updD (S : Sd K (c.with D') pn H0 env σ H) (n0 : H0 D' = none) (nr : ¬ c.rg.R D') (np : c.P ≠ some D') {o : HO} : Sd K (c.with D') pn H0 env σ (upd H D' o) := by
  have kM : Keep (Mof (c.with D') env) H (upd H D' o) := fun b u e m => by
    rw [upd_ne (fun z => m (mof_with.mpr (.inr z)))]; exact e
  refine ⟨S.ok, S.len, fun i s e => ?_, S.ok.rg.stay H _ S.j (fun b u e hr => by rw [upd_ne (fun z => nr (by rw [← z]; exact hr))]; exact e), fun b u e m => ?_, fun a h e => ?_, S.apart, S.pk, S.pk _ _ _ _ S.pn kM fun _ _ _ z => z⟩
  · obtain ⟨v, h1, h2⟩ := S.sl i s e
    refine ⟨v, h1, ?_⟩
    cases s with
    | dat d => exact Rp.keep kM h2
    | own b ds =>
      obtain ⟨q1, q2, q3, vs, q4, q5⟩ := h2
      exact ⟨q1, q2, q3, vs, by rw [upd_ne (fun z => q3 (.inr z))]; exact q4, RpAll.keep kM q5⟩
    | self b C ns ds =>
      obtain ⟨q1, q2, dx, vs, q4, q5, q6⟩ := h2
      have q2' : c.P = some b := q2
      exact ⟨q1, q2, dx, vs, by rw [upd_ne (fun z => np (by rw [q2', z]))]; exact q4, q5, RpAll.keep kM q6⟩
  · have hb : b ≠ D' := fun z => by rw [z, n0] at e; cases e
    rw [upd_ne hb]; exact S.kp b u e m
  · by_cases ea : a = D'
    · rw [ea, upd_same] at e; cases e
    · rw [upd_ne ea] at e; exact S.dom a h e
/-- .. and all else grows -/
theorem Sd.growD (S : Sd K (c.with D') pn H0 env σ H) (k : Keep (fun a => c.rg.R a ∨ a = D') H H') (j : c.rg.J H') (hD : H' D' ≠ none) (n0 : H0 D' = none) (np : c.P ≠ some D') : Sd K (c.with D') pn H0 env σ H' := by
  have sub : ∀ a, (c.rg.R a ∨ a = D') → Mof (c.with D') env a := fun a z => mof_with.mpr (z.elim (fun z => by
    rcases S.ok.sub a z with z | z
    · exact .inl (.inl z)
    · exact .inr z) .inr)
  have kM : Keep (Mof (c.with D') env) H H' := k.mono sub
  refine ⟨S.ok, S.len, fun i s e => ?_, j, fun b u e m => ?_, fun a h e => ?_, S.apart, S.pk, S.pk _ _ _ _ S.pn kM fun _ _ _ z => z⟩
  · obtain ⟨v, h1, h2⟩ := S.sl i s e
    refine ⟨v, h1, ?_⟩
    cases s with
    | dat d => exact Rp.keep kM h2
    | own b ds =>
      obtain ⟨q1, q2, q3, vs, q4, q5⟩ := h2
      exact ⟨q1, q2, q3, vs, k b _ q4 (fun z => q3 (z.elim (fun z => S.ok.sub b z) .inr)), RpAll.keep kM q5⟩
    | self b C ns ds =>
      obtain ⟨q1, q2, dx, vs, q4, q5, q6⟩ := h2
      have q2' : c.P = some b := q2
      exact ⟨q1, q2, dx, vs, k b _ q4 (fun z => z.elim (S.ok.pm b q2).2 fun z => np (by rw [q2', z])), q5, RpAll.keep kM q6⟩
  · have hb : b ≠ D' := fun z => by rw [z, n0] at e; cases e
    exact k b u (S.kp b u e m) fun z => z.elim (fun z => m (.inl z)) hb
  · by_cases ea : a = D'
    · rw [ea] at e; exact hD e
    · by_cases hr : c.rg.R a
      · exact S.ok.rg.dom H' j a hr e
      · cases q : H a with
        | none => exact S.dom a h q
        | some o => rw [k a o q fun z => z.elim hr ea] at e; cases e
/-- none of these slots holds a list of one's own -/
def ownFree (env : En) (vs : List Nat) : Bool := vs.all fun i => match env[i]? with | some (some (.own _ _)) => false | some (some (.self _ _ _ _)) => false | _ => true
theorem wipeE_get : ∀ (vs : List Nat) (j : Nat), (wipeE env vs)[j]? = if j ∈ vs ∧ j < env.length then some none else env[j]?
  | [], j => by simp [wipeE]
  | v :: vs, j => by
    have ih := wipeE_get vs j
    have hl : ∀ vs, (wipeE env vs).length = env.length := fun vs => by
      induction vs with
      | nil => rfl
      | cons v vs ih => unfold wipeE; rw [List.length_set, ih]
    unfold wipeE
    rw [List.getElem?_set, hl]
    by_cases h : v = j
    · subst h
      by_cases hl : v < env.length
      · simp [hl]
      · simp [hl]
    · rw [if_neg h, ih]
      have : (j ∈ v :: vs) ↔ j ∈ vs := by
        rw [List.mem_cons]
        exact ⟨fun z => z.elim (fun e => absurd e.symm h) id, .inr⟩
      simp only [this]
theorem mof_wipe {vs : List Nat} (h : ownFree env vs = true) (b : Addr) : Mof c env b ↔ Mof c (wipeE env vs) b := by
  constructor
  · rintro (m | ⟨j, s, h1, h2⟩)
    · exact .inl m
    · refine .inr ⟨j, s, ?_, h2⟩
      rw [wipeE_get]
      by_cases hj : j ∈ vs ∧ j < env.length
      · have q := (List.all_eq_true.mp h) j hj.1
        rw [h1] at q
        cases s with
        | dat d => cases h2
        | _ => cases q
      · rw [if_neg hj]; exact h1
  · rintro (m | ⟨j, s, h1, h2⟩)
    · exact .inl m
    · rw [wipeE_get] at h1
      split at h1
      · cases h1
      · exact .inr ⟨j, s, h1, h2⟩
end
/-! ### comprehensions -/
structure DTs (X : Cx) (K : PySem.W.Frag) (rg : Rg) (ifs : List Expr) (tt : TT) (t : TB) : Prop where
  kx : X.K = K
  pt : PTs X ifs tt
  rf : RfT K rg tt t
def sYes : TB := fun _ Q => Q true
theorem dts_nil {X : Cx} {rg : Rg} (hK : X.K = K := by rfl) : DTs X K rg [] tYes sYes := by
  cases hK
  exact ⟨rfl, pts_nil, fun c hc pn H0 env σ H Qd Q S ht k => k true H ht Keep.refl S.j⟩
theorem dts_one {X : Cx} {rg : Rg} {e : Expr} {tt : TT} {t : TB} (h : DT X K rg e tt t) : DTs X K rg [e] tt t := by
  cases h.kx
  exact ⟨rfl, pts_one h.pt, h.rf⟩
/-- [elt for target in iter if ..]: I holds of the turn and what is made so far -/
def sLc (ti : TDs) (sg : SG) (st : TB) (t : TD) (vs : List Nat) : TDs := fun env Q => ownFree env vs = true ∧ ti env fun xs => ∃ I : Nat → List D → Prop, I 0 [] ∧
  (∀ i x acc, xs[i]? = some x → I i acc → sg x (wipeE env vs) fun env2 => st env2 fun b => if b = true then t env2 fun y => acc.length < sizeLine ∧ I (i + 1) (acc ++ [y]) else I (i + 1) acc) ∧ ∀ acc, I xs.length acc → Q acc
section
variable {X : Cx} {K : PySem.W.Frag} {rg : Rg} {o : Bool} {wi : TI} {g : TG} {tt : TT} {te : TE} {ti : TDs} {sg : SG} {st : TB} {t : TD} {vs : List Nat}
theorem rf_lc (hi : RfI K rg o wi ti) (hg : RfG K rg g sg vs) (ht : RfT K rg tt st) (he : Rf K rg te t) (ho : o = true) : RfF K rg (tLc wi g tt te vs) (sLc ti sg st t vs) := fun c hc pn H0 env σ H Qd Q S hq k => by
  obtain ⟨hown, hq⟩ := hq
  subst ho
  refine hi c hc pn H0 env σ H _ _ S hq fun xs J G Y H1 q1 k1 j1 W hG hY => ?_
  intro D' hD
  obtain ⟨I, i0, turn, fin⟩ := q1
  have S1 := S.grow k1 j1
  have nD : H D' = none := none_back S k1 j1 hD
  have n0 : H0 D' = none := S.h0 nD
  have nR : ¬ c.rg.R D' := fun z => S1.domM D' (Mof.of_R S.ok z) hD
  have nP : c.P ≠ some D' := fun z => S1.dom D' (S.ok.pm D' z).1 hD
  have S2 : Sd K (c.with D') pn H0 (wipeE env vs) (L2.wipe σ vs) (upd H1 D' (.lst [])) := (S1.inComp hD).wipe vs
  refine lc_it W (fun i H5 => ∃ acc ws, I i acc ∧ H5 D' = some (.lst ws) ∧ RpAll K (fun b => Mof c env b ∨ b = D') H5 ws acc ∧ Keep c.rg.R H1 H5 ∧ Sd K (c.with D') pn H0 (wipeE env vs) (L2.wipe σ vs) H5)
    ⟨[], [], i0, upd_same, .nil, Keep.upd_new hD, S2⟩ (fun i H5 _ ⟨_, _, _, _, _, k5, _⟩ => hG H5 (k5.mono S.ok.sub)) ?_ ?_
  · rintro i x H5 H6 hlt ⟨acc, ws, hI, hl, ra, k5, S5⟩ y
    have mD : ∀ b, Mof (c.with D') (wipeE env vs) b ↔ Mof c env b ∨ b = D' := fun b => mof_with.trans (by rw [← mof_wipe hown b])
    have k5M : Keep (Mof c env) H1 H5 := k5.mono fun b z => Mof.of_R S.ok z
    obtain ⟨d, hd, s6, rd⟩ := hY (Mof (c.with D') (wipeE env vs)) i H5 x H6 hlt (k5.mono S.ok.sub) k5M (fun b u e z => by
      rcases (mD b).mp z with z | rfl
      · exact z
      · rw [hD] at e; cases e) S5.domM y
    have S6 := S5.same s6
    refine hg (c.with D') hc pn H0 _ _ H6 x d _ _ S6 rd (turn i d acc hd hI) fun env2 σ2 q2 S7 m2 w2 => ⟨w2.trans ?_, ?_⟩
    · apply List.ext_getElem?
      intro j
      rw [wipe_get, wipe_get, wipe_length]
      split <;> rfl
    refine ht (c.with D') hc pn H0 env2 σ2 H6 _ _ S7 q2 fun b H8 q8 k8 j8 => ?_
    have S8 := S7.grow k8 j8
    have l8 : ∀ {G6 G8 : Hp}, Keep c.rg.R G6 G8 → ∀ {u}, G6 D' = some u → G8 D' = some u := fun kk u e => kk D' u e nR
    have ra6 : RpAll K (fun b => Mof c env b ∨ b = D') H6 ws acc := RpAll.keep (Keep.of_same s6) ra
    have sub : ∀ a, c.rg.R a → Mof c env a ∨ a = D' := fun a z => .inl (Mof.of_R S.ok z)
    have ra8 : RpAll K (fun b => Mof c env b ∨ b = D') H8 ws acc := RpAll.keep (Keep.mono (show Keep c.rg.R H6 H8 from k8) sub) ra6
    have hl8 : H8 D' = some (.lst ws) := l8 (show Keep c.rg.R H6 H8 from k8) (s6 _ _ hl)
    have k18 : Keep c.rg.R H1 H8 := (k5.trans (Keep.of_same s6)).trans (show Keep c.rg.R H6 H8 from k8)
    -- back to the block's slots
    cases b with
    | false =>
      rw [if_neg Bool.false_ne_true] at q8 ⊢
      refine ⟨acc, ws, q8, hl8, ra8, k18, ?_⟩
      have k58 : Keep c.rg.R H5 H8 := (Keep.of_same s6).trans (show Keep c.rg.R H6 H8 from k8)
      exact S5.grow k58 S8.j
    | true =>
      rw [if_pos rfl] at q8 ⊢
      refine he (c.with D') hc pn H0 env2 σ2 H8 _ _ S8 q8 fun y v H9 q9 k9 j9 r9 => ?_
      have k9' : Keep c.rg.R H8 H9 := k9
      have hl9 : H9 D' = some (.lst ws) := l8 k9' hl8
      have ra9 : RpAll K (fun b => Mof c env b ∨ b = D') H9 ws acc := RpAll.keep (k9'.mono sub) ra8
      have r9' : Rp K (fun b => Mof c env b ∨ b = D') H9 v y := Rp.anti (fun b u e z => (m2 b).mp ((mD b).mpr z)) r9
      have kD : Keep (fun b => Mof c env b ∨ b = D') H9 (upd H9 D' (.lst (ws ++ [v]))) := fun b u e m => by rw [upd_ne fun z => m (.inr z)]; exact e
      have k59 : Keep c.rg.R H5 H9 := ((Keep.of_same s6).trans (show Keep c.rg.R H6 H8 from k8)).trans k9'
      have S9 : Sd K (c.with D') pn H0 (wipeE env vs) (L2.wipe σ vs) H9 := S5.grow k59 j9
      refine ⟨ws, hl9, by rw [RpAll.length ra9]; exact q9.1, acc ++ [y], ws ++ [v], q9.2, upd_same, RpAll.append (RpAll.keep kD ra9) (.cons (Rp.keep kD r9') .nil), ?_, S9.updD n0 nR nP⟩
      intro b u e m
      have hb : b ≠ D' := fun z => by rw [z, hD] at e; cases e
      rw [upd_ne hb]
      exact (k18.trans k9') b u e m
  · rintro H5 ⟨acc, ws, hI, hl, ra, k5, S5⟩
    exact k acc D' ws H5 (fin acc hI) nD (k1.trans k5) S5.j hl ra
theorem df_lc {elt tg iter : Expr} {ifs : List Expr} {scope : Scope} {own : List (Str × Nat)} {pos : Pos} (hc : X.calm = true) (hN : X.N.Nodup) (ok : BlkOk X.N X.env.scope scope own) (hi : DI X K rg true tg iter wi ti)
    (hg : ∀ (s : Shared) (H : Hp) (C : Addr) (cl : List (Str × Addr)) (fp : List Addr), DG (X.blk s H scope (compEnvC scope cl C X.env) fp) K rg tg g sg (own.map (·.2)))
    (ht : ∀ (s : Shared) (H : Hp) (C : Addr) (cl : List (Str × Addr)) (fp : List Addr), DTs (X.blk s H scope (compEnvC scope cl C X.env) fp) K rg ifs tt st)
    (he : ∀ (s : Shared) (H : Hp) (C : Addr) (cl : List (Str × Addr)) (fp : List Addr), DP (X.blk s H scope (compEnvC scope cl C X.env) fp) K rg elt te t) (hs : ∀ x, foldedSetIterable iter X.env x = pure x := by intro _; rfl) :
    DF X K rg (.ListComp elt [⟨tg, iter, ifs, 0⟩] scope pos) (tLc wi g tt te (own.map (·.2))) (sLc ti sg st t (own.map (·.2))) := by
  cases hi.kx
  exact ⟨rfl, pe_lc hc hN hi.pi ok (fun s H C cl fp => (hg s H C cl fp).pg) (fun s H C cl fp => (ht s H C cl fp).pt) (fun s H C cl fp => (he s H C cl fp).pe) hs,
   rf_lc hi.rf (hg X.s_0 X.H_0 0 [] []).rf (ht X.s_0 X.H_0 0 [] []).rf (he X.s_0 X.H_0 0 [] []).rf rfl⟩
end
end DL

namespace DL
open PySem L2
structure DEnds where
  nx : En → Prop
  rt : D → Prop
  ro : List D → Prop := fun _ => False
  bk : En → Prop := fun _ => False
  ct : En → Prop := fun _ => False
abbrev TDS := DEnds → En → Prop
def RfS (K : PySem.W.Frag) (rg : Rg) (ts : TS) (t : TDS) : Prop :=
  ∀ (c : Dc), c.rg = rg → ∀ (pn : Pin) (H0 : Hp) (env : En) (σ : St) (H : Hp) (Dd : DEnds) (De : Ends), Sd K c pn H0 env σ H → t Dd env →
    (∀ env' σ' H', Dd.nx env' → Sd K c pn H0 env' σ' H' → De.nx σ' H') →
    (∀ d v H', Dd.rt d → Keep (Rw c) H0 H' → c.rg.J H' → (∀ a, c.M a → H' a ≠ none) → Rp K c.M H' v d → De.rt v H') →
    (∀ ds a vs H', Dd.ro ds → H0 a = none → Keep (Rw c) H0 H' → c.rg.J H' → (∀ b, c.M b → H' b ≠ none) → ¬ c.M a → H' a = some (.lst vs) → RpAll K (fun b => c.M b ∨ b = a) H' vs ds → De.rt (.ref a) H') →
    (∀ env' σ' H', Dd.bk env' → Sd K c pn H0 env' σ' H' → De.bk σ' H') →
    (∀ env' σ' H', Dd.ct env' → Sd K c pn H0 env' σ' H' → De.ct σ' H') → ts De σ H
structure DS (X : Cx) (K : PySem.W.Frag) (rg : Rg) (st : Stmt) (ts : TS) (t : TDS) : Prop where
  kx : X.K = K
  ps : PS X st ts
  rf : RfS K rg ts t
structure DSs (X : Cx) (K : PySem.W.Frag) (rg : Rg) (st : List Stmt) (ts : TS) (t : TDS) : Prop where
  kx : X.K = K
  ps : PSs X st ts
  rf : RfS K rg ts t
section
variable {X : Cx} {K : PySem.W.Frag} {rg : Rg} {st : Stmt} {rest body els : List Stmt} {ts us : TS} {t u : TDS} {e a b : Expr} {te : TE} {x : TD} {xs : TDs} {tt : TT} {bt : TB} {pos : Pos} {i : Nat}
def sNext : TDS := fun Dd env => Dd.nx env
def sSeqS (t u : TDS) : TDS := fun Dd env => t { Dd with nx := u Dd } env
theorem dss_nil (hK : X.K = K := by rfl) : DSs X K rg [] tNext sNext := by
  cases hK
  exact ⟨rfl, pss_nil, fun c hc pn H0 env σ H Dd De S h n r ro bk ct => n _ _ _ h S⟩
theorem dss_cons (h1 : DS X K rg st ts t) (h2 : DSs X K rg rest us u) : DSs X K rg (st :: rest) (tSeq ts us) (sSeqS t u) := by
  cases h1.kx
  exact ⟨rfl, pss_cons h1.ps h2.ps, fun c hc pn H0 env σ H Dd De S h n r ro bk ct =>
  h1.rf c hc pn H0 env σ H _ _ S h (fun env' σ' H' q S' => h2.rf c hc pn H0 env' σ' H' Dd De S' q n r ro bk ct) r ro bk ct⟩
theorem dss_one (h1 : DS X K rg st ts t) : DSs X K rg [st] ts t := by
  cases h1.kx
  exact ⟨rfl, pss_one h1.ps, h1.rf⟩
def sBreak : TDS := fun Dd env => Dd.bk env
def sCont : TDS := fun Dd env => Dd.ct env
theorem ds_pass (hK : X.K = K := by rfl) : DS X K rg (.Pass pos) tNext sNext := by
  cases hK
  exact ⟨rfl, ps_pass, fun c hc pn H0 env σ H Dd De S h n r ro bk ct => n _ _ _ h S⟩
theorem ds_break (hK : X.K = K := by rfl) : DS X K rg (.Break pos) tBreak sBreak := by
  cases hK
  exact ⟨rfl, ps_break, fun c hc pn H0 env σ H Dd De S h n r ro bk ct => bk _ _ _ h S⟩
theorem ds_continue (hK : X.K = K := by rfl) : DS X K rg (.Continue pos) tCont sCont := by
  cases hK
  exact ⟨rfl, ps_continue, fun c hc pn H0 env σ H Dd De S h n r ro bk ct => ct _ _ _ h S⟩
def sNever : TDS := fun _ _ => False
theorem ds_never (hK : X.K = K := by rfl) : DS X K rg st tNever sNever := by
  cases hK
  exact ⟨rfl, ps_never, fun c hc pn H0 env σ H Dd De S h n r ro bk ct => h⟩
def sDrop (x : TD) : TDS := fun Dd env => x env fun _ => Dd.nx env
theorem ds_expr (h : DP X K rg e te x) (hs : swapsWith e none pos.line X.env = pure false := by rfl) : DS X K rg (.Expr e pos) (tDrop te) (sDrop x) := by
  cases h.kx
  exact ⟨rfl, ps_expr h.pe hs, fun c hc pn H0 env σ H Dd De S h' n r ro bk ct =>
  h.rf c hc pn H0 env σ H _ _ S h' fun d v H' q k j _ => n _ _ _ q (by subst hc; exact S.grow k j)⟩
def sRet (x : TD) : TDS := fun Dd env => x env Dd.rt
theorem RpO.out {c : Dc} {env : En} {H : Hp} {v : V} {d : D} : RpO K c.M (Mof c env) H v d → Rp K c.M H v d
  | .inl r => Rp.anti (fun _ _ _ z => .inl z) r
  | .inr ⟨a, vs, ds, e1, e2, m, e3, r⟩ => by subst e1 e2; exact .lst m e3 (RpAll.anti (fun _ _ _ z => .inl z) r)
theorem ds_ret (h : DO X K rg e te x) : DS X K rg (.Return (some e) pos) (tRet te) (sRet x) := by
  cases h.kx
  exact ⟨rfl, ps_ret h.pe, fun c hc pn H0 env σ H Dd De S h' n r ro bk ct =>
  h.rf c hc pn H0 env σ H _ _ S h' fun d v H' q k j rr => by
    subst hc
    have S' := S.grow k j
    exact r d v H' q S'.kp j S'.dom rr.out⟩
def sRetO (i : Nat) : TDS := fun Dd env => match env[i]? with | some (some (.own _ ds)) => Dd.ro ds | _ => False
theorem ds_retO {nm : Expr} (h : PE X nm (tVar i)) (hK : X.K = K := by rfl) : DS X K rg (.Return (some nm) pos) (tRet (tVar i)) (sRetO i) := by
  cases hK
  exact ⟨rfl, ps_ret h, fun c hc pn H0 env σ H Dd De S h' n r ro bk ct => by
    unfold sRetO at h'
    split at h'
    · rename_i a ds he
      obtain ⟨v, hv, rfl, h0, hm, vs, hl, ra⟩ := S.sl i _ he
      exact ⟨_, hv, ro ds a vs H h' h0 S.kp S.j S.dom hm hl (RpAll.anti (fun b _ _ z => z.elim .inl fun z => .inr ⟨i, _, he, by rw [z]; rfl⟩) ra)⟩
    · exact h'.elim⟩
def sRetN : TDS := fun Dd _ => Dd.rt .non
theorem ds_retN (hK : X.K = K := by rfl) : DS X K rg (.Return none pos) tRetN sRetN := by
  cases hK
  exact ⟨rfl, ps_retN, fun c hc pn H0 env σ H Dd De S h' n r ro bk ct => r .non .non H h' S.kp S.j S.dom .non⟩
def sIfS (b : TB) (t u : TDS) : TDS := fun Dd env => b env fun k => if k = true then t Dd env else u Dd env
theorem ds_if {cnd : Expr} (hc : DT X K rg cnd tt bt) (h1 : DSs X K rg body ts t) (h2 : DSs X K rg els us u) : DS X K rg (.If cnd body els pos) (tIfS tt ts us) (sIfS bt t u) := by
  cases hc.kx
  exact ⟨rfl, ps_if hc.pt h1.ps h2.ps, fun c hcc pn H0 env σ H Dd De S h n r ro bk ct => by
  refine hc.rf c hcc pn H0 env σ H _ _ S h fun k H1 q1 k1 j1 => ?_
  have S1 : Sd X.K c pn H0 env σ H1 := by subst hcc; exact S.grow k1 j1
  cases k with
  | true => rw [if_pos rfl] at q1 ⊢; exact h1.rf c hcc pn H0 env σ H1 Dd De S1 q1 n r ro bk ct
  | false => rw [if_neg Bool.false_ne_true] at q1 ⊢; exact h2.rf c hcc pn H0 env σ H1 Dd De S1 q1 n r ro bk ct⟩
/-- name = e -/
def sSet (i : Nat) (x : TD) : TDS := fun Dd env => x env fun d => i < env.length ∧ Dd.nx (env.set i (some (.dat d)))
theorem ds_set (hp : PS X st (tAsg te (gName i))) (he : Rf K rg te x) (hK : X.K = K := by rfl) : DS X K rg st (tAsg te (gName i)) (sSet i x) := by
  cases hK
  exact ⟨rfl, hp, fun c hc pn H0 env σ H Dd De S h n r ro bk ct =>
  he c hc pn H0 env σ H _ _ S h fun d v H' q k j rr => n _ _ _ q.2 (by subst hc; exact (S.grow k j).setD i q.1 rr)⟩
/-- name = a new list -/
def sSetO (i : Nat) (x : TDs) : TDS := fun Dd env => x env fun ds => i < env.length ∧ ∀ a, Dd.nx (env.set i (some (.own a ds)))
theorem ds_setO (hp : PS X st (tAsg te (gName i))) (he : RfF K rg te xs) (hK : X.K = K := by rfl) : DS X K rg st (tAsg te (gName i)) (sSetO i xs) := by
  cases hK
  exact ⟨rfl, hp, fun c hc pn H0 env σ H Dd De S h n r ro bk ct =>
  he c hc pn H0 env σ H _ _ S h fun ds a vs H' q ha k j hl rr => n _ _ _ (q.2 a) (by subst hc; exact S.setO i q.1 ha k j hl rr)⟩
/-- target = e -/
def sAsg (x : TD) (sg : SG) : TDS := fun Dd env => x env fun d => sg d env Dd.nx
theorem ds_asg {tg : Expr} {g : TG} {sg : SG} {vs : List Nat} (he : DP X K rg e te x) (hg : DG X K rg tg g sg vs) (hs : swapsWithSole [tg] e pos.line X.env = pure false := by rfl) (hw : swappedStores [tg] e X.env = pure none := by rfl)
    (h1 : (assignEach [tg] X.env).map (·.2) = [assign tg X.env] := by rfl) : DS X K rg (.Assign [tg] e pos) (tAsg te g) (sAsg x sg) := by
  cases he.kx
  exact ⟨rfl, ps_asg he.pe hg.pg hs hw h1, fun c hc pn H0 env σ H Dd De S h n r ro bk ct =>
  he.rf c hc pn H0 env σ H _ _ S h fun d v H' q k j rr => by
    have S1 : Sd X.K c pn H0 env σ H' := by subst hc; exact S.grow k j
    exact hg.rf c hc pn H0 env σ H' v d _ _ S1 rr q fun env' σ' q' S' _ _ => n _ _ _ q' S'⟩
/-- name += e, ints -/
def sAugI (i : Nat) (f : F2) (x : TD) : TDS := fun Dd env => match env[i]? with | some (some (.dat d)) => x env fun e => f d e fun z => Dd.nx (env.set i (some (.dat z))) | _ => False
theorem ds_augI {f : Int → Int → Int} (hp : PS X st (tAug i te (ipI f))) (he : Rf K rg te x) (hK : X.K = K := by rfl) : DS X K rg st (tAug i te (ipI f)) (sAugI i (fInt0 f) x) := by
  cases hK
  exact ⟨rfl, hp, fun c hc pn H0 env σ H Dd De S h n r ro bk ct => by
  unfold sAugI at h
  split at h
  · rename_i d hd
    obtain ⟨v, hv, rv⟩ := S.sl i _ hd
    refine ⟨v, hv, he c hc pn H0 env σ H _ _ S h fun d2 v2 H' q k j rr => ?_⟩
    have S1 : Sd X.K c pn H0 env σ H' := by subst hc; exact S.grow k j
    cases d with
    | int m =>
      cases d2 with
      | int m2 =>
        cases rv
        cases rr
        exact ⟨m, m2, rfl, rfl, n _ _ _ q (S1.setD i (List.getElem?_eq_some_iff.mp hd).1 (.int _))⟩
      | _ => exact q.elim
    | _ => exact q.elim
  · exact h.elim⟩
/-! ### for, while -/
def sFor (ti : TDs) (sg : SG) (tb : TDS) : TDS := fun Dd env => ti env fun xs => ∃ I : Nat → En → Prop, I 0 env ∧
  (∀ i x env', xs[i]? = some x → I i env' → sg x env' fun env2 => tb { Dd with nx := I (i + 1), ct := I (i + 1), bk := Dd.nx } env2) ∧ ∀ env', I xs.length env' → Dd.nx env'
theorem rf_for {wi : TI} {g : TG} {sg : SG} {ti : TDs} {vs : List Nat} (hi : RfI K rg false wi ti) (hg : RfG K rg g sg vs) (hb : RfS K rg ts t) : RfS K rg (tFor wi g ts) (sFor ti sg t) := fun c hc pn H0 env σ H Dd De S h n r ro bk ct => by
  refine hi c hc pn H0 env σ H _ _ S h fun xs J G Y H1 q1 k1 j1 W hG hY => ?_
  obtain ⟨I, i0, turn, fin⟩ := q1
  have S1 : Sd K c pn H0 env σ H1 := by subst hc; exact S.grow k1 j1
  let pn' : Pin := fun M H => pn M H ∧ (∀ b o, H1 b = some o → M b → Mof c env b) ∧ Keep (Mof c env) H1 H
  have pk' : PinOk pn' := fun M G M' G' ⟨p1, p2, p3⟩ k m => by
    refine ⟨S.pk _ _ _ _ p1 k m, fun b o e z => ?_, fun b o e z => ?_⟩
    · by_cases hb : Mof c env b
      · exact hb
      · exact p2 b o e (m b o (p3 b o e hb) z)
    · exact k b o (p3 b o e z) fun zm => z (p2 b o e zm)
  have out : ∀ {env' σ' H'}, Sd K c pn' H0 env' σ' H' → Sd K c pn H0 env' σ' H' := fun S' => ⟨S'.ok, S'.len, S'.sl, S'.j, S'.kp, S'.dom, S'.apart, S.pk, S'.pn.1⟩
  have S1' : Sd K c pn' H0 env σ H1 := ⟨S1.ok, S1.len, S1.sl, S1.j, S1.kp, S1.dom, S1.apart, pk', S1.pn, fun _ _ _ z => z, Keep.refl⟩
  refine for_it W (fun i σ' H' => ∃ env', I i env' ∧ Sd K c pn' H0 env' σ' H') ⟨env, i0, S1'⟩ (fun i σ' H' _ ⟨_, _, S'⟩ => hG H' S'.pn.2.2) ?_ ?_
  · rintro i x σ5 H5 H6 hlt ⟨env5, hI, S5⟩ y
    obtain ⟨d, hd, s6, rd⟩ := hY (Mof c env5) i H5 x H6 hlt S5.pn.2.2 S5.pn.2.2 S5.pn.2.1 S5.domM y
    have S6 := S5.same s6
    refine hg c hc pn' H0 env5 σ5 H6 x d _ _ S6 rd (turn i d env5 hd hI) fun env7 σ7 q7 S7 _ _ => ?_
    exact hb c hc pn' H0 env7 σ7 H6 _ _ S7 q7 (fun env' σ' H' q S' => ⟨env', q, S'⟩) r ro (fun env' σ' H' q S' => n env' σ' H' q (out S')) (fun env' σ' H' q S' => ⟨env', q, S'⟩)
  · rintro σ5 H5 ⟨env5, hI, S5⟩
    exact n env5 σ5 H5 (fin env5 hI) (out S5)
end
end DL

namespace DL
open PySem L2 PySem.Spec PyProof.Rows
section
variable {X : Cx} {K : PySem.W.Frag} {rg : Rg} {st : Stmt} {rest body els : List Stmt} {ts us : TS} {t u : TDS} {e a b : Expr} {es : List Expr} {te : TE} {ta : TA} {x : TD} {xs : TDs} {tt : TT} {bt : TB} {pos : Pos} {i j : Nat}
/-! ### while -/
def sWhile (b : TB) (t : TDS) : TDS := fun Dd env => ∃ I : Nat → En → Prop, (∃ m, I m env) ∧ ∀ m env', I m env' → b env' fun k => if k = true then t { Dd with nx := fun e => ∃ m', m' < m ∧ I m' e, ct := fun e => ∃ m', m' < m ∧ I m' e, bk := Dd.nx } env' else Dd.nx env'
theorem rf_while (hc : RfT K rg tt bt) (hb : RfS K rg ts t) : RfS K rg (tWhile tt ts) (sWhile bt t) := fun c hcc pn H0 env σ H Dd De S h n r ro bk ct => by
  obtain ⟨I, ⟨m0, i0⟩, turn⟩ := h
  refine ⟨fun m σ' H' => ∃ env', I m env' ∧ Sd K c pn H0 env' σ' H', ⟨m0, env, i0, S⟩, ?_⟩
  rintro m σ1 H1 ⟨env1, hI, S1⟩
  refine hc c hcc pn H0 env1 σ1 H1 _ _ S1 (turn m env1 hI) fun k H2 q2 k2 j2 => ?_
  have S2 : Sd K c pn H0 env1 σ1 H2 := by subst hcc; exact S1.grow k2 j2
  cases k with
  | true =>
    rw [if_pos rfl] at q2 ⊢
    refine ⟨fun σ' H' => ∃ m' env', m' < m ∧ I m' env' ∧ Sd K c pn H0 env' σ' H', fun σ' H' ⟨m', env', hm, hi, S'⟩ => ⟨m', hm, env', hi, S'⟩, ?_⟩
    exact hb c hcc pn H0 env1 σ1 H2 _ _ S2 q2 (fun env' σ' H' ⟨m', hm, hi⟩ S' => ⟨m', env', hm, hi, S'⟩) r ro n (fun env' σ' H' ⟨m', hm, hi⟩ S' => ⟨m', env', hm, hi, S'⟩)
  | false =>
    rw [if_neg Bool.false_ne_true] at q2 ⊢
    exact n _ _ _ q2 S2
theorem ds_while {cnd : Expr} (hp : PassesOwn (model X.prog X.w) X.A X.env X.xe) (hc : DT X K rg cnd tt bt) (hb : DSs X K rg body ts t) : DS X K rg (.While cnd body [] pos) (tWhile tt ts) (sWhile bt t) := by
  cases hc.kx
  exact ⟨rfl, ps_while hp hc.pt hb.ps, rf_while hc.rf hb.rf⟩
theorem ds_for {tg iter : Expr} {wi : TI} {g : TG} {sg : SG} {ti : TDs} {vs : List Nat} (hp : PassesOwn (model X.prog X.w) X.A X.env X.xe) (hc : X.calm = true) (hi : DI X K rg false tg iter wi ti) (hg : DG X K rg tg g sg vs) (hb : DSs X K rg body ts t)
    (hs : ∀ x, foldedSetIterable iter X.env x = pure x := by intro _; rfl) : DS X K rg (.For tg iter body [] pos) (tFor wi g ts) (sFor ti sg t) := by
  cases hi.kx
  exact ⟨rfl, ps_for hp hc hi.pi hg.pg hb.ps hs, rf_for hi.rf hg.rf hb.rf⟩
/-! ### lists of one's own -/
theorem Sd.ownAt {c : Dc} {pn : Pin} {H0 : Hp} {env : En} {σ : L2.St} {H : Hp} {i : Nat} {p : Addr} {ds : List D} (S : Sd K c pn H0 env σ H) (h : env[i]? = some (some (.own p ds))) : σ[i]? = some (some (.ref p)) ∧ ∃ vs, H p = some (.lst vs) ∧ RpAll K (Mof c env) H vs ds := by
  obtain ⟨v, hv, rfl, _, _, vs, h4, h5⟩ := S.sl i _ h
  exact ⟨hv, vs, h4, h5⟩
def sApp (i : Nat) (x : TD) : TDS := fun Dd env => match env[i]? with | some (some (.own p ds)) => x env fun d => ds.length < sizeLine ∧ Dd.nx (env.set i (some (.own p (ds ++ [d])))) | _ => False
theorem rf_app (he : Rf K rg te x) : RfS K rg (tDrop (tBM K "list" rAppend (tVar i) (tCons te tNil))) (sApp i x) := fun c hc pn H0 env σ H Dd De S h n r ro bk ct => by
  unfold sApp at h
  split at h
  · rename_i p ds hi
    obtain ⟨hv, vs, hl, _⟩ := S.ownAt hi
    refine ⟨_, hv, .inl ⟨rfl, vs, SqL.of hl⟩, he c hc pn H0 env σ H _ _ S h fun d v H' q k j rr => ?_⟩
    have S1 : Sd K c pn H0 env σ H' := by subst hc; exact S.grow k j
    obtain ⟨_, ws, hl', ra⟩ := S1.ownAt hi
    refine ⟨p, ws, v, rfl, rfl, hl', by rw [RpAll.length ra]; exact q.1, ?_⟩
    exact n _ _ _ q.2 (S1.updO hi (RpAll.append ra (.cons rr .nil)))
  · exact h.elim
theorem ds_app (hp : PS X st (tDrop (tBM K "list" rAppend (tVar i) (tCons te tNil)))) (he : Rf K rg te x) (hK : X.K = K := by rfl) : DS X K rg st (tDrop (tBM K "list" rAppend (tVar i) (tCons te tNil))) (sApp i x) := by
  cases hK
  exact ⟨rfl, hp, rf_app he⟩
/-- x.append(y.pop(e)) -/
def sAppPop (i j : Nat) (x : TD) : TDS := fun Dd env => match env[i]?, env[j]? with
  | some (some (.own p ds)), some (some (.own q es)) => i ≠ j ∧ x env fun d => match d with
    | .int z => 0 ≤ z ∧ z < es.length ∧ ds.length < sizeLine ∧ z < 2 ^ 63 ∧ ∀ y, es[z.toNat]? = some y → Dd.nx ((env.set j (some (.own q (es.eraseIdx z.toNat)))).set i (some (.own p (ds ++ [y]))))
    | _ => False
  | _, _ => False
theorem rf_appPop (he : Rf K rg te x) : RfS K rg (tDrop (tBM K "list" rAppend (tVar i) (tCons (tBM K "list" rPopAt (tVar j) (tCons te tNil)) tNil))) (sAppPop i j x) := fun c hc pn H0 env σ H Dd De S h n r ro bk ct => by
  unfold sAppPop at h
  split at h
  · rename_i p ds q es hi hj
    obtain ⟨hij, h⟩ := h
    obtain ⟨hv, vs, hl, _⟩ := S.ownAt hi
    obtain ⟨hw, ws, hm, _⟩ := S.ownAt hj
    refine ⟨_, hv, .inl ⟨rfl, vs, SqL.of hl⟩, _, hw, .inl ⟨rfl, ws, SqL.of hm⟩, he c hc pn H0 env σ H _ _ S h fun d v H' qq k jj rr => ?_⟩
    have S1 : Sd K c pn H0 env σ H' := by subst hc; exact S.grow k jj
    cases d with
    | int z =>
      cases rr
      obtain ⟨q1, q2, q3, q5, q4⟩ := qq
      obtain ⟨_, vs1, hl1, ra1⟩ := S1.ownAt hi
      obtain ⟨_, ws1, hm1, rb1⟩ := S1.ownAt hj
      have lw : ws1.length = es.length := RpAll.length rb1
      have hk : seqIndex? z ws1.length = some z.toNat := PySem.StrLaws.seqIndex_nonneg q1 (by rw [lw]; exact q2)
      have hlt : z.toNat < es.length := by omega
      obtain ⟨y, hy, ry⟩ := RpAll.get' rb1 (List.getElem?_eq_getElem hlt)
      refine ⟨q, ws1, z, z.toNat, _, rfl, rfl, hm1, by omega, q5, hk, hy, ?_⟩
      have S2 := S1.updO hj (RpAll.eraseIdx z.toNat rb1)
      have hi2 : (env.set j (some (.own q (es.eraseIdx z.toNat))))[i]? = some (some (.own p ds)) := by
        rw [List.getElem?_set_ne (Ne.symm hij)]; exact hi
      obtain ⟨_, vs2, hl2, ra2⟩ := S2.ownAt hi2
      have ry2 : Rp K (Mof c (env.set j (some (.own q (es.eraseIdx z.toNat))))) (upd H' q (.lst (ws1.eraseIdx z.toNat))) y (es[z.toNat]'hlt) := by
        have Mq : Mof c env q := .inr ⟨j, _, hj, rfl⟩
        refine Rp.anti (fun b o _ z' => ?_) (Rp.keep (M := Mof c env) (fun b o e m => by rw [upd_ne (fun z' => m (by rw [z']; exact Mq))]; exact e) ry)
        rcases z' with z' | ⟨k, s, e1, e2⟩
        · exact .inl z'
        · by_cases hjk : j = k
          · subst hjk
            rw [List.getElem?_set_self (List.getElem?_eq_some_iff.mp hj).1] at e1
            cases e1; cases e2
            exact Mq
          · rw [List.getElem?_set_ne hjk] at e1
            exact .inr ⟨k, s, e1, e2⟩
      refine ⟨p, vs2, y, rfl, rfl, hl2, by rw [RpAll.length ra2]; exact q3, ?_⟩
      exact n _ _ _ (q4 _ (List.getElem?_eq_getElem hlt)) (S2.updO hi2 (RpAll.append ra2 (.cons ry2 .nil)))
    | _ => exact qq.elim
  · exact h.elim
theorem ds_appPop (hp : PS X st (tDrop (tBM K "list" rAppend (tVar i) (tCons (tBM K "list" rPopAt (tVar j) (tCons te tNil)) tNil)))) (he : Rf K rg te x) (hK : X.K = K := by rfl) : DS X K rg st (tDrop (tBM K "list" rAppend (tVar i) (tCons (tBM K "list" rPopAt (tVar j) (tCons te tNil)) tNil))) (sAppPop i j x) := by
  cases hK
  exact ⟨rfl, hp, rf_appPop he⟩
/-- x.extend(e) -/
def sExt (i : Nat) (x : TD) : TDS := fun Dd env => match env[i]? with | some (some (.own p ds)) => x env fun d => (match d with | .lst es => ds.length + es.length ≤ sizeLine ∧ Dd.nx (env.set i (some (.own p (ds ++ es)))) | _ => False) | _ => False
theorem rf_ext (he : Rf K rg te x) : RfS K rg (tDrop (tBM K "list" rExtend (tVar i) (tCons te tNil))) (sExt i x) := fun c hc pn H0 env σ H Dd De S h n r ro bk ct => by
  unfold sExt at h
  split at h
  · rename_i p ds hi
    obtain ⟨hv, vs, hl, _⟩ := S.ownAt hi
    refine ⟨_, hv, .inl ⟨rfl, vs, SqL.of hl⟩, he c hc pn H0 env σ H _ _ S h fun d v H' q k j rr => ?_⟩
    have S1 : Sd K c pn H0 env σ H' := by subst hc; exact S.grow k j
    obtain ⟨_, ws, hl', ra⟩ := S1.ownAt hi
    cases d with
    | lst es =>
      cases rr with
      | lst m e2 aa =>
        refine ⟨p, _, ws, _, rfl, rfl, hl', e2, by rw [RpAll.length ra, RpAll.length aa]; exact q.1, ?_⟩
        exact n _ _ _ q.2 (S1.updO hi (RpAll.append ra aa))
    | _ => exact q.elim
  · exact h.elim
theorem ds_ext (hp : PS X st (tDrop (tBM K "list" rExtend (tVar i) (tCons te tNil)))) (he : Rf K rg te x) (hK : X.K = K := by rfl) : DS X K rg st (tDrop (tBM K "list" rExtend (tVar i) (tCons te tNil))) (sExt i x) := by
  cases hK
  exact ⟨rfl, hp, rf_ext he⟩
/-! ### calls of defs of one's own -/
abbrev Tf := Rg → FL
/-- a def's promise, told of data -/
def spD (K : PySem.W.Frag) (n : Nat) (tf : Tf) : Sp := fun vs H Q _ => ∃ (c : Dc) (ds : List D) (Qd : D → Prop), c.Ok ∧ c.P = none ∧ RpAll K c.M H vs ds ∧ c.rg.J H ∧ (∀ a, c.M a → H a ≠ none) ∧ vs.length = n ∧ tf c.rg ds Qd ∧
  ∀ v d H', Qd d → Keep c.rg.R H H' → c.rg.J H' → Rp K c.M H' v d → Q v H'
theorem spD_len {n : Nat} {tf : Tf} : ∀ vs H Q E, spD K n tf vs H Q E → vs.length = n := fun vs H Q E ⟨_, _, _, _, _, _, _, _, h, _⟩ => h
def sCallD (n : Nat) (tf : Tf) (rg : Rg) (xs : TDs) : TD := fun env Q => xs env fun ds => ds.length = n ∧ tf rg ds Q
theorem rf_call {n : Nat} {tf : Tf} {E : XK} (h : RfA K rg ta xs) : Rf K rg (tCall (spD K n tf) [] E ta) (sCallD n tf rg xs) := fun c hc pn H0 env σ H Qd Q S ht k => by
  refine h c hc pn H0 env σ H _ _ S ht fun ds vs H1 q1 k1 j1 r1 => ?_
  subst hc
  have S1 := S.grow k1 j1
  refine ⟨⟨Mof c env, none, c.rg⟩, ds, Qd, ⟨fun a z => Mof.of_R S.ok z, S.ok.rg, fun a z => by cases z⟩, rfl, by rw [List.append_nil]; exact r1, j1, S1.domM, by rw [List.append_nil, RpAll.length r1]; exact q1.1, q1.2, fun v d H' q k' j' r' => ?_⟩
  exact k d v H' q (k1.trans k') j' r'
theorem d_call {CX : CXT} {lv : Nat} {f : Addr} {fd : FuncData} {ps : List Str} {n : Nat} {tf : Tf} {nm : Str} {p : Pos} {E : XK} (F : FnOk X.prog X.w K X.mg X.base CX lv f fd ps (spD K n tf)) (hr : Room lv X.A) (hg : Gl X nm) (hm : X.mg nm = some (.ref f)) (hk : PySem.W.keepIn K (.ref f) = true) (hb : Binds K fd ps []) (hx : Passes CX X E)
    (ha : DA X K rg (e :: es) ta xs) (hdb : (nm == ("__debug__" : Str)) = false := by decide) (he : starEach (e :: es) X.env = (false, eval e X.env) :: starEach es X.env := by rfl) (hpl : (backTo pos (starEach es X.env)).any (·.1) = false := by rfl) :
    DP X K rg (.Call (.Name nm p) (e :: es) [] pos) (tCall (spD K n tf) [] E ta) (sCallD n tf rg xs) := by
  cases ha.kx
  exact ⟨rfl, pe_call F hr hg hm hk hb .nil hx ha.pa hdb he hpl, rf_call ha.rf⟩
/-! .. lists of one's own may be handed in, where no list comes back -/
mutual
def noL : D → Bool
  | .lst _ => false
  | .obj _ _ _ => false
  | .dct _ _ => false
  | .scr _ => false
  | .tup ds => noLs ds
  | .non => true
  | .bl _ => true
  | .int _ => true
  | .str _ => true
  | .raw _ => true
def noLs : List D → Bool
  | [] => true
  | d :: ds => noL d && noLs ds
end
mutual
theorem Rp.noL {M M' : Addr → Prop} {H : Hp} (hm : ∀ a xs, H a = some (.tup xs) → M' a → M a) : ∀ {v : V} {d : D}, Rp K M H v d → DL.noL d = true → Rp K M' H v d
  | _, _, .non, _ => .non
  | _, _, .bl b, _ => .bl b
  | _, _, .int b, _ => .int b
  | _, _, .str b, _ => .str b
  | _, _, .raw b, _ => .raw b
  | _, _, .scr m r, h => by simp [DL.noL] at h
  | _, _, .scrK r, h => by simp [DL.noL] at h
  | _, _, .lst m r a, h => by simp [DL.noL] at h
  | _, _, .tup m r a, h => .tup (fun z => m (hm _ _ r z)) r (RpAll.noL hm a (by simpa [DL.noL] using h))
  | _, _, .tupK r a, h => .tupK r (RpAll.noL hm a (by simpa [DL.noL] using h))
  | _, _, .obj m r e a, h => by simp [DL.noL] at h
  | _, _, .dct m r e a, h => by simp [DL.noL] at h
theorem RpAll.noL {M M' : Addr → Prop} {H : Hp} (hm : ∀ a xs, H a = some (.tup xs) → M' a → M a) : ∀ {vs : List V} {ds : List D}, RpAll K M H vs ds → noLs ds = true → RpAll K M' H vs ds
  | _, _, .nil, _ => .nil
  | _, _, .cons a b, h => by
    simp only [noLs, Bool.and_eq_true] at h
    exact .cons (Rp.noL hm a h.1) (RpAll.noL hm b h.2)
end
theorem RpOs.out {c : Dc} {env : En} {H : Hp} {vs : List V} {ds : List D} (r : RpOs K c.M (Mof c env) H vs ds) : RpAll K c.M H vs ds := by
  induction r with
  | nil => exact .nil
  | cons a _ ih => exact .cons a.out ih
theorem Sd.tupFree {c : Dc} {pn : Pin} {H0 : Hp} {env : En} {σ : L2.St} {H : Hp} (S : Sd K c pn H0 env σ H) : ∀ a ys, H a = some (.tup ys) → Mof c env a → c.M a := fun a ys e z => by
  rcases z with z | ⟨i, s, h1, h2⟩
  · exact z
  · obtain ⟨v, _, q⟩ := S.sl i s h1
    cases s with
    | dat d => cases h2
    | own b ds =>
      cases h2
      obtain ⟨_, _, _, vs, hb, _⟩ := q
      rw [hb] at e; cases e
    | self b C ns ds =>
      cases h2
      obtain ⟨_, _, dx, vs, hb, _⟩ := q
      rw [hb] at e; cases e
def sCallO (n : Nat) (tf : Tf) (rg : Rg) (xs : TDs) : TD := fun env Q => xs env fun ds => ds.length = n ∧ tf rg ds fun d => noL d = true ∧ Q d
theorem rf_callO {n : Nat} {tf : Tf} {E : XK} (h : RfAO K rg ta xs) : Rf K rg (tCall (spD K n tf) [] E ta) (sCallO n tf rg xs) := fun c hc pn H0 env σ H Qd Q S ht k => by
  refine h c hc pn H0 env σ H _ _ S ht fun ds vs H1 q1 k1 j1 r1 => ?_
  subst hc
  have S1 := S.grow k1 j1
  have ra := r1.out
  refine ⟨⟨c.M, none, c.rg⟩, ds, fun d => noL d = true ∧ Qd d, ⟨S.ok.sub, S.ok.rg, fun a z => by cases z⟩, rfl, by rw [List.append_nil]; exact ra, j1, S1.dom, by rw [List.append_nil, RpAll.length ra]; exact q1.1, q1.2, fun v d H' q k' j' r' => ?_⟩
  exact k d v H' q.2 (k1.trans k') j' (Rp.noL (S1.grow k' j').tupFree r' q.1)
theorem d_callO {CX : CXT} {lv : Nat} {f : Addr} {fd : FuncData} {ps : List Str} {n : Nat} {tf : Tf} {nm : Str} {p : Pos} {E : XK} (F : FnOk X.prog X.w K X.mg X.base CX lv f fd ps (spD K n tf)) (hr : Room lv X.A) (hg : Gl X nm) (hm : X.mg nm = some (.ref f)) (hk : PySem.W.keepIn K (.ref f) = true) (hb : Binds K fd ps []) (hx : Passes CX X E)
    (ha : DAO X K rg (e :: es) ta xs) (hdb : (nm == ("__debug__" : Str)) = false := by decide) (he : starEach (e :: es) X.env = (false, eval e X.env) :: starEach es X.env := by rfl) (hpl : (backTo pos (starEach es X.env)).any (·.1) = false := by rfl) :
    DP X K rg (.Call (.Name nm p) (e :: es) [] pos) (tCall (spD K n tf) [] E ta) (sCallO n tf rg xs) := by
  cases ha.kx
  exact ⟨rfl, pe_call F hr hg hm hk hb .nil hx ha.pa hdb he hpl, rf_callO ha.rf⟩
end
/-! ### a def by its body -/
def startE (n : Nat) (ds : List D) : En := ds.map (fun d => some (.dat d)) ++ List.replicate (n - ds.length) none
section
variable {P : Program} {w : World} {K : PySem.W.Frag} {mg : Str → Option Value} {base : Heap}
theorem sd_start {c : Dc} {H : Hp} {vs : List V} {ds : List D} {N : List Str} (ok : c.Ok) (hP : c.P = none) (r : RpAll K c.M H vs ds) (j : c.rg.J H) (dom : ∀ a, c.M a → H a ≠ none) : Sd K c (fun _ _ => True) H (startE N.length ds) (L2.start N vs) H := by
  have hl := RpAll.length r
  have noat : ∀ (i : Nat) (s : Sl), (startE N.length ds)[i]? = some (some s) → ∃ d, s = .dat d ∧ ds[i]? = some d := fun i s e => by
    unfold startE at e
    by_cases hi : i < ds.length
    · rw [List.getElem?_append_left (by simpa using hi), List.getElem?_map, List.getElem?_eq_getElem hi] at e
      cases e
      exact ⟨_, rfl, List.getElem?_eq_getElem hi⟩
    · rw [List.getElem?_append_right (by simpa using hi), List.getElem?_replicate] at e
      split at e <;> cases e
  have mof : ∀ a, Mof c (startE N.length ds) a → c.M a := fun a z => by
    rcases z with z | ⟨i, s, h1, h2⟩
    · exact z
    · obtain ⟨d, rfl, _⟩ := noat i s h1; cases h2
  refine ⟨ok, by unfold startE L2.start; simp [hl], fun i s e => ?_, j, Keep.refl, dom, fun i j s t a e1 _ e3 _ => ?_, fun _ _ _ _ _ _ _ => trivial, trivial⟩
  · obtain ⟨d, rfl, hd⟩ := noat i s e
    obtain ⟨v, hv, rv⟩ := RpAll.get' r hd
    refine ⟨v, ?_, Rp.anti (fun a _ _ z => mof a z) rv⟩
    unfold L2.start
    rw [List.getElem?_append_left (by simpa using (List.getElem?_eq_some_iff.mp hv).1), List.getElem?_map, hv]
    rfl
  · obtain ⟨d, rfl, _⟩ := noat i s e1; cases e3
/-- THE RULE for a def whose promise is told of data -/
theorem fn_D {x qual : Str} {st : Stmt} {f : Addr} {fd : FuncData} {N ps : List Str} {k n : Nat} {tf : Tf} (F : Fun K x qual st f fd) (S : FnScope N ps (defScope st)) (hn : ps.length = n)
    (hbody : ∀ (rg : Rg) (cdv : Value) (A : Around) (outer : List Env) (s : Shared) (H : Hp) (E : XK), Room k (A.deeper (envOfC qual (defScope st) s.heap.objs.size f cdv)) →
      ∃ ts t, DSs (cxOf CX0 P w K mg base N qual (defScope st) f cdv A outer s H E).nox K rg (defBody st) ts t ∧ ∀ ds Qd, tf rg ds Qd → ds.length = n → t { nx := fun _ => Qd .non, rt := Qd } (startE N.length ds)) :
    FnOk P w K mg base CX0 (k + 1) f fd ps (spD K n tf) := by
  refine F.ok S (fun vs H Q E h => by rw [hn]; exact spD_len vs H Q E h) (fun cdv A outer s H vs Q E hr h => ?_)
  obtain ⟨c, ds, Qd, ok, hP, r, j, dom, hl, ht, out⟩ := h
  obtain ⟨ts, t, hd, hs⟩ := hbody c.rg cdv A outer s H E hr
  refine ⟨ts, hd.ps, ?_⟩
  have rw0 : ∀ a, Rw c a → c.rg.R a := fun a z => z.elim id fun e => by rw [hP] at e; cases e
  refine hd.rf c rfl _ H _ _ H _ _ (sd_start ok hP r j dom) (hs ds Qd ht (by rw [← RpAll.length r]; exact hl)) (fun env' σ' H' q S' => ?_) (fun d v H' q kk jj dd rr => ?_) (fun _ _ _ _ q => q.elim) (fun _ _ _ q _ => q.elim) (fun _ _ _ q _ => q.elim)
  · exact out .non .non H' q (S'.kp.mono rw0) S'.j .non
  · exact out v d H' q (kk.mono rw0) jj rr
end
end DL

namespace DL
open PySem L2
/-! ### comprehensions of two clauses -/
theorem walk_any {J : It} {n : Nat} {G : Hp → Prop} {Y : Nat → Hp → V → Hp → Prop} (w : Walk J n G Y) {B : (Hp → Prop) → V → Hp → Prop} {H1 : Hp} {Qd : Hp → Prop} (Pv : Nat → Hp → Prop) (h0 : Pv 0 H1) (hG : ∀ i H, i ≤ n → Pv i H → G H)
    (hs : ∀ i x H H', i < n → Pv i H → Y i H x H' → B (Pv (i + 1)) x H') (hd : ∀ H, Pv n H → Qd H) :
    ∃ W : Nat → Nat → Hp → Prop, (∃ m, W 0 m H1) ∧ ∀ i m H, W i m H → (J.stop i H ∧ Qd H) ∨ (J.go i H ∧ ∃ Nx : Hp → Prop, (∀ H', Nx H' → ∃ m', m' < m ∧ W (i + 1) m' H') ∧ ∀ x H', J.yld i H x H' → B Nx x H') := by
  refine ⟨fun i m H => m = n - i ∧ i ≤ n ∧ Pv i H, ⟨n, by simp, Nat.zero_le _, h0⟩, ?_⟩
  rintro i m H ⟨rfl, hi, p⟩
  have q := hG i H hi p
  by_cases hlt : i < n
  · exact .inr ⟨w.goes i H hlt q, Pv (i + 1), fun H' p' => ⟨n - (i + 1), by omega, rfl, hlt, p'⟩, fun x H' y => hs i x H H' hlt p (w.yields i H x H' hlt q y)⟩
  · have e : i = n := by omega
    subst e
    exact .inl ⟨w.stops H q, hd H p⟩
def sLc2 (ti : TDs) (sg : SG) (st : TB) (ti1 : TDs) (sg1 : SG) (st1 : TB) (t : TD) (vs vs1 : List Nat) : TDs := fun env Q => ownFree env vs = true ∧ ti env fun xs => ∃ I : Nat → List D → Prop, I 0 [] ∧
  (∀ i x acc, xs[i]? = some x → I i acc → sg x (wipeE env vs) fun env2 => st env2 fun b => if b = true then (ownFree env2 vs1 = true ∧ ti1 env2 fun ys => ∃ I1 : Nat → List D → Prop, I1 0 acc ∧
    (∀ j y acc1, ys[j]? = some y → I1 j acc1 → sg1 y (wipeE env2 vs1) fun env3 => st1 env3 fun b1 => if b1 = true then t env3 fun z => acc1.length < sizeLine ∧ I1 (j + 1) (acc1 ++ [z]) else I1 (j + 1) acc1) ∧ ∀ acc1, I1 ys.length acc1 → I (i + 1) acc1) else I (i + 1) acc) ∧
  ∀ acc, I xs.length acc → Q acc
section
variable {X : Cx} {K : PySem.W.Frag} {rg : Rg} {wi wi1 : TI} {g g1 : TG} {tt tt1 : TT} {te : TE} {ti ti1 : TDs} {sg sg1 : SG} {st st1 : TB} {t : TD} {vs vs1 : List Nat}
/-- one turn's heap: D' holds what is made so far -/
structure LcAt (K : PySem.W.Frag) (c : Dc) (pn : Pin) (H0 : Hp) (env : En) (D' : Addr) (H1 : Hp) (envB : En) (σB : L2.St) (acc : List D) (H : Hp) : Prop where
  ws : ∃ ws, H D' = some (.lst ws) ∧ RpAll K (fun b => Mof c env b ∨ b = D') H ws acc
  kp : Keep c.rg.R H1 H
  sd : Sd K (c.with D') pn H0 envB σB H
theorem LcAt.grow {c : Dc} {pn : Pin} {H0 : Hp} {env : En} {D' : Addr} {H1 : Hp} {envB envC : En} {σB σC : L2.St} {acc : List D} {H H' : Hp} (L : LcAt K c pn H0 env D' H1 envB σB acc H) (sub : ∀ a, c.rg.R a → Mof c env a ∨ a = D') (nR : ¬ c.rg.R D')
    (k : Keep c.rg.R H H') (S : Sd K (c.with D') pn H0 envC σC H') : LcAt K c pn H0 env D' H1 envC σC acc H' := by
  obtain ⟨⟨ws, h1, h2⟩, h3, h4⟩ := L
  exact ⟨⟨ws, k _ _ h1 nR, RpAll.keep (k.mono sub) h2⟩, h3.trans k, S⟩
theorem rf_lc2 (hi : RfI K rg true wi ti) (hg : RfG K rg g sg vs) (ht : RfT K rg tt st) (hi1 : RfI K rg true wi1 ti1) (hg1 : RfG K rg g1 sg1 vs1) (ht1 : RfT K rg tt1 st1) (he : Rf K rg te t) : RfF K rg (tLc2 wi g tt wi1 g1 tt1 te vs vs1) (sLc2 ti sg st ti1 sg1 st1 t vs vs1) := fun c hc pn H0 env σ H Qd Q S hq k => by
  obtain ⟨hown, hq⟩ := hq
  refine hi c hc pn H0 env σ H _ _ S hq fun xs J G Y H1 q1 k1 j1 W hG hY => ?_
  subst hc
  intro D' hD
  obtain ⟨I, i0, turn, fin⟩ := q1
  have S1 := S.grow k1 j1
  have nD : H D' = none := none_back S k1 j1 hD
  have n0 : H0 D' = none := S.h0 nD
  have nR : ¬ c.rg.R D' := fun z => S1.domM D' (Mof.of_R S.ok z) hD
  have nP : c.P ≠ some D' := fun z => S1.dom D' (S.ok.pm D' z).1 hD
  have sub : ∀ a, c.rg.R a → Mof c env a ∨ a = D' := fun a z => .inl (Mof.of_R S.ok z)
  have S2 : Sd K (c.with D') pn H0 (wipeE env vs) (L2.wipe σ vs) (upd H1 D' (.lst [])) := (S1.inComp hD).wipe vs
  have mD : ∀ b, Mof (c.with D') (wipeE env vs) b ↔ Mof c env b ∨ b = D' := fun b => mof_with.trans (by rw [← mof_wipe hown b])
  have toD : ∀ {G G' : Hp}, Keep c.rg.R G G' → Keep (fun a => c.rg.R a ∨ a = D') G G' := fun k => k.mono fun a z => .inl z
  have updK : ∀ {G : Hp} {o : HO}, Keep (fun a => c.rg.R a ∨ a = D') G (upd G D' o) := fun {G o} b u e m => by rw [upd_ne fun z => m (.inr z)]; exact e
  -- an item is put behind
  have put : ∀ {envB envC : En} {σB : L2.St} {acc : List D} {H8 H9 : Hp} {v : V} {y : D}, LcAt K c pn H0 env D' H1 envB σB acc H8 → (∀ b, Mof (c.with D') envC b ↔ Mof c env b ∨ b = D') → Keep c.rg.R H8 H9 → Rp K (Mof (c.with D') envC) H9 v y → Sd K (c.with D') pn H0 envB σB H9 → acc.length < sizeLine →
      ∃ ws, H9 D' = some (.lst ws) ∧ ws.length < sizeLine ∧ LcAt K c pn H0 env D' H1 envB σB (acc ++ [y]) (upd H9 D' (.lst (ws ++ [v]))) := by
    intro envB envC σB acc H8 H9 v y L hm kk r S9 hz
    obtain ⟨⟨ws, h1, h2⟩, h3, h4⟩ := L
    have ra9 : RpAll K (fun b => Mof c env b ∨ b = D') H9 ws acc := RpAll.keep (kk.mono sub) h2
    have r9' : Rp K (fun b => Mof c env b ∨ b = D') H9 v y := Rp.anti (fun b u e z => (hm b).mpr z) r
    have kD : Keep (fun b => Mof c env b ∨ b = D') H9 (upd H9 D' (.lst (ws ++ [v]))) := fun b u e m => by rw [upd_ne fun z => m (.inr z)]; exact e
    refine ⟨ws, kk _ _ h1 nR, by rw [RpAll.length ra9]; exact hz, ⟨ws ++ [v], upd_same, RpAll.append (RpAll.keep kD ra9) (.cons (Rp.keep kD r9') .nil)⟩, fun b u e m => ?_, S9.updD n0 nR nP⟩
    have hb : b ≠ D' := fun z => by rw [z, hD] at e; cases e
    rw [upd_ne hb]
    exact (h3.trans kk) b u e m
  refine walk_any (B := fun Nx x H' => g x (L2.wipe σ vs) H' fun σ2 H2 => L2.wipe σ2 vs = L2.wipe σ vs ∧ tt σ2 H2 fun b H3 =>
    if b = true then wi1 σ2 H3 fun J1 H4 => ∃ W1 : Nat → Nat → Hp → Prop, (∃ m, W1 0 m H4) ∧ ∀ j k H, W1 j k H →
      (J1.stop j H ∧ Nx H) ∨ (J1.go j H ∧ ∃ Nx1 : Hp → Prop, (∀ H', Nx1 H' → ∃ k', k' < k ∧ W1 (j + 1) k' H') ∧ ∀ x H', J1.yld j H x H' → g1 x (L2.wipe σ2 vs1) H' fun σ3 H5 => L2.wipe σ3 vs1 = L2.wipe σ2 vs1 ∧ tt1 σ3 H5 fun b H6 =>
        if b = true then te σ3 H6 fun y H7 => ∃ acc, H7 D' = some (.lst acc) ∧ acc.length < sizeLine ∧ Nx1 (upd H7 D' (.lst (acc ++ [y]))) else Nx1 H6)
    else Nx H3) W (fun i H5 => ∃ acc, I i acc ∧ LcAt K c pn H0 env D' H1 (wipeE env vs) (L2.wipe σ vs) acc H5)
    ⟨[], i0, ⟨[], upd_same, .nil⟩, Keep.upd_new hD, S2⟩ (fun i H5 _ ⟨_, _, L⟩ => hG H5 (L.kp.mono S.ok.sub)) ?_ ?_
  · rintro i x H5 H6 hlt ⟨acc, hI, L5⟩ y
    have S5 := L5.sd
    obtain ⟨d, hd, s6, rd⟩ := hY (Mof (c.with D') (wipeE env vs)) i H5 x H6 hlt (L5.kp.mono S.ok.sub) (L5.kp.mono fun b z => Mof.of_R S.ok z) (fun b u e z => by
      rcases (mD b).mp z with z | rfl
      · exact z
      · rw [hD] at e; cases e) S5.domM y
    have S6 := S5.same s6
    refine hg (c.with D') rfl pn H0 _ _ H6 x d _ _ S6 rd (turn i d acc hd hI) fun env2 σ2 q2 S7 m2 w2 => ⟨w2.trans ?_, ?_⟩
    · apply List.ext_getElem?
      intro j
      rw [wipe_get, wipe_get, wipe_length]
      split <;> rfl
    have L7 := L5.grow sub nR (Keep.of_same s6) S7
    have mD2 : ∀ b, Mof (c.with D') env2 b ↔ Mof c env b ∨ b = D' := fun b => (m2 b).symm.trans (mD b)
    refine ht (c.with D') rfl pn H0 env2 σ2 H6 _ _ S7 q2 fun b H8 q8 k8 j8 => ?_
    have k8' : Keep c.rg.R H6 H8 := k8
    have S8 := S7.grow k8 j8
    have k58 : Keep c.rg.R H5 H8 := (Keep.of_same s6).trans k8'
    cases b with
    | false =>
      rw [if_neg Bool.false_ne_true] at q8 ⊢
      exact ⟨acc, q8, L5.grow sub nR k58 (S5.grow k58 S8.j)⟩
    | true =>
      rw [if_pos rfl] at q8 ⊢
      obtain ⟨hown2, q8⟩ := q8
      refine hi1 (c.with D') rfl pn H0 env2 σ2 H8 _ _ S8 q8 fun ys J1 G1 Y1 H9 q9 k9 j9 W1 hG1 hY1 => ?_
      have k9' : Keep c.rg.R H8 H9 := k9
      obtain ⟨I1, i10, turn1, fin1⟩ := q9
      have S9 := S8.grow k9 j9
      have L9 : LcAt K c pn H0 env D' H1 (wipeE env2 vs1) (L2.wipe σ2 vs1) acc H9 := L7.grow sub nR (k8'.trans k9') (S9.wipe vs1)
      have mD3 : ∀ b, Mof (c.with D') (wipeE env2 vs1) b ↔ Mof c env b ∨ b = D' := fun b => (mof_wipe hown2 b).symm.trans (mD2 b)
      have subM : ∀ a, (c.rg.R a ∨ a = D') → (c.with D').M a := fun a z => z.elim (fun z => .inl (S.ok.sub a z)) .inr
      refine walk_any (B := fun Nx1 x H' => g1 x (L2.wipe σ2 vs1) H' fun σ3 H5 => L2.wipe σ3 vs1 = L2.wipe σ2 vs1 ∧ tt1 σ3 H5 fun b H6 =>
        if b = true then te σ3 H6 fun y H7 => ∃ acc, H7 D' = some (.lst acc) ∧ acc.length < sizeLine ∧ Nx1 (upd H7 D' (.lst (acc ++ [y]))) else Nx1 H6) W1
        (fun j H10 => ∃ acc1, I1 j acc1 ∧ Keep (fun a => c.rg.R a ∨ a = D') H5 H10 ∧ Keep (fun a => c.rg.R a ∨ a = D') H9 H10 ∧ LcAt K c pn H0 env D' H1 (wipeE env2 vs1) (L2.wipe σ2 vs1) acc1 H10)
        ⟨acc, i10, toD (k58.trans k9'), Keep.refl, L9⟩ (fun j H10 _ ⟨_, _, _, k10, _⟩ => hG1 H10 (k10.mono subM)) ?_ ?_
      · rintro j x1 H10 H11 hlt1 ⟨acc1, hI1, k510, k10, L10⟩ y1
        have S10 := L10.sd
        obtain ⟨d1, hd1, s11, rd1⟩ := hY1 (Mof (c.with D') (wipeE env2 vs1)) j H10 x1 H11 hlt1 (k10.mono subM) (k10.mono fun b z => .inl (subM b z)) (fun b u e z => (mof_wipe hown2 b).mpr z) S10.domM y1
        have S11 := S10.same s11
        refine hg1 (c.with D') rfl pn H0 _ _ H11 x1 d1 _ _ S11 rd1 (turn1 j d1 acc1 hd1 hI1) fun env3 σ3 q3 S12 m3 w3 => ⟨w3.trans ?_, ?_⟩
        · apply List.ext_getElem?
          intro j
          rw [wipe_get, wipe_get, wipe_length]
          split <;> rfl
        have mD4 : ∀ b, Mof (c.with D') env3 b ↔ Mof c env b ∨ b = D' := fun b => (m3 b).symm.trans (mD3 b)
        refine ht1 (c.with D') rfl pn H0 env3 σ3 H11 _ _ S12 q3 fun b1 H13 q13 k13 j13 => ?_
        have k13' : Keep c.rg.R H11 H13 := k13
        have S13 := S12.grow k13 j13
        have k1013 : Keep c.rg.R H10 H13 := (Keep.of_same s11).trans k13'
        cases b1 with
        | false =>
          rw [if_neg Bool.false_ne_true] at q13 ⊢
          exact ⟨acc1, q13, k510.trans (toD k1013), k10.trans (toD k1013), L10.grow sub nR k1013 (S10.grow k1013 S13.j)⟩
        | true =>
          rw [if_pos rfl] at q13 ⊢
          refine he (c.with D') rfl pn H0 env3 σ3 H13 _ _ S13 q13 fun z v H14 q14 k14 j14 r14 => ?_
          have k14' : Keep c.rg.R H13 H14 := k14
          have k1014 := k1013.trans k14'
          obtain ⟨ws, e1, e2, L⟩ := put (L10.grow sub nR k1013 (S10.grow k1013 S13.j)) mD4 k14' r14 (S10.grow k1014 j14) q14.1
          exact ⟨ws, e1, e2, acc1 ++ [z], q14.2, (k510.trans (toD k1014)).trans updK, (k10.trans (toD k1014)).trans updK, L⟩
      · rintro H10 ⟨acc1, hI1, k510, k10, L10⟩
        obtain ⟨⟨ws, h1, h2⟩, h3, h4⟩ := L10
        exact ⟨acc1, fin1 acc1 hI1, ⟨ws, h1, h2⟩, h3, S5.growD k510 h4.j (by rw [h1]; exact fun z => by cases z) n0 nP⟩
  · rintro H5 ⟨acc, hI, L5⟩
    obtain ⟨⟨ws, h1, h2⟩, h3, h4⟩ := L5
    exact k acc D' ws H5 (fin acc hI) nD (k1.trans h3) h4.j h1 h2
theorem df_lc2 {elt tg iter tg1 iter1 : Expr} {ifs ifs1 : List Expr} {scope : Scope} {own : List (Str × Nat)} {pos : Pos} (hc : X.calm = true) (hN : X.N.Nodup) (ok : BlkOk X.N X.env.scope scope own) (hv : ∀ i ∈ vs1, i ∈ own.map (·.2)) (hi : DI X K rg true tg iter wi ti)
    (hg : ∀ (s : Shared) (H : Hp) (C : Addr) (cl : List (Str × Addr)) (fp : List Addr), DG (X.blk s H scope (compEnvC scope cl C X.env) fp) K rg tg g sg (own.map (·.2)))
    (ht : ∀ (s : Shared) (H : Hp) (C : Addr) (cl : List (Str × Addr)) (fp : List Addr), DTs (X.blk s H scope (compEnvC scope cl C X.env) fp) K rg ifs tt st)
    (hi1 : ∀ (s : Shared) (H : Hp) (C : Addr) (cl : List (Str × Addr)) (fp : List Addr), DI (X.blk s H scope (compEnvC scope cl C X.env) fp) K rg true tg1 iter1 wi1 ti1)
    (hg1 : ∀ (s : Shared) (H : Hp) (C : Addr) (cl : List (Str × Addr)) (fp : List Addr), DG (X.blk s H scope (compEnvC scope cl C X.env) fp) K rg tg1 g1 sg1 vs1)
    (ht1 : ∀ (s : Shared) (H : Hp) (C : Addr) (cl : List (Str × Addr)) (fp : List Addr), DTs (X.blk s H scope (compEnvC scope cl C X.env) fp) K rg ifs1 tt1 st1)
    (he : ∀ (s : Shared) (H : Hp) (C : Addr) (cl : List (Str × Addr)) (fp : List Addr), DP (X.blk s H scope (compEnvC scope cl C X.env) fp) K rg elt te t) (hs : ∀ x, foldedSetIterable iter X.env x = pure x := by intro _; rfl) (hs1 : ∀ env x, foldedSetIterable iter1 env x = pure x := by intro _ _; rfl) :
    DF X K rg (.ListComp elt [⟨tg, iter, ifs, 0⟩, ⟨tg1, iter1, ifs1, 0⟩] scope pos) (tLc2 wi g tt wi1 g1 tt1 te (own.map (·.2)) vs1) (sLc2 ti sg st ti1 sg1 st1 t (own.map (·.2)) vs1) := by
  cases hi.kx
  exact ⟨rfl, pe_lc2 hc hN hi.pi ok hv (fun s H C cl fp => (hg s H C cl fp).pg) (fun s H C cl fp => (ht s H C cl fp).pt) (fun s H C cl fp => (hi1 s H C cl fp).pi) (fun s H C cl fp => (hg1 s H C cl fp).pg) (fun s H C cl fp => (ht1 s H C cl fp).pt) (fun s H C cl fp => (he s H C cl fp).pe) hs hs1,
   rf_lc2 hi.rf (hg X.s_0 X.H_0 0 [] []).rf (ht X.s_0 X.H_0 0 [] []).rf (hi1 X.s_0 X.H_0 0 [] []).rf (hg1 X.s_0 X.H_0 0 [] []).rf (ht1 X.s_0 X.H_0 0 [] []).rf (he X.s_0 X.H_0 0 [] []).rf⟩
end
end DL

namespace DL
open PySem L2 PySem.Spec PyProof.Rows
section
variable {X : Cx} {K : PySem.W.Frag} {rg : Rg} {st : Stmt} {rest body els : List Stmt} {ts us : TS} {t u : TDS} {e a b : Expr} {es : List Expr} {te ua ub : TE} {ta : TA} {x y : TD} {xs ys : TDs} {tt : TT} {bt : TB} {pos tpos : Pos} {i j : Nat}
/-! ### statements in short -/
theorem ds_setP {n : Str} (he : DP X K rg e te x) (hN : X.N.Nodup) (hi : X.N[i]? = some n) (hx : Loc X.env.scope n) (hs : swapsWith e (some (.Name n tpos)) pos.line X.env = pure false := by rfl) (hf : X.fn n = true ∨ X.env.scope.names.lookup n = some .local := by first | exact .inl rfl | exact .inr rfl) :
    DS X K rg (.Assign [.Name n tpos] e pos) (tAsg te (gName i)) (sSet i x) := ds_set (ps_set hN hi hx he.pe hs hf) he.rf he.kx
theorem ds_setFO {n : Str} (he : DF X K rg e te xs) (hN : X.N.Nodup) (hi : X.N[i]? = some n) (hx : Loc X.env.scope n) (hs : swapsWith e (some (.Name n tpos)) pos.line X.env = pure false := by rfl) (hf : X.fn n = true ∨ X.env.scope.names.lookup n = some .local := by first | exact .inl rfl | exact .inr rfl) :
    DS X K rg (.Assign [.Name n tpos] e pos) (tAsg te (gName i)) (sSetO i xs) := ds_setO (ps_set hN hi hx he.pe hs hf) he.rf he.kx
theorem ds_augP {f : Int → Int → Int} {op : Operator} {n : Str} (he : DP X K rg e te x) (ho : PIp X op (ipI f)) (hN : X.N.Nodup) (hi : X.N[i]? = some n) (hx : Loc X.env.scope n) (hf : X.fn n = true ∨ X.env.scope.names.lookup n = some .local := by first | exact .inl rfl | exact .inr rfl) :
    DS X K rg (.AugAssign (.Name n tpos) op e pos) (tAug i te (ipI f)) (sAugI i (fInt0 f) x) := ds_augI (ps_aug hN hi hx he.pe ho hf) he.rf he.kx
section
variable {elt tg iter tg1 iter1 o : Expr} {ifs ifs1 : List Expr} {scope : Scope} {own : List (Str × Nat)} {vs1 : List Nat} {y : Str} {py pos' spos apos cpos : Pos} {wi wi1 : TI} {g g1 : TG} {tt1 : TT} {ti ti1 : TDs} {sg sg1 : SG} {st0 st1 : TB}
theorem ds_setLcG {R : TDS} (mk : PS X (.Assign [.Name y py] (.ListComp elt [⟨tg, iter, ifs, 0⟩] scope pos) spos) (tAsg (tLc wi g tt te (own.map (·.2))) (gName i)) → RfF K rg (tLc wi g tt te (own.map (·.2))) (sLc ti sg st0 x (own.map (·.2))) → DS X K rg (.Assign [.Name y py] (.ListComp elt [⟨tg, iter, ifs, 0⟩] scope pos) spos) (tAsg (tLc wi g tt te (own.map (·.2))) (gName i)) R)
    (hc : X.calm = true) (hN : X.N.Nodup) (hy : X.N[i]? = some y) (hyl : X.env.scope.names.lookup y = some .local) (hsw : swapsWith (.ListComp elt [⟨tg, iter, ifs, 0⟩] scope pos) (some (.Name y py)) spos.line X.env = pure true) (ok : BlkOk X.N X.env.scope scope own) (hi : DI X K rg true tg iter wi ti)
    (hg : ∀ (s : Shared) (H : Hp) (C : Addr) (cl : List (Str × Addr)) (fp : List Addr), DG (X.blk s H scope (compEnvC scope cl C X.env) fp) K rg tg g sg (own.map (·.2)))
    (ht : ∀ (s : Shared) (H : Hp) (C : Addr) (cl : List (Str × Addr)) (fp : List Addr), DTs (X.blk s H scope (compEnvC scope cl C X.env) fp) K rg ifs tt st0)
    (he : ∀ (s : Shared) (H : Hp) (C : Addr) (cl : List (Str × Addr)) (fp : List Addr), DP (X.blk s H scope (compEnvC scope cl C X.env) fp) K rg elt te x) (hs : ∀ x, foldedSetIterable iter X.env x = pure x := by intro _; rfl) :
    DS X K rg (.Assign [.Name y py] (.ListComp elt [⟨tg, iter, ifs, 0⟩] scope pos) spos) (tAsg (tLc wi g tt te (own.map (·.2))) (gName i)) R :=
  mk (ps_setLc hc hN hy hyl hsw hi.pi ok (fun s H C cl fp => (hg s H C cl fp).pg) (fun s H C cl fp => (ht s H C cl fp).pt) (fun s H C cl fp => (he s H C cl fp).pe) hs)
    (rf_lc hi.rf (hg X.s_0 X.H_0 0 [] []).rf (ht X.s_0 X.H_0 0 [] []).rf (he X.s_0 X.H_0 0 [] []).rf rfl)
theorem RfF.rf {te : TE} {u : TDs} (h : RfF K rg te u) : Rf K rg te (sF u) := fun c hc pn H0 env σ H Qd Q S ht k => h c hc pn H0 env σ H _ Q S ht fun ds a vs H' q ha k1 j e r =>
  k (.lst ds) (.ref a) H' q k1 j (.lst (fun z => S.domM a z ha) e (RpAll.anti (fun _ _ _ z => .inl z) r))
theorem ds_setLcO (hc : X.calm = true) (hN : X.N.Nodup) (hy : X.N[i]? = some y) (hyl : X.env.scope.names.lookup y = some .local) (hsw : swapsWith (.ListComp elt [⟨tg, iter, ifs, 0⟩] scope pos) (some (.Name y py)) spos.line X.env = pure true) (ok : BlkOk X.N X.env.scope scope own) (hi : DI X K rg true tg iter wi ti)
    (hg : ∀ (s : Shared) (H : Hp) (C : Addr) (cl : List (Str × Addr)) (fp : List Addr), DG (X.blk s H scope (compEnvC scope cl C X.env) fp) K rg tg g sg (own.map (·.2)))
    (ht : ∀ (s : Shared) (H : Hp) (C : Addr) (cl : List (Str × Addr)) (fp : List Addr), DTs (X.blk s H scope (compEnvC scope cl C X.env) fp) K rg ifs tt st0)
    (he : ∀ (s : Shared) (H : Hp) (C : Addr) (cl : List (Str × Addr)) (fp : List Addr), DP (X.blk s H scope (compEnvC scope cl C X.env) fp) K rg elt te x) (hs : ∀ x, foldedSetIterable iter X.env x = pure x := by intro _; rfl) :
    DS X K rg (.Assign [.Name y py] (.ListComp elt [⟨tg, iter, ifs, 0⟩] scope pos) spos) (tAsg (tLc wi g tt te (own.map (·.2))) (gName i)) (sSetO i (sLc ti sg st0 x (own.map (·.2)))) := ds_setLcG (fun p r => ds_setO p r hi.kx) hc hN hy hyl hsw ok hi hg ht he hs
theorem ds_setLc (hc : X.calm = true) (hN : X.N.Nodup) (hy : X.N[i]? = some y) (hyl : X.env.scope.names.lookup y = some .local) (hsw : swapsWith (.ListComp elt [⟨tg, iter, ifs, 0⟩] scope pos) (some (.Name y py)) spos.line X.env = pure true) (ok : BlkOk X.N X.env.scope scope own) (hi : DI X K rg true tg iter wi ti)
    (hg : ∀ (s : Shared) (H : Hp) (C : Addr) (cl : List (Str × Addr)) (fp : List Addr), DG (X.blk s H scope (compEnvC scope cl C X.env) fp) K rg tg g sg (own.map (·.2)))
    (ht : ∀ (s : Shared) (H : Hp) (C : Addr) (cl : List (Str × Addr)) (fp : List Addr), DTs (X.blk s H scope (compEnvC scope cl C X.env) fp) K rg ifs tt st0)
    (he : ∀ (s : Shared) (H : Hp) (C : Addr) (cl : List (Str × Addr)) (fp : List Addr), DP (X.blk s H scope (compEnvC scope cl C X.env) fp) K rg elt te x) (hs : ∀ x, foldedSetIterable iter X.env x = pure x := by intro _; rfl) :
    DS X K rg (.Assign [.Name y py] (.ListComp elt [⟨tg, iter, ifs, 0⟩] scope pos) spos) (tAsg (tLc wi g tt te (own.map (·.2))) (gName i)) (sSet i (sF (sLc ti sg st0 x (own.map (·.2))))) := ds_setLcG (fun p r => ds_set p r.rf hi.kx) hc hN hy hyl hsw ok hi hg ht he hs
theorem ds_setLc2 (hc : X.calm = true) (hN : X.N.Nodup) (hy : X.N[i]? = some y) (hyl : X.env.scope.names.lookup y = some .local) (hsw : swapsWith (.ListComp elt [⟨tg, iter, ifs, 0⟩, ⟨tg1, iter1, ifs1, 0⟩] scope pos) (some (.Name y py)) spos.line X.env = pure true) (ok : BlkOk X.N X.env.scope scope own) (hv : ∀ i ∈ vs1, i ∈ own.map (·.2)) (hi : DI X K rg true tg iter wi ti)
    (hg : ∀ (s : Shared) (H : Hp) (C : Addr) (cl : List (Str × Addr)) (fp : List Addr), DG (X.blk s H scope (compEnvC scope cl C X.env) fp) K rg tg g sg (own.map (·.2)))
    (ht : ∀ (s : Shared) (H : Hp) (C : Addr) (cl : List (Str × Addr)) (fp : List Addr), DTs (X.blk s H scope (compEnvC scope cl C X.env) fp) K rg ifs tt st0)
    (hi1 : ∀ (s : Shared) (H : Hp) (C : Addr) (cl : List (Str × Addr)) (fp : List Addr), DI (X.blk s H scope (compEnvC scope cl C X.env) fp) K rg true tg1 iter1 wi1 ti1)
    (hg1 : ∀ (s : Shared) (H : Hp) (C : Addr) (cl : List (Str × Addr)) (fp : List Addr), DG (X.blk s H scope (compEnvC scope cl C X.env) fp) K rg tg1 g1 sg1 vs1)
    (ht1 : ∀ (s : Shared) (H : Hp) (C : Addr) (cl : List (Str × Addr)) (fp : List Addr), DTs (X.blk s H scope (compEnvC scope cl C X.env) fp) K rg ifs1 tt1 st1)
    (he : ∀ (s : Shared) (H : Hp) (C : Addr) (cl : List (Str × Addr)) (fp : List Addr), DP (X.blk s H scope (compEnvC scope cl C X.env) fp) K rg elt te x) (hs : ∀ x, foldedSetIterable iter X.env x = pure x := by intro _; rfl) (hs1 : ∀ env x, foldedSetIterable iter1 env x = pure x := by intro _ _; rfl) :
    DS X K rg (.Assign [.Name y py] (.ListComp elt [⟨tg, iter, ifs, 0⟩, ⟨tg1, iter1, ifs1, 0⟩] scope pos) spos) (tAsg (tLc2 wi g tt wi1 g1 tt1 te (own.map (·.2)) vs1) (gName i)) (sSet i (sF (sLc2 ti sg st0 ti1 sg1 st1 x (own.map (·.2)) vs1))) :=
  ds_set (ps_setLc2 hc hN hy hyl hsw hi.pi ok hv (fun s H C cl fp => (hg s H C cl fp).pg) (fun s H C cl fp => (ht s H C cl fp).pt) (fun s H C cl fp => (hi1 s H C cl fp).pi) (fun s H C cl fp => (hg1 s H C cl fp).pg) (fun s H C cl fp => (ht1 s H C cl fp).pt) (fun s H C cl fp => (he s H C cl fp).pe) hs hs1)
    (RfF.rf (rf_lc2 hi.rf (hg X.s_0 X.H_0 0 [] []).rf (ht X.s_0 X.H_0 0 [] []).rf (hi1 X.s_0 X.H_0 0 [] []).rf (hg1 X.s_0 X.H_0 0 [] []).rf (ht1 X.s_0 X.H_0 0 [] []).rf (he X.s_0 X.H_0 0 [] []).rf)) hi.kx
/-! methods of lists of one's own, as statements -/
theorem ds_appP {apos : Pos} {oo : Expr} (ho : PE X oo (tVar i)) (he : DP X K rg e te x) (hbase : attributeBase oo "append" X.env (eval oo X.env) = eval oo X.env := by rfl)
    (hfew : ((backTo cpos (starEach [e] X.env)).all (fun x => !x.1) && (backToKw cpos (keywordEach [] X.env)).all (fun x => x.1.isSome) && decide ([e].length + ([] : List Keyword).length + (if ([] : List Keyword).isEmpty then 0 else 1) < 30)) = true := by rfl)
    (hline : (apos.endLine == cpos.line) = true := by rfl) (hs : starEach [e] X.env = (false, eval e X.env) :: starEach [] X.env := by rfl) (hplain : (backTo cpos (starEach [] X.env)).any (·.1) = false := by rfl)
    (hsw : swapsWith (.Call (.Attribute oo "append" apos) [e] [] cpos) none pos.line X.env = pure false := by rfl) :
    DS X K rg (.Expr (.Call (.Attribute oo "append" apos) [e] [] cpos) pos) (tDrop (tBM K "list" rAppend (tVar i) (tCons te tNil))) (sApp i x) := by
  cases he.kx
  exact ds_app (ps_expr (pe_bm PySem.F.plainAttrs_list PySem.F.slot_list_append PySem.F.type_list_append mt_append ho (pa_cons he.pe pa_nil hs) hbase hfew hline hs hplain) hsw) he.rf rfl
theorem ds_extP {apos : Pos} {oo : Expr} (ho : PE X oo (tVar i)) (he : DP X K rg e te x) (hbase : attributeBase oo "extend" X.env (eval oo X.env) = eval oo X.env := by rfl)
    (hfew : ((backTo cpos (starEach [e] X.env)).all (fun x => !x.1) && (backToKw cpos (keywordEach [] X.env)).all (fun x => x.1.isSome) && decide ([e].length + ([] : List Keyword).length + (if ([] : List Keyword).isEmpty then 0 else 1) < 30)) = true := by rfl)
    (hline : (apos.endLine == cpos.line) = true := by rfl) (hs : starEach [e] X.env = (false, eval e X.env) :: starEach [] X.env := by rfl) (hplain : (backTo cpos (starEach [] X.env)).any (·.1) = false := by rfl)
    (hsw : swapsWith (.Call (.Attribute oo "extend" apos) [e] [] cpos) none pos.line X.env = pure false := by rfl) :
    DS X K rg (.Expr (.Call (.Attribute oo "extend" apos) [e] [] cpos) pos) (tDrop (tBM K "list" rExtend (tVar i) (tCons te tNil))) (sExt i x) := by
  cases he.kx
  exact ds_ext (ps_expr (pe_bm PySem.F.plainAttrs_list PySem.F.slot_list_extend PySem.F.type_list_extend mt_extend ho (pa_cons he.pe pa_nil hs) hbase hfew hline hs hplain) hsw) he.rf rfl
theorem ds_appPopP {apos apos2 cpos2 : Pos} {oo o2 : Expr} (ho : PE X oo (tVar i)) (ho2 : PE X o2 (tVar j)) (he : DP X K rg e te x) (hbase2 : attributeBase o2 "pop" X.env (eval o2 X.env) = eval o2 X.env := by rfl)
    (hfew2 : ((backTo cpos2 (starEach [e] X.env)).all (fun x => !x.1) && (backToKw cpos2 (keywordEach [] X.env)).all (fun x => x.1.isSome) && decide ([e].length + ([] : List Keyword).length + (if ([] : List Keyword).isEmpty then 0 else 1) < 30)) = true := by rfl)
    (hline2 : (apos2.endLine == cpos2.line) = true := by rfl) (hs2 : starEach [e] X.env = (false, eval e X.env) :: starEach [] X.env := by rfl) (hplain2 : (backTo cpos2 (starEach [] X.env)).any (·.1) = false := by rfl)
    (hbase : attributeBase oo "append" X.env (eval oo X.env) = eval oo X.env := by rfl)
    (hfew : ((backTo cpos (starEach [.Call (.Attribute o2 "pop" apos2) [e] [] cpos2] X.env)).all (fun x => !x.1) && (backToKw cpos (keywordEach [] X.env)).all (fun x => x.1.isSome) && decide ([Expr.Call (.Attribute o2 "pop" apos2) [e] [] cpos2].length + ([] : List Keyword).length + (if ([] : List Keyword).isEmpty then 0 else 1) < 30)) = true := by rfl)
    (hline : (apos.endLine == cpos.line) = true := by rfl) (hs : starEach [.Call (.Attribute o2 "pop" apos2) [e] [] cpos2] X.env = (false, eval (.Call (.Attribute o2 "pop" apos2) [e] [] cpos2) X.env) :: starEach [] X.env := by rfl) (hplain : (backTo cpos (starEach [] X.env)).any (·.1) = false := by rfl)
    (hsw : swapsWith (.Call (.Attribute oo "append" apos) [.Call (.Attribute o2 "pop" apos2) [e] [] cpos2] [] cpos) none pos.line X.env = pure false := by rfl) :
    DS X K rg (.Expr (.Call (.Attribute oo "append" apos) [.Call (.Attribute o2 "pop" apos2) [e] [] cpos2] [] cpos) pos) (tDrop (tBM K "list" rAppend (tVar i) (tCons (tBM K "list" rPopAt (tVar j) (tCons te tNil)) tNil))) (sAppPop i j x) := by
  cases he.kx
  exact ds_appPop (ps_expr (pe_bm PySem.F.plainAttrs_list PySem.F.slot_list_append PySem.F.type_list_append mt_append ho (pa_cons (pe_bm PySem.F.plainAttrs_list PySem.F.slot_list_pop PySem.F.type_list_pop mt_popAt ho2 (pa_cons he.pe pa_nil hs2) hbase2 hfew2 hline2 hs2 hplain2) pa_nil hs) hbase hfew hline hs hplain) hsw) he.rf rfl
end
/-! ### a, b = x, y -/
section
variable {nx ny : Str} {px py pt : Pos} {kt k2 : Nat} {pt2 : Pos}
theorem Sd.hide {c : Dc} {pn : Pin} {H0 : Hp} {env : En} {σ : L2.St} {H H1 : Hp} {a : Addr} (S : Sd K c pn H0 env σ H) (ha : H a = none) (k : Keep c.rg.R H H1) (jj : c.rg.J H1) (hl : H1 a ≠ none) : Sd K (c.with a) pn H0 env σ H1 := by
  have T : Sd K (c.with a) pn H0 env σ (upd H a (.lst [])) := S.inComp ha
  refine T.growD (fun b o e m => ?_) jj hl (S.h0 ha) (fun z => S.dom a (S.ok.pm a z).1 ha)
  by_cases hb : b = a
  · exact absurd (.inr hb) m
  · rw [upd_ne hb] at e
    exact k b o e fun z => m (.inl z)
theorem mof_setO {c : Dc} {env : En} {i : Nat} {a b : Addr} {ds : List D} (h : Mof c (env.set i (some (.own a ds))) b) : Mof (c.with a) env b := by
  rcases h with h | ⟨k, s, e1, e2⟩
  · exact .inl (.inl h)
  · by_cases hk : i = k
    · subst hk
      by_cases hl : i < env.length
      · rw [List.getElem?_set_self hl] at e1
        cases e1; cases e2
        exact .inl (.inr rfl)
      · rw [List.getElem?_eq_none (by simpa using hl)] at e1; cases e1
    · rw [List.getElem?_set_ne hk] at e1
      exact .inr ⟨k, s, e1, e2⟩
theorem mof_setD {c : Dc} {env : En} {i : Nat} {b : Addr} {d : D} (h : Mof c (env.set i (some (.dat d))) b) : Mof c env b := by
  rcases h with h | ⟨k, s, e1, e2⟩
  · exact .inl h
  · by_cases hk : i = k
    · subst hk
      by_cases hl : i < env.length
      · rw [List.getElem?_set_self hl] at e1
        cases e1; cases e2
      · rw [List.getElem?_eq_none (by simpa using hl)] at e1; cases e1
    · rw [List.getElem?_set_ne hk] at e1
      exact .inr ⟨k, s, e1, e2⟩
def sParFF (i j : Nat) (xs ys : TDs) : TDS := fun Dd env => xs env fun ds => ys env fun es => i < env.length ∧ j < env.length ∧ ∀ p q, Dd.nx ((env.set i (some (.own p ds))).set j (some (.own q es)))
theorem rf_parFF (h1 : RfF K rg ua xs) (h2 : RfF K rg ub ys) : RfS K rg (tPar i j (tCons ua (tCons ub tNil))) (sParFF i j xs ys) := fun c hc pn H0 env σ H Dd De S h n r ro bk ct => by
  refine h1 c hc pn H0 env σ H _ _ S h fun ds a vs H1 q1 ha k1 j1 hl1 r1 => ?_
  subst hc
  have T0 := S.hide ha k1 j1 (by rw [hl1]; exact fun z => nomatch z)
  refine h2 (c.with a) rfl pn H0 env σ H1 _ _ T0 q1 fun es b ws H2 q2 hb k2 j2 hl2 r2 => ?_
  obtain ⟨qi, qj, q⟩ := q2
  have T1 := S.setO i qi ha k1 j1 hl1 r1
  have T2 := T1.setO j (by simpa using qj) hb k2 j2 hl2 (RpAll.anti (fun d o e z => z.elim (fun z => .inl (mof_setO z)) .inr) r2)
  exact ⟨.ref a, .ref b, rfl, n _ _ _ (q a b) T2⟩
def sParPF (i j : Nat) (x : TD) (ys : TDs) : TDS := fun Dd env => x env fun d => ys env fun es => i < env.length ∧ j < env.length ∧ ∀ q, Dd.nx ((env.set i (some (.dat d))).set j (some (.own q es)))
theorem rf_parPF (h1 : Rf K rg ua x) (h2 : RfF K rg ub ys) : RfS K rg (tPar i j (tCons ua (tCons ub tNil))) (sParPF i j x ys) := fun c hc pn H0 env σ H Dd De S h n r ro bk ct => by
  refine h1 c hc pn H0 env σ H _ _ S h fun d v H1 q1 k1 j1 r1 => ?_
  subst hc
  have S1 := S.grow k1 j1
  refine h2 c rfl pn H0 env σ H1 _ _ S1 q1 fun es b ws H2 q2 hb k2 j2 hl2 r2 => ?_
  obtain ⟨qi, qj, q⟩ := q2
  have T1 := S1.setD i qi r1
  have T2 := T1.setO j (by simpa using qj) hb k2 j2 hl2 (RpAll.anti (fun d o e z => z.elim (fun z => .inl (mof_setD z)) .inr) r2)
  exact ⟨v, .ref b, rfl, n _ _ _ (q b) T2⟩
def sParFP (i j : Nat) (xs : TDs) (y : TD) : TDS := fun Dd env => xs env fun ds => y env fun d => i < env.length ∧ j < env.length ∧ ∀ q, Dd.nx ((env.set i (some (.own q ds))).set j (some (.dat d)))
theorem rf_parFP (h1 : RfF K rg ua xs) (h2 : Rf K rg ub y) : RfS K rg (tPar i j (tCons ua (tCons ub tNil))) (sParFP i j xs y) := fun c hc pn H0 env σ H Dd De S h n r ro bk ct => by
  refine h1 c hc pn H0 env σ H _ _ S h fun ds a vs H1 q1 ha k1 j1 hl1 r1 => ?_
  subst hc
  have T0 := S.hide ha k1 j1 (by rw [hl1]; exact fun z => nomatch z)
  refine h2 (c.with a) rfl pn H0 env σ H1 _ _ T0 q1 fun d v H2 q2 k2 j2 r2 => ?_
  obtain ⟨qi, qj, q⟩ := q2
  have T1 := (S.setO i qi ha k1 j1 hl1 r1).grow k2 j2
  have T2 := T1.setD j (by simpa using qj) (Rp.anti (fun _ _ _ z => mof_setO z) r2)
  exact ⟨.ref a, v, rfl, n _ _ _ (q a) T2⟩
def sParPP (i j : Nat) (x y : TD) : TDS := fun Dd env => x env fun d => y env fun e => i < env.length ∧ j < env.length ∧ Dd.nx ((env.set i (some (.dat d))).set j (some (.dat e)))
theorem rf_parPP (h1 : Rf K rg ua x) (h2 : Rf K rg ub y) : RfS K rg (tPar i j (tCons ua (tCons ub tNil))) (sParPP i j x y) := fun c hc pn H0 env σ H Dd De S h n r ro bk ct => by
  refine h1 c hc pn H0 env σ H _ _ S h fun d v H1 q1 k1 j1 r1 => ?_
  subst hc
  have S1 := S.grow k1 j1
  refine h2 c rfl pn H0 env σ H1 _ _ S1 q1 fun e w H2 q2 k2 j2 r2 => ?_
  obtain ⟨qi, qj, q⟩ := q2
  have T1 := (S1.setD i qi r1).grow k2 j2
  have T2 := T1.setD j (by simpa using qj) (Rp.anti (fun _ _ _ z => mof_setD z) r2)
  exact ⟨v, w, rfl, n _ _ _ q T2⟩
variable (hc : X.calm = true) (hN : X.N.Nodup) (hi : X.N[i]? = some nx) (hj : X.N[j]? = some ny) (hij : i ≠ j) (hx : X.env.scope.names.lookup nx = some .local) (hy : X.env.scope.names.lookup ny = some .local)
include hc hN hi hj hij hx hy
theorem ds_parFF (h1 : DF X K rg a ua xs) (h2 : DF X K rg b ub ys) (hw : swappedStores [.Tuple [.Name nx px, .Name ny py] kt pt] (.Tuple [a, b] k2 pt2) X.env = pure (some [nx, ny])) (hs1 : starEach [a, b] X.env = (false, eval a X.env) :: starEach [b] X.env := by rfl) (hs2 : starEach [b] X.env = (false, eval b X.env) :: starEach [] X.env := by rfl)
    (hs : swapsWithSole [.Tuple [.Name nx px, .Name ny py] kt pt] (.Tuple [a, b] k2 pt2) pos.line X.env = pure false := by rfl) :
    DS X K rg (.Assign [.Tuple [.Name nx px, .Name ny py] kt pt] (.Tuple [a, b] k2 pt2) pos) (tPar i j (tCons ua (tCons ub tNil))) (sParFF i j xs ys) := by
  cases h1.kx
  exact ⟨rfl, ps_par hc hN hi hj hij hx hy (pa_cons h1.pe (pa_cons h2.pe pa_nil hs2) hs1) hw hs, rf_parFF h1.rf h2.rf⟩
theorem ds_parPF (h1 : DP X K rg a ua x) (h2 : DF X K rg b ub ys) (hw : swappedStores [.Tuple [.Name nx px, .Name ny py] kt pt] (.Tuple [a, b] k2 pt2) X.env = pure (some [nx, ny])) (hs1 : starEach [a, b] X.env = (false, eval a X.env) :: starEach [b] X.env := by rfl) (hs2 : starEach [b] X.env = (false, eval b X.env) :: starEach [] X.env := by rfl)
    (hs : swapsWithSole [.Tuple [.Name nx px, .Name ny py] kt pt] (.Tuple [a, b] k2 pt2) pos.line X.env = pure false := by rfl) :
    DS X K rg (.Assign [.Tuple [.Name nx px, .Name ny py] kt pt] (.Tuple [a, b] k2 pt2) pos) (tPar i j (tCons ua (tCons ub tNil))) (sParPF i j x ys) := by
  cases h1.kx
  exact ⟨rfl, ps_par hc hN hi hj hij hx hy (pa_cons h1.pe (pa_cons h2.pe pa_nil hs2) hs1) hw hs, rf_parPF h1.rf h2.rf⟩
theorem ds_parFP (h1 : DF X K rg a ua xs) (h2 : DP X K rg b ub y) (hw : swappedStores [.Tuple [.Name nx px, .Name ny py] kt pt] (.Tuple [a, b] k2 pt2) X.env = pure (some [nx, ny])) (hs1 : starEach [a, b] X.env = (false, eval a X.env) :: starEach [b] X.env := by rfl) (hs2 : starEach [b] X.env = (false, eval b X.env) :: starEach [] X.env := by rfl)
    (hs : swapsWithSole [.Tuple [.Name nx px, .Name ny py] kt pt] (.Tuple [a, b] k2 pt2) pos.line X.env = pure false := by rfl) :
    DS X K rg (.Assign [.Tuple [.Name nx px, .Name ny py] kt pt] (.Tuple [a, b] k2 pt2) pos) (tPar i j (tCons ua (tCons ub tNil))) (sParFP i j xs y) := by
  cases h1.kx
  exact ⟨rfl, ps_par hc hN hi hj hij hx hy (pa_cons h1.pe (pa_cons h2.pe pa_nil hs2) hs1) hw hs, rf_parFP h1.rf h2.rf⟩
theorem ds_par (h1 : DP X K rg a ua x) (h2 : DP X K rg b ub y) (hw : swappedStores [.Tuple [.Name nx px, .Name ny py] kt pt] (.Tuple [a, b] k2 pt2) X.env = pure (some [nx, ny])) (hs1 : starEach [a, b] X.env = (false, eval a X.env) :: starEach [b] X.env := by rfl) (hs2 : starEach [b] X.env = (false, eval b X.env) :: starEach [] X.env := by rfl)
    (hs : swapsWithSole [.Tuple [.Name nx px, .Name ny py] kt pt] (.Tuple [a, b] k2 pt2) pos.line X.env = pure false := by rfl) :
    DS X K rg (.Assign [.Tuple [.Name nx px, .Name ny py] kt pt] (.Tuple [a, b] k2 pt2) pos) (tPar i j (tCons ua (tCons ub tNil))) (sParPP i j x y) := by
  cases h1.kx
  exact ⟨rfl, ps_par hc hN hi hj hij hx hy (pa_cons h1.pe (pa_cons h2.pe pa_nil hs2) hs1) hw hs, rf_parPP h1.rf h2.rf⟩
end
/-! ### further calls -/
def fInt : FL := fun ds Q => match ds with | [.int i] => Q (.int i) | _ => False
theorem cad_int : CaD K (fun xs H Q => (∃ i, xs = [.int i] ∧ Q (.int i) H) ∨ ∃ k, xs = [.bl k] ∧ Q (.int (if k then 1 else 0)) H) fInt := by
  intro M0 M H vs ds Qd Q hM r hf k
  unfold fInt at hf
  split at hf
  · obtain ⟨v, rfl, r1⟩ := r.one
    rw [r1.int]
    exact .inl ⟨_, rfl, k _ _ H hf (Same.refl H) (.int _)⟩
  · exact hf.elim
def fAbs : FL := fun ds Q => match ds with | [.int i] => Q (.int (if i < 0 then -i else i)) | _ => False
theorem cad_abs : CaD K (fun xs H Q => ∃ i, xs = [.int i] ∧ Q (.int (if i < 0 then -i else i)) H) fAbs := by
  intro M0 M H vs ds Qd Q hM r hf k
  unfold fAbs at hf
  split at hf
  · obtain ⟨v, rfl, r1⟩ := r.one
    rw [r1.int]
    exact ⟨_, rfl, k _ _ H hf (Same.refl H) (.int _)⟩
  · exact hf.elim
def fStr : FL := fun ds Q => match ds with | [.str i] => Q (.str i) | _ => False
theorem cad_str : CaD K (fun xs H Q => ∃ a, xs = [.str a] ∧ Q (.str a) H) fStr := by
  intro M0 M H vs ds Qd Q hM r hf k
  unfold fStr at hf
  split at hf
  · obtain ⟨v, rfl, r1⟩ := r.one
    rw [r1.str]
    exact ⟨_, rfl, k _ _ H hf (Same.refl H) (.str _)⟩
  · exact hf.elim
def fMax2 : FL := fun ds Q => match ds with | [.int i, .int j] => Q (.int (if j > i then j else i)) | _ => False
theorem cad_max2 : CaD K (fun xs H Q => ∃ i j, xs = [.int i, .int j] ∧ Q (.int (if j > i then j else i)) H) fMax2 := by
  intro M0 M H vs ds Qd Q hM r hf k
  unfold fMax2 at hf
  split at hf
  · obtain ⟨v, w, rfl, r1, r2⟩ := r.two
    rw [r1.int, r2.int]
    exact ⟨_, _, rfl, k _ _ H hf (Same.refl H) (.int _)⟩
  · exact hf.elim
def fMin2 : FL := fun ds Q => match ds with | [.int i, .int j] => Q (.int (if j < i then j else i)) | _ => False
theorem cad_min2 : CaD K (fun xs H Q => ∃ i j, xs = [.int i, .int j] ∧ Q (.int (if j < i then j else i)) H) fMin2 := by
  intro M0 M H vs ds Qd Q hM r hf k
  unfold fMin2 at hf
  split at hf
  · obtain ⟨v, w, rfl, r1, r2⟩ := r.two
    rw [r1.int, r2.int]
    exact ⟨_, _, rfl, k _ _ H hf (Same.refl H) (.int _)⟩
  · exact hf.elim
theorem RpAll.strs {M : Addr → Prop} {H : Hp} : ∀ zs : List Str, RpAll K M H (zs.map V.str) (zs.map D.str)
  | [] => .nil
  | n :: ns => .cons (.str n) (RpAll.strs ns)
theorem RpAll.ofStrs {M : Addr → Prop} {H : Hp} : ∀ {vs : List V} (zs : List Str), RpAll K M H vs (zs.map D.str) → vs = zs.map V.str
  | _, [], .nil => rfl
  | _, z :: zs, .cons a b => by cases a; rw [RpAll.ofStrs zs b]; rfl
/-- sorted(a list of texts) -/
def fSortS : FL := fun ds Q => match ds with | [.lst es] => ∃ zs : List Str, es = zs.map D.str ∧ zs.length < 64 ∧ ∀ ys : List Str, ys.Perm zs → sortedS ys = true → Q (.lst (ys.map .str)) | _ => False
theorem cad_sortedS : CaD K (rSortedS K) fSortS := by
  intro M0 M H vs ds Qd Q hM r hf k
  unfold fSortS at hf
  split at hf
  · obtain ⟨zs, rfl, hz, q⟩ := hf
    obtain ⟨v, rfl, r1⟩ := r.one
    obtain ⟨p, ws, rfl, h1, a1⟩ := r1.lst
    have e := RpAll.ofStrs zs a1
    subst e
    refine ⟨p, zs, rfl, SqL.of h1, hz, fun ys l hp hs hl => ?_⟩
    exact k _ _ _ (q ys hp hs) (fun b o e => by rw [upd_ne (ne_of_none e hl)]; exact e) (.lst (fun z => hM l z hl) upd_same (RpAll.strs ys))
  · exact hf.elim
/-- -n -/
def sNeg (x : TD) : TD := fun env Q => x env fun d => match d with | .int i => Q (.int (-i)) | _ => False
theorem d_neg (h : DP X K rg e te x) : DP X K rg (.UnaryOp .USub e pos) (tUn (rU fun i => .int (-i)) te) (sNeg x) := by
  cases h.kx
  exact ⟨rfl, pe_un un_neg h.pe, fun c hc pn H0 env σ H Qd Q S ht k => by
  refine h.rf c hc pn H0 env σ H _ _ S ht fun d v H1 q1 k1 j1 r1 => ?_
  cases d with
  | int i => cases r1; exact ⟨i, rfl, k _ _ H1 q1 k1 j1 (.int _)⟩
  | _ => exact q1.elim⟩
/-- xs[::-1] -/
def sRev (x : TD) : TDs := fun env Q => x env fun d => match d with | .lst ds => Q ds.reverse | _ => False
theorem df_rev {kk : Nat} {p1 p2 p3 : Pos} (h : DO X K rg e te x) : DF X K rg (.Subscript e (.Slice none none (some (.UnaryOp .USub (.Constant (.int 1) kk p1) p2)) p3) pos) (tRevL K te) (sRev x) := by
  cases h.kx
  exact ⟨rfl, pe_revL h.pe, fun c hc pn H0 env σ H Qd Q S ht k => by
  refine h.rf c hc pn H0 env σ H _ _ S ht fun d v H1 q1 k1 j1 r1 => ?_
  subst hc
  cases d with
  | lst ds =>
    obtain ⟨p, vs, rfl, h1, a1⟩ := r1.lst
    exact ⟨p, vs, rfl, SqL.of h1, fun l hl => k _ l _ _ q1 (none_back S k1 j1 hl) (fresh_keep k1 hl) (fresh_j S.ok j1 hl) upd_same (fresh_all hl (RpAll.reverse a1))⟩
  | _ => exact q1.elim⟩
/-! ### isinstance of a built-in type -/
def tyD : D → Option String
  | .non => some "NoneType" | .bl _ => some "bool" | .int _ => some "int" | .str _ => some "str" | .lst _ => some "list" | .tup _ => some "tuple" | _ => none
theorem tyD_ok {M0 M : Addr → Prop} {H : Hp} {v : V} {d : D} {T : String} (r : RpO K M0 M H v d) (h : tyD d = some T) : TyX K H v (.type T) := by
  cases d with
  | non => cases h; rw [r.non]; exact .base .non
  | bl b => cases h; rw [r.bl]; exact .base (.bl b)
  | int b => cases h; rw [r.int]; exact .base (.int b)
  | str b => cases h; rw [r.str]; exact .base (.str b)
  | lst ds => cases h; obtain ⟨p, vs, rfl, h1, _⟩ := r.lst; exact .base (.lst h1)
  | tup ds =>
    cases h
    rcases r with r | ⟨_, _, _, _, e, _⟩
    · cases r with
      | tup m e a => exact .base (.tup e)
      | tupK e a => obtain ⟨o, its, n, e1, e2, _⟩ := e; exact .kTuple e1 e2
    · cases e
  | _ => cases h
def sIsi (T : String) (x : TD) : TD := fun env Q => x env fun d => ∃ S b, tyD d = some S ∧ kitB S T = some b ∧ Q (.bl b)
theorem d_isi {T : String} {nm : Str} {p p2 : Pos} (hg : Gl X "isinstance") (hm : X.mg "isinstance" = none) (hg2 : Gl X nm) (hm2 : X.mg nm = none) (hv2 : bootBuiltins nm = some (.type T)) (h : DO X K rg e te x) (hn : nm ≠ "__name__" := by decide) (hd : (nm == ("__debug__" : Str)) = false := by decide)
    (hs1 : starEach [e, .Name nm p2] X.env = (false, eval e X.env) :: starEach [.Name nm p2] X.env := by rfl) (hs2 : starEach [.Name nm p2] X.env = (false, eval (.Name nm p2) X.env) :: starEach [] X.env := by rfl)
    (hpl : (backTo pos (starEach [.Name nm p2] X.env)).any (·.1) = false := by rfl) :
    DP X K rg (.Call (.Name "isinstance" p) [e, .Name nm p2] [] pos) (tCB (rIsi K) (tCons te (tCons (tC (.ty T)) tNil))) (sIsi T x) := by
  cases h.kx
  exact ⟨rfl, pe_callB call_isi hg hm (by decide +kernel) (pa_cons h.pe (pa_cons (pe_bltn (v := .ty T) hg2 hm2 hv2 rfl hn hd) pa_nil hs2) hs1) (by decide) (by decide) hs1 hpl, fun c hc pn H0 env σ H Qd Q S ht k => by
    refine h.rf c hc pn H0 env σ H _ _ S ht fun d v H1 q1 k1 j1 r1 => ?_
    obtain ⟨T', b, e1, e2, q⟩ := q1
    exact ⟨v, .ty T, .type T', .type T, b, rfl, .ty T, tyD_ok r1 e1, kit_ty e2, k _ _ H1 q k1 j1 (.bl b)⟩⟩
/-! ### calls, in short -/
/-- a def of the module that keeps a promise told of data -/
structure Cal (P : Program) (w : World) (K : PySem.W.Frag) (mg : Str → Option Value) (base : Heap) (nm : Str) (lv n : Nat) (tf : Tf) : Prop where
  ex : ∃ (f : Addr) (fd : FuncData) (ps : List Str), FnOk P w K mg base CX0 lv f fd ps (spD K n tf) ∧ mg nm = some (.ref f) ∧ PySem.W.keepIn K (.ref f) = true ∧ Binds K fd ps []
theorem d_callC {lv n : Nat} {tf : Tf} {nm : Str} {p : Pos} (C : Cal X.prog X.w K X.mg X.base nm lv n tf) (hr : Room lv X.A) (hg : Gl X nm) (ha : DA X K rg (e :: es) ta xs) (hdb : (nm == ("__debug__" : Str)) = false := by decide) (he : starEach (e :: es) X.env = (false, eval e X.env) :: starEach es X.env := by rfl) (hpl : (backTo pos (starEach es X.env)).any (·.1) = false := by rfl) :
    DP X K rg (.Call (.Name nm p) (e :: es) [] pos) (tCall (spD K n tf) [] E0 ta) (sCallD n tf rg xs) := by
  obtain ⟨f, fd, ps, F, hm, hk, hb⟩ := C.ex
  exact d_call F hr hg hm hk hb pass0 ha hdb he hpl
theorem d_callCO {lv n : Nat} {tf : Tf} {nm : Str} {p : Pos} (C : Cal X.prog X.w K X.mg X.base nm lv n tf) (hr : Room lv X.A) (hg : Gl X nm) (ha : DAO X K rg (e :: es) ta xs) (hdb : (nm == ("__debug__" : Str)) = false := by decide) (he : starEach (e :: es) X.env = (false, eval e X.env) :: starEach es X.env := by rfl) (hpl : (backTo pos (starEach es X.env)).any (·.1) = false := by rfl) :
    DP X K rg (.Call (.Name nm p) (e :: es) [] pos) (tCall (spD K n tf) [] E0 ta) (sCallO n tf rg xs) := by
  obtain ⟨f, fd, ps, F, hm, hk, hb⟩ := C.ex
  exact d_callO F hr hg hm hk hb pass0 ha hdb he hpl
end
end DL

set_option maxHeartbeats 2000000
/-! zip whose last pair may still be held by somebody -/
namespace ZL
open PySem
open Sem (wp)
abbrev ZAt (h : Heap) (z TI TO : Addr) (f0 : Value) (k : Bool) : Prop := h.get? z = some ⟨.type "zip", none, .fields #[f0, .bool k, .bool false, .ref TI, .ref TO], #[]⟩
def Hold (f0 : Value) : Prop := f0 = .none ∨ ∃ t : Int, f0 = rawInt t
section
variable {prog : Program} {w : World} {A : Around} {E : Value → Shared → Prop} {s : Shared} {z TI TO i1 i2 : Addr} {fp1 fp2 : List Addr} {n1 n2 i : Nat} {P1 P2 : Nat → Value → Prop} {St1 St2 : Nat → Heap → Prop} {a1 a2 f0 : Value} {k : Bool}
theorem alive_ {M : Model} {a : Addr} {Q : Option Obj → Shared → Prop} (h : Q (s.heap.get? a) s) : wpAny M A (loadIfAlive a) Q E s := fun _ _ _ => h
theorem free_ {Q : Bool → Shared → Prop} (hz : ZAt s.heap z TI TO f0 k) (ho : Hold f0) (h1 : Q true s) (h2 : ∀ h', ZAt h' z TI TO f0 true → Heap.SameBut z s.heap h' → Q false { s with heap := h' }) :
    wpAny (model prog w) A (Builtin.SmallTypes.ownedTupleIsFree (.ref z)) Q E s := by
  unfold Builtin.SmallTypes.ownedTupleIsFree
  rcases ho with rfl | ⟨t, rfl⟩
  · exact wpAny_bind (wpAny_field hz rfl (x := Value.none) rfl (wpAny_pure h1))
  · refine wpAny_bind (wpAny_field hz rfl (x := rawInt t) rfl ?_)
    show wpAny _ _ (loadIfAlive t.toNat >>= _) _ _ s
    refine wpAny_bind (alive_ ?_)
    cases q : s.heap.get? t.toNat with
    | none => exact wpAny_pure h1
    | some o =>
      show wpAny _ _ (field (.ref z) 1 >>= _) _ _ s
      refine wpAny_bind (wpAny_field hz rfl (x := Value.bool k) rfl ?_)
      cases k with
      | true => exact wpAny_pure (h2 s.heap hz (Heap.SameBut.refl ..))
      | false =>
        refine wpAny_bind (wpAny_setField_rec hz (by simp) fun g0 hz0 hs0 => ?_)
        exact wpAny_pure (h2 g0 hz0 hs0)
/-- one pair more -/
theorem zip_item {Q : Value → Shared → Prop} (S : ZipSep2 z TI TO i1 i2 fp1 fp2) (D1 : Draws prog w A i1 fp1 n1 P1 St1) (D2 : Draws prog w A i2 fp2 n2 P2 St2) (hz : ZAt s.heap z TI TO f0 k) (ho : Hold f0)
    (hTI : IsTupOf2 s.heap TI (.ref i1) (.ref i2)) (hTO : IsTupOf2 s.heap TO a1 a2) (st1 : St1 i s.heap) (st2 : St2 i s.heap) (l1 : i < n1) (l2 : i < n2)
    (hQ : ∀ y1 y2 b1 b2 g0 k' h' tk, P1 i y1 → P2 i y2 → ZAt h' z TI TO g0 k' → Hold g0 → IsTupOf2 h' TO b1 b2 → St1 (i + 1) h' → St2 (i + 1) h' → IsTupOf2 h' s.heap.objs.size y1 y2 → h'.objs.size = s.heap.objs.size + 1 →
      (∀ b o, b ≠ z → b ≠ TO → b ≠ i1 → b ≠ i2 → s.heap.get? b = some o → h'.get? b = some o) → Q (.ref s.heap.objs.size) { s with heap := h', toks := tk }) :
    wpAny (model prog w) A (Builtin.«zip.__next__» ⟨[.ref z], []⟩) (fun fin s' => ∃ v, fin = .done (.ret v) ∧ Q v s') E s := by
  obtain ⟨hp, gg, dd, tk0, oo⟩ := s
  show wpAny _ _ (field (.ref z) 2 >>= _) _ _ _
  refine wpAny_bind (wpAny_field hz rfl (x := Value.bool false) rfl ?_)
  show wpAny _ _ (field (.ref z) 3 >>= _) _ _ _
  refine wpAny_bind (wpAny_field hz rfl (x := Value.ref TI) rfl ?_)
  refine wpAny_bind (wpAny_seqItems hTI rfl ?_)
  show wpAny _ _ (Builtin.SmallTypes.ownedTupleIsFree (.ref z) >>= _) _ _ _
  refine wpAny_bind (free_ hz ho ?_ fun g9 hz9 hs9 => ?_)
  · -- its own tuple is used again
    simp only [if_true]
    refine wpAny_bind (wpAny_rule (wpAny_bind (wpAny_field hz rfl (x := Value.ref TO) rfl (wpAny_bind (wpAny_setField_rec hz (by simp) fun m0 z0 e0 => ?_)))))
    replace z0 : ZAt m0 z TI TO .ellipsis k := z0
    replace e0 : Heap.SameBut z hp m0 := e0
    refine wpAny_bind ?_
    simp only [List.zipIdx_cons, List.zipIdx_nil, List.forIn_cons, List.forIn_nil]
    refine wpAny_bind (wpAny_bind (wpAny_onRaise ?_))
    show wpAny _ _ (Builtin.SmallTypes.nextOf (.ref i1) >>= _) _ _ ⟨m0, gg, dd, tk0, oo⟩
    refine wpAny_bind (D1.item i _ _ _ l1 (D1.over st1 e0 S.zf1) fun y1 m1 t1 p1 c1 e1 => wpAny_pure ?_)
    replace e1 : Heap.SameBut i1 m0 m1 := e1
    have u1 : IsTupOf2 m1 TO a1 a2 := e1.extBut _ _ S.Ti1 (e0.extBut _ _ S.TOz hTO)
    refine wpAny_bind (wpAny_seqItems (s := ⟨m1, gg, dd, t1, oo⟩) u1 rfl (wpAny_bind (updateSeq_IsTupOf2 (s := ⟨m1, gg, dd, t1, oo⟩) u1 fun m2 u2 e2 => ?_)))
    replace u2 : IsTupOf2 m2 TO y1 a2 := u2
    replace e2 : Heap.SameBut TO m1 m2 := e2
    refine wpAny_bind (wpAny_letGo (wpAny_pure (wpAny_bind (wpAny_bind (wpAny_onRaise ?_)))))
    show wpAny _ _ (Builtin.SmallTypes.nextOf (.ref i2) >>= _) _ _ ⟨m2, gg, dd, t1, oo⟩
    refine wpAny_bind (D2.item i _ _ _ l2 (D2.over (D2.over (D2.over st2 e0 S.zf2) e1 S.sep1_2) e2 S.Tf2) fun y2 m3 t2 p2 c2 e3 => wpAny_pure ?_)
    replace e3 : Heap.SameBut i2 m2 m3 := e3
    have u3 : IsTupOf2 m3 TO y1 a2 := e3.extBut _ _ S.Ti2 u2
    refine wpAny_bind (wpAny_seqItems (s := ⟨m3, gg, dd, t2, oo⟩) u3 rfl (wpAny_bind (updateSeq_IsTupOf2 (s := ⟨m3, gg, dd, t2, oo⟩) u3 fun m4 u4 e4 => ?_)))
    replace u4 : IsTupOf2 m4 TO y1 y2 := u4
    replace e4 : Heap.SameBut TO m3 m4 := e4
    refine wpAny_bind (wpAny_letGo (wpAny_pure (wpAny_pure ?_)))
    refine wpAny_bind (wpAny_seqItems (s := ⟨m4, gg, dd, t2, oo⟩) u4 rfl (wpAny_bind (wpAny_newTuple ?_)))
    have sz : m4.objs.size = hp.objs.size := by rw [e4.1, e3.1, e2.1, e1.1, e0.1]
    have z4 : ZAt m4 z TI TO .ellipsis k := e4.extBut _ _ S.TOz.symm (e3.extBut _ _ S.zi2 (e2.extBut _ _ S.TOz.symm (e1.extBut _ _ S.zi1 z0)))
    have kp4 : ∀ b o, b ≠ z → b ≠ TO → b ≠ i1 → b ≠ i2 → hp.get? b = some o → m4.get? b = some o := fun b o bz bT b1 b2 q =>
      e4.extBut _ _ bT (e3.extBut _ _ b2 (e2.extBut _ _ bT (e1.extBut _ _ b1 (e0.extBut _ _ bz q))))
    have f1 : St1 (i + 1) m4 := D1.over (D1.over (D1.over c1 e2 S.Tf1) e3 S.sep2_1) e4 S.Tf1
    have f2 : St2 (i + 1) m4 := D2.over c2 e4 S.Tf2
    have zlt : z < m4.objs.size := Heap.lt_size z4
    show wpAny _ _ (Builtin.SmallTypes.ownedTupleHandOut (.ref z) (.ref m4.objs.size) >>= _) _ _ ⟨m4.push ⟨.type "tuple", none, .seq #[y1, y2] 0, #[]⟩, gg, dd, t2, oo⟩
    refine wpAny_bind ?_
    unfold Builtin.SmallTypes.ownedTupleHandOut
    have z5 : ZAt (m4.push ⟨.type "tuple", none, .seq #[y1, y2] 0, #[]⟩) z TI TO .ellipsis k := Heap.get?_push_of_some _ z4
    refine wpAny_bind (wpAny_setField_rec z5 (by simp) fun m6 z6 e6 => ?_)
    replace z6 : ZAt m6 z TI TO (rawInt m4.objs.size) k := z6
    replace e6 : Heap.SameBut z (m4.push ⟨.type "tuple", none, .seq #[y1, y2] 0, #[]⟩) m6 := e6
    refine wpAny_setField_rec z6 (by simp) fun m7 z7 e7 => ?_
    replace z7 : ZAt m7 z TI TO (rawInt m4.objs.size) false := z7
    replace e7 : Heap.SameBut z m6 m7 := e7
    have up : ∀ b o, b ≠ z → m4.get? b = some o → m7.get? b = some o := fun b o hb q => e7.extBut _ _ hb (e6.extBut _ _ hb (Heap.get?_push_of_some _ q))
    have T7 : IsTupOf2 m7 m4.objs.size y1 y2 := e7.extBut _ _ (Nat.ne_of_gt zlt) (e6.extBut _ _ (Nat.ne_of_gt zlt) (Heap.get?_push_size _ rfl))
    have sz7 : m7.objs.size = m4.objs.size + 1 := by rw [e7.1, e6.1, Heap.size_push]
    rw [sz] at T7 sz7
    refine wpAny_pure ⟨_, rfl, ?_⟩
    show Q (.ref m4.objs.size) ⟨m7, gg, dd, t2, oo⟩
    rw [sz]
    exact hQ y1 y2 y1 y2 _ _ m7 t2 p1 p2 z7 (.inr ⟨_, rfl⟩) (up _ _ S.TOz u4) (D1.frame _ _ _ f1 fun b hb o q => up b o (fun e => S.zf1 (e ▸ hb)) q) (D2.frame _ _ _ f2 fun b hb o q => up b o (fun e => S.zf2 (e ▸ hb)) q) T7 sz7
      fun b o bz bT b1 b2 q => up b o bz (kp4 b o bz bT b1 b2 q)
  · -- somebody holds it
    simp only [Bool.false_eq_true, if_false]
    replace hz9 : ZAt g9 z TI TO f0 true := hz9
    replace hs9 : Heap.SameBut z hp g9 := hs9
    refine wpAny_bind ?_
    rw [← Array.forIn_toList]
    simp only [List.forIn_cons, List.forIn_nil]
    refine wpAny_bind (wpAny_bind (wpAny_holding ?_))
    show wpAny _ _ (Builtin.SmallTypes.nextOf (.ref i1) >>= _) _ _ ⟨g9, gg, dd, tk0, oo⟩
    refine wpAny_bind (D1.item i _ _ _ l1 (D1.over st1 hs9 S.zf1) fun y1 m1 t1 p1 c1 e1 => wpAny_pure (wpAny_pure ?_))
    replace e1 : Heap.SameBut i1 g9 m1 := e1
    refine wpAny_bind (wpAny_bind (wpAny_holding ?_))
    show wpAny _ _ (Builtin.SmallTypes.nextOf (.ref i2) >>= _) _ _ ⟨m1, gg, dd, t1, oo⟩
    refine wpAny_bind (D2.item i _ _ _ l2 (D2.over (D2.over st2 hs9 S.zf2) e1 S.sep1_2) fun y2 m2 t2 p2 c2 e2 => wpAny_pure (wpAny_pure ?_))
    replace e2 : Heap.SameBut i2 m1 m2 := e2
    refine wpAny_pure ?_
    refine wpAny_bind (wpAny_newTuple (hsz := by show 2 ≤ sizeLine; rw [sizeLine_eq]; decide) (wpAny_pure ?_))
    have sz : m2.objs.size = hp.objs.size := by rw [e2.1, e1.1, hs9.1]
    have z2 : ZAt m2 z TI TO f0 true := e2.extBut _ _ S.zi2 (e1.extBut _ _ S.zi1 hz9)
    have ps : ∀ b o, m2.get? b = some o → (m2.push ⟨.type "tuple", none, .seq #[y1, y2] 0, #[]⟩).get? b = some o := fun b o q => Heap.get?_push_of_some _ q
    refine ⟨_, rfl, ?_⟩
    show Q (.ref m2.objs.size) ⟨m2.push ⟨.type "tuple", none, .seq #[y1, y2] 0, #[]⟩, gg, dd, t2, oo⟩
    rw [sz]
    refine hQ y1 y2 a1 a2 _ _ _ t2 p1 p2 (ps _ _ z2) ho (ps _ _ (e2.extBut _ _ S.Ti2 (e1.extBut _ _ S.Ti1 (hs9.extBut _ _ S.TOz hTO)))) (D1.frame _ _ _ (D1.over c1 e2 S.sep2_1) fun b _ o q => ps b o q) (D2.frame _ _ _ c2 fun b _ o q => ps b o q) ?_ (by rw [Heap.size_push, sz]) ?_
    · rw [← sz]; exact Heap.get?_push_size _ rfl
    · exact fun b o bz bT b1 b2 q => ps b o (e2.extBut _ _ b2 (e1.extBut _ _ b1 (hs9.extBut _ _ bz q)))
/-- no pair more -/
theorem zip_end {Q : Fin → Shared → Prop} (S : ZipSep2 z TI TO i1 i2 fp1 fp2) (D1 : Draws prog w A i1 fp1 n1 P1 St1) (D2 : Draws prog w A i2 fp2 n2 P2 St2) (hz : ZAt s.heap z TI TO f0 k) (ho : Hold f0)
    (hTI : IsTupOf2 s.heap TI (.ref i1) (.ref i2)) (hTO : IsTupOf2 s.heap TO a1 a2) (st1 : St1 i s.heap) (st2 : St2 i s.heap) (l1 : i ≤ n1) (l2 : i ≤ n2) (hend : i = n1 ∨ i = n2)
    (hE : ∀ h' tk e, (∀ b o, b ≠ z → b ≠ TO → b ≠ i1 → b ≠ i2 → s.heap.get? b = some o → h'.get? b = some o) → (∃ o, h'.get? e = some o ∧ o.cls = .type "StopIteration") → E (.ref e) { s with heap := h', toks := tk }) :
    wpAny (model prog w) A (Builtin.«zip.__next__» ⟨[.ref z], []⟩) Q E s := by
  obtain ⟨hp, gg, dd, tk0, oo⟩ := s
  show wpAny _ _ (field (.ref z) 2 >>= _) _ _ _
  refine wpAny_bind (wpAny_field hz rfl (x := Value.bool false) rfl ?_)
  show wpAny _ _ (field (.ref z) 3 >>= _) _ _ _
  refine wpAny_bind (wpAny_field hz rfl (x := Value.ref TI) rfl ?_)
  refine wpAny_bind (wpAny_seqItems hTI rfl ?_)
  show wpAny _ _ (Builtin.SmallTypes.ownedTupleIsFree (.ref z) >>= _) _ _ _
  refine wpAny_bind (free_ hz ho ?_ fun g9 hz9 hs9 => ?_)
  · simp only [if_true]
    refine wpAny_bind (wpAny_rule (wpAny_bind (wpAny_field hz rfl (x := Value.ref TO) rfl (wpAny_bind (wpAny_setField_rec hz (by simp) fun m0 z0 e0 => ?_)))))
    replace z0 : ZAt m0 z TI TO .ellipsis k := z0
    replace e0 : Heap.SameBut z hp m0 := e0
    refine wpAny_bind ?_
    simp only [List.zipIdx_cons, List.zipIdx_nil, List.forIn_cons, List.forIn_nil]
    refine wpAny_bind (wpAny_bind (wpAny_onRaise ?_))
    show wpAny _ _ (Builtin.SmallTypes.nextOf (.ref i1) >>= _) _ _ ⟨m0, gg, dd, tk0, oo⟩
    by_cases h1 : i < n1
    · refine wpAny_bind (D1.item i _ _ _ h1 (D1.over st1 e0 S.zf1) fun y1 m1 t1 p1 c1 e1 => wpAny_pure ?_)
      replace e1 : Heap.SameBut i1 m0 m1 := e1
      have u1 : IsTupOf2 m1 TO a1 a2 := e1.extBut _ _ S.Ti1 (e0.extBut _ _ S.TOz hTO)
      refine wpAny_bind (wpAny_seqItems (s := ⟨m1, gg, dd, t1, oo⟩) u1 rfl (wpAny_bind (updateSeq_IsTupOf2 (s := ⟨m1, gg, dd, t1, oo⟩) u1 fun m2 u2 e2 => ?_)))
      replace e2 : Heap.SameBut TO m1 m2 := e2
      have hi2 : i = n2 := by omega
      refine wpAny_bind (wpAny_letGo (wpAny_pure (wpAny_bind (wpAny_bind (wpAny_onRaise ?_)))))
      show wpAny _ _ (Builtin.SmallTypes.nextOf (.ref i2) >>= _) _ _ ⟨m2, gg, dd, t1, oo⟩
      refine wpAny_bind (D2.done ⟨m2, gg, dd, t1, oo⟩ _ _ (by rw [← hi2]; exact D2.over (D2.over (D2.over st2 e0 S.zf2) e1 S.sep1_2) e2 S.Tf2) fun m3 x e3 he => ?_)
      replace e3 : Heap.ExtBut i2 m2 m3 := e3
      obtain ⟨ox, hox, hcx⟩ := he
      replace hox : m3.get? x = some ox := hox
      have z3 : ZAt m3 z TI TO .ellipsis k := e3 _ _ S.zi2 (e2.extBut _ _ S.TOz.symm (e1.extBut _ _ S.zi1 z0))
      have xz : x ≠ z := fun q => by subst q; rw [z3] at hox; cases hox; simp at hcx
      refine wpAny_setField_rec (s := ⟨m3, gg, dd, t1, oo⟩) z3 (by simp) fun m4 _ e4 => ?_
      replace e4 : Heap.SameBut z m3 m4 := e4
      exact hE m4 t1 x (fun b o bz bT b1 b2 q => e4.extBut _ _ bz (e3 _ _ b2 (e2.extBut _ _ bT (e1.extBut _ _ b1 (e0.extBut _ _ bz q))))) ⟨ox, e4.extBut _ _ xz hox, hcx⟩
    · have hi1 : i = n1 := by omega
      refine wpAny_bind (D1.done ⟨m0, gg, dd, tk0, oo⟩ _ _ (by rw [← hi1]; exact D1.over st1 e0 S.zf1) fun m3 x e3 he => ?_)
      replace e3 : Heap.ExtBut i1 m0 m3 := e3
      obtain ⟨ox, hox, hcx⟩ := he
      replace hox : m3.get? x = some ox := hox
      have z3 : ZAt m3 z TI TO .ellipsis k := e3 _ _ S.zi1 z0
      have xz : x ≠ z := fun q => by subst q; rw [z3] at hox; cases hox; simp at hcx
      refine wpAny_setField_rec (s := ⟨m3, gg, dd, tk0, oo⟩) z3 (by simp) fun m4 _ e4 => ?_
      replace e4 : Heap.SameBut z m3 m4 := e4
      exact hE m4 tk0 x (fun b o bz bT b1 b2 q => e4.extBut _ _ bz (e3 _ _ b1 (e0.extBut _ _ bz q))) ⟨ox, e4.extBut _ _ xz hox, hcx⟩
  · simp only [Bool.false_eq_true, if_false]
    replace hs9 : Heap.SameBut z hp g9 := hs9
    refine wpAny_bind ?_
    rw [← Array.forIn_toList]
    simp only [List.forIn_cons, List.forIn_nil]
    refine wpAny_bind (wpAny_bind (wpAny_holding ?_))
    show wpAny _ _ (Builtin.SmallTypes.nextOf (.ref i1) >>= _) _ _ ⟨g9, gg, dd, tk0, oo⟩
    by_cases h1 : i < n1
    · refine wpAny_bind (D1.item i _ _ _ h1 (D1.over st1 hs9 S.zf1) fun y1 m1 t1 p1 c1 e1 => wpAny_pure (wpAny_pure ?_))
      replace e1 : Heap.SameBut i1 g9 m1 := e1
      have hi2 : i = n2 := by omega
      refine wpAny_bind (wpAny_bind (wpAny_holding ?_))
      show wpAny _ _ (Builtin.SmallTypes.nextOf (.ref i2) >>= _) _ _ ⟨m1, gg, dd, t1, oo⟩
      refine wpAny_bind (D2.done ⟨m1, gg, dd, t1, oo⟩ _ _ (by rw [← hi2]; exact D2.over (D2.over st2 hs9 S.zf2) e1 S.sep1_2) fun m3 x e3 he => ?_)
      replace e3 : Heap.ExtBut i2 m1 m3 := e3
      exact hE m3 t1 x (fun b o bz bT b1 b2 q => e3 _ _ b2 (e1.extBut _ _ b1 (hs9.extBut _ _ bz q))) he
    · have hi1 : i = n1 := by omega
      refine wpAny_bind (D1.done ⟨g9, gg, dd, tk0, oo⟩ _ _ (by rw [← hi1]; exact D1.over st1 hs9 S.zf1) fun m3 x e3 he => ?_)
      replace e3 : Heap.ExtBut i1 g9 m3 := e3
      exact hE m3 tk0 x (fun b o bz bT b1 b2 q => e3 _ _ b1 (hs9.extBut _ _ bz q)) he
theorem next_item {Q : Option Value → Shared → Prop} (S : ZipSep2 z TI TO i1 i2 fp1 fp2) (D1 : Draws prog w A.in1 i1 fp1 n1 P1 St1) (D2 : Draws prog w A.in1 i2 fp2 n2 P2 St2) (hz : ZAt s.heap z TI TO f0 k) (ho : Hold f0)
    (hTI : IsTupOf2 s.heap TI (.ref i1) (.ref i2)) (hTO : IsTupOf2 s.heap TO a1 a2) (st1 : St1 i s.heap) (st2 : St2 i s.heap) (l1 : i < n1) (l2 : i < n2)
    (hQ : ∀ y1 y2 b1 b2 g0 k' h' tk, P1 i y1 → P2 i y2 → ZAt h' z TI TO g0 k' → Hold g0 → IsTupOf2 h' TO b1 b2 → St1 (i + 1) h' → St2 (i + 1) h' → IsTupOf2 h' s.heap.objs.size y1 y2 → h'.objs.size = s.heap.objs.size + 1 →
      (∀ b o, b ≠ z → b ≠ TO → b ≠ i1 → b ≠ i2 → s.heap.get? b = some o → h'.get? b = some o) → Q (some (.ref s.heap.objs.size)) { s with heap := h', toks := tk }) : wpAny (model prog w) A (pyNext (.ref z)) Q E s := by
  have ty : s.TypeIs (.ref z) "zip" := ⟨_, hz, rfl⟩
  unfold pyNext
  refine wpAny_bind (wpAny_attempt (wpAny_callSpecial?_slot (name := Str.ofString "__next__") ty F.slot_zip_next (wpAny_call_entry F.slot_zip_next ty F.entry_zip_next ?_ (F.args_zip_next_1 _))))
  exact zip_item S D1 D2 hz ho hTI hTO st1 st2 l1 l2 fun y1 y2 b1 b2 g0 k' h' tk q1 q2 q3 q4 q5 q6 q7 q8 q9 q10 => wpAny_pure (hQ y1 y2 b1 b2 g0 k' h' tk q1 q2 q3 q4 q5 q6 q7 q8 q9 q10)
theorem next_end {Q : Option Value → Shared → Prop} (S : ZipSep2 z TI TO i1 i2 fp1 fp2) (D1 : Draws prog w A.in1 i1 fp1 n1 P1 St1) (D2 : Draws prog w A.in1 i2 fp2 n2 P2 St2) (hz : ZAt s.heap z TI TO f0 k) (ho : Hold f0)
    (hTI : IsTupOf2 s.heap TI (.ref i1) (.ref i2)) (hTO : IsTupOf2 s.heap TO a1 a2) (st1 : St1 i s.heap) (st2 : St2 i s.heap) (l1 : i ≤ n1) (l2 : i ≤ n2) (hend : i = n1 ∨ i = n2)
    (hQ : ∀ h' tk, (∀ b o, b ≠ z → b ≠ TO → b ≠ i1 → b ≠ i2 → s.heap.get? b = some o → h'.get? b = some o) → Q none { s with heap := h', toks := tk }) : wpAny (model prog w) A (pyNext (.ref z)) Q E s := by
  have ty : s.TypeIs (.ref z) "zip" := ⟨_, hz, rfl⟩
  unfold pyNext
  refine wpAny_bind (wpAny_attempt (wpAny_callSpecial?_slot (name := Str.ofString "__next__") ty F.slot_zip_next (wpAny_call_entry F.slot_zip_next ty F.entry_zip_next ?_ (F.args_zip_next_1 _))))
  refine zip_end S D1 D2 hz ho hTI hTO st1 st2 l1 l2 hend fun h' tk x kp he => ?_
  obtain ⟨ox, hox, hcx⟩ := he
  exact wpAny_bind (wpAny_isInstance (T := "StopIteration") (b := true) ⟨ox, hox, hcx⟩ isSubtype_stop (wpAny_pure (hQ _ _ kp)))
end
end ZL

set_option maxHeartbeats 1000000
namespace ZL
open PySem L2 PySem.Spec PyProof.Rows
/-! ### zip whose pairs go to one name -/
/-- a tuple (k) or a list that is read -/
def SqK (k : Bool) (K : PySem.W.Frag) (H : Hp) (a : Addr) (xs : List V) : Prop := if k = true then SqT K H a xs else SqL K H a xs
def itAt (k : Bool) (h : Heap) (it a : Addr) (i : Nat) : Prop := if k = true then h.IsTupleIter it a i else h.IsListIter it a i
def sqAt (k : Bool) (h : Heap) (a : Addr) (xs : Array Value) : Prop := if k = true then h.IsTuple a xs else h.IsList a xs
theorem draws_k (k : Bool) {prog : Program} {w : World} {A : Around} (hh : A.handled = none) (it a : Addr) (hne : a ≠ it) (xs : Array Value) : Draws prog w A it [it, a] xs.size (fun i v => xs[i]? = some v) (fun i h => itAt k h it a i ∧ sqAt k h a xs) := by
  cases k with
  | true => exact Draws.tuple hh it a hne xs
  | false => exact Draws.list hh it a hne xs
theorem itAt.lt {k : Bool} {h : Heap} {it a : Addr} {i : Nat} (t : itAt k h it a i) : ∃ o, h.get? it = some o ∧ ∀ v, o.data ≠ .cell v := by
  cases k with
  | true => obtain ⟨o, e, _, d⟩ := t; exact ⟨o, e, fun v q => by rw [d] at q; cases q⟩
  | false => obtain ⟨o, e, _, d⟩ := t; exact ⟨o, e, fun v q => by rw [d] at q; cases q⟩
theorem itAt.keep {k : Bool} {h h' : Heap} {it a : Addr} {i : Nat} (t : itAt k h it a i) (e : ∀ o, h.get? it = some o → h'.get? it = some o) : itAt k h' it a i := by
  cases k with
  | true => exact Heap.IsTupleIter.at t e
  | false => exact Heap.IsListIter.at t e
theorem sq_of {X : Cx} {pins : List (Addr × Obj)} {σ : L2.St} {H : Hp} {s : Shared} {k : Bool} {a : Addr} {xs : List V} (I : Inv X pins σ H s) (h : SqK k X.K H a xs) : ∃ its : List Value, Vals xs its ∧ sqAt k s.heap a its.toArray ∧ a < s.heap.objs.size := by
  cases k with
  | true => obtain ⟨its, r, p, _⟩ := I.tuple h; exact ⟨its, r, p, let ⟨_, e, _⟩ := p; Heap.lt_size e⟩
  | false => obtain ⟨its, r, p, _⟩ := I.list h; exact ⟨its, r, p.isList, p.lt⟩
theorem sq_inj {X : Cx} {pins : List (Addr × Obj)} {σ : L2.St} {H : Hp} {s : Shared} {k : Bool} {a : Addr} {xs ys : List V} (I : Inv X pins σ H s) (h : SqK k X.K H a xs) (h' : SqK k X.K H a ys) : xs = ys := by
  cases k with
  | true => exact I.tuple_inj h h'
  | false => exact I.list_inj h h'
def ItN (K : PySem.W.Frag) (ka kb : Bool) (a b : Addr) : It :=
  ⟨fun i H => ∃ (xs ys : List V) (x y : V), SqK ka K H a xs ∧ SqK kb K H b ys ∧ xs[i]? = some x ∧ ys[i]? = some y,
   fun i H v H' => ∃ T x y, v = .ref T ∧ H T = none ∧ H' = upd H T (.tup [x, y]) ∧ (∀ xs, SqK ka K H a xs → xs[i]? = some x) ∧ ∀ ys, SqK kb K H b ys → ys[i]? = some y,
   fun i H => ∃ xs ys : List V, SqK ka K H a xs ∧ SqK kb K H b ys ∧ (xs.length ≤ i ∨ ys.length ≤ i) ∧ i ≤ xs.length ∧ i ≤ ys.length⟩
def tnN (ka kb : Bool) (z TI TO i1 i2 a b : Addr) (i : Nat) (h : Heap) : Prop :=
  (∃ f0 k, ZAt h z TI TO f0 k ∧ Hold f0) ∧ IsTupOf2 h TI (.ref i1) (.ref i2) ∧ (∃ x y, IsTupOf2 h TO x y) ∧ itAt ka h i1 a i ∧ itAt kb h i2 b i
structure Apart (z TI TO i1 i2 a b : Addr) : Prop where
  p : ZipSep2 z TI TO i1 i2 [i1, a] [i2, b]
  n1 : a ≠ i1
  n2 : b ≠ i2
  aTI : a ≠ TI
  bTI : b ≠ TI
/-- one turn, whatever becomes of the pair -/
theorem turn_item {X : Cx} {pins : List (Addr × Obj)} {σ : L2.St} {H : Hp} {s : Shared} {E : Value → Shared → Prop} {ka kb : Bool} {z TI TO i1 i2 a b : Addr} {i : Nat} {Q : Option Value → Shared → Prop} {A : Around} (hA : A.handled = none) (D : Apart z TI TO i1 i2 a b) (I : Inv X pins σ H s)
    (hf : ∀ c ∈ [z, TI, TO, i1, i2], FpOk X pins H c) (st : tnN ka kb z TI TO i1 i2 a b i s.heap) (hg : (ItN X.K ka kb a b).go i H)
    (hQ : ∀ u s' x H', u = Value.ref s.heap.objs.size → x = V.ref s.heap.objs.size → Inv X pins σ H' s' → (ItN X.K ka kb a b).yld i H x H' → tnN ka kb z TI TO i1 i2 a b (i + 1) s'.heap → (∀ c ∈ [z, TI, TO, i1, i2], H' c = none) → Q (some u) s') :
    wpAny (model X.prog X.w) A (pyNext (.ref z)) Q E s := by
  obtain ⟨⟨f0, k, hz, ho⟩, hTI, ⟨x0, y0, hTO⟩, h1, h2⟩ := st
  obtain ⟨xs, ys, x, y, hqx, hqy, hx, hy⟩ := hg
  obtain ⟨its, rv, p, lt1⟩ := sq_of I hqx
  obtain ⟨its2, rv2, p2, lt2⟩ := sq_of I hqy
  obtain ⟨u, hu, ru⟩ := rv.get hx
  obtain ⟨u2, hu2, ru2⟩ := rv2.get hy
  have hh : A.in1.handled = none := hA
  refine next_item D.p (draws_k ka hh i1 a D.n1 its.toArray) (draws_k kb hh i2 b D.n2 its2.toArray) hz ho hTI hTO ⟨h1, p⟩ ⟨h2, p2⟩ (i := i) (by have := (List.getElem?_eq_some_iff.mp hu).1; simpa using this) (by have := (List.getElem?_eq_some_iff.mp hu2).1; simpa using this)
    fun y1 y2 b1 b2 g0 k' h' tk q1 q2 q3 q4 q5 q6 q7 q8 q9 q10 => ?_
  have e1 : y1 = u := by
    have : its.toArray[i]? = some y1 := q1
    simp only [List.getElem?_toArray] at this
    rw [hu] at this; exact (Option.some.inj this).symm
  have e2 : y2 = u2 := by
    have : its2.toArray[i]? = some y2 := q2
    simp only [List.getElem?_toArray] at this
    rw [hu2] at this; exact (Option.some.inj this).symm
  subst e1 e2
  have new : ObjOk X.prog X.w (upd H s.heap.objs.size (.tup [x, y])) h' s.heap.objs.size (.tup [x, y]) := ⟨by show 2 ≤ sizeLine; decide, [y1, y2], .cons ru (.cons ru2 .nil), ⟨_, q8, rfl, _, rfl⟩⟩
  have I1 : Inv X pins σ (upd H s.heap.objs.size (.tup [x, y])) { s with heap := h', toks := tk } :=
    I.turnedNew (ch := [z, TI, TO, i1, i2]) (fun c o hb q => q10 c o (fun e => hb (by simp [e])) (fun e => hb (by simp [e])) (fun e => hb (by simp [e])) (fun e => hb (by simp [e])) q) hf (Nat.le_refl _) new
  refine hQ _ _ _ _ rfl rfl I1 ⟨_, x, y, rfl, I.hok.fresh (Nat.le_refl _), rfl, fun l hl => by rw [sq_inj I hl hqx]; exact hx, fun l hl => by rw [sq_inj I hl hqy]; exact hy⟩ ⟨⟨g0, k', q3, q4⟩, ?_, ⟨b1, b2, q5⟩, q6.1, q7.1⟩ fun c hcm => ?_
  · exact q10 _ _ D.p.TIz D.p.TITO D.p.TIi1 D.p.TIi2 hTI
  · have hlt : c < s.heap.objs.size := by
      simp only [List.mem_cons, List.not_mem_nil, or_false] at hcm
      rcases hcm with q | q | q | q | q <;> subst q
      · exact Heap.lt_size hz
      · exact Heap.lt_size hTI
      · exact Heap.lt_size hTO
      · obtain ⟨_, e, _⟩ := h1.lt; exact Heap.lt_size e
      · obtain ⟨_, e, _⟩ := h2.lt; exact Heap.lt_size e
    rw [upd_ne (Nat.ne_of_lt hlt)]
    exact (hf c hcm).1
theorem turn_done {X : Cx} {pins : List (Addr × Obj)} {σ : L2.St} {H : Hp} {s : Shared} {E : Value → Shared → Prop} {ka kb : Bool} {z TI TO i1 i2 a b : Addr} {i : Nat} {Q : Option Value → Shared → Prop} {A : Around} (hA : A.handled = none) (D : Apart z TI TO i1 i2 a b) (I : Inv X pins σ H s)
    (hf : ∀ c ∈ [z, TI, TO, i1, i2], FpOk X pins H c) (st : tnN ka kb z TI TO i1 i2 a b i s.heap) (hg : (ItN X.K ka kb a b).stop i H) (hQ : ∀ s', Inv X pins σ H s' → Q none s') :
    wpAny (model X.prog X.w) A (pyNext (.ref z)) Q E s := by
  obtain ⟨⟨f0, k, hz, ho⟩, hTI, ⟨x0, y0, hTO⟩, h1, h2⟩ := st
  obtain ⟨xs, ys, hqx, hqy, hend, le1, le2⟩ := hg
  obtain ⟨its, rv, p, lt1⟩ := sq_of I hqx
  obtain ⟨its2, rv2, p2, lt2⟩ := sq_of I hqy
  have e1 := rv.length
  have e2 := rv2.length
  have hh : A.in1.handled = none := hA
  refine next_end D.p (draws_k ka hh i1 a D.n1 its.toArray) (draws_k kb hh i2 b D.n2 its2.toArray) hz ho hTI hTO ⟨h1, p⟩ ⟨h2, p2⟩ (i := i) (by simp; omega) (by simp; omega) (by simp; omega) fun h' tk kp => ?_
  exact hQ _ (I.turnedL (t' := tk) (ch := [z, TI, TO, i1, i2]) (fun c o hb q => kp c o (fun e => hb (by simp [e])) (fun e => hb (by simp [e])) (fun e => hb (by simp [e])) (fun e => hb (by simp [e])) q) hf)
theorem turn_zipN {P : Program} {w : World} {K : PySem.W.Frag} {nm : Str} {npos : Pos} {ka kb : Bool} {a b z TI TO i1 i2 : Addr} (D : Apart z TI TO i1 i2 a b) : Turn P w K (.Name nm npos) (ItN K ka kb a b) [z, TI, TO, i1, i2] z (tnN ka kb z TI TO i1 i2 a b) where
  mem := by simp
  obj := fun i h st c hcm => by
    obtain ⟨⟨f0, k, hz, ho⟩, hTI, ⟨x0, y0, hTO⟩, h1, h2⟩ := st
    simp only [List.mem_cons, List.not_mem_nil, or_false] at hcm
    rcases hcm with q | q | q | q | q <;> subst q
    · exact ⟨_, hz, fun v q => nomatch q⟩
    · exact ⟨_, hTI, fun v q => nomatch q⟩
    · exact ⟨_, hTO, fun v q => nomatch q⟩
    · exact h1.lt
    · exact h2.lt
  keep := fun i h h' st kp => by
    obtain ⟨⟨f0, k, hz, ho⟩, hTI, ⟨x0, y0, hTO⟩, h1, h2⟩ := st
    exact ⟨⟨f0, k, kp z (by simp) _ hz, ho⟩, kp TI (by simp) _ hTI, ⟨x0, y0, kp TO (by simp) _ hTO⟩, h1.keep fun o q => kp i1 (by simp) o q, h2.keep fun o q => kp i2 (by simp) o q⟩
  item := by
    intro X hP hw hK hc i pins s σ H E I hf st hg
    subst hP hw hK
    refine turn_item (I.ok.hd hc) D I hf st hg fun u s' x H' eu ex I' y' st' n' => ?_
    subst eu
    exact ⟨_, rfl, wpAny_pure ⟨x, H', I', by rw [ex]; rfl, y', st', n'⟩⟩
  done := by
    intro X hP hw hK hc i pins s σ H E I hf st hg
    subst hP hw hK
    exact turn_done (I.ok.hd hc) D I hf st hg fun s' I' => ⟨rfl, I'⟩
  self := fun A i s Q E st h => by
    obtain ⟨⟨f0, k, hz, ho⟩, _⟩ := st
    have ty : s.TypeIs (.ref z) "zip" := ⟨_, hz, rfl⟩
    refine wpAny_pyIter_slot ty PySem.F.slot_zip_iter (wpAny_call_entry PySem.F.slot_zip_iter ty PySem.F.entry_zip_iter ?_ (PySem.F.args_zip_iter_1 _))
    show wpAny _ _ (ret (.ref z)) _ _ s
    exact wpAny_pure ⟨_, rfl, "zip", _, ty, PySem.F.slot_zip_next.lookup, h⟩
theorem apart_of (N a b : Nat) (ha : a < N) (hb : b < N) : Apart (N + 4) (N + 2) (N + 3) N (N + 1) a b := by
  have ne : ∀ x y : Nat, x ≠ y → (x : Addr) ≠ y := fun _ _ h => h
  have nm : ∀ x y t : Nat, x ≠ y → x ≠ t → (x : Addr) ∉ ([y, t] : List Addr) := fun x y t h1 h2 h => by
    simp only [List.mem_cons, List.not_mem_nil, or_false] at h
    exact h.elim h1 h2
  exact ⟨⟨ne _ _ (by omega), ne _ _ (by omega), ne _ _ (by omega), ne _ _ (by omega), by simp, nm _ _ _ (by omega) (by omega), nm _ _ _ (by omega) (by omega), ne _ _ (by omega), by simp, nm _ _ _ (by omega) (by omega), nm _ _ _ (by omega) (by omega), nm _ _ _ (by omega) (by omega), nm _ _ _ (by omega) (by omega)⟩,
    ne _ _ (by omega), ne _ _ (by omega), ne _ _ (by omega), ne _ _ (by omega)⟩
theorem zip_made {X : Cx} {pins : List (Addr × Obj)} {σ : L2.St} {H : Hp} {s : Shared} {E : Value → Shared → Prop} {k : Bool} {a b : Addr} {xs ys : List V} {Q : Value → Shared → Prop} (I : Inv X pins σ H s) (h1 : SqK k X.K H a xs) (h2 : SqK k X.K H b ys)
    (hQ : ∀ z TI TO i1 i2 h', Inv X pins σ H { s with heap := h' } → Apart z TI TO i1 i2 a b → tnN k k z TI TO i1 i2 a b 0 h' → (∀ c ∈ [z, TI, TO, i1, i2], FpOk X pins H c ∧ c < h'.objs.size) → Q (.ref z) { s with heap := h' }) :
    wpAny (model X.prog X.w) X.A (call (.type "zip") [.ref a, .ref b]) Q E s := by
  obtain ⟨its, rv, p, lt1⟩ := sq_of I h1
  obtain ⟨its2, rv2, p2, lt2⟩ := sq_of I h2
  have fok : ∀ c, c ∈ [s.heap.objs.size + 4, s.heap.objs.size + 2, s.heap.objs.size + 3, s.heap.objs.size, s.heap.objs.size + 1] → FpOk X pins H c ∧ c < s.heap.objs.size + 5 := fun c hcm => by
    have hle : s.heap.objs.size ≤ c ∧ c < s.heap.objs.size + 5 := by
      simp only [List.mem_cons, List.not_mem_nil, or_false] at hcm
      rcases hcm with q | q | q | q | q <;> subst q <;> constructor <;> first | exact Nat.le_add_right _ _ | exact Nat.le_refl _ | exact Nat.add_lt_add_left (by decide) _ | exact Nat.lt_add_of_pos_right (by decide)
    exact ⟨I.fpOk hle.1 (I.hok.fresh hle.1), hle.2⟩
  have D := apart_of s.heap.objs.size a b lt1 lt2
  cases k with
  | false =>
    refine call_zip_2 p p2 fun h' hz hTI hTO j1 j2 sz kp => ?_
    exact hQ _ _ _ _ _ h' (I.kept (t' := s.toks) kp) D ⟨⟨_, _, hz, .inl rfl⟩, hTI, ⟨_, _, hTO⟩, j1, j2⟩ fun c hcm => by rw [sz]; exact fok c hcm
  | true =>
    refine RZ.call_zipT p p2 fun h' hz hTI hTO j1 j2 sz kp => ?_
    exact hQ _ _ _ _ _ h' (I.kept (t' := s.toks) kp) D ⟨⟨_, _, hz, .inl rfl⟩, hTI, ⟨_, _, hTO⟩, j1, j2⟩ fun c hcm => by rw [sz]; exact fok c hcm
/-- zip(a, b), walked into one name -/
def iZipN (K : PySem.W.Frag) (ta : TA) : TI := fun σ H R => ta σ H fun vs H1 => ∃ (k : Bool) (a b : Addr) (xs ys : List V), vs = [.ref a, .ref b] ∧ SqK k K H1 a xs ∧ SqK k K H1 b ys ∧ R (ItN K k k a b) H1
theorem pi_zipN {X : Cx} {e e2 : Expr} {ta : TA} {p pos npos : Pos} {nm : Str} (hg : Gl X "zip") (hm : X.mg "zip" = none) (ha : PA X [e, e2] ta)
    (hs : starEach [e, e2] X.env = (false, eval e X.env) :: starEach [e2] X.env := by rfl) (hpl : (backTo pos (starEach [e2] X.env)).any (·.1) = false := by rfl) : PI X (.Name nm npos) (.Call (.Name "zip" p) [e, e2] [] pos) (iZipN X.K ta) := by
  refine ⟨fun pins s σ H R I h => Call_ (ld_blt I hg hm PyProof.Rows.boot_zip (PyProof.Rows.callWith_type1 (thn (ha.run pos pins s σ H _ I h) fun us s1 ⟨vs, H1, I1, r1, q1⟩ => ?_) hs hpl))⟩
  obtain ⟨k, a, b, xs, ys, rfl, h1, h2, q⟩ := q1
  obtain ⟨u, u', rfl, ru, ru'⟩ := vals2 r1
  cases ru
  cases ru'
  refine zip_made I1 h1 h2 fun z TI TO i1 i2 h' I2 D st fp => ?_
  have T := turn_zipN (P := X.prog) (w := X.w) (K := X.K) (nm := nm) (npos := npos) (ka := k) (kb := k) D
  exact T.self X.A 0 _ _ _ st ⟨z, _, _, _, H1, rfl, I2, T, st, fun c hcm => (fp c hcm).1, q⟩
/-! ### list(zip(a, b)) -/
theorem zip_no_len : typeLookup (.type "zip") "__len__" = pure none := by rw [typeLookup_type, builtinLookup_eq_fast]; kernel_rfl
theorem zip_no_hint : typeLookup (.type "zip") "__length_hint__" = pure none := by rw [typeLookup_type, builtinLookup_eq_fast]; kernel_rfl
/-- what is made of the two: new pairs -/
def Pairs (xs ys : List V) (H0 H : Hp) (out : List V) : Prop := ∀ (j : Nat) (v : V), out[j]? = some v → ∃ (T : Addr) (x y : V), v = V.ref T ∧ H T = some (.tup [x, y]) ∧ H0 T = none ∧ xs[j]? = some x ∧ ys[j]? = some y
section
variable {X : Cx} {pins : List (Addr × Obj)} {σ : L2.St} {H0 : Hp} {z TI TO i1 i2 a b S : Addr} {ka kb : Bool} {xs ys : List V} {Rs : Result → Shared → Prop} {A1 : Around}
theorem loop_zip (hA : A1.handled = none) (D : Apart z TI TO i1 i2 a b) (hS0 : H0 S = none) (qx : SqK ka X.K H0 a xs) (qy : SqK kb X.K H0 b ys) (hz : xs.length ≤ sizeLine)
    (hdone : ∀ out H s, Inv X pins σ H s → H S = some (.lst out) → out.length = min xs.length ys.length → Pairs xs ys H0 H out → Same H0 H → Rs (.ok (.ret .none)) s) :
    ∀ (m : Nat) (out : List V) (H : Hp) (s : Shared), Inv X pins σ H s → H S = some (.lst out) → m + out.length = min xs.length ys.length → Pairs xs ys H0 H out → Same H0 H → tnN ka kb z TI TO i1 i2 a b out.length s.heap → (∀ c ∈ [z, TI, TO, i1, i2], FpOk X pins H c) →
      codeAny (model X.prog X.w) A1 (.builtin "list.extend.loop" ⟨[.ref S, .ref z, .none], []⟩) Rs s := by
  have sq : ∀ {k : Bool} {G G' : Hp} {c : Addr} {zs : List V}, Same G G' → SqK k X.K G c zs → SqK k X.K G' c zs := fun {k G G' c zs} e h => by
    cases k with
    | false => exact e.seq h
    | true =>
      rcases h with (h | ⟨o, h⟩) | h
      · exact .inl (.inl (e _ _ h))
      · exact .inl (.inr ⟨o, e _ _ h⟩)
      · exact .inr h
  intro m
  induction m with
  | zero =>
    intro out H s I hl hm hp hs st fp
    refine codeAny_builtin PySem.F.entry_extend_loop ?_
    rw [Around.under_plainId PySem.F.plain_extend_loop _]
    show wpAny _ A1.in1 (pyNext (.ref z) >>= _) _ _ s
    refine wpAny_bind (turn_done hA D I fp st ⟨xs, ys, sq hs qx, sq hs qy, by omega, by omega, by omega⟩ fun s' I' => wpAny_pure ?_)
    exact hdone out H s' I' hl (by omega) hp hs
  | succ m ih =>
    intro out H s I hl hm hp hs st fp
    refine codeAny_builtin PySem.F.entry_extend_loop ?_
    rw [Around.under_plainId PySem.F.plain_extend_loop _]
    show wpAny _ A1.in1 (pyNext (.ref z) >>= _) _ _ s
    have l1 : out.length < xs.length := by omega
    have l2 : out.length < ys.length := by omega
    refine wpAny_bind (turn_item hA D I fp st ⟨xs, ys, xs[out.length], ys[out.length], sq hs qx, sq hs qy, by simp [l1], by simp [l2]⟩ fun u s' x H' eu ex I' y' st' n' => ?_)
    obtain ⟨T, x1, y1, e1, e2, e3, e4, e5⟩ := y'
    have hS : H' S = some (.lst out) := by rw [e3, upd_ne (ne_of_none hl e2)]; exact hl
    show wpAny _ A1.in1 (updateSeq S (·.push u) >>= _) _ _ _
    obtain ⟨zz, its, kk, r2, hlen, eo⟩ := I'.lstM hS
    have ru : RelV x u := by rw [eu, ex]; rfl
    refine wpAny_bind (wpAny_updateSeq eo rfl (wpAny_pure ⟨plainId_quiet PySem.F.plain_extend_loop _, ?_⟩) (by rw [List.size_toArray]; omega) (by show (its.toArray.push u).size ≤ sizeLine + 1; rw [Array.size_push, List.size_toArray]; omega))
    have I2 := I'.lset (f := (·.push u)) (its' := its ++ [u]) (t' := s'.toks) hS eo (by simp) (r2.append (.cons ru .nil)) (by rw [List.length_append, List.length_singleton]; omega)
    have keepT : ∀ T' o, H T' = some o → T' ≠ S → upd H' S (.lst (out ++ [x])) T' = some o := fun T' o e ne => by rw [upd_ne ne, e3, upd_ne (ne_of_none e e2)]; exact e
    refine ih (out ++ [x]) _ _ I2 upd_same (by rw [List.length_append, List.length_singleton]; omega) (fun j v hv => ?_) (fun c o e => ?_) ?_ (fun c hcm => ?_)
    · by_cases hj : j < out.length
      · rw [List.getElem?_append_left hj] at hv
        obtain ⟨T', x', y', f1, f2, f3, f4, f5⟩ := hp j v hv
        exact ⟨T', x', y', f1, keepT T' _ f2 (ne_of f2 hl (fun q => nomatch q)), f3, f4, f5⟩
      · have hj' : j = out.length := by
          have := (List.getElem?_eq_some_iff.mp hv).1
          rw [List.length_append, List.length_singleton] at this; omega
        subst hj'
        rw [List.getElem?_append_right (Nat.le_refl _), Nat.sub_self] at hv
        cases hv
        have TS : T ≠ S := fun q => by rw [q, hl] at e2; cases e2
        refine ⟨T, x1, y1, e1, by rw [upd_ne TS, e3, upd_same], ?_, e4 _ (sq hs qx), e5 _ (sq hs qy)⟩
        cases q : H0 T with
        | none => rfl
        | some o => rw [hs T o q] at e2; cases e2
    · have cS : c ≠ S := fun q => by rw [q, hS0] at e; cases e
      exact keepT c o (hs c o e) cS
    · rw [List.length_append, List.length_singleton]
      obtain ⟨⟨f0, k, w1, w2⟩, w3, ⟨x0, y0, w4⟩, w5, w6⟩ := st'
      have nS : ∀ c, c ∈ [z, TI, TO, i1, i2] → c ≠ S := fun c hcm q => by
        have := (fp c hcm).1
        rw [q, hl] at this; cases this
      have kp : ∀ c o, c ∈ [z, TI, TO, i1, i2] → s'.heap.get? c = some o → (s'.heap.update S (Obj.mapSeq (·.push u))).get? c = some o := fun c o hcm e => (Heap.get?_update_other _ _ (Ne.symm (nS c hcm))).trans e
      exact ⟨⟨f0, k, kp _ _ (by simp) w1, w2⟩, kp _ _ (by simp) w3, ⟨x0, y0, kp _ _ (by simp) w4⟩, w5.keep fun o e => kp _ _ (by simp) e, w6.keep fun o e => kp _ _ (by simp) e⟩
    · refine ⟨?_, (fp c hcm).2⟩
      have cS : c ≠ S := fun q => by have := (fp c hcm).1; rw [q, hl] at this; cases this
      rw [upd_ne cS]
      exact n' c hcm
theorem call_list_zip {s : Shared} {H : Hp} {E : Value → Shared → Prop} {Q : Value → Shared → Prop} (hA : X.A.handled = none) (I : Inv X pins σ H s) (D : Apart z TI TO i1 i2 a b) (qx : SqK ka X.K H a xs) (qy : SqK kb X.K H b ys) (hz : xs.length ≤ sizeLine)
    (st : tnN ka kb z TI TO i1 i2 a b 0 s.heap) (fp : ∀ c ∈ [z, TI, TO, i1, i2], FpOk X pins H c ∧ c < s.heap.objs.size)
    (hQ : ∀ S out H' s', H S = none → H' S = some (.lst out) → out.length = min xs.length ys.length → Pairs xs ys (upd H S (.lst [])) H' out → Same H H' → Inv X pins σ H' s' → Q (.ref S) s') :
    wpAny (model X.prog X.w) X.A (call (.type "list") [.ref z]) Q E s := by
  refine callType_codes (Q₁ := fun obj t => obj = .ref s.heap.objs.size ∧ t = { s with heap := s.heap.push ⟨.type "list", none, .seq #[] 0, #[]⟩ }) PySem.F.called_list (PySem.F.typeCall_list_1 _) PySem.F.entry_list_init (code_list_new _ ⟨rfl, rfl⟩) fun obj t ht => ?_
  obtain ⟨rfl, rfl⟩ := ht
  have hS : (s.heap.push ⟨.type "list", none, .seq #[] 0, #[]⟩).get? s.heap.objs.size = some ⟨.type "list", none, .seq #[] 0, #[]⟩ := Heap.get?_push_size _ rfl
  refine ⟨⟨_, hS, rfl⟩, PySem.F.args_list_init_2 _ _, ?_⟩
  have fr : H s.heap.objs.size = none := I.hok.fresh (Nat.le_refl _)
  have I1 : Inv X pins σ (upd H s.heap.objs.size (.lst [])) { s with heap := s.heap.push ⟨.type "list", none, .seq #[] 0, #[]⟩ } := I.lnew (its := []) (t' := s.toks) .nil (Nat.zero_le _)
  have cS : ∀ c ∈ [z, TI, TO, i1, i2], c ≠ s.heap.objs.size := fun c hc => Nat.ne_of_lt (fp c hc).2
  obtain ⟨⟨f0, k, w1, w2⟩, w3, ⟨x0, y0, w4⟩, w5, w6⟩ := st
  show wpAny _ _ (Builtin.List.listItems (.ref s.heap.objs.size) >>= fun old => Builtin.List.listUpdate (.ref s.heap.objs.size) (fun _ => #[]) >>= fun _ => letGo old.toList.reverse >>= fun _ => Builtin.List.listExtendWith (.ref s.heap.objs.size) (.ref z) .none) _ _ _
  refine wpAny_bind ?_
  unfold Builtin.List.listItems
  refine wpAny_bind (wpAny_seqItems hS rfl (wpAny_pure ?_))
  show wpAny _ _ (updateSeq s.heap.objs.size (fun _ => #[]) >>= fun _ => letGo (#[] : Array Value).toList.reverse >>= fun _ => Builtin.List.listExtendWith (.ref s.heap.objs.size) (.ref z) .none) _ _ _
  refine wpAny_bind (wpAny_updateSeq hS rfl (wpAny_bind (wpAny_letGo ?_)))
  have I2 := I1.lset (f := fun _ => #[]) (its := []) (its' := []) (ys := []) (t' := s.toks) upd_same hS rfl .nil (Nat.zero_le _)
  rw [upd_upd] at I2
  have kp0 : ∀ c o, c ∈ [z, TI, TO, i1, i2] → s.heap.get? c = some o → ((s.heap.push ⟨.type "list", none, .seq #[] 0, #[]⟩).update s.heap.objs.size (Obj.mapSeq fun _ => (#[] : Array Value))).get? c = some o := fun c o hc e =>
    (Heap.get?_update_other _ _ (Ne.symm (cS c hc))).trans (Heap.get?_push_of_some _ e)
  -- the list takes what the walk hands out
  unfold Builtin.List.listExtendWith
  have zS : s.heap.objs.size ≠ z := (cS z (by simp)).symm
  refine wpAny_bind (wpAny_typeOf (T := "zip") ⟨_, kp0 z _ (by simp) w1, rfl⟩ ?_)
  have d1 : Builtin.List.listSameRef (.ref s.heap.objs.size) (.ref z) = false := by simp [Builtin.List.listSameRef, zS]
  have d2 : (Value.type "zip" == Value.type "list") = false := by decide
  have d3 : (Value.type "zip" == Value.type "tuple") = false := by decide
  simp only [d1, d2, d3, Bool.or_false, Bool.false_eq_true, if_false]
  have ty : ∀ {t : Shared}, t.heap = ((s.heap.push ⟨.type "list", none, .seq #[] 0, #[]⟩).update s.heap.objs.size (Obj.mapSeq fun _ => (#[] : Array Value))) → t.TypeIs (.ref z) "zip" := fun {t} e => ⟨_, by rw [e]; exact kp0 z _ (by simp) w1, rfl⟩
  refine wpAny_bind (wpAny_pyIter_slot (ty rfl) PySem.F.slot_zip_iter (wpAny_call_entry PySem.F.slot_zip_iter (ty rfl) PySem.F.entry_zip_iter ?_ (PySem.F.args_zip_iter_1 _)))
  show wpAny _ _ (ret (.ref z)) _ _ _
  refine wpAny_pure ⟨_, rfl, "zip", _, ty rfl, PySem.F.slot_zip_next.lookup, ?_⟩
  refine wpAny_bind (wpAny_holding ?_)
  unfold Builtin.List.listLengthHint
  refine wpAny_bind (wpAny_specialOf (ty rfl) zip_no_len ?_)
  show wpAny _ _ (specialOf (Value.ref z) (Str.ofString "__length_hint__") >>= _) _ _ _
  refine wpAny_bind (wpAny_specialOf (ty rfl) zip_no_hint (wpAny_pure ?_))
  show wpAny _ _ (rule "list.extend.makes-room" >>= fun _ => Builtin.List.listTouch (.ref s.heap.objs.size) >>= fun _ => again (.builtin "list.extend.loop" ⟨[.ref s.heap.objs.size, .ref z, .none], []⟩)) _ _ _
  refine wpAny_bind (wpAny_rule (wpAny_bind ?_))
  obtain ⟨zz, its, kk, r3, hl3, e3⟩ := I2.lstM upd_same
  cases r3
  show wpAny _ _ (updateSeq s.heap.objs.size (·.push .none) >>= fun _ => updateSeq s.heap.objs.size (·.pop)) _ _ _
  refine wpAny_bind (wpAny_updateSeq e3 rfl ?_)
  have I3 := I2.lset (f := (·.push Value.none)) (its' := [Value.none]) (ys := [.non]) (t' := s.toks) upd_same e3 (by simp) (.cons rfl .nil) (by rw [List.length_singleton, sizeLine_eq]; decide)
  obtain ⟨z4, its4, k4, r4, hl4, e4⟩ := I3.lstM upd_same
  obtain ⟨u4, rfl, ru4⟩ := r4.one
  refine wpAny_updateSeq e4 rfl ?_ (by show 1 ≤ sizeLine; rw [sizeLine_eq]; decide) (by show 0 ≤ sizeLine + 1; exact Nat.zero_le _)
  have I4 := I3.lset (f := (·.pop)) (its := [u4]) (its' := []) (ys := []) (t' := s.toks) upd_same e4 (by rfl) .nil (Nat.zero_le _)
  rw [upd_upd, upd_upd] at I4
  have kp4 : ∀ {h5 h6 : Heap}, h5 = ((s.heap.push ⟨.type "list", none, .seq #[] 0, #[]⟩).update s.heap.objs.size (Obj.mapSeq fun _ => (#[] : Array Value))) → h6 = (h5.update s.heap.objs.size (Obj.mapSeq (·.push Value.none))).update s.heap.objs.size (Obj.mapSeq (·.pop)) →
      ∀ c o, c ∈ [z, TI, TO, i1, i2] → s.heap.get? c = some o → h6.get? c = some o := fun {h5 h6} e5 e6 c o hc e => by
    subst e5 e6
    exact (Heap.get?_update_other _ _ (Ne.symm (cS c hc))).trans ((Heap.get?_update_other _ _ (Ne.symm (cS c hc))).trans (kp0 c o hc e))
  have sm : Same H (upd H s.heap.objs.size (.lst [])) := fun c o e => by rw [upd_ne (ne_of_none e fr)]; exact e
  refine wpAny_pure ⟨plainId_quiet PySem.F.plain_extend_loop _, loop_zip (A1 := X.A.in1) (H0 := H) (xs := xs) (ys := ys) (ka := ka) (kb := kb) hA D fr qx qy hz ?gd (min xs.length ys.length) [] _ _ I4 upd_same (by simp) (fun j v hv => by simp at hv) sm ?gs fun c hc => ?gf⟩
  case gd =>
    intro out H' s' I' hl ho hp hs
    refine ⟨rfl, hQ _ out H' s' fr hl ho (fun j v hv => ?_) hs I'⟩
    obtain ⟨T, x, y, f1, f2, f3, f4, f5⟩ := hp j v hv
    refine ⟨T, x, y, f1, f2, ?_, f4, f5⟩
    rw [upd_ne (fun q => by rw [q, hl] at f2; cases f2)]
    exact f3
  case gs => exact ⟨⟨f0, k, kp4 rfl rfl _ _ (by simp) w1, w2⟩, kp4 rfl rfl _ _ (by simp) w3, ⟨x0, y0, kp4 rfl rfl _ _ (by simp) w4⟩, w5.keep fun o e => kp4 rfl rfl _ _ (by simp) e, w6.keep fun o e => kp4 rfl rfl _ _ (by simp) e⟩
  case gf =>
    refine ⟨?_, (fp c hc).1.2⟩
    rw [upd_ne (cS c hc)]
    exact (fp c hc).1.1
/-- list(zip(a, b)) -/
def tListZip (K : PySem.W.Frag) (ta : TA) : TE := fun σ H Q => ta σ H fun vs H1 => ∃ (k : Bool) (a b : Addr) (xs ys : List V), vs = [.ref a, .ref b] ∧ SqK k K H1 a xs ∧ SqK k K H1 b ys ∧ xs.length ≤ sizeLine ∧
  ∀ S out H2, H1 S = none → H2 S = some (.lst out) → out.length = min xs.length ys.length → Pairs xs ys (upd H1 S (.lst [])) H2 out → Same H1 H2 → Q (.ref S) H2
theorem pe_listZip {e e2 : Expr} {ta : TA} {p p2 pos pos2 : Pos} (hg : Gl X "list") (hm : X.mg "list" = none) (hg2 : Gl X "zip") (hm2 : X.mg "zip" = none) (hc : X.calm = true) (ha : PA X [e, e2] ta)
    (hs : starEach [e, e2] X.env = (false, eval e X.env) :: starEach [e2] X.env := by rfl) (hpl : (backTo pos2 (starEach [e2] X.env)).any (·.1) = false := by rfl)
    (hs2 : starEach [Expr.Call (.Name "zip" p2) [e, e2] [] pos2] X.env = (false, eval (.Call (.Name "zip" p2) [e, e2] [] pos2) X.env) :: starEach [] X.env := by rfl) (hpl2 : (backTo pos (starEach [] X.env)).any (·.1) = false := by rfl) :
    PE X (.Call (.Name "list" p) [.Call (.Name "zip" p2) [e, e2] [] pos2] [] pos) (tListZip X.K ta) := by
  refine ⟨fun pins s σ H Q I h => ?_⟩
  refine wpAny_Call_Name_kw (ld_blt I hg hm (by decide +kernel : bootBuiltins "list" = some (.type "list")) ?_)
  refine PyProof.Rows.callWith_type1 ?_ hs2 hpl2
  rw [hs2]
  show wpAny _ _ (spliced ((false, eval (.Call (.Name "zip" p2) [e, e2] [] pos2) X.env) :: backTo pos (starEach [] X.env))) _ _ s
  refine Calls.spliced_cons (Call_ (ld_blt I hg2 hm2 PyProof.Rows.boot_zip (PyProof.Rows.callWith_type1 (thn (ha.run pos2 pins s σ H _ I h) fun us s1 ⟨vs, H1, I1, r1, q1⟩ => ?_) hs hpl)))
  obtain ⟨k, a, b, xs, ys, rfl, h1, h2, hz, q⟩ := q1
  obtain ⟨u, u', rfl, ru, ru'⟩ := vals2 r1
  cases ru
  cases ru'
  refine zip_made I1 h1 h2 fun z TI TO i1 i2 h' I2 D st fp => Calls.spliced_nil ?_
  exact call_list_zip (I.ok.hd hc) I2 D h1 h2 hz st fp fun S out H' s' e1 e2 e3 e4 e5 I3 => ⟨.ref S, H', I3, rfl, q S out H' e1 e2 e3 e4 e5⟩
end
end ZL

namespace DL
open PySem L2 PySem.Spec PyProof.Rows ZL
def pairD (xs ys : List D) : List D := List.zipWith (fun x y => .tup [x, y]) xs ys
theorem pairD_get {xs ys : List D} {i : Nat} {x y : D} (h1 : xs[i]? = some x) (h2 : ys[i]? = some y) : (pairD xs ys)[i]? = some (.tup [x, y]) := by
  unfold pairD
  rw [List.getElem?_zipWith, h1, h2]
theorem pairD_length {xs ys : List D} : (pairD xs ys).length = min xs.length ys.length := by simp [pairD]
/-- two of one kind -/
def zipF (ds : List D) (Q : List D → List D → Prop) : Prop := match ds with
  | [.lst xs, .lst ys] => Q xs ys
  | [.tup xs, .tup ys] => Q xs ys
  | _ => False
def sZip (u : TDs) : TDs := fun env Q => u env fun ds => zipF ds fun xs ys => Q (pairD xs ys)
section
variable {X : Cx} {K : PySem.W.Frag} {rg : Rg} {tg e e2 : Expr} {te : TE} {ta : TA} {u : TDs} {pos : Pos}
theorem sq_lst {M0 M : Addr → Prop} {H : Hp} {v : V} {xs : List D} (hs : ∀ a, M0 a → M a) (r : RpO K M0 M H v (.lst xs)) : ∃ a vs, v = .ref a ∧ RpAll K M H vs xs ∧ ∀ H', Keep M0 H H' → SqK false K H' a vs := by
  rcases r with r | ⟨a, vs, ds, rfl, e, m, h, aa⟩
  · cases r with | lst m h aa => exact ⟨_, _, rfl, aa, fun H' k => SqL.of (k _ _ h fun z => m (hs _ z))⟩
  · cases e; exact ⟨a, vs, rfl, aa, fun H' k => SqL.of (k _ _ h m)⟩
theorem sq_tup {M0 M : Addr → Prop} {H : Hp} {v : V} {xs : List D} (hs : ∀ a, M0 a → M a) (r : RpO K M0 M H v (.tup xs)) : ∃ a vs, v = .ref a ∧ RpAll K M H vs xs ∧ ∀ H', Keep M0 H H' → SqK true K H' a vs := by
  rcases r with r | ⟨a, vs, ds, rfl, e, m, h, aa⟩
  · cases r with
    | tup m h aa => exact ⟨_, _, rfl, aa, fun H' k => SqT.of (k _ _ h fun z => m (hs _ z))⟩
    | tupK h aa => exact ⟨_, _, rfl, aa, fun H' k => (Or.inr h : SqT K H' _ _)⟩
  · cases e
theorem zipF_seq {M0 M : Addr → Prop} {H : Hp} {vs : List V} {ds : List D} {Q : List D → List D → Prop} (hs : ∀ a, M0 a → M a) (r : RpOs K M0 M H vs ds) (h : zipF ds Q) :
    ∃ k a b vx vy xs ys, vs = [.ref a, .ref b] ∧ RpAll K M H vx xs ∧ RpAll K M H vy ys ∧ Q xs ys ∧ ∀ H', Keep M0 H H' → SqK k K H' a vx ∧ SqK k K H' b vy := by
  unfold zipF at h
  split at h
  · obtain ⟨v, w, rfl, r1, r2⟩ := r.two
    obtain ⟨a, vx, rfl, a1, k1⟩ := sq_lst hs r1
    obtain ⟨b, vy, rfl, a2, k2⟩ := sq_lst hs r2
    exact ⟨false, a, b, vx, vy, _, _, rfl, a1, a2, h, fun H' k => ⟨k1 H' k, k2 H' k⟩⟩
  · obtain ⟨v, w, rfl, r1, r2⟩ := r.two
    obtain ⟨a, vx, rfl, a1, k1⟩ := sq_tup hs r1
    obtain ⟨b, vy, rfl, a2, k2⟩ := sq_tup hs r2
    exact ⟨true, a, b, vx, vy, _, _, rfl, a1, a2, h, fun H' k => ⟨k1 H' k, k2 H' k⟩⟩
  · exact h.elim
/-- pairs that are new -/
def YNew (vx vy : List V) : Nat → Hp → V → Hp → Prop := fun i H v H' => ∃ T x y, v = .ref T ∧ H T = none ∧ H' = upd H T (.tup [x, y]) ∧ vx[i]? = some x ∧ vy[i]? = some y
theorem pair_facts {c : Dc} {env : En} {H1 : Hp} {vx vy : List V} {xs ys : List D} (r1 : RpAll K (Mof c env) H1 vx xs) (r2 : RpAll K (Mof c env) H1 vy ys) (M : Addr → Prop) (i : Nat) (H2 : Hp) (v : V) (H3 : Hp) (k : Keep (Mof c env) H1 H2) (hm : ∀ a o, H1 a = some o → M a → Mof c env a) (dom : ∀ a, M a → H2 a ≠ none)
    (y : YNew vx vy i H2 v H3) : ∃ d, (pairD xs ys)[i]? = some d ∧ Same H2 H3 ∧ Rp K M H3 v d := by
  obtain ⟨T, x, y, rfl, hT, rfl, hx, hy⟩ := y
  obtain ⟨dx, hdx, rx⟩ := RpAll.get r1 hx
  obtain ⟨dy, hdy, ry⟩ := RpAll.get r2 hy
  have move : ∀ {w : V} {d : D}, Rp K (Mof c env) H1 w d → Rp K M (upd H2 T (.tup [x, y])) w d := fun {w d} r => by
    have q1 : Rp K (fun b => Mof c env b ∨ M b) H1 w d := Rp.anti (fun b o e z => z.elim id (hm b o e)) r
    have q2 : Rp K (fun b => Mof c env b ∨ M b) H2 w d := Rp.keep (k.mono fun b z => .inl z) q1
    exact Rp.keep (Keep.upd_new hT) (Rp.anti (fun _ _ _ z => .inr z) q2)
  exact ⟨_, pairD_get hdx hdy, fun b o e => by rw [upd_ne (ne_of_none e hT)]; exact e, .tup (fun z => dom T z hT) upd_same (.cons (move rx) (.cons (move ry) .nil))⟩
theorem walk_N {k : Bool} {a b : Addr} {vx vy : List V} {n : Nat} (hn : n = min vx.length vy.length) : Walk (ItN K k k a b) n (fun H => SqK k K H a vx ∧ SqK k K H b vy) (YNew vx vy) := by
  subst hn
  refine ⟨fun i _ hi q => ?_, fun _ q => ⟨vx, vy, q.1, q.2, by omega, by omega, by omega⟩, fun i H v H' _ q y => ?_⟩
  · have h1 : i < vx.length := by omega
    have h2 : i < vy.length := by omega
    exact ⟨vx, vy, vx[i], vy[i], q.1, q.2, by simp [h1], by simp [h2]⟩
  · obtain ⟨T, x, z, h1, h2, h3, h4, h5⟩ := y
    exact ⟨T, x, z, h1, h2, h3, h4 vx q.1, h5 vy q.2⟩
theorem di_zipN {p npos : Pos} {nm : Str} (hg : Gl X "zip") (hm : X.mg "zip" = none) (ha : DAO X K rg [e, e2] ta u) (hs : starEach [e, e2] X.env = (false, eval e X.env) :: starEach [e2] X.env := by rfl) (hpl : (backTo pos (starEach [e2] X.env)).any (·.1) = false := by rfl) :
    DI X K rg true (.Name nm npos) (.Call (.Name "zip" p) [e, e2] [] pos) (iZipN K ta) (sZip u) := by
  cases ha.kx
  exact ⟨rfl, pi_zipN hg hm ha.pa hs hpl, fun c hc pn H0 env σ H Qd R S ht k => by
    refine ha.rf c hc pn H0 env σ H _ _ S ht fun ds vs H1 q1 k1 j1 r1 => ?_
    obtain ⟨kd, a, b, vx, vy, xs, ys, rfl, a1, a2, q, ks⟩ := zipF_seq (fun a z => .inl z) r1 q1
    refine ⟨kd, a, b, vx, vy, rfl, (ks H1 Keep.refl).1, (ks H1 Keep.refl).2, k (pairD xs ys) _ (fun H => SqK kd X.K H a vx ∧ SqK kd X.K H b vy) (YNew vx vy) H1 q k1 j1 (by rw [pairD_length, ← RpAll.length a1, ← RpAll.length a2]; exact walk_N rfl) (fun H2 kk => ks H2 kk) ?_⟩
    exact fun M i H2 x H3 _ _ k2 hm' dom y => pair_facts a1 a2 M i H2 x H3 k2 hm' dom y⟩
/-- .. into several names -/
theorem walk_ZL {a b : Addr} {vx vy : List V} {n : Nat} (hn : n = min vx.length vy.length) : Walk (Itz K a b) n (fun H => SqL K H a vx ∧ SqL K H b vy) (YNew vx vy) := by
  refine (walk_zip hn).mono (fun _ h => h) fun i H v H' _ _ y => ?_
  obtain ⟨T, x, z, h1, h2, h3, h4, h5⟩ := y
  exact ⟨T, x, z, h1, h2, h3, h4, h5⟩
theorem walk_ZT {a b : Addr} {vx vy : List V} {n : Nat} (hn : n = min vx.length vy.length) : Walk (RZ.ItzT K a b) n (fun H => SqT K H a vx ∧ SqT K H b vy) (YNew vx vy) := by
  subst hn
  refine ⟨fun i _ hi q => ?_, fun _ q => ⟨vx, vy, q.1, q.2, by omega⟩, fun i H v H' _ q y => ?_⟩
  · have h1 : i < vx.length := by omega
    have h2 : i < vy.length := by omega
    exact ⟨vx, vy, vx[i], vy[i], q.1, q.2, by simp [h1], by simp [h2]⟩
  · obtain ⟨T, x, z, h1, h2, h3, h4, h5⟩ := y
    exact ⟨T, x, z, h1, h2, h3, h4 vx q.1, h5 vy q.2⟩
theorem di_zipT {p tpos : Pos} {elts : List Expr} {kk : Nat} (hg : Gl X "zip") (hm : X.mg "zip" = none) (ha : DAO X K rg [e, e2] ta u) (hs : starEach [e, e2] X.env = (false, eval e X.env) :: starEach [e2] X.env := by rfl) (hpl : (backTo pos (starEach [e2] X.env)).any (·.1) = false := by rfl) :
    DI X K rg true (.Tuple elts kk tpos) (.Call (.Name "zip" p) [e, e2] [] pos) (RZ.iZipA K ta) (sZip u) := by
  cases ha.kx
  exact ⟨rfl, RZ.pi_zipA hg hm ha.pa hs hpl, fun c hc pn H0 env σ H Qd R S ht k => by
    refine ha.rf c hc pn H0 env σ H _ _ S ht fun ds vs H1 q1 k1 j1 r1 => ?_
    obtain ⟨kd, a, b, vx, vy, xs, ys, rfl, a1, a2, q, ks⟩ := zipF_seq (fun a z => .inl z) r1 q1
    refine ⟨a, b, vx, vy, rfl, ?_⟩
    cases kd with
    | false =>
      refine .inl ⟨(ks H1 Keep.refl).1, (ks H1 Keep.refl).2, k (pairD xs ys) _ (fun H => SqL X.K H a vx ∧ SqL X.K H b vy) (YNew vx vy) H1 q k1 j1 (by rw [pairD_length, ← RpAll.length a1, ← RpAll.length a2]; exact walk_ZL rfl) (fun H2 kk => ks H2 kk) ?_⟩
      exact fun M i H2 x H3 _ _ k2 hm' dom y => pair_facts a1 a2 M i H2 x H3 k2 hm' dom y
    | true =>
      refine .inr ⟨(ks H1 Keep.refl).1, (ks H1 Keep.refl).2, k (pairD xs ys) _ (fun H => SqT X.K H a vx ∧ SqT X.K H b vy) (YNew vx vy) H1 q k1 j1 (by rw [pairD_length, ← RpAll.length a1, ← RpAll.length a2]; exact walk_ZT rfl) (fun H2 kk => ks H2 kk) ?_⟩
      exact fun M i H2 x H3 _ _ k2 hm' dom y => pair_facts a1 a2 M i H2 x H3 k2 hm' dom y⟩
theorem RpAll.ofGet {M : Addr → Prop} {H : Hp} : ∀ {vs : List V} {ds : List D}, vs.length = ds.length → (∀ (j : Nat) (v : V) (d : D), vs[j]? = some v → ds[j]? = some d → Rp K M H v d) → RpAll K M H vs ds
  | [], [], _, _ => .nil
  | [], _ :: _, h, _ => by simp at h
  | _ :: _, [], h, _ => by simp at h
  | v :: vs, d :: ds, h, f => .cons (f 0 v d rfl rfl) (RpAll.ofGet (by simpa using h) fun j w e h1 h2 => f (j + 1) w e (by simpa using h1) (by simpa using h2))
theorem DI.any {o : Bool} {wi : TI} {iter : Expr} {t : TDs} (h : DI X K rg true tg iter wi t) (hz : o = true) : DI X K rg o tg iter wi t := by subst hz; exact h
/-- list(zip(a, b)) -/
theorem df_listzip {p p2 pos2 : Pos} (hg : Gl X "list") (hm : X.mg "list" = none) (hg2 : Gl X "zip") (hm2 : X.mg "zip" = none) (hc : X.calm = true) (ha : DAO X K rg [e, e2] ta u) (hs : starEach [e, e2] X.env = (false, eval e X.env) :: starEach [e2] X.env := by rfl) (hpl : (backTo pos2 (starEach [e2] X.env)).any (·.1) = false := by rfl)
    (hs2 : starEach [Expr.Call (.Name "zip" p2) [e, e2] [] pos2] X.env = (false, eval (.Call (.Name "zip" p2) [e, e2] [] pos2) X.env) :: starEach [] X.env := by rfl) (hpl2 : (backTo pos (starEach [] X.env)).any (·.1) = false := by rfl) :
    DF X K rg (.Call (.Name "list" p) [.Call (.Name "zip" p2) [e, e2] [] pos2] [] pos) (tListZip K ta) (fun env Q => u env fun ds => zipF ds fun xs ys => xs.length ≤ sizeLine ∧ Q (pairD xs ys)) := by
  cases ha.kx
  exact ⟨rfl, pe_listZip hg hm hg2 hm2 hc ha.pa hs hpl hs2 hpl2, fun c hcc pn H0 env σ H Qd Q S ht k => by
    refine ha.rf c hcc pn H0 env σ H _ _ S ht fun ds vs H1 q1 k1 j1 r1 => ?_
    subst hcc
    obtain ⟨kd, a, b, vx, vy, xs, ys, rfl, a1, a2, q, ks⟩ := zipF_seq (fun a z => .inl z) r1 q1
    have S1 := S.grow k1 j1
    refine ⟨kd, a, b, vx, vy, rfl, (ks H1 Keep.refl).1, (ks H1 Keep.refl).2, by rw [RpAll.length a1]; exact q.1, fun L out H2 hL hl ho hp hs => ?_⟩
    have k2 : Keep c.rg.R H1 H2 := Keep.of_same hs
    have nL : ∀ d, (Mof c env d ∨ d = L) → ∀ o, H1 d = some o → Mof c env d := fun d z o e => z.elim id fun z => by rw [z, hL] at e; cases e
    have move : ∀ {w : V} {d : D}, Rp X.K (Mof c env) H1 w d → Rp X.K (fun d => Mof c env d ∨ d = L) H2 w d := fun {w d} r => Rp.keep (Keep.of_same hs) (Rp.anti (fun b o e z => nL b z o e) r)
    refine k (pairD xs ys) L out H2 q.2 (none_back S k1 j1 hL) (k1.trans k2) (S1.same hs).j hl ?_
    -- pair by pair
    have lenO : out.length = (pairD xs ys).length := by rw [ho, pairD_length, RpAll.length a1, RpAll.length a2]
    have all : ∀ (j : Nat) (v : V) (d : D), out[j]? = some v → (pairD xs ys)[j]? = some d → Rp X.K (fun d => Mof c env d ∨ d = L) H2 v d := fun j v d hv hd => by
      obtain ⟨T, x, y, rfl, hT, hT0, hx, hy⟩ := hp j v hv
      obtain ⟨dx, hdx, rx⟩ := RpAll.get a1 hx
      obtain ⟨dy, hdy, ry⟩ := RpAll.get a2 hy
      rw [pairD_get hdx hdy] at hd
      cases hd
      have TL : T ≠ L := fun z => by rw [z, hl] at hT; cases hT
      rw [upd_ne TL] at hT0
      exact .tup (fun z => z.elim (fun z => S1.domM T z hT0) TL) hT (.cons (move rx) (.cons (move ry) .nil))
    exact RpAll.ofGet lenO all⟩
end
end DL

namespace DL
open PySem L2 PySem.Spec PyProof.Rows
abbrev FLs := List D → (List D → Prop) → Prop
abbrev Tfs := Rg → FLs
section
variable {P : Program} {w : World} {K : PySem.W.Frag} {mg : Str → Option Value} {base : Heap}
/-- a def that hands back a new list -/
def spF (K : PySem.W.Frag) (n : Nat) (tf : Tfs) : Sp := fun vs H Q _ => ∃ (c : Dc) (ds : List D) (Qd : List D → Prop), c.Ok ∧ c.P = none ∧ RpAll K c.M H vs ds ∧ c.rg.J H ∧ (∀ a, c.M a → H a ≠ none) ∧ vs.length = n ∧ tf c.rg ds Qd ∧
  ∀ es p ws H', Qd es → H p = none → Keep c.rg.R H H' → c.rg.J H' → H' p = some (.lst ws) → RpAll K (fun b => c.M b ∨ b = p) H' ws es → Q (.ref p) H'
theorem fn_F {x qual : Str} {st : Stmt} {f : Addr} {fd : FuncData} {N ps : List Str} {k n : Nat} {tf : Tfs} (F : Fun K x qual st f fd) (S : FnScope N ps (defScope st)) (hn : ps.length = n)
    (hbody : ∀ (rg : Rg) (cdv : Value) (A : Around) (outer : List Env) (s : Shared) (H : Hp) (E : XK), Room k (A.deeper (envOfC qual (defScope st) s.heap.objs.size f cdv)) →
      ∃ ts t, DSs (cxOf CX0 P w K mg base N qual (defScope st) f cdv A outer s H E).nox K rg (defBody st) ts t ∧ ∀ ds Qd, tf rg ds Qd → ds.length = n → t { nx := fun _ => False, rt := fun _ => False, ro := Qd } (startE N.length ds)) :
    FnOk P w K mg base CX0 (k + 1) f fd ps (spF K n tf) := by
  refine F.ok S (fun vs H Q E ⟨_, _, _, _, _, _, _, _, h, _⟩ => by rw [hn]; exact h) (fun cdv A outer s H vs Q E hr h => ?_)
  obtain ⟨c, ds, Qd, ok, hP, r, j, dom, hl, ht, out⟩ := h
  obtain ⟨ts, t, hd, hs⟩ := hbody c.rg cdv A outer s H E hr
  refine ⟨ts, hd.ps, ?_⟩
  have rw0 : ∀ a, Rw c a → c.rg.R a := fun a z => z.elim id fun e => by rw [hP] at e; cases e
  refine hd.rf c rfl _ H _ _ H _ _ (sd_start ok hP r j dom) (hs ds Qd ht (by rw [← RpAll.length r]; exact hl)) (fun _ _ _ q _ => q.elim) (fun _ _ _ q => q.elim) (fun es a ws H' q h0 kk jj dd hm hl rr => ?_) (fun _ _ _ q _ => q.elim) (fun _ _ _ q _ => q.elim)
  exact out es a ws H' q h0 (kk.mono rw0) jj hl rr
structure CalF (P : Program) (w : World) (K : PySem.W.Frag) (mg : Str → Option Value) (base : Heap) (nm : Str) (lv n : Nat) (tf : Tfs) : Prop where
  ex : ∃ (f : Addr) (fd : FuncData) (ps : List Str), FnOk P w K mg base CX0 lv f fd ps (spF K n tf) ∧ mg nm = some (.ref f) ∧ PySem.W.keepIn K (.ref f) = true ∧ Binds K fd ps []
theorem Cal.mono {nm : Str} {lv lv' n : Nat} {tf : Tf} (C : Cal P w K mg base nm lv n tf) (h : lv ≤ lv') : Cal P w K mg base nm lv' n tf := by
  obtain ⟨f, fd, ps, F, a, b, c⟩ := C.ex
  exact ⟨f, fd, ps, F.mono h, a, b, c⟩
theorem Cal.imp {nm : Str} {lv n : Nat} {tf tf' : Tf} (C : Cal P w K mg base nm lv n tf) (h : ∀ rg ds Q, tf' rg ds Q → tf rg ds Q) : Cal P w K mg base nm lv n tf' := by
  obtain ⟨f, fd, ps, F, a, b, c⟩ := C.ex
  refine ⟨f, fd, ps, F.imp fun vs H Q E ⟨c, ds, Qd, h1, h2, h3, h4, h5, h6, h7, h8⟩ => ⟨c, ds, Qd, h1, h2, h3, h4, h5, h6, h _ _ _ h7, h8⟩, a, b, c⟩
/-- one of several promises -/
theorem Cal.any {nm : Str} {lv n : Nat} {ι : Type} {tf : ι → Tf} {p : ι → Prop} {f : Addr} {fd : FuncData} {ps : List Str} (hl : ps.length = n) (C : ∀ i, p i → FnOk P w K mg base CX0 lv f fd ps (spD K n (tf i))) (a : mg nm = some (.ref f)) (b : PySem.W.keepIn K (.ref f) = true) (c : Binds K fd ps []) :
    Cal P w K mg base nm lv n (fun rg ds Q => ∃ i, p i ∧ tf i rg ds Q) := by
  refine ⟨f, fd, ps, ⟨fun vs H Q E h => (spD_len vs H Q E h).trans hl.symm, fun A outer s H args us vs Q E hr e0 hb hv hs => ?_⟩, a, b, c⟩
  obtain ⟨c, ds, Qd, h1, h2, h3, h4, h5, h6, ⟨i, hi, h7⟩, h8⟩ := hs
  exact (C i hi).run A outer s H args us vs Q E hr e0 hb hv ⟨c, ds, Qd, h1, h2, h3, h4, h5, h6, h7, h8⟩
end
section
variable {X : Cx} {K : PySem.W.Frag} {rg : Rg} {e : Expr} {es : List Expr} {ta : TA} {xs : TDs} {pos : Pos}
def sCallF (n : Nat) (tf : Tfs) (rg : Rg) (xs : TDs) : TDs := fun env Q => xs env fun ds => ds.length = n ∧ tf rg ds Q
theorem rf_callF {n : Nat} {tf : Tfs} {E : XK} (h : RfA K rg ta xs) : RfF K rg (tCall (spF K n tf) [] E ta) (sCallF n tf rg xs) := fun c hc pn H0 env σ H Qd Q S ht k => by
  refine h c hc pn H0 env σ H _ _ S ht fun ds vs H1 q1 k1 j1 r1 => ?_
  subst hc
  have S1 := S.grow k1 j1
  refine ⟨⟨Mof c env, none, c.rg⟩, ds, Qd, ⟨fun a z => Mof.of_R S.ok z, S.ok.rg, fun a z => by cases z⟩, rfl, by rw [List.append_nil]; exact r1, j1, S1.domM, by rw [List.append_nil, RpAll.length r1]; exact q1.1, q1.2, fun es p ws H' q hp k' j' hl r' => ?_⟩
  exact k es p ws H' q (none_back S k1 j1 hp) (k1.trans k') j' hl r'
theorem df_callC {lv n : Nat} {tf : Tfs} {nm : Str} {p : Pos} (C : CalF X.prog X.w X.K X.mg X.base nm lv n tf) (hr : Room lv X.A) (hg : Gl X nm) (ha : DA X K rg (e :: es) ta xs) (hdb : (nm == ("__debug__" : Str)) = false := by decide) (he : starEach (e :: es) X.env = (false, eval e X.env) :: starEach es X.env := by rfl) (hpl : (backTo pos (starEach es X.env)).any (·.1) = false := by rfl) :
    DF X K rg (.Call (.Name nm p) (e :: es) [] pos) (tCall (spF K n tf) [] E0 ta) (sCallF n tf rg xs) := by
  cases ha.kx
  obtain ⟨f, fd, ps, F, hm, hk, hb⟩ := C.ex
  exact ⟨rfl, pe_call F hr hg hm hk hb .nil pass0 ha.pa hdb he hpl, rf_callF ha.rf⟩
end
/-! ### a deal: a list of a list of numbers and a number -/
/-- where it lies -/
def dealRg (a g : Addr) : Rg := ⟨fun x => x = a ∨ x = g, fun H => a ≠ g ∧ ∃ (cs : List Int) (m : Int), H a = some (.lst [.ref g, .int m]) ∧ H g = some (.lst (cs.map V.int)) ∧ 0 ≤ m ∧ m < 2147483647 ∧ cs.length < 64⟩
theorem dealRg_ok (a g : Addr) : (dealRg a g).Ok := by
  refine ⟨fun H H' ⟨ne, cs, m, h1, h2, h3, h4⟩ k => ⟨ne, cs, m, k a _ h1 (.inl rfl), k g _ h2 (.inr rfl), h3, h4⟩, fun H ⟨ne, cs, m, h1, h2, h3, h4⟩ x hx e => ?_⟩
  rcases hx with rfl | rfl
  · rw [h1] at e; cases e
  · rw [h2] at e; cases e
/-- a draw: any number below -/
def tfDraw : Tf := fun rg ds Q => ∃ a g wide, rg = dealRg a g ∧ ds = [.raw (.ref a), .int wide] ∧ 0 < wide ∧ wide < 1073741824 ∧ ∀ r : Int, 0 ≤ r → r < wide → Q (.int r)
end DL

namespace K44
open PySem L2 DL
def top (i : Nat) : Stmt := PySem.Challenge.pw_poisonruns_k44_orders_that_stand_near.main.body.getD i (.Pass ⟨0, 0, 0, 0⟩)
structure Txt (mg : Str → Option Value) : Prop where
  zip : mg "zip" = none
  len : mg "len" = none
  list : mg "list" = none
  int : mg "int" = none
  abs : mg "abs" = none
  sorted : mg "sorted" = none
  str : mg "str" = none
  isinstance : mg "isinstance" = none
  tuple : mg "tuple" = none
section
variable {P : Program} {w : World} {K : PySem.W.Frag} {mg : Str → Option Value} {base : Heap}
/-! ### the deal -/
theorem dpInts {H : Hp} : ∀ cs : List Int, DpAll K H (cs.map V.int) (cs.map PyData.int)
  | [] => .nil
  | c :: cs => .cons (.int c) (dpInts cs)
theorem plInts : ∀ cs : List Int, PyData.plainAll (cs.map PyData.int) = true
  | [] => rfl
  | c :: cs => by rw [List.map_cons]; simp only [PyData.plainAll, PyData.plain, plInts cs, Bool.and_self]
theorem ne_nil {H : Hp} {g p : Addr} {cs : List Int} {Q : VK} (h1 : H g = some (.lst (cs.map V.int))) (h2 : H p = some (.lst [])) (q : Q (.bl (!cs.isEmpty)) H) : rNeP K (.ref g) (.ref p) H Q := by
  refine ⟨.list (cs.map PyData.int), .list [], .lst (SqL.of h1) (dpInts cs), .lst (SqL.of h2) .nil, by simp only [PyData.plain, plInts], rfl, ?_, ?_⟩
  · have : PyData.depth (.list []) ≤ 60 := by decide
    exact Nat.le_trans (Nat.min_le_right _ _) this
  · have e : PyData.eqv (.list (cs.map PyData.int)) (.list []) = cs.isEmpty := by cases cs <;> rfl
    rw [e]; exact q
abbrev s_draw : Stmt := top 9
abbrev N_draw : List Str := ["_law_deal_here", "_law_wide", "_law_left"]
theorem sc_draw : FnScope N_draw ["_law_deal_here", "_law_wide"] (defScope s_draw) := ⟨rfl, rfl, rfl, by decide +kernel, rfl, by decide +kernel, by decide +kernel⟩
theorem while_d {c : TT} {tb : TS} {De : Ends} {σ : L2.St} {H : Hp} (Pv Pe : L2.St → Hp → Prop) (μ : L2.St → Hp → Nat) (h0 : Pv σ H)
    (hs : ∀ σ H, Pv σ H → ∀ R : Bool → Hp → Prop, (∀ b H1, (if b = true then tb { De with nx := fun σ' H' => Pv σ' H' ∧ μ σ' H' < μ σ H, ct := fun σ' H' => Pv σ' H' ∧ μ σ' H' < μ σ H, bk := De.nx } σ H1 else Pe σ H1) → R b H1) → c σ H R) (hd : ∀ σ H, Pe σ H → De.nx σ H) : tWhile c tb De σ H := by
  refine ⟨fun m σ H => m = μ σ H ∧ Pv σ H, ⟨_, rfl, h0⟩, ?_⟩
  rintro m σ H ⟨rfl, p⟩
  refine hs σ H p _ fun b H1 q => ?_
  cases b with
  | true => exact ⟨_, fun σ' H' q => ⟨_, q.2, rfl, q.1⟩, q⟩
  | false => exact hd _ _ q
theorem iteNF {x y : Int} {A B : Prop} (h : ¬ x = y) (b : B) : (if decide (V.int x = V.int y) = true then A else B) := by
  rw [if_neg (by simp [h])]
  exact b
/-- what holds between two steps: the deal stands, all else as it was -/
def DealOk (a g : Addr) (H H' : Hp) : Prop := Keep (dealRg a g).R H H' ∧ (dealRg a g).J H'
theorem ok_draw {f : Addr} {fd : FuncData} (F : Fun K "_law_draw" "_law_draw" s_draw f fd) (T : Txt mg) : FnOk P w K mg base CX0 1 f fd ["_law_deal_here", "_law_wide"] (spD K 2 tfDraw) := by
  refine F.ok sc_draw (fun vs H Q E h => spD_len vs H Q E h) (fun cdv A outer s H vs Q E hr h => ?_)
  obtain ⟨c, ds, Qd, ok, hP, r, j, dom, hl, ⟨a, g, wide, hrg, rfl, w0, w1, hq⟩, out⟩ := h
  cases r with
  | cons r1 r2 =>
  cases r2 with
  | cons r2 r3 =>
  cases r1; cases r2; cases r3
  rw [hrg] at j out
  have hu := hr.units
  have IX0 : ∀ {X : Cx} {pos p1 p2 : Pos} {j : Nat} {x : Str}, True := trivial
  refine ⟨_, pss_cons (ps_while PassesOwn.never (PW.pt (pw_and (pt_cmpR (op_neP (by exact hu)) (pe_ix ix_list (pv 0) pe_int (fun _ _ => rfl)) (pe_lst pa_nil) (nomark _))
        (pw_and1 (pt_cmpR op_eq (pe_ix ix_list (pe_ix ix_list (pv 0) pe_int (fun _ _ => rfl)) (pe_un un_neg pe_int) (fun _ _ => rfl)) pe_int (nomark _)))))
      (pss_one (ps_expr (pe_bm0 PySem.F.plainAttrs_list PySem.F.slot_list_pop PySem.F.type_list_pop mt_pop (pe_ix ix_list (pv 0) pe_int (fun _ _ => rfl))))))
    (pss_cons (ps_if (pt_cmpR (op_neP (by exact hu)) (pe_ix ix_list (pv 0) pe_int (fun _ _ => rfl)) (pe_lst pa_nil) (nomark _))
      (pss_cons (ps_set (i := 2) sc_draw.nd rfl (Or.inl rfl) (pe_bm0 PySem.F.plainAttrs_list PySem.F.slot_list_pop PySem.F.type_list_pop mt_pop (pe_ix ix_list (pv 0) pe_int (fun _ _ => rfl))))
      (pss_cons (ps_expr (pe_bm PySem.F.plainAttrs_list PySem.F.slot_list_append PySem.F.type_list_append mt_append (pe_ix ix_list (pv 0) pe_int (fun _ _ => rfl)) (pa_cons (pe_op op_fdiv (pv 2) (pv 1)) pa_nil)))
      (pss_one (ps_ret (pe_op op_mod (pe_callTy call_int1 (by rfl) T.int (by decide +kernel) (pa_cons (pv 2) pa_nil)) (pv 1)))))) pss_nil)
    (pss_cons (ps_asg (pe_op op_mod (pe_callTy call_int1 (by rfl) T.int (by decide +kernel) (pa_cons (pe_op op_add (pe_op op_mul (pe_ix ix_list (pv 0) pe_int (fun _ _ => rfl)) pe_int) pe_int) pa_nil)) pe_int) (pg_sub (pv 0) pe_int set_list))
    (pss_one (ps_ret (pe_op op_mod (pe_callTy call_int1 (by rfl) T.int (by decide +kernel) (pa_cons (pe_op op_fdiv (pe_ix ix_list (pv 0) pe_int (fun _ _ => rfl)) pe_int) pa_nil)) (pv 1)))))), ?_⟩
  -- the loop
  refine while_d (fun σ H' => ∃ l, σ = [some (.ref a), some (.int wide), l] ∧ DealOk a g H H') (fun σ H' => ∃ l, σ = [some (.ref a), some (.int wide), l] ∧ DealOk a g H H') (fun σ H' => match H' g with | some (.lst xs) => xs.length | _ => 0) ⟨none, rfl, Keep.refl, j⟩ ?_ ?_
  · rintro σ H1 ⟨l, rfl, k1, ne, cs, m, e1, e2, m0, m1, lc⟩ R hR
    refine ⟨_, rfl, a, _, _, V.ref g, rfl, rfl, SqL.of e1, rfl, by decide, fun p hp => ?_⟩
    have pg : g ≠ p := ne_of_none e2 hp
    have pa : a ≠ p := ne_of_none e1 hp
    have ok2 : DealOk a g H (upd H1 p (.lst [])) := ⟨k1.trans (Keep.upd_new hp), ne, cs, m, by rw [upd_ne pa]; exact e1, by rw [upd_ne pg]; exact e2, m0, m1, lc⟩
    refine ne_nil (cs := cs) (by rw [upd_ne pg]; exact e2) upd_same ⟨_, rfl, ?_⟩
    by_cases hc : cs = []
    · subst hc
      exact iteF (hR false _ (iteF ⟨l, rfl, ok2⟩))
    · have hb : (!cs.isEmpty) = true := by cases cs with | nil => exact absurd rfl hc | cons c cs => rfl
      rw [hb]
      refine iteT ?_
      -- the last of them
      obtain ⟨cs', x, rfl⟩ : ∃ cs' x, cs = cs' ++ [x] := ⟨cs.dropLast, cs.getLast hc, (List.dropLast_concat_getLast hc).symm⟩
      have e1' : upd H1 p (.lst []) a = some (.lst [.ref g, .int m]) := by rw [upd_ne pa]; exact e1
      have e2' : upd H1 p (.lst []) g = some (.lst ((cs' ++ [x]).map V.int)) := by rw [upd_ne pg]; exact e2
      refine ⟨_, rfl, a, _, _, V.ref g, rfl, rfl, SqL.of e1', rfl, 1, rfl, g, _, _, V.int x, rfl, rfl, SqL.of e2', by rw [List.map_append]; exact atI_last _ _, rfl, _, rfl, ?_⟩
      by_cases hx : x = 0
      · subst hx
        have e0 : decide (V.int 0 = V.int 0) = true := by simp
        rw [e0]
        refine hR true _ (iteT ?_)
        refine ⟨_, rfl, a, _, _, V.ref g, rfl, rfl, SqL.of e1', rfl, .inl ⟨rfl, _, SqL.of e2'⟩, g, _, V.int 0, rfl, rfl, e2', by simp, ?_⟩
        refine ⟨⟨l, rfl, fun b o e hb => ?_, ne, cs', m, ?_, ?_, m0, m1, by simp at lc; omega⟩, ?_⟩
        · rw [upd_ne (fun z => hb (.inr z))]
          exact ok2.1 b o e hb
        · rw [upd_ne ne]; exact e1'
        · rw [upd_same]; simp
        · simp [upd_same, e2]
      · have e0 : decide (V.int x = V.int 0) = false := by simp [hx]
        rw [e0]
        exact hR false _ (iteF ⟨l, rfl, ok2⟩)
  · rintro σ H1 ⟨l, rfl, k1, ne, cs, m, e1, e2, m0, m1, lc⟩
    refine ⟨_, rfl, a, _, _, V.ref g, rfl, rfl, SqL.of e1, rfl, by decide, fun p hp => ?_⟩
    have pg : g ≠ p := ne_of_none e2 hp
    have pa : a ≠ p := ne_of_none e1 hp
    have e1' : upd H1 p (.lst []) a = some (.lst [.ref g, .int m]) := by rw [upd_ne pa]; exact e1
    have e2' : upd H1 p (.lst []) g = some (.lst (cs.map V.int)) := by rw [upd_ne pg]; exact e2
    have k2 : Keep (dealRg a g).R H (upd H1 p (.lst [])) := k1.trans (Keep.upd_new hp)
    refine ne_nil (cs := cs) e2' upd_same ⟨_, rfl, ?_⟩
    by_cases hc : cs = []
    · subst hc
      refine iteF ?_
      have z0 : 0 ≤ (m * 48271 + 37) % 2147483647 := Int.emod_nonneg _ (by omega)
      have z1 : (m * 48271 + 37) % 2147483647 < 2147483647 := Int.emod_lt_of_pos _ (by omega)
      refine ⟨_, rfl, a, _, _, V.int m, rfl, rfl, SqL.of e1', rfl, m, 48271, rfl, rfl, .inr (by omega), _, _, rfl, rfl, .inl ⟨_, rfl, _, _, rfl, rfl, by omega, ?_⟩⟩
      refine ⟨_, rfl, a, _, _, 1, rfl, rfl, e1', rfl, ?_⟩
      refine ⟨_, rfl, a, _, _, V.int _, rfl, rfl, SqL.of upd_same, rfl, _, _, rfl, rfl, ⟨by omega, by omega⟩, .inl ⟨_, rfl, _, rfl, _, _, rfl, rfl, w0, ?_⟩⟩
      refine out _ (.int _) _ (hq _ (Int.emod_nonneg _ (by omega)) (Int.emod_lt_of_pos _ w0)) (fun b o e hb => ?_) ⟨ne, [], _, upd_same, ?_, z0, z1, by simp⟩ (.int _)
      · rw [upd_ne (fun z => hb (.inl z))]
        exact k2 b o e hb
      · rw [upd_ne (Ne.symm ne)]; exact e2'
    · have hb : (!cs.isEmpty) = true := by cases cs with | nil => exact absurd rfl hc | cons c cs => rfl
      rw [hb]
      refine iteT ?_
      obtain ⟨cs', x, rfl⟩ : ∃ cs' x, cs = cs' ++ [x] := ⟨cs.dropLast, cs.getLast hc, (List.dropLast_concat_getLast hc).symm⟩
      refine ⟨_, rfl, a, _, _, V.ref g, rfl, rfl, SqL.of e1', rfl, .inl ⟨rfl, _, SqL.of e2'⟩, g, _, V.int x, rfl, rfl, e2', by simp, ?_⟩
      refine ⟨_, rfl, a, _, _, V.ref g, rfl, rfl, SqL.of (by rw [upd_ne ne]; exact e1'), rfl, .inl ⟨rfl, _, SqL.of upd_same⟩, _, rfl, _, rfl, _, _, rfl, rfl, ⟨w0, w1⟩, g, _, _, rfl, rfl, upd_same, by have hz : 64 ≤ sizeLine := (by decide); have := lc; rw [List.length_append] at this; simp at this ⊢; omega, ?_⟩
      refine ⟨_, rfl, .inl ⟨_, rfl, _, rfl, _, _, rfl, rfl, w0, ?_⟩⟩
      refine out _ (.int _) _ (hq _ (Int.emod_nonneg _ (by omega)) (Int.emod_lt_of_pos _ w0)) (fun b o e hb => ?_) ⟨ne, cs' ++ [x / wide], m, ?_, ?_, m0, m1, by simpa using lc⟩ (.int _)
      · rw [upd_ne (fun z => hb (.inr z)), upd_ne (fun z => hb (.inr z))]
        exact k2 b o e hb
      · rw [upd_ne ne, upd_ne ne]; exact e1'
      · rw [upd_same]; simp
end
end K44

namespace DL
open PySem L2
/-! Runs of comprehensions over encoded lists. -/
section
variable {α β : Type}
theorem lc_run {xs : List α} {enc : α → D} {p : α → Bool} {g : α → D} {ew : En} {sg : SG} {st : TB} {t : TD} {R : List D → Prop} (hz : xs.length ≤ 1000000)
    (step : ∀ x ∈ xs, ∀ (Qy : D → Prop) (Qn : Prop), (if p x = true then Qy (g x) else Qn) → sg (enc x) ew fun env2 => st env2 fun b => if b = true then t env2 Qy else Qn)
    (fin : R ((xs.filter p).map g)) :
    ∃ I : Nat → List D → Prop, I 0 [] ∧ (∀ i x acc, (xs.map enc)[i]? = some x → I i acc → sg x ew fun env2 => st env2 fun b => if b = true then t env2 fun y => acc.length < sizeLine ∧ I (i + 1) (acc ++ [y]) else I (i + 1) acc) ∧
      ∀ acc, I (xs.map enc).length acc → R acc := by
  refine ⟨fun i acc => acc = ((xs.take i).filter p).map g, by simp, fun i x acc hx hacc => ?_, fun acc h => ?_⟩
  · rw [List.getElem?_map] at hx
    cases hi : xs[i]? with
    | none => rw [hi] at hx; cases hx
    | some y =>
      rw [hi] at hx
      cases hx
      obtain ⟨hlt, e⟩ := List.getElem?_eq_some_iff.mp hi
      have et : xs.take (i + 1) = xs.take i ++ [y] := by rw [List.take_succ, hi]; rfl
      refine step y (e ▸ List.getElem_mem hlt) _ _ ?_
      by_cases hp : p y = true
      · rw [if_pos hp]
        have hl : acc.length ≤ i := by
          subst hacc
          rw [List.length_map]
          exact Nat.le_trans (List.length_filter_le _ _) (by rw [List.length_take]; omega)
        have hs : (1000000 : Nat) < sizeLine := by decide
        exact ⟨by omega, by show _ = _; rw [et, hacc, List.filter_append, List.map_append]; simp [hp]⟩
      · rw [if_neg hp]
        show _ = _
        rw [et, hacc, List.filter_append, List.map_append]; simp [hp]
  · rw [List.length_map, List.take_length] at h
    rw [h]; exact fin
theorem lc_at {zs : List D} {xs : List α} {enc : α → D} {p : α → Bool} {g : α → D} {ew : En} {sg : SG} {st : TB} {t : TD} {R : List D → Prop} (e : zs = xs.map enc) (hz : xs.length ≤ 1000000)
    (step : ∀ x ∈ xs, ∀ (Qy : D → Prop) (Qn : Prop), (if p x = true then Qy (g x) else Qn) → sg (enc x) ew fun env2 => st env2 fun b => if b = true then t env2 Qy else Qn)
    (fin : R ((xs.filter p).map g)) :
    ∃ I : Nat → List D → Prop, I 0 [] ∧ (∀ i x acc, zs[i]? = some x → I i acc → sg x ew fun env2 => st env2 fun b => if b = true then t env2 fun y => acc.length < sizeLine ∧ I (i + 1) (acc ++ [y]) else I (i + 1) acc) ∧
      ∀ acc, I zs.length acc → R acc := by
  subst e; exact lc_run hz step fin
theorem flat_len {xs : List α} {ys : α → List β} {p : α → β → Bool} {m : Nat} (hm : ∀ x ∈ xs, (ys x).length ≤ m) (g : α → β → D) : (xs.flatMap fun x => ((ys x).filter (p x)).map (g x)).length ≤ xs.length * m := by
  induction xs with
  | nil => simp
  | cons x xs ih =>
    rw [List.flatMap_cons, List.length_append, List.length_map]
    have h1 := hm x (by simp)
    have h2 := List.length_filter_le (p x) (ys x)
    have h3 := ih fun y hy => hm y (by simp [hy])
    rw [List.length_cons, Nat.succ_mul]
    omega
theorem lc2_run {xs : List α} {enc : α → D} {ys : α → List β} {enc1 : β → D} {p : α → β → Bool} {g : α → β → D} {m : Nat} {ew : En} {e2 : α → En} {vs1 : List Nat} {sg sg1 : SG} {st st1 : TB} {ti1 : TDs} {t : TD} {R : List D → Prop}
    (hz : xs.length * m ≤ 1000000) (hm : ∀ x ∈ xs, (ys x).length ≤ m)
    (step : ∀ x ∈ xs, ∀ (Z : List D → En → Prop) (N : Prop), Z ((ys x).map enc1) (e2 x) → sg (enc x) ew fun env2 => st env2 fun b => if b = true then (ownFree env2 vs1 = true ∧ ti1 env2 fun zs => Z zs env2) else N)
    (step1 : ∀ x ∈ xs, ∀ y ∈ ys x, ∀ (Qy : D → Prop) (Qn : Prop), (if p x y = true then Qy (g x y) else Qn) → sg1 (enc1 y) (wipeE (e2 x) vs1) fun env3 => st1 env3 fun b1 => if b1 = true then t env3 Qy else Qn)
    (fin : R (xs.flatMap fun x => ((ys x).filter (p x)).map (g x))) :
    ∃ I : Nat → List D → Prop, I 0 [] ∧
      (∀ i x acc, (xs.map enc)[i]? = some x → I i acc → sg x ew fun env2 => st env2 fun b => if b = true then (ownFree env2 vs1 = true ∧ ti1 env2 fun ys => ∃ I1 : Nat → List D → Prop, I1 0 acc ∧
        (∀ j y acc1, ys[j]? = some y → I1 j acc1 → sg1 y (wipeE env2 vs1) fun env3 => st1 env3 fun b1 => if b1 = true then t env3 fun z => acc1.length < sizeLine ∧ I1 (j + 1) (acc1 ++ [z]) else I1 (j + 1) acc1) ∧ ∀ acc1, I1 ys.length acc1 → I (i + 1) acc1) else I (i + 1) acc) ∧
      ∀ acc, I (xs.map enc).length acc → R acc := by
  refine ⟨fun i acc => acc = (xs.take i).flatMap fun x => ((ys x).filter (p x)).map (g x), by simp, fun i x acc hx hacc => ?_, fun acc h => ?_⟩
  · rw [List.getElem?_map] at hx
    cases hi : xs[i]? with
    | none => rw [hi] at hx; cases hx
    | some y =>
      rw [hi] at hx
      cases hx
      obtain ⟨hlt, e⟩ := List.getElem?_eq_some_iff.mp hi
      have et : xs.take (i + 1) = xs.take i ++ [y] := by rw [List.take_succ, hi]; rfl
      have my : y ∈ xs := e ▸ List.getElem_mem hlt
      have hl : acc.length ≤ i * m := by
        have := flat_len (p := p) (xs := xs.take i) (fun x hx => hm x (List.mem_of_mem_take hx)) g
        rw [List.length_take, Nat.min_eq_left (by omega)] at this
        rw [hacc]; exact this
      refine step y my (fun zs env2 => ∃ I1 : Nat → List D → Prop, I1 0 acc ∧
        (∀ j y acc1, zs[j]? = some y → I1 j acc1 → sg1 y (wipeE env2 vs1) fun env3 => st1 env3 fun b1 => if b1 = true then t env3 fun z => acc1.length < sizeLine ∧ I1 (j + 1) (acc1 ++ [z]) else I1 (j + 1) acc1) ∧ ∀ acc1, I1 zs.length acc1 → acc1 = (xs.take (i + 1)).flatMap fun x => ((ys x).filter (p x)).map (g x)) _ ?_
      refine ⟨fun j acc1 => acc1 = acc ++ (((ys y).take j).filter (p y)).map (g y), by simp, fun j z acc1 hz1 hacc1 => ?_, fun acc1 h => ?_⟩
      · rw [List.getElem?_map] at hz1
        cases hj : (ys y)[j]? with
        | none => rw [hj] at hz1; cases hz1
        | some u =>
          rw [hj] at hz1
          cases hz1
          obtain ⟨hlt1, e1⟩ := List.getElem?_eq_some_iff.mp hj
          have et1 : (ys y).take (j + 1) = (ys y).take j ++ [u] := by rw [List.take_succ, hj]; rfl
          refine step1 y my u (e1 ▸ List.getElem_mem hlt1) _ _ ?_
          have hs : (1000000 : Nat) < sizeLine := by decide
          have hmy := hm y my
          have hl1 : acc1.length ≤ i * m + j := by
            subst hacc1
            rw [List.length_append, List.length_map]
            have := List.length_filter_le (p y) ((ys y).take j)
            rw [List.length_take] at this
            omega
          have hb : i * m + j < xs.length * m := by
            have : (i + 1) * m ≤ xs.length * m := Nat.mul_le_mul_right m hlt
            rw [Nat.succ_mul] at this
            omega
          by_cases hp : p y u = true
          · rw [if_pos hp]
            exact ⟨by omega, by show _ = _; rw [et1, hacc1, List.filter_append, List.map_append]; simp [hp]⟩
          · rw [if_neg hp]
            show _ = _
            rw [et1, hacc1, List.filter_append, List.map_append]; simp [hp]
      · rw [List.length_map, List.take_length] at h
        rw [h, hacc, et, List.flatMap_append]; simp
  · rw [List.length_map, List.take_length] at h
    rw [h]; exact fin
theorem lc2_at {zs0 : List D} {xs : List α} {enc : α → D} {ys : α → List β} {enc1 : β → D} {p : α → β → Bool} {g : α → β → D} {m : Nat} {ew : En} {e2 : α → En} {vs1 : List Nat} {sg sg1 : SG} {st st1 : TB} {ti1 : TDs} {t : TD} {R : List D → Prop}
    (e0 : zs0 = xs.map enc) (hz : xs.length * m ≤ 1000000) (hm : ∀ x ∈ xs, (ys x).length ≤ m)
    (step : ∀ x ∈ xs, ∀ (Z : List D → En → Prop) (N : Prop), Z ((ys x).map enc1) (e2 x) → sg (enc x) ew fun env2 => st env2 fun b => if b = true then (ownFree env2 vs1 = true ∧ ti1 env2 fun zs => Z zs env2) else N)
    (step1 : ∀ x ∈ xs, ∀ y ∈ ys x, ∀ (Qy : D → Prop) (Qn : Prop), (if p x y = true then Qy (g x y) else Qn) → sg1 (enc1 y) (wipeE (e2 x) vs1) fun env3 => st1 env3 fun b1 => if b1 = true then t env3 Qy else Qn)
    (fin : R (xs.flatMap fun x => ((ys x).filter (p x)).map (g x))) :
    ∃ I : Nat → List D → Prop, I 0 [] ∧
      (∀ i x acc, zs0[i]? = some x → I i acc → sg x ew fun env2 => st env2 fun b => if b = true then (ownFree env2 vs1 = true ∧ ti1 env2 fun ys => ∃ I1 : Nat → List D → Prop, I1 0 acc ∧
        (∀ j y acc1, ys[j]? = some y → I1 j acc1 → sg1 y (wipeE env2 vs1) fun env3 => st1 env3 fun b1 => if b1 = true then t env3 fun z => acc1.length < sizeLine ∧ I1 (j + 1) (acc1 ++ [z]) else I1 (j + 1) acc1) ∧ ∀ acc1, I1 ys.length acc1 → I (i + 1) acc1) else I (i + 1) acc) ∧
      ∀ acc, I zs0.length acc → R acc := by
  subst e0; exact lc2_run hz hm step step1 fin
/-- a loop over an encoded list that only turns the slots -/
theorem for_run {xs : List α} {enc : α → D} {sg : SG} {tb : TDS} {Dd : DEnds} (I : Nat → En → Prop) {env : En} (i0 : I 0 env)
    (step : ∀ i x env', xs[i]? = some x → I i env' → sg (enc x) env' fun env2 => tb { Dd with nx := I (i + 1), ct := I (i + 1), bk := Dd.nx } env2) (fin : ∀ env', I xs.length env' → Dd.nx env') :
    ∃ I : Nat → En → Prop, I 0 env ∧ (∀ i x env', (xs.map enc)[i]? = some x → I i env' → sg x env' fun env2 => tb { Dd with nx := I (i + 1), ct := I (i + 1), bk := Dd.nx } env2) ∧ ∀ env', I (xs.map enc).length env' → Dd.nx env' := by
  refine ⟨I, i0, fun i x env' hx h => ?_, fun env' h => fin env' (by rwa [List.length_map] at h)⟩
  rw [List.getElem?_map] at hx
  cases hi : xs[i]? with
  | none => rw [hi] at hx; cases hx
  | some y => rw [hi] at hx; cases hx; exact step i y env' hi h
end
/-- a slot that may be set -/
def FreeS (x : Option Sl) : Prop := x = none ∨ ∃ y, x = some (.dat y)
/-! ### == of encoded data -/
theorem dep_str {ds : List PyData} {x : Str} : min (PyData.depthAll ds) (toPy (.str x)).depth ≤ 60 := by simp [toPy, PyData.depth]
theorem cut_from {ds : List D} {k : Nat} : cutD ds (some (k : Int)) none = ds.drop k := by
  unfold cutD
  rw [HT.sIx_nat, HT.sIx_none]
  by_cases h : k ≤ ds.length
  · rw [Nat.min_eq_left h, List.take_of_length_le (by simp)]
  · rw [Nat.min_eq_right (by omega)]; simp; omega
theorem cut_to {ds : List D} {k : Nat} : cutD ds none (some (k : Int)) = ds.take k := by
  unfold cutD
  rw [HT.sIx_nat, HT.sIx_none]
  by_cases h : k ≤ ds.length
  · rw [Nat.min_eq_left h]; simp
  · rw [Nat.min_eq_right (by omega)]; simp [List.take_of_length_le (show ds.length ≤ k by omega)]
theorem deq_str (x y : Str) : deq (.str x) (.str y) = (x == y) := by simp [deq, toPy, PyData.eqv]
theorem deq_int (x y : Int) : deq (.int x) (.int y) = (x == y) := by simp [deq, toPy, PyData.eqv]
theorem deq_pair (a b c d : D) : deq (.tup [a, b]) (.tup [c, d]) = (deq a c && deq b d) := by simp [deq, toPy, toPys, PyData.eqv, PyData.eqvAll]
theorem deq_nil (xs : List D) : deq (.lst xs) (.lst []) = xs.isEmpty := by cases xs <;> simp [deq, toPy, toPys, PyData.eqv, PyData.eqvAll]
theorem deq_lst : ∀ xs ys : List Str, deq (.lst (xs.map .str)) (.lst (ys.map .str)) = (xs == ys)
  | [], [] => rfl
  | [], _ :: _ => rfl
  | _ :: _, [] => rfl
  | x :: xs, y :: ys => by
    have ih := deq_lst xs ys
    simp only [deq, toPy, toPys, List.map_cons, PyData.eqv, PyData.eqvAll] at ih ⊢
    rw [ih]; rfl
theorem inD_map {α : Type} [BEq α] [LawfulBEq α] {enc : α → D} {x : α} {xs : List α} (h : ∀ y ∈ xs, deq (enc y) (enc x) = (y == x)) : inD (enc x) (xs.map enc) = decide (x ∈ xs) := by
  unfold inD
  rw [List.any_map, Bool.eq_iff_iff, List.any_eq_true]
  constructor
  · rintro ⟨y, hy, e⟩
    simp only [Function.comp] at e
    rw [h y hy, beq_iff_eq] at e
    subst e
    simpa using hy
  · intro hx
    have hx' : x ∈ xs := by simpa using hx
    exact ⟨x, hx', by simp only [Function.comp]; rw [h x hx']; simp⟩
theorem isPls_map {α : Type} {enc : α → D} (h : ∀ x, isPl (enc x) = true) : ∀ xs : List α, isPls (xs.map enc) = true
  | [] => rfl
  | x :: xs => by simp [isPls, h x, isPls_map h xs]
end DL

namespace K44
open PySem L2 DL
/-! ### the same with places in place of names -/
def eS (f : Nat → Str) (i : Nat) : D := .str (f i)
def eO (f : Nat → Str) (o : List Nat) : D := .tup (o.map (eS f))
def eP (f : Nat → Str) (p : Nat × Nat) : D := .tup [eS f p.1, eS f p.2]
def Inj (f : Nat → Str) (n : Nat) : Prop := ∀ i j, i < n → j < n → f i = f j → i = j
def stepI (n : Nat) (fs : List (List Nat)) : List (List Nat) := fs.flatMap fun o => ((List.range n).filter fun i => !decide (i ∈ o)).map fun i => o ++ [i]
def ordersI (n : Nat) : Nat → List (List Nat)
  | 0 => [[]]
  | k + 1 => stepI n (ordersI n k)
def heldI (o : List Nat) (ps : List (Nat × Nat)) : List (Nat × Nat) := (o.zip (o.drop 1)).filter fun p => decide (p ∈ ps)
def loopI (F : List Nat → Option (List (List Nat))) : List (List Nat) → Option (List (List Nat))
  | [] => none
  | o :: os => match F o with
    | some r => some r
    | none => loopI F os
def usefulI (n c : Nat) (ps : List (Nat × Nat)) (os : List (List Nat)) : List (List Nat) := os.filter fun o => decide (((ps.length : Int) - (((c + 1 : Nat) : Int) - 1) * ((n : Int) - 1)) ≤ ((heldI o ps).length : Int))
def coverI (n : Nat) : Nat → List (Nat × Nat) → List (List Nat) → Option (List (List Nat))
  | 0, ps, _ => if ps.isEmpty then some [] else none
  | c + 1, ps, os => if ps.isEmpty then some [] else loopI (fun o => if decide (ps.headD (0, 0) ∈ heldI o ps) then (coverI n c (ps.filter fun p => !decide (p ∈ heldI o ps)) (usefulI n c ps os)).map (o :: ·) else none) (usefulI n c ps os)
def pairsI (n : Nat) : List (Nat × Nat) := (List.range n).flatMap fun i => ((List.range n).filter fun j => i != j).map fun j => (i, j)
def ofI (n : Nat) : List (List Nat) := ordersI n n
def cMin : Nat → Nat
  | 1 => 0
  | 2 => 2
  | 3 => 4
  | _ => 4
def nearI (n : Nat) : List (List Nat) := (coverI n (cMin n) (pairsI n) (ofI n)).getD []
def lowB (n : Nat) : Bool := (List.range (cMin n)).all (fun c => (coverI n c (pairsI n) (ofI n)).isNone) && (coverI n (cMin n) (pairsI n) (ofI n)).isSome
set_option maxHeartbeats 4000000 in
theorem low1 : lowB 1 = true := by decide +kernel
theorem low2 : lowB 2 = true := by decide +kernel
theorem low3 : lowB 3 = true := by decide +kernel
theorem low4 : lowB 4 = true := by decide +kernel

variable {f : Nat → Str} {n : Nat}
theorem pl_S (i : Nat) : isPl (eS f i) = true := rfl
theorem pl_Ss : ∀ o : List Nat, isPls (o.map (eS f)) = true := isPls_map pl_S
theorem pl_P (p : Nat × Nat) : isPl (eP f p) = true := rfl
theorem pl_Ps : ∀ o : List (Nat × Nat), isPls (o.map (eP f)) = true := isPls_map pl_P
theorem pl_O (o : List Nat) : isPl (eO f o) = true := pl_Ss o
theorem deq_S (h : Inj f n) {i j : Nat} (hi : i < n) (hj : j < n) : deq (eS f i) (eS f j) = (i == j) := by
  rw [eS, eS, deq_str, Bool.eq_iff_iff]
  simp only [beq_iff_eq]
  exact ⟨h i j hi hj, fun e => by rw [e]⟩
theorem deq_P (h : Inj f n) {p q : Nat × Nat} (hp : p.1 < n ∧ p.2 < n) (hq : q.1 < n ∧ q.2 < n) : deq (eP f p) (eP f q) = (p == q) := by
  rw [eP, eP, deq_pair, deq_S h hp.1 hq.1, deq_S h hp.2 hq.2]
  rfl
theorem in_S (h : Inj f n) {i : Nat} {o : List Nat} (hi : i < n) (ho : ∀ j ∈ o, j < n) : inD (eS f i) (o.map (eS f)) = decide (i ∈ o) := inD_map fun y hy => deq_S h (ho y hy) hi
theorem in_P (h : Inj f n) {p : Nat × Nat} {ps : List (Nat × Nat)} (hp : p.1 < n ∧ p.2 < n) (hs : ∀ q ∈ ps, q.1 < n ∧ q.2 < n) : inD (eP f p) (ps.map (eP f)) = decide (p ∈ ps) := inD_map fun y hy => deq_P h (hs y hy) hp
theorem dep_S {ds : List PyData} (i : Nat) : min (PyData.depthAll ds) (toPy (eS f i)).depth ≤ 60 := dep_str
theorem dep_P {ds : List PyData} (p : Nat × Nat) : min (PyData.depthAll ds) (toPy (eP f p)).depth ≤ 60 := by simp [eP, eS, toPy, toPys, PyData.depth, PyData.depthAll]; omega
theorem pairs_eq (o : List Nat) : pairD (o.map (eS f)) ((o.map (eS f)).drop 1) = (o.zip (o.drop 1)).map (eP f) := by
  unfold pairD
  rw [← List.map_drop, List.zip, List.map_zipWith, List.zipWith_map]
  rfl
def PsOk (n : Nat) (ps : List (Nat × Nat)) : Prop := ps.length ≤ 16 ∧ ∀ p ∈ ps, p.1 < n ∧ p.2 < n
def OOk (n : Nat) (o : List Nat) : Prop := o.length = n ∧ ∀ i ∈ o, i < n
def OsOk (n : Nat) (os : List (List Nat)) : Prop := os.length ≤ 24 ∧ ∀ o ∈ os, OOk n o
def eR (f : Nat → Str) : Option (List (List Nat)) → D
  | none => .non
  | some r => .lst (r.map (eO f))
def names (f : Nat → Str) (n : Nat) : List D := (List.range n).map (eS f)
def tfOrd (f : Nat → Str) (n : Nat) : Tf := fun _ ds Q => (ds = [.lst (names f n)] ∨ ds = [.tup (names f n)]) ∧ Q (.lst ((ofI n).map (eO f)))
def tfHeld (f : Nat → Str) (n : Nat) : Tf := fun _ ds Q => ∃ o ps, ds = [eO f o, .lst (ps.map (eP f))] ∧ OOk n o ∧ PsOk n ps ∧ Q (.lst ((heldI o ps).map (eP f)))
def tfCov (f : Nat → Str) (n c : Nat) : Tf := fun _ ds Q => ∃ ps os, ds = [.lst (ps.map (eP f)), .lst (os.map (eO f)), .int (c : Nat)] ∧ PsOk n ps ∧ OsOk n os ∧ os ≠ [] ∧ Q (eR f (coverI n c ps os))
def tfNear (f : Nat → Str) (n : Nat) : Tf := fun _ ds Q => (ds = [.lst (names f n)] ∨ ds = [.tup (names f n)]) ∧ Q (.tup ((nearI n).map (eO f)))
def tfIsNear (f : Nat → Str) (n : Nat) : Tf := fun _ ds Q => ds = [.lst (names f n), .tup ((nearI n).map (eO f))] ∧ Q (.bl true)
theorem ord_facts : ∀ n ≤ 4, ∀ k ≤ n, (ordersI n k).length ≤ 256 ∧ ∀ o ∈ ordersI n k, o.length = k ∧ ∀ i ∈ o, i < n := by decide +kernel
theorem ofI_ok (hn : n ≤ 4) : OsOk n (ofI n) ∧ ofI n ≠ [] := by
  have h : ∀ n ≤ 4, ((ofI n).length ≤ 24 ∧ ∀ o ∈ ofI n, o.length = n ∧ ∀ i ∈ o, i < n) ∧ ofI n ≠ [] := by decide +kernel
  exact h n hn
theorem pairsI_ok (hn : n ≤ 4) : PsOk n (pairsI n) := by
  have h : ∀ n ≤ 4, (pairsI n).length ≤ 16 ∧ ∀ p ∈ pairsI n, p.1 < n ∧ p.2 < n := by decide +kernel
  exact h n hn
def tfPre (f : Nat → Str) (n : Nat) : Nat → Tf
  | 0 => fun _ _ _ => False
  | c + 1 => tfCov f n c
theorem loop_none {F : List Nat → Option (List (List Nat))} : ∀ {us : List (List Nat)} {o : List Nat}, loopI F us = none → F o = none → loopI F (us ++ [o]) = none
  | [], o, _, h => by simp [loopI, h]
  | u :: us, o, h1, h => by
    simp only [loopI, List.cons_append] at h1 ⊢
    cases hu : F u with
    | some r => rw [hu] at h1; cases h1
    | none => rw [hu] at h1; simp only at h1 ⊢; exact loop_none h1 h
theorem loop_some {F : List Nat → Option (List (List Nat))} : ∀ {us vs : List (List Nat)} {o : List Nat} {r : List (List Nat)}, loopI F us = none → F o = some r → loopI F (us ++ o :: vs) = some r
  | [], vs, o, r, _, h => by simp [loopI, h]
  | u :: us, vs, o, r, h1, h => by
    simp only [loopI, List.cons_append] at h1 ⊢
    cases hu : F u with
    | some r => rw [hu] at h1; cases h1
    | none => rw [hu] at h1; simp only at h1 ⊢; exact loop_some h1 h
theorem loop_in {F : List Nat → Option (List (List Nat))} : ∀ {us : List (List Nat)} {r : List (List Nat)}, loopI F us = some r → ∃ o ∈ us, F o = some r
  | [], r, h => by simp [loopI] at h
  | u :: us, r, h => by
    simp only [loopI] at h
    cases hu : F u with
    | some q => rw [hu] at h; simp only [Option.some.injEq] at h; exact ⟨u, by simp, by rw [hu, h]⟩
    | none => rw [hu] at h; simp only at h; obtain ⟨o, ho, e⟩ := loop_in h; exact ⟨o, by simp [ho], e⟩
theorem cover_len : ∀ {c : Nat} {ps : List (Nat × Nat)} {os r : List (List Nat)}, coverI n c ps os = some r → r.length ≤ c
  | 0, ps, os, r, h => by
    simp only [coverI] at h
    split at h
    · simp only [Option.some.injEq] at h; subst h; simp
    · cases h
  | c + 1, ps, os, r, h => by
    simp only [coverI] at h
    split at h
    · simp only [Option.some.injEq] at h; subst h; simp
    · obtain ⟨o, _, e⟩ := loop_in h
      split at e
      · cases hc : coverI n c (ps.filter fun p => !decide (p ∈ heldI o ps)) (usefulI n c ps os) with
        | none => rw [hc] at e; cases e
        | some q => rw [hc] at e; simp only [Option.map_some, Option.some.injEq] at e; subst e; simp [cover_len hc]
      · cases e
theorem low_facts (h1 : 1 ≤ n) (h4 : n ≤ 4) : (∀ c, c < cMin n → coverI n c (pairsI n) (ofI n) = none) ∧ coverI n (cMin n) (pairsI n) (ofI n) = some (nearI n) ∧ cMin n ≤ 4 := by
  have hb : lowB n = true := by
    match n, h1, h4 with
    | 1, _, _ => exact low1
    | 2, _, _ => exact low2
    | 3, _, _ => exact low3
    | 4, _, _ => exact low4
  unfold lowB at hb
  rw [Bool.and_eq_true, List.all_eq_true] at hb
  refine ⟨fun c hc => ?_, ?_, ?_⟩
  · have := hb.1 c (by simpa using hc)
    simpa using this
  · unfold nearI
    cases e : coverI n (cMin n) (pairsI n) (ofI n) with
    | none => rw [e] at hb; simp at hb
    | some r => rfl
  · match n, h1, h4 with
    | 1, _, _ => decide
    | 2, _, _ => decide
    | 3, _, _ => decide
    | 4, _, _ => decide
def tfCovs (f : Nat → Str) (n : Nat) : Tf := fun rg ds Q => ∃ c, c ≤ 4 ∧ tfCov f n c rg ds Q
def zipsI (os : List (List Nat)) : List (Nat × Nat) := os.flatMap fun o => o.zip (o.drop 1)
def wantB (n : Nat) : Bool := ((nearI n).length == ([0, 0, 2, 4, 4] : List Nat).getD n 0) && (nearI n).all (fun o => o.length == n && (List.range n).all (fun i => decide (i ∈ o)) && o.all (fun i => decide (i < n))) &&
  (List.range n).all (fun i => (List.range n).all fun j => j == i || decide ((i, j) ∈ zipsI (nearI n))) && (List.range 5).all (fun k => decide ((zipsI ((nearI n).take k)).length ≤ 100)) && (zipsI (nearI n)).all fun q => decide (q.1 < n) && decide (q.2 < n)
theorem want1 : wantB 1 = true := by decide +kernel
theorem want2 : wantB 2 = true := by decide +kernel
theorem want3 : wantB 3 = true := by decide +kernel
theorem want4 : wantB 4 = true := by decide +kernel
theorem want_facts (h1 : 1 ≤ n) (h4 : n ≤ 4) : (∃ w : Nat, (nearI n).length = w ∧ w ≤ 4 ∧ ([.int 0, .int 0, .int 2, .int 4, .int 4] : List D)[n]? = some (.int (w : Nat))) ∧ (∀ o ∈ nearI n, o.length = n ∧ (∀ i < n, i ∈ o) ∧ ∀ i ∈ o, i < n) ∧
    (∀ i < n, ∀ j < n, j = i ∨ (i, j) ∈ zipsI (nearI n)) ∧ (∀ k ≤ 4, (zipsI ((nearI n).take k)).length ≤ 100) ∧ ∀ q ∈ zipsI (nearI n), q.1 < n ∧ q.2 < n := by
  have hb : wantB n = true := by
    match n, h1, h4 with
    | 1, _, _ => exact want1
    | 2, _, _ => exact want2
    | 3, _, _ => exact want3
    | 4, _, _ => exact want4
  unfold wantB at hb
  simp only [Bool.and_eq_true, List.all_eq_true, beq_iff_eq, decide_eq_true_eq, Bool.or_eq_true, List.mem_range] at hb
  obtain ⟨⟨⟨⟨h1', h2⟩, h3⟩, h5⟩, h6⟩ := hb
  refine ⟨⟨([0, 0, 2, 4, 4] : List Nat).getD n 0, h1', ?_, ?_⟩, fun o ho => ⟨(h2 o ho).1.1, (h2 o ho).1.2, (h2 o ho).2⟩, h3, fun k hk => h5 k (by omega), fun q hq => h6 q hq⟩
  · match n, h1, h4 with
    | 1, _, _ => decide
    | 2, _, _ => decide
    | 3, _, _ => decide
    | 4, _, _ => decide
  · match n, h1, h4 with
    | 1, _, _ => rfl
    | 2, _, _ => rfl
    | 3, _, _ => rfl
    | 4, _, _ => rfl
end K44

namespace K44
open PySem L2 DL
section
variable {P : Program} {w : World} {K : PySem.W.Frag} {mg : Str → Option Value} {base : Heap} {g : Nat → Str} {n : Nat}

abbrev s_held_by : Stmt := top 4
abbrev N_held_by : List Str := ["order", "pairs", "pair"]
theorem sc_held_by : FnScope N_held_by ["order", "pairs"] (defScope s_held_by) := ⟨rfl, rfl, rfl, by decide +kernel, rfl, by decide +kernel, by decide +kernel⟩
theorem ok_held_by {f : Addr} {fd : FuncData} (F : Fun K "held_by" "held_by" s_held_by f fd) (T : Txt mg) (hn : n ≤ 4) (hj : Inj g n) : FnOk P w K mg base CX0 (0 + 1) f fd ["order", "pairs"] (spD K 2 (tfHeld g n)) := by
  refine fn_D F sc_held_by rfl fun rg cdv A outer s H E hr => ?_
  have hu := hr.units
  refine ⟨_, _, (dss_one (ds_ret (DP.o (DF.p (df_lc (own := [("pair", 2)]) rfl sc_held_by.nd (blkOk_by (N := N_held_by) (sc := (defScope s_held_by)) (by decide +kernel)) (di_zipN (by rfl) T.zip (dao_cons (DP.o (d_var (pv 0))) (dao_cons (DP.o (d_slice (DP.o (d_var (pv 0))) (dpo_some d_int) dpo_none)) dao_nil))) (fun _ _ _ _ _ => by exact (dg_name (pg_name (i := 2) sc_held_by.nd rfl (by first | exact Or.inl rfl | exact Or.inr rfl)) (by decide))) (fun _ _ _ _ _ => by exact (dts_one (dt_cmp (op_inP (by exact hu)) (opd_in false) (DP.o (d_var (pv 2))) (DP.o (d_var (pv 1))) (by rfl)))) (fun _ _ _ _ _ => by exact (d_var (pv 2)))))))), fun ds Qd h hl => ?_⟩
  obtain ⟨o, ps, rfl, oo, pp, hq⟩ := h
  have key : ∀ R : List D → Prop, R (pairD (o.map (eS g)) ((o.map (eS g)).drop 1)) → sZip (sCons (sVar 0) (sCons (sSl (sVar 0) (sPs (sC (.int 1))) sPn) sNil)) (startE N_held_by.length [eO g o, .lst (ps.map (eP g))]) R := fun R hR => by
    rw [← cut_from (k := 1)] at hR
    exact hR
  refine ⟨rfl, key _ ?_⟩
  refine lc_at (xs := o.zip (o.drop 1)) (enc := eP g) (p := fun q => decide (q ∈ ps)) (g := eP g) (pairs_eq o) ?_ ?_ hq
  · have := oo.1
    rw [List.length_zip, List.length_drop]
    omega
  · intro q hq' Qy Qn hh
    have bq : q.1 < n ∧ q.2 < n := ⟨oo.2 _ (List.of_mem_zip hq').1, oo.2 _ (List.mem_of_mem_drop (List.of_mem_zip hq').2)⟩
    refine ⟨rfl, rfl, pl_Ps ps, dep_P q, ?_⟩
    show (if inD (eP g q) (ps.map (eP g)) = true then Qy (eP g q) else Qn)
    rw [in_P hj bq pp.2]
    exact hh

def tfLon (g : Nat → Str) (n : Nat) : Tf := fun rg ds Q => ∃ k : Nat, k < n ∧ (ds = [.lst ((ordersI n k).map (eO g)), .lst (names g n)] ∨ ds = [.lst ((ordersI n k).map (eO g)), .tup (names g n)]) ∧ Q (.lst ((ordersI n (k + 1)).map (eO g)))
abbrev s_longer : Stmt := top 1
abbrev N_longer : List Str := ["rows", "names", "row", "name"]
theorem sc_longer : FnScope N_longer ["rows", "names"] (defScope s_longer) := ⟨rfl, rfl, rfl, by decide +kernel, rfl, by decide +kernel, by decide +kernel⟩
theorem ok_longer {f : Addr} {fd : FuncData} (F : Fun K "longer" "longer" s_longer f fd) (T : Txt mg) (hn : n ≤ 4) (hj : Inj g n) : FnOk P w K mg base CX0 (0 + 1) f fd ["rows", "names"] (spD K 2 (tfLon g n)) := by
  refine fn_D F sc_longer rfl fun rg cdv A outer s H E hr => ?_
  have hu := hr.units
  refine ⟨_, _, (dss_one (ds_ret (DP.o (DF.p (df_lc2 (own := [("row", 2), ("name", 3)]) (vs1 := [3]) rfl sc_longer.nd (blkOk_by (N := N_longer) (sc := (defScope s_longer)) (by decide +kernel)) (by decide) (di_op (DP.o (d_var (pv 0)))) (fun _ _ _ _ _ => by exact (dg_name (pg_name (i := 2) sc_longer.nd rfl (by first | exact Or.inl rfl | exact Or.inr rfl)) (by decide))) (fun _ _ _ _ _ => by exact dts_nil) (fun _ _ _ _ _ => by exact (di_op (DP.o (d_var (pv 1))))) (fun _ _ _ _ _ => by exact (dg_name (pg_name (i := 3) sc_longer.nd rfl (by first | exact Or.inl rfl | exact Or.inr rfl)) (by decide))) (fun _ _ _ _ _ => by exact (dts_one (dt_cmp (op_notInP (by exact hu)) (opd_in true) (DP.o (d_var (pv 3))) (DP.o (d_var (pv 2))) (by rfl)))) (fun _ _ _ _ _ => by exact (d_tup (da_star (DP.o (d_var (pv 2))) (da_cons (d_var (pv 3)) da_nil))))))))), fun ds Qd h hl => ?_⟩
  obtain ⟨k, hk, hd, hq⟩ := h
  obtain ⟨l1, l2⟩ := ord_facts n hn k (by omega)
  rcases hd with rfl | rfl
  · refine ⟨rfl, ?_⟩
    refine lc2_at (xs := ordersI n k) (enc := eO g) (ys := fun _ => List.range n) (enc1 := eS g) (p := fun o i => !decide (i ∈ o)) (g := fun o i => eO g (o ++ [i])) (m := 4)
        (e2 := fun o => [some (.dat (.lst ((ordersI n k).map (eO g)))), some (.dat (.lst (names g n))), some (.dat (eO g o)), none]) rfl (by omega) (fun o _ => by simp; omega) ?_ ?_ ?_
    · intro o ho Z N hZ
      exact ⟨rfl, iteT (B := N) ⟨rfl, hZ⟩⟩
    · intro o ho i hi Qy Qn hh
      refine ⟨rfl, rfl, pl_Ss o, dep_S i, ?_⟩
      show (if (!inD (eS g i) (o.map (eS g))) = true then _ else Qn)
      rw [in_S hj (by simpa using hi) (l2 o ho).2]
      by_cases hm : i ∈ o
      · simp only [hm, decide_true, Bool.not_true, Bool.false_eq_true, if_false] at hh ⊢
        exact hh
      · simp only [hm, decide_false, Bool.not_false, if_true] at hh ⊢
        refine ⟨?_, ?_⟩
        · have hs : (1000 : Nat) < sizeLine := by decide
          have := (l2 o ho).1
          simp; omega
        · simpa [eO] using hh
    · show Qd (.lst _)
      have e : (ordersI n (k + 1)).map (eO g) = (ordersI n k).flatMap fun o => ((List.range n).filter fun i => !decide (i ∈ o)).map fun i => eO g (o ++ [i]) := by
        rw [ordersI, stepI, List.map_flatMap]
        simp only [List.map_map]
        rfl
      rw [e] at hq
      exact hq
  · refine ⟨rfl, ?_⟩
    refine lc2_at (xs := ordersI n k) (enc := eO g) (ys := fun _ => List.range n) (enc1 := eS g) (p := fun o i => !decide (i ∈ o)) (g := fun o i => eO g (o ++ [i])) (m := 4)
        (e2 := fun o => [some (.dat (.lst ((ordersI n k).map (eO g)))), some (.dat (.tup (names g n))), some (.dat (eO g o)), none]) rfl (by omega) (fun o _ => by simp; omega) ?_ ?_ ?_
    · intro o ho Z N hZ
      exact ⟨rfl, iteT (B := N) ⟨rfl, hZ⟩⟩
    · intro o ho i hi Qy Qn hh
      refine ⟨rfl, rfl, pl_Ss o, dep_S i, ?_⟩
      show (if (!inD (eS g i) (o.map (eS g))) = true then _ else Qn)
      rw [in_S hj (by simpa using hi) (l2 o ho).2]
      by_cases hm : i ∈ o
      · simp only [hm, decide_true, Bool.not_true, Bool.false_eq_true, if_false] at hh ⊢
        exact hh
      · simp only [hm, decide_false, Bool.not_false, if_true] at hh ⊢
        refine ⟨?_, ?_⟩
        · have hs : (1000 : Nat) < sizeLine := by decide
          have := (l2 o ho).1
          simp; omega
        · simpa [eO] using hh
    · show Qd (.lst _)
      have e : (ordersI n (k + 1)).map (eO g) = (ordersI n k).flatMap fun o => ((List.range n).filter fun i => !decide (i ∈ o)).map fun i => eO g (o ++ [i]) := by
        rw [ordersI, stepI, List.map_flatMap]
        simp only [List.map_map]
        rfl
      rw [e] at hq
      exact hq
abbrev s_orders_of : Stmt := top 3
abbrev N_orders_of : List Str := ["names", "found", "_"]
theorem sc_orders_of : FnScope N_orders_of ["names"] (defScope s_orders_of) := ⟨rfl, rfl, rfl, by decide +kernel, rfl, by decide +kernel, by decide +kernel⟩
theorem ok_orders_of {f : Addr} {fd : FuncData} (F : Fun K "orders_of" "orders_of" s_orders_of f fd) (T : Txt mg) (hn : n ≤ 4) (hj : Inj g n) (CL : Cal P w K mg base "longer" 1 2 (tfLon g n)) : FnOk P w K mg base CX0 (1 + 1) f fd ["names"] (spD K 1 (tfOrd g n)) := by
  refine fn_D F sc_orders_of rfl fun rg cdv A outer s H E hr => ?_
  have hu := hr.units
  refine ⟨_, _, (dss_cons (ds_setP (DF.p (df_lst (da_cons (d_tup da_nil) da_nil))) (i := 1) sc_orders_of.nd rfl (by first | exact Or.inl rfl | exact Or.inr rfl))
    (dss_cons (ds_for (vs := [2]) PassesOwn.never rfl (di_data (d_var (pv 0))) (dg_name (pg_name (i := 2) sc_orders_of.nd rfl (by first | exact Or.inl rfl | exact Or.inr rfl)) (by decide))
    (dss_one (ds_setP (d_callC CL (hr.mono (by omega)) (by rfl) (da_cons (d_var (pv 1)) (da_cons (d_var (pv 0)) da_nil))) (i := 1) sc_orders_of.nd rfl (by first | exact Or.inl rfl | exact Or.inr rfl))))
    (dss_one (ds_ret (DP.o (d_var (pv 1))))))), fun ds Qd h hl => ?_⟩
  obtain ⟨hd, hq⟩ := h
  rcases hd with rfl | rfl
  · refine ⟨by decide, by decide, Nat.le_of_ble_eq_true rfl, ?_⟩
    refine for_run (xs := List.range n) (enc := eS g) (fun k env' => ∃ x, env' = [some (.dat (.lst (names g n))), some (.dat (.lst ((ordersI n k).map (eO g)))), x] ∧ (x = none ∨ ∃ y, x = some (.dat y))) ⟨none, rfl, .inl rfl⟩ ?_ ?_
    · rintro k z env' hz ⟨x, rfl, hx⟩
      have hk : k < n := by
        have := (List.getElem?_eq_some_iff.mp hz).1
        simpa using this
      exact ⟨by rcases hx with rfl | ⟨y, rfl⟩ <;> rfl, rfl, k, hk, by first | exact .inl rfl | exact .inr rfl, Nat.le_of_ble_eq_true rfl, some (.dat (eS g z)), rfl, .inr ⟨_, rfl⟩⟩
    · rintro env' ⟨x, rfl, hx⟩
      rw [List.length_range]
      exact hq
  · refine ⟨by decide, by decide, Nat.le_of_ble_eq_true rfl, ?_⟩
    refine for_run (xs := List.range n) (enc := eS g) (fun k env' => ∃ x, env' = [some (.dat (.tup (names g n))), some (.dat (.lst ((ordersI n k).map (eO g)))), x] ∧ (x = none ∨ ∃ y, x = some (.dat y))) ⟨none, rfl, .inl rfl⟩ ?_ ?_
    · rintro k z env' hz ⟨x, rfl, hx⟩
      have hk : k < n := by
        have := (List.getElem?_eq_some_iff.mp hz).1
        simpa using this
      exact ⟨by rcases hx with rfl | ⟨y, rfl⟩ <;> rfl, rfl, k, hk, by first | exact .inl rfl | exact .inr rfl, Nat.le_of_ble_eq_true rfl, some (.dat (eS g z)), rfl, .inr ⟨_, rfl⟩⟩
    · rintro env' ⟨x, rfl, hx⟩
      rw [List.length_range]
      exact hq
abbrev s_covering : Stmt := top 5
abbrev N_covering : List Str := ["pairs", "orders", "count", "least", "useful", "order", "held", "rest", "pair"]
theorem sc_covering : FnScope N_covering ["pairs", "orders", "count"] (defScope s_covering) := ⟨rfl, rfl, rfl, by decide +kernel, rfl, by decide +kernel, by decide +kernel⟩
theorem ok_covering {f : Addr} {fd : FuncData} (F : Fun K "covering" "covering" s_covering f fd) (T : Txt mg) (hn : n ≤ 4) (hj : Inj g n) {c : Nat} (hc : c ≤ 4) (CH : Cal P w K mg base "held_by" 1 2 (tfHeld g n)) (CC : Cal P w K mg base "covering" (c+1) 3 (tfPre g n c)) : FnOk P w K mg base CX0 ((c+1) + 1) f fd ["pairs", "orders", "count"] (spD K 3 (tfCov g n c)) := by
  refine fn_D F sc_covering rfl fun rg cdv A outer s H E hr => ?_
  have hu := hr.units
  refine ⟨_, _, (dss_cons (ds_if (dt_not (dt_truth (DP.o (d_var (pv 0))))) (dss_one (ds_ret (DP.o (DF.p (df_lst da_nil))))) dss_nil)
    (dss_cons (ds_if (dt_cmp (op_eqP (by exact hu)) opd_eq (DP.o (d_var (pv 2))) (DP.o d_int) (nomark _)) (dss_one (ds_ret (DP.o d_non))) dss_nil)
    (dss_cons (ds_setP (d_op op_sub opd_int0 (DP.o (d_callB cl_len cad_len (by rfl) T.len (by decide +kernel) (dao_cons (DP.o (d_var (pv 0))) dao_nil))) (DP.o (d_op op_mul opd_int (DP.o (d_op op_sub opd_int0 (DP.o (d_var (pv 2))) (DP.o d_int))) (DP.o (d_op op_sub opd_int0 (DP.o (d_callB cl_len cad_len (by rfl) T.len (by decide +kernel) (dao_cons (DP.o (d_ix (DP.o (d_var (pv 1))) (DP.o d_int))) dao_nil))) (DP.o d_int)))))) (i := 3) sc_covering.nd rfl (by first | exact Or.inl rfl | exact Or.inr rfl))
    (dss_cons (ds_setLc (i := 4) (own := [("order", 5)]) rfl sc_covering.nd rfl rfl (sw_true rfl rfl rfl (by decide +kernel)) (blkOk_by (N := N_covering) (sc := (defScope s_covering)) (by decide +kernel)) (di_op (DP.o (d_var (pv 1)))) (fun _ _ _ _ _ => by exact (dg_name (pg_name (i := 5) sc_covering.nd rfl (by first | exact Or.inl rfl | exact Or.inr rfl)) (by decide))) (fun _ _ _ _ _ => by exact (dts_one (dt_cmp op_ge opd_cmpI (DP.o (d_callB cl_len cad_len (by rfl) T.len (by decide +kernel) (dao_cons (DP.o (d_callC CH (hr.mono (by omega)) (by rfl) (da_cons (d_var (pv 5)) (da_cons (d_var (pv 0)) da_nil)))) dao_nil))) (DP.o (d_var (pv 3))) (nomark _)))) (fun _ _ _ _ _ => by exact (d_var (pv 5))))
    (dss_cons (ds_for (vs := [5]) PassesOwn.never rfl (di_data (d_var (pv 4))) (dg_name (pg_name (i := 5) sc_covering.nd rfl (by first | exact Or.inl rfl | exact Or.inr rfl)) (by decide))
    (dss_cons (ds_setP (d_callC CH (hr.mono (by omega)) (by rfl) (da_cons (d_var (pv 5)) (da_cons (d_var (pv 0)) da_nil))) (i := 6) sc_covering.nd rfl (by first | exact Or.inl rfl | exact Or.inr rfl))
    (dss_one (ds_if (dt_cmp (op_inP (by exact hu)) (opd_in false) (DP.o (d_ix (DP.o (d_var (pv 0))) (DP.o d_int))) (DP.o (d_var (pv 6))) (by rfl)) (dss_cons (ds_setP (d_callC CC (hr.mono (by omega)) (by rfl) (da_cons (DF.p (df_lc (own := [("pair", 8)]) rfl sc_covering.nd (blkOk_by (N := N_covering) (sc := (defScope s_covering)) (by decide +kernel)) (di_op (DP.o (d_var (pv 0)))) (fun _ _ _ _ _ => by exact (dg_name (pg_name (i := 8) sc_covering.nd rfl (by first | exact Or.inl rfl | exact Or.inr rfl)) (by decide))) (fun _ _ _ _ _ => by exact (dts_one (dt_cmp (op_notInP (by exact hu)) (opd_in true) (DP.o (d_var (pv 8))) (DP.o (d_var (pv 6))) (by rfl)))) (fun _ _ _ _ _ => by exact (d_var (pv 8))))) (da_cons (d_var (pv 4)) (da_cons (d_op op_sub opd_int0 (DP.o (d_var (pv 2))) (DP.o d_int)) da_nil)))) (i := 7) sc_covering.nd rfl (by first | exact Or.inl rfl | exact Or.inr rfl))
    (dss_one (ds_if (dt_cmp op_notN opd_notN (DP.o (d_var (pv 7))) (DP.o d_non) (nomark _)) (dss_one (ds_ret (DP.o (DF.p (df_lst (da_cons (d_var (pv 5)) (da_star (DP.o (d_var (pv 7))) da_nil))))))) dss_nil))) dss_nil))))
    (dss_one (ds_ret (DP.o d_non)))))))), fun ds Qd h hl => ?_⟩
  obtain ⟨ps, os, rfl, pp, oo, ne, hq⟩ := h
  obtain ⟨o0, os', rfl⟩ := List.exists_cons_of_ne_nil ne
  cases ps with
  | nil =>
    have e : coverI n c [] (o0 :: os') = some [] := by cases c <;> rfl
    rw [e] at hq
    exact ⟨by decide, hq⟩
  | cons p ps =>
    refine ⟨rfl, rfl, by simp [toPy, PyData.depth], ?_⟩
    show (if deq (.int (c : Nat)) (.int 0) = true then _ else _)
    rw [deq_int]
    cases c with
    | zero => exact hq
    | succ c =>
    have h0 : (((c + 1 : Nat) : Int) == 0) = false := by simp; omega
    rw [h0]
    refine ⟨eO g o0, atI_nat (j := 0) rfl, .inl ⟨by omega, by omega⟩, Nat.le_of_ble_eq_true rfl, rfl, ?_⟩
    have len0 : (o0.map (eS g)).length = n := by rw [List.length_map]; exact (oo.2 o0 (by simp)).1
    have hU : ((o0 :: os').filter fun o => decide (((((p :: ps).map (eP g)).length : Nat) : Int) - (((c + 1 : Nat) : Int) - 1) * ((((o0.map (eS g)).length : Nat) : Int) - 1) ≤ ((((heldI o (p :: ps)).map (eP g)).length : Nat) : Int))) = usefulI n c (p :: ps) (o0 :: os') := by
      rw [len0]
      unfold usefulI
      simp only [List.length_map]
    have l1 := oo.1
    refine lc_at (xs := o0 :: os') (enc := eO g) (p := fun o => decide (((((p :: ps).map (eP g)).length : Nat) : Int) - (((c + 1 : Nat) : Int) - 1) * ((((o0.map (eS g)).length : Nat) : Int) - 1) ≤ ((((heldI o (p :: ps)).map (eP g)).length : Nat) : Int))) (g := eO g) rfl (by omega) ?_ ?_
    · intro o ho Qy Qn hh
      exact ⟨rfl, rfl, o, p :: ps, rfl, oo.2 o ho, pp, hh⟩
    rw [hU]
    have uo : ∀ o ∈ usefulI n c (p :: ps) (o0 :: os'), OOk n o := fun o ho => oo.2 o (List.mem_filter.mp ho).1
    have ul : (usefulI n c (p :: ps) (o0 :: os')).length ≤ 24 := Nat.le_trans (List.length_filter_le _ _) l1
    have hq2 : Qd (eR g (loopI (fun o => if decide (p ∈ heldI o (p :: ps)) then (coverI n c ((p :: ps).filter fun q => !decide (q ∈ heldI o (p :: ps))) (usefulI n c (p :: ps) (o0 :: os'))).map (o :: ·) else none) (usefulI n c (p :: ps) (o0 :: os')))) := hq
    generalize usefulI n c (p :: ps) (o0 :: os') = us at uo ul hq2
    refine ⟨Nat.le_of_ble_eq_true rfl, ?_⟩
    refine for_run (xs := us) (enc := eO g) (fun k env' => loopI (fun o => if decide (p ∈ heldI o (p :: ps)) then (coverI n c ((p :: ps).filter fun q => !decide (q ∈ heldI o (p :: ps))) us).map (o :: ·) else none) (us.take k) = none ∧
      ∃ L x5 x6 x7, env' = [some (.dat (.lst ((p :: ps).map (eP g)))), some (.dat (.lst ((o0 :: os').map (eO g)))), some (.dat (.int ((c + 1 : Nat) : Int))), some (.dat (.int L)), some (.dat (.lst (us.map (eO g)))), x5, x6, x7, none] ∧ FreeS x5 ∧ FreeS x6 ∧ FreeS x7) ⟨rfl, _, none, none, none, rfl, .inl rfl, .inl rfl, .inl rfl⟩ ?_ ?_
    · rintro k o env' hk ⟨hn', L, x5, x6, x7, rfl, f5, f6, f7⟩
      have mo : o ∈ us := List.mem_of_getElem? hk
      have ek : us.take (k + 1) = us.take k ++ [o] := by rw [List.take_succ, hk]; rfl
      have bq : ∀ q ∈ heldI o (p :: ps), q.1 < n ∧ q.2 < n := fun q hq => by
        have h1 := (List.mem_filter.mp hq).2
        exact pp.2 q (by simpa using h1)
      refine ⟨by rcases f5 with rfl | ⟨y, rfl⟩ <;> rfl, rfl, o, p :: ps, rfl, uo o mo, pp, Nat.le_of_ble_eq_true rfl, eP g p, atI_nat (j := 0) rfl, rfl, pl_Ps _, dep_P _, ?_⟩
      show (if inD (eP g p) ((heldI o (p :: ps)).map (eP g)) = true then _ else _)
      rw [in_P hj (pp.2 p (by simp)) bq]
      by_cases hm : p ∈ heldI o (p :: ps)
      · rw [decide_eq_true hm]
        refine ⟨rfl, ?_⟩
        refine lc_at (xs := p :: ps) (enc := eP g) (p := fun q => !decide (q ∈ heldI o (p :: ps))) (g := eP g) rfl (by have := pp.1; omega) ?_ ?_
        · intro q hq' Qy Qn hh
          refine ⟨rfl, rfl, pl_Ps _, dep_P _, ?_⟩
          show (if (!inD (eP g q) ((heldI o (p :: ps)).map (eP g))) = true then _ else _)
          rw [in_P hj (pp.2 q hq') bq]
          exact hh
        · have le2 : ((p :: ps).filter fun q => !decide (q ∈ heldI o (p :: ps))).length ≤ 16 := Nat.le_trans (List.length_filter_le _ _) pp.1
          refine ⟨rfl, (p :: ps).filter fun q => !decide (q ∈ heldI o (p :: ps)), us, ?_, ⟨le2, fun q hq => pp.2 q (List.mem_filter.mp hq).1⟩, ⟨ul, uo⟩, List.ne_nil_of_mem mo, Nat.le_of_ble_eq_true rfl, ?_⟩
          · show [_, _, D.int (((c + 1 : Nat) : Int) - 1)] = [_, _, D.int (c : Int)]
            rw [show (((c + 1 : Nat) : Int) - 1) = (c : Int) by omega]
          cases hc2 : coverI n c ((p :: ps).filter fun q => !decide (q ∈ heldI o (p :: ps))) us with
          | none =>
            refine ⟨?_, L, _, _, _, rfl, .inr ⟨_, rfl⟩, .inr ⟨_, rfl⟩, .inr ⟨_, rfl⟩⟩
            rw [ek]
            exact loop_none hn' (by rw [decide_eq_true hm]; simp [hc2])
          | some r =>
            have eu : us = us.take k ++ o :: us.drop (k + 1) := by
              have h1 := List.getElem?_eq_some_iff.mp hk
              obtain ⟨h2, h3⟩ := h1
              rw [← h3, List.getElem_cons_drop, List.take_append_drop]
            have hl2 := loop_some (vs := us.drop (k + 1)) (o := o) (r := o :: r) hn' (by rw [decide_eq_true hm]; simp [hc2])
            rw [← eu] at hl2
            rw [hl2] at hq2
            refine ⟨?_, ?_⟩
            · have hs : (1000 : Nat) < sizeLine := by decide
              have := cover_len hc2
              simp; omega
            · have e : eO g o :: (r.map (eO g) ++ []) = (o :: r).map (eO g) := by simp
              show Qd (.lst (eO g o :: (r.map (eO g) ++ [])))
              rw [e]; exact hq2
      · rw [decide_eq_false hm]
        refine ⟨?_, L, _, _, x7, rfl, .inr ⟨_, rfl⟩, .inr ⟨_, rfl⟩, f7⟩
        rw [ek]
        exact loop_none hn' (by rw [decide_eq_false hm]; rfl)
    · rintro env' ⟨hn', L, x5, x6, x7, rfl, f5, f6, f7⟩
      rw [List.take_length] at hn'
      rw [hn'] at hq2
      exact hq2
abbrev s_near : Stmt := top 6
abbrev N_near : List Str := ["names", "pairs", "orders", "count", "found", "one", "other"]
theorem sc_near : FnScope N_near ["names"] (defScope s_near) := ⟨rfl, rfl, rfl, by decide +kernel, rfl, by decide +kernel, by decide +kernel⟩
theorem ok_near {f : Addr} {fd : FuncData} (F : Fun K "near" "near" s_near f fd) (T : Txt mg) (h1 : 1 ≤ n) (hn : n ≤ 4) (hj : Inj g n) (CO : Cal P w K mg base "orders_of" 2 1 (tfOrd g n)) (CC : Cal P w K mg base "covering" 6 3 (tfCovs g n)) : FnOk P w K mg base CX0 (6 + 1) f fd ["names"] (spD K 1 (tfNear g n)) := by
  refine fn_D F sc_near rfl fun rg cdv A outer s H E hr => ?_
  have hu := hr.units
  refine ⟨_, _, (dss_cons (ds_setLc2 (i := 1) (own := [("one", 5), ("other", 6)]) (vs1 := [6]) rfl sc_near.nd rfl rfl (sw_true rfl rfl rfl (by decide +kernel)) (blkOk_by (N := N_near) (sc := (defScope s_near)) (by decide +kernel)) (by decide) (di_op (DP.o (d_var (pv 0)))) (fun _ _ _ _ _ => by exact (dg_name (pg_name (i := 5) sc_near.nd rfl (by first | exact Or.inl rfl | exact Or.inr rfl)) (by decide))) (fun _ _ _ _ _ => by exact dts_nil) (fun _ _ _ _ _ => by exact (di_op (DP.o (d_var (pv 0))))) (fun _ _ _ _ _ => by exact (dg_name (pg_name (i := 6) sc_near.nd rfl (by first | exact Or.inl rfl | exact Or.inr rfl)) (by decide))) (fun _ _ _ _ _ => by exact (dts_one (dt_cmp (op_neP (by exact hu)) opd_ne (DP.o (d_var (pv 5))) (DP.o (d_var (pv 6))) (nomark _)))) (fun _ _ _ _ _ => by exact (d_tup (da_cons (d_var (pv 5)) (da_cons (d_var (pv 6)) da_nil)))))
    (dss_cons (ds_setP (d_callC CO (hr.mono (by omega)) (by rfl) (da_cons (d_var (pv 0)) da_nil)) (i := 2) sc_near.nd rfl (by first | exact Or.inl rfl | exact Or.inr rfl))
    (dss_cons (ds_setP d_int (i := 3) sc_near.nd rfl (by first | exact Or.inl rfl | exact Or.inr rfl))
    (dss_cons (ds_setP (d_callC CC (hr.mono (by omega)) (by rfl) (da_cons (d_var (pv 1)) (da_cons (d_var (pv 2)) (da_cons (d_var (pv 3)) da_nil)))) (i := 4) sc_near.nd rfl (by first | exact Or.inl rfl | exact Or.inr rfl))
    (dss_cons (ds_while PassesOwn.never (dt_cmp op_isN opd_isN (DP.o (d_var (pv 4))) (DP.o d_non) (nomark _)) (dss_cons (ds_augP d_int ip_add (i := 3) sc_near.nd rfl (by first | exact Or.inl rfl | exact Or.inr rfl))
    (dss_one (ds_setP (d_callC CC (hr.mono (by omega)) (by rfl) (da_cons (d_var (pv 1)) (da_cons (d_var (pv 2)) (da_cons (d_var (pv 3)) da_nil)))) (i := 4) sc_near.nd rfl (by first | exact Or.inl rfl | exact Or.inr rfl)))))
    (dss_one (ds_ret (DP.o (d_callTy cl_tuple cad_tuple (by rfl) T.tuple (by decide +kernel) (dao_cons (DP.o (d_var (pv 4))) dao_nil)))))))))), fun ds Qd h hl => ?_⟩
  obtain ⟨hd, hq⟩ := h
  rcases hd with rfl | rfl
  · refine ⟨rfl, ?_⟩
    refine lc2_at (xs := List.range n) (enc := eS g) (ys := fun _ => List.range n) (enc1 := eS g) (p := fun i j => i != j) (g := fun i j => eP g (i, j)) (m := 4)
      (e2 := fun i => [some (.dat (.lst (names g n))), none, none, none, none, some (.dat (eS g i)), none]) rfl (by simp; omega) (fun o _ => by simp; omega) ?_ ?_ ?_
    · intro i hi Z N hZ
      exact ⟨rfl, iteT (B := N) ⟨rfl, hZ⟩⟩
    · intro i hi j hj' Qy Qn hh
      refine ⟨rfl, rfl, rfl, by simp [eS, toPy, PyData.depth], ?_⟩
      show (if (!deq (eS g i) (eS g j)) = true then _ else Qn)
      rw [deq_S hj (by simpa using hi) (by simpa using hj')]
      by_cases hm : (i != j) = true
      · rw [if_pos hm] at hh
        rw [if_pos (show (!(i == j)) = true from hm)]
        exact ⟨by show 2 ≤ sizeLine; decide, hh⟩
      · rw [if_neg hm] at hh
        rw [if_neg (show ¬ (!(i == j)) = true from hm)]
        exact hh
    have ep : ((List.range n).flatMap fun i => ((List.range n).filter fun j => i != j).map fun j => eP g (i, j)) = (pairsI n).map (eP g) := by
      rw [pairsI, List.map_flatMap]
      simp only [List.map_map]
      rfl
    rw [ep]
    refine ⟨Nat.le_of_ble_eq_true rfl, rfl, .inl rfl, Nat.le_of_ble_eq_true rfl, Nat.le_of_ble_eq_true rfl, rfl, 0, by omega, pairsI n, ofI n, rfl, pairsI_ok hn, (ofI_ok hn).1, (ofI_ok hn).2, Nat.le_of_ble_eq_true rfl, ?_⟩
    obtain ⟨w1, w2, w3⟩ := low_facts h1 hn
    refine ⟨fun m env' => ∃ c : Nat, c ≤ cMin n ∧ m = cMin n - c ∧ env' = [some (.dat (.lst (names g n))), some (.dat (.lst ((pairsI n).map (eP g)))), some (.dat (.lst ((ofI n).map (eO g)))), some (.dat (.int ((c : Nat) : Int))), some (.dat (eR g (coverI n c (pairsI n) (ofI n)))), none, none], ⟨_, 0, Nat.zero_le _, rfl, rfl⟩, ?_⟩
    rintro m env' ⟨c, hc, rfl, rfl⟩
    by_cases hlt : c < cMin n
    · rw [w1 c hlt]
      refine ⟨rfl, c + 1, by omega, pairsI n, ofI n, rfl, pairsI_ok hn, (ofI_ok hn).1, (ofI_ok hn).2, Nat.le_of_ble_eq_true rfl, cMin n - (c + 1), by omega, c + 1, by omega, rfl, rfl⟩
    · have e : c = cMin n := by omega
      subst e
      rw [w2]
      exact hq
  · refine ⟨rfl, ?_⟩
    refine lc2_at (xs := List.range n) (enc := eS g) (ys := fun _ => List.range n) (enc1 := eS g) (p := fun i j => i != j) (g := fun i j => eP g (i, j)) (m := 4)
      (e2 := fun i => [some (.dat (.tup (names g n))), none, none, none, none, some (.dat (eS g i)), none]) rfl (by simp; omega) (fun o _ => by simp; omega) ?_ ?_ ?_
    · intro i hi Z N hZ
      exact ⟨rfl, iteT (B := N) ⟨rfl, hZ⟩⟩
    · intro i hi j hj' Qy Qn hh
      refine ⟨rfl, rfl, rfl, by simp [eS, toPy, PyData.depth], ?_⟩
      show (if (!deq (eS g i) (eS g j)) = true then _ else Qn)
      rw [deq_S hj (by simpa using hi) (by simpa using hj')]
      by_cases hm : (i != j) = true
      · rw [if_pos hm] at hh
        rw [if_pos (show (!(i == j)) = true from hm)]
        exact ⟨by show 2 ≤ sizeLine; decide, hh⟩
      · rw [if_neg hm] at hh
        rw [if_neg (show ¬ (!(i == j)) = true from hm)]
        exact hh
    have ep : ((List.range n).flatMap fun i => ((List.range n).filter fun j => i != j).map fun j => eP g (i, j)) = (pairsI n).map (eP g) := by
      rw [pairsI, List.map_flatMap]
      simp only [List.map_map]
      rfl
    rw [ep]
    refine ⟨Nat.le_of_ble_eq_true rfl, rfl, .inr rfl, Nat.le_of_ble_eq_true rfl, Nat.le_of_ble_eq_true rfl, rfl, 0, by omega, pairsI n, ofI n, rfl, pairsI_ok hn, (ofI_ok hn).1, (ofI_ok hn).2, Nat.le_of_ble_eq_true rfl, ?_⟩
    obtain ⟨w1, w2, w3⟩ := low_facts h1 hn
    refine ⟨fun m env' => ∃ c : Nat, c ≤ cMin n ∧ m = cMin n - c ∧ env' = [some (.dat (.tup (names g n))), some (.dat (.lst ((pairsI n).map (eP g)))), some (.dat (.lst ((ofI n).map (eO g)))), some (.dat (.int ((c : Nat) : Int))), some (.dat (eR g (coverI n c (pairsI n) (ofI n)))), none, none], ⟨_, 0, Nat.zero_le _, rfl, rfl⟩, ?_⟩
    rintro m env' ⟨c, hc, rfl, rfl⟩
    by_cases hlt : c < cMin n
    · rw [w1 c hlt]
      refine ⟨rfl, c + 1, by omega, pairsI n, ofI n, rfl, pairsI_ok hn, (ofI_ok hn).1, (ofI_ok hn).2, Nat.le_of_ble_eq_true rfl, cMin n - (c + 1), by omega, c + 1, by omega, rfl, rfl⟩
    · have e : c = cMin n := by omega
      subst e
      rw [w2]
      exact hq

abbrev s__law_is_near : Stmt := top 12
abbrev N__law_is_near : List Str := ["_law_called", "_law_told", "_law_pairs", "_law_order", "_law_one", "_law_word", "_law_other"]
theorem sc__law_is_near : FnScope N__law_is_near ["_law_called", "_law_told"] (defScope s__law_is_near) := ⟨rfl, rfl, rfl, by decide +kernel, rfl, by decide +kernel, by decide +kernel⟩
theorem ok_law_is_near {f : Addr} {fd : FuncData} (F : Fun K "_law_is_near" "_law_is_near" s__law_is_near f fd) (T : Txt mg) (h1 : 1 ≤ n) (hn : n ≤ 4) (hj : Inj g n) : FnOk P w K mg base CX0 (0 + 1) f fd ["_law_called", "_law_told"] (spD K 2 (tfIsNear g n)) := by
  refine fn_D F sc__law_is_near rfl fun rg cdv A outer s H E hr => ?_
  have hu := hr.units
  refine ⟨_, _, (dss_cons (ds_if (DW.dt (dw_or (dt_not (dt_val (d_isi (T := "tuple") (by rfl) T.isinstance (by rfl) T.tuple (by decide +kernel) (DP.o (d_var (pv 1)))))) (dw_or1 (dt_cmp (op_neP (by exact hu)) opd_ne (DP.o (d_callB cl_len cad_len (by rfl) T.len (by decide +kernel) (dao_cons (DP.o (d_var (pv 1))) dao_nil))) (DP.o (d_ix (DP.o (DF.p (df_lst (da_cons d_int (da_cons d_int (da_cons d_int (da_cons d_int (da_cons d_int da_nil)))))))) (DP.o (d_callB cl_len cad_len (by rfl) T.len (by decide +kernel) (dao_cons (DP.o (d_var (pv 0))) dao_nil))))) (nomark _))))) (dss_one (ds_ret (DP.o d_bl))) dss_nil)
    (dss_cons (ds_setFO (df_lst da_nil) (i := 2) sc__law_is_near.nd rfl (by first | exact Or.inl rfl | exact Or.inr rfl))
    (dss_cons (ds_for (vs := [3]) PassesOwn.never rfl (di_data (d_var (pv 1))) (dg_name (pg_name (i := 3) sc__law_is_near.nd rfl (by first | exact Or.inl rfl | exact Or.inr rfl)) (by decide))
    (dss_cons (ds_if (DW.dt (dw_or (dt_not (dt_val (d_isi (T := "tuple") (by rfl) T.isinstance (by rfl) T.tuple (by decide +kernel) (DP.o (d_var (pv 3)))))) (dw_or1 (dt_cmp (op_neP (by exact hu)) opd_ne (DP.o (d_callB cl_len cad_len (by rfl) T.len (by decide +kernel) (dao_cons (DP.o (d_var (pv 3))) dao_nil))) (DP.o (d_callB cl_len cad_len (by rfl) T.len (by decide +kernel) (dao_cons (DP.o (d_var (pv 0))) dao_nil))) (nomark _))))) (dss_one (ds_ret (DP.o d_bl))) dss_nil)
    (dss_cons (ds_if (dt_cmp (op_neP (by exact hu)) opd_ne (DP.o (DF.p (df_lc (own := [("_law_word", 5)]) rfl sc__law_is_near.nd (blkOk_by (N := N__law_is_near) (sc := (defScope s__law_is_near)) (by decide +kernel)) (di_op (DP.o (d_var (pv 0)))) (fun _ _ _ _ _ => by exact (dg_name (pg_name (i := 5) sc__law_is_near.nd rfl (by first | exact Or.inl rfl | exact Or.inr rfl)) (by decide))) (fun _ _ _ _ _ => by exact (dts_one (dt_cmp (op_notInP (by exact hu)) (opd_in true) (DP.o (d_var (pv 5))) (DP.o (d_var (pv 3))) (by rfl)))) (fun _ _ _ _ _ => by exact (d_var (pv 5)))))) (DP.o (DF.p (df_lst da_nil))) (nomark _)) (dss_one (ds_ret (DP.o d_bl))) dss_nil)
    (dss_one (ds_extP (i := 2) (pv 2) (DF.p (df_listzip (by rfl) T.list (by rfl) T.zip rfl (dao_cons (DP.o (d_var (pv 3))) (dao_cons (DP.o (d_slice (DP.o (d_var (pv 3))) (dpo_some d_int) dpo_none)) dao_nil)))))))))
    (dss_cons (ds_for (vs := [4]) PassesOwn.never rfl (di_data (d_var (pv 0))) (dg_name (pg_name (i := 4) sc__law_is_near.nd rfl (by first | exact Or.inl rfl | exact Or.inr rfl)) (by decide))
    (dss_one (ds_if (dt_cmp (op_neP (by exact hu)) opd_ne (DP.o (DF.p (df_lc (own := [("_law_other", 6)]) rfl sc__law_is_near.nd (blkOk_by (N := N__law_is_near) (sc := (defScope s__law_is_near)) (by decide +kernel)) (di_op (DP.o (d_var (pv 0)))) (fun _ _ _ _ _ => by exact (dg_name (pg_name (i := 6) sc__law_is_near.nd rfl (by first | exact Or.inl rfl | exact Or.inr rfl)) (by decide))) (fun _ _ _ _ _ => by exact (dts_one (DW.dt (dw_and (dt_cmp (op_neP (by exact hu)) opd_ne (DP.o (d_var (pv 6))) (DP.o (d_var (pv 4))) (nomark _)) (dw_and1 (dt_cmp (op_notInP (by exact hu)) (opd_in true) (DP.o (d_tup (da_cons (d_var (pv 4)) (da_cons (d_var (pv 6)) da_nil)))) (do_var (pv 2)) (by rfl))))))) (fun _ _ _ _ _ => by exact (d_var (pv 6)))))) (DP.o (DF.p (df_lst da_nil))) (nomark _)) (dss_one (ds_ret (DP.o d_bl))) dss_nil)))
    (dss_one (ds_ret (DP.o d_bl))))))), fun ds Qd h hl => ?_⟩
  obtain ⟨rfl, hq⟩ := h
  obtain ⟨⟨w, w1, w4, w2⟩, f1, f2, f3, f4⟩ := want_facts h1 hn
  have ln : (names g n).length = n := by simp [names]
  have i0 : atI ([.int 0, .int 0, .int 2, .int 4, .int 4] : List D) (((names g n).length : Nat) : Int) = some (.int (w : Nat)) := by rw [ln]; exact atI_nat w2
  have hz : (1000 : Nat) < sizeLine := by decide
  have e1 : deq (.int ((((nearI n).map (eO g)).length : Nat) : Int)) (.int (w : Nat)) = true := by rw [deq_int, List.length_map, w1]; simp
  refine ⟨"tuple", true, rfl, by decide +kernel, by show 5 ≤ sizeLine; decide, _, i0, rfl, rfl, by simp [toPy, PyData.depth], ?_⟩
  show (if (!deq (.int ((((nearI n).map (eO g)).length : Nat) : Int)) (.int (w : Nat))) = true then _ else _)
  rw [e1]
  refine ⟨by decide, Nat.le_of_ble_eq_true rfl, fun a => ?_⟩
  refine for_run (xs := nearI n) (enc := eO g) (fun k env' => ∃ x3, env' = [some (.dat (.lst (names g n))), some (.dat (.tup ((nearI n).map (eO g)))), some (.own a ((zipsI ((nearI n).take k)).map (eP g))), x3, none, none, none] ∧ FreeS x3) ⟨none, rfl, .inl rfl⟩ ?_ ?_
  · rintro k o env' hk ⟨x3, rfl, f⟩
    have mo : o ∈ nearI n := List.mem_of_getElem? hk
    have hk4 : k ≤ 4 := by
      have := (List.getElem?_eq_some_iff.mp hk).1
      omega
    have ek : (nearI n).take (k + 1) = (nearI n).take k ++ [o] := by rw [List.take_succ, hk]; rfl
    have e2 : deq (.int (((o.map (eS g)).length : Nat) : Int)) (.int (((names g n).length : Nat) : Int)) = true := by rw [deq_int, List.length_map, ln, (f1 o mo).1]; simp
    refine ⟨by rcases f with rfl | ⟨y, rfl⟩ <;> rfl, "tuple", true, rfl, by decide +kernel, rfl, rfl, by simp [toPy, PyData.depth], ?_⟩
    show (if (!deq (.int (((o.map (eS g)).length : Nat) : Int)) (.int (((names g n).length : Nat) : Int))) = true then _ else _)
    rw [e2]
    refine ⟨rfl, ?_⟩
    refine lc_at (xs := List.range n) (enc := eS g) (p := fun i => !decide (i ∈ o)) (g := eS g) rfl (by simp; omega) ?_ ?_
    · intro i hi Qy Qn hh
      refine ⟨rfl, rfl, pl_Ss o, dep_S i, ?_⟩
      show (if (!inD (eS g i) (o.map (eS g))) = true then _ else Qn)
      rw [in_S hj (by simpa using hi) (f1 o mo).2.2]
      exact hh
    have e3 : ((List.range n).filter fun i => !decide (i ∈ o)) = [] := by
      rw [List.filter_eq_nil_iff]
      intro i hi
      have := (f1 o mo).2.1 i (by simpa using hi)
      simp [this]
    rw [e3]
    refine ⟨by decide, rfl, rfl, Nat.le_trans (Nat.min_le_right _ _) (by decide), ?_⟩
    show (if (!deq (.lst []) (.lst [])) = true then _ else _)
    rw [deq_nil]
    have e4 : (zipsI ((nearI n).take k)).map (eP g) ++ pairD (o.map (eS g)) (cutD (o.map (eS g)) (some 1) none) = (zipsI ((nearI n).take (k + 1))).map (eP g) := by
      have e5 : cutD (o.map (eS g)) (some 1) none = (o.map (eS g)).drop 1 := cut_from (k := 1)
      rw [e5, pairs_eq, ek, zipsI, zipsI, List.flatMap_append, List.map_append]
      simp
    refine ⟨?_, ?_, ?_⟩
    · show (o.map (eS g)).length ≤ sizeLine
      have := (f1 o mo).1
      rw [List.length_map]; omega
    · show ((zipsI ((nearI n).take k)).map (eP g)).length + (pairD (o.map (eS g)) (cutD (o.map (eS g)) (some 1) none)).length ≤ sizeLine
      have h0 := f3 k hk4
      have := (f1 o mo).1
      rw [List.length_map, pairD_length, List.length_map]; omega
    · refine ⟨some (.dat (eO g o)), ?_, .inr ⟨_, rfl⟩⟩
      show [_, _, some (Sl.own a ((zipsI ((nearI n).take k)).map (eP g) ++ pairD (o.map (eS g)) (cutD (o.map (eS g)) (some 1) none))), _, _, _, _] = _
      rw [e4]
  · rintro env' ⟨x3, rfl, f⟩
    rw [List.take_length]
    refine for_run (xs := List.range n) (enc := eS g) (fun k env' => ∃ x4, env' = [some (.dat (.lst (names g n))), some (.dat (.tup ((nearI n).map (eO g)))), some (.own a ((zipsI (nearI n)).map (eP g))), x3, x4, none, none] ∧ FreeS x4) ⟨none, rfl, .inl rfl⟩ ?_ ?_
    · rintro k i env' hk ⟨x4, rfl, f'⟩
      have hi : i < n := by
        have := List.mem_of_getElem? hk
        simpa using this
      refine ⟨by rcases f' with rfl | ⟨y, rfl⟩ <;> rfl, rfl, ?_⟩
      refine lc_at (xs := List.range n) (enc := eS g) (p := fun j => j != i && !decide ((i, j) ∈ zipsI (nearI n))) (g := eS g) rfl (by simp; omega) ?_ ?_
      · intro j hj' Qy Qn hh
        have hj2 : j < n := by simpa using hj'
        refine ⟨rfl, rfl, rfl, by simp [eS, toPy, PyData.depth], ?_⟩
        show (if (!deq (eS g j) (eS g i)) = true then _ else _)
        rw [deq_S hj hj2 hi]
        by_cases hm : j = i
        · subst hm
          have e0 : (!(j == j)) = false := by simp
          rw [e0]
          simp only [bne_self_eq_false, Bool.false_and, Bool.false_eq_true, if_false] at hh
          exact hh
        · have e0 : (!(j == i)) = true := by simp [hm]
          have e0' : (j != i) = true := e0
          rw [e0]
          simp only [e0', Bool.true_and] at hh
          refine ⟨by show 2 ≤ sizeLine; decide, rfl, pl_Ps _, dep_P (f := g) (i, j), ?_⟩
          show (if (!inD (eP g (i, j)) ((zipsI (nearI n)).map (eP g))) = true then _ else _)
          rw [in_P hj ⟨hi, hj2⟩ f4]
          exact hh
      have e3 : ((List.range n).filter fun j => j != i && !decide ((i, j) ∈ zipsI (nearI n))) = [] := by
        rw [List.filter_eq_nil_iff]
        intro j hj'
        rcases f2 i hi j (by simpa using hj') with rfl | h
        · simp
        · simp [h]
      rw [e3]
      refine ⟨by decide, rfl, rfl, Nat.le_trans (Nat.min_le_right _ _) (by decide), ?_⟩
      show (if (!deq (.lst []) (.lst [])) = true then _ else _)
      rw [deq_nil]
      exact ⟨_, rfl, .inr ⟨_, rfl⟩⟩
    · rintro env' ⟨x4, rfl, f'⟩
      exact hq
end
end K44
namespace K44
open PySem L2 DL
section
variable {P : Program} {w : World} {K : PySem.W.Frag} {mg : Str → Option Value} {base : Heap}
theorem isPls_iff : ∀ {ds : List D}, isPls ds = true ↔ ∀ d ∈ ds, isPl d = true
  | [] => by simp [isPls]
  | d :: ds => by simp [isPls, isPls_iff (ds := ds)]
def tfMixed : Tfs := fun rg ds Q => ∃ a g xs, rg = dealRg a g ∧ ds = [.raw (.ref a), .lst xs] ∧ xs.length < 64 ∧ isPls xs = true ∧ ∀ ys : List D, ys.Perm xs → Q ys

abbrev s__law_mixed : Stmt := top 10
abbrev N__law_mixed : List Str := ["_law_deal_here", "_law_some", "_law_left", "_law_found"]
theorem sc__law_mixed : FnScope N__law_mixed ["_law_deal_here", "_law_some"] (defScope s__law_mixed) := ⟨rfl, rfl, rfl, by decide +kernel, rfl, by decide +kernel, by decide +kernel⟩
theorem ok_law_mixed {f : Addr} {fd : FuncData} (F : Fun K "_law_mixed" "_law_mixed" s__law_mixed f fd) (T : Txt mg) (CD : Cal P w K mg base "_law_draw" 1 2 tfDraw) : FnOk P w K mg base CX0 (1 + 1) f fd ["_law_deal_here", "_law_some"] (spF K 2 tfMixed) := by
  refine fn_F F sc__law_mixed rfl fun rg cdv A outer s H E hr => ?_
  have hu := hr.units
  refine ⟨_, _, (dss_cons (ds_parFF (i := 2) (j := 3) rfl sc__law_mixed.nd rfl rfl (by decide) rfl rfl (df_list (by rfl) T.list (by decide +kernel) (DP.o (d_var (pv 1)))) (df_lst da_nil) (by rfl))
    (dss_cons (ds_while PassesOwn.never (dt_cmp (op_neP (by exact hu)) opd_ne (do_var (pv 2)) (DP.o (DF.p (df_lst da_nil))) (nomark _)) (dss_one (ds_appPopP (i := 3) (j := 2) (pv 3) (pv 2) (d_callC CD (hr.mono (by omega)) (by rfl) (da_cons (d_var (pv 0)) (da_cons (d_callB cl_len cad_len (by rfl) T.len (by decide +kernel) (dao_cons (do_var (pv 2)) dao_nil)) da_nil))))))
    (dss_one (ds_retO (pv 3))))), fun ds Qd h hl => ?_⟩
  obtain ⟨a, g, xs, hrg, rfl, lx, px, hq⟩ := h
  refine ⟨by decide, Nat.le_of_ble_eq_true rfl, Nat.le_of_ble_eq_true rfl, fun p q => ?_⟩
  refine ⟨fun m env' => ∃ l r : List D, m = l.length ∧ (l ++ r).Perm xs ∧ env' = [some (.dat (.raw (.ref a))), some (.dat (.lst xs)), some (.own p l), some (.own q r)], ⟨_, xs, [], rfl, by simp, rfl⟩, ?_⟩
  rintro m env' ⟨l, r, rfl, hp, rfl⟩
  have pl : isPls l = true := isPls_iff.mpr fun d hd => isPls_iff.mp px d (hp.mem_iff.mp (by simp [hd]))
  refine ⟨by decide, pl, rfl, Nat.le_trans (Nat.min_le_right _ _) (by decide), ?_⟩
  show (if (!deq (.lst l) (.lst [])) = true then _ else _)
  rw [deq_nil]
  have ll := hp.length_eq
  rw [List.length_append] at ll
  cases l with
  | nil => exact hq r (by simpa using hp)
  | cons l0 l1 =>
    refine ⟨by decide, rfl, a, g, _, hrg, rfl, ?_, ?_, fun z h0 h1 => ⟨h0, h1, ?_, ?_, fun y hy => ?_⟩⟩
    · simp
    · simp at ll ⊢; omega
    · have hs : (64 : Nat) < sizeLine := by decide
      simp at ll; omega
    · simp at ll h1; omega
    · obtain ⟨hlt, hy2⟩ := List.getElem?_eq_some_iff.mp hy
      refine ⟨((l0 :: l1).eraseIdx z.toNat).length, ?_, (l0 :: l1).eraseIdx z.toNat, r ++ [y], rfl, ?_, rfl⟩
      · rw [List.length_eraseIdx_of_lt hlt]; simp
      · refine List.Perm.trans ?_ hp
        have e1 : (((l0 :: l1).eraseIdx z.toNat) ++ (r ++ [y])).Perm (y :: ((l0 :: l1).eraseIdx z.toNat ++ r)) := by
          rw [← List.append_assoc]
          exact List.perm_append_singleton _ _
        refine e1.trans ?_
        rw [← List.cons_append]
        refine List.Perm.append_right _ ?_
        have e2 : (l0 :: l1) = (l0 :: l1).take z.toNat ++ y :: (l0 :: l1).drop (z.toNat + 1) := by
          rw [← hy2, List.getElem_cons_drop, List.take_append_drop]
        rw [List.eraseIdx_eq_take_drop_succ]
        refine List.Perm.trans ?_ (List.Perm.of_eq e2.symm)
        exact List.perm_middle.symm
def W : List Str := ["a", "ab", "b", "zzzz", "on", "off", "test", "two", "c", "sets", "seen", "x"]
def unS : D → Str
  | .str x => x
  | _ => ""
theorem perm_strs {ys : List D} {W : List Str} (h : ys.Perm (W.map .str)) : ∃ vs : List Str, ys = vs.map .str ∧ vs.Perm W := by
  refine ⟨ys.map unS, ?_, ?_⟩
  · rw [List.map_map]
    have : ∀ y ∈ ys, (D.str ∘ unS) y = y := fun y hy => by
      have := h.mem_iff.mp hy
      rw [List.mem_map] at this
      obtain ⟨x, _, rfl⟩ := this
      rfl
    rw [List.map_congr_left this, List.map_id']
  · have := h.map unS
    rw [List.map_map] at this
    have e : (unS ∘ D.str) = id := rfl
    rw [e, List.map_id] at this
    exact this
def tfWords : Tf := fun rg ds Q => ∃ a g, ∃ n : Nat, rg = dealRg a g ∧ ds = [.raw (.ref a), .int (n : Nat)] ∧ n ≤ 12 ∧ ∀ ws : List Str, ws.length = n → ws.Nodup → (∀ x ∈ ws, x ∈ W) → Q (.lst (ws.map .str))

abbrev s__law_words : Stmt := top 11
abbrev N__law_words : List Str := ["_law_deal_here", "_law_size", "_law_some", "_law_word"]
theorem sc__law_words : FnScope N__law_words ["_law_deal_here", "_law_size"] (defScope s__law_words) := ⟨rfl, rfl, rfl, by decide +kernel, rfl, by decide +kernel, by decide +kernel⟩
theorem ok_law_words {f : Addr} {fd : FuncData} (F : Fun K "_law_words" "_law_words" s__law_words f fd) (T : Txt mg) (CM : CalF P w K mg base "_law_mixed" 2 2 tfMixed) : FnOk P w K mg base CX0 (2 + 1) f fd ["_law_deal_here", "_law_size"] (spD K 2 tfWords) := by
  refine fn_D F sc__law_words rfl fun rg cdv A outer s H E hr => ?_
  have hu := hr.units
  refine ⟨_, _, (dss_cons (ds_setP (d_slice (DP.o (DF.p (df_callC CM (hr.mono (by omega)) (by rfl) (da_cons (d_var (pv 0)) (da_cons (DF.p (df_lst (da_cons d_str (da_cons d_str (da_cons d_str (da_cons d_str (da_cons d_str (da_cons d_str (da_cons d_str (da_cons d_str (da_cons d_str (da_cons d_str (da_cons d_str (da_cons d_str da_nil)))))))))))))) da_nil))))) dpo_none (dpo_some (d_var (pv 1)))) (i := 2) sc__law_words.nd rfl (by first | exact Or.inl rfl | exact Or.inr rfl))
    (dss_one (ds_ret (DP.o (d_callB cl_sortedS cad_sortedS (by rfl) T.sorted (by decide +kernel) (dao_cons (DP.o (DF.p (df_lc (own := [("_law_word", 3)]) rfl sc__law_words.nd (blkOk_by (N := N__law_words) (sc := (defScope s__law_words)) (by decide +kernel)) (di_op (DP.o (d_var (pv 2)))) (fun _ _ _ _ _ => by exact (dg_name (pg_name (i := 3) sc__law_words.nd rfl (by first | exact Or.inl rfl | exact Or.inr rfl)) (by decide))) (fun _ _ _ _ _ => by exact dts_nil) (fun _ _ _ _ _ => by exact (d_callTy SkE.call_str_str cad_str (by rfl) T.str (by decide +kernel) (dao_cons (DP.o (d_var (pv 3))) dao_nil)))))) dao_nil)))))), fun ds Qd h hl => ?_⟩
  obtain ⟨a, g, n, hrg, rfl, hn, hq⟩ := h
  refine ⟨by decide, rfl, a, g, W.map .str, hrg, rfl, by decide, by decide, fun ys hp => ?_⟩
  obtain ⟨vs, rfl, hv⟩ := perm_strs hp
  refine ⟨Nat.le_of_ble_eq_true rfl, rfl, ?_⟩
  have ec : cutD (vs.map .str) none (some ((n : Nat) : Int)) = (vs.take n).map .str := by rw [cut_to, List.map_take]
  have lv : vs.length = 12 := hv.length_eq
  refine lc_at (xs := vs.take n) (enc := .str) (p := fun _ => true) (g := .str) ec (by rw [List.length_take]; omega) ?_ ?_
  · intro x hx Qy Qn hh
    exact ⟨rfl, hh⟩
  · rw [List.filter_eq_self.mpr (fun _ _ => rfl)]
    refine ⟨vs.take n, rfl, by rw [List.length_take]; omega, fun zs hz _ => ?_⟩
    refine hq zs ?_ ?_ ?_
    · rw [hz.length_eq, List.length_take]; omega
    · rw [hz.nodup_iff]
      refine (List.take_sublist n vs).nodup ?_
      rw [hv.nodup_iff]; decide
    · intro x hx
      exact hv.mem_iff.mp (List.mem_of_mem_take (hz.mem_iff.mp hx))
def tfDeal : Tf := fun rg ds Q => ∃ ns : List Int, (ds = [.scr ns, .int 0] ∨ ds = [.lst (ns.map .int), .int 0]) ∧ ns.length ≤ 63 ∧ ∀ (cs : List Int) (m : Int), cs.length < 64 → 0 ≤ m → m < 2147483647 → Q (.lst [.lst (cs.map .int), .int m])
theorem cut_map {α : Type} {enc : α → D} {xs : List α} {lo hi : Option Int} : ∃ cs : List α, cutD (xs.map enc) lo hi = cs.map enc ∧ cs.length ≤ xs.length := by
  unfold cutD
  refine ⟨(xs.drop _).take _, by rw [List.map_take, List.map_drop], ?_⟩
  rw [List.length_take, List.length_drop]
  omega

abbrev s__law_deal : Stmt := top 8
abbrev N__law_deal : List Str := ["_law_script", "_law_base", "_law_cells", "_law_mixed_here", "_law_cell"]
theorem sc__law_deal : FnScope N__law_deal ["_law_script", "_law_base"] (defScope s__law_deal) := ⟨rfl, rfl, rfl, by decide +kernel, rfl, by decide +kernel, by decide +kernel⟩
theorem ok_law_deal {f : Addr} {fd : FuncData} (F : Fun K "_law_deal" "_law_deal" s__law_deal f fd) (T : Txt mg)  : FnOk P w K mg base CX0 (0 + 1) f fd ["_law_script", "_law_base"] (spD K 2 tfDeal) := by
  refine fn_D F sc__law_deal rfl fun rg cdv A outer s H E hr => ?_
  have hu := hr.units
  refine ⟨_, _, (dss_cons (ds_setLc (i := 2) (own := [("_law_cell", 4)]) rfl sc__law_deal.nd rfl rfl (sw_true rfl rfl rfl (by decide +kernel)) (blkOk_by (N := N__law_deal) (sc := (defScope s__law_deal)) (by decide +kernel)) (di_op (DP.o (d_slice (DP.o (d_var (pv 0))) (dpo_some (d_var (pv 1))) (dpo_some d_int)))) (fun _ _ _ _ _ => by exact (dg_name (pg_name (i := 4) sc__law_deal.nd rfl (by first | exact Or.inl rfl | exact Or.inr rfl)) (by decide))) (fun _ _ _ _ _ => by exact dts_nil) (fun _ _ _ _ _ => by exact (d_callB call_abs cad_abs (by rfl) T.abs (by decide +kernel) (dao_cons (DP.o (d_callTy call_int1 cad_int (by rfl) T.int (by decide +kernel) (dao_cons (DP.o (d_var (pv 4))) dao_nil))) dao_nil))))
    (dss_cons (ds_setP (d_op op_addU opd_add (DP.o d_int) (DP.o (d_op op_mul opd_int (DP.o d_int) (DP.o (d_var (pv 1)))))) (i := 3) sc__law_deal.nd rfl (by first | exact Or.inl rfl | exact Or.inr rfl))
    (dss_cons (ds_for (vs := [4]) PassesOwn.never rfl (di_data (d_var (pv 2))) (dg_name (pg_name (i := 4) sc__law_deal.nd rfl (by first | exact Or.inl rfl | exact Or.inr rfl)) (by decide))
    (dss_one (ds_setP (d_op op_mod opd_int (DP.o (d_callTy call_int1 cad_int (by rfl) T.int (by decide +kernel) (dao_cons (DP.o (d_op op_addU opd_add (DP.o (d_op op_addU opd_add (DP.o (d_op op_mul opd_int (DP.o (d_var (pv 3))) (DP.o d_int))) (DP.o (d_op op_mod opd_int (DP.o (d_callTy call_int1 cad_int (by rfl) T.int (by decide +kernel) (dao_cons (DP.o (d_var (pv 4))) dao_nil))) (DP.o d_int))))) (DP.o d_int))) dao_nil))) (DP.o d_int)) (i := 3) sc__law_deal.nd rfl (by first | exact Or.inl rfl | exact Or.inr rfl))))
    (dss_one (ds_ret (DP.o (DF.p (df_lst (da_cons (DF.p (df_rev (DP.o (DF.p (df_lc (own := [("_law_cell", 4)]) rfl sc__law_deal.nd (blkOk_by (N := N__law_deal) (sc := (defScope s__law_deal)) (by decide +kernel)) (di_op (DP.o (d_var (pv 2)))) (fun _ _ _ _ _ => by exact (dg_name (pg_name (i := 4) sc__law_deal.nd rfl (by first | exact Or.inl rfl | exact Or.inr rfl)) (by decide))) (fun _ _ _ _ _ => by exact (dts_one (dt_cmp op_ge opd_cmpI (DP.o (d_var (pv 4))) (DP.o (d_op op_pow opd_int (DP.o d_int) (DP.o d_int))) (nomark _)))) (fun _ _ _ _ _ => by exact (d_var (pv 4)))))))) (da_cons (d_var (pv 3)) da_nil)))))))))), fun ds Qd h hl => ?_⟩
  obtain ⟨ns, hd, ln, hq⟩ := h
  rcases hd with rfl | rfl
  · refine ⟨rfl, ?_⟩
    obtain ⟨cs, ec, lc⟩ := cut_map (enc := D.int) (xs := ns) (lo := some 0) (hi := some 61)
    refine lc_at (xs := cs) (enc := D.int) (p := fun _ => true) (g := fun c => .int (if c < 0 then -c else c)) ec (by omega) ?_ ?_
    · intro x hx Qy Qn hh
      exact ⟨rfl, hh⟩
    rw [List.filter_eq_self.mpr (fun _ _ => rfl)]
    have e2 : cs.map (fun c => D.int (if c < 0 then -c else c)) = (cs.map (fun c : Int => if c < 0 then -c else c)).map D.int := by rw [List.map_map]; rfl
    rw [e2]
    have lc2 : (cs.map (fun c : Int => if c < 0 then -c else c)).length ≤ 63 := by rw [List.length_map]; omega
    generalize (cs.map (fun c : Int => if c < 0 then -c else c)) = bs at lc2
    refine ⟨Nat.le_of_ble_eq_true rfl, .inl ⟨by omega, by omega⟩, Nat.le_of_ble_eq_true rfl, ?_⟩
    refine for_run (xs := bs) (enc := D.int) (fun k env' => ∃ (m : Int) (x4 : Option Sl), env' = [some (.dat (.scr ns)), some (.dat (.int 0)), some (.dat (.lst (bs.map D.int))), some (.dat (.int m)), x4] ∧ FreeS x4 ∧ 0 ≤ m ∧ m < 2147483647) ⟨_, none, rfl, .inl rfl, by omega, by omega⟩ ?_ ?_
    · rintro k c env' hk ⟨m, x4, rfl, f, m0, m1⟩
      refine ⟨by rcases f with rfl | ⟨y, rfl⟩ <;> rfl, .inr ⟨by omega, by omega⟩, by omega, by omega, Nat.le_of_ble_eq_true rfl, _, _, rfl, .inr ⟨_, rfl⟩, Int.emod_nonneg _ (by omega), Int.emod_lt_of_pos _ (by omega)⟩
    · rintro env' ⟨m, x4, rfl, f, m0, m1⟩
      refine ⟨by rcases f with rfl | ⟨y, rfl⟩ <;> rfl, ?_⟩
      refine lc_at (xs := bs) (enc := D.int) (p := fun c => decide ((10 : Int) ^ (18 : Nat) ≤ c)) (g := D.int) rfl (by omega) ?_ ?_
      · intro x hx Qy Qn hh
        exact ⟨rfl, ⟨by omega, by omega, by decide⟩, hh⟩
      · refine ⟨by show 2 ≤ sizeLine; decide, ?_⟩
        show Qd (.lst [.lst ((bs.filter fun c => decide ((10 : Int) ^ (18 : Nat) ≤ c)).map D.int).reverse, .int m])
        rw [← List.map_reverse]
        exact hq _ m (by rw [List.length_reverse]; exact Nat.lt_of_le_of_lt (List.length_filter_le _ _) (by omega)) m0 m1
  · refine ⟨rfl, ?_⟩
    obtain ⟨cs, ec, lc⟩ := cut_map (enc := D.int) (xs := ns) (lo := some 0) (hi := some 61)
    refine lc_at (xs := cs) (enc := D.int) (p := fun _ => true) (g := fun c => .int (if c < 0 then -c else c)) ec (by omega) ?_ ?_
    · intro x hx Qy Qn hh
      exact ⟨rfl, hh⟩
    rw [List.filter_eq_self.mpr (fun _ _ => rfl)]
    have e2 : cs.map (fun c => D.int (if c < 0 then -c else c)) = (cs.map (fun c : Int => if c < 0 then -c else c)).map D.int := by rw [List.map_map]; rfl
    rw [e2]
    have lc2 : (cs.map (fun c : Int => if c < 0 then -c else c)).length ≤ 63 := by rw [List.length_map]; omega
    generalize (cs.map (fun c : Int => if c < 0 then -c else c)) = bs at lc2
    refine ⟨Nat.le_of_ble_eq_true rfl, .inl ⟨by omega, by omega⟩, Nat.le_of_ble_eq_true rfl, ?_⟩
    refine for_run (xs := bs) (enc := D.int) (fun k env' => ∃ (m : Int) (x4 : Option Sl), env' = [some (.dat (.lst (ns.map .int))), some (.dat (.int 0)), some (.dat (.lst (bs.map D.int))), some (.dat (.int m)), x4] ∧ FreeS x4 ∧ 0 ≤ m ∧ m < 2147483647) ⟨_, none, rfl, .inl rfl, by omega, by omega⟩ ?_ ?_
    · rintro k c env' hk ⟨m, x4, rfl, f, m0, m1⟩
      refine ⟨by rcases f with rfl | ⟨y, rfl⟩ <;> rfl, .inr ⟨by omega, by omega⟩, by omega, by omega, Nat.le_of_ble_eq_true rfl, _, _, rfl, .inr ⟨_, rfl⟩, Int.emod_nonneg _ (by omega), Int.emod_lt_of_pos _ (by omega)⟩
    · rintro env' ⟨m, x4, rfl, f, m0, m1⟩
      refine ⟨by rcases f with rfl | ⟨y, rfl⟩ <;> rfl, ?_⟩
      refine lc_at (xs := bs) (enc := D.int) (p := fun c => decide ((10 : Int) ^ (18 : Nat) ≤ c)) (g := D.int) rfl (by omega) ?_ ?_
      · intro x hx Qy Qn hh
        exact ⟨rfl, ⟨by omega, by omega, by decide⟩, hh⟩
      · refine ⟨by show 2 ≤ sizeLine; decide, ?_⟩
        show Qd (.lst [.lst ((bs.filter fun c => decide ((10 : Int) ^ (18 : Nat) ≤ c)).map D.int).reverse, .int m])
        rw [← List.map_reverse]
        exact hq _ m (by rw [List.length_reverse]; exact Nat.lt_of_le_of_lt (List.length_filter_le _ _) (by omega)) m0 m1
end
end K44
namespace K44
open PySem L2 DL
section
variable {P : Program} {w : World} {K : PySem.W.Frag} {mg : Str → Option Value} {base : Heap}
def spLaw (K : PySem.W.Frag) : Sp := fun vs H Q _ => ∃ (a : Addr) (ns : List Int), vs = [.ref a] ∧ SqL K H a (ns.map V.int) ∧ ns.length ≤ 63 ∧ ∀ H', Q (.bl true) H'
def tfNears : Tf := fun rg ds Q => ∃ fn : (Nat → Str) × Nat, (1 ≤ fn.2 ∧ fn.2 ≤ 4 ∧ Inj fn.1 fn.2) ∧ tfNear fn.1 fn.2 rg ds Q
def tfIsNears : Tf := fun rg ds Q => ∃ fn : (Nat → Str) × Nat, (1 ≤ fn.2 ∧ fn.2 ≤ 4 ∧ Inj fn.1 fn.2) ∧ tfIsNear fn.1 fn.2 rg ds Q
theorem noLs_map {α : Type} {enc : α → D} (h : ∀ x, noL (enc x) = true) : ∀ xs : List α, noLs (xs.map enc) = true
  | [] => rfl
  | x :: xs => by simp [noLs, h x, noLs_map h xs]
theorem noL_O (f : Nat → Str) (o : List Nat) : noL (eO f o) = true := noLs_map (fun _ => rfl) o
theorem noL_near (f : Nat → Str) (n : Nat) : noL (.tup ((nearI n).map (eO f))) = true := noLs_map (noL_O f) _
theorem names_of (vs : List Str) : vs.map D.str = names (fun i => vs.getD i "") vs.length := by
  unfold names
  apply List.ext_getElem?
  intro i
  rw [List.getElem?_map, List.getElem?_map]
  by_cases h : i < vs.length
  · rw [List.getElem?_range h, List.getElem?_eq_getElem h]
    simp [eS, h]
  · rw [List.getElem?_eq_none (by omega), List.getElem?_eq_none (by simp; omega)]
    rfl
theorem inj_of {vs : List Str} (h : vs.Nodup) : Inj (fun i => vs.getD i "") vs.length := by
  intro i j hi hj e
  simp only [List.getD_eq_getElem?_getD, List.getElem?_eq_getElem hi, List.getElem?_eq_getElem hj, Option.getD_some] at e
  exact (List.getElem_inj h).mp e
/-- the deal is made: from here on it may change -/
theorem deal_made {M : Addr → Prop} {H : Hp} {v : V} {cs : List Int} {m : Int} (r : Rp K M H v (.lst [.lst (cs.map .int), .int m])) (hc : cs.length < 64) (m0 : 0 ≤ m) (m1 : m < 2147483647) : ∃ a g, v = .ref a ∧ (dealRg a g).J H := by
  cases r with
  | lst h1 h2 h3 =>
    rename_i a xs
    cases h3 with
    | cons r1 r2 =>
      cases r2 with
      | cons r2 r3 =>
        cases r3; cases r2
        cases r1 with
        | lst g1 g2 g3 =>
          rename_i g ys
          have e : ys = cs.map V.int := by
            clear g2 h2
            induction cs generalizing ys with
            | nil => cases g3; rfl
            | cons c cs ih =>
              cases g3 with
              | cons q1 q2 =>
                cases q1
                rw [ih (by simp at hc; omega) q2]; rfl
          subst e
          refine ⟨a, g, rfl, fun z => ?_, cs, m, h2, g2, m0, m1, hc⟩
          subst z
          rw [h2] at g2
          cases cs with
          | nil => simp at g2
          | cons c cs => simp at g2
def dcDeal (a g : Addr) : Dc := ⟨fun x => x = a ∨ x = g, none, dealRg a g⟩
theorem dcDeal_ok (a g : Addr) : (dcDeal a g).Ok := ⟨fun _ h => h, dealRg_ok a g, fun _ h => by cases h⟩
def envDeal (a : Addr) : En := [none, some (.dat (.raw (.ref a))), none, none, none]
theorem sd_deal {a g : Addr} {σ : L2.St} {H : Hp} (hl : σ.length = 5) (h1 : σ[1]? = some (some (.ref a))) (j : (dealRg a g).J H) : Sd K (dcDeal a g) (fun _ _ => True) H (envDeal a) σ H := by
  have at1 : ∀ (i : Nat) (s : Sl), (envDeal a)[i]? = some (some s) → i = 1 ∧ s = .dat (.raw (.ref a)) := fun i s e => by
    match i, e with
    | 0, e => cases e
    | 1, e => cases e; exact ⟨rfl, rfl⟩
    | 2, e => cases e
    | 3, e => cases e
    | 4, e => cases e
    | n + 5, e => cases e
  refine ⟨dcDeal_ok a g, hl, fun i s e => ?_, j, Keep.refl, fun x hx => (dealRg_ok a g).dom H j x hx, fun i j s t x e1 e2 e3 _ => ?_, fun _ _ _ _ _ _ _ => trivial, trivial⟩
  · obtain ⟨rfl, rfl⟩ := at1 i s e
    exact ⟨_, h1, .raw _⟩
  · obtain ⟨rfl, rfl⟩ := at1 i s e1
    cases e3

abbrev s_law : Stmt := top 13
abbrev N_law : List Str := ["_law_script", "_law_deal_here", "_law_size", "_law_called", "_law_kept"]
theorem sc_law : FnScope N_law ["_law_script"] (defScope s_law) := ⟨rfl, rfl, rfl, by decide +kernel, rfl, by decide +kernel, by decide +kernel⟩
theorem ok_law {f : Addr} {fd : FuncData} (F : Fun K "law" "law" s_law f fd) (T : Txt mg) (CDeal : Cal P w K mg base "_law_deal" 1 2 tfDeal) (CM : CalF P w K mg base "_law_mixed" 2 2 tfMixed) (CW : Cal P w K mg base "_law_words" 3 2 tfWords) (CN : Cal P w K mg base "near" 7 1 tfNears) (CI : Cal P w K mg base "_law_is_near" 1 2 tfIsNears) : FnOk P w K mg base CX0 8 f fd ["_law_script"] (spLaw K) := by
  refine F.ok (k := 7) sc_law (fun vs H Q E h => by obtain ⟨a, ns, rfl, _⟩ := h; rfl) (fun cdv A outer s H vs Q E hr h => ?_)
  obtain ⟨a, ns, rfl, hS, hl, k⟩ := h
  have hu := hr.units
  have h1 : DS (cxOf CX0 P w K mg base N_law "law" (defScope s_law) f cdv A outer s H E).nox K Rg.pure ((defBody s_law).getD 0 (.Pass ⟨0, 0, 0, 0⟩)) _ _ := (ds_setP (d_callC CDeal (hr.mono (by omega)) (by rfl) (da_cons (d_var (pv 0)) (da_cons d_int da_nil))) (i := 1) sc_law.nd rfl (by first | exact Or.inl rfl | exact Or.inr rfl))
  have h2 : ∀ rg, DSs (cxOf CX0 P w K mg base N_law "law" (defScope s_law) f cdv A outer s H E).nox K rg ((defBody s_law).drop 1) _ _ := fun rg => (dss_cons (ds_for (vs := [2]) PassesOwn.never rfl (di_data (DF.p (df_callC CM (hr.mono (by omega)) (by rfl) (da_cons (d_var (pv 1)) (da_cons (DF.p (df_lst (da_cons d_int (da_cons d_int (da_cons d_int (da_cons d_int da_nil)))))) da_nil))))) (dg_name (pg_name (i := 2) sc_law.nd rfl (by first | exact Or.inl rfl | exact Or.inr rfl)) (by decide))
    (dss_cons (ds_setFO (df_callC CM (hr.mono (by omega)) (by rfl) (da_cons (d_var (pv 1)) (da_cons (d_callC CW (hr.mono (by omega)) (by rfl) (da_cons (d_var (pv 1)) (da_cons (d_var (pv 2)) da_nil))) da_nil))) (i := 3) sc_law.nd rfl (by first | exact Or.inl rfl | exact Or.inr rfl))
    (dss_cons (ds_setFO (df_list (by rfl) T.list (by decide +kernel) (do_var (pv 3))) (i := 4) sc_law.nd rfl (by first | exact Or.inl rfl | exact Or.inr rfl))
    (dss_cons (ds_if (DW.dt (dw_or (dt_not (dt_val (d_callCO CI (hr.mono (by omega)) (by rfl) (dao_cons (do_var (pv 3)) (dao_cons (DP.o (d_callCO CN (hr.mono (by omega)) (by rfl) (dao_cons (do_var (pv 3)) dao_nil))) dao_nil))))) (dw_or (dt_cmp (op_neP (by exact hu)) opd_ne (do_var (pv 3)) (do_var (pv 4)) (nomark _)) (dw_or1 (dt_not (dt_val (d_callCO CI (hr.mono (by omega)) (by rfl) (dao_cons (do_var (pv 3)) (dao_cons (DP.o (d_callCO CN (hr.mono (by omega)) (by rfl) (dao_cons (DP.o (d_callTy cl_tuple cad_tuple (by rfl) T.tuple (by decide +kernel) (dao_cons (do_var (pv 3)) dao_nil))) dao_nil))) dao_nil))))))))) (dss_one (ds_ret (DP.o d_bl))) dss_nil)
    (dss_one (ds_appP (i := 3) (pv 3) d_str))))))
    (dss_one (ds_ret (DP.o (d_cmp (op_eqP (by exact hu)) opd_eq (DP.o (d_callCO CN (hr.mono (by omega)) (by rfl) (dao_cons (DP.o (DF.p (df_lst (da_cons d_str da_nil)))) dao_nil))) (DP.o (d_tup da_nil)) (nomark _))))))
  refine ⟨_, pss_cons h1.ps (h2 Rg.pure).ps, ?_⟩
  have hd0 : ∃ d0, Rp K (fun _ => False) H (.ref a) d0 ∧ (d0 = .scr ns ∨ d0 = .lst (ns.map .int)) := by
    rcases hS with (hS | ⟨o, hS⟩) | hS
    · exact ⟨_, .lst id hS (RpAll.ints ns), .inr rfl⟩
    · exact ⟨_, .scr id hS, .inl rfl⟩
    · exact ⟨_, .scrK hS, .inl rfl⟩
  obtain ⟨d0, r0, hd0⟩ := hd0
  have S0 := sd_start (K := K) (c := ⟨fun _ => False, none, Rg.pure⟩) (N := N_law) ⟨fun _ h => h, Rg.pure_ok, fun _ h => by cases h⟩ rfl (RpAll.cons r0 .nil) trivial (fun _ h => h.elim)
  refine h1.rf _ rfl _ H _ _ H { nx := fun env' => ∃ (cs : List Int) (m : Int), env' = [some (.dat d0), some (.dat (.lst [.lst (cs.map .int), .int m])), none, none, none] ∧ cs.length < 64 ∧ 0 ≤ m ∧ m < 2147483647, rt := fun _ => False } _ S0 ?_ ?_ (fun _ _ _ q => q.elim) (fun _ _ _ _ q => q.elim) (fun _ _ _ q => q.elim) (fun _ _ _ q => q.elim)
  · exact ⟨rfl, ns, by rcases hd0 with rfl | rfl; exact .inl rfl; exact .inr rfl, hl, fun cs m c1 c2 c3 => ⟨Nat.le_of_ble_eq_true rfl, cs, m, rfl, c1, c2, c3⟩⟩
  · rintro env' σ' H' ⟨cs, m, rfl, c1, c2, c3⟩ S'
    obtain ⟨v, hv, rv⟩ := S'.sl 1 _ rfl
    obtain ⟨a', g', rfl, j⟩ := deal_made rv c1 c2 c3
    refine (h2 (dealRg a' g')).rf (dcDeal a' g') rfl _ H' (envDeal a') σ' H' { nx := fun _ => False, rt := fun d => d = .bl true } _ (sd_deal S'.len hv j) ?_ (fun _ _ _ q => q.elim) (fun d v H2 q _ _ _ r => ?_) (fun _ _ _ _ q => q.elim) (fun _ _ _ q => q.elim) (fun _ _ _ q => q.elim)
    rotate_left
    · subst q
      cases r
      exact k H2
    refine ⟨by show 4 ≤ sizeLine; decide, rfl, a', g', _, rfl, rfl, by decide, rfl, fun ys hp => ?_⟩
    refine ⟨fun _ env' => ∃ x2 x3 x4, env' = [none, some (.dat (.raw (.ref a'))), x2, x3, x4] ∧ FreeS x2, ⟨none, none, none, rfl, .inl rfl⟩, ?_, ?_⟩
    · rintro i x env' hx ⟨x2, x3, x4, rfl, f2⟩
      have hm := hp.mem_iff.mp (List.mem_of_getElem? hx)
      obtain ⟨n, rfl, n1, n4⟩ : ∃ n : Nat, x = .int (n : Nat) ∧ 1 ≤ n ∧ n ≤ 4 := by
        simp only [List.mem_cons, List.not_mem_nil, or_false] at hm
        rcases hm with rfl | rfl | rfl | rfl
        · exact ⟨1, rfl, by decide, by decide⟩
        · exact ⟨2, rfl, by decide, by decide⟩
        · exact ⟨3, rfl, by decide, by decide⟩
        · exact ⟨4, rfl, by decide, by decide⟩
      refine ⟨by rcases f2 with rfl | ⟨y, rfl⟩ <;> rfl, rfl, a', g', n, rfl, rfl, by omega, fun ws hw hnd _ => ?_⟩
      refine ⟨rfl, a', g', _, rfl, rfl, by rw [List.length_map]; omega, isPls_map (fun _ => rfl) _, fun zs hz => ?_⟩
      obtain ⟨vs, rfl, hv⟩ := perm_strs hz
      have lv : vs.length = n := by rw [hv.length_eq, hw]
      have nv : vs.Nodup := hv.nodup_iff.mpr hnd
      have ok : 1 ≤ vs.length ∧ vs.length ≤ 4 ∧ Inj (fun i => vs.getD i "") vs.length := ⟨by omega, by omega, inj_of nv⟩
      have sz : (1000 : Nat) < sizeLine := by decide
      refine ⟨Nat.le_of_ble_eq_true rfl, fun p => ?_⟩
      refine ⟨Nat.le_of_ble_eq_true rfl, fun q => ?_⟩
      have near1 : ∀ R : D → Prop, R (.tup ((nearI vs.length).map (eO fun i => vs.getD i ""))) → tfNears (dealRg a' g') [.lst (vs.map .str)] fun d => noL d = true ∧ R d := fun R hR =>
        ⟨(fun i => vs.getD i "", vs.length), ok, .inl (by rw [names_of vs]), noL_near _ _, hR⟩
      have near2 : ∀ R : D → Prop, R (.tup ((nearI vs.length).map (eO fun i => vs.getD i ""))) → tfNears (dealRg a' g') [.tup (vs.map .str)] fun d => noL d = true ∧ R d := fun R hR =>
        ⟨(fun i => vs.getD i "", vs.length), ok, .inr (by rw [names_of vs]), noL_near _ _, hR⟩
      have is1 : ∀ R : D → Prop, R (.bl true) → tfIsNears (dealRg a' g') [.lst (vs.map .str), .tup ((nearI vs.length).map (eO fun i => vs.getD i ""))] fun d => noL d = true ∧ R d := fun R hR =>
        ⟨(fun i => vs.getD i "", vs.length), ok, by rw [names_of vs], rfl, hR⟩
      refine ⟨rfl, near1 _ ⟨rfl, is1 _ ?_⟩⟩
      have pv : isPl (.lst (vs.map .str)) = true := isPls_map (fun _ => rfl) _
      refine ⟨pv, pv, ?_, ?_⟩
      · have : (toPy (.lst (vs.map .str))).depth ≤ 60 := by
          simp only [toPy, PyData.depth]
          have h0 : ∀ vs : List Str, PyData.depthAll (toPys (vs.map .str)) = 0 := fun vs => by
            induction vs with
            | nil => rfl
            | cons v vs ih => simp [toPys, toPy, PyData.depthAll, PyData.depth, ih]
          rw [h0]; decide
        omega
      show (if (!deq (.lst (vs.map .str)) (.lst (vs.map .str))) = true then _ else _)
      rw [deq_lst]
      have e0 : (!(vs == vs)) = false := by simp
      rw [e0]
      refine ⟨rfl, near2 _ ⟨rfl, is1 _ ?_⟩⟩
      refine ⟨by rw [List.length_map]; omega, _, _, _, rfl, .inr ⟨_, rfl⟩⟩
    · rintro env' ⟨x2, x3, x4, rfl, f2⟩
      have n1 : nearI 1 = [] := by decide +kernel
      refine ⟨by show 1 ≤ sizeLine; decide, rfl, (fun _ => "a", 1), ⟨by decide, by decide, fun i j hi hj _ => by omega⟩, .inl rfl, noL_near _ _, ?_⟩
      rw [n1]
      refine ⟨by decide, rfl, rfl, Nat.le_trans (Nat.min_le_right _ _) (by decide), ?_⟩
      rfl

end
end K44
namespace K44
open PySem L2 DL PySem.Spec

theorem all_mk {l : PySem.W.OpenLaw} {w : World} {K : PySem.W.Frag} {h : Heap} {mg : Str → Option Value} {fa f1 f2 f3 f4 f5 f6 f7 f8 f9 f10 f11 : Addr} (X : K.In h) (G : h.Ns mainGlobals mg) (hfa : mg "law" = some (.ref fa))
    {od1 an1 od2 an2 od3 an3 od4 an4 od5 an5 od6 an6 od7 an7 od8 an8 od9 an9 od10 an10 od11 an11 : Option Addr} {sl1 sl2 sl3 sl4 sl5 sl6 sl7 sl8 sl9 sl10 sl11 : Array (Option Value)} {oc1 kV1 dc1 pm1 cd1 ct1 oc2 kV2 dc2 pm2 cd2 ct2 oc3 kV3 dc3 pm3 cd3 ct3 oc4 kV4 dc4 pm4 cd4 ct4 oc5 kV5 dc5 pm5 cd5 ct5 oc6 kV6 dc6 pm6 cd6 ct6 oc7 kV7 dc7 pm7 cd7 ct7 oc8 kV8 dc8 pm8 cd8 ct8 oc9 kV9 dc9 pm9 cd9 ct9 oc10 kV10 dc10 pm10 cd10 ct10 oc11 kV11 dc11 pm11 cd11 ct11 : Value}
    (a1 : PySem.W.nsIn K mainGlobals "orders_of" = some (some (.ref f1))) (l1 : K.lookup f1 = some ⟨oc1, od1, .func (PySem.W.fnOf "orders_of" "orders_of" (defArgs s_orders_of) (defBody s_orders_of) (defScope s_orders_of) .none kV1 dc1 pm1 an1 cd1 ct1), sl1⟩) (c1 : PySem.W.codeIn K cd1 "orders_of" = true) (k1 : PySem.W.keepIn K (.ref f1) = true)
    (a2 : PySem.W.nsIn K mainGlobals "held_by" = some (some (.ref f2))) (l2 : K.lookup f2 = some ⟨oc2, od2, .func (PySem.W.fnOf "held_by" "held_by" (defArgs s_held_by) (defBody s_held_by) (defScope s_held_by) .none kV2 dc2 pm2 an2 cd2 ct2), sl2⟩) (c2 : PySem.W.codeIn K cd2 "held_by" = true) (k2 : PySem.W.keepIn K (.ref f2) = true)
    (a3 : PySem.W.nsIn K mainGlobals "covering" = some (some (.ref f3))) (l3 : K.lookup f3 = some ⟨oc3, od3, .func (PySem.W.fnOf "covering" "covering" (defArgs s_covering) (defBody s_covering) (defScope s_covering) .none kV3 dc3 pm3 an3 cd3 ct3), sl3⟩) (c3 : PySem.W.codeIn K cd3 "covering" = true) (k3 : PySem.W.keepIn K (.ref f3) = true)
    (a4 : PySem.W.nsIn K mainGlobals "near" = some (some (.ref f4))) (l4 : K.lookup f4 = some ⟨oc4, od4, .func (PySem.W.fnOf "near" "near" (defArgs s_near) (defBody s_near) (defScope s_near) .none kV4 dc4 pm4 an4 cd4 ct4), sl4⟩) (c4 : PySem.W.codeIn K cd4 "near" = true) (k4 : PySem.W.keepIn K (.ref f4) = true)
    (a5 : PySem.W.nsIn K mainGlobals "_law_deal" = some (some (.ref f5))) (l5 : K.lookup f5 = some ⟨oc5, od5, .func (PySem.W.fnOf "_law_deal" "_law_deal" (defArgs s__law_deal) (defBody s__law_deal) (defScope s__law_deal) .none kV5 dc5 pm5 an5 cd5 ct5), sl5⟩) (c5 : PySem.W.codeIn K cd5 "_law_deal" = true) (k5 : PySem.W.keepIn K (.ref f5) = true)
    (a6 : PySem.W.nsIn K mainGlobals "_law_draw" = some (some (.ref f6))) (l6 : K.lookup f6 = some ⟨oc6, od6, .func (PySem.W.fnOf "_law_draw" "_law_draw" (defArgs s_draw) (defBody s_draw) (defScope s_draw) .none kV6 dc6 pm6 an6 cd6 ct6), sl6⟩) (c6 : PySem.W.codeIn K cd6 "_law_draw" = true) (k6 : PySem.W.keepIn K (.ref f6) = true)
    (a7 : PySem.W.nsIn K mainGlobals "_law_mixed" = some (some (.ref f7))) (l7 : K.lookup f7 = some ⟨oc7, od7, .func (PySem.W.fnOf "_law_mixed" "_law_mixed" (defArgs s__law_mixed) (defBody s__law_mixed) (defScope s__law_mixed) .none kV7 dc7 pm7 an7 cd7 ct7), sl7⟩) (c7 : PySem.W.codeIn K cd7 "_law_mixed" = true) (k7 : PySem.W.keepIn K (.ref f7) = true)
    (a8 : PySem.W.nsIn K mainGlobals "_law_words" = some (some (.ref f8))) (l8 : K.lookup f8 = some ⟨oc8, od8, .func (PySem.W.fnOf "_law_words" "_law_words" (defArgs s__law_words) (defBody s__law_words) (defScope s__law_words) .none kV8 dc8 pm8 an8 cd8 ct8), sl8⟩) (c8 : PySem.W.codeIn K cd8 "_law_words" = true) (k8 : PySem.W.keepIn K (.ref f8) = true)
    (a9 : PySem.W.nsIn K mainGlobals "_law_is_near" = some (some (.ref f9))) (l9 : K.lookup f9 = some ⟨oc9, od9, .func (PySem.W.fnOf "_law_is_near" "_law_is_near" (defArgs s__law_is_near) (defBody s__law_is_near) (defScope s__law_is_near) .none kV9 dc9 pm9 an9 cd9 ct9), sl9⟩) (c9 : PySem.W.codeIn K cd9 "_law_is_near" = true) (k9 : PySem.W.keepIn K (.ref f9) = true)
    (a10 : PySem.W.nsIn K mainGlobals "law" = some (some (.ref f10))) (l10 : K.lookup f10 = some ⟨oc10, od10, .func (PySem.W.fnOf "law" "law" (defArgs s_law) (defBody s_law) (defScope s_law) .none kV10 dc10 pm10 an10 cd10 ct10), sl10⟩) (c10 : PySem.W.codeIn K cd10 "law" = true) (k10 : PySem.W.keepIn K (.ref f10) = true)
    (a11 : PySem.W.nsIn K mainGlobals "longer" = some (some (.ref f11))) (l11 : K.lookup f11 = some ⟨oc11, od11, .func (PySem.W.fnOf "longer" "longer" (defArgs s_longer) (defBody s_longer) (defScope s_longer) .none kV11 dc11 pm11 an11 cd11 ct11), sl11⟩) (c11 : PySem.W.codeIn K cd11 "longer" = true) (k11 : PySem.W.keepIn K (.ref f11) = true)
    (z1 : PySem.W.nsIn K mainGlobals "zip" = some none)
    (z2 : PySem.W.nsIn K mainGlobals "len" = some none)
    (z3 : PySem.W.nsIn K mainGlobals "list" = some none)
    (z4 : PySem.W.nsIn K mainGlobals "int" = some none)
    (z5 : PySem.W.nsIn K mainGlobals "abs" = some none)
    (z6 : PySem.W.nsIn K mainGlobals "sorted" = some none)
    (z7 : PySem.W.nsIn K mainGlobals "str" = some none)
    (z8 : PySem.W.nsIn K mainGlobals "isinstance" = some none)
    (z9 : PySem.W.nsIn K mainGlobals "tuple" = some none) :
    ∃ fd : FuncData, (∀ (s : Shared) (v : Value), BindsTo s fd ⟨[v], []⟩ [("_law_script", v)]) ∧ ∀ base : Heap, K.In base → base.Ns mainGlobals mg → FnOk l.prog w K mg base CX0 8 fa fd ["_law_script"] (spLaw K) := by
  have e := hfa.symm.trans (PySem.W.mg_of X G a10)
  cases e
  have T : Txt mg := ⟨PySem.W.mg_none_of X G z1, PySem.W.mg_none_of X G z2, PySem.W.mg_none_of X G z3, PySem.W.mg_none_of X G z4, PySem.W.mg_none_of X G z5, PySem.W.mg_none_of X G z6, PySem.W.mg_none_of X G z7, PySem.W.mg_none_of X G z8, PySem.W.mg_none_of X G z9⟩
  have F1 := fun_mk (st := s_orders_of) l1 c1 k1
  have b1 := F1.binds (ps := ["names"]) fun _ _ _ _ _ _ us hl => match us, hl with | [_], _ => rfl
  have m1 := PySem.W.mg_of X G a1
  have F2 := fun_mk (st := s_held_by) l2 c2 k2
  have b2 := F2.binds (ps := ["order", "pairs"]) fun _ _ _ _ _ _ us hl => match us, hl with | [_, _], _ => rfl
  have m2 := PySem.W.mg_of X G a2
  have F3 := fun_mk (st := s_covering) l3 c3 k3
  have b3 := F3.binds (ps := ["pairs", "orders", "count"]) fun _ _ _ _ _ _ us hl => match us, hl with | [_, _, _], _ => rfl
  have m3 := PySem.W.mg_of X G a3
  have F4 := fun_mk (st := s_near) l4 c4 k4
  have b4 := F4.binds (ps := ["names"]) fun _ _ _ _ _ _ us hl => match us, hl with | [_], _ => rfl
  have m4 := PySem.W.mg_of X G a4
  have F5 := fun_mk (st := s__law_deal) l5 c5 k5
  have b5 := F5.binds (ps := ["_law_script", "_law_base"]) fun _ _ _ _ _ _ us hl => match us, hl with | [_, _], _ => rfl
  have m5 := PySem.W.mg_of X G a5
  have F6 := fun_mk (st := s_draw) l6 c6 k6
  have b6 := F6.binds (ps := ["_law_deal_here", "_law_wide"]) fun _ _ _ _ _ _ us hl => match us, hl with | [_, _], _ => rfl
  have m6 := PySem.W.mg_of X G a6
  have F7 := fun_mk (st := s__law_mixed) l7 c7 k7
  have b7 := F7.binds (ps := ["_law_deal_here", "_law_some"]) fun _ _ _ _ _ _ us hl => match us, hl with | [_, _], _ => rfl
  have m7 := PySem.W.mg_of X G a7
  have F8 := fun_mk (st := s__law_words) l8 c8 k8
  have b8 := F8.binds (ps := ["_law_deal_here", "_law_size"]) fun _ _ _ _ _ _ us hl => match us, hl with | [_, _], _ => rfl
  have m8 := PySem.W.mg_of X G a8
  have F9 := fun_mk (st := s__law_is_near) l9 c9 k9
  have b9 := F9.binds (ps := ["_law_called", "_law_told"]) fun _ _ _ _ _ _ us hl => match us, hl with | [_, _], _ => rfl
  have m9 := PySem.W.mg_of X G a9
  have F10 := fun_mk (st := s_law) l10 c10 k10
  have b10 := F10.binds (ps := ["_law_script"]) fun _ _ _ _ _ _ us hl => match us, hl with | [_], _ => rfl
  have m10 := PySem.W.mg_of X G a10
  have F11 := fun_mk (st := s_longer) l11 c11 k11
  have b11 := F11.binds (ps := ["rows", "names"]) fun _ _ _ _ _ _ us hl => match us, hl with | [_, _], _ => rfl
  have m11 := PySem.W.mg_of X G a11
  refine ⟨PySem.W.fnOf "law" "law" (defArgs s_law) (defBody s_law) (defScope s_law) .none kV10 dc10 pm10 an10 cd10 ct10, fun s v => .of_eq rfl, fun base _ _ => ?_⟩
  have CD : Cal l.prog w K mg base "_law_draw" 1 2 tfDraw := ⟨_, _, _, ok_draw F6 T, m6, k6, b6⟩
  have CM : CalF l.prog w K mg base "_law_mixed" 2 2 tfMixed := ⟨_, _, _, ok_law_mixed F7 T CD, m7, k7, b7⟩
  have CW : Cal l.prog w K mg base "_law_words" 3 2 tfWords := ⟨_, _, _, ok_law_words F8 T CM, m8, k8, b8⟩
  have CDeal : Cal l.prog w K mg base "_law_deal" 1 2 tfDeal := ⟨_, _, _, ok_law_deal F5 T, m5, k5, b5⟩
  have CI : Cal l.prog w K mg base "_law_is_near" 1 2 tfIsNears := Cal.any rfl (fun fn hf => ok_law_is_near F9 T hf.1 hf.2.1 hf.2.2) m9 k9 b9
  have CN : Cal l.prog w K mg base "near" 7 1 tfNears := Cal.any rfl (fun fn hf => by
    obtain ⟨h1, h4, hj⟩ := hf
    have CH : Cal l.prog w K mg base "held_by" 1 2 (tfHeld fn.1 fn.2) := ⟨_, _, _, ok_held_by F2 T h4 hj, m2, k2, b2⟩
    have CL : Cal l.prog w K mg base "longer" 1 2 (tfLon fn.1 fn.2) := ⟨_, _, _, ok_longer F11 T h4 hj, m11, k11, b11⟩
    have CO : Cal l.prog w K mg base "orders_of" 2 1 (tfOrd fn.1 fn.2) := ⟨_, _, _, ok_orders_of F1 T h4 hj CL, m1, k1, b1⟩
    have cov : ∀ c, c ≤ 4 → FnOk l.prog w K mg base CX0 (c + 1 + 1) f3 (PySem.W.fnOf "covering" "covering" (defArgs s_covering) (defBody s_covering) (defScope s_covering) .none kV3 dc3 pm3 an3 cd3 ct3) ["pairs", "orders", "count"] (spD K 3 (tfCov fn.1 fn.2 c)) := fun c => by
      induction c with
      | zero => exact fun hc => ok_covering F3 T h4 hj hc CH ⟨_, _, _, ⟨fun vs H Q E h => spD_len vs H Q E h, fun A outer s H args us vs Q E hr e0 hb hv hs => by
          obtain ⟨_, _, _, _, _, _, _, _, _, z, _⟩ := hs
          exact z.elim⟩, m3, k3, b3⟩
      | succ c ih => exact fun hc => ok_covering F3 T h4 hj hc CH ⟨_, _, _, ih (by omega), m3, k3, b3⟩
    have CC : Cal l.prog w K mg base "covering" 6 3 (tfCovs fn.1 fn.2) := Cal.any rfl (fun c hc => (cov c hc).mono (by omega)) m3 k3 b3
    exact ok_near F4 T h1 h4 hj CO CC) m4 k4 b4
  exact ok_law F10 T CDeal CM CW CN CI
theorem walk {l : PySem.W.OpenLaw} {q : Program} {loose : List Str} {XP : (Str → Option Value) → Heap → Prop} {YP : World → Heap → Prop} {d : DefRec} {K : Params → PySem.W.Frag} (hn : l.most = some 63) (hdf : d.params.defaults = [])
    (hY : ∀ (w : World) (h : Heap), YP w h → (K w.params).In h)
    (F : ∀ (w : World) (mg : Str → Option Value) (fa : Addr) (h : Heap), (K w.params).In h → h.Ns mainGlobals mg → mg d.name = some (.ref fa) →
      ∃ fd : FuncData, (∀ (s : Shared) (u : Value), BindsTo s fd ⟨[u], []⟩ [("_law_script", u)]) ∧ ∀ base : Heap, (K w.params).In base → base.Ns mainGlobals mg → FnOk l.prog w (K w.params) mg base CX0 8 fa fd ["_law_script"] (spLaw (K w.params))) :
    PySem.W.WalkO q loose XP YP l.row.toRowW d [] (fun f vs => PySem.call f vs) :=
  L2.walk_of (n := 63) (k := 8) (x := "_law_script") (CX := fun _ => CX0) (sp := fun w => spLaw (K w.params)) hn (by decide) hdf ⟨rfl, by decide, by decide⟩ hY F (fun _ _ a ns hl _ hS => ⟨a, ns, rfl, hS, hl, fun _ => rfl⟩) fun _ _ _ _ _ z => z
end K44
open PySem PySem.W PyProof.Rows
set_option maxRecDepth 100000 in
set_option maxHeartbeats 0 in
theorem PySem.Challenge.cw_poisonruns_k44_orders_that_stand_near_holds : PySem.Challenge.rw_poisonruns_k44_orders_that_stand_near.Holds := by
  w_on; o_law; k_head; (case hw => w_witness2)
  k_fill
  refine K44.walk (l := PySem.Challenge.rw_poisonruns_k44_orders_that_stand_near) rfl rfl (fun w h Y => PySem.W.kIn_of Y) ?F
  case F =>
    intro w mg fa h KX G hmg
    refine' K44.all_mk KX G hmg ?a1 ?l1 ?c1 ?k1 ?a2 ?l2 ?c2 ?k2 ?a3 ?l3 ?c3 ?k3 ?a4 ?l4 ?c4 ?k4 ?a5 ?l5 ?c5 ?k5 ?a6 ?l6 ?c6 ?k6 ?a7 ?l7 ?c7 ?k7 ?a8 ?l8 ?c8 ?k8 ?a9 ?l9 ?c9 ?k9 ?a10 ?l10 ?c10 ?k10 ?a11 ?l11 ?c11 ?k11 ?z1 ?z2 ?z3 ?z4 ?z5 ?z6 ?z7 ?z8 ?z9
    (case a1 => k_is); (case l1 => k_is); (case c1 => k_is); (case k1 => k_is)
    (case a2 => k_is); (case l2 => k_is); (case c2 => k_is); (case k2 => k_is)
    (case a3 => k_is); (case l3 => k_is); (case c3 => k_is); (case k3 => k_is)
    (case a4 => k_is); (case l4 => k_is); (case c4 => k_is); (case k4 => k_is)
    (case a5 => k_is); (case l5 => k_is); (case c5 => k_is); (case k5 => k_is)
    (case a6 => k_is); (case l6 => k_is); (case c6 => k_is); (case k6 => k_is)
    (case a7 => k_is); (case l7 => k_is); (case c7 => k_is); (case k7 => k_is)
    (case a8 => k_is); (case l8 => k_is); (case c8 => k_is); (case k8 => k_is)
    (case a9 => k_is); (case l9 => k_is); (case c9 => k_is); (case k9 => k_is)
    (case a10 => k_is); (case l10 => k_is); (case c10 => k_is); (case k10 => k_is)
    (case a11 => k_is); (case l11 => k_is); (case c11 => k_is); (case k11 => k_is)
    (case z1 => k_is)
    (case z2 => k_is)
    (case z3 => k_is)
    (case z4 => k_is)
    (case z5 => k_is)
    (case z6 => k_is)
    (case z7 => k_is)
    (case z8 => k_is)
    (case z9 => k_is)
