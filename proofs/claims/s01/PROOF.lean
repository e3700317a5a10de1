import PyProof.Rows.All
import Wide.All
import OpenK.AllK
import Wide.FinOn
import PyProof.EqAt
import PyProof.EqKinds
import PyProof.TupleCall
import KE.BitLaws
import Open.SpecLaws
import KE.OsHead
import KE.OsGo
import PySem.SetOps
import PyProof.SetScanFacts
import PyProof.Rows.SetFrom
import PyProof.DictWalks
import KE.KDictList
import KE.KDictSum
import PyProof.Rows.SortShellAny
import PySem.Challenge.RW_pinchanneldesk_s01_answers
import PyVbpcao
set_option Elab.async false
set_option linter.all false
set_option maxRecDepth 100000
set_option maxHeartbeats 4000000
theorem lnm {A B : Type} {l : List A} (f : A -> B) : (List.map f l).length = l.length := List.length_map f
theorem dte {p : Prop} [Decidable p] : (decide p = true) = p := decide_eq_true_eq
theorem lna {A : Type} {l r : List A} : (l ++ r).length = l.length + r.length := List.length_append
theorem lnc {A : Type} {a : A} {l : List A} : (a :: l).length = l.length + 1 := List.length_cons
theorem lnt {A : Type} {i : Nat} {l : List A} : (List.take i l).length = min i l.length := List.length_take
theorem gem {A B : Type} {f : A -> B} {l : List A} {i : Nat} : (List.map f l)[i]? = Option.map f l[i]? := List.getElem?_map
theorem lnr {n : Nat} : (List.range n).length = n := List.length_range
namespace L2
open PySem PySem.Spec PyProof.Rows
abbrev Key := Sum Int Str
def keyIs : Key -> Value -> Bool
 | .inl k, v => Value.isInt k v
 | .inr x, v => Value.isStrOf x v
def keyH (w : World) : Key -> Int
 | .inl k => hashInt k
 | .inr x => hashStr w x
theorem keyIs_shape : ∀ {k : Key} {v : Value}, keyIs k v = true -> (∃ i t, k = Sum.inl i /\ v = Value.int i t) ∨ (∃ x t, k = Sum.inr x /\ v = Value.str x t)
 | .inl i, v, h => by
  obtain ⟨t, e⟩ := Value.isInt_shape (k := i) (v := v) h
  exact .inl ⟨i, t, rfl, e⟩
 | .inr x, v, h => by
  obtain ⟨t, e⟩ := Value.isStrOf_shape (x := x) (v := v) h
  exact .inr ⟨x, t, rfl, e⟩
theorem keyIs_int (i : Int) (t : Tok) : keyIs (.inl i) (.int i t) = true := by simp [keyIs, Value.isInt]
theorem keyIs_str (x : Str) (t : Tok) : keyIs (.inr x) (.str x t) = true := by simp [keyIs, Value.isStrOf]
theorem key_ll (a b : Int) : decide ((Sum.inl a : Key) = Sum.inl b) = (a == b) := by
 by_cases e : a = b
 ·subst e; simp
 ·have h : ¬ (Sum.inl a : Key) = Sum.inl b := λ q => e (Sum.inl.inj q)
  rw [decide_eq_false h]
  exact (beq_eq_false_iff_ne.mpr e).symm
theorem key_rr (a b : Str) : decide ((Sum.inr a : Key) = Sum.inr b) = decide (a = b) := by
 by_cases e : a = b
 ·subst e; simp
 ·have h : ¬ (Sum.inr a : Key) = Sum.inr b := λ q => e (Sum.inr.inj q)
  rw [decide_eq_false h, decide_eq_false e]
theorem key_lr (a : Int) (b : Str) : decide ((Sum.inl a : Key) = Sum.inr b) = false := decide_eq_false (λ q => nomatch q)
theorem key_rl (a : Str) (b : Int) : decide ((Sum.inr a : Key) = Sum.inl b) = false := decide_eq_false (λ q => nomatch q)
def mixKind (prog : Program) (w : World) : PySem.KeyKind prog w Key where
 is := keyIs
 hash := keyH w
 inj := λ v a b ha hb => by
  rcases keyIs_shape ha with ⟨i, t, rfl, rfl⟩ | ⟨x, t, rfl, rfl⟩
  ·rcases keyIs_shape hb with ⟨j, u, rfl, e⟩ | ⟨y, u, rfl, e⟩
   ·injection e with e1 _; rw [e1]
   ·exact nomatch e
  ·rcases keyIs_shape hb with ⟨j, u, rfl, e⟩ | ⟨y, u, rfl, e⟩
   ·exact nomatch e
   ·injection e with e1 _; rw [e1]
 byValue := λ k v h => by
  rcases keyIs_shape h with ⟨i, t, rfl, rfl⟩ | ⟨x, t, rfl, rfl⟩ <;> rfl
 pyHash := λ hv h => by
  rcases keyIs_shape hv with ⟨i, t, rfl, rfl⟩ | ⟨x, t, rfl, rfl⟩
  ·exact wpAny_pyHash_int h
  ·exact wpAny_pyHash_str h
 eqBool := λ hu hv h => by
  rcases keyIs_shape hu with ⟨i, t, rfl, rfl⟩ | ⟨x, t, rfl, rfl⟩
  ·rcases keyIs_shape hv with ⟨j, u, rfl, rfl⟩ | ⟨y, u, rfl, rfl⟩
   ·rw [key_ll] at h; exact wpAny_eqBool_int h
   ·rw [key_lr] at h; exact SeqAt.EqAt.int_str i t y u _ _ _ _ h
  ·rcases keyIs_shape hv with ⟨j, u, rfl, rfl⟩ | ⟨y, u, rfl, rfl⟩
   ·rw [key_rl] at h; exact SeqAt.EqAt.str_int x t j u _ _ _ _ h
   ·rw [key_rr] at h; exact wpAny_eqBool_str h
 «strs» := λ k x t v h => by
  rcases keyIs_shape h with ⟨i, u, rfl, e⟩ | ⟨y, u, rfl, e⟩
  ·exact nomatch e
  ·injection e with e1 _
   subst e1
   cases v <;> rfl
theorem mixKind_int (prog : Program) (w : World) (i : Int) (t : Tok) : (mixKind prog w).is (.inl i) (.int i t) = true := keyIs_int i t
theorem mixKind_str (prog : Program) (w : World) (x : Str) (t : Tok) : (mixKind prog w).is (.inr x) (.str x t) = true := keyIs_str x t
end L2
namespace L2
open PySem PySem.Spec PyProof.Rows
inductive V where
 | non | bl (b : Bool) | int (i : Int) | str (x : Str) | byt (b : Array UInt8) | flt (b : UInt64) | ref (a : Addr) | ty (n : String) | tok (i : Int)
 deriving DecidableEq
def RelV : V -> Value -> Prop
 | .non, u => u = Value.none
 | .bl b, u => u = Value.bool b
 | .int i, u => ∃ t, u = Value.int i t
 | .str x, u => ∃ t, u = Value.str x t
 | .byt b, u => ∃ t, u = Value.bytes b t
 | .flt b, u => ∃ t, u = Value.float b t
 | .ref a, u => u = Value.ref a
 | .ty n, u => u = Value.type n
 | .tok i, u => ∃ t : Tok, t ≠ 0 /\ u = Value.int i t
abbrev Vals : List V -> List Value -> Prop := Paired RelV
theorem Vals.length {xs : List V} {us : List Value} (r : Vals xs us) : xs.length = us.length := Paired.length r
theorem Vals.get : ∀ {xs : List V} {us : List Value} {i : Nat} {x : V}, Vals xs us -> xs[i]? = some x -> ∃ u, us[i]? = some u /\ RelV x u
 | _, _, _, _, .nil, e => by simp at e
 | _, _, 0, _, .cons r _, e => by simp at e; subst e; exact ⟨_, rfl, r⟩
 | _, _, i + 1, x, .cons _ t, e => by
  obtain ⟨u, h1, h2⟩ := Vals.get (i := i) (x := x) t (by simpa using e)
  exact ⟨u, by simpa using h1, h2⟩
theorem Vals.set {x : V} {u : Value} (r : RelV x u) : ∀ {xs : List V} {us : List Value} (i : Nat), Vals xs us -> Vals (xs.set i x) (us.set i u)
 | _, _, _, .nil => .nil
 | _, _, 0, .cons _ t => .cons r t
 | _, _, i + 1, .cons q t => .cons q (Vals.set r i t)
theorem Vals.append : ∀ {xs ys : List V} {us ws : List Value}, Vals xs us -> Vals ys ws -> Vals (xs ++ ys) (us ++ ws)
 | _, _, _, _, .nil, s => s
 | _, _, _, _, .cons r t, s => .cons r (Vals.append t s)
theorem Vals.take : ∀ {xs : List V} {us : List Value} (n : Nat), Vals xs us -> Vals (xs.take n) (us.take n)
 | _, _, 0, _ => .nil
 | _, _, _ + 1, .nil => .nil
 | _, _, n + 1, .cons r t => .cons r (Vals.take n t)
theorem Vals.drop : ∀ {xs : List V} {us : List Value} (n : Nat), Vals xs us -> Vals (xs.drop n) (us.drop n)
 | _, _, 0, r => r
 | _, _, _ + 1, .nil => .nil
 | _, _, n + 1, .cons _ t => Vals.drop n t
def RelO : Option V -> Option Value -> Prop
 | some v, some u => RelV v u
 | none, none => True
 | _, _ => False
def KV {κ : Type} : List (κ × V) -> List (κ × Value) -> Prop := Paired λ (p : κ × V) (q : κ × Value) => p.1 = q.1 /\ RelV p.2 q.2
def kV : Key -> V
 | .inl i => .int i
 | .inr x => .str x
inductive HO where
 | lst (xs : List V)
 | tup (xs : List V)
 | dK (kvs : List (Key × V)) | dT (kvs : List (List Key × V))
 | set (S : Int -> Bool) (n : Nat)
 | ins (C dx : Addr) (fs : List (Str × V))
 | own (x : Addr)
 | xd (fs : List (Str × V))
 | met (f x : Addr)
 | rng (lo hi : Int)
 | frz (o : Obj) (u : HO)
 | tbl (ps : Array Value)
 | ext (φ : Heap -> Prop)
abbrev Hp := Addr -> Option HO
def upd (H : Hp) (a : Addr) (o : HO) : Hp := λ b => if b = a then some o else H b
theorem upd_same {H : Hp} {a : Addr} {o : HO} : upd H a o a = some o := by unfold upd; rw [if_pos rfl]
theorem upd_ne {H : Hp} {a b : Addr} {o : HO} (h : b ≠ a) : upd H a o b = H b := by unfold upd; rw [if_neg h]
theorem upd_upd {H : Hp} {a : Addr} {o u : HO} : upd (upd H a o) a u = upd H a u := by
 funext b; unfold upd; split <;> rfl
theorem ne_of {H : Hp} {a b : Addr} {o u : HO} (h : H a = some o) (h' : H b = some u) (d : o ≠ u) : a ≠ b := by
 intro e; subst e; rw [h] at h'; exact d (Option.some.inj h')
theorem ne_of_none {H : Hp} {a b : Addr} {o : HO} (h : H a = some o) (h' : H b = none) : a ≠ b := by
 intro e; subst e; rw [h] at h'; cases h'
section
variable (P : Program) (w : World)
def ObjOk (H : Hp) (h : Heap) (a : Addr) : HO -> Prop
 | .lst xs => xs.length <= sizeLine /\ ∃ (its : List Value) (n : Nat), Vals xs its /\ h.get? a = some { cls := .type "list", data := .seq its.toArray n }
 | .tup xs => xs.length <= sizeLine /\ ∃ its : List Value, Vals xs its /\ IsTup h a its.toArray
 | .dK kvs => kvs.length <= sizeLine /\ (a == sysModules) = false /\ ∃ vs, KV kvs vs /\ h.DictOf (mixKind P w) a vs
 | .dT kvs => kvs.length <= sizeLine /\ (a == sysModules) = false /\ ∃ xs : List (List Key × Addr × Value),
   Paired (λ (p : List Key × V) (q : List Key × Addr × Value) => p.1 = q.1 /\ H q.2.1 = some (.tup (p.1.map kV)) /\ RelV p.2 q.2.2) kvs xs /\
   ∃ o es ep, h.get? a = some o /\ o.ExactDict /\ o.data = .dict es ep /\ es.toList = xs.map (entryOfKey (tupleKind (mixKind P w))) /\ (xs.map (·.1)).Nodup
 | .set S n => h.SetOf (intKind P w) a S n
 | .ins C dx fs => H dx = some (.own a) /\ fs.length <= 1000 /\ dx ≠ a /\ h.get? a = some (PySem.W.instObj C dx) /\
   ∃ mA, h.Ns1 dx mA /\ (∀ f, RelO (fs.lookup f) (mA f)) /\ PySem.Within mA (fs.map (·.1))
 | .own _ => ∃ o, h.get? a = some o
 | .xd fs => ∃ mA, h.Ns1 a mA /\ ∀ f, RelO (fs.lookup f) (mA f)
 | .rng lo hi => ∃ t u v, h.get? a = some { cls := .type "range", data := .fields #[.int lo t, .int hi u, .int 1 v] }
 | .frz o u => h.get? a = some o /\ ObjOk H h a u
 | .tbl ps => h.get? a = some { cls := .none, data := .fields ps }
 | .met f x => h.get? a = some (PySem.W.methodObj (.ref f) (.ref x))
 | .ext φ => φ h /\ (∃ o, h.get? a = some o) /\ ∀ h1 h2 : Heap, φ h1 -> (∀ o, h1.get? a = some o -> h2.get? a = some o) -> φ h2
def HOk (H : Hp) (h : Heap) : Prop := ∀ a o, H a = some o -> ObjOk P w H h a o
end
section
variable {P : Program} {w : World} {H H' : Hp} {h h' : Heap} {a : Addr} {o : HO}
theorem ObjOk.lt (x : ObjOk P w H h a o) : a < h.objs.size := by
 cases o with
 | lst xs => obtain ⟨_, _, _, _, e⟩ := x; exact Heap.lt_size e
 | tup xs => obtain ⟨_, _, _, p⟩ := x; exact p.lt
 | dK kvs => obtain ⟨_, _, _, _, o, _, _, e, _⟩ := x; exact Heap.lt_size e
 | dT kvs => obtain ⟨_, _, _, _, o, _, _, e, _⟩ := x; exact Heap.lt_size e
 | set S n => obtain ⟨o, _, _, _, e, _⟩ := x; exact Heap.lt_size e
 | ins C dx fs => obtain ⟨_, _, _, e, _⟩ := x; exact Heap.lt_size e
 | own y => obtain ⟨_, e⟩ := x; exact Heap.lt_size e
 | xd fs => obtain ⟨_, ⟨_, _, _, e, _⟩, _⟩ := x; exact Heap.lt_size e
 | rng lo hi => obtain ⟨_, _, _, e⟩ := x; exact Heap.lt_size e
 | frz ob u => obtain ⟨e, _⟩ := x; exact Heap.lt_size e
 | tbl ps => exact Heap.lt_size (show h.get? a = some _ from x)
 | met f y => exact Heap.lt_size (show h.get? a = some _ from x)
 | ext φ => obtain ⟨_, ⟨_, e⟩, _⟩ := x; exact Heap.lt_size e
theorem Paired.mapP {α β : Type} {F G : α -> β -> Prop} : ∀ {l₁ : List α} {l₂ : List β}, Paired F l₁ l₂ -> (∀ a b, F a b -> G a b) -> Paired G l₁ l₂
 | _, _, .nil, _ => .nil
 | _, _, .cons r t, f => .cons (f _ _ r) (Paired.mapP t f)
theorem ObjOk.stay (x : ObjOk P w H h a o) (k : ∀ b u, (b = a ∨ H b = some (.own a)) -> h.get? b = some u -> h'.get? b = some u)
  (ho : ∀ b, H b = some (.own a) -> H' b = some (.own a)) (ht : ∀ b xs, H b = some (.tup xs) -> H' b = some (.tup xs)) : ObjOk P w H' h' a o := by
 induction o with
 | lst xs => obtain ⟨z, its, n, r, e⟩ := x; exact ⟨z, its, n, r, k _ _ (.inl rfl) e⟩
 | tup xs => obtain ⟨z, its, r, ob, e, c⟩ := x; exact ⟨z, its, r, ob, k _ _ (.inl rfl) e, c⟩
 | dK kvs => obtain ⟨z, y, vs, r, ob, es, ep, e, c⟩ := x; exact ⟨z, y, vs, r, ob, es, ep, k _ _ (.inl rfl) e, c⟩
 | dT kvs =>
  obtain ⟨z, y, xs, r, ob, es, ep, e, c⟩ := x
  exact ⟨z, y, xs, Paired.mapP r λ p q z => ⟨z.1, ht _ _ z.2.1, z.2.2⟩, ob, es, ep, k _ _ (.inl rfl) e, c⟩
 | set S n => obtain ⟨ob, es, ep, t, e, c⟩ := x; exact ⟨ob, es, ep, t, k _ _ (.inl rfl) e, c⟩
 | ins C dx fs =>
  obtain ⟨d, z, ne, e, mA, ⟨od, es, ep, e2, c⟩, r⟩ := x
  exact ⟨ho _ d, z, ne, k _ _ (.inl rfl) e, mA, ⟨od, es, ep, k _ _ (.inr d) e2, c⟩, r⟩
 | own y => obtain ⟨ob, e⟩ := x; exact ⟨ob, k _ _ (.inl rfl) e⟩
 | xd fs => obtain ⟨mA, ⟨od, es, ep, e, c⟩, r⟩ := x; exact ⟨mA, ⟨od, es, ep, k _ _ (.inl rfl) e, c⟩, r⟩
 | rng lo hi => obtain ⟨t, u, v, e⟩ := x; exact ⟨t, u, v, k _ _ (.inl rfl) e⟩
 | frz ob u ih => obtain ⟨e, q⟩ := x; exact ⟨k _ _ (.inl rfl) e, ih q⟩
 | tbl ps =>
  have e : h.get? a = some { cls := .none, data := .fields ps } := x
  show h'.get? a = some { cls := .none, data := .fields ps }
  exact k a _ (.inl rfl) e
 | met f y =>
  have e : h.get? a = some (PySem.W.methodObj (.ref f) (.ref y)) := x
  show h'.get? a = some (PySem.W.methodObj (.ref f) (.ref y))
  exact k a _ (.inl rfl) e
 | ext φ => obtain ⟨p, ⟨o, e⟩, st⟩ := x; exact ⟨st _ _ p λ o q => k _ _ (.inl rfl) q, ⟨o, k _ _ (.inl rfl) e⟩, st⟩
theorem HOk.lt (x : HOk P w H h) (e : H a = some o) : a < h.objs.size := (x a o e).lt
theorem HOk.fresh (x : HOk P w H h) (e : h.objs.size <= a) : H a = none := by
 cases q : H a with
 | none => rfl
 | some u => exact absurd (Nat.lt_of_lt_of_le (x.lt q) e) (Nat.lt_irrefl _)
theorem HOk.kept (x : HOk P w H h) (k : ∀ b u, h.get? b = some u -> h'.get? b = some u) : HOk P w H h' := λ a o e =>
 (x a o e).stay (λ b u _ q => k b u q) (λ _ q => q) λ _ _ q => q
theorem HOk.laid (x : HOk P w H h) (k : ∀ b u, h.get? b = some u -> h'.get? b = some u) (hp : h.objs.size <= a) (new : ObjOk P w (upd H a o) h' a o) : HOk P w (upd H a o) h' := λ b u e => by
 have hn := x.fresh hp
 by_cases hb : b = a
 ·subst hb; rw [upd_same] at e; cases e; exact new
 ·rw [upd_ne hb] at e
  exact (x b u e).stay (λ c v _ q => k c v q) (λ c q => by rw [upd_ne (ne_of_none q hn)]; exact q) λ c xs q => by rw [upd_ne (ne_of_none q hn)]; exact q
end
def Rd (H : Hp) (a : Addr) (u : HO) : Prop := H a = some u ∨ ∃ o, H a = some (.frz o u)
theorem Rd.ok {P : Program} {w : World} {H : Hp} {h : Heap} {a : Addr} {u : HO} (r : Rd H a u) (x : HOk P w H h) : ObjOk P w H h a u := by
 rcases r with r | ⟨o, r⟩
 ·exact x a u r
 ·obtain ⟨_, q⟩ := x a _ r
  exact q
def Mut : Option HO -> Prop
 | some (.lst _) => True
 | some (.dK _) => True
 | some (.dT _) => True
 | some (.set _ _) => True
 | some (.ins _ _ _) => True
 | some (.ext _) => True
 | _ => False
section
variable {P : Program} {w : World} {H : Hp} {h h' : Heap} {x e : Addr} {o' : HO}
theorem HOk.write (ok : HOk P w H h) (mu : Mut (H x)) (he : e = x ∨ H e = some (.own x)) (k : ∀ b u, b ≠ e -> h.get? b = some u -> h'.get? b = some u) (heo : ∃ u, h'.get? e = some u)
  (new : ObjOk P w (upd H x o') h' x o') : HOk P w (upd H x o') h' := λ b u q => by
 have nown : ∀ c y, H c = some (.own y) -> c ≠ x := λ c y r z => by subst z; rw [r] at mu; exact mu
 have ntup : ∀ c xs, H c = some (.tup xs) -> c ≠ x := λ c xs r z => by subst z; rw [r] at mu; exact mu
 by_cases hb : b = x
 ·subst hb; rw [upd_same] at q; cases q; exact new
 ·rw [upd_ne hb] at q
  by_cases hbe : b = e
  ·have q' : H b = some (.own x) := by
    rcases he with z | z
    ·exact absurd (hbe.trans z) hb
    ·rw [hbe]; exact z
   rw [q] at q'; cases q'
   obtain ⟨v, hv⟩ := heo
   exact ⟨v, by rw [hbe]; exact hv⟩
  ·refine (ok b u q).stay (λ c v hc r => k c v ?_ r) (λ c r => by rw [upd_ne (nown c b r)]; exact r) λ c xs r => by rw [upd_ne (ntup c xs r)]; exact r
   rcases hc with rfl | hc
   ·exact hbe
   ·rintro rfl
    rcases he with z | z
    ·exact nown c b hc z
    ·rw [hc] at z; cases z; exact hb rfl
end
structure Un (fs ex : List Addr) (H H' : Hp) (h h' : Heap) : Prop where
 keep : ∀ b o, h.get? b = some o -> H b = none -> b ∉ fs -> b ∉ ex -> h'.get? b = some o
 slot : ∀ b o, h.get? b = some o -> H b = none -> b ∈ fs -> b ∉ ex -> ∃ sl, h'.get? b = some { o with slots := sl }
 free : ∀ b o, h.get? b = some o -> H b = none -> b ∉ ex -> H' b = none
 there : ∀ b o, h.get? b = some o -> b ∉ ex -> ∃ o', h'.get? b = some o'
 tups : ∀ b xs, H b = some (.tup xs) -> H' b = some (.tup xs)
 frzs : ∀ b o u, H b = some (.frz o u) -> H' b = some (.frz o u)
 tbls : ∀ b ps, H b = some (.tbl ps) -> ∃ more, H' b = some (.tbl (ps ++ more))
section
variable {fs fs' ex ex' : List Addr} {H H1 H2 : Hp} {h h1 h2 h' : Heap} {a x e : Addr} {o : HO}
theorem Un.any (u : Un fs ex H H1 h h1) {b : Addr} {ob : Obj} (q : h.get? b = some ob) (n : H b = none) (hx : b ∉ ex) : ∃ sl, h1.get? b = some { ob with slots := sl } := by
 by_cases hb : b ∈ fs
 ·exact u.slot b ob q n hb hx
 ·exact ⟨ob.slots, u.keep b ob q n hb hx⟩
theorem Un.kept (k : ∀ b u, h.get? b = some u -> h'.get? b = some u) : Un fs ex H H h h' :=
 ⟨λ b ob q _ _ _ => k b ob q, λ b ob q _ _ _ => ⟨ob.slots, k b ob q⟩, λ _ _ _ n _ => n, λ b ob q _ => ⟨ob, k b ob q⟩, λ _ _ q => q, λ _ _ _ q => q, λ _ ps q => ⟨#[], by rw [q]; simp⟩⟩
theorem Un.refl : Un fs ex H H h h := Un.kept λ _ _ q => q
theorem Un.laid (k : ∀ b u, h.get? b = some u -> h'.get? b = some u) (hp : h.objs.size <= a) (hn : H a = none) : Un fs ex H (upd H a o) h h' where
 keep := λ b u q _ _ _ => k b u q
 slot := λ b u q _ _ _ => ⟨u.slots, k b u q⟩
 free := λ b u q n _ => by rw [upd_ne (Nat.ne_of_lt (Nat.lt_of_lt_of_le (Heap.lt_size q) hp))]; exact n
 there := λ b u q _ => ⟨u, k b u q⟩
 tups := λ b xs q => by rw [upd_ne (ne_of_none q hn)]; exact q
 frzs := λ b u xs q => by rw [upd_ne (ne_of_none q hn)]; exact q
 tbls := λ b ps q => ⟨#[], by rw [upd_ne (ne_of_none q hn), q]; simp⟩
theorem Un.write (mu : Mut (H x)) (he : e = x ∨ H e = some (.own x)) (k : ∀ b u, b ≠ e -> h.get? b = some u -> h'.get? b = some u) (heo : ∃ u, h'.get? e = some u) : Un fs ex H (upd H x o) h h' := by
 have hx : ∀ b, H b = none -> b ≠ x := λ b n z => by subst z; rw [n] at mu; exact mu
 have hb : ∀ b, H b = none -> b ≠ e := λ b n z => by
  subst z
  rcases he with r | r
  ·exact hx b n r
  ·rw [n] at r; cases r
 have hm : ∀ b u, H b = some u -> ¬ Mut (some u) -> b ≠ x := λ b u q nm z => by subst z; rw [q] at mu; exact nm mu
 refine ⟨λ b u q n _ _ => k b u (hb b n) q, λ b u q n _ _ => ⟨u.slots, k b u (hb b n) q⟩, λ b u q n _ => by rw [upd_ne (hx b n)]; exact n, λ b u q _ => ?_,
  λ b xs q => by rw [upd_ne (hm b _ q λ z => z)]; exact q, λ b u xs q => by rw [upd_ne (hm b _ q λ z => z)]; exact q, λ b ps q => ⟨#[], by rw [upd_ne (hm b _ q λ z => z), q]; simp⟩⟩
 by_cases hbe : b = e
 ·subst hbe; exact heo
 ·exact ⟨u, k b u hbe q⟩
end
def trk (h : Heap) (H : Hp) : List Addr := (List.range h.objs.size).filter λ a => (H a).isSome
def hidT (h : Heap) (H : Hp) : Heap := PySem.W.hideAll h (trk h H)
theorem hidT_size (h : Heap) (H : Hp) : (hidT h H).objs.size = h.objs.size := PySem.W.hideAll_size _ _
theorem hidT_get {h : Heap} {H : Hp} {b : Addr} {o : Obj} (e : h.get? b = some o) (n : H b = none) : (hidT h H).get? b = some o :=
 PySem.W.hideAll_get _ e λ hm => by
  have q : (H b).isSome = true := (List.mem_filter.mp hm).2
  rw [n] at q; simp at q
theorem of_hidT {h : Heap} {H : Hp} {b : Addr} {o : Obj} (e : (hidT h H).get? b = some o) : h.get? b = some o /\ H b = none := by
 have e' : h.get? b = some o := PySem.W.of_hideAll (trk h H) e
 refine ⟨e', ?_⟩
 cases q : H b with
 | none => rfl
 | some x =>
  have hm : b ∈ trk h H := List.mem_filter.mpr ⟨List.mem_range.mpr (Heap.lt_size e'), by simp [q]⟩
  have z : (hidT h H).get? b = none := PySem.W.hideAll_none (trk h H) hm
  rw [z] at e; cases e
end L2
namespace L2
open PySem PySem.Spec PyProof.Rows
structure Mod (K : PySem.W.Frag) (mg : Str -> Option Value) (base : Heap) : Prop where
 kin : K.In base
 glob : base.Ns mainGlobals mg
 blt : ∃ mb, base.Ns builtinsNs mb /\ ∀ x : Str, x ≠ "__name__" -> mb x = bootBuiltins x
 nolimit : base.NoLimit
structure Cx where
 prog : Program
 w : World
 K : PySem.W.Frag
 mg : Str -> Option Value
 base : Heap
 A : Around
 N : List Str
 s_0 : Shared
 H_0 : Hp
 env : Env
 outer : List Env
 stack : List Env
 ex : List Addr
 fn : Str -> Bool
 calm : Bool
 pn : List (Addr × Obj)
 xe : Value -> Shared -> Prop
def frs (l : List Env) : List Addr := l.filterMap (·.frame)
abbrev Cx.fs (X : Cx) : List Addr := frs X.outer
def Vis (sc : Scope) (x : Str) : Prop := sc.names.lookup x = some .local ∨ sc.names.lookup x = some .cell ∨ sc.names.lookup x = some .free
def Loc (sc : Scope) (x : Str) : Prop := sc.names.lookup x = some .local ∨ sc.names.lookup x = some .cell
def Look (env : Env) (h : Heap) (m : Str -> Option Value) (x : Str) (u : Value) : Prop :=
 (env.kindOf x = some .local /\ m x = some u) ∨ ((env.kindOf x = some .cell ∨ env.kindOf x = some .free) /\ ∃ c, env.cells.lookup x = some c /\ h.IsCell c (some u))
structure Cx.Ok (X : Cx) : Prop where
 mod : Mod X.K X.mg X.base
 kind : X.env.scope.kind = .function
 glob : X.env.globals = mainGlobals
 blt : X.env.builtins = builtinsNs
 above : X.s_0.heap.objs.size <= X.env.locals
 inj : ∀ x y c, X.env.cells.lookup x = some c -> X.env.cells.lookup y = some c -> x = y
 has : ∀ x, (X.env.kindOf x = some .cell ∨ X.env.kindOf x = some .free) -> ∃ c, X.env.cells.lookup x = some c
 cab : ∀ x c, X.fn x = true -> X.env.cells.lookup x = some c -> X.s_0.heap.objs.size <= c
 hd : X.calm = true -> X.A.handled = none
 frames : X.A.frames = some X.stack
 stk : X.stack = X.outer ∨ (X.stack = X.env :: X.outer /\ X.env.frame = some X.env.locals)
 exf : ∀ b ∈ X.ex, b ≠ X.env.locals /\ ∀ x c, X.env.cells.lookup x = some c -> c ≠ b
 bs : ∀ b o, X.base.get? b = some o -> X.s_0.heap.get? b = some o /\ X.H_0 b = none
 bsz : X.base.objs.size <= X.s_0.heap.objs.size
 noex : ∀ b o, X.base.get? b = some o -> b ∉ X.ex
 exfs : ∀ b ∈ X.ex, b ∉ X.fs
 funs : X.s_0.heap.FunFrames X.base X.outer
 frf : ∀ b ∈ X.fs, X.H_0 b = none
structure Inv (X : Cx) (pins : List (Addr × Obj)) (σ : List (Option V)) (H : Hp) (s : Shared) : Prop where
 ok : X.Ok
 os : s.os = X.s_0.os
 bare : AllBare s.gens
 base : Un X.fs X.ex X.H_0 H X.s_0.heap s.heap
 loc : ∃ m, s.heap.Ns X.env.locals m /\ ∀ (i : Nat) (x : Str) (v : V), X.N[i]? = some x -> σ[i]? = some (some v) -> Vis X.env.scope x -> ∃ u, RelV v u /\ Look X.env s.heap m x u
 cell : ∀ x c, X.env.cells.lookup x = some c -> ∃ v, s.heap.IsCell c v
 free : H X.env.locals = none
 freeC : ∀ x c, X.env.cells.lookup x = some c -> H c = none
 pin : ∀ p ∈ X.pn ++ pins, s.heap.get? p.1 = some p.2 /\ H p.1 = none /\ p.1 ≠ X.env.locals /\ p.1 ∉ X.fs /\ ∀ v, p.2.data ≠ .cell v
 hok : HOk X.prog X.w H s.heap
 len : σ.length = X.N.length
section
variable {X : Cx} {pins : List (Addr × Obj)} {σ : List (Option V)} {H H' : Hp} {s : Shared} {h' : Heap}
theorem Cx.Ok.nofr (ok : X.Ok) {b : Addr} {o : Obj} (e : X.base.get? b = some o) : b ∉ X.fs := λ hb => by
 have := (ok.funs.mem hb).1
 rw [e] at this; cases this
theorem Inv.bs (I : Inv X pins σ H s) : ∀ b o, X.base.get? b = some o -> s.heap.get? b = some o /\ H b = none := λ b o e =>
 ⟨I.base.keep b o (I.ok.bs b o e).1 (I.ok.bs b o e).2 (I.ok.nofr e) (I.ok.noex b o e), I.base.free b o (I.ok.bs b o e).1 (I.ok.bs b o e).2 (I.ok.noex b o e)⟩
theorem Inv.bk (I : Inv X pins σ H s) : ∀ b o, X.base.get? b = some o -> s.heap.get? b = some o := λ b o e => (I.bs b o e).1
theorem Inv.mod (I : Inv X pins σ H s) : Mod X.K X.mg X.base := I.ok.mod
theorem Inv.kIn (I : Inv X pins σ H s) : X.K.In s.heap := I.ok.mod.kin.keeps I.bk
theorem Inv.lt (I : Inv X pins σ H s) : X.env.locals < s.heap.objs.size := let ⟨_, hn, _⟩ := I.loc; hn.lt
theorem Inv.sz (I : Inv X pins σ H s) : X.s_0.heap.objs.size <= s.heap.objs.size := Nat.le_trans I.ok.above (Nat.le_of_lt I.lt)
theorem Inv.nofs (I : Inv X pins σ H s) {a : Addr} (h : s.heap.objs.size <= a) : a ∉ X.fs := λ hb => by
 obtain ⟨_, o, ho, _⟩ := I.ok.funs.mem hb
 exact absurd (Nat.lt_of_lt_of_le (Heap.lt_size ho) (Nat.le_trans I.sz h)) (Nat.lt_irrefl _)
theorem Inv.cne (I : Inv X pins σ H s) : ∀ x c, X.env.cells.lookup x = some c -> c ≠ X.env.locals := λ x c e z => by
 obtain ⟨v, o, ho, hd⟩ := I.cell x c e
 obtain ⟨m, ⟨o', es, ep, ho', hd', _⟩, _⟩ := I.loc
 rw [z, ho'] at ho; cases ho; rw [hd'] at hd; cases hd
theorem Inv.funs (I : Inv X pins σ H s) : s.heap.FunFrames X.base X.outer := by
 have all : ∀ (l : List Env), (∀ b ∈ frs l, b ∈ X.fs) -> X.s_0.heap.FunFrames X.base l -> s.heap.FunFrames X.base l := by
  intro l
  induction l with
  | nil => intro _ _; trivial
  | cons env r ih =>
   intro hs hl
   obtain ⟨hk, ⟨L, o, hf, hn, ho, hd⟩, hr⟩ := hl
   have hL : L ∈ X.fs := hs L (by unfold frs; rw [List.filterMap_cons, hf]; exact List.mem_cons_self)
   obtain ⟨sl, e⟩ := I.base.slot L o ho (I.ok.frf L hL) hL λ z => I.ok.exfs L z hL
   exact ⟨hk, ⟨L, _, hf, hn, e, hd⟩, ih (λ b hb => hs b (by unfold frs; rw [List.filterMap_cons, hf]; exact List.mem_cons_of_mem _ hb)) hr⟩
 exact all X.outer (λ _ hb => hb) I.ok.funs
theorem Inv.stack (I : Inv X pins σ H s) : s.heap.FunFrames X.base X.stack := by
 rcases I.ok.stk with e | ⟨e, hf⟩
 ·rw [e]; exact I.funs
 ·rw [e]
  obtain ⟨m, hn, _⟩ := I.loc
  refine .cons (by rw [I.ok.kind]; decide) hf hn ?_ I.funs
  exact Heap.get?_none_of_le (Nat.le_trans I.ok.bsz I.ok.above)
theorem Inv.stkSub (I : Inv X pins σ H s) : ∀ b ∈ frs X.stack, b ∈ X.env.locals :: X.fs := λ b hb => by
 rcases I.ok.stk with e | ⟨e, hf⟩
 ·rw [e] at hb; exact List.mem_cons_of_mem _ hb
 ·rw [e] at hb
  unfold frs at hb
  rw [List.filterMap_cons, hf] at hb
  exact hb
theorem Inv.stkFree (I : Inv X pins σ H s) : ∀ b ∈ frs X.stack, H b = none := λ b hb => by
 rcases List.mem_cons.mp (I.stkSub b hb) with e | hb
 ·rw [e]; exact I.free
 ·obtain ⟨_, o, ho, _⟩ := I.ok.funs.mem hb
  exact I.base.free b o ho (I.ok.frf b hb) λ z => I.ok.exfs b z hb
theorem Inv.step {g' : Array GenState} {t' : Nat} {d' : Drawn} {ch : List Addr} (I : Inv X pins σ H s)
  (hch : ∀ b ∈ ch, (b ∈ X.ex ∨ X.s_0.heap.objs.size <= b) /\ b ≠ X.env.locals /\ (∀ x c, X.env.cells.lookup x = some c -> c ≠ b) /\ ∀ p ∈ X.pn ++ pins, p.1 ≠ b)
  (keep : ∀ b o, b ≠ X.env.locals -> b ∉ X.fs -> b ∉ ch -> s.heap.get? b = some o -> H b = none -> h'.get? b = some o)
  (slot : ∀ b o, b ≠ X.env.locals -> b ∈ X.fs -> b ∉ ch -> s.heap.get? b = some o -> H b = none -> ∃ sl, h'.get? b = some { o with slots := sl }) (free : ∀ b o, b ∉ ch -> s.heap.get? b = some o -> H b = none -> H' b = none)
  (there : ∀ b o, b ∉ ch -> s.heap.get? b = some o -> ∃ o', h'.get? b = some o')
  (tups : ∀ b xs, H b = some (.tup xs) -> H' b = some (.tup xs)) (frzs : ∀ b o u, H b = some (.frz o u) -> H' b = some (.frz o u)) (tbls : ∀ b ps, H b = some (.tbl ps) -> ∃ more, H' b = some (.tbl (ps ++ more)))
  (ns : ∀ m, s.heap.Ns X.env.locals m -> h'.Ns X.env.locals m) (hok : HOk X.prog X.w H' h') (hg : AllBare g') :
  Inv X pins σ H' { s with heap := h', gens := g', drawn := d', toks := t' } := by
 have neL : ∀ b o, X.s_0.heap.get? b = some o -> b ≠ X.env.locals := λ b o e => Nat.ne_of_lt (Nat.lt_of_lt_of_le (Heap.lt_size e) I.ok.above)
 have neC : ∀ b o, X.s_0.heap.get? b = some o -> b ∉ X.ex -> b ∉ ch := λ b o e hx hb => by
  rcases (hch b hb).1 with z | z
  ·exact hx z
  ·exact absurd (Nat.lt_of_lt_of_le (Heap.lt_size e) z) (Nat.lt_irrefl _)
 have cellK : ∀ x c, X.env.cells.lookup x = some c -> ∀ v, s.heap.IsCell c v -> h'.IsCell c v := λ x c e v ⟨o, ho, hd⟩ => by
  have nch : c ∉ ch := λ z => (hch c z).2.2.1 x c e rfl
  by_cases hc : c ∈ X.fs
  ·obtain ⟨sl, q⟩ := slot c o (I.cne x c e) hc nch ho (I.freeC x c e)
   exact ⟨_, q, hd⟩
  ·exact ⟨o, keep c o (I.cne x c e) hc nch ho (I.freeC x c e), hd⟩
 refine ⟨I.ok, I.os, hg, ⟨λ b o e n hb hx => ?_, λ b o e n hb hx => ?_, λ b o e n hx => ?_, λ b o e hx => ?_, λ b xs e => tups b xs (I.base.tups b xs e), λ b o xs e => frzs b o xs (I.base.frzs b o xs e), λ b ps e => ?_⟩, ?_, λ x c e => ?_, ?_, λ x c e => ?_, λ p hp => ?_, hok, I.len⟩
 ·exact keep b o (neL b o e) hb (neC b o e hx) (I.base.keep b o e n hb hx) (I.base.free b o e n hx)
 ·obtain ⟨sl, e1⟩ := I.base.slot b o e n hb hx
  obtain ⟨sl', e2⟩ := slot b _ (neL b o e) hb (neC b o e hx) e1 (I.base.free b o e n hx)
  exact ⟨sl', e2⟩
 ·obtain ⟨o', e1⟩ := I.base.there b o e hx
  exact free b o' (neC b o e hx) e1 (I.base.free b o e n hx)
 ·obtain ⟨o', e1⟩ := I.base.there b o e hx
  exact there b o' (neC b o e hx) e1
 ·obtain ⟨m1, e1⟩ := I.base.tbls b ps e
  obtain ⟨m2, e2⟩ := tbls b _ e1
  exact ⟨m1 ++ m2, by rw [e2, Array.append_assoc]⟩
 ·obtain ⟨m, hn, hl⟩ := I.loc
  refine ⟨m, ns m hn, λ i x v e1 e2 e3 => ?_⟩
  obtain ⟨u, r, l⟩ := hl i x v e1 e2 e3
  refine ⟨u, r, ?_⟩
  rcases l with l | ⟨k, c, e, z⟩
  ·exact .inl l
  ·exact .inr ⟨k, c, e, cellK x c e _ z⟩
 ·obtain ⟨v, z⟩ := I.cell x c e
  exact ⟨v, cellK x c e v z⟩
 ·obtain ⟨m, ⟨o, _, _, ho, _⟩, _⟩ := I.loc
  exact free _ o (λ z => (hch _ z).2.1 rfl) ho I.free
 ·obtain ⟨v, o, ho, hd⟩ := I.cell x c e
  exact free c o (λ z => (hch c z).2.2.1 x c e rfl) ho (I.freeC x c e)
 ·obtain ⟨e, n, ne, nf, d⟩ := I.pin p hp
  have nch : p.1 ∉ ch := λ z => (hch p.1 z).2.2.2 p hp rfl
  exact ⟨keep p.1 p.2 ne nf nch e n, free p.1 p.2 nch e n, ne, nf, d⟩
theorem Inv.un {t' : Nat} (I : Inv X pins σ H s) (u : Un X.fs [] H H' s.heap h') (hok : HOk X.prog X.w H' h') : Inv X pins σ H' { s with heap := h', toks := t' } := by
 obtain ⟨m, ⟨o, es, ep, ho, r⟩, _⟩ := id I.loc
 obtain ⟨sl, hL⟩ := u.any ho I.free (by simp)
 exact I.step (g' := s.gens) (d' := s.drawn) (ch := []) (λ _ z => nomatch z) (λ b o _ hb _ e n => u.keep b o e n hb (by simp)) (λ b o _ hb _ e n => u.slot b o e n hb (by simp)) (λ b o _ e n => u.free b o e n (by simp)) (λ b o _ e => u.there b o e (by simp)) u.tups u.frzs u.tbls (λ m' hm => by
  obtain ⟨o', es', ep', ho', r'⟩ := hm
  rw [ho] at ho'; cases ho'
  exact ⟨_, es', ep', hL, r'⟩) hok I.bare
theorem Inv.call {g' : Array GenState} {t' : Nat} {d' : Drawn} {ch : List Addr} (I : Inv X pins σ H s) (u : Un (frs X.stack) ch H H' s.heap h') (hok : HOk X.prog X.w H' h') (hg : AllBare g')
  (hch : ∀ b ∈ ch, (b ∈ X.ex ∨ X.s_0.heap.objs.size <= b) /\ b ≠ X.env.locals /\ (∀ x c, X.env.cells.lookup x = some c -> c ≠ b) /\ ∀ p ∈ X.pn ++ pins, p.1 ≠ b) :
  Inv X pins σ H' { s with heap := h', gens := g', drawn := d', toks := t' } := by
 obtain ⟨m, ⟨o, es, ep, ho, r⟩, _⟩ := id I.loc
 obtain ⟨sl, hL⟩ := u.any ho I.free λ z => (hch _ z).2.1 rfl
 exact I.step (ch := ch) hch (λ b o hL hb hc e n => u.keep b o e n (λ z => (List.mem_cons.mp (I.stkSub b z)).elim hL hb) hc) (λ b o _ _ hc e n => u.any e n hc) (λ b o hc e n => u.free b o e n hc) (λ b o hc e => u.there b o e hc) u.tups u.frzs u.tbls (λ m' hm => by
  obtain ⟨o', es', ep', ho', r'⟩ := hm
  rw [ho] at ho'; cases ho'
  exact ⟨_, es', ep', hL, r'⟩) hok hg
theorem Inv.turned {t' : Nat} {it : Addr} (I : Inv X pins σ H s) (k : ∀ b o, b ≠ it -> s.heap.get? b = some o -> h'.get? b = some o) (hn : H it = none) (hL : it ≠ X.env.locals)
  (h1 : it ∈ X.ex ∨ X.s_0.heap.objs.size <= it) (h2 : ∀ x c, X.env.cells.lookup x = some c -> c ≠ it) (h3 : ∀ p ∈ X.pn ++ pins, p.1 ≠ it) : Inv X pins σ H { s with heap := h', toks := t' } := by
 have nit : ∀ b u, H b = some u -> b ≠ it := λ b u e z => by rw [z, hn] at e; cases e
 refine I.step (g' := s.gens) (d' := s.drawn) (ch := [it]) (λ b hb => ?_) (λ b o _ _ hc e _ => k b o (λ z => hc (by simp [z])) e) (λ b o _ _ hc e _ => ⟨o.slots, k b o (λ z => hc (by simp [z])) e⟩) (λ _ _ _ _ n => n)
  (λ b o hc e => ⟨o, k b o (λ z => hc (by simp [z])) e⟩) (λ _ _ e => e) (λ _ _ _ e => e) (λ b ps e => ⟨#[], by rw [e]; simp⟩) (λ m hm => ?_) (λ b u e => ?_) I.bare
 ·have e : b = it := by simpa using hb
  subst e
  exact ⟨h1, hL, h2, h3⟩
 ·obtain ⟨o, es, ep, ho, r⟩ := hm
  exact ⟨o, es, ep, k _ o (Ne.symm hL) ho, r⟩
 ·refine (I.hok b u e).stay (λ c v hc q => k c v ?_ q) (λ _ q => q) λ _ _ q => q
  rcases hc with z | z
  ·rw [z]; exact nit b u e
  ·exact nit c _ z
theorem Inv.tok (I : Inv X pins σ H s) (t : Nat) : Inv X pins σ H { s with toks := t } := I.un (h' := s.heap) (t' := t) Un.refl I.hok
theorem Inv.kept {t' : Nat} (I : Inv X pins σ H s) (k : ∀ b u, s.heap.get? b = some u -> h'.get? b = some u) : Inv X pins σ H { s with heap := h', toks := t' } := I.un (Un.kept k) (I.hok.kept k)
theorem Inv.laid {a : Addr} {o : HO} {t' : Nat} (I : Inv X pins σ H s) (k : ∀ b u, s.heap.get? b = some u -> h'.get? b = some u) (hp : s.heap.objs.size <= a) (new : ObjOk X.prog X.w (upd H a o) h' a o) :
  Inv X pins σ (upd H a o) { s with heap := h', toks := t' } := I.un (Un.laid k hp (I.hok.fresh hp)) (I.hok.laid k hp new)
theorem Inv.write {x e : Addr} {o : HO} {t' : Nat} (I : Inv X pins σ H s) (mu : Mut (H x)) (he : e = x ∨ H e = some (.own x)) (k : ∀ b u, b ≠ e -> s.heap.get? b = some u -> h'.get? b = some u) (heo : ∃ u, h'.get? e = some u)
  (new : ObjOk X.prog X.w (upd H x o) h' x o) : Inv X pins σ (upd H x o) { s with heap := h', toks := t' } := I.un (Un.write mu he k heo) (I.hok.write mu he k heo new)
theorem Inv.weak {σ' : List (Option V)} (I : Inv X pins σ H s) (hl : σ'.length = σ.length) (w : ∀ (i : Nat) v, σ'[i]? = some (some v) -> σ[i]? = some (some v)) : Inv X pins σ' H s :=
 ⟨I.ok, I.os, I.bare, I.base, let ⟨m, hn, hl'⟩ := I.loc; ⟨m, hn, λ i x v e1 e2 e3 => hl' i x v e1 (w i v e2) e3⟩, I.cell, I.free, I.freeC, I.pin, I.hok, hl.trans I.len⟩
theorem Inv.pins_of {pins' : List (Addr × Obj)} (I : Inv X pins σ H s) (h : ∀ p ∈ pins', s.heap.get? p.1 = some p.2 /\ H p.1 = none /\ p.1 ≠ X.env.locals /\ p.1 ∉ X.fs /\ ∀ v, p.2.data ≠ .cell v) : Inv X pins' σ H s :=
 ⟨I.ok, I.os, I.bare, I.base, I.loc, I.cell, I.free, I.freeC, λ p hp => (List.mem_append.mp hp).elim (λ z => I.pin p (List.mem_append_left _ z)) (h p), I.hok, I.len⟩
theorem nodup_ix {N : List Str} (hN : N.Nodup) {i j : Nat} {x : Str} (a : N[i]? = some x) (b : N[j]? = some x) : i = j := by
 obtain ⟨h1, e1⟩ := List.getElem?_eq_some_iff.mp a
 obtain ⟨h2, e2⟩ := List.getElem?_eq_some_iff.mp b
 exact (List.getElem_inj hN).mp (e1.trans e2.symm)
theorem store_ok2 {M : Model} {A : Around} {E : Value -> Shared -> Prop} {i : Nat} {x : Str} {v : V} {u : Value} {Q : Unit -> Shared -> Prop} (I : Inv X pins σ H s) (hN : X.N.Nodup) (hi : X.N[i]? = some x) (hx : Loc X.env.scope x) (r : RelV v u)
  (h : ∀ s', Inv X pins (σ.set i (some v)) H s' -> (∃ a, Heap.SameBut a s.heap s'.heap /\ (a = X.env.locals ∨ X.env.cells.lookup x = some a)) -> Q () s') (hf : X.fn x = true ∨ X.env.scope.names.lookup x = some .local := by first | exact .inl rfl | exact .inr rfl | assumption) : wpAny M A (storeName X.env x u) Q E s := by
 obtain ⟨m, hn, hl⟩ := id I.loc
 have hcls : (X.env.scope.kind == .class || (X.env.scope.kind == .module && X.env.locals != X.env.globals)) = false := by rw [I.ok.kind]; rfl
 have hiσ : i < σ.length := by rw [I.len]; exact (List.getElem?_eq_some_iff.mp hi).1
 have cne := I.cne
 have tracked : ∀ {a : Addr} {h' : Heap}, (∃ o, s.heap.get? a = some o /\ H a = none) -> Heap.SameBut a s.heap h' -> HOk X.prog X.w H h' := λ {a h'} ha hs b ob e => by
  obtain ⟨_, _, hfree⟩ := ha
  refine (I.hok b ob e).stay (λ c w' hc q => (hs.2 c ?_).trans q) (λ _ q => q) λ _ _ q => q
  rintro rfl
  rcases hc with rfl | hc
  ·rw [hfree] at e; cases e
  ·rw [hfree] at hc; cases hc
 rcases hx with hk | hk
 ·refine wpAny_storeName_local hk hn (λ h' hn' hs => ?_) hcls
  obtain ⟨oL, _, _, hoL, _⟩ := id hn
  refine h _ ⟨I.ok, I.os, I.bare, ⟨λ b o e n hb hx => ?_, λ b o e n hb hx => ?_, I.base.free, λ b o e hx => ?_, I.base.tups, I.base.frzs, I.base.tbls⟩, ⟨_, hn', λ j y v' e1 e2 e3 => ?_⟩, λ y c e => ?_, I.free, I.freeC, λ p hp => ?_, tracked ⟨oL, hoL, I.free⟩ hs, by simpa using I.len⟩ ⟨_, hs, .inl rfl⟩
  ·exact (hs.2 b (Nat.ne_of_lt (Nat.lt_of_lt_of_le (Heap.lt_size e) I.ok.above))).trans (I.base.keep b o e n hb hx)
  ·obtain ⟨sl, e1⟩ := I.base.slot b o e n hb hx
   exact ⟨sl, (hs.2 b (Nat.ne_of_lt (Nat.lt_of_lt_of_le (Heap.lt_size e) I.ok.above))).trans e1⟩
  ·obtain ⟨o', e1⟩ := I.base.there b o e hx
   exact ⟨o', (hs.2 b (Nat.ne_of_lt (Nat.lt_of_lt_of_le (Heap.lt_size e) I.ok.above))).trans e1⟩
  ·by_cases hj : j = i
   ·subst hj
    rw [hi] at e1; cases e1
    rw [List.getElem?_set_self hiσ] at e2
    cases e2
    exact ⟨u, r, .inl ⟨hk, by simp⟩⟩
   ·rw [List.getElem?_set_ne (Ne.symm hj)] at e2
    obtain ⟨u', r', q⟩ := hl j y v' e1 e2 e3
    refine ⟨u', r', ?_⟩
    rcases q with ⟨k, e⟩ | ⟨k, c, e, z⟩
    ·refine .inl ⟨k, ?_⟩
     have : y ≠ x := λ e => hj (nodup_ix hN e1 (e ▸ hi))
     simp [this, e]
    ·exact .inr ⟨k, c, e, z.sameBut hs (cne y c e)⟩
  ·obtain ⟨w', z⟩ := I.cell y c e
   exact ⟨w', z.sameBut hs (cne y c e)⟩
  ·obtain ⟨e, n, ne, nf, d⟩ := I.pin p hp
   exact ⟨(hs.2 p.1 ne).trans e, n, ne, nf, d⟩
 ·have hfn : X.fn x = true := by
   rcases hf with z | z
   ·exact z
   ·rw [z] at hk; cases hk
  obtain ⟨c, hc⟩ := I.ok.has x (.inl hk)
  obtain ⟨w', z⟩ := I.cell x c hc
  refine wpAny_storeName_cell I.ok.kind hk hc z (λ h' hc' hs => ?_)
  obtain ⟨oc, hoc, hocd⟩ := id z
  refine h { s with heap := h' } ⟨I.ok, I.os, I.bare, ⟨λ b o e n hb hx => ?_, λ b o e n hb hx => ?_, I.base.free, λ b o e hx => ?_, I.base.tups, I.base.frzs, I.base.tbls⟩, ⟨m, hn.sameBut hs (Ne.symm (cne x c hc)), λ j y v' e1 e2 e3 => ?_⟩, λ y c' e => ?_, I.free, I.freeC, λ p hp => ?_, tracked ⟨oc, hoc, I.freeC x c hc⟩ hs, by simpa using I.len⟩ ⟨c, hs, .inr hc⟩
  ·exact (hs.2 b (Nat.ne_of_lt (Nat.lt_of_lt_of_le (Heap.lt_size e) (I.ok.cab x c hfn hc)))).trans (I.base.keep b o e n hb hx)
  ·obtain ⟨sl, e1⟩ := I.base.slot b o e n hb hx
   exact ⟨sl, (hs.2 b (Nat.ne_of_lt (Nat.lt_of_lt_of_le (Heap.lt_size e) (I.ok.cab x c hfn hc)))).trans e1⟩
  ·obtain ⟨o', e1⟩ := I.base.there b o e hx
   exact ⟨o', (hs.2 b (Nat.ne_of_lt (Nat.lt_of_lt_of_le (Heap.lt_size e) (I.ok.cab x c hfn hc)))).trans e1⟩
  ·by_cases hj : j = i
   ·subst hj
    rw [hi] at e1; cases e1
    rw [List.getElem?_set_self hiσ] at e2
    cases e2
    exact ⟨u, r, .inr ⟨.inl hk, c, hc, hc'⟩⟩
   ·rw [List.getElem?_set_ne (Ne.symm hj)] at e2
    obtain ⟨u', r', q⟩ := hl j y v' e1 e2 e3
    refine ⟨u', r', ?_⟩
    rcases q with q | ⟨k, c', e, z'⟩
    ·exact .inl q
    ·refine .inr ⟨k, c', e, z'.sameBut hs ?_⟩
     rintro rfl
     exact hj (nodup_ix hN e1 (I.ok.inj _ _ _ e hc ▸ hi))
  ·by_cases hcc : c' = c
   ·subst hcc; exact ⟨_, hc'⟩
   ·obtain ⟨w2, z2⟩ := I.cell y c' e
    exact ⟨w2, z2.sameBut hs hcc⟩
  ·obtain ⟨e, n, ne, nf, d⟩ := I.pin p hp
   refine ⟨(hs.2 p.1 ?_).trans e, n, ne, nf, d⟩
   intro q
   rw [q, hoc] at e
   have q' : oc = p.2 := Option.some.inj e
   exact d w' (by rw [<- q']; exact hocd)
theorem store_ok {M : Model} {A : Around} {E : Value -> Shared -> Prop} {i : Nat} {x : Str} {v : V} {u : Value} {Q : Unit -> Shared -> Prop} (I : Inv X pins σ H s) (hN : X.N.Nodup) (hi : X.N[i]? = some x) (hx : Loc X.env.scope x) (r : RelV v u)
  (h : ∀ s', Inv X pins (σ.set i (some v)) H s' -> Q () s') (hf : X.fn x = true ∨ X.env.scope.names.lookup x = some .local := by first | exact .inl rfl | exact .inr rfl | assumption) : wpAny M A (storeName X.env x u) Q E s :=
 store_ok2 I hN hi hx r (λ s' I' _ => h s' I') hf
theorem Inv.call' {s' : Shared} {ch : List Addr} (I : Inv X pins σ H s) (ho : s'.os = s.os) (u : Un (frs X.stack) ch H H' s.heap s'.heap) (hok : HOk X.prog X.w H' s'.heap) (hg : AllBare s'.gens)
  (hch : ∀ b ∈ ch, (b ∈ X.ex ∨ X.s_0.heap.objs.size <= b) /\ b ≠ X.env.locals /\ (∀ x c, X.env.cells.lookup x = some c -> c ≠ b) /\ ∀ p ∈ X.pn ++ pins, p.1 ≠ b) : Inv X pins σ H' s' := by
 obtain ⟨h', g', d', t', o'⟩ := s'
 have e : o' = s.os := ho
 subst e
 exact I.call (g' := g') (t' := t') (d' := d') u hok hg hch
end
abbrev XK := Value -> Option Addr -> Hp -> Prop
abbrev St := List (Option V)
abbrev VK := V -> Hp -> Prop
abbrev TE := St -> Hp -> VK -> Prop
abbrev TT := St -> Hp -> (Bool -> Hp -> Prop) -> Prop
abbrev TA := St -> Hp -> (List V -> Hp -> Prop) -> Prop
structure Ends where
 nx : St -> Hp -> Prop
 rt : VK
 bk : St -> Hp -> Prop := λ _ _ => False
 ct : St -> Hp -> Prop := λ _ _ => False
abbrev TS := Ends -> St -> Hp -> Prop
def EP (X : Cx) (pins : List (Addr × Obj)) (σ : St) (Q : VK) (u : Value) (s' : Shared) : Prop := ∃ v H', Inv X pins σ H' s' /\ RelV v u /\ Q v H'
def TP (X : Cx) (pins : List (Addr × Obj)) (σ : St) (Q : Bool -> Hp -> Prop) (b : Bool) (s' : Shared) : Prop := ∃ H', Inv X pins σ H' s' /\ Q b H'
def AP (X : Cx) (pins : List (Addr × Obj)) (σ : St) (Q : List V -> Hp -> Prop) (us : List Value) (s' : Shared) : Prop := ∃ vs H', Inv X pins σ H' s' /\ Vals vs us /\ Q vs H'
def SP (X : Cx) (pins : List (Addr × Obj)) (D : Ends) (f : Flow) (s' : Shared) : Prop :=
 match f with
 | .next => ∃ σ' H', Inv X pins σ' H' s' /\ D.nx σ' H'
 | .brk => ∃ σ' H', Inv X pins σ' H' s' /\ D.bk σ' H'
 | .cont => ∃ σ' H', Inv X pins σ' H' s' /\ D.ct σ' H'
 | .ret u => ∃ v σ' H', Inv X pins σ' H' s' /\ RelV v u /\ D.rt v H'
def PE (X : Cx) (e : Expr) (t : TE) : Prop :=
 ∀ (pins : List (Addr × Obj)) (s : Shared) (σ : St) (H : Hp) (Q : VK), Inv X pins σ H s -> t σ H Q -> wpAny (model X.prog X.w) X.A (eval e X.env) (EP X pins σ Q) X.xe s
def PT (X : Cx) (e : Expr) (t : TT) : Prop :=
 ∀ (pins : List (Addr × Obj)) (s : Shared) (σ : St) (H : Hp) (Q : Bool -> Hp -> Prop), Inv X pins σ H s -> t σ H Q -> wpAny (model X.prog X.w) X.A (isTrue e X.env (eval e X.env)) (TP X pins σ Q) X.xe s
def PW (X : Cx) (e : Expr) (t : TT) : Prop :=
 ∀ (whole : Sem Value) (pins : List (Addr × Obj)) (s : Shared) (σ : St) (H : Hp) (Q : Bool -> Hp -> Prop), Inv X pins σ H s -> t σ H Q -> wpAny (model X.prog X.w) X.A (isTrue e X.env whole) (TP X pins σ Q) X.xe s
theorem PW.pt {X : Cx} {e : Expr} {t : TT} (h : PW X e t) : PT X e t := h _
def PA (X : Cx) (es : List Expr) (t : TA) : Prop :=
 ∀ (pos : Pos) (pins : List (Addr × Obj)) (s : Shared) (σ : St) (H : Hp) (Q : List V -> Hp -> Prop), Inv X pins σ H s -> t σ H Q -> wpAny (model X.prog X.w) X.A (spliced (backTo pos (starEach es X.env))) (AP X pins σ Q) X.xe s
def PS (X : Cx) (st : Stmt) (t : TS) : Prop :=
 ∀ (pins : List (Addr × Obj)) (s : Shared) (σ : St) (H : Hp) (D : Ends), Inv X pins σ H s -> t D σ H -> wpAny (model X.prog X.w) X.A (exec st X.env) (SP X pins D) X.xe s
def PSs (X : Cx) (st : List Stmt) (t : TS) : Prop :=
 ∀ (pins : List (Addr × Obj)) (s : Shared) (σ : St) (H : Hp) (D : Ends), Inv X pins σ H s -> t D σ H -> wpAny (model X.prog X.w) X.A (execs st X.env) (SP X pins D) X.xe s
theorem thn {α : Type} {t : Sem α} {Q Q' : α -> Shared -> Prop} {M : Model} {A : Around} {E : Value -> Shared -> Prop} {s : Shared} (h : wpAny M A t Q E s) (hQ : ∀ a s, Q a s -> Q' a s) : wpAny M A t Q' E s := wpAny_mono h hQ λ _ _ x => x
end L2
namespace L2
open PySem PySem.Spec PyProof.Rows
section
variable {X : Cx}
def tVar (i : Nat) : TE := λ σ H Q => ∃ v, σ[i]? = some (some v) /\ Q v H
def tC (v : V) : TE := λ _ H Q => Q v H
theorem pe_var {i : Nat} {x : Str} {pos : Pos} (hN : X.N[i]? = some x) (hv : Vis X.env.scope x) (hd : (x == ("__debug__" : Str)) = false := by decide) (hcd : (x == ("__classdict__" : Str)) = false := by decide) : PE X (.Name x pos) (tVar i) := by
 intro pins s σ H Q I h
 obtain ⟨v, e, h⟩ := h
 obtain ⟨m, hn, hl⟩ := I.loc
 obtain ⟨u, r, l⟩ := hl i x v hN e hv
 have fin : EP X pins σ Q u s := ⟨v, H, I, r, h⟩
 rcases l with ⟨hk, hm⟩ | ⟨hk, c, hc, hcell⟩
 ·exact wpAny_Name (wpAny_loadName_local I.ok.kind hk hn hm fin) hd
 ·rcases hk with hk | hk
  ·exact wpAny_Name (wpAny_loadName_cell I.ok.kind hk hc hcell fin) hd
  ·exact wpAny_Name (wpAny_loadName_free I.ok.kind hk hc hcell fin hcd) hd
theorem pe_int {i j pos} : PE X (.Constant (.int i) j pos) (tC (.int i)) := λ _ _ _ H _ I h => wpAny_Constant_int ⟨.int i, H, I.tok _, ⟨_, rfl⟩, h⟩
theorem pe_bl {b j pos} : PE X (.Constant (.bool b) j pos) (tC (.bl b)) := λ _ _ _ H _ I h => Constant_bool ⟨.bl b, H, I, rfl, h⟩
theorem pe_non {j pos} : PE X (.Constant .none j pos) (tC .non) := λ _ _ _ H _ I h => Constant_none ⟨.non, H, I, rfl, h⟩
def Gl (X : Cx) (x : Str) : Prop := X.env.kindOf x = some .globalImplicit
theorem ld_glob {E : Value -> Shared -> Prop} {pins : List (Addr × Obj)} {s : Shared} {σ : St} {H : Hp} {x : Str} {u : Value} {pos : Pos} {Q : Value -> Shared -> Prop} (I : Inv X pins σ H s) (hg : Gl X x) (hm : X.mg x = some u) (h : Q u s)
  (hd : (x == ("__debug__" : Str)) = false := by decide) : wpAny (model X.prog X.w) X.A (eval (.Name x pos) X.env) Q E s :=
 Calls.Name_function_global I.ok.kind hg (Calls.loadGlobal_global (by rw [I.ok.glob]; exact I.mod.glob.keeps I.bk) hm h) hd
theorem ld_blt {E : Value -> Shared -> Prop} {pins : List (Addr × Obj)} {s : Shared} {σ : St} {H : Hp} {x : Str} {u : Value} {pos : Pos} {Q : Value -> Shared -> Prop} (I : Inv X pins σ H s) (hg : Gl X x) (hm : X.mg x = none) (hv : bootBuiltins x = some u) (h : Q u s)
  (hn : x ≠ "__name__" := by decide) (hd : (x == ("__debug__" : Str)) = false := by decide) : wpAny (model X.prog X.w) X.A (eval (.Name x pos) X.env) Q E s := by
 obtain ⟨mb, h1, h2⟩ := I.mod.blt
 exact Calls.Name_function_global I.ok.kind hg (Calls.loadGlobal_builtin (by rw [I.ok.glob]; exact I.mod.glob.keeps I.bk) hm (by rw [I.ok.blt]; exact h1.keeps I.bk) ((h2 x hn).trans hv) h) hd
theorem pe_glob {x : Str} {v : V} {u : Value} {pos : Pos} (hg : Gl X x) (hm : X.mg x = some u) (r : RelV v u) (hd : (x == ("__debug__" : Str)) = false := by decide) : PE X (.Name x pos) (tC v) :=
 λ _ _ _ H _ I h => ld_glob I hg hm ⟨v, H, I, r, h⟩ hd
variable {a b : Expr} {ta tb : TE} {pos : Pos}
def PC (X : Cx) (op : CmpOp) (a b : Expr) (t : TE) : Prop :=
 ∀ (pins : List (Addr × Obj)) (s : Shared) (σ : St) (H : Hp) (Q : VK), Inv X pins σ H s -> t σ H Q ->
  wpAny (model X.prog X.w) X.A (eval a X.env) (λ v s₁ => wpAny (model X.prog X.w) X.A (eval b X.env) (λ u s₂ => wpAny (model X.prog X.w) X.A (compareOp op v u) (EP X pins σ Q) X.xe s₂) X.xe s₁) X.xe s
theorem nobehind (b : Expr) {op : CmpOp} (h : op ≠ .In) (h2 : op ≠ .NotIn) : behindInMarks op b = false := by
 have e1 : (op == CmpOp.In) = false := by cases op <;> first | rfl | exact absurd rfl h
 have e2 : (op == CmpOp.NotIn) = false := by cases op <;> first | rfl | exact absurd rfl h2
 cases b <;> simp [behindInMarks, e1, e2]
def tIsN (ta : TE) : TE := λ σ H Q => ta σ H λ x H1 => Q (.bl (decide (x = .non))) H1
def tNotN (ta : TE) : TE := λ σ H Q => ta σ H λ x H1 => Q (.bl (!decide (x = .non))) H1
theorem RelV.none_iff {x : V} {v : Value} (r : RelV x v) : (v == Value.none) = decide (x = .non) := by
 cases x with
 | non => cases r; rfl
 | bl _ => cases r; rfl
 | int _ => obtain ⟨t, rfl⟩ := r; rfl
 | str _ => obtain ⟨t, rfl⟩ := r; rfl
 | byt _ => obtain ⟨t, rfl⟩ := r; rfl
 | flt _ => obtain ⟨t, rfl⟩ := r; rfl
 | ref _ => cases r; rfl
 | ty _ => cases r; rfl
 | tok _ => obtain ⟨t, _, rfl⟩ := r; rfl
theorem pc_isN {j pos'} (ha : PE X a ta) : PC X .Is a (.Constant .none j pos') (tIsN ta) := by
 intro pins s σ H Q I h
 refine thn (ha pins s σ H _ I h) λ v s1 ⟨x, H1, I1, r1, q1⟩ => ?_
 exact Constant_none (is_none_gen ⟨.bl _, H1, I1, by rw [r1.none_iff]; rfl, q1⟩)
theorem pc_notN {j pos'} (ha : PE X a ta) : PC X .IsNot a (.Constant .none j pos') (tNotN ta) := by
 intro pins s σ H Q I h
 refine thn (ha pins s σ H _ I h) λ v s1 ⟨x, H1, I1, r1, q1⟩ => ?_
 exact Constant_none (isnot_none_gen ⟨.bl _, H1, I1, by rw [r1.none_iff]; rfl, q1⟩)
def tB (t : TE) : TT := λ σ H Q => t σ H λ x H1 => ∃ c, x = .bl c /\ Q c H1
theorem pe_cmp {op : CmpOp} {t : TE} (h : PC X op a b t) (h1 : behindInMarks op b = false := by first | exact nobehind _ (by decide) (by decide) | rfl) : PE X (.Compare a [op] [b] pos) t := λ pins s σ H Q I hw => wpAny_Compare1 (h pins s σ H Q I hw) h1
theorem pt_cmp {op : CmpOp} {t : TE} (h : PC X op a b t) (h1 : behindInMarks op b = false := by first | exact nobehind _ (by decide) (by decide) | rfl) : PT X (.Compare a [op] [b] pos) (tB t) := by
 intro pins s σ H Q I hw
 refine wpAny_isTrue_Compare1 (thn (h pins s σ H _ I hw) λ v s1 h1 => thn h1 λ u s2 h2 => thn h2 λ c s3 ⟨x, H1, I1, r1, q1⟩ => ?_) h1
 obtain ⟨d, rfl, q⟩ := q1
 cases r1
 exact wpAny_truthy_bool ⟨H1, I1, q⟩
theorem pt_val {e : Expr} {t : TE} (h : PE X e t) (he : ∀ whole, isTrue e X.env whole = (do let v <- whole; standAt e.pos; holding [v] (truthy v)) := by intro _; rfl) : PT X e (tB t) := by
 intro pins s σ H Q I hw
 refine isTrue_plain (thn (h pins s σ H _ I hw) λ v s1 ⟨x, H1, I1, r1, q1⟩ => ?_) (he _)
 obtain ⟨d, rfl, q⟩ := q1
 cases r1
 exact wpAny_truthy_bool ⟨H1, I1, q⟩
variable {tA tB' : TT} {rest : List Expr}
def tAnd (t u : TT) : TT := λ σ H Q => t σ H λ c H1 => if c = true then u σ H1 Q else Q false H1
def tOr (t u : TT) : TT := λ σ H Q => t σ H λ c H1 => if c = true then Q true H1 else u σ H1 Q
def tNot (t : TT) : TT := λ σ H Q => t σ H λ c H1 => Q (!c) H1
theorem pw_and1 (ha : PT X a tA) : PW X (.BoolOp .And [a] pos) tA := by
 intro wh pins s σ H Q I h
 refine isTrue_and (thn (ha pins s σ H Q I h) λ c s1 e => ?_)
 cases c with
 | true => exact isTrue_and_nil e
 | false => exact e
theorem pw_or1 (ha : PT X a tA) : PW X (.BoolOp .Or [a] pos) tA := by
 intro wh pins s σ H Q I h
 refine isTrue_or (thn (ha pins s σ H Q I h) λ c s1 e => ?_)
 cases c with
 | false => exact isTrue_or_nil e
 | true => exact e
theorem pw_and (ha : PT X a tA) (hb : PW X (.BoolOp .And (b :: rest) pos) tB') : PW X (.BoolOp .And (a :: b :: rest) pos) (tAnd tA tB') := by
 intro wh pins s σ H Q I h
 refine isTrue_and (thn (ha pins s σ H _ I h) λ c s1 ⟨H1, I1, q1⟩ => ?_)
 cases c with
 | true => exact hb wh pins s1 σ H1 Q I1 q1
 | false => exact ⟨H1, I1, q1⟩
theorem pw_or (ha : PT X a tA) (hb : PW X (.BoolOp .Or (b :: rest) pos) tB') : PW X (.BoolOp .Or (a :: b :: rest) pos) (tOr tA tB') := by
 intro wh pins s σ H Q I h
 refine isTrue_or (thn (ha pins s σ H _ I h) λ c s1 ⟨H1, I1, q1⟩ => ?_)
 cases c with
 | true => exact ⟨H1, I1, q1⟩
 | false => exact hb wh pins s1 σ H1 Q I1 q1
theorem pt_not (ha : PT X a tA) : PT X (.UnaryOp .Not a pos) (tNot tA) := by
 intro pins s σ H Q I h
 exact isTrue_not (ha pins s σ H (λ c H1 => Q (!c) H1) I h)
def tAndV (ta tb : TE) : TE := λ σ H Q => ta σ H λ x H1 => ∃ c, x = .bl c /\ if c = true then tb σ H1 Q else Q (.bl false) H1
def tOrV (ta tb : TE) : TE := λ σ H Q => ta σ H λ x H1 => ∃ c, x = .bl c /\ if c = true then Q (.bl true) H1 else tb σ H1 Q
theorem pe_one {op} {t : TE} (h : PE X a t) : PE X (.BoolOp op [a] pos) t := λ pins s σ H Q I hw => BoolOp_one (h pins s σ H Q I hw)
theorem pe_and (ha : PE X a ta) (hb : PE X (.BoolOp .And (b :: rest) pos) tb) : PE X (.BoolOp .And (a :: b :: rest) pos) (tAndV ta tb) := by
 intro pins s σ H Q I h
 refine BoolOp_and (thn (ha pins s σ H _ I h) λ v s1 ⟨x, H1, I1, r1, q1⟩ => ?_)
 obtain ⟨c, rfl, q1⟩ := q1
 cases r1
 refine wpAny_truthy_bool ?_
 cases c with
 | true => exact hb pins s1 σ H1 Q I1 q1
 | false => exact ⟨.bl false, H1, I1, rfl, q1⟩
theorem pe_or (ha : PE X a ta) (hb : PE X (.BoolOp .Or (b :: rest) pos) tb) : PE X (.BoolOp .Or (a :: b :: rest) pos) (tOrV ta tb) := by
 intro pins s σ H Q I h
 refine BoolOp_or (thn (ha pins s σ H _ I h) λ v s1 ⟨x, H1, I1, r1, q1⟩ => ?_)
 obtain ⟨c, rfl, q1⟩ := q1
 cases r1
 refine wpAny_truthy_bool ?_
 cases c with
 | false => exact hb pins s1 σ H1 Q I1 q1
 | true => exact ⟨.bl true, H1, I1, rfl, q1⟩
def tIf (t : TT) (ta tb : TE) : TE := λ σ H Q => t σ H λ c H1 => if c = true then ta σ H1 Q else tb σ H1 Q
theorem pe_ifExp {c : Expr} (hc : PT X c tA) (ha : PE X a ta) (hb : PE X b tb) : PE X (.IfExp c a b pos) (tIf tA ta tb) := by
 intro pins s σ H Q I h
 refine wpAny_IfExp (thn (hc pins s σ H _ I h) λ d s1 ⟨H1, I1, q1⟩ => ?_)
 cases d with
 | true => exact ha pins s1 σ H1 Q I1 q1
 | false => exact hb pins s1 σ H1 Q I1 q1
end
end L2
namespace L2
open PySem PySem.Spec PyProof.Rows
def isTok : V -> Bool
 | .tok _ => true
 | _ => false
def SqL (K : PySem.W.Frag) (H : Hp) (a : Addr) (xs : List V) : Prop :=
 Rd H a (.lst xs) ∨
  ∃ (o : Obj) (its : Array Value) (n : Nat), K.lookup a = some o /\ o.cls = .type "list" /\ o.dict = none /\ o.data = .seq its n /\ its.size <= sizeLine /\ Vals xs its.toList /\ ∀ x ∈ xs, isTok x = false
def SqT (K : PySem.W.Frag) (H : Hp) (a : Addr) (xs : List V) : Prop :=
 Rd H a (.tup xs) ∨
  ∃ (o : Obj) (its : Array Value) (n : Nat), K.lookup a = some o /\ o.cls = .type "tuple" /\ o.data = .seq its n /\ its.size <= sizeLine /\ Vals xs its.toList /\ ∀ x ∈ xs, isTok x = false
def absV : Value -> Option V
 | .none => some .non
 | .bool b => some (.bl b)
 | .int i _ => some (.int i)
 | .str x _ => some (.str x)
 | .bytes b _ => some (.byt b)
 | .float b _ => some (.flt b)
 | .ref a => some (.ref a)
 | .type n => some (.ty n)
 | _ => none
theorem RelV.abs {x : V} {u : Value} (r : RelV x u) (n : isTok x = false) : absV u = some x := by
 cases x with
 | non => cases r; rfl
 | bl _ => cases r; rfl
 | int _ => obtain ⟨t, rfl⟩ := r; rfl
 | str _ => obtain ⟨t, rfl⟩ := r; rfl
 | byt _ => obtain ⟨t, rfl⟩ := r; rfl
 | flt _ => obtain ⟨t, rfl⟩ := r; rfl
 | ref _ => cases r; rfl
 | ty _ => cases r; rfl
 | tok _ => cases n
theorem RelV.inj {x y : V} {u : Value} (r : RelV x u) (q : RelV y u) (n : isTok x = false) (n' : isTok y = false) : x = y := Option.some.inj ((r.abs n).symm.trans (q.abs n'))
theorem Vals.inj : ∀ {xs ys : List V} {us : List Value}, Vals xs us -> Vals ys us -> (∀ x ∈ xs, isTok x = false) -> (∀ y ∈ ys, isTok y = false) -> xs = ys
 | _, _, _, .nil, .nil, _, _ => rfl
 | _, _, _, .cons r t, .cons r' t', n, n' => by rw [r.inj r' (n _ List.mem_cons_self) (n' _ List.mem_cons_self), Vals.inj t t' (λ x hx => n x (List.mem_cons_of_mem _ hx)) (λ x hx => n' x (List.mem_cons_of_mem _ hx))]
section
variable {X : Cx} {pins : List (Addr × Obj)} {σ : St} {H : Hp} {s : Shared} {a : Addr} {xs ys : List V}
theorem SqL.of {K : PySem.W.Frag} (h : H a = some (.lst xs)) : SqL K H a xs := .inl (.inl h)
theorem SqT.of {K : PySem.W.Frag} (h : H a = some (.tup xs)) : SqT K H a xs := .inl (.inl h)
theorem Inv.list (I : Inv X pins σ H s) (h : SqL X.K H a xs) : ∃ its : List Value, Vals xs its /\ PlainL s.heap a its.toArray /\ xs.length <= sizeLine := by
 rcases h with h | ⟨o, its, n, hk, hc, hd, hs, hz, r, _⟩
 ·obtain ⟨z, its, n, r, e⟩ := h.ok I.hok
  exact ⟨its, r, ⟨_, n, e, rfl, rfl, rfl⟩, z⟩
 ·refine ⟨its.toList, r, ⟨o, n, I.kIn a o hk, hc, hd, by simpa using hs⟩, ?_⟩
  have e := r.length
  simp only [Array.length_toList] at e
  omega
theorem Inv.tuple (I : Inv X pins σ H s) (h : SqT X.K H a xs) : ∃ its : List Value, Vals xs its /\ IsTup s.heap a its.toArray /\ xs.length <= sizeLine := by
 rcases h with h | ⟨o, its, n, hk, hc, hs, hz, r, _⟩
 ·obtain ⟨z, its, r, p⟩ := h.ok I.hok
  exact ⟨its, r, p, z⟩
 ·refine ⟨its.toList, r, ⟨o, I.kIn a o hk, hc, n, by simpa using hs⟩, ?_⟩
  have e := r.length
  simp only [Array.length_toList] at e
  omega
theorem Inv.nok {o : Obj} (I : Inv X pins σ H s) (h : X.K.lookup a = some o) : H a = none := (I.bs a o (I.ok.mod.kin a o h)).2
theorem rd_one {u v : HO} (h : Rd H a u) (h' : Rd H a v) (nu : ∀ o z, u ≠ .frz o z) (nv : ∀ o z, v ≠ .frz o z) : u = v := by
 rcases h with h | ⟨o, h⟩ <;> rcases h' with h' | ⟨o', h'⟩ <;> rw [h] at h' <;> have e := Option.some.inj h'
 ·exact e
 ·exact absurd e (nu _ _)
 ·exact absurd e.symm (nv _ _)
 ·injection e
theorem rd_some {u : HO} (h : Rd H a u) : H a ≠ none := by
 rcases h with h | ⟨o, h⟩ <;> rw [h] <;> exact λ e => nomatch e
theorem Inv.list_inj (I : Inv X pins σ H s) (h : SqL X.K H a xs) (h' : SqL X.K H a ys) : xs = ys := by
 rcases h with h | ⟨o, its, n, hk, _, _, hd, _, r, nt⟩ <;> rcases h' with h' | ⟨o', its', n', hk', _, _, hd', _, r', nt'⟩
 ·have e := rd_one h h' (λ _ _ z => nomatch z) (λ _ _ z => nomatch z)
  injection e
 ·exact absurd (I.nok hk') (rd_some h)
 ·exact absurd (I.nok hk) (rd_some h')
 ·rw [hk] at hk'
  cases hk'
  rw [hd] at hd'
  injection hd' with d1 _
  subst d1
  exact r.inj r' nt nt'
end
abbrev Cx.wish (X : Cx) (E : Value -> Shared -> Prop) : Cx := { X with xe := E }
abbrev Cx.nox (X : Cx) : Cx := X.wish λ _ _ => False
theorem Cx.Ok.wish {X : Cx} (ok : X.Ok) (E : Value -> Shared -> Prop) : (X.wish E).Ok :=
 ⟨ok.mod, ok.kind, ok.glob, ok.blt, ok.above, ok.inj, ok.has, ok.cab, ok.hd, ok.frames, ok.stk, ok.exf, ok.bs, ok.bsz, ok.noex, ok.exfs, ok.funs, ok.frf⟩
theorem Cx.Ok.unwish {X : Cx} {E : Value -> Shared -> Prop} (ok : (X.wish E).Ok) : X.Ok :=
 ⟨ok.mod, ok.kind, ok.glob, ok.blt, ok.above, ok.inj, ok.has, ok.cab, ok.hd, ok.frames, ok.stk, ok.exf, ok.bs, ok.bsz, ok.noex, ok.exfs, ok.funs, ok.frf⟩
section
variable {X : Cx} {pins : List (Addr × Obj)} {σ : St} {H : Hp} {s : Shared} {E : Value -> Shared -> Prop}
theorem Inv.wish (I : Inv X pins σ H s) (E : Value -> Shared -> Prop) : Inv (X.wish E) pins σ H s := ⟨I.ok.wish E, I.os, I.bare, I.base, I.loc, I.cell, I.free, I.freeC, I.pin, I.hok, I.len⟩
theorem Inv.unwish (I : Inv (X.wish E) pins σ H s) : Inv X pins σ H s := ⟨I.ok.unwish, I.os, I.bare, I.base, I.loc, I.cell, I.free, I.freeC, I.pin, I.hok, I.len⟩
theorem SP.unwish {D : Ends} {f : Flow} {s' : Shared} (h : SP (X.wish E) pins D f s') : SP X pins D f s' := by
 cases f with
 | next => obtain ⟨σ', H', I, q⟩ := h; exact ⟨σ', H', I.unwish, q⟩
 | brk => obtain ⟨σ', H', I, q⟩ := h; exact ⟨σ', H', I.unwish, q⟩
 | cont => obtain ⟨σ', H', I, q⟩ := h; exact ⟨σ', H', I.unwish, q⟩
 | ret u => obtain ⟨v, σ', H', I, r, q⟩ := h; exact ⟨v, σ', H', I.unwish, r, q⟩
theorem PSs.nox {st : List Stmt} {t : TS} (h : PSs X.nox st t) : PSs X st t := λ pins s σ H D I hw =>
 wpAny_mono (h pins s σ H D (I.wish _) hw) (λ _ _ q => q.unwish) λ _ _ z => False.elim z
end
section
variable {X : Cx} {st : Stmt} {rest : List Stmt} {t u : TS} {e : Expr} {te : TE} {pos : Pos}
def tNext : TS := λ D σ H => D.nx σ H
def tSeq (t u : TS) : TS := λ D σ H => t { D with nx := u D } σ H
theorem pss_nil : PSs X [] tNext := λ _ _ σ H _ I h => wpAny_execs_nil ⟨σ, H, I, h⟩
theorem pss_cons (h1 : PS X st t) (h2 : PSs X rest u) : PSs X (st :: rest) (tSeq t u) := by
 intro pins s σ H D I h
 refine wpAny_execs_cons (thn (h1 pins s σ H { D with nx := u D } I h) λ f s1 q => ?_)
 cases f with
 | next =>
  obtain ⟨σ', H', I', q⟩ := q
  exact h2 pins s1 σ' H' D I' q
 | ret v => exact q
 | brk => exact q
 | cont => exact q
theorem pss_one (h1 : PS X st t) : PSs X [st] t := by
 intro pins s σ H D I h
 refine wpAny_execs_cons (thn (h1 pins s σ H D I h) λ f s1 q => ?_)
 cases f with
 | next => exact wpAny_execs_nil q
 | ret v => exact q
 | brk => exact q
 | cont => exact q
theorem Inv.quiet {pins : List (Addr × Obj)} {σ : St} {H : Hp} {s : Shared} (I : Inv X pins σ H s) : interactive X.env = false := by simp [interactive, I.ok.kind]
def tDrop (te : TE) : TS := λ D σ H => te σ H λ _ H1 => D.nx σ H1
theorem ps_expr (he : PE X e te) (hs : swapsWith e none pos.line X.env = pure false := by rfl) : PS X (.Expr e pos) (tDrop te) := by
 intro pins s σ H D I h
 exact wpAny_Expr_any (thn (he pins s σ H _ I h) λ v s1 ⟨x, H1, I1, r1, q1⟩ => ⟨σ, H1, I1, q1⟩) I.quiet hs
def tRet (te : TE) : TS := λ D σ H => te σ H D.rt
theorem ps_ret (he : PE X e te) : PS X (.Return (some e) pos) (tRet te) := by
 intro pins s σ H D I h
 exact wpAny_Return_some (thn (he pins s σ H _ I h) λ v s1 ⟨x, H1, I1, r1, q1⟩ => ⟨x, σ, H1, I1, r1, q1⟩)
def tIfS (c : TT) (t u : TS) : TS := λ D σ H => c σ H λ b H1 => if b = true then t D σ H1 else u D σ H1
theorem ps_if {c : Expr} {a b : List Stmt} {tc : TT} (hc : PT X c tc) (ha : PSs X a t) (hb : PSs X b u) : PS X (.If c a b pos) (tIfS tc t u) := by
 intro pins s σ H D I h
 refine wpAny_If (thn (hc pins s σ H _ I h) λ d s1 ⟨H1, I1, q1⟩ => ?_)
 cases d with
 | true => exact ha pins s1 σ H1 D I1 q1
 | false => exact hb pins s1 σ H1 D I1 q1
end
abbrev TG := V -> St -> Hp -> (St -> Hp -> Prop) -> Prop
abbrev TGs := List V -> St -> Hp -> (St -> Hp -> Prop) -> Prop
def PG (X : Cx) (target : Expr) (t : TG) : Prop :=
 ∀ (pins : List (Addr × Obj)) (s : Shared) (σ : St) (H : Hp) (v : V) (u : Value) (Q : St -> Hp -> Prop), Inv X pins σ H s -> RelV v u -> t v σ H Q ->
  wpAny (model X.prog X.w) X.A (assign target X.env u) (λ _ s' => ∃ σ' H', Inv X pins σ' H' s' /\ Q σ' H') X.xe s
def PGs (X : Cx) (ts : List Expr) (t : TGs) : Prop :=
 ∀ (pins : List (Addr × Obj)) (s : Shared) (σ : St) (H : Hp) (vs : List V) (us : List Value) (Q : St -> Hp -> Prop), Inv X pins σ H s -> Vals vs us -> t vs σ H Q ->
  wpAny (model X.prog X.w) X.A (assignInOrder ((assignEach ts X.env).map (·.2)) us) (λ _ s' => ∃ σ' H', Inv X pins σ' H' s' /\ Q σ' H') X.xe s
abbrev TSet := V -> V -> V -> Hp -> (Hp -> Prop) -> Prop
def PSet (X : Cx) (t : TSet) : Prop :=
 ∀ (pins : List (Addr × Obj)) (s : Shared) (σ : St) (H : Hp) (o i v : V) (ov iv u : Value) (Q : Hp -> Prop), Inv X pins σ H s -> RelV o ov -> RelV i iv -> RelV v u -> t o i v H Q ->
  wpAny (model X.prog X.w) X.A (setItem ov iv u) (λ _ s' => ∃ H', Inv X pins σ H' s' /\ Q H') X.xe s
abbrev TIp := V -> V -> Hp -> VK -> Prop
def PIp (X : Cx) (op : Operator) (t : TIp) : Prop :=
 ∀ (pins : List (Addr × Obj)) (s : Shared) (σ : St) (H : Hp) (x y : V) (v u : Value) (Q : VK), Inv X pins σ H s -> RelV x v -> RelV y u -> t x y H Q ->
  wpAny (model X.prog X.w) X.A (inplaceOp op v u) (EP X pins σ Q) X.xe s
section
variable {X : Cx} {pos : Pos}
def gName (i : Nat) : TG := λ v σ H Q => Q (σ.set i (some v)) H
theorem pg_name {i : Nat} {x : Str} (hN : X.N.Nodup) (hi : X.N[i]? = some x) (hx : Loc X.env.scope x) (hf : X.fn x = true ∨ X.env.scope.names.lookup x = some .local := by first | exact .inl rfl | exact .inr rfl | assumption) : PG X (.Name x pos) (gName i) := by
 intro pins s σ H v u Q I r h
 exact wpAny_assign_Name (store_ok I hN hi hx r (λ s' I' => ⟨_, H, I', h⟩) hf)
def gNil : TGs := λ vs σ H Q => vs = [] /\ Q σ H
def gCons (t : TG) (u : TGs) : TGs := λ vs σ H Q => ∃ v r, vs = v :: r /\ t v σ H λ σ' H' => u r σ' H' Q
theorem pgs_nil : PGs X [] gNil := by
 intro pins s σ H vs us Q I r h
 obtain ⟨e, h⟩ := h
 subst e
 cases r
 exact assignInOrder_nil ⟨σ, H, I, h⟩
theorem pgs_cons {e : Expr} {es : List Expr} {t : TG} {u : TGs} (h1 : PG X e t) (h2 : PGs X es u)
  (hs : (assignEach (e :: es) X.env).map (·.2) = assign e X.env :: (assignEach es X.env).map (·.2) := by rfl) : PGs X (e :: es) (gCons t u) := by
 intro pins s σ H vs us Q I r h
 obtain ⟨v, vr, e1, h⟩ := h
 subst e1
 cases r with
 | cons r rr =>
  rw [hs]
  refine assignInOrder_cons (thn (h1 pins s σ H _ _ _ I r h) λ _ s1 ⟨σ1, H1, I1, q1⟩ => ?_)
  exact h2 pins s1 σ1 H1 _ _ Q I1 rr q1
def gTup (K : PySem.W.Frag) (n : Nat) (t : TGs) : TG := λ v σ H Q => ∃ a xs, v = .ref a /\ SqT K H a xs /\ xs.length = n /\ t xs σ H Q
theorem pg_tup {es : List Expr} {k : Nat} {t : TGs} {n : Nat} (hc : X.calm = true) (h : PGs X es t)
  (hn : (assignEach es X.env).length = n := by rfl) (hst : (assignEach es X.env).findIdx? (·.1) = none := by rfl) : PG X (.Tuple es k pos) (gTup X.K n t) := by
 intro pins s σ H v u Q I r hw
 obtain ⟨a, xs, e1, hq, hl, hw⟩ := hw
 subst e1
 cases r
 obtain ⟨its, rv, ht, hz⟩ := I.tuple hq
 refine assign_Tuple_tuple (I.ok.hd hc) ht (by simp [hn, <- hl, rv.length]) hst λ h' hx => ?_
 have I1 : Inv X pins σ H { s with heap := h' } := I.kept (t' := s.toks) λ b o e => hx b o (Nat.ne_of_lt (Heap.lt_size e)) e
 exact h pins _ σ H xs _ Q I1 (by simpa using rv) hw
def gSub (to ti : TE) (t : TSet) : TG := λ v σ H Q => to σ H λ o H1 => ti σ H1 λ i H2 => t o i v H2 λ H3 => Q σ H3
theorem pg_sub {o i : Expr} {to ti : TE} {t : TSet} (ho : PE X o to) (hi : PE X i ti) (hs : PSet X t)
  (ha : ∀ v, assign (.Subscript o i pos) X.env v = (do
   let ov <- holding [v] (eval o X.env)
   let iv <- holding [v, ov] (eval i X.env)
   standAt pos
   holding [v, ov, iv] (setItem ov iv v)
   release [v, ov, iv] []) := by intro _; rfl) : PG X (.Subscript o i pos) (gSub to ti t) := by
 intro pins s σ H v u Q I r h
 rw [ha]
 refine wpAny_bind (wpAny_holding (thn (ho pins s σ H _ I h) λ ov s1 ⟨x, H1, I1, r1, q1⟩ => ?_))
 refine wpAny_bind (wpAny_holding (thn (hi pins s1 σ H1 _ I1 q1) λ iv s2 ⟨y, H2, I2, r2, q2⟩ => ?_))
 refine wpAny_bind (wpAny_standAt (wpAny_bind (wpAny_holding (thn (hs pins s2 σ H2 x y v ov iv u _ I2 r1 r2 r q2) λ _ s3 ⟨H3, I3, q3⟩ => ?_))))
 exact wpAny_release ⟨σ, H3, I3, q3⟩
def tAsg (te : TE) (g : TG) : TS := λ D σ H => te σ H λ x H1 => g x σ H1 D.nx
theorem ps_asg {tg e : Expr} {te : TE} {g : TG} (he : PE X e te) (hg : PG X tg g) (hs : swapsWithSole [tg] e pos.line X.env = pure false := by rfl) (hw : swappedStores [tg] e X.env = pure none := by rfl)
  (h1 : (assignEach [tg] X.env).map (·.2) = [assign tg X.env] := by rfl) : PS X (.Assign [tg] e pos) (tAsg te g) := by
 intro pins s σ H D I h
 refine wpAny_Assign_stores (thn (he pins s σ H _ I h) λ v s1 ⟨x, H1, I1, r1, q1⟩ => ?_) hs hw
 rw [h1]
 exact thn (hg pins s1 σ H1 x v _ I1 r1 q1) λ _ s2 q => q
theorem ps_set {i : Nat} {x : Str} {e : Expr} {te : TE} {pos' : Pos} (hN : X.N.Nodup) (hi : X.N[i]? = some x) (hx : Loc X.env.scope x) (he : PE X e te) (hs : swapsWith e (some (.Name x pos')) pos.line X.env = pure false := by rfl) (hf : X.fn x = true ∨ X.env.scope.names.lookup x = some .local := by first | exact .inl rfl | exact .inr rfl | assumption) :
  PS X (.Assign [.Name x pos'] e pos) (tAsg te (gName i)) := by
 intro pins s σ H D I h
 refine wpAny_Assign_Name (thn (he pins s σ H _ I h) λ v s1 ⟨y, H1, I1, r1, q1⟩ => ?_) hs
 exact store_ok I1 hN hi hx r1 (λ s2 I2 => ⟨_, H1, I2, q1⟩) hf
def tAug (i : Nat) (te : TE) (ti : TIp) : TS := λ D σ H => ∃ x, σ[i]? = some (some x) /\ te σ H λ y H1 => ti x y H1 λ z H2 => D.nx (σ.set i (some z)) H2
theorem ps_aug {i : Nat} {x : Str} {e : Expr} {te : TE} {op : Operator} {ti : TIp} {pos' : Pos} (hN : X.N.Nodup) (hi : X.N[i]? = some x) (hx : Loc X.env.scope x) (he : PE X e te) (ho : PIp X op ti) (hf : X.fn x = true ∨ X.env.scope.names.lookup x = some .local := by first | exact .inl rfl | exact .inr rfl | assumption) :
  PS X (.AugAssign (.Name x pos') op e pos) (tAug i te ti) := by
 intro pins s σ H D I h
 obtain ⟨v, e1, h⟩ := h
 obtain ⟨m, hn, hl⟩ := I.loc
 have vis : Vis X.env.scope x := by rcases hx with k | k; exact .inl k; exact .inr (.inl k)
 obtain ⟨u, r, l⟩ := hl i x v hi e1 vis
 refine wpAny_AugAssign_Name ?_
 have go : wpAny (model X.prog X.w) X.A (eval e X.env) (λ w s₂ => wpAny (model X.prog X.w) X.A (inplaceOp op u w) (λ r s₃ => wpAny (model X.prog X.w) X.A (storeName X.env x r) (λ _ => SP X pins D .next) X.xe s₃) X.xe s₂) X.xe s := by
  refine thn (he pins s σ H _ I h) λ w s1 ⟨y, H1, I1, r1, q1⟩ => ?_
  refine thn (ho pins s1 σ H1 v y u w _ I1 r r1 q1) λ z s2 ⟨zv, H2, I2, r2, q2⟩ => ?_
  exact store_ok I2 hN hi hx r2 (λ s3 I3 => ⟨_, H2, I3, q2⟩) hf
 rcases l with ⟨hk, hm⟩ | ⟨hk, c, hc, hcell⟩
 ·exact wpAny_loadName_local I.ok.kind hk hn hm go
 ·rcases hk with hk | hk
  ·exact wpAny_loadName_cell I.ok.kind hk hc hcell go
  ·rcases hx with k | k
   ·have : X.env.scope.names.lookup x = some .free := hk
    rw [k] at this; cases this
   ·have : X.env.scope.names.lookup x = some .free := hk
    rw [k] at this; cases this
def ipI (f : Int -> Int -> Int) : TIp := λ x y H Q => ∃ i j, x = .int i /\ y = .int j /\ Q (.int (f i j)) H
theorem ip_add : PIp X .Add (ipI λ i j => i + j) := by
 intro pins s σ H x y v u Q I r1 r2 h
 obtain ⟨i, j, e1, e2, q⟩ := h
 subst e1; subst e2
 obtain ⟨t, rfl⟩ := r1
 obtain ⟨t', rfl⟩ := r2
 exact iadd_int ⟨.int _, H, I.tok _, ⟨_, rfl⟩, q⟩
end
section
variable {X : Cx} {pos : Pos}
def tWhile (c : TT) (tb : TS) : TS := λ D σ H => ∃ W : Nat -> St -> Hp -> Prop, (∃ m, W m σ H) /\ ∀ m σ H, W m σ H ->
 c σ H λ b H1 => if b = true then ∃ N : St -> Hp -> Prop, (∀ σ' H', N σ' H' -> ∃ m', m' < m /\ W m' σ' H') /\ tb { D with nx := N, ct := N, bk := D.nx } σ H1 else D.nx σ H1
theorem ps_while {c : Expr} {body : List Stmt} {tc : TT} {tb : TS} (hp : PassesOwn (model X.prog X.w) X.A X.env X.xe) (hc : PT X c tc) (hb : PSs X body tb) : PS X (.While c body [] pos) (tWhile tc tb) := by
 intro pins s σ H D I h
 obtain ⟨W, ⟨m0, w0⟩, turn⟩ := h
 refine wpAny_While (codeAny_whileLoop (λ n s' => ∃ σ' H', Inv X pins σ' H' s' /\ W n σ' H') ?_ m0 ⟨σ, H, I, w0⟩)
 rintro n s1 ⟨σ1, H1, I1, w1⟩
 refine wpAny_passesOwn hp (thn (hc pins s1 σ1 H1 _ I1 (turn n σ1 H1 w1)) λ b s2 ⟨H2, I2, q2⟩ => ?_)
 cases b with
 | true =>
  obtain ⟨N, hN, q2⟩ := q2
  rw [if_pos rfl]
  refine wpAny_passesOwn hp (thn (hb pins s2 σ1 H2 _ I2 q2) λ f s3 q3 => ?_)
  cases f with
  | next =>
   obtain ⟨σ3, H3, I3, n3⟩ := q3
   obtain ⟨m', hm, w3⟩ := hN σ3 H3 n3
   exact ⟨m', hm, σ3, H3, I3, w3⟩
  | cont =>
   obtain ⟨σ3, H3, I3, n3⟩ := q3
   obtain ⟨m', hm, w3⟩ := hN σ3 H3 n3
   exact ⟨m', hm, σ3, H3, I3, w3⟩
  | brk => exact q3
  | ret v => exact q3
 | false =>
  rw [if_neg Bool.false_ne_true]
  exact wpAny_execs_nil ⟨σ1, H2, I2, q2⟩
end
structure It where
 go : Nat -> Hp -> Prop
 yld : Nat -> Hp -> V -> Hp -> Prop
 stop : Nat -> Hp -> Prop
def FpOk (X : Cx) (pins : List (Addr × Obj)) (H : Hp) (b : Addr) : Prop :=
 H b = none /\ b ≠ X.env.locals /\ b ∉ X.fs /\ (b ∈ X.ex ∨ X.s_0.heap.objs.size <= b) /\ (∀ x c, X.env.cells.lookup x = some c -> c ≠ b) /\ ∀ p ∈ X.pn ++ pins, p.1 ≠ b
theorem Inv.fpOk {X : Cx} {pins : List (Addr × Obj)} {σ : St} {H H' : Hp} {s : Shared} {b : Addr} (I : Inv X pins σ H s) (hb : s.heap.objs.size <= b) (hn : H' b = none) : FpOk X pins H' b := by
 refine ⟨hn, Nat.ne_of_gt (Nat.lt_of_lt_of_le I.lt hb), I.nofs hb, .inr (Nat.le_trans I.sz hb), λ x c e z => ?_, λ p hp z => ?_⟩
 ·obtain ⟨v, q⟩ := I.cell x c e
  exact absurd (Nat.lt_of_lt_of_le q.lt (by rw [z]; exact hb)) (Nat.lt_irrefl _)
 ·exact absurd (Nat.lt_of_lt_of_le (Heap.lt_size (I.pin p hp).1) (by rw [z]; exact hb)) (Nat.lt_irrefl _)
structure Turn (P : Program) (w : World) (K : PySem.W.Frag) (tg : Expr) (J : It) (fp : List Addr) (it : Addr) (tn : Nat -> Heap -> Prop) : Prop where
 mem : it ∈ fp
 obj : ∀ i h, tn i h -> ∀ b ∈ fp, ∃ o, h.get? b = some o /\ ∀ v, o.data ≠ .cell v
 keep : ∀ i h h', tn i h -> (∀ b ∈ fp, ∀ o, h.get? b = some o -> h'.get? b = some o) -> tn i h'
 item : ∀ (X : Cx), X.prog = P -> X.w = w -> X.K = K -> X.calm = true -> ∀ (i : Nat) (pins : List (Addr × Obj)) (s : Shared) (σ : St) (H : Hp) (E : Value -> Shared -> Prop), Inv X pins σ H s -> (∀ b ∈ fp, FpOk X pins H b) -> tn i s.heap -> J.go i H ->
  wpAny (model P w) X.A (pyNext (.ref it)) (λ r s1 => ∃ u, r = some u /\
   wpAny (model P w) X.A (letOwnedTupleGo tg (.ref it) u) (λ _ s2 => ∃ x H', Inv X pins σ H' s2 /\ RelV x u /\ J.yld i H x H' /\ tn (i + 1) s2.heap /\ ∀ b ∈ fp, H' b = none) E s1) E s
 done : ∀ (X : Cx), X.prog = P -> X.w = w -> X.K = K -> X.calm = true -> ∀ (i : Nat) (pins : List (Addr × Obj)) (s : Shared) (σ : St) (H : Hp) (E : Value -> Shared -> Prop), Inv X pins σ H s -> (∀ b ∈ fp, FpOk X pins H b) -> tn i s.heap -> J.stop i H ->
  wpAny (model P w) X.A (pyNext (.ref it)) (λ r s1 => r = none /\ Inv X pins σ H s1) E s
 self : ∀ (A : Around) (i : Nat) (s : Shared) (Q : Value -> Shared -> Prop) (E : Value -> Shared -> Prop), tn i s.heap -> Q (.ref it) s -> wpAny (model P w) A (pyIter (.ref it)) Q E s
abbrev TI := St -> Hp -> (It -> Hp -> Prop) -> Prop
def PIE (X : Cx) (pins : List (Addr × Obj)) (σ : St) (tg : Expr) (R : It -> Hp -> Prop) (itv : Value) (s2 : Shared) : Prop :=
 ∃ (it : Addr) (fp : List Addr) (tn : Nat -> Heap -> Prop) (J : It) (H' : Hp), itv = .ref it /\ Inv X pins σ H' s2 /\ Turn X.prog X.w X.K tg J fp it tn /\ tn 0 s2.heap /\ (∀ b ∈ fp, FpOk X pins H' b) /\ R J H'
def PI (X : Cx) (tg iter : Expr) (wi : TI) : Prop :=
 ∀ (pins : List (Addr × Obj)) (s : Shared) (σ : St) (H : Hp) (R : It -> Hp -> Prop), Inv X pins σ H s -> wi σ H R ->
  wpAny (model X.prog X.w) X.A (eval iter X.env) (λ v s1 => wpAny (model X.prog X.w) X.A (pyIter v) (PIE X pins σ tg R) X.xe s1) X.xe s
theorem go_of {M : Model} {A : Around} {E : Value -> Shared -> Prop} {s : Shared} {tg : Expr} {it : Addr} {u : Value} {o : Obj} {n : String} {vs : Array Value} {Q : Unit -> Shared -> Prop} (ho : s.heap.get? it = some o) (hc : o.cls = .type n) (hd : o.data = .fields vs)
    (hn : ["enumerate", "zip", "dict_itemiterator", "dict_reverseitemiterator", "odict_iterator", "itertools.zip_longest", "itertools.pairwise"].contains n = false) (hQ : Q () s) : wpAny M A (letOwnedTupleGo tg (.ref it) u) Q E s := by
  unfold letOwnedTupleGo
  cases tg <;> first
    | exact wpAny_pure hQ
    | (cases u <;> first
        | exact wpAny_pure hQ
        | (refine wpAny_bind (wpAny_load ho ?_)
           rw [hc, hd]
           show wpAny M A (if (["enumerate", "zip", "dict_itemiterator", "dict_reverseitemiterator", "odict_iterator", "itertools.zip_longest", "itertools.pairwise"].contains n && vs[0]? == some (rawInt _)) = true then _ else _) Q E s
           rw [if_neg (by intro h; rw [hn, Bool.false_and] at h; cases h)]
           exact wpAny_pure hQ))
def Itl (K : PySem.W.Frag) (a : Addr) : It :=
 ⟨λ i H => ∃ xs x, SqL K H a xs /\ xs[i]? = some x, λ i H x H' => H' = H /\ ∀ xs, SqL K H a xs -> xs[i]? = some x, λ i H => ∃ xs, SqL K H a xs /\ xs.length <= i⟩
def Itr (lo : Int) (n : Nat) : It := ⟨λ i _ => i < n, λ i H x H' => H' = H /\ x = .int (lo + i), λ i _ => n <= i⟩
theorem turn_list {P : Program} {w : World} {K : PySem.W.Frag} {tg : Expr} (a it : Addr) : Turn P w K tg (Itl K a) [it] it (λ i h => h.IsListIter it a i) where
 mem := by simp
 obj := λ i h st b hb => by
  have e : b = it := by simpa using hb
  subst e
  obtain ⟨o, e, c, d⟩ := st
  exact ⟨o, e, λ v z => by rw [d] at z; cases z⟩
 keep := λ i h h' st k => st.at λ o e => k it (by simp) o e
 item := by
  intro X hP hw hK hc i pins s σ H E I hf st hg
  subst hP hw hK
  obtain ⟨xs, x, hq, hx⟩ := hg
  obtain ⟨its, rv, p, hz⟩ := I.list hq
  obtain ⟨u, hu, ru⟩ := rv.get hx
  obtain ⟨f0, f1, f2, f3, f4, f5⟩ := hf it (by simp)
  refine wpAny_pyNext_list_item st p.isList (x := u) (by simpa using hu) λ h' st' sb => ?_
  have I1 : Inv X pins σ H { s with heap := h' } := I.turned (t' := s.toks) (λ b o hb e => (sb.2 b hb).trans e) f0 f1 f3 f4 f5
  obtain ⟨o, e, c, d⟩ := id st'
  exact ⟨u, rfl, go_of (s := { s with heap := h' }) e c d (by decide) ⟨x, H, I1, ru, ⟨rfl, λ ys hy => by rw [I.list_inj hy hq]; exact hx⟩, st', λ b hb => (hf b hb).1⟩⟩
 done := by
  intro X hP hw hK hc i pins s σ H E I hf st hg
  subst hP hw hK
  obtain ⟨xs, hq, hx⟩ := hg
  obtain ⟨its, rv, p, hz⟩ := I.list hq
  obtain ⟨f0, f1, f2, f3, f4, f5⟩ := hf it (by simp)
  have hl := rv.length
  exact wpAny_pyNext_list_end (I.ok.hd hc) st p.isList (by simp; omega) λ h' eb => ⟨rfl, I.turned (t' := s.toks) (λ b o hb e => eb b o hb e) f0 f1 f3 f4 f5⟩
 self := λ _ _ _ _ _ st h => wpAny_pyIter_listiter st h
theorem turn_range {P : Program} {w : World} {K : PySem.W.Frag} {tg : Expr} (it : Addr) (lo : Int) (n : Nat) : Turn P w K tg (Itr lo n) [it] it (λ i h => IsRangeIter h it (lo + (i : Nat) * 1) ((n : Int) - (i : Nat)) 1) where
 mem := by simp
 obj := λ i h st b hb => by
  have e : b = it := by simpa using hb
  subst e
  exact ⟨_, st, λ v z => by
   have z' : Data.fields _ = Data.cell v := z
   cases z'⟩
 keep := λ i h h' st k => k it (by simp) _ st
 item := by
  intro X hP hw hK hc i pins s σ H E I hf st hg
  subst hP hw hK
  obtain ⟨f0, f1, f2, f3, f4, f5⟩ := hf it (by simp)
  have W := Walks.range (prog := X.prog) (w := X.w) (I.ok.hd hc) it lo 1 n
  refine W.item i s _ _ hg st λ v h' tk hv st' kk => ?_
  obtain ⟨t, rfl⟩ := hv
  have I1 : Inv X pins σ H { s with heap := h', toks := tk } := I.turned (λ b o hb e => kk b o (by simpa using hb) e) f0 f1 f3 f4 f5
  refine ⟨_, rfl, go_of (s := { s with heap := h', toks := tk }) (n := "range_iterator") st' rfl rfl (by decide) ⟨.int (lo + i), H, I1, ⟨t, ?_⟩, ⟨rfl, rfl⟩, st', λ b hb => (hf b hb).1⟩⟩
  rw [Int.mul_one]
 done := by
  intro X hP hw hK hc i pins s σ H E I hf st hg
  subst hP hw hK
  obtain ⟨f0, f1, f2, f3, f4, f5⟩ := hf it (by simp)
  exact wpAny_pyNext_range_end (I.ok.hd hc) st (by have : n <= i := hg; omega) λ h' eb => ⟨rfl, I.turned (t' := s.toks) (λ b o hb e => eb b o hb e) f0 f1 f3 f4 f5⟩
 self := λ _ _ _ _ _ st h => wpAny_pyIter_rangeiter st h
end L2
namespace L2
open PySem PySem.Spec PyProof.Rows
section
variable {X : Cx} {tg : Expr}
def iList (K : PySem.W.Frag) (tl : TE) : TI := λ σ H R => tl σ H λ x H1 => ∃ a, x = .ref a /\ (∃ xs, SqL K H1 a xs) /\ R (Itl K a) H1
theorem pi_list {l : Expr} {tl : TE} (hl : PE X l tl) : PI X tg l (iList X.K tl) := by
 intro pins s σ H R I h
 refine thn (hl pins s σ H _ I h) λ v s1 ⟨x, H1, I1, r1, q1⟩ => ?_
 obtain ⟨a, e, ⟨xs, hq⟩, q⟩ := q1
 subst e
 cases r1
 obtain ⟨its, rv, p, hz⟩ := I1.list hq
 refine wpAny_pyIter_list p.isList ?_
 refine ⟨s1.heap.objs.size, [s1.heap.objs.size], _, _, H1, rfl, I1.kept (t' := s1.toks) λ b o e => Heap.get?_push_of_some _ e, turn_list a _, ⟨_, Heap.get?_push_size _ rfl, rfl, rfl⟩, λ b hb => ?_, q⟩
 have e : b = s1.heap.objs.size := by simpa using hb
 subst e
 exact I1.fpOk (Nat.le_refl _) (I1.hok.fresh (Nat.le_refl _))
theorem range_it {pins : List (Addr × Obj)} {σ : St} {H : Hp} {s : Shared} {R : It -> Hp -> Prop} {E : Value -> Shared -> Prop} {lo hi : Int} {t u v : Tok} {tk : Nat} (I : Inv X pins σ H s) (h1 : -(2 ^ 62) <= lo) (h2 : lo < 2 ^ 62) (h3 : -(2 ^ 62) <= hi) (h4 : hi < 2 ^ 62)
  (q : R (Itr lo (hi - lo).toNat) H) : wpAny (model X.prog X.w) X.A (pyIter (.ref s.heap.objs.size)) (PIE X pins σ tg R) E { s with heap := s.heap.push { cls := .type "range", data := .fields #[.int lo t, .int hi u, .int 1 v] }, toks := tk } := by
 refine wpAny_pyIter_range (IsRange.new ..) (small_one h1 h2 h3 h4) ?_
 have I1 : Inv X pins σ H { s with heap := s.heap.push { cls := .type "range", data := .fields #[.int lo t, .int hi u, .int 1 v] }, toks := tk } := I.kept λ b o e => Heap.get?_push_of_some _ e
 refine ⟨(s.heap.push { cls := .type "range", data := .fields #[.int lo t, .int hi u, .int 1 v] }).objs.size, [(s.heap.push { cls := .type "range", data := .fields #[.int lo t, .int hi u, .int 1 v] }).objs.size], _, _, H, rfl,
  I1.kept (t' := tk) λ b o e => Heap.get?_push_of_some _ e, turn_range _ lo (hi - lo).toNat, ?_, λ b hb => ?_, q⟩
 ·have e1 : lo + ((0 : Nat) : Int) * 1 = lo := by simp
  have e2 : (((hi - lo).toNat : Nat) : Int) - ((0 : Nat) : Int) = Builtin.Range.rangeSize lo hi 1 := by rw [rangeSize_one]; split <;> omega
  show IsRangeIter _ _ (lo + ((0 : Nat) : Int) * 1) ((((hi - lo).toNat : Nat) : Int) - ((0 : Nat) : Int)) 1
  rw [e1, e2]
  exact Heap.get?_push_size _ rfl
 ·have e : b = (s.heap.push { cls := .type "range", data := .fields #[.int lo t, .int hi u, .int 1 v] }).objs.size := by simpa using hb
  subst e
  exact I1.fpOk (Nat.le_refl _) (I1.hok.fresh (Nat.le_refl _))
def iRng1 (ta : TA) : TI := λ σ H R => ta σ H λ vs H1 => ∃ j : Int, vs = [.int j] /\ -(2 ^ 62) <= j /\ j < 2 ^ 62 /\ R (Itr 0 j.toNat) H1
def iRng2 (ta : TA) : TI := λ σ H R => ta σ H λ vs H1 => ∃ i j : Int, vs = [.int i, .int j] /\ (-(2 ^ 62) <= i /\ i < 2 ^ 62 /\ -(2 ^ 62) <= j /\ j < 2 ^ 62) /\ R (Itr i (j - i).toNat) H1
theorem pi_range1 {a : Expr} {ta : TA} {p pos : Pos} (hg : Gl X "range") (hm : X.mg "range" = none) (ha : PA X [a] ta) (hs : starEach [a] X.env = [(false, eval a X.env)] := by rfl) : PI X tg (.Call (.Name "range" p) [a] [] pos) (iRng1 ta) := by
 intro pins s σ H R I h
 refine Call_ (ld_blt I hg hm boot_range (PyProof.Rows.callWith_type1 (thn (ha pos pins s σ H _ I h) λ us s1 ⟨vs, H1, I1, r1, q1⟩ => ?_) hs rfl))
 obtain ⟨j, e, q1, q2, q⟩ := q1
 subst e
 cases r1 with
 | cons r rr =>
  cases rr
  obtain ⟨t, rfl⟩ := r
  exact call_range_1 (range_it I1 (by omega) (by omega) q1 q2 (by simpa using q))
theorem pi_range2 {a b : Expr} {ta : TA} {p pos : Pos} (hg : Gl X "range") (hm : X.mg "range" = none) (ha : PA X [a, b] ta) (hs : starEach [a, b] X.env = [(false, eval a X.env), (false, eval b X.env)] := by rfl) (hs2 : starEach [b] X.env = [(false, eval b X.env)] := by rfl) :
  PI X tg (.Call (.Name "range" p) [a, b] [] pos) (iRng2 ta) := by
 intro pins s σ H R I h
 refine Call_ (ld_blt I hg hm boot_range (PyProof.Rows.callWith_type1 (thn (ha pos pins s σ H _ I h) λ us s1 ⟨vs, H1, I1, r1, q1⟩ => ?_) (by rw [hs, hs2]) (by rw [hs2]; rfl)))
 obtain ⟨i, j, e, ⟨q1, q2, q3, q4⟩, q⟩ := q1
 subst e
 cases r1 with
 | cons r rr =>
  cases rr with
  | cons r' rr =>
   cases rr
   obtain ⟨t, rfl⟩ := r
   obtain ⟨t', rfl⟩ := r'
   exact call_range_2 (range_it I1 q1 q2 q3 q4 q)
def tFor (wi : TI) (g : TG) (tb : TS) : TS := λ D σ H => wi σ H λ J H1 => ∃ W : Nat -> Nat -> St -> Hp -> Prop, (∃ m, W 0 m σ H1) /\ ∀ i m σ H, W i m σ H ->
 (J.stop i H /\ D.nx σ H) ∨ (J.go i H /\ ∃ N : St -> Hp -> Prop, (∀ σ' H', N σ' H' -> ∃ m', m' < m /\ W (i + 1) m' σ' H') /\ ∀ x H', J.yld i H x H' -> g x σ H' λ σ2 H2 => tb { D with nx := N, ct := N, bk := D.nx } σ2 H2)
def pinsAt (fp : List Addr) (h : Heap) : List (Addr × Obj) := fp.filterMap λ b => (h.get? b).map λ o => (b, o)
theorem mem_pinsAt {fp : List Addr} {h : Heap} {b : Addr} {o : Obj} (hb : b ∈ fp) (e : h.get? b = some o) : (b, o) ∈ pinsAt fp h := List.mem_filterMap.mpr ⟨b, hb, by rw [e]; rfl⟩
theorem of_pinsAt {fp : List Addr} {h : Heap} {p : Addr × Obj} (hp : p ∈ pinsAt fp h) : p.1 ∈ fp /\ h.get? p.1 = some p.2 := by
 obtain ⟨b, hb, e⟩ := List.mem_filterMap.mp hp
 cases q : h.get? b with
 | none => rw [q] at e; cases e
 | some o =>
  rw [q] at e
  have e' : (b, o) = p := Option.some.inj e
  subst e'
  exact ⟨hb, q⟩
theorem Inv.pinned {pins : List (Addr × Obj)} {σ : St} {H : Hp} {s : Shared} {fp : List Addr} (I : Inv X pins σ H s) (hf : ∀ b ∈ fp, FpOk X pins H b) (ho : ∀ b ∈ fp, ∃ o, s.heap.get? b = some o /\ ∀ v, o.data ≠ .cell v) : Inv X (pins ++ pinsAt fp s.heap) σ H s :=
 I.pins_of λ p hp => (List.mem_append.mp hp).elim (λ z => I.pin p (List.mem_append_right _ z)) λ z => by
  obtain ⟨hb, e⟩ := of_pinsAt z
  obtain ⟨f0, f1, f2, _⟩ := hf p.1 hb
  obtain ⟨o, e', d⟩ := ho p.1 hb
  rw [e] at e'; cases e'
  exact ⟨e, f0, f1, f2, d⟩
theorem Inv.unpinned {pins pl : List (Addr × Obj)} {σ : St} {H : Hp} {s : Shared} (I : Inv X (pins ++ pl) σ H s) : Inv X pins σ H s := I.pins_of λ p hp => I.pin p (List.mem_append_right _ (List.mem_append_left _ hp))
theorem ps_for {iter : Expr} {body : List Stmt} {wi : TI} {g : TG} {tb : TS} {pos : Pos} (hp : PassesOwn (model X.prog X.w) X.A X.env X.xe) (hc : X.calm = true) (hi : PI X tg iter wi) (hg : PG X tg g) (hb : PSs X body tb)
  (hs : ∀ x, foldedSetIterable iter X.env x = pure x := by intro _; rfl) : PS X (.For tg iter body [] pos) (tFor wi g tb) := by
 intro pins s σ H D I h
 refine wpAny_For (thn (hi pins s σ H _ I h) λ v s1 h1 => thn h1 λ itv s2 h2 => ?_) hs
 obtain ⟨it, fp, tn, J, H2, e, I2, T, st2, f2, W, ⟨m0, w0⟩, turn⟩ := h2
 subst e
 -- what stays true of the iterator's objects through the loop
 have stat : ∀ {H' : Hp}, (∀ b ∈ fp, H' b = none) -> ∀ b ∈ fp, FpOk X pins H' b := λ hn b hb => ⟨hn b hb, (f2 b hb).2⟩
 refine codeAny_forLoop_any (λ n s' => ∃ i σ' H', Inv X pins σ' H' s' /\ tn i s'.heap /\ (∀ b ∈ fp, H' b = none) /\ W i n σ' H') ?_ m0 ⟨0, σ, H2, I2, st2, λ b hb => (f2 b hb).1, w0⟩
 rintro n s3 ⟨i, σ3, H3, I3, st3, fr3, w3⟩
 rcases turn i n σ3 H3 w3 with ⟨stop, qn⟩ | ⟨go, N, hN, step⟩
 ·refine wpAny_passesOwn hp (thn (T.done X rfl rfl rfl hc i pins s3 σ3 H3 X.xe I3 (stat fr3) st3 stop) λ r s4 ⟨hr, I4⟩ => ?_)
  subst hr
  exact wpAny_execs_nil ⟨σ3, H3, I4, qn⟩
 ·refine wpAny_passesOwn hp (thn (T.item X rfl rfl rfl hc i pins s3 σ3 H3 X.xe I3 (stat fr3) st3 go) λ r s4 ⟨u, hr, h4⟩ => ?_)
  subst hr
  refine wpAny_passesOwn hp (thn h4 λ _ s5 ⟨x, H5, I5, r5, y5, st5, fr5⟩ => ?_)
  have I5' := I5.pinned (stat fr5) (T.obj _ _ st5)
  refine wpAny_passesOwn hp (thn (hg _ s5 σ3 H5 x u _ I5' r5 (step x H5 y5)) λ _ s6 ⟨σ6, H6, I6, q6⟩ => ?_)
  refine wpAny_passesOwn hp (thn (hb _ s6 σ6 H6 _ I6 q6) λ f s7 q7 => ?_)
  have again : ∀ {σ7 : St} {H7 : Hp}, Inv X (pins ++ pinsAt fp s5.heap) σ7 H7 s7 -> N σ7 H7 -> ∃ m, m < n /\ ∃ i σ' H', Inv X pins σ' H' s7 /\ tn i s7.heap /\ (∀ b ∈ fp, H' b = none) /\ W i m σ' H' := λ {σ7 H7} I7 n7 => by
   obtain ⟨m', hm, w7⟩ := hN σ7 H7 n7
   refine ⟨m', hm, i + 1, σ7, H7, I7.unpinned, T.keep _ _ _ st5 λ b hb o e => (I7.pin (b, o) (List.mem_append_right _ (List.mem_append_right _ (mem_pinsAt hb e)))).1, λ b hb => ?_, w7⟩
   obtain ⟨o, e, d⟩ := T.obj _ _ st5 b hb
   exact (I7.pin (b, o) (List.mem_append_right _ (List.mem_append_right _ (mem_pinsAt hb e)))).2.1
  cases f with
  | next => obtain ⟨σ7, H7, I7, n7⟩ := q7; exact again I7 n7
  | cont => obtain ⟨σ7, H7, I7, n7⟩ := q7; exact again I7 n7
  | brk => obtain ⟨σ7, H7, I7, q7⟩ := q7; exact ⟨σ7, H7, I7.unpinned, q7⟩
  | ret v => obtain ⟨x7, σ7, H7, I7, r7, q7⟩ := q7; exact ⟨x7, σ7, H7, I7.unpinned, r7, q7⟩
end
theorem for_list {K : PySem.W.Frag} {a : Addr} {xs : List V} {g : TG} {tb : TS} {D : Ends} {σ : St} {H : Hp} (Pv : Nat -> St -> Hp -> Prop) (h0 : Pv 0 σ H) (hl : ∀ i σ H, i <= xs.length -> Pv i σ H -> SqL K H a xs)
  (hs : ∀ i x σ H, xs[i]? = some x -> Pv i σ H -> g x σ H λ σ2 H2 => tb { D with nx := Pv (i + 1), ct := Pv (i + 1), bk := D.nx } σ2 H2) (hd : ∀ σ H, Pv xs.length σ H -> D.nx σ H) :
  ∃ W : Nat -> Nat -> St -> Hp -> Prop, (∃ m, W 0 m σ H) /\ ∀ i m σ H, W i m σ H ->
   ((Itl K a).stop i H /\ D.nx σ H) ∨ ((Itl K a).go i H /\ ∃ N : St -> Hp -> Prop, (∀ σ' H', N σ' H' -> ∃ m', m' < m /\ W (i + 1) m' σ' H') /\ ∀ x H', (Itl K a).yld i H x H' -> g x σ H' λ σ2 H2 => tb { D with nx := N, ct := N, bk := D.nx } σ2 H2) := by
 refine ⟨λ i m σ H => m = xs.length - i /\ i <= xs.length /\ Pv i σ H, ⟨xs.length, by simp, Nat.zero_le _, h0⟩, ?_⟩
 rintro i m σ H ⟨rfl, hi, p⟩
 have q := hl i σ H hi p
 by_cases hlt : i < xs.length
 ·refine .inr ⟨⟨xs, xs[i], q, by simp [hlt]⟩, Pv (i + 1), λ σ' H' p' => ⟨xs.length - (i + 1), by omega, rfl, hlt, p'⟩, λ x H' y => ?_⟩
  obtain ⟨e, y⟩ := y
  subst e
  exact hs i x σ _ (y xs q) p
 ·have e : i = xs.length := by omega
  subst e
  exact .inl ⟨⟨xs, q, Nat.le_refl _⟩, hd σ H p⟩
theorem for_range {lo : Int} {n : Nat} {g : TG} {tb : TS} {D : Ends} {σ : St} {H : Hp} (Pv : Nat -> St -> Hp -> Prop) (h0 : Pv 0 σ H)
  (hs : ∀ i σ H, i < n -> Pv i σ H -> g (.int (lo + i)) σ H λ σ2 H2 => tb { D with nx := Pv (i + 1), ct := Pv (i + 1), bk := D.nx } σ2 H2) (hd : ∀ σ H, Pv n σ H -> D.nx σ H) :
  ∃ W : Nat -> Nat -> St -> Hp -> Prop, (∃ m, W 0 m σ H) /\ ∀ i m σ H, W i m σ H ->
   ((Itr lo n).stop i H /\ D.nx σ H) ∨ ((Itr lo n).go i H /\ ∃ N : St -> Hp -> Prop, (∀ σ' H', N σ' H' -> ∃ m', m' < m /\ W (i + 1) m' σ' H') /\ ∀ x H', (Itr lo n).yld i H x H' -> g x σ H' λ σ2 H2 => tb { D with nx := N, ct := N, bk := D.nx } σ2 H2) := by
 refine ⟨λ i m σ H => m = n - i /\ i <= n /\ Pv i σ H, ⟨n, by simp, Nat.zero_le _, h0⟩, ?_⟩
 rintro i m σ H ⟨rfl, hi, p⟩
 by_cases hlt : i < n
 ·refine .inr ⟨hlt, Pv (i + 1), λ σ' H' p' => ⟨n - (i + 1), by omega, rfl, hlt, p'⟩, λ x H' y => ?_⟩
  obtain ⟨e, y⟩ := y
  subst e y
  exact hs i σ _ hlt p
 ·have e : i = n := by omega
  subst e
  exact .inl ⟨Nat.le_refl _, hd σ H p⟩
end L2
namespace L2
open PySem PySem.Spec PyProof.Rows
abbrev R2 := V -> V -> Hp -> VK -> Prop
def OpR (X : Cx) (f : Value -> Value -> Sem Value) (r : R2) : Prop :=
 ∀ (pins : List (Addr × Obj)) (s : Shared) (σ : St) (H : Hp) (x y : V) (v u : Value) (Q : VK), Inv X pins σ H s -> RelV x v -> RelV y u -> r x y H Q ->
  wpAny (model X.prog X.w) X.A (f v u) (EP X pins σ Q) X.xe s
def UnR (X : Cx) (f : Value -> Sem Value) (r : V -> Hp -> VK -> Prop) : Prop :=
 ∀ (pins : List (Addr × Obj)) (s : Shared) (σ : St) (H : Hp) (x : V) (v : Value) (Q : VK), Inv X pins σ H s -> RelV x v -> r x H Q ->
  wpAny (model X.prog X.w) X.A (f v) (EP X pins σ Q) X.xe s
def CallR (X : Cx) (f : Value) (r : List V -> Hp -> VK -> Prop) : Prop :=
 ∀ (pins : List (Addr × Obj)) (s : Shared) (σ : St) (H : Hp) (xs : List V) (us : List Value) (Q : VK), Inv X pins σ H s -> Vals xs us -> r xs H Q ->
  wpAny (model X.prog X.w) X.A (call f us) (EP X pins σ Q) X.xe s
def tOp (r : R2) (ta tb : TE) : TE := λ σ H Q => ta σ H λ x H1 => tb σ H1 λ y H2 => r x y H2 Q
def tUn (r : V -> Hp -> VK -> Prop) (ta : TE) : TE := λ σ H Q => ta σ H λ x H1 => r x H1 Q
def rI (C : Int -> Int -> Prop) (g : Int -> Int -> V) : R2 := λ x y H Q => ∃ i j, x = .int i /\ y = .int j /\ C i j /\ Q (g i j) H
def rI0 (g : Int -> Int -> V) : R2 := λ x y H Q => ∃ i j, x = .int i /\ y = .int j /\ Q (g i j) H
def rU (g : Int -> V) : V -> Hp -> VK -> Prop := λ x H Q => ∃ i, x = .int i /\ Q (g i) H
section
variable {X : Cx} {a b c : Expr} {ta tb tc : TE} {pos : Pos}
theorem binT (ha : PE X a ta) (hb : PE X b tb) {pins : List (Addr × Obj)} {s : Shared} {σ : St} {H : Hp} {R : V -> V -> Hp -> Prop} (I : Inv X pins σ H s)
  (h : ta σ H λ x H1 => tb σ H1 λ y H2 => R x y H2) {Q : Value -> Shared -> Prop} {f : Value -> Value -> Sem Value}
  (hf : ∀ v u s2 x y H2, Inv X pins σ H2 s2 -> RelV x v -> RelV y u -> R x y H2 -> wpAny (model X.prog X.w) X.A (f v u) Q X.xe s2) :
  wpAny (model X.prog X.w) X.A (eval a X.env) (λ v s₁ => wpAny (model X.prog X.w) X.A (eval b X.env) (λ u s₂ => wpAny (model X.prog X.w) X.A (f v u) Q X.xe s₂) X.xe s₁) X.xe s := by
 refine thn (ha pins s σ H _ I h) λ v s1 ⟨x, H1, I1, r1, q1⟩ => ?_
 refine thn (hb pins s1 σ H1 _ I1 q1) λ u s2 ⟨y, H2, I2, r2, q2⟩ => ?_
 exact hf v u s2 x y H2 I2 r1 r2 q2
theorem pe_op {op : Operator} {r : R2} (ho : OpR X (binaryOp op) r) (ha : PE X a ta) (hb : PE X b tb) : PE X (.BinOp a op b pos) (tOp r ta tb) := by
 intro pins s σ H Q I h
 exact wpAny_BinOp (binT ha hb I h λ v u s2 x y H2 I2 rx ry q => ho pins s2 σ H2 x y v u Q I2 rx ry q)
theorem pe_un {op : UnaryOp} {r : V -> Hp -> VK -> Prop} (ho : UnR X (unaryOp op) r) (ha : PE X a ta) : PE X (.UnaryOp op a pos) (tUn r ta) := by
 intro pins s σ H Q I h
 exact UnaryOp_ (thn (ha pins s σ H _ I h) λ v s1 ⟨x, H1, I1, r1, q1⟩ => ho pins s1 σ H1 x v Q I1 r1 q1)
theorem opI {f : Value -> Value -> Sem Value} {C : Int -> Int -> Prop} {g : Int -> Int -> Int}
  (rule : ∀ (i j : Int) (t u : Tok) (s : Shared) (Q : Value -> Shared -> Prop) (E : Value -> Shared -> Prop), C i j -> Q (.int (g i j) s.toks) { s with toks := s.toks + 1 } -> wpAny (model X.prog X.w) X.A (f (.int i t) (.int j u)) Q E s) :
  OpR X f (rI C λ i j => .int (g i j)) := by
 intro pins s σ H x y v u Q I rx ry h
 obtain ⟨i, j, rfl, rfl, hc, q⟩ := h
 obtain ⟨t, rfl⟩ := rx
 obtain ⟨t', rfl⟩ := ry
 exact rule i j t t' s _ _ hc ⟨.int (g i j), H, I.tok _, ⟨_, rfl⟩, q⟩
theorem opI0 {f : Value -> Value -> Sem Value} {g : Int -> Int -> Int}
  (rule : ∀ (i j : Int) (t u : Tok) (s : Shared) (Q : Value -> Shared -> Prop) (E : Value -> Shared -> Prop), Q (.int (g i j) s.toks) { s with toks := s.toks + 1 } -> wpAny (model X.prog X.w) X.A (f (.int i t) (.int j u)) Q E s) :
  OpR X f (rI0 λ i j => .int (g i j)) := by
 intro pins s σ H x y v u Q I rx ry h
 obtain ⟨i, j, rfl, rfl, q⟩ := h
 obtain ⟨t, rfl⟩ := rx
 obtain ⟨t', rfl⟩ := ry
 exact rule i j t t' s _ _ ⟨.int (g i j), H, I.tok _, ⟨_, rfl⟩, q⟩
theorem opB0 {f : Value -> Value -> Sem Value} {g : Int -> Int -> Bool}
  (rule : ∀ (i j : Int) (t u : Tok) (s : Shared) (Q : Value -> Shared -> Prop) (E : Value -> Shared -> Prop), Q (.bool (g i j)) s -> wpAny (model X.prog X.w) X.A (f (.int i t) (.int j u)) Q E s) :
  OpR X f (rI0 λ i j => .bl (g i j)) := by
 intro pins s σ H x y v u Q I rx ry h
 obtain ⟨i, j, rfl, rfl, q⟩ := h
 obtain ⟨t, rfl⟩ := rx
 obtain ⟨t', rfl⟩ := ry
 exact rule i j t t' s _ _ ⟨.bl (g i j), H, I, rfl, q⟩
def CDiv (i j : Int) : Prop := 0 < j /\ j < 1073741824
def CMul (i j : Int) : Prop := (-(2 ^ 64) < i /\ i < 2 ^ 64) ∨ (-(2 ^ 64) < j /\ j < 2 ^ 64)
theorem CMul.ok {i j : Int} (h : CMul i j) : IntMulOk i j := by
 rcases h with ⟨h1, h2⟩ | ⟨h1, h2⟩
 ·exact .of_left (intBits_le_64 h1 h2)
 ·exact .of_right (intBits_le_64 h1 h2)
theorem op_add : OpR X (binaryOp .Add) (rI0 λ i j => .int (i + j)) := opI0 λ _ _ _ _ _ _ _ q => add_int q
theorem op_sub : OpR X (binaryOp .Sub) (rI0 λ i j => .int (i - j)) := opI0 λ _ _ _ _ _ _ _ q => sub_int q
theorem op_mul : OpR X (binaryOp .Mult) (rI CMul λ i j => .int (i * j)) := opI λ _ _ _ _ _ _ _ hc q => mul_int q hc.ok
theorem op_fdiv : OpR X (binaryOp .FloorDiv) (rI CDiv λ i j => .int (i / j)) := opI λ i j _ _ _ _ _ hc q => by
 have h1 : (0 : Int) < j := hc.1
 have h2 : j < 1073741824 := hc.2
 exact floordiv_int (by omega) (by rw [Int.fdiv_eq_ediv_of_nonneg i (by omega)]; exact q) (.inl (PyProof.noPylong_small (by omega)))
theorem unI {f : Value -> Sem Value} {g : Int -> Int}
  (rule : ∀ (i : Int) (t : Tok) (s : Shared) (Q : Value -> Shared -> Prop) (E : Value -> Shared -> Prop), Q (.int (g i) s.toks) { s with toks := s.toks + 1 } -> wpAny (model X.prog X.w) X.A (f (.int i t)) Q E s) :
  UnR X f (rU λ i => .int (g i)) := by
 intro pins s σ H x v Q I rx h
 obtain ⟨i, rfl, q⟩ := h
 obtain ⟨t, rfl⟩ := rx
 exact rule i t s _ _ ⟨.int (g i), H, I.tok _, ⟨_, rfl⟩, q⟩
theorem un_neg : UnR X (unaryOp .USub) (rU λ i => .int (-i)) := unI λ _ _ _ _ _ q => neg_int q
end
def scal : V -> V -> Bool
 | .non, .non => true | .non, .int _ => true | .int _, .non => true | .non, .bl _ => true | .bl _, .non => true | .non, .str _ => true | .str _, .non => true
 | .int _, .int _ => true | .bl _, .bl _ => true | .str _, .str _ => true | .byt _, .byt _ => true
 | .int _, .str _ => true | .str _, .int _ => true | .bl _, .str _ => true | .str _, .bl _ => true
 | _, _ => false
def rEq : R2 := λ x y H Q => scal x y = true /\ Q (.bl (decide (x = y))) H
def rNe : R2 := λ x y H Q => scal x y = true /\ Q (.bl (!decide (x = y))) H
theorem dec_int {i j : Int} : decide (V.int i = V.int j) = (i == j) := by
 rw [Bool.eq_iff_iff]
 simp
theorem dec_bl {i j : Bool} : decide (V.bl i = V.bl j) = (i == j) := by
 rw [Bool.eq_iff_iff]
 simp
theorem dec_str {i j : Str} : decide (V.str i = V.str j) = (i == j) := by
 rw [Bool.eq_iff_iff]
 simp
theorem dec_byt {i j : Array UInt8} : decide (V.byt i = V.byt j) = (i.toList == j.toList) := by
 rw [Bool.eq_iff_iff]
 cases i
 cases j
 simp
section
variable {X : Cx} {a b c : Expr} {ta tb tc : TE} {pos : Pos}
theorem fin_bl {pins : List (Addr × Obj)} {σ : St} {H : Hp} {s : Shared} {Q : VK} {k k' : Bool} (I : Inv X pins σ H s) (q : Q (.bl k) H) (e : k = k') : EP X pins σ Q (.bool k') s := by
 subst e
 exact ⟨.bl k, H, I, rfl, q⟩
theorem op_eq : OpR X (compareOp .Eq) rEq := by
 intro pins s σ H x y v u Q I rx ry h
 obtain ⟨hs, q⟩ := h
 cases x with
 | non =>
  cases rx
  cases y with
  | non => cases ry; exact PySem.EqNone.eq_none_none (fin_bl I q (by simp))
  | bl j => cases ry; exact PySem.EqNone.eq_none_bool (fin_bl I q (by simp))
  | int j => obtain ⟨t', rfl⟩ := ry; exact PySem.EqNone.eq_none_int (fin_bl I q (by simp))
  | str j => obtain ⟨t', rfl⟩ := ry; exact PySem.EqNone.eq_none_str (fin_bl I q (by simp))
  | _ => exact absurd (show false = true from hs) Bool.false_ne_true
 | bl i =>
  cases rx
  cases y with
  | non => cases ry; exact PySem.EqNone.eq_bool_none (fin_bl I q (by simp))
  | bl j => cases ry; exact eq_bool (fin_bl I q dec_bl)
  | str j => obtain ⟨t', rfl⟩ := ry; exact PySem.EqMixed.eq_bool_str (fin_bl I q (by simp))
  | _ => exact absurd (show false = true from hs) Bool.false_ne_true
 | int i =>
  obtain ⟨t, rfl⟩ := rx
  cases y with
  | non => cases ry; exact PySem.EqNone.eq_int_none (fin_bl I q (by simp))
  | int j => obtain ⟨t', rfl⟩ := ry; exact eq_int (fin_bl I q dec_int)
  | str j => obtain ⟨t', rfl⟩ := ry; exact PySem.EqMixed.eq_int_str (fin_bl I q (by simp))
  | _ => exact absurd (show false = true from hs) Bool.false_ne_true
 | str i =>
  obtain ⟨t, rfl⟩ := rx
  cases y with
  | non => cases ry; exact PySem.EqNone.eq_str_none (fin_bl I q (by simp))
  | bl j => cases ry; exact PySem.EqMixed.eq_str_bool (fin_bl I q (by simp))
  | int j => obtain ⟨t', rfl⟩ := ry; exact PySem.EqMixed.eq_str_int (fin_bl I q (by simp))
  | str j => obtain ⟨t', rfl⟩ := ry; exact eq_str (fin_bl I q dec_str)
  | _ => exact absurd (show false = true from hs) Bool.false_ne_true
 | byt i =>
  obtain ⟨t, rfl⟩ := rx
  cases y with
  | byt j => obtain ⟨t', rfl⟩ := ry; exact PySem.W.eq_bytes (fin_bl I q dec_byt)
  | _ => exact absurd (show false = true from hs) Bool.false_ne_true
 | _ => cases y <;> exact absurd (show false = true from hs) Bool.false_ne_true
theorem op_ne : OpR X (compareOp .NotEq) rNe := by
 intro pins s σ H x y v u Q I rx ry h
 obtain ⟨hs, q⟩ := h
 cases x with
 | non =>
  cases rx
  cases y with
  | non => cases ry; exact PySem.EqNone.ne_none_none (fin_bl I q (by simp))
  | bl j => cases ry; exact PySem.EqNone.ne_none_bool (fin_bl I q (by simp))
  | int j => obtain ⟨t', rfl⟩ := ry; exact PySem.EqNone.ne_none_int (fin_bl I q (by simp))
  | str j => obtain ⟨t', rfl⟩ := ry; exact PySem.EqNone.ne_none_str (fin_bl I q (by simp))
  | _ => exact absurd (show false = true from hs) Bool.false_ne_true
 | bl i =>
  cases rx
  cases y with
  | non => cases ry; exact PySem.EqNone.ne_bool_none (fin_bl I q (by simp))
  | bl j => cases ry; exact ne_bool (fin_bl I q (congrArg not dec_bl))
  | str j => obtain ⟨t', rfl⟩ := ry; exact PySem.EqMixed.ne_bool_str (fin_bl I q (by simp))
  | _ => exact absurd (show false = true from hs) Bool.false_ne_true
 | int i =>
  obtain ⟨t, rfl⟩ := rx
  cases y with
  | non => cases ry; exact PySem.EqNone.ne_int_none (fin_bl I q (by simp))
  | int j => obtain ⟨t', rfl⟩ := ry; exact ne_int (fin_bl I q (congrArg not dec_int))
  | str j => obtain ⟨t', rfl⟩ := ry; exact PySem.EqMixed.ne_int_str (fin_bl I q (by simp))
  | _ => exact absurd (show false = true from hs) Bool.false_ne_true
 | str i =>
  obtain ⟨t, rfl⟩ := rx
  cases y with
  | non => cases ry; exact PySem.EqNone.ne_str_none (fin_bl I q (by simp))
  | bl j => cases ry; exact PySem.EqMixed.ne_str_bool (fin_bl I q (by simp))
  | int j => obtain ⟨t', rfl⟩ := ry; exact PySem.EqMixed.ne_str_int (fin_bl I q (by simp))
  | str j => obtain ⟨t', rfl⟩ := ry; exact ne_str (fin_bl I q (congrArg not dec_str))
  | _ => exact absurd (show false = true from hs) Bool.false_ne_true
 | byt i =>
  obtain ⟨t, rfl⟩ := rx
  cases y with
  | byt j => obtain ⟨t', rfl⟩ := ry; exact PySem.W.ne_bytes (fin_bl I q (congrArg not dec_byt))
  | _ => exact absurd (show false = true from hs) Bool.false_ne_true
 | _ => cases y <;> exact absurd (show false = true from hs) Bool.false_ne_true
theorem op_lt : OpR X (compareOp .Lt) (rI0 λ i j => .bl (decide (i < j))) := opB0 λ _ _ _ _ _ _ _ q => lt_int q
theorem op_le : OpR X (compareOp .LtE) (rI0 λ i j => .bl (decide (i <= j))) := opB0 λ _ _ _ _ _ _ _ q => le_int q
theorem op_gt : OpR X (compareOp .Gt) (rI0 λ i j => .bl (decide (j < i))) := opB0 λ _ _ _ _ _ _ _ q => gt_int q
theorem op_ge : OpR X (compareOp .GtE) (rI0 λ i j => .bl (decide (j <= i))) := opB0 λ _ _ _ _ _ _ _ q => ge_int q
theorem nomark (b : Expr) {op : CmpOp} (h : op ≠ .In := by decide) (h2 : op ≠ .NotIn := by decide) : behindInMarks op b = false := by
 have e1 : (op == CmpOp.In) = false := by cases op <;> first | rfl | exact absurd rfl h
 have e2 : (op == CmpOp.NotIn) = false := by cases op <;> first | rfl | exact absurd rfl h2
 cases b <;> simp [behindInMarks, e1, e2]
theorem pe_cmpR {op : CmpOp} {r : R2} (ho : OpR X (compareOp op) r) (ha : PE X a ta) (hb : PE X b tb) (hm : behindInMarks op b = false) : PE X (.Compare a [op] [b] pos) (tOp r ta tb) := by
 intro pins s σ H Q I h
 exact wpAny_Compare1 (binT ha hb I h λ v u s2 x y H2 I2 rx ry q => ho pins s2 σ H2 x y v u Q I2 rx ry q) hm
def tTest (t : TE) : TT := λ σ H Q => t σ H λ x H' => ∃ k, x = .bl k /\ Q k H'
theorem pt_cmpR {op : CmpOp} {r : R2} (ho : OpR X (compareOp op) r) (ha : PE X a ta) (hb : PE X b tb) (hm : behindInMarks op b = false) : PT X (.Compare a [op] [b] pos) (tTest (tOp r ta tb)) := by
 intro pins s σ H Q I h
 refine wpAny_isTrue_Compare1 (thn (ha pins s σ H _ I h) λ v s1 ⟨x, H1, I1, r1, q1⟩ => thn (hb pins s1 σ H1 _ I1 q1) λ u s2 ⟨y, H2, I2, r2, q2⟩ =>
  thn (ho pins s2 σ H2 x y v u _ I2 r1 r2 q2) λ c s3 ⟨z, H3, I3, r3, k, e, q3⟩ => ?_) hm
 subst e
 cases r3
 exact wpAny_truthy_bool ⟨H3, I3, q3⟩
def tChain (r r' : R2) (ta tb tc : TE) : TE := λ σ H Q => ta σ H λ x H1 => tb σ H1 λ y H2 => r x y H2 λ z H3 => ∃ k, z = .bl k /\
 (if k = true then tc σ H3 λ w' H4 => r' y w' H4 Q else Q (.bl false) H3)
theorem pe_chain {op op' : CmpOp} {r r' : R2} (ho : OpR X (compareOp op) r) (ho' : OpR X (compareOp op') r') (ha : PE X a ta) (hb : PE X b tb) (hc : PE X c tc)
  (hm : lastMarks [op, op'] [b, c] = false := by with_unfolding_all rfl) : PE X (.Compare a [op, op'] [b, c] pos) (tChain r r' ta tb tc) := by
 intro pins s σ H Q I h
 refine Compare_chain (thn (ha pins s σ H _ I h) λ v s1 ⟨x, H1, I1, r1, q1⟩ => chain_link (thn (hb pins s1 σ H1 _ I1 q1) λ u s2 ⟨y, H2, I2, r2, q2⟩ =>
  thn (ho pins s2 σ H2 x y v u _ I2 r1 r2 q2) λ d s3 ⟨z, H3, I3, r3, k, e, q3⟩ => ?_)) hm
 subst e
 cases r3
 refine wpAny_truthy_bool ?_
 cases k with
 | false => exact ite_ff ⟨.bl false, H3, I3, rfl, q3⟩
 | true => exact ite_tt (chain_last (thn (hc pins s3 σ H3 _ I3 q3) λ w' s4 ⟨z', H4, I4, r4, q4⟩ => ho' pins s4 σ H4 y z' u w' Q I4 r2 r4 q4))
theorem pt_chain {op op' : CmpOp} {r r' : R2} (ho : OpR X (compareOp op) r) (ho' : OpR X (compareOp op') r') (ha : PE X a ta) (hb : PE X b tb) (hc : PE X c tc)
  (hm : lastMarks [op, op'] [b, c] = false := by with_unfolding_all rfl) : PT X (.Compare a [op, op'] [b, c] pos) (tTest (tChain r r' ta tb tc)) := by
 intro pins s σ H Q I h
 refine isTrue_chain (thn (ha pins s σ H _ I h) λ v s1 ⟨x, H1, I1, r1, q1⟩ => test_link (thn (hb pins s1 σ H1 _ I1 q1) λ u s2 ⟨y, H2, I2, r2, q2⟩ =>
  thn (ho pins s2 σ H2 x y v u _ I2 r1 r2 q2) λ d s3 ⟨z, H3, I3, r3, k, e, q3⟩ => ?_)) hm
 subst e
 cases r3
 refine wpAny_truthy_bool ?_
 cases k with
 | false =>
  obtain ⟨k', e', q'⟩ := q3
  cases e'
  exact ite_ff ⟨H3, I3, q'⟩
 | true =>
  refine ite_tt (test_last (thn (hc pins s3 σ H3 _ I3 q3) λ w' s4 ⟨z', H4, I4, r4, q4⟩ => thn (ho' pins s4 σ H4 y z' u w' _ I4 r2 r4 q4) λ d' s5 ⟨z2, H5, I5, r5, k2, e2, q5⟩ => ?_))
  subst e2
  cases r5
  exact wpAny_truthy_bool ⟨H5, I5, q5⟩
theorem line63 : (sizeLine : Nat) < 2 ^ 63 := by rw [sizeLine_eq]; decide
theorem vals1 {x : V} {us : List Value} (r : Vals [x] us) : ∃ u, us = [u] /\ RelV x u := by
 cases r with
 | cons r1 r2 => cases r2; exact ⟨_, rfl, r1⟩
theorem vals2 {x y : V} {us : List Value} (r : Vals [x, y] us) : ∃ u w', us = [u, w'] /\ RelV x u /\ RelV y w' := by
 cases r with
 | cons r1 r2 =>
  cases r2 with
  | cons r3 r4 => cases r4; exact ⟨_, _, rfl, r1, r3⟩
theorem call_abs : CallR X (.builtin "abs") (λ xs H Q => ∃ i, xs = [.int i] /\ Q (.int (if i < 0 then -i else i)) H) := by
 intro pins s σ H xs us Q I r h
 obtain ⟨i, rfl, q⟩ := h
 obtain ⟨u, rfl, t, rfl⟩ := vals1 r
 exact call_abs_int λ u tk => ⟨.int (if i < 0 then -i else i), H, I.tok _, ⟨_, rfl⟩, q⟩
theorem call_max2 (hc : X.calm = true) : CallR X (.builtin "max") (λ xs H Q => ∃ i j, xs = [.int i, .int j] /\ Q (.int (if j > i then j else i)) H) := by
 intro pins s σ H xs us Q I r h
 obtain ⟨i, j, rfl, q⟩ := h
 obtain ⟨u, w', rfl, ⟨t, rfl⟩, ⟨t', rfl⟩⟩ := vals2 r
 refine max_two_ints (I.ok.hd hc) λ h' tk k => ⟨_, H, I.kept k, ?_, q⟩
 by_cases hj : j > i
 ·rw [if_pos hj, if_pos hj]; exact ⟨_, rfl⟩
 ·rw [if_neg hj, if_neg hj]; exact ⟨_, rfl⟩
theorem call_min2 (hc : X.calm = true) : CallR X (.builtin "min") (λ xs H Q => ∃ i j, xs = [.int i, .int j] /\ Q (.int (if j < i then j else i)) H) := by
 intro pins s σ H xs us Q I r h
 obtain ⟨i, j, rfl, q⟩ := h
 obtain ⟨u, w', rfl, ⟨t, rfl⟩, ⟨t', rfl⟩⟩ := vals2 r
 refine min_two_ints (I.ok.hd hc) λ h' tk k => ⟨_, H, I.kept k, ?_, q⟩
 by_cases hj : j < i
 ·rw [if_pos hj, if_pos hj]; exact ⟨_, rfl⟩
 ·rw [if_neg hj, if_neg hj]; exact ⟨_, rfl⟩
end
end L2
namespace L2
open PySem PySem.Spec PyProof.Rows
structure ObjM (h : Heap) (x dx C : Addr) (mA : Str -> Option Value) : Prop where
 obj : h.get? x = some (PySem.W.instObj C dx)
 ns : h.Ns1 dx mA
 ne : dx ≠ x
theorem lookIn_ns {h : Heap} {dx : Addr} {mA : Str -> Option Value} (n : h.Ns1 dx mA) : ∃ od, h.get? dx = some od /\ ∀ name, PySem.W.lookIn name od = some (mA name) := by
 obtain ⟨o, es, ep, ho, hd, hk, _, hm⟩ := n
 refine ⟨o, ho, λ name => ?_⟩
 have e := hm name
 unfold nsFind findBy at e
 rw [<- Array.find?_toList] at e
 unfold PySem.W.lookIn
 rw [hd]
 dsimp only
 split
 ·rename_i y q
  rw [q] at e
  exact congrArg some e
 ·rename_i q
  rw [q] at e
  have a : es.toList.any (·.refKey) = false := by
   rw [List.any_eq_false]
   intro y hy
   obtain ⟨z, t, hkey⟩ := hk y (Array.mem_toList_iff.mp hy)
   simp [DictEntry.refKey, hkey]
  have a' : ¬ es.toList.any (·.refKey) = true := by rw [a]; exact Bool.false_ne_true
  rw [if_neg a']
  exact congrArg some e
theorem ObjM.look {h : Heap} {x dx C : Addr} {mA : Str -> Option Value} (I : ObjM h x dx C mA) : ∃ od, PySem.W.InstAt h x (PySem.W.instObj C dx) C (some od) /\ ∀ name, PySem.W.lookIn name od = some (mA name) :=
 let ⟨od, ho, hl⟩ := lookIn_ns I.ns
 ⟨od, ⟨I.obj, rfl, rfl, ho⟩, hl⟩
section
variable {prog : Program} {w : World} {A : Around} {E : Value -> Shared -> Prop} {s : Shared} {K : PySem.W.Frag} {x dx C f : Addr} {mA : Str -> Option Value} {name : Str} {v : Value}
theorem get_map {expr : Bool} {Q : Value -> Shared -> Prop} (X : K.In s.heap) (I : ObjM s.heap x dx C mA) (hg : PySem.W.plainGet K C name = true) (hh : PySem.W.hasDictIn K C = true)
  (ha : PySem.W.findIn K (.ref C) name = some none) (hv : mA name = some v) (hv' : PySem.W.handedIn v = true) (h : Q v { s with toks := s.toks + 1 }) :
  wpAny (model prog w) A (getAttr (.ref x) name expr) Q E s := by
 obtain ⟨od, J, hl⟩ := I.look
 exact PySem.W.get_value X J (PySem.W.plainGet_of hg).1 (PySem.W.findObj_own hh ha rfl (by rw [hl, hv])) hv' h
theorem get_meth {pl : Sem Bool} {Q : Value × List Value -> Shared -> Prop} (X : K.In s.heap) (I : ObjM s.heap x dx C mA) (hg : PySem.W.plainGet K C name = true)
  (hf : PySem.W.findIn K (.ref C) name = some (some (.ref f))) (ht : PySem.W.isFn K (.ref f) = true) (hv : mA name = none) (h : Q (.ref f, [.ref x]) s) :
  wpAny (model prog w) A (getMethod (.ref x) name pl) Q E s := by
 obtain ⟨od, J, hl⟩ := I.look
 exact PySem.W.method_fn X J (PySem.W.plainGet_of hg).1 (PySem.W.plainGet_of hg).2 hf (beq_iff_eq.mp ht) (by show (PySem.W.lookIn name od).map (·.isSome) = some false; rw [hl, hv]; rfl) h
theorem set_map {ns : List Str} {Q : Unit -> Shared -> Prop} (X : K.In s.heap) (I : ObjM s.heap x dx C mA)
  (hs : PySem.W.findIn K (.ref C) "__setattr__" = some (some (.builtin "object.__setattr__"))) (hp : PySem.W.plainOver K C = true) (ht : PySem.W.takerIn K C name = some none) (hh : PySem.W.hasDictIn K C = true)
  (hw : PySem.Within mA ns) (hsz : ns.length <= sizeLine)
  (h : ∀ h', ObjM h' x dx C (λ y => if y = name then some v else mA y) -> Heap.SameBut dx s.heap h' -> Q () { s with heap := h', toks := s.toks + 2 }) :
  wpAny (model prog w) A (setAttr (.ref x) name v) Q E s := by
 obtain ⟨od, J, hl⟩ := I.look
 refine PySem.W.set_plain X J hs (PySem.W.osa_open (s := { s with toks := s.toks + 1 }) (r := none) X J hp ht λ b => ?_)
 obtain ⟨cd, hc, hd'⟩ := PySem.W.any_some hh
 have hx : s.heap.get? x = some ⟨.ref C, some dx, .plain, #[]⟩ := I.obj
 refine wpAny_bind (wpAny_pure (wpAny_bind (wpAny_bind (wpAny_loadPart hx (wpAny_bind (PySem.W.Looks.here (s := { s with toks := s.toks + 1 }) (PySem.W.looks_clsIn X hc) ?_))))))
 rw [hd']
 refine wpAny_pure (a := some dx) (wpAny_bind (wpAny_pure (wpAny_bind ?_)))
 refine wpAny_nsSet1 (s := { s with toks := s.toks + 1 }) I.ns λ h' hn2 hs2 => ?_
 obtain ⟨oD, esD, epD, hoD, hdD, hcD⟩ := hn2.count (PySem.Within.cons name v hw)
 refine wpAny_bind (wpAny_lookBehind hoD (by rw [hdD]; exact pastItsLine_dict (Nat.le_trans hcD (by rw [lnc]; omega))) ?_)
 exact wpAny_pure (h _ ⟨(hs2.2 _ (Ne.symm I.ne)).trans I.obj, hn2, I.ne⟩ hs2)
theorem make_map {R : Result -> Shared -> Prop} {vs : List Value} {kw : List (Str × Value)} (X : K.In s.heap) (hm : PySem.W.makesIn K C = true)
  (hi : PySem.W.findIn K (.ref C) "__init__" = some (some (.ref f))) (hf : PySem.W.typeIn K (.ref f) = some (.type "function"))
  (h : codeAny (model prog w) (A.under (.builtin "type.__call__" ⟨.ref C :: vs, kw⟩)) (.call (.ref f) ⟨.ref (s.heap.objs.size + 1) :: vs, kw⟩) (PySem.W.InitBack (s.heap.objs.size + 1) R)
   { s with heap := (s.heap.push PySem.W.emptyDict).push (PySem.W.instObj C s.heap.objs.size) }) :
  codeAny (model prog w) A (.call (.ref C) ⟨vs, kw⟩) R s := by
 obtain ⟨hh, g, d, t, os⟩ := s
 exact PySem.W.make_core (PySem.W.makes_of X hm) (PySem.W.looks_findIn X hi) (λ self => PySem.W.bind_fn X self hf) (.inl rfl) h
end
def putF (f : Str) (v : V) : List (Str × V) -> List (Str × V)
 | [] => [(f, v)]
 | (g, x) :: r => if g = f then (g, v) :: r else (g, x) :: putF f v r
theorem lookup_putF (f g : Str) (v : V) : ∀ fs : List (Str × V), (putF f v fs).lookup g = if g = f then some v else fs.lookup g
 | [] => by
  show List.lookup g [(f, v)] = _
  by_cases h : g = f
  ·have hb : (g == f) = true := beq_iff_eq.mpr h
   simp only [List.lookup, hb, if_pos h]
  ·have hb : (g == f) = false := beq_eq_false_iff_ne.mpr h
   simp only [List.lookup, hb, if_neg h]
 | (k, x) :: r => by
  have ih := lookup_putF f g v r
  rw [show putF f v ((k, x) :: r) = (if k = f then (k, v) :: r else (k, x) :: putF f v r) from rfl]
  by_cases hk : k = f
  ·rw [if_pos hk]
   by_cases h : g = k
   ·have hb : (g == k) = true := beq_iff_eq.mpr h
    simp only [List.lookup, hb, if_pos (h.trans hk)]
   ·have hb : (g == k) = false := beq_eq_false_iff_ne.mpr h
    simp only [List.lookup, hb, if_neg (λ e : g = f => h (e.trans hk.symm))]
  ·rw [if_neg hk]
   by_cases h : g = k
   ·have hb : (g == k) = true := beq_iff_eq.mpr h
    simp only [List.lookup, hb, if_neg (λ e : g = f => hk (h.symm.trans e))]
   ·have hb : (g == k) = false := beq_eq_false_iff_ne.mpr h
    simp only [List.lookup, hb]
    exact ih
theorem keys_putF (f : Str) (v : V) : ∀ fs : List (Str × V), f ∈ (putF f v fs).map (·.1) /\ ∀ g, g ∈ fs.map (·.1) -> g ∈ (putF f v fs).map (·.1)
 | [] => ⟨by simp [putF], λ g h => by simp at h⟩
 | (k, x) :: r => by
  obtain ⟨i1, i2⟩ := keys_putF f v r
  rw [show putF f v ((k, x) :: r) = (if k = f then (k, v) :: r else (k, x) :: putF f v r) from rfl]
  by_cases hk : k = f
  ·rw [if_pos hk]
   subst hk
   exact ⟨by simp, λ g h => by simpa using h⟩
  ·rw [if_neg hk]
   refine ⟨?_, λ g h => ?_⟩
   ·rw [List.map_cons]
    exact List.mem_cons_of_mem _ i1
   ·rw [List.map_cons] at h ⊢
    rcases List.mem_cons.mp h with e | e
    ·exact List.mem_cons.mpr (.inl e)
    ·exact List.mem_cons_of_mem _ (i2 g e)
theorem length_putF (f : Str) (v : V) : ∀ fs : List (Str × V), (putF f v fs).length <= fs.length + 1
 | [] => by simp [putF]
 | (k, x) :: r => by
  have ih := length_putF f v r
  rw [show putF f v ((k, x) :: r) = (if k = f then (k, v) :: r else (k, x) :: putF f v r) from rfl]
  by_cases hk : k = f
  ·rw [if_pos hk, lnc, lnc]; omega
  ·rw [if_neg hk, lnc, lnc]; omega
theorem RelO.some_of {v : V} {o : Option Value} (r : RelO (some v) o) : ∃ u, o = some u /\ RelV v u := by
 cases o with
 | none => exact (show False from r).elim
 | some u => exact ⟨u, rfl, r⟩
theorem RelO.none_of {o : Option Value} (r : RelO none o) : o = none := by
 cases o with
 | none => rfl
 | some u => exact (show False from r).elim
theorem handed_of {v : V} {u : Value} (r : RelV v u) : PySem.W.handedIn u = true := by
 cases v with
 | non => cases (show u = Value.none from r); rfl
 | bl b => cases (show u = Value.bool b from r); rfl
 | int i => obtain ⟨t, e⟩ := (show ∃ t, u = Value.int i t from r); cases e; rfl
 | str x => obtain ⟨t, e⟩ := (show ∃ t, u = Value.str x t from r); cases e; rfl
 | byt b => obtain ⟨t, e⟩ := (show ∃ t, u = Value.bytes b t from r); cases e; rfl
 | flt b => obtain ⟨t, e⟩ := (show ∃ t, u = Value.float b t from r); cases e; rfl
 | ref a => cases (show u = Value.ref a from r); rfl
 | ty n => cases (show u = Value.type n from r); rfl
 | tok i => obtain ⟨t, _, e⟩ := (show ∃ t, t ≠ 0 /\ u = Value.int i t from r); cases e; rfl
section
variable {P : Program} {w : World} {H H' : Hp} {h h' : Heap} {a C dx : Addr} {fs fs' : List (Str × V)}
theorem ins_get (hok : HOk P w H h) (e : H a = some (.ins C dx fs)) : ∃ mA, ObjM h a dx C mA /\ (∀ f, RelO (fs.lookup f) (mA f)) /\ PySem.Within mA (fs.map (·.1)) /\ fs.length <= 1000 /\ H dx = some (.own a) := by
 obtain ⟨d, z, ne, ob, mA, n, r, q⟩ := (show ObjOk P w H h a (.ins C dx fs) from hok a _ e)
 exact ⟨mA, ⟨ob, n, ne⟩, r, q, z, d⟩
end
structure Cls (K : PySem.W.Frag) (C : Addr) : Prop where
 pg : PySem.W.plainGet K C Str.empty = true
 hd : PySem.W.hasDictIn K C = true
 po : PySem.W.plainOver K C = true
 sa : PySem.W.findIn K (.ref C) "__setattr__" = some (some (.builtin "object.__setattr__"))
theorem Cls.get {K : PySem.W.Frag} {C : Addr} (c : Cls K C) (f : Str) : PySem.W.plainGet K C f = true := c.pg
def NoAttr (K : PySem.W.Frag) (C : Addr) (f : Str) : Prop := PySem.W.findIn K (.ref C) f = some none
theorem NoAttr.taker {K : PySem.W.Frag} {C : Addr} {f : Str} (n : NoAttr K C f) : PySem.W.takerIn K C f = some none := by
 unfold PySem.W.takerIn
 rw [show PySem.W.findIn K (.ref C) f = some none from n]
 rfl
structure Meth (K : PySem.W.Frag) (C : Addr) (m : Str) (f : Addr) : Prop where
 at_ : PySem.W.findIn K (.ref C) m = some (some (.ref f))
 fn : PySem.W.isFn K (.ref f) = true
 kp : PySem.W.keepIn K (.ref f) = true
section
variable {X : Cx} {pins : List (Addr × Obj)} {σ : St} {H : Hp} {s : Shared} {a C dx : Addr} {fs : List (Str × V)} {f : Str} {v : V} {A : Around} {E : Value -> Shared -> Prop}
theorem getattr_ok {b : Bool} {Q : Value -> Shared -> Prop} (I : Inv X pins σ H s) (e : H a = some (.ins C dx fs)) (c : Cls X.K C) (n : NoAttr X.K C f) (l : fs.lookup f = some v)
  (h : ∀ u s', Inv X pins σ H s' -> RelV v u -> Q u s') : wpAny (model X.prog X.w) A (getAttr (.ref a) f b) Q E s := by
 obtain ⟨mA, O, r, _, _, _⟩ := ins_get I.hok e
 obtain ⟨u, hu, ru⟩ := RelO.some_of (v := v) (o := mA f) (by rw [<- l]; exact r f)
 exact get_map I.kIn O (c.get f) c.hd n hu (handed_of ru) (h u _ (I.tok _) ru)
theorem getmeth_ok {m : Str} {g : Addr} {pl : Sem Bool} {Q : Value × List Value -> Shared -> Prop} (I : Inv X pins σ H s) (e : H a = some (.ins C dx fs)) (c : Cls X.K C) (k : Meth X.K C m g) (l : fs.lookup m = none)
  (h : Q (.ref g, [.ref a]) s) : wpAny (model X.prog X.w) A (getMethod (.ref a) m pl) Q E s := by
 obtain ⟨mA, O, r, _, _, _⟩ := ins_get I.hok e
 have hn : mA m = none := RelO.none_of (by rw [<- l]; exact r m)
 exact get_meth I.kIn O (c.get m) k.at_ k.fn hn h
theorem setattr_ok {y : V} {u : Value} {Q : Unit -> Shared -> Prop} (I : Inv X pins σ H s) (e : H a = some (.ins C dx fs)) (c : Cls X.K C) (n : NoAttr X.K C f) (hl : fs.length < 1000) (ry : RelV y u)
  (h : ∀ s', Inv X pins σ (upd H a (.ins C dx (putF f y fs))) s' -> Q () s') : wpAny (model X.prog X.w) A (setAttr (.ref a) f u) Q E s := by
 obtain ⟨mA, O, r, wi, _, ho⟩ := ins_get I.hok e
 have hz : (fs.map (·.1)).length <= sizeLine := by rw [lnm, sizeLine_eq]; omega
 refine set_map I.kIn O c.sa c.po n.taker c.hd wi hz λ h' O' sb => h _ ?_
 have hd : ∃ o, h'.get? dx = some o := let ⟨o, _, _, e', _⟩ := O'.ns; ⟨o, e'⟩
 refine I.write (x := a) (e := dx) (by rw [e]; exact True.intro) (.inr ho) (λ b q hb z => (sb.2 b hb).trans z) hd ?_
 refine ⟨by rw [upd_ne O.ne]; exact ho, ?_, O.ne, O'.obj, _, O'.ns, λ g => ?_, λ g hg => ?_⟩
 ·have := length_putF f y fs; omega
 ·show RelO ((putF f y fs).lookup g) (if g = f then some u else mA g)
  rw [lookup_putF]
  by_cases q : g = f
  ·rw [if_pos q, if_pos q]; exact ry
  ·rw [if_neg q, if_neg q]; exact r g
 ·by_cases q : g = f
  ·rw [q]; exact (keys_putF f y fs).1
  ·refine (keys_putF f y fs).2 g (wi g λ z => hg ?_)
   show (if g = f then some u else mA g) = none
   rw [if_neg q]; exact z
theorem Inv.made (I : Inv X pins σ H s) : Inv X pins σ (upd (upd H s.heap.objs.size (.own (s.heap.objs.size + 1))) (s.heap.objs.size + 1) (.ins C s.heap.objs.size []))
  { s with heap := (s.heap.push PySem.W.emptyDict).push (PySem.W.instObj C s.heap.objs.size) } := by
 have e1 : (s.heap.push PySem.W.emptyDict).get? s.heap.objs.size = some PySem.W.emptyDict := Heap.get?_push_size s.heap rfl
 have e2 : ((s.heap.push PySem.W.emptyDict).push (PySem.W.instObj C s.heap.objs.size)).get? (s.heap.objs.size + 1) = some (PySem.W.instObj C s.heap.objs.size) := by
  have := Heap.get?_push_size (s.heap.push PySem.W.emptyDict) (o := PySem.W.instObj C s.heap.objs.size) rfl
  rwa [Heap.size_push] at this
 have e3 : (s.heap.push PySem.W.emptyDict).Ns s.heap.objs.size (λ _ => none) := ⟨PySem.W.emptyDict, #[], _, e1, rfl, (λ e he => absurd he (by simp)), λ _ => rfl⟩
 have I1 := I.laid (a := s.heap.objs.size) (o := .own (s.heap.objs.size + 1)) (h' := s.heap.push PySem.W.emptyDict) (t' := s.toks) (λ b u q => Heap.get?_push_of_some _ q) (Nat.le_refl _) ⟨_, e1⟩
 refine I1.laid (a := s.heap.objs.size + 1) (o := .ins C s.heap.objs.size []) (t' := s.toks) (λ b u q => Heap.get?_push_of_some _ q) (Nat.le_of_eq (Heap.size_push _ _)) ?_
 have ne : s.heap.objs.size ≠ s.heap.objs.size + 1 := Nat.ne_of_lt (Nat.lt_succ_self _)
 refine ⟨by rw [upd_ne ne, upd_same], Nat.zero_le _, ne, e2, λ _ => none, (Heap.Ns1.of_empty e3).at λ o q => Heap.get?_push_of_some _ q, λ _ => True.intro, λ y hy => absurd rfl hy⟩
theorem attr_of {prog : Program} {w : World} {env : Env} {e : Expr} {f : Str} {pos : Pos} {s : Shared} {Q : Value -> Shared -> Prop} (hb : attributeBase e f env (eval e env) = eval e env)
  (h : wpAny (model prog w) A (eval e env) (λ o s₁ => wpAny (model prog w) A (getAttr o f true) Q E s₁) E s) : wpAny (model prog w) A (eval (.Attribute e f pos) env) Q E s :=
 Attribute_any_ h (by rw [arm_eval_Attribute, hb])
end
def tFld (K : PySem.W.Frag) (ta : TE) (f : Str) : TE := λ σ H Q => ta σ H λ x H1 => ∃ a C dx fs v, x = .ref a /\ H1 a = some (.ins C dx fs) /\ Cls K C /\ NoAttr K C f /\ fs.lookup f = some v /\ Q v H1
def sFld (K : PySem.W.Frag) (ta tv : TE) (f : Str) : TS := λ D σ H => tv σ H λ y H1 => ta σ H1 λ x H2 => ∃ a C dx fs, x = .ref a /\ H2 a = some (.ins C dx fs) /\ Cls K C /\ NoAttr K C f /\ fs.length < 1000 /\
 D.nx σ (upd H2 a (.ins C dx (putF f y fs)))
def InOp (X : Cx) (op : Operator) (rd : V -> V -> Hp -> VK -> Prop) : Prop :=
 ∀ (pins : List (Addr × Obj)) (s : Shared) (σ : St) (H : Hp) (x y : V) (u v : Value) (Q : VK), Inv X pins σ H s -> RelV x u -> RelV y v -> rd x y H Q -> wpAny (model X.prog X.w) X.A (inplaceOp op u v) (EP X pins σ Q) X.xe s
def sFldAug (K : PySem.W.Frag) (ta tv : TE) (rd : V -> V -> Hp -> VK -> Prop) (f : Str) : TS := λ D σ H => ta σ H λ x H1 => ∃ a C dx fs v, x = .ref a /\ H1 a = some (.ins C dx fs) /\ Cls K C /\ NoAttr K C f /\ fs.lookup f = some v /\
 tv σ H1 λ y H2 => rd v y H2 λ z H3 => ∃ dx' fs', H3 a = some (.ins C dx' fs') /\ fs'.length < 1000 /\ D.nx σ (upd H3 a (.ins C dx' (putF f z fs')))
section
variable {X : Cx} {o e value : Expr} {f : Str} {pos pos' tpos : Pos} {ta tv : TE}
theorem pe_fld (he : PE X e ta) (hb : attributeBase e f X.env (eval e X.env) = eval e X.env) : PE X (.Attribute e f pos) (tFld X.K ta f) := by
 intro pins s σ H Q I h
 refine attr_of hb (thn (he pins s σ H _ I h) λ u s1 ⟨x, H1, I1, rx, a, C, dx, fs, v, ex, ea, c, n, l, q⟩ => ?_)
 subst ex
 obtain rfl : u = Value.ref a := rx
 exact getattr_ok I1 ea c n l λ u' s2 I2 ru => ⟨v, H1, I2, ru, q⟩
theorem ps_fld (ha : PE X o ta) (hv : PE X value tv) (hs : swapsWith value (some (.Attribute o f pos')) pos.line X.env = pure false) : PS X (.Assign [.Attribute o f pos'] value pos) (sFld X.K ta tv f) := by
 intro pins s σ H D I h
 refine plainObj_wpAny_Assign_Attribute (thn (hv pins s σ H _ I h) λ u s1 ⟨y, H1, I1, ry, q⟩ => thn (ha pins s1 σ H1 _ I1 q) λ ov s2 ⟨x, H2, I2, rx, a, C, dx, fs, ex, ea, c, n, l, q2⟩ => ?_) hs
 subst ex
 obtain rfl : ov = Value.ref a := rx
 exact setattr_ok I2 ea c n l ry λ s3 I3 => ⟨σ, _, I3, q2⟩
theorem ps_fldaug {op : Operator} {rd : V -> V -> Hp -> VK -> Prop} (ha : PE X o ta) (hv : PE X value tv) (hop : InOp X op rd) : PS X (.AugAssign (.Attribute o f tpos) op value pos) (sFldAug X.K ta tv rd f) := by
 intro pins s σ H D I h
 refine wpAny_AugAssign_AttributeAny (thn (ha pins s σ H _ I h) λ ov s1 ⟨x, H1, I1, rx, a, C, dx, fs, v, ex, ea, c, n, l, q⟩ => ?_)
 subst ex
 obtain rfl : ov = Value.ref a := rx
 refine getattr_ok I1 ea c n l λ u s2 I2 ru => thn (hv pins s2 σ H1 _ I2 q) λ w3 s3 ⟨y, H2, I3, ry, q3⟩ => thn (hop pins s3 σ H2 v y u w3 _ I3 ru ry q3) λ w4 s4 ⟨z, H3, I4, rz, dx', fs', ea', l', q4⟩ => ?_
 exact setattr_ok I4 ea' c n l' rz λ s5 I5 => ⟨σ, _, I5, q4⟩
def rAdd : V -> V -> Hp -> VK -> Prop := λ x y H Q => ∃ i j, x = .int i /\ y = .int j /\ Q (.int (i + j)) H
theorem in_add : InOp X .Add rAdd := by
 rintro pins s σ H x y u v Q I rx ry ⟨i, j, rfl, rfl, q⟩
 obtain ⟨t, rfl⟩ := (show ∃ t, u = Value.int i t from rx)
 obtain ⟨t', rfl⟩ := (show ∃ t', v = Value.int j t' from ry)
 exact PyProof.Rows.iadd_int ⟨.int (i + j), H, I.tok _, ⟨_, rfl⟩, q⟩
end
end L2
namespace L2
open PySem PySem.Spec PyProof.Rows
structure Room (k : Nat) (A : Around) : Prop where
 hd : A.handled = none
 dp : A.depth + 3 * k + 5 < recursionLimit
 un : A.units + 16 * k + 200 < cLine
theorem Room.mono {j k : Nat} {A : Around} (r : Room k A) (h : j <= k) : Room j A := ⟨r.hd, by have := r.dp; omega, by have := r.un; omega⟩
theorem Room.deeper {k : Nat} {A : Around} (r : Room (k + 1) A) (env : Env) : Room k (A.deeper env) :=
 ⟨r.hd, by have := r.dp; show A.depth + 1 + 3 * k + 5 < _; omega, by have := r.un; show A.units + 3 + 16 * k + 200 < _; omega⟩
theorem make_depth {A : Around} {C : Addr} {us : List Value} {kw : List (Str × Value)} : (A.under (.builtin "type.__call__" ⟨.ref C :: us, kw⟩)).depth = A.depth + 1 := by
 first | rfl | simp [Around.under, Code.weight, Code.isCreation, Code.isGuard, Code.isCaller, Code.frames, Code.isFrame, guardIds]
theorem make_units {A : Around} {C : Addr} {us : List Value} {kw : List (Str × Value)} : (A.under (.builtin "type.__call__" ⟨.ref C :: us, kw⟩)).units = A.units + 1 := by
 first | rfl | simp [Around.under, Code.cUnits, Code.frames, Code.isFrame]
theorem Room.make {k : Nat} {A : Around} (r : Room (k + 1) A) (C : Addr) (us : List Value) (kw : List (Str × Value)) : Room k (A.under (.builtin "type.__call__" ⟨.ref C :: us, kw⟩)) :=
 ⟨r.hd, by have := r.dp; rw [make_depth]; omega, by have := r.un; rw [make_units]; omega⟩
theorem Room.depth {k : Nat} {A : Around} (r : Room k A) : A.depth < recursionLimit := by have := r.dp; omega
theorem Room.units {k : Nat} {A : Around} (r : Room k A) : A.units + 64 < cLine := by have := r.un; omega
def tNil : TA := λ _ H Q => Q [] H
def tCons (ta : TE) (tr : TA) : TA := λ σ H Q => ta σ H λ x H1 => tr σ H1 λ xs H2 => Q (x :: xs) H2
section
variable {X : Cx} {e : Expr} {es : List Expr} {te : TE} {t : TA} {pos : Pos}
theorem pa_nil : PA X [] tNil := λ _ _ _ _ H Q I h => Calls.spliced_nil ⟨[], H, I, .nil, h⟩
theorem pa_cons (ha : PE X e te) (hr : PA X es t) (hs : starEach (e :: es) X.env = (false, eval e X.env) :: starEach es X.env := by rfl) : PA X (e :: es) (tCons te t) := by
 intro pos pins s σ H Q I h
 rw [hs]
 show wpAny _ _ (spliced ((false, eval e X.env) :: backTo pos (starEach es X.env))) _ _ s
 refine Calls.spliced_cons (thn (ha pins s σ H _ I h) λ u s1 ⟨x, H1, I1, r1, q1⟩ => ?_)
 exact thn (hr pos pins s1 σ H1 _ I1 q1) λ us s2 ⟨xs, H2, I2, r2, q2⟩ => ⟨x :: xs, H2, I2, .cons r1 r2, q2⟩
def tTup (t : TA) : TE := λ σ H Q => t σ H λ xs H1 => xs.length <= sizeLine /\ ∀ p, H1 p = none -> Q (.ref p) (upd H1 p (.tup xs))
def tLst (t : TA) : TE := λ σ H Q => t σ H λ xs H1 => xs.length <= sizeLine /\ ∀ p, H1 p = none -> Q (.ref p) (upd H1 p (.lst xs))
theorem pe_tup {x1} (h : PA X es t) : PE X (.Tuple es x1 pos) (tTup t) := by
 intro pins s σ H Q I hq
 refine wpAny_Tuple_spliced (thn (h pos pins s σ H _ I hq) λ us s1 ⟨xs, H1, I1, r, z, q⟩ => ⟨by rw [<- r.length]; exact z, ?_⟩)
 have hf : H1 s1.heap.objs.size = none := I1.hok.fresh (Nat.le_refl _)
 refine ⟨.ref s1.heap.objs.size, upd H1 s1.heap.objs.size (.tup xs), I1.laid (t' := s1.toks) (λ b u e => Heap.get?_push_of_some _ e) (Nat.le_refl _) ?_, rfl, q _ hf⟩
 exact ⟨z, us, r, ⟨_, Heap.get?_push_size _ rfl, rfl, _, rfl⟩⟩
theorem pe_lst (h : PA X es t) : PE X (.List es pos) (tLst t) := by
 intro pins s σ H Q I hq
 refine wpAny_List_spliced (thn (h pos pins s σ H _ I hq) λ us s1 ⟨xs, H1, I1, r, z, q⟩ => ⟨by rw [<- r.length]; exact z, ?_⟩)
 have hf : H1 s1.heap.objs.size = none := I1.hok.fresh (Nat.le_refl _)
 refine ⟨.ref s1.heap.objs.size, upd H1 s1.heap.objs.size (.lst xs), I1.laid (t' := s1.toks) (λ b u e => Heap.get?_push_of_some _ e) (Nat.le_refl _) ?_, rfl, q _ hf⟩
 exact ⟨z, us, 0, r, Heap.get?_push_size _ rfl⟩
end
abbrev Sp := List V -> Hp -> VK -> XK -> Prop
abbrev CXT := List Env -> Hp -> Shared -> XK -> Value -> Shared -> Prop
structure Env0 (P : Program) (w : World) (K : PySem.W.Frag) (mg : Str -> Option Value) (base : Heap) (A : Around) (outer : List Env) (s : Shared) (H : Hp) : Prop where
 frames : A.frames = some outer
 mod : Mod K mg base
 bs : ∀ b o, base.get? b = some o -> s.heap.get? b = some o /\ H b = none
 bsz : base.objs.size <= s.heap.objs.size
 funs : s.heap.FunFrames base outer
 frf : ∀ b ∈ frs outer, H b = none
 hok : HOk P w H s.heap
 bare : AllBare s.gens
def CE (outer : List Env) (P : Program) (w : World) (H : Hp) (s : Shared) (Q : VK) (u : Value) (s' : Shared) : Prop :=
 ∃ v H', s'.os = s.os /\ AllBare s'.gens /\ Un (frs outer) [] H H' s.heap s'.heap /\ HOk P w H' s'.heap /\ RelV v u /\ Q v H'
def CR (CX : CXT) (outer : List Env) (P : Program) (w : World) (H : Hp) (s : Shared) (Q : VK) (E : XK) (r : Result) (s' : Shared) : Prop :=
 match r with
 | .ok (.ret u) => CE outer P w H s Q u s'
 | .ok _ => False
 | .error e => CX outer H s E e s'
structure FnOk (P : Program) (w : World) (K : PySem.W.Frag) (mg : Str -> Option Value) (base : Heap) (CX : CXT) (k : Nat) (f : Addr) (fd : FuncData) (ps : List Str) (sp : Sp) : Prop where
 len : ∀ vs H Q E, sp vs H Q E -> vs.length = ps.length
 run : ∀ (A : Around) (outer : List Env) (s : Shared) (H : Hp) (args : Args) (us : List Value) (vs : List V) (Q : VK) (E : XK), Room k A -> Env0 P w K mg base A outer s H -> BindsTo s fd args (ps.zip us) -> Vals vs us -> sp vs H Q E ->
  codeAny (model P w) A (.call (.ref f) args) (CR CX outer P w H s Q E) s
theorem FnOk.mono {P : Program} {w : World} {K : PySem.W.Frag} {mg : Str -> Option Value} {base : Heap} {CX : CXT} {j k : Nat} {f : Addr} {fd : FuncData} {ps : List Str} {sp : Sp} (F : FnOk P w K mg base CX j f fd ps sp) (h : j <= k) :
  FnOk P w K mg base CX k f fd ps sp := ⟨F.len, λ A outer s H args us vs Q E hr => F.run A outer s H args us vs Q E (hr.mono h)⟩
theorem Env0.make {P : Program} {w : World} {K : PySem.W.Frag} {mg : Str -> Option Value} {base : Heap} {A : Around} {outer : List Env} {s : Shared} {H : Hp} (e : Env0 P w K mg base A outer s H) (C : Addr) (us : List Value) (kw : List (Str × Value)) :
  Env0 P w K mg base (A.under (.builtin "type.__call__" ⟨.ref C :: us, kw⟩)) outer s H := ⟨by first | exact e.frames | (simpa [Around.under, Code.envs, Code.isFrame, pushEnvs] using e.frames), e.mod, e.bs, e.bsz, e.funs, e.frf, e.hok, e.bare⟩
section
variable {X : Cx} {pins : List (Addr × Obj)} {σ : St} {H : Hp} {s s' : Shared}
theorem Inv.env0 (I : Inv X pins σ H s) : Env0 X.prog X.w X.K X.mg X.base X.A X.stack s H :=
 ⟨I.ok.frames, I.ok.mod, I.bs, Nat.le_trans I.ok.bsz I.sz, I.stack, I.stkFree, I.hok, I.bare⟩
theorem Inv.after {Q : VK} {u : Value} (I : Inv X pins σ H s) (h : CE X.stack X.prog X.w H s Q u s') : EP X pins σ Q u s' := by
 obtain ⟨v, H', os, bare, un, hok, r, q⟩ := h
 obtain ⟨hh, g, d, t, os'⟩ := s'
 obtain rfl : os' = s.os := os
 exact ⟨v, H', I.call (h' := hh) (g' := g) (d' := d) (t' := t) (ch := []) un hok bare (λ b z => absurd z (by simp)), r, q⟩
end
def tCall (sp : Sp) (dvs : List V) (E : XK) (t : TA) : TE := λ σ H Q => t σ H λ vs H1 => sp (vs ++ dvs) H1 Q E
def tMeth (C : Addr) (m : Str) (sp : Sp) (dvs : List V) (E : XK) (ta : TE) (t : TA) : TE := λ σ H Q => ta σ H λ x H1 => ∃ a dx fs, x = .ref a /\ H1 a = some (.ins C dx fs) /\ fs.lookup m = none /\
 t σ H1 λ vs H2 => sp (x :: (vs ++ dvs)) H2 Q E
def tMake (C : Addr) (sp : Sp) (dvs : List V) (E : XK) (t : TA) : TE := λ σ H Q => t σ H λ vs H1 => ∀ x dx, H1 x = none -> H1 dx = none -> dx ≠ x ->
 sp (.ref x :: (vs ++ dvs)) (upd (upd H1 dx (.own x)) x (.ins C dx [])) (λ v H2 => v = .non /\ Q (.ref x) H2) E
def Binds (K : PySem.W.Frag) (fd : FuncData) (ps : List Str) (ds : List Value) : Prop :=
 ∀ (s : Shared) (us : List Value), K.In s.heap -> (us ++ ds).length = ps.length -> BindsTo s fd ⟨us, []⟩ (ps.zip (us ++ ds))
theorem Binds.all {K : PySem.W.Frag} {fd : FuncData} {ps : List Str} (h : ∀ us : List Value, us.length = ps.length -> bindArgs fd ⟨us, []⟩ = pure (ps.zip us)) : Binds K fd ps [] := λ s us _ hl => by
 rw [List.append_nil] at hl ⊢
 exact .of_eq (h us hl)
def Passes (CX : CXT) (X : Cx) (E : XK) : Prop := ∀ (pins : List (Addr × Obj)) (σ : St) (H : Hp) (s : Shared) (e : Value) (s' : Shared), Inv X pins σ H s -> CX X.stack H s E e s' -> X.xe e s'
section
variable {X : Cx} {CX : CXT} {k : Nat} {f C : Addr} {fd : FuncData} {ps : List Str} {sp : Sp} {dvs : List V} {ds : List Value} {E : XK} {x m : Str} {p pos apos : Pos} {e o : Expr} {es : List Expr} {ta : TE} {t : TA}
theorem run_fn {pins : List (Addr × Obj)} {σ : St} {H : Hp} {s : Shared} {Q : VK} {us : List Value} {vs : List V} (F : FnOk X.prog X.w X.K X.mg X.base CX k f fd ps sp) (hr : Room k X.A) (hb : Binds X.K fd ps ds) (hd : Vals dvs ds) (hx : Passes CX X E)
  (I : Inv X pins σ H s) (r : Vals vs us) (h : sp (vs ++ dvs) H Q E) : wpAny (model X.prog X.w) X.A (call (.ref f) us) (EP X pins σ Q) X.xe s := by
 have r2 : Vals (vs ++ dvs) (us ++ ds) := r.append hd
 have hl : (us ++ ds).length = ps.length := by rw [<- r2.length]; exact F.len _ _ _ _ h
 refine wpAny_call (codeAny_mono (F.run X.A X.stack s H ⟨us, []⟩ (us ++ ds) (vs ++ dvs) Q E hr I.env0 (hb s us I.kIn hl) r2 h) λ r s' hq => ?_)
 cases r with
 | error e => exact hx pins σ H s e s' I hq
 | ok fl =>
  cases fl with
  | ret u => exact I.after hq
  | next => exact False.elim hq
  | brk => exact False.elim hq
  | cont => exact False.elim hq
theorem pe_call (F : FnOk X.prog X.w X.K X.mg X.base CX k f fd ps sp) (hr : Room k X.A) (hg : Gl X x) (hm : X.mg x = some (.ref f)) (hk : PySem.W.keepIn X.K (.ref f) = true) (hb : Binds X.K fd ps ds) (hd : Vals dvs ds) (hx : Passes CX X E)
  (ha : PA X (e :: es) t) (hdb : (x == ("__debug__" : Str)) = false := by decide) (he : starEach (e :: es) X.env = (false, eval e X.env) :: starEach es X.env := by rfl) (hpl : (backTo pos (starEach es X.env)).any (·.1) = false := by rfl) :
  PE X (.Call (.Name x p) (e :: es) [] pos) (tCall sp dvs E t) := by
 intro pins s σ H Q I h
 refine wpAny_Call_Name_kw (ld_glob I hg hm ?_ hdb)
 refine PySem.W.callWith_K (h₀ := X.base) I.ok.mod.kin hk (thn (ha pos pins s σ H _ I h) λ us s1 ⟨vs, H1, I1, r, q⟩ => ⟨I1.kIn, ?_⟩) he hpl
 exact run_fn F hr hb hd hx I1 r q
theorem pe_meth0 {pl : Sem Bool} (he : PE X o ta) (c : Cls X.K C) (hm : Meth X.K C m f) (F : FnOk X.prog X.w X.K X.mg X.base CX k f fd ps sp) (hr : Room k X.A) (hb : Binds X.K fd ps ds) (hd : Vals dvs ds) (hx : Passes CX X E)
  (ht : eval (.Call (.Attribute o m apos) [] [] pos) X.env = (do
   let ov <- eval o X.env
   standAt apos.atName
   let (f, first) <- holding [ov] (getMethod ov m pl)
   callWith pos f first (backTo pos (starEach [] X.env)) (backToKw pos (keywordEach [] X.env))) := by rfl) :
  PE X (.Call (.Attribute o m apos) [] [] pos) (tMeth C m sp dvs E ta tNil) := by
 intro pins s σ H Q I h
 refine PySem.W.methodCall_KW (pl := pl) (thn (he pins s σ H _ I h) λ u s1 ⟨x, H1, I1, rx, a, dx, fs, ex, ea, l, q⟩ => ?_) ht
 subst ex
 obtain rfl : u = Value.ref a := rx
 refine getmeth_ok I1 ea c hm l ?_
 exact PySem.W.callWith_K0 (first := [.ref a]) I1.kIn hm.kp (run_fn (us := [.ref a]) (vs := [.ref a]) F hr hb hd hx I1 (.cons rfl .nil) q)
structure Mk (K : PySem.W.Frag) (C f : Addr) : Prop where
 makes : PySem.W.makesIn K C = true
 init : PySem.W.findIn K (.ref C) "__init__" = some (some (.ref f))
 fn : PySem.W.isFn K (.ref f) = true
 kp : PySem.W.keepIn K (.ref C) = true
theorem run_make {pins : List (Addr × Obj)} {σ : St} {H : Hp} {s : Shared} {Q : VK} {us : List Value} {vs : List V} (M : Mk X.K C f) (F : FnOk X.prog X.w X.K X.mg X.base CX k f fd ps sp) (hr : Room (k + 1) X.A) (hb : Binds X.K fd ps ds) (hd : Vals dvs ds)
  (hx : Passes CX X E) (I : Inv X pins σ H s) (r : Vals vs us)
  (h : ∀ x dx, H x = none -> H dx = none -> dx ≠ x -> sp (.ref x :: (vs ++ dvs)) (upd (upd H dx (.own x)) x (.ins C dx [])) (λ v H2 => v = .non /\ Q (.ref x) H2) E) :
  wpAny (model X.prog X.w) X.A (call (.ref C) us) (EP X pins σ Q) X.xe s := by
 have hq := h (s.heap.objs.size + 1) s.heap.objs.size (I.hok.fresh (Nat.le_succ _)) (I.hok.fresh (Nat.le_refl _)) (Nat.ne_of_lt (Nat.lt_succ_self _))
 have I2 := Inv.made (C := C) I
 have r2 : Vals (V.ref (s.heap.objs.size + 1) :: (vs ++ dvs)) (Value.ref (s.heap.objs.size + 1) :: (us ++ ds)) := .cons rfl (r.append hd)
 have hl : (Value.ref (s.heap.objs.size + 1) :: us ++ ds).length = ps.length := by
  have e := r2.length
  rw [F.len _ _ _ _ hq] at e
  exact e.symm
 refine wpAny_call (make_map (f := f) I.kIn M.makes M.init (beq_iff_eq.mp M.fn) (codeAny_mono (F.run _ X.stack _ _ ⟨Value.ref (s.heap.objs.size + 1) :: us, []⟩ (Value.ref (s.heap.objs.size + 1) :: (us ++ ds)) _ _ E (hr.make C us [])
  (I2.env0.make C us []) (hb _ (Value.ref (s.heap.objs.size + 1) :: us) I2.kIn hl) r2 hq) λ r s' hq' => ?_))
 cases r with
 | error e => exact hx pins σ _ _ e s' I2 hq'
 | ok fl =>
  cases fl with
  | ret u =>
   obtain ⟨v, H', I3, rv, ev, q3⟩ := I2.after hq'
   subst ev
   exact ⟨rv, ⟨V.ref (s.heap.objs.size + 1), H', I3, rfl, q3⟩⟩
  | next => exact False.elim hq'
  | brk => exact False.elim hq'
  | cont => exact False.elim hq'
theorem pe_make (M : Mk X.K C f) (F : FnOk X.prog X.w X.K X.mg X.base CX k f fd ps sp) (hr : Room (k + 1) X.A) (hg : Gl X x) (hm : X.mg x = some (.ref C)) (hb : Binds X.K fd ps ds) (hd : Vals dvs ds) (hx : Passes CX X E)
  (ha : PA X (e :: es) t) (hdb : (x == ("__debug__" : Str)) = false := by decide) (he : starEach (e :: es) X.env = (false, eval e X.env) :: starEach es X.env := by rfl) (hpl : (backTo pos (starEach es X.env)).any (·.1) = false := by rfl) :
  PE X (.Call (.Name x p) (e :: es) [] pos) (tMake C sp dvs E t) := by
 intro pins s σ H Q I h
 refine wpAny_Call_Name_kw (ld_glob I hg hm ?_ hdb)
 refine PySem.W.callWith_K (h₀ := X.base) I.ok.mod.kin M.kp (thn (ha pos pins s σ H _ I h) λ us s1 ⟨vs, H1, I1, r, q⟩ => ⟨I1.kIn, ?_⟩) he hpl
 exact run_make M F hr hb hd hx I1 r q
theorem pe_make0 (M : Mk X.K C f) (F : FnOk X.prog X.w X.K X.mg X.base CX k f fd ps sp) (hr : Room (k + 1) X.A) (hg : Gl X x) (hm : X.mg x = some (.ref C)) (hb : Binds X.K fd ps ds) (hd : Vals dvs ds) (hx : Passes CX X E)
  (hdb : (x == ("__debug__" : Str)) = false := by decide) : PE X (.Call (.Name x p) [] [] pos) (tMake C sp dvs E tNil) := by
 intro pins s σ H Q I h
 refine wpAny_Call_Name_kw (ld_glob I hg hm ?_ hdb)
 exact PySem.W.callWith_K0 I.kIn M.kp (run_make (us := []) M F hr hb hd hx I .nil h)
end
structure FnScope (N P : List Str) (sc : Scope) : Prop where
 kind : sc.kind = .function
 co : sc.isCoroutine = false
 gen : sc.isGenerator = false
 nd : N.Nodup
 pre : N.take P.length = P
 par : ∀ x ∈ P, sc.names.lookup x = some .local ∨ sc.names.lookup x = some .cell
 nofree : ∀ y ∈ sc.names, y.2 ≠ .free
theorem bindL_out {kindOf : Str -> Option NameKind} {x : Str} : ∀ {binds : List (Str × Value)} {m : Str -> Option Value}, (∀ v, (x, v) ∉ binds) -> bindL kindOf binds m x = m x
 | [], _, _ => rfl
 | (n, v) :: r, m, h => by
  unfold bindL
  rw [bindL_out λ w hw => h w (List.mem_cons_of_mem _ hw)]
  split
  ·have : x ≠ n := by rintro rfl; exact h v List.mem_cons_self
   simp [this]
  ·rfl
theorem bindC_out {kindOf : Str -> Option NameKind} {x : Str} : ∀ {binds : List (Str × Value)} {m : Str -> Option Value}, (∀ v, (x, v) ∉ binds) -> bindC kindOf binds m x = m x
 | [], _, _ => rfl
 | (n, v) :: r, m, h => by
  unfold bindC
  rw [bindC_out λ w hw => h w (List.mem_cons_of_mem _ hw)]
  split
  ·rfl
  ·have : x ≠ n := by rintro rfl; exact h v List.mem_cons_self
   simp [this]
theorem bindL_get {kindOf : Str -> Option NameKind} {x : Str} {v : Value} : ∀ {P : List Str} {vs : List Value} {i : Nat} {m : Str -> Option Value}, P.Nodup -> P[i]? = some x -> vs[i]? = some v -> kindOf x = some .local ->
  bindL kindOf (P.zip vs) m x = some v
 | [], _, _, _, _, h, _, _ => by simp at h
 | _ :: _, [], _, _, _, _, h, _ => by simp at h
 | p :: P, w :: vs, 0, m, nd, h1, h2, hk => by
  simp at h1 h2; subst h1; subst h2
  show bindL kindOf ((p, w) :: P.zip vs) m p = _
  unfold bindL
  rw [bindL_out λ v hv => (List.nodup_cons.mp nd).1 (List.of_mem_zip hv).1, if_pos hk]
  simp
 | p :: P, w :: vs, i + 1, m, nd, h1, h2, hk => by
  show bindL kindOf ((p, w) :: P.zip vs) m x = _
  unfold bindL
  exact bindL_get (i := i) (List.nodup_cons.mp nd).2 (by simpa using h1) (by simpa using h2) hk
theorem bindC_get {kindOf : Str -> Option NameKind} {x : Str} {v : Value} : ∀ {P : List Str} {vs : List Value} {i : Nat} {m : Str -> Option Value}, P.Nodup -> P[i]? = some x -> vs[i]? = some v -> kindOf x ≠ some .local ->
  bindC kindOf (P.zip vs) m x = some v
 | [], _, _, _, _, h, _, _ => by simp at h
 | _ :: _, [], _, _, _, _, h, _ => by simp at h
 | p :: P, w :: vs, 0, m, nd, h1, h2, hk => by
  simp at h1 h2; subst h1; subst h2
  show bindC kindOf ((p, w) :: P.zip vs) m p = _
  unfold bindC
  rw [bindC_out λ v hv => (List.nodup_cons.mp nd).1 (List.of_mem_zip hv).1, if_neg hk]
  simp
 | p :: P, w :: vs, i + 1, m, nd, h1, h2, hk => by
  show bindC kindOf ((p, w) :: P.zip vs) m x = _
  unfold bindC
  exact bindC_get (i := i) (List.nodup_cons.mp nd).2 (by simpa using h1) (by simpa using h2) hk
def start (N : List Str) (vs : List V) : St := vs.map some ++ List.replicate (N.length - vs.length) none
def cxOf (CX : CXT) (P : Program) (w : World) (K : PySem.W.Frag) (mg : Str -> Option Value) (base : Heap) (N : List Str) (qual : Str) (scope : Scope) (f : Addr) (cd : Value) (A : Around) (outer : List Env) (s : Shared) (H : Hp) (E : XK) : Cx where
 prog := P
 w := w
 K := K
 mg := mg
 base := base
 A := A.deeper (envOfC qual scope s.heap.objs.size f cd)
 N := N
 s_0 := s
 H_0 := H
 env := envOfC qual scope s.heap.objs.size f cd
 outer := outer
 stack := envOfC qual scope s.heap.objs.size f cd :: outer
 ex := []
 calm := true
 fn := λ _ => true
 pn := []
 xe := λ e s' => wpAny (model P w) (A.deeper (envOfC qual scope s.heap.objs.size f cd)) (leaving (envOfC qual scope s.heap.objs.size f cd) e) (λ _ s'' => CX outer H s E e s'') (λ e' s'' => CX outer H s E e' s'') s'
theorem cell_has {sc : Scope} {n : Nat} {x : Str} (h : sc.names.lookup x = some .cell) : ∃ c, (cellsFrom n sc.names []).lookup x = some c := by
 have q := PySem.W.cellsFrom_some sc.names n [] (.inl h)
 exact Option.isSome_iff_exists.mp q
theorem inv_start {CX : CXT} {P : Program} {w : World} {K : PySem.W.Frag} {mg : Str -> Option Value} {base : Heap} {N ps : List Str} {qual : Str} {scope : Scope} {f : Addr} {cd : Value} {A : Around} {outer : List Env} {s s1 : Shared} {H : Hp} {E : XK} {us : List Value} {vs : List V}
  (S : FnScope N ps scope) (hd : A.handled = none) (e0 : Env0 P w K mg base A outer s H) (hl : vs.length = ps.length) (r : Vals vs us)
  (x : InCallC s s.heap.objs.size (bindL (envOfC qual scope s.heap.objs.size f cd).kindOf (ps.zip us) λ _ => none) (cellsFrom (s.heap.objs.size + 1) scope.names []) (bindC (envOfC qual scope s.heap.objs.size f cd).kindOf (ps.zip us) λ _ => none) s1) :
  Inv (cxOf CX P w K mg base N qual scope f cd A outer s H E) [] (start N vs) H s1 := by
 have hpl : ps.length <= N.length := by have := congrArg List.length S.pre; rw [lnt] at this; omega
 obtain ⟨h1, tk, rfl, hk⟩ := x.done
 have noA : ∀ b : Addr, b ∉ (cxOf CX P w K mg base N qual scope f cd A outer s H E).ex := λ b z => absurd (show b ∈ ([] : List Addr) from z) (by simp)
 refine ⟨⟨e0.mod, S.kind, rfl, rfl, Nat.le_refl _, λ y z c h1 h2 => ?_, λ y hy => ?_, λ y c _ h => ?_, λ _ => hd, Around.frames_deeper e0.frames, .inr ⟨rfl, rfl⟩, λ b z => absurd z (noA b), e0.bs, e0.bsz, λ b _ _ => noA b, λ b z => absurd z (noA b), e0.funs, e0.frf⟩,
  rfl, e0.bare, Un.kept hk, ⟨_, x.toInCall.ns, λ i y v h1 h2 h3 => ?_⟩, λ y c h => ⟨_, x.cell y c h⟩, e0.hok.fresh (Nat.le_refl _), λ y c h => ?_, λ p hp => absurd (show p ∈ ([] : List (Addr × Obj)) from hp) (by simp), e0.hok.kept hk, ?_⟩
 ·exact name_of_addr x.apart (PySem.mem_of_lookup h1) (PySem.mem_of_lookup h2)
 ·have hy : scope.names.lookup y = some .cell ∨ scope.names.lookup y = some .free := hy
  rcases hy with hy | hy
  ·exact cell_has hy
  ·exact absurd rfl (S.nofree _ (PySem.mem_of_lookup hy))
 ·exact Nat.le_of_lt (x.above y c (PySem.mem_of_lookup h))
 ·have hi : i < vs.length := by
   unfold start at h2
   by_cases hi : i < vs.length
   ·exact hi
   ·rw [List.getElem?_append_right (by simpa using hi)] at h2
    rw [List.getElem?_replicate] at h2
    split at h2 <;> cases h2
  have ha : vs[i]? = some v := by
   unfold start at h2
   rw [List.getElem?_append_left (by simpa using hi), gem] at h2
   cases e : vs[i]? with
   | none => rw [e] at h2; cases h2
   | some a => rw [e] at h2; cases h2; rfl
  obtain ⟨u, hu, rv⟩ := r.get ha
  have hp : ps[i]? = some y := by
   rw [<- S.pre, List.getElem?_take_of_lt (by omega)]; exact h1
  have ndP : ps.Nodup := by rw [<- S.pre]; exact S.nd.sublist (List.take_sublist _ _)
  refine ⟨u, rv, ?_⟩
  rcases S.par y (List.mem_of_getElem? hp) with k | k
  ·exact .inl ⟨k, bindL_get ndP hp hu k⟩
  ·obtain ⟨c, e⟩ := cell_has (n := s.heap.objs.size + 1) k
   refine .inr ⟨.inl k, c, e, ?_⟩
   have q := x.cell y c e
   rw [bindC_get ndP hp hu (by show scope.names.lookup y ≠ _; rw [k]; decide)] at q
   exact q
 ·exact e0.hok.fresh (Nat.le_of_lt (x.above y c (PySem.mem_of_lookup h)))
 ·unfold start
  show _ = N.length
  rw [lna, lnm, List.length_replicate]
  omega
theorem fn_of {CX : CXT} {P : Program} {w : World} {K : PySem.W.Frag} {mg : Str -> Option Value} {base : Heap} {k : Nat} {f : Addr} {name qual : Str} {params : Arguments} {body : List Stmt} {scope : Scope} {dV kV doc pm cdv ct oc : Value} {an od : Option Addr}
  {osl : Array (Option Value)} {N ps : List Str} {sp : Sp} (lk : K.lookup f = some ⟨oc, od, .func (PySem.W.fnOf name qual params body scope dV kV doc pm an cdv ct), osl⟩) (hcd : PySem.W.codeIn K cdv qual = true) (S : FnScope N ps scope)
  (len : ∀ vs H Q E, sp vs H Q E -> vs.length = ps.length)
  (hbody : ∀ (A : Around) (outer : List Env) (s : Shared) (H : Hp) (vs : List V) (Q : VK) (E : XK), Room k (A.deeper (envOfC qual scope s.heap.objs.size f cdv)) -> sp vs H Q E ->
   ∃ t, PSs (cxOf CX P w K mg base N qual scope f cdv A outer s H E) body t /\ t { nx := λ _ H' => Q .non H', rt := Q } (start N vs) H) :
  FnOk P w K mg base CX (k + 1) f (PySem.W.fnOf name qual params body scope dV kV doc pm an cdv ct) ps sp := by
 refine ⟨len, λ A outer s H args us vs Q E hr e0 hb r hsp => ?_⟩
 have hl := len _ _ _ _ hsp
 have KX : K.In s.heap := e0.mod.kin.keeps λ b o e => (e0.bs b o e).1
 have lim : s.heap.NoLimit := e0.mod.nolimit.keeps λ b o e => (e0.bs b o e).1
 have hkind : ∀ y ∈ ps.zip us, scope.names.lookup y.1 = some .local ∨ (scope.names.lookup y.1 = some .cell /\ ((cellsFrom (s.heap.objs.size + 1) scope.names []).lookup y.1).isSome = true) := λ ⟨n, v⟩ hy => by
  rcases S.par n (List.of_mem_zip hy).1 with q | q
  ·exact .inl q
  ·exact .inr ⟨q, PySem.W.cellsFrom_some _ _ _ (.inl q)⟩
 refine codeAny_call_function hr.depth (KX _ _ lk) rfl S.co S.gen rfl (PySem.W.codeRec_of KX hcd) (hb _ _ _ _ ?_)
 refine wpAny_newFunctionEnv_cells S.kind hkind λ env he s1 x => ?_
 subst he
 refine ⟨lim.keeps x.toInCall.keep, codeAny_func ?_⟩
 obtain ⟨t, ht, hq⟩ := hbody A outer s H vs Q E (hr.deeper _) hsp
 have I : Inv (cxOf CX P w K mg base N qual scope f cdv A outer s H E) [] (start N vs) H s1 := inv_start S hr.hd e0 hl r x
 refine wpAny_mono (ht [] s1 (start N vs) H _ I hq) (λ fl s' hs => ?_) λ e s' hs => hs
 have fin : ∀ {σ' : St} {H' : Hp} {v : V} {u : Value}, Inv (cxOf CX P w K mg base N qual scope f cdv A outer s H E) [] σ' H' s' -> RelV v u -> Q v H' -> CE outer P w H s Q u s' :=
  λ {σ' H' v u} J rv q => ⟨v, H', J.os, J.bare, J.base, J.hok, rv, q⟩
 cases fl with
 | ret u =>
  obtain ⟨v, σ', H', J, rv, q⟩ := hs
  exact fin J rv q
 | next =>
  obtain ⟨σ', H', J, q⟩ := hs
  exact fin (v := V.non) (u := Value.none) J rfl q
 | brk =>
  obtain ⟨_, _, _, q⟩ := hs
  exact False.elim q
 | cont =>
  obtain ⟨_, _, _, q⟩ := hs
  exact False.elim q
end L2
namespace L2
open PySem PySem.Spec PyProof.Rows
section
variable {X : Cx} {x : Str} {p pos : Pos} {e : Expr} {es : List Expr} {t : TA} {id T : String} {r : List V -> Hp -> VK -> Prop}
def tCB (r : List V -> Hp -> VK -> Prop) (t : TA) : TE := λ σ H Q => t σ H λ vs H1 => r vs H1 Q
theorem pe_callB (hc : CallR X (.builtin id) r) (hg : Gl X x) (hm : X.mg x = none) (hv : bootBuiltins x = some (.builtin id)) (ha : PA X (e :: es) t) (hn : x ≠ "__name__" := by decide) (hdb : (x == ("__debug__" : Str)) = false := by decide)
  (he : starEach (e :: es) X.env = (false, eval e X.env) :: starEach es X.env := by rfl) (hpl : (backTo pos (starEach es X.env)).any (·.1) = false := by rfl) : PE X (.Call (.Name x p) (e :: es) [] pos) (tCB r t) := by
 intro pins s σ H Q I h
 refine wpAny_Call_Name_kw (ld_blt I hg hm hv ?_ hn hdb)
 exact PyProof.Rows.callWith_builtin1 (thn (ha pos pins s σ H _ I h) λ us s1 ⟨vs, H1, I1, r1, q1⟩ => hc pins s1 σ H1 vs us Q I1 r1 q1) he hpl
theorem pe_callTy (hc : CallR X (.type T) r) (hg : Gl X x) (hm : X.mg x = none) (hv : bootBuiltins x = some (.type T)) (ha : PA X (e :: es) t) (hn : x ≠ "__name__" := by decide) (hdb : (x == ("__debug__" : Str)) = false := by decide)
  (he : starEach (e :: es) X.env = (false, eval e X.env) :: starEach es X.env := by rfl) (hpl : (backTo pos (starEach es X.env)).any (·.1) = false := by rfl) : PE X (.Call (.Name x p) (e :: es) [] pos) (tCB r t) := by
 intro pins s σ H Q I h
 refine wpAny_Call_Name_kw (ld_blt I hg hm hv ?_ hn hdb)
 exact PyProof.Rows.callWith_type1 (thn (ha pos pins s σ H _ I h) λ us s1 ⟨vs, H1, I1, r1, q1⟩ => hc pins s1 σ H1 vs us Q I1 r1 q1) he hpl
end
end L2
namespace HT
open PySem PyProof.Rows
section
variable {prog : Program} {w : World} {A : Around} {E : Value -> Shared -> Prop} {s : Shared}
def sIx (n d : Nat) : Option Int -> Nat
 | none => d
 | some v => if v < 0 then (v + (n : Int)).toNat else min v.toNat n
theorem sIx_none (n d : Nat) : sIx n d none = d := rfl
theorem sIx_nat (n d k : Nat) : sIx n d (some (k : Int)) = min k n := by
 show (if (k : Int) < 0 then ((k : Int) + (n : Int)).toNat else min (k : Int).toNat n) = min k n
 rw [if_neg (by omega), Int.toNat_natCast]
end
end HT
namespace L2
open PySem PySem.Spec PyProof.Rows
abbrev TO := St -> Hp -> (Option Int -> Hp -> Prop) -> Prop
def PO (X : Cx) (e : Option Expr) (t : TO) : Prop :=
 ∀ (pins : List (Addr × Obj)) (s : Shared) (σ : St) (H : Hp) (Q : Option Int -> Hp -> Prop), Inv X pins σ H s -> t σ H Q ->
  wpAny (model X.prog X.w) X.A (evalPart e X.env) (λ u s' => ∃ o H', Inv X pins σ H' s' /\ IsPart u o /\ Q o H') X.xe s
def tNoPart : TO := λ _ H Q => Q none H
def tPart (t : TE) : TO := λ σ H Q => t σ H λ x H1 => ∃ i, x = .int i /\ Q (some i) H1
section
variable {X : Cx} {e : Expr} {te : TE} {lo hi : Option Expr} {tl th : TO} {pos p2 : Pos}
theorem po_none : PO X none tNoPart := by
 intro pins s σ H Q I h
 rw [evalPart_none]
 exact wpAny_pure ⟨none, H, I, .none, h⟩
theorem po_some (h : PE X e te) : PO X (some e) (tPart te) := by
 intro pins s σ H Q I hw
 rw [evalPart_some]
 refine thn (h pins s σ H _ I hw) λ u s1 ⟨x, H1, I1, r1, q1⟩ => ?_
 obtain ⟨i, rfl, q⟩ := q1
 obtain ⟨t, rfl⟩ := r1
 exact ⟨some i, H1, I1, .int i t, q⟩
def SlR (X : Cx) (r : V -> Option Int -> Option Int -> Hp -> VK -> Prop) : Prop :=
 ∀ (pins : List (Addr × Obj)) (s : Shared) (σ : St) (H : Hp) (x : V) (v vl vu : Value) (lo hi : Option Int) (sl : Addr) (Q : VK), Inv X pins σ H s -> RelV x v -> s.heap.IsSliceOf sl vl vu .none -> IsPart vl lo -> IsPart vu hi -> r x lo hi H Q ->
  ∃ T id, typeLookup (.type T) "__getitem__" = pure (some (.builtin id)) /\ s.TypeIs v T /\ wpAny (model X.prog X.w) X.A (getItem v (.ref sl)) (EP X pins σ Q) X.xe s
def tSl (r : V -> Option Int -> Option Int -> Hp -> VK -> Prop) (te : TE) (tl th : TO) : TE := λ σ H Q => te σ H λ x H1 => tl σ H1 λ l H2 => th σ H2 λ u H3 => r x l u H3 Q
theorem pe_slice {r : V -> Option Int -> Option Int -> Hp -> VK -> Prop} (hr : SlR X r) (he : PE X e te) (hl : PO X lo tl) (hu : PO X hi th) : PE X (.Subscript e (.Slice lo hi none p2) pos) (tSl r te tl th) := by
 intro pins s σ H Q I h
 refine Subscript_ (thn (he pins s σ H _ I h) λ v s1 ⟨x, H1, I1, r1, q1⟩ => ?_)
 refine wpAny_Slice (thn (hl pins s1 σ H1 _ I1 q1) λ vl s2 ⟨l, H2, I2, pl, q2⟩ => thn (hu pins s2 σ H2 _ I2 q2) λ vu s3 ⟨u, H3, I3, pu, q3⟩ => ?_)
 rw [evalPart_none]
 refine wpAny_pure ?_
 have I4 : Inv X pins σ H3 { s3 with heap := s3.heap.push { cls := .type "slice", data := .fields #[vl, vu, .none] } } := I3.kept (t' := s3.toks) λ b ob q => Heap.get?_push_of_some _ q
 obtain ⟨T, id, hT, ht, hg⟩ := hr pins { s3 with heap := s3.heap.push { cls := .type "slice", data := .fields #[vl, vu, .none] } } σ H3 x v vl vu l u s3.heap.objs.size Q I4 r1 (Heap.IsSliceOf.new ..) pl pu q3
 show wpAny (model X.prog X.w) X.A (subscriptTail e (.Slice lo hi none p2) v (.ref s3.heap.objs.size)) (EP X pins σ Q) X.xe { s3 with heap := s3.heap.push { cls := .type "slice", data := .fields #[vl, vu, .none] } }
 exact tail_any (ops := [.ref s3.heap.objs.size, v]) ht hT hg (by with_unfolding_all rfl)
def cutV (xs : List V) (lo hi : Option Int) : List V := (xs.drop (HT.sIx xs.length 0 lo)).take (HT.sIx xs.length xs.length hi - HT.sIx xs.length 0 lo)
theorem cutV_length (xs : List V) (lo hi : Option Int) : (cutV xs lo hi).length <= xs.length := by
 unfold cutV
 rw [lnt, List.length_drop]
 omega
end
end L2
namespace L2
open PySem PySem.Spec PyProof.Rows
def ixN (n : Nat) (i : Int) : Option Nat := if 0 <= i then (if i < n then some i.toNat else none) else if -(n : Int) <= i then some (i + n).toNat else none
def atI {α : Type} (xs : List α) (i : Int) : Option α := (ixN xs.length i).bind λ j => xs[j]?
theorem ixN_seq {n : Nat} {i : Int} {j : Nat} (h : ixN n i = some j) : seqIndex? i n = some j /\ j < n /\ -(n : Int) <= i /\ i < n := by
 unfold ixN at h
 by_cases h0 : 0 <= i
 ·rw [if_pos h0] at h
  by_cases h1 : i < n
  ·rw [if_pos h1] at h
   have e : i.toNat = j := Option.some.inj h
   exact ⟨by rw [seqIndex_of h0 h1, e], by omega, by omega, h1⟩
  ·rw [if_neg h1] at h; cases h
 ·rw [if_neg h0] at h
  by_cases h1 : -(n : Int) <= i
  ·rw [if_pos h1] at h
   have e : (i + n).toNat = j := Option.some.inj h
   exact ⟨by rw [seqIndex_neg (by omega) h1, e], by omega, h1, by omega⟩
  ·rw [if_neg h1] at h; cases h
theorem atI_get {α : Type} {xs : List α} {i : Int} {v : α} (h : atI xs i = some v) : ∃ j, seqIndex? i xs.length = some j /\ xs[j]? = some v /\ j < xs.length /\ -(xs.length : Int) <= i /\ i < xs.length := by
 unfold atI at h
 cases e : ixN xs.length i with
 | none => rw [e] at h; cases h
 | some j =>
  rw [e] at h
  obtain ⟨h1, h2, h3, h4⟩ := ixN_seq e
  exact ⟨j, h1, h, h2, h3, h4⟩
theorem atI_nat {α : Type} {xs : List α} {j : Nat} {v : α} (h : xs[j]? = some v) : atI xs (j : Int) = some v := by
 have hj : j < xs.length := (List.getElem?_eq_some_iff.mp h).1
 have e : ixN xs.length (j : Int) = some j := by
  unfold ixN
  rw [if_pos (by omega), if_pos (by omega)]; simp
 unfold atI; rw [e]; exact h
def PlainIx (b : Expr) : Prop := ∀ o i, subscripted b false o i = operate [o, i] (getItem o i)
def IxR (X : Cx) (r : R2) : Prop :=
 ∀ (value slice : Expr) (pins : List (Addr × Obj)) (s : Shared) (σ : St) (H : Hp) (x y : V) (v u : Value) (Q : VK), Inv X pins σ H s -> RelV x v -> RelV y u -> r x y H Q ->
  subscripted slice false v u = operate [v, u] (getItem v u) -> wpAny (model X.prog X.w) X.A (subscriptTail value slice v u) (EP X pins σ Q) X.xe s
def MtR (X : Cx) (id : String) (r : V -> List V -> Hp -> VK -> Prop) : Prop :=
 ∀ (pins : List (Addr × Obj)) (s : Shared) (σ : St) (H : Hp) (x : V) (xs : List V) (v : Value) (us : List Value) (Q : VK), Inv X pins σ H s -> RelV x v -> Vals xs us -> r x xs H Q ->
  wpAny (model X.prog X.w) X.A (call (.builtin id) (v :: us)) (EP X pins σ Q) X.xe s
section
variable {X : Cx} {a b : Expr} {ta tb : TE} {pos : Pos}
theorem pe_ix {r : R2} (hr : IxR X r) (ha : PE X a ta) (hb : PE X b tb) (hs : PlainIx b) : PE X (.Subscript a b pos) (tOp r ta tb) := by
 intro pins s σ H Q I h
 exact Subscript_ (binT ha hb I h λ v u s2 x y H2 I2 rx ry q => hr a b pins s2 σ H2 x y v u Q I2 rx ry q (hs _ _))
def rIxL (K : PySem.W.Frag) : R2 := λ x y H Q => ∃ p xs i v, x = .ref p /\ y = .int i /\ SqL K H p xs /\ atI xs i = some v /\ Q v H
def rIxT (K : PySem.W.Frag) : R2 := λ x y H Q => ∃ p xs i v, x = .ref p /\ y = .int i /\ SqT K H p xs /\ atI xs i = some v /\ Q v H
theorem ix_list : IxR X (rIxL X.K) := by
 intro value slice pins s σ H x y v u Q I rx ry h hs
 obtain ⟨p, xs, i, z, rfl, rfl, hq, he, q⟩ := h
 cases rx
 obtain ⟨t, rfl⟩ := ry
 obtain ⟨its, r, pl, hz⟩ := I.list hq
 obtain ⟨j, h1, h2, h3, h4, h5⟩ := atI_get he
 obtain ⟨w, ew, rw'⟩ := r.get h2
 have hl := r.length
 have hn := line63
 have fin : EP X pins σ Q w s := ⟨z, H, I, rw', q⟩
 by_cases h0 : 0 <= i
 ·have hj : i.toNat = j := by
   rw [seqIndex_of h0 h5] at h1
   exact Option.some.inj h1
  exact item_listR pl.isList h0 (by omega) (by rw [hj]; simpa using ew) fin hs
 ·have hj : (i + (its.toArray.size : Int)).toNat = j := by
   rw [seqIndex_neg (by omega) h4] at h1
   rw [List.size_toArray, <- hl]
   exact Option.some.inj h1
  exact subscriptTail_builtinR (x := w) pl.isList.typeIs slot_list_getitem.lookup
   (wpAny_getItem_list_neg (Q := λ r s' => r = w /\ EP X pins σ Q r s') pl.isList (by omega) (by rw [List.size_toArray] <;> omega) (by omega) (by rw [hj]; simpa using ew) ⟨rfl, fin⟩) hs
theorem ix_tup : IxR X (rIxT X.K) := by
 intro value slice pins s σ H x y v u Q I rx ry h hs
 obtain ⟨p, xs, i, z, rfl, rfl, hq, he, q⟩ := h
 cases rx
 obtain ⟨t, rfl⟩ := ry
 obtain ⟨its, r, pl, hz⟩ := I.tuple hq
 obtain ⟨j, h1, h2, h3, h4, h5⟩ := atI_get he
 obtain ⟨w, ew, rw'⟩ := r.get h2
 have hl := r.length
 have hn := line63
 have fin : EP X pins σ Q w s := ⟨z, H, I, rw', q⟩
 exact subscriptTail_builtinR (x := w) pl.typeIs slot_tuple_getitem.lookup
  (getItem_tuple (j := j) (Q := λ r s' => r = w /\ EP X pins σ Q r s') pl (by omega) (by omega) (by rw [List.size_toArray, <- hl]; exact h1) (by simpa using ew) ⟨rfl, fin⟩) hs
theorem mapSeq_set (its : List Value) (n j : Nat) (u : Value) : Obj.mapSeq (·.setIfInBounds j u) { cls := .type "list", data := .seq its.toArray n } = { cls := .type "list", data := .seq (its.set j u).toArray n } := by
 simp [Obj.mapSeq]
theorem Inv.lst {pins : List (Addr × Obj)} {σ : St} {H : Hp} {s : Shared} {p : Addr} {xs : List V} (I : Inv X pins σ H s) (h : H p = some (.lst xs)) :
  ∃ (its : List Value) (n : Nat), Vals xs its /\ s.heap.get? p = some { cls := .type "list", data := .seq its.toArray n } /\ xs.length <= sizeLine := by
 obtain ⟨z, its, n, r, e⟩ := I.hok p _ h
 exact ⟨its, n, r, e, z⟩
theorem Inv.lstUpd {pins : List (Addr × Obj)} {σ : St} {H : Hp} {s : Shared} {p : Addr} {xs ys : List V} {its its' : List Value} {n n' : Nat} {f : Obj -> Obj} (I : Inv X pins σ H s) (h : H p = some (.lst xs))
  (ho : s.heap.get? p = some { cls := .type "list", data := .seq its.toArray n }) (hf : f { cls := .type "list", data := .seq its.toArray n } = { cls := .type "list", data := .seq its'.toArray n' }) (r : Vals ys its') (hz : ys.length <= sizeLine) (t : Nat) :
  Inv X pins σ (upd H p (.lst ys)) { s with heap := s.heap.update p f, toks := t } := by
 have e : (s.heap.update p f).get? p = some { cls := .type "list", data := .seq its'.toArray n' } := by
  rw [Heap.get?_update_self f ho (by rw [hf] <;> rfl), hf]
 refine I.write (x := p) (e := p) (by rw [h]; trivial) (.inl rfl) (λ b u hb q => (Heap.get?_update_other _ _ (Ne.symm hb)).trans q) ⟨_, e⟩ ?_
 exact ⟨hz, its', n', r, e⟩
def rSetL : V -> V -> V -> Hp -> (Hp -> Prop) -> Prop := λ o i v H Q => ∃ p xs k j, o = .ref p /\ i = .int k /\ H p = some (.lst xs) /\ ixN xs.length k = some j /\ Q (upd H p (.lst (xs.set j v)))
theorem set_list : PSet X rSetL := by
 intro pins s σ H o i v ov iv u Q I ro ri rv h
 obtain ⟨p, xs, k, j, rfl, rfl, hp, hj, q⟩ := h
 cases ro
 obtain ⟨t, rfl⟩ := ri
 obtain ⟨its, n, r, ho, hz⟩ := I.lst hp
 obtain ⟨h1, h2, h3, h4⟩ := ixN_seq hj
 have hl := r.length
 have hn := line63
 have I' : Inv X pins σ (upd H p (.lst (xs.set j v))) { s with heap := s.heap.update p (Obj.mapSeq (·.setIfInBounds j u)) } :=
  I.lstUpd hp ho (mapSeq_set its n j u) (r.set rv j) (by rw [List.length_set]; exact hz) s.toks
 by_cases h0 : 0 <= k
 ·have hk : k.toNat = j := by
   rw [seqIndex_of h0 h4] at h1
   exact Option.some.inj h1
  exact PySem.W.ki_setAt ho h0 (by omega) (by rw [List.size_toArray, <- hl]; exact h4) (by rw [hk]; exact ⟨_, I', q⟩)
 ·have hk : (k + (its.toArray.size : Int)).toNat = j := by
   rw [seqIndex_neg (by omega) h3] at h1
   rw [List.size_toArray, <- hl]
   exact Option.some.inj h1
  exact PySem.W.ki_setBack ho (by omega) (by rw [List.size_toArray, <- hl]; exact h3) (by omega) (by rw [hk]; exact ⟨_, I', q⟩)
theorem slice_bounds (lo hi : Option Int) (n : Nat) : (sliceBounds lo hi none n).1 = ((HT.sIx n 0 lo : Nat) : Int) /\ (sliceBounds lo hi none n).2.1 = ((HT.sIx n n hi : Nat) : Int) /\ (sliceBounds lo hi none n).2.2 = 1 := by
 refine ⟨?_, ?_, rfl⟩
 ·cases lo with
  | none => simp [sliceBounds, HT.sIx]
  | some i =>
   simp only [sliceBounds, HT.sIx, Option.getD_none, show (1 : Int) > 0 by decide, if_true]
   by_cases h : i < 0
   ·simp only [h, if_true] <;> omega
   ·simp only [h, if_false] <;> omega
 ·cases hi with
  | none => simp [sliceBounds, HT.sIx]
  | some i =>
   simp only [sliceBounds, HT.sIx, Option.getD_none, show (1 : Int) > 0 by decide, if_true]
   by_cases h : i < 0
   ·simp only [h, if_true] <;> omega
   ·simp only [h, if_false] <;> omega
theorem slicePick_cut (its : List Value) (lo hi : Option Int) : slicePick its.toArray lo hi none = ((its.drop (HT.sIx its.length 0 lo)).take (HT.sIx its.length its.length hi - HT.sIx its.length 0 lo)).toArray := by
 obtain ⟨h1, h2, h3⟩ := slice_bounds lo hi its.toArray.size
 unfold slicePick
 rw [h1, h2, h3]
 simp only [sliceRange_one, pick_run, List.size_toArray] <;> rfl
def rSlL (K : PySem.W.Frag) : V -> Option Int -> Option Int -> Hp -> VK -> Prop := λ x lo hi H Q => ∃ a xs, x = .ref a /\ SqL K H a xs /\ ∀ p, H p = none -> Q (.ref p) (upd H p (.lst (cutV xs lo hi)))
theorem sl_list : SlR X (rSlL X.K) := by
 intro pins s σ H x v vl vu lo hi sl Q I rx hs pl pu h
 obtain ⟨a, xs, rfl, hx, q⟩ := h
 cases rx
 obtain ⟨its, r, ht, hz⟩ := I.list hx
 have hlen := r.length
 refine ⟨"list", _, slot_list_getitem.lookup, ht.isList.typeIs, ?_⟩
 refine wpAny_getItem_list_slice ht.isList hs pl pu .none (by simp) ?_ (by rw [List.size_toArray] <;> omega)
 rw [slicePick_cut, <- hlen]
 refine ⟨.ref s.heap.objs.size, _, I.laid (t' := s.toks) (o := .lst (cutV xs lo hi)) (λ b ob q => Heap.get?_push_of_some _ q) (Nat.le_refl _) ?_, rfl, q _ (I.hok.fresh (Nat.le_refl _))⟩
 exact ⟨Nat.le_trans (cutV_length xs lo hi) hz, _, 0, (r.drop (HT.sIx xs.length 0 lo)).take (HT.sIx xs.length xs.length hi - HT.sIx xs.length 0 lo), Heap.get?_push_size _ rfl⟩
theorem call_len_seq : CallR X (.builtin "len") (λ xs H Q => ∃ p ys, xs = [.ref p] /\ (SqL X.K H p ys ∨ SqT X.K H p ys) /\ Q (.int ys.length) H) := by
 intro pins s σ H xs us Q I r h
 obtain ⟨p, ys, rfl, hq, q⟩ := h
 obtain ⟨u, rfl, rx⟩ := vals1 r
 cases rx
 have hn := line63
 rcases hq with hq | hq
 ·obtain ⟨its, r', pl, hz⟩ := I.list hq
  have hlen := r'.length
  exact Calls.call_len_list pl.isList (by simp only [List.size_toArray] <;> omega) ⟨.int ys.length, H, I.tok _, ⟨s.toks + 1, by rw [List.size_toArray, hlen]⟩, q⟩
 ·obtain ⟨its, r', pl, hz⟩ := I.tuple hq
  have hlen := r'.length
  exact len_tuple pl (by simp only [List.size_toArray] <;> omega) ⟨.int ys.length, H, I.tok _, ⟨s.toks + 1, by rw [List.size_toArray, hlen]⟩, q⟩
def tyV (K : PySem.W.Frag) (T : String) (x : V) (H : Hp) : Prop := match x with
 | .str _ => T = "str"
 | .int _ => T = "int"
 | .ref p => (T = "list" /\ ∃ xs, SqL K H p xs) ∨ (T = "tuple" /\ ∃ o, K.lookup p = some o /\ o.cls = .type "tuple" /\ o.dict = none) ∨
   (T = "dict" /\ ((∃ kvs, H p = some (.dK kvs)) ∨ ∃ kvs, H p = some (.dT kvs))) ∨ (T = "set" /\ ∃ S n, H p = some (.set S n))
 | _ => False
theorem tyV_is {pins : List (Addr × Obj)} {σ : St} {H : Hp} {s : Shared} {T : String} {x : V} {v : Value} (I : Inv X pins σ H s) (r : RelV x v) (ty : tyV X.K T x H) :
  s.TypeIs v T /\ ∀ a, v = .ref a -> ∃ ob, s.heap.get? a = some ob /\ ob.dict = none := by
 cases x with
 | str z =>
  obtain ⟨t, rfl⟩ := r
  cases (show T = "str" from ty)
  exact ⟨typeIs_str s z t, λ _ e => nomatch e⟩
 | int i =>
  obtain ⟨t, rfl⟩ := r
  cases (show T = "int" from ty)
  exact ⟨typeIs_int s i t, λ _ e => nomatch e⟩
 | ref p =>
  cases r
  rcases ty with ⟨rfl, xs, hq⟩ | ⟨rfl, o, hk, hc, hd⟩ | ⟨rfl, hk⟩ | ⟨rfl, S, n, hk⟩
  ·obtain ⟨its, _, pl, _⟩ := I.list hq
   refine ⟨pl.isList.typeIs, λ a e => ?_⟩
   cases e
   obtain ⟨o, n, e, c, hd, _⟩ := pl
   exact ⟨o, e, hd⟩
  ·refine ⟨⟨o, I.kIn p o hk, hc⟩, λ a e => ?_⟩
   cases e
   exact ⟨o, I.kIn _ o hk, hd⟩
  ·have z : ∃ o, s.heap.get? p = some o /\ o.ExactDict := by
    rcases hk with ⟨kvs, hk⟩ | ⟨kvs, hk⟩
    ·obtain ⟨_, _, _, _, o, _, _, e, ex, _⟩ := I.hok p _ hk
     exact ⟨o, e, ex⟩
    ·obtain ⟨_, _, _, _, o, _, _, e, ex, _⟩ := I.hok p _ hk
     exact ⟨o, e, ex⟩
   obtain ⟨o, e, ex⟩ := z
   refine ⟨⟨o, e, ex.1⟩, λ a e2 => ?_⟩
   cases e2
   exact ⟨o, e, ex.2.1⟩
  ·obtain ⟨o, _, _, _, e, ex, _⟩ := I.hok p _ hk
   refine ⟨⟨o, e, ex.1⟩, λ a e2 => ?_⟩
   cases e2
   exact ⟨o, e, ex.2.1⟩
 | _ => exact False.elim ty
def tBM (K : PySem.W.Frag) (T : String) (r : V -> List V -> Hp -> VK -> Prop) (to : TE) (t : TA) : TE := λ σ H Q => to σ H λ x H1 => tyV K T x H1 /\ t σ H1 λ xs H2 => r x xs H2 Q
variable {o e : Expr} {es : List Expr} {to : TE} {t : TA} {name : Str} {apos cpos : Pos} {T id : String} {r : V -> List V -> Hp -> VK -> Prop}
theorem pe_bm (pa : PlainAttrs T) (slot : Slot T name id) (hty : typeOf (.builtin id) = pure (.type "method_descriptor")) (hm : MtR X id r) (ho : PE X o to) (ha : PA X (e :: es) t)
  (hbase : attributeBase o name X.env (eval o X.env) = eval o X.env := by rfl)
  (hfew : ((backTo cpos (starEach (e :: es) X.env)).all (λ x => !x.1) && (backToKw cpos (keywordEach [] X.env)).all (λ x => x.1.isSome)
   && decide ((e :: es).length + ([] : List Keyword).length + (if ([] : List Keyword).isEmpty then 0 else 1) < 30)) = true := by rfl)
  (hline : (apos.endLine == cpos.line) = true := by rfl) (hs : starEach (e :: es) X.env = (false, eval e X.env) :: starEach es X.env := by rfl) (hplain : (backTo cpos (starEach es X.env)).any (·.1) = false := by rfl) :
  PE X (.Call (.Attribute o name apos) (e :: es) [] cpos) (tBM X.K T r to t) := by
 intro pins s σ H Q I h
 refine wpAny_Call_method_late hbase hfew hline rfl (thn (ho pins s σ H _ I h) λ v s1 ⟨x, H1, I1, r1, ty, q1⟩ => ?_)
 obtain ⟨h1, h2⟩ := tyV_is I1 r1 ty
 refine ⟨T, id, pa, slot, hty, h1, h2, ?_⟩
 have hA := ha cpos pins s1 σ H1 _ I1 q1
 rw [hs] at hA ⊢
 refine Calls.callWith_builtin (by show (false || (backTo cpos (starEach es X.env)).any (·.1)) = false; rw [hplain] <;> rfl) (Calls.evalArgs_plain ?_)
 exact thn hA λ us s2 ⟨vs, H2, I2, r2, q2⟩ => hm pins s2 σ H2 x vs v us Q I2 r1 r2 q2
/- xs.append(e), list.index on a module's tuple .. are MtR facts of 06m -/
end
end L2
namespace L2
open PySem PySem.Spec PyProof.Rows
def MtM (X : Cx) (id : String) (r : V -> List V -> Hp -> VK -> Prop) : Prop :=
 ∀ (pins : List (Addr × Obj)) (s : Shared) (σ : St) (H : Hp) (x : V) (xs : List V) (v : Value) (us : List Value) (Q : VK), Inv X pins σ H s -> RelV x v -> Vals xs us -> r x xs H Q ->
  wpAny (model X.prog X.w) X.A (call (.builtin id) (v :: us)) (EP X pins σ Q) X.xe s
theorem Vals.one : ∀ {x : V} {us : List Value}, Vals [x] us -> ∃ u, us = [u] /\ RelV x u
 | _, _, .cons r .nil => ⟨_, rfl, r⟩
theorem Vals.eraseIdx : ∀ {xs : List V} {us : List Value} (i : Nat), Vals xs us -> Vals (xs.eraseIdx i) (us.eraseIdx i)
 | _, _, _, .nil => .nil
 | _, _, 0, .cons _ t => t
 | _, _, i + 1, .cons r t => .cons r (Vals.eraseIdx i t)
theorem Vals.rep {xs : List V} {us : List Value} (h : Vals xs us) : ∀ k : Nat, Vals (List.replicate k xs).flatten (List.replicate k us).flatten
 | 0 => .nil
 | k + 1 => by
  rw [List.replicate_succ, List.replicate_succ, List.flatten_cons, List.flatten_cons]
  exact Vals.append h (Vals.rep h k)
theorem len_erase {α : Type} : ∀ (l : List α) (i : Nat), (l.eraseIdx i).length <= l.length
 | [], _ => Nat.le_refl _
 | _ :: _, 0 => Nat.le_succ _
 | _ :: r, i + 1 => Nat.succ_le_succ (len_erase r i)
theorem foldl_rep (its : List Value) : ∀ (k : Nat) (acc : List Value),
  List.foldl (λ x1 x2 => x1 ++ x2) acc.toArray (List.replicate k its.toArray) = (acc ++ (List.replicate k its).flatten).toArray
 | 0, acc => by simp
 | k + 1, acc => by
  have e : acc.toArray ++ its.toArray = (acc ++ its).toArray := by simp
  have e2 : (acc ++ its) ++ (List.replicate k its).flatten = acc ++ (List.replicate (k + 1) its).flatten := by
   rw [List.replicate_succ, List.flatten_cons, List.append_assoc]
  rw [<- e2, <- foldl_rep its k (acc ++ its), <- e, List.replicate_succ, List.foldl_cons]
section
variable {X : Cx} {pins : List (Addr × Obj)} {σ : St} {H : Hp} {s : Shared} {l b : Addr} {xs ys zs : List V}
theorem Inv.lset {its its' : List Value} {n : Nat} {f : Array Value -> Array Value} {t' : Nat} (I : Inv X pins σ H s) (hH : H l = some (.lst xs))
  (e : s.heap.get? l = some { cls := .type "list", data := .seq its.toArray n }) (hf : f its.toArray = its'.toArray) (hv : Vals ys its') (hz : ys.length <= sizeLine) :
  Inv X pins σ (upd H l (.lst ys)) { s with heap := s.heap.update l (Obj.mapSeq f), toks := t' } := by
 have q := PySem.IsL.update e f
 rw [hf] at q
 refine I.write (x := l) (e := l) (by rw [hH]; exact trivial) (.inl rfl) (λ b' u hb hu => (Heap.get?_update_other s.heap (Obj.mapSeq f) (Ne.symm hb)).trans hu) ⟨_, q⟩ ?_
 exact ⟨hz, its', _, hv, q⟩
theorem Inv.lnew {its : List Value} {t' : Nat} (I : Inv X pins σ H s) (hv : Vals ys its) (hz : ys.length <= sizeLine) :
  Inv X pins σ (upd H s.heap.objs.size (.lst ys)) { s with heap := s.heap.push { cls := .type "list", data := .seq its.toArray }, toks := t' } :=
 I.laid (λ _ _ q => Heap.get?_push_of_some _ q) (Nat.le_refl _) ⟨hz, its, 0, hv, Heap.get?_push_size _ rfl⟩
theorem Inv.fresh (I : Inv X pins σ H s) : H s.heap.objs.size = none := I.hok.fresh (Nat.le_refl _)
theorem Inv.lstM (I : Inv X pins σ H s) (hH : H l = some (.lst xs)) : xs.length <= sizeLine /\ ∃ (its : List Value) (n : Nat), Vals xs its /\ xs.length = its.length /\ s.heap.get? l = some { cls := .type "list", data := .seq its.toArray n } := by
 obtain ⟨z, its, n, r, e⟩ := I.hok l _ hH
 exact ⟨z, its, n, r, r.length, e⟩
theorem notLongL {n : Nat} (h : n <= sizeLine) : Builtin.List.listTooLong n = false := by
 unfold Builtin.List.listTooLong
 exact decide_eq_false (by omega)
end
section
variable {X : Cx}
def rAppend : V -> List V -> Hp -> VK -> Prop := λ x vs H Q => ∃ l xs y, x = .ref l /\ vs = [y] /\ H l = some (.lst xs) /\ xs.length < sizeLine /\ Q .non (upd H l (.lst (xs ++ [y])))
theorem mt_append : MtM X "list.append" rAppend := by
 intro pins s σ H x vs v us Q I rx rv h
 obtain ⟨l, xs, y, rfl, rfl, hH, hz, q⟩ := h
 cases rx
 obtain ⟨u, rfl, ru⟩ := rv.one
 obtain ⟨z, its, n, r, hl, e⟩ := I.lstM hH
 refine call_meets F.slot_list_append ⟨_, e, rfl⟩ F.entry_list_append (F.args_list_append_2 _ _) (PySem.list_append l its.toArray n u (by rw [List.size_toArray]; omega)) ⟨e, ?_⟩
 refine ⟨.non, _, I.lset (its' := its ++ [u]) hH e (by simp) (r.append (.cons ru .nil)) ?_, rfl, q⟩
 rw [lna, List.length_singleton]
 omega
def rExtend : V -> List V -> Hp -> VK -> Prop := λ x vs H Q => ∃ l b xs zs, x = .ref l /\ vs = [.ref b] /\ H l = some (.lst xs) /\ H b = some (.lst zs) /\ xs.length + zs.length <= sizeLine /\ Q .non (upd H l (.lst (xs ++ zs)))
theorem mt_extend : MtM X "list.extend" rExtend := by
 intro pins s σ H x vs v us Q I rx rv h
 obtain ⟨l, b, xs, zs, rfl, rfl, hH, hB, hz, q⟩ := h
 cases rx
 obtain ⟨u, rfl, ru⟩ := rv.one
 cases ru
 obtain ⟨z, its, n, r, hl, e⟩ := I.lstM hH
 obtain ⟨z2, its2, n2, r2, hl2, e2⟩ := I.lstM hB
 have hsz : its.toArray.size + its2.toArray.size <= sizeLine := by rw [List.size_toArray, List.size_toArray]; omega
 have hlong : ¬ (!its.toArray.isEmpty && Builtin.List.listTooLong (its.toArray.size + its2.toArray.size)) = true := by
  rw [notLongL hsz, Bool.and_false]
  exact Bool.false_ne_true
 refine call_meets F.slot_list_extend ⟨_, e, rfl⟩ F.entry_list_extend (F.args_list_extend_2 _ _)
  (AutoSeq1.list_extend_list_list_0 l its.toArray n b its2.toArray n2 hlong (by rw [List.size_toArray]; omega) (by omega)) ⟨e, e2, ?_⟩
 refine ⟨.non, _, I.lset (its' := its ++ its2) hH e (by simp) (r.append r2) ?_, rfl, q⟩
 rw [lna]
 omega
def rPopAt : V -> List V -> Hp -> VK -> Prop := λ x vs H Q => ∃ l xs i k y, x = .ref l /\ vs = [.int i] /\ H l = some (.lst xs) /\ -(2 ^ 63) <= i /\ i < 2 ^ 63 /\ seqIndex? i xs.length = some k /\ xs[k]? = some y /\ Q y (upd H l (.lst (xs.eraseIdx k)))
theorem mt_popAt : MtM X "list.pop" rPopAt := by
 intro pins s σ H x vs v us Q I rx rv h
 obtain ⟨l, xs, i, k, y, rfl, rfl, hH, h1, h2, hk, hy, q⟩ := h
 cases rx
 obtain ⟨u, rfl, ru⟩ := rv.one
 obtain ⟨t, rfl⟩ := ru
 obtain ⟨z, its, n, r, hl, e⟩ := I.lstM hH
 obtain ⟨w, hw, rw'⟩ := r.get hy
 refine call_meets F.slot_list_pop ⟨_, e, rfl⟩ F.entry_list_pop (F.args_list_pop_2 _ _)
  (MeetsSeq.list_pop_at l its.toArray n i t k w (fitsIndex_both h1 h2) (by rw [List.size_toArray, <- hl]; exact hk) (by rw [<- Array.getElem?_toList]; exact hw) (by rw [List.size_toArray]; omega)) ⟨e, ?_⟩
 refine ⟨y, _, I.lset (its' := its.eraseIdx k) hH e ?_ (r.eraseIdx k) ?_, rw', q⟩
 ·show its.toArray.eraseIdxIfInBounds k = (its.eraseIdx k).toArray
  rw [List.eraseIdxIfInBounds_toArray]
 ·have := len_erase xs k
  omega
def rCat : R2 := λ x y H Q => ∃ l b xs zs, x = .ref l /\ y = .ref b /\ H l = some (.lst xs) /\ H b = some (.lst zs) /\ xs.length + zs.length <= sizeLine /\ ∀ p, H p = none -> Q (.ref p) (upd H p (.lst (xs ++ zs)))
theorem op_cat : OpR X (binaryOp .Add) rCat := by
 intro pins s σ H x y v u Q I rx ry h
 obtain ⟨l, b, xs, zs, rfl, rfl, hH, hB, hz, q⟩ := h
 cases rx
 cases ry
 obtain ⟨z, its, n, r, hl, e⟩ := I.lstM hH
 obtain ⟨z2, its2, n2, r2, hl2, e2⟩ := I.lstM hB
 refine PySem.P.add_list e e2 ?_ (by rw [List.size_toArray, List.size_toArray]; omega)
 have ea : its.toArray ++ its2.toArray = (its ++ its2).toArray := by simp
 rw [ea]
 exact ⟨.ref _, _, I.lnew (t' := s.toks) (r.append r2) (by rw [lna]; omega), rfl, q _ I.fresh⟩
def rRep : R2 := λ x y H Q => ∃ l k xs, x = .ref l /\ y = .int k /\ H l = some (.lst xs) /\ -(2 ^ 63) <= k /\ k < 2 ^ 63 /\ xs.length * k.toNat <= sizeLine /\
 ∀ p, H p = none -> Q (.ref p) (upd H p (.lst (List.replicate k.toNat xs).flatten))
theorem len_rep {α : Type} (xs : List α) (k : Nat) : (List.replicate k xs).flatten.length = k * xs.length := by
 induction k with
 | zero => simp
 | succ k ih => rw [List.replicate_succ, List.flatten_cons, lna, ih, Nat.succ_mul, Nat.add_comm]
theorem op_rep : OpR X (binaryOp .Mult) rRep := by
 intro pins s σ H x y v u Q I rx ry h
 obtain ⟨l, k, xs, rfl, rfl, hH, h1, h2, hz, q⟩ := h
 cases rx
 obtain ⟨t, rfl⟩ := ry
 obtain ⟨z, its, n, r, hl, e⟩ := I.lstM hH
 have hlen : its.toArray.size * k.toNat <= sizeLine := by rw [List.size_toArray, <- hl]; exact hz
 have hcap : ¬ its.toArray.size * k.toNat > (2 ^ 63 - 1) / 8 := by
  have : (sizeLine : Nat) <= (2 ^ 63 - 1) / 8 := by decide
  omega
 have hfit : ¬ (!Builtin.List.listFitsIndex k) = true := by
  rw [fitsIndex_both h1 h2]
  exact Bool.false_ne_true
 have hlong : ¬ Builtin.List.listTooLong (its.toArray.size * k.toNat) = true := by
  rw [notLongL hlen]
  exact Bool.false_ne_true
 have hnew : List.foldl (λ x1 x2 => x1 ++ x2) #[] (List.replicate (if its.toArray.isEmpty = true then 0 else k.toNat) its.toArray) = (List.replicate k.toNat its).flatten.toArray := by
  have f0 : ∀ m : Nat, List.foldl (λ x1 x2 => x1 ++ x2) #[] (List.replicate m its.toArray) = (List.replicate m its).flatten.toArray := λ m => by
   have := foldl_rep its m []
   rw [List.nil_append] at this
   exact this
  rw [f0]
  cases its with
  | nil => simp
  | cons a r' => rw [if_neg (by simp)]
 refine wpAny_binaryOp_repeat_ref (T := "list") (U := "int") (by decide) ⟨_, e, rfl⟩ (λ s' => typeIs_int s' k t) noFill_list_mul F.fills_int_mul F.slot_int_rmul repeat_list F.slot_int_index.lookup
  (call_meets F.slot_int_rmul (typeIs_int s k t) F.entry_int_rmul (F.args_int_rmul_2 _ _) (int___rmul___int_list k t l its.toArray n)
   ⟨e, rfl, ⟨_, e, rfl⟩, call_meets F.slot_list_mul ⟨_, e, rfl⟩ F.entry_list_mul (F.args_list_mul_2 _ _) (AutoListH.list___mul___list_int_3 l its.toArray n k t hfit hcap hlong) ⟨e, ?_⟩⟩)
 rw [hnew]
 exact ⟨.ref _, _, I.lnew (t' := s.toks) (r.rep k.toNat) (by rw [len_rep, Nat.mul_comm]; exact hz), rfl, q _ I.fresh⟩
end
end L2
namespace L2
open PySem PySem.Spec PyProof.Rows
theorem Vals.ints : ∀ {ns : List Int} {us : List Value}, Vals (ns.map V.int) us -> IntsAre us ns
 | [], us, h => by
  rw [List.map_nil] at h
  cases h
  exact IntsAre.nil
 | n :: ns, us, h => by
  rw [List.map_cons] at h
  cases h with
  | cons r t =>
   obtain ⟨k, rfl⟩ := r
   exact IntsAre.cons n k (Vals.ints t)
theorem vals_of_ints : ∀ {us : List Value} {ns : List Int}, IntsAre us ns -> Vals (ns.map V.int) us
 | _, _, .nil => by rw [List.map_nil]; exact Paired.nil
 | _, _, .cons n t h => by rw [List.map_cons]; exact Paired.cons (show RelV (V.int n) (Value.int n t) from ⟨t, rfl⟩) (vals_of_ints h)
theorem Vals.bls : ∀ {bs : List Bool} {us : List Value}, Vals (bs.map V.bl) us -> us = bs.map Value.bool
 | [], us, h => by
  rw [List.map_nil] at h
  cases h
  rfl
 | b :: bs, us, h => by
  rw [List.map_cons] at h
  cases h with
  | cons r t =>
   cases r
   rw [Vals.bls t, List.map_cons]
theorem Vals.ref1 {a : Addr} {us : List Value} (r : Vals [V.ref a] us) : us = [Value.ref a] := by
 cases r with
 | cons r t =>
  cases t
  cases r
  rfl
section
variable {prog : Program} {w : World} {A : Around} {E : Value -> Shared -> Prop} {s : Shared} {l : Addr} {its : List Value} {ns : List Int} {Q : Value -> Shared -> Prop}
theorem sum_raw (hh : A.handled = none) (hl : s.heap.IsList l its.toArray) (hi : IntsAre its ns)
  (h : ∀ h' tk t', (∀ b o, s.heap.get? b = some o -> h'.get? b = some o) -> Q (.int ns.sum t') { s with heap := h', toks := tk }) : wpAny (model prog w) A (call (.builtin "sum") [.ref l]) Q E s := by
 obtain ⟨xs, e⟩ := hi.allInts.items
 have hn : numsOf (intItems xs).toList = ns := by rw [<- e]; exact hi.numsOf
 rw [nums_intItems] at hn
 rw [e] at hl
 refine PySem.sum_intListG hh hl λ h' tk t' hk => ?_
 have := h h' tk t' hk
 rw [preSum_eq, List.take_of_length_le (by simp), hn]; exact this
theorem max_raw (hh : A.handled = none) (hl : s.heap.IsList l its.toArray) (hi : IntsAre its ns) (hne : 0 < ns.length)
  (h : ∀ h' tk M t', (∀ b o, s.heap.get? b = some o -> h'.get? b = some o) -> M ∈ ns -> (∀ a, a ∈ ns -> a <= M) -> Q (.int M t') { s with heap := h', toks := tk }) : wpAny (model prog w) A (call (.builtin "max") [.ref l]) Q E s := by
 obtain ⟨xs, e⟩ := hi.allInts.items
 have hn : numsOf (intItems xs).toList = ns := by rw [<- e]; exact hi.numsOf
 rw [nums_intItems] at hn
 subst hn
 rw [e] at hl
 have hsz : 0 < xs.size := by simpa using hne
 refine PySem.max_intList hh hl hsz λ v h' tk hv hk => ?_
 obtain ⟨t, rfl⟩ := intItems_at hv
 obtain ⟨h1, h2⟩ := argBest_gt (numAt xs) (xs.size - 1)
 refine h h' tk _ t hk ?_ λ a ha => ?_
 ·rw [numAt_eq]; exact PySem.getD_mem (by rw [lnm, Array.length_toList]; omega)
 ·obtain ⟨j, hj, rfl⟩ := mem_getD ha
  rw [lnm, Array.length_toList] at hj
  rw [<- numAt_eq]; exact h2 j (by omega)
theorem min_raw (hh : A.handled = none) (hl : s.heap.IsList l its.toArray) (hi : IntsAre its ns) (hne : 0 < ns.length)
  (h : ∀ h' tk M t', (∀ b o, s.heap.get? b = some o -> h'.get? b = some o) -> M ∈ ns -> (∀ a, a ∈ ns -> M <= a) -> Q (.int M t') { s with heap := h', toks := tk }) : wpAny (model prog w) A (call (.builtin "min") [.ref l]) Q E s := by
 obtain ⟨xs, e⟩ := hi.allInts.items
 have hn : numsOf (intItems xs).toList = ns := by rw [<- e]; exact hi.numsOf
 rw [nums_intItems] at hn
 subst hn
 rw [e] at hl
 have hsz : 0 < xs.size := by simpa using hne
 refine PySem.min_intList hh hl hsz λ v h' tk hv hk => ?_
 obtain ⟨t, rfl⟩ := intItems_at hv
 obtain ⟨h1, h2⟩ := argBest_lt (numAt xs) (xs.size - 1)
 refine h h' tk _ t hk ?_ λ a ha => ?_
 ·rw [numAt_eq]; exact PySem.getD_mem (by rw [lnm, Array.length_toList]; omega)
 ·obtain ⟨j, hj, rfl⟩ := mem_getD ha
  rw [lnm, Array.length_toList] at hj
  rw [<- numAt_eq]; exact h2 j (by omega)
end
section
variable {X : Cx}
def rSum (K : PySem.W.Frag) : List V -> Hp -> VK -> Prop := λ vs H Q => ∃ (a : Addr) (ns : List Int), vs = [V.ref a] /\ SqL K H a (ns.map V.int) /\ Q (.int ns.sum) H
def rMax (K : PySem.W.Frag) : List V -> Hp -> VK -> Prop := λ vs H Q => ∃ (a : Addr) (ns : List Int), vs = [V.ref a] /\ SqL K H a (ns.map V.int) /\ 0 < ns.length /\ ∀ m, m ∈ ns -> (∀ y, y ∈ ns -> y <= m) -> Q (.int m) H
def rMin (K : PySem.W.Frag) : List V -> Hp -> VK -> Prop := λ vs H Q => ∃ (a : Addr) (ns : List Int), vs = [V.ref a] /\ SqL K H a (ns.map V.int) /\ 0 < ns.length /\ ∀ m, m ∈ ns -> (∀ y, y ∈ ns -> m <= y) -> Q (.int m) H
theorem cr_sum (hc : X.calm = true) : CallR X (.builtin "sum") (rSum X.K) := by
 intro pins s σ H vs us Q I r h
 obtain ⟨a, ns, rfl, hs, q⟩ := h
 obtain ⟨its, rv, hl, _⟩ := I.list hs
 rw [Vals.ref1 r]
 exact sum_raw (I.ok.hd hc) hl.isList rv.ints λ h' tk t' hk => ⟨.int _, H, I.kept hk, ⟨_, rfl⟩, q⟩
theorem cr_max (hc : X.calm = true) : CallR X (.builtin "max") (rMax X.K) := by
 intro pins s σ H vs us Q I r h
 obtain ⟨a, ns, rfl, hs, hne, q⟩ := h
 obtain ⟨its, rv, hl, _⟩ := I.list hs
 rw [Vals.ref1 r]
 exact max_raw (I.ok.hd hc) hl.isList rv.ints hne λ h' tk m t' hk h1 h2 => ⟨.int _, H, I.kept hk, ⟨_, rfl⟩, q m h1 h2⟩
theorem cr_min (hc : X.calm = true) : CallR X (.builtin "min") (rMin X.K) := by
 intro pins s σ H vs us Q I r h
 obtain ⟨a, ns, rfl, hs, hne, q⟩ := h
 obtain ⟨its, rv, hl, _⟩ := I.list hs
 rw [Vals.ref1 r]
 exact min_raw (I.ok.hd hc) hl.isList rv.ints hne λ h' tk m t' hk h1 h2 => ⟨.int _, H, I.kept hk, ⟨_, rfl⟩, q m h1 h2⟩
theorem small64 {n : Nat} (h : n < 64) : n <= sizeLine := by rw [sizeLine_eq]; omega
end
theorem iter_any {prog : Program} {w : World} {A : Around} {E : Value -> Shared -> Prop} {s : Shared} {l : Addr} {items : Array Value} {Q : Value -> Shared -> Prop} (hl : s.heap.IsList l items)
  (h : ∀ s₂ : Shared, s₂ = { s with heap := s.heap.push { cls := .type "list_iterator", data := .fields #[.ref l, .int 0 0] } } ->
   (s₂.heap.IsListIter s.heap.objs.size l 0 /\ s₂.heap.IsList l items) -> l ≠ s.heap.objs.size -> Q (.ref s.heap.objs.size) s₂) : wpAny (model prog w) A (pyIter (.ref l)) Q E s := by
 have hlt : l < s.heap.objs.size := by obtain ⟨_, e, _⟩ := hl; exact Heap.lt_size e
 exact wpAny_pyIter_list hl (h _ rfl ⟨⟨_, Heap.get?_push_size _ rfl, rfl, rfl⟩, hl.push _⟩ (Nat.ne_of_lt hlt))
theorem truth_bools {prog : Program} {w : World} {A : Around} {bs : List Bool} {its : List Value} (e : its = bs.map Value.bool) :
  TruthOf prog w A (λ i v => its.toArray[i]? = some v) (λ i => bs.getD i false) := λ i v s Q E hv hq => by
 have hv' : its[i]? = some v := by simpa using hv
 rw [e, gem] at hv'
 obtain ⟨b, hb, rfl⟩ := Option.map_eq_some_iff.mp hv'
 have hg : bs.getD i false = b := by rw [List.getD_eq_getElem?_getD, hb] <;> rfl
 have hq' : Q (bs.getD i false) s := hq
 rw [hg] at hq'
 exact wpAny_truthy_bool hq'
theorem all_range : ∀ bs : List Bool, (List.range bs.length).all (λ i => bs.getD i false) = bs.all id
 | [] => rfl
 | b :: bs => by
  rw [lnc, List.range_succ_eq_map, List.all_cons, List.all_map, List.all_cons, <- all_range bs]
  all_goals rfl
section
variable {X : Cx}
def rAll (K : PySem.W.Frag) : List V -> Hp -> VK -> Prop := λ vs H Q => ∃ (a : Addr) (bs : List Bool), vs = [V.ref a] /\ SqL K H a (bs.map V.bl) /\ Q (.bl (bs.all id)) H
theorem cr_all (hc : X.calm = true) : CallR X (.builtin "all") (rAll X.K) := by
 intro pins s σ H vs us Q I r h
 obtain ⟨a, bs, rfl, hs, q⟩ := h
 obtain ⟨its, rv, hl, _⟩ := I.list hs
 rw [Vals.ref1 r]
 have hb := rv.bls
 refine call_all_walk (iter_any hl.isList λ s₂ e2 st hne => ?_)
 subst e2
 refine ⟨_, _, _, _, _, _, _, rfl, Walks.list (A := X.A.in1) (I.ok.hd hc) _ a hne its.toArray, st, truth_bools hb, λ h' tk hk => ?_⟩
 refine ⟨.bl _, H, I.kept λ b o eo => hk b o (λ hmem => ?_) (Heap.get?_push_of_some _ eo), ?_, q⟩
 ·rcases List.mem_cons.mp hmem with e1 | hmem
  ·exact absurd (e1 ▸ Heap.lt_size eo) (Nat.lt_irrefl _)
  ·cases hmem
 ·show Value.bool _ = Value.bool _
  rw [<- all_range, hb, List.size_toArray, lnm]
end
mutual
inductive Dp (K : PySem.W.Frag) (H : Hp) : V -> PyData -> Prop
 | non : Dp K H .non .none
 | bl (b : Bool) : Dp K H (.bl b) (.bool b)
 | int (i : Int) : Dp K H (.int i) (.int i)
 | tok (i : Int) : Dp K H (.tok i) (.int i)
 | str (x : Str) : Dp K H (.str x) (.str x)
 | lst {a : Addr} {xs : List V} {ds : List PyData} : SqL K H a xs -> DpAll K H xs ds -> Dp K H (.ref a) (.list ds)
 | tup {a : Addr} {xs : List V} {ds : List PyData} : SqT K H a xs -> DpAll K H xs ds -> Dp K H (.ref a) (.tuple ds)
inductive DpAll (K : PySem.W.Frag) (H : Hp) : List V -> List PyData -> Prop
 | nil : DpAll K H [] []
 | cons {v : V} {vs : List V} {d : PyData} {ds : List PyData} : Dp K H v d -> DpAll K H vs ds -> DpAll K H (v :: vs) (d :: ds)
end
section
variable {X : Cx} {pins : List (Addr × Obj)} {σ : St} {H : Hp} {s : Shared}
mutual
theorem Dp.reads (I : Inv X pins σ H s) : ∀ (d : PyData) (v : V) (u : Value), Dp X.K H v d -> RelV v u -> ∃ as, Reads s.heap u d as
 | .none, _, _, h, r => by
  cases h
  cases r
  exact ⟨_, Reads.none⟩
 | .bool b, _, _, h, r => by
  cases h
  cases r
  exact ⟨_, Reads.bool b⟩
 | .int i, _, _, h, r => by
  cases h with
  | int => obtain ⟨t, rfl⟩ := r; exact ⟨_, Reads.int i t⟩
  | tok => obtain ⟨t, _, rfl⟩ := r; exact ⟨_, Reads.int i t⟩
 | .str x, _, _, h, r => by
  cases h
  obtain ⟨t, rfl⟩ := r
  exact ⟨_, Reads.str x t⟩
 | .list ds, _, _, h, r => by
  cases h with
  | lst hs ha =>
   cases r
   obtain ⟨its, rv, ⟨o, n, ho, hc, _, hd⟩, _⟩ := I.list hs
   obtain ⟨as, hr⟩ := Dp.readsAll I ds _ its ha rv
   exact ⟨_, Reads.list ho hc hd hr⟩
 | .tuple ds, _, _, h, r => by
  cases h with
  | tup hs ha =>
   cases r
   obtain ⟨its, rv, ⟨o, ho, hc, n, hd⟩, _⟩ := I.tuple hs
   obtain ⟨as, hr⟩ := Dp.readsAll I ds _ its ha rv
   exact ⟨_, Reads.tuple ho hc hd hr⟩
 | .dict _, _, _, h, _ => by cases h
theorem Dp.readsAll (I : Inv X pins σ H s) : ∀ (ds : List PyData) (vs : List V) (us : List Value), DpAll X.K H vs ds -> Vals vs us -> ∃ as, ReadsAll s.heap us ds as
 | [], _, _, h, r => by
  cases h
  cases r
  exact ⟨_, ReadsAll.nil⟩
 | d :: ds, _, _, h, r => by
  cases h with
  | cons h1 h2 =>
   cases r with
   | cons r1 r2 =>
    obtain ⟨as, q1⟩ := Dp.reads I d _ _ h1 r1
    obtain ⟨bs, q2⟩ := Dp.readsAll I ds _ _ h2 r2
    exact ⟨_, ReadsAll.cons q1 q2⟩
end
end
section
variable {X : Cx}
def rNeD (K : PySem.W.Frag) : R2 := λ x y H Q => ∃ d e, Dp K H x d /\ Dp K H y e /\ SeqAt.shaped d = true /\ SeqAt.shaped e = true /\ Q (.bl (!PyData.eqv d e)) H
theorem op_neD (hu : X.A.units + 64 < cLine) : OpR X (compareOp .NotEq) (rNeD X.K) := by
 intro pins s σ H x y v u Q I rx ry h
 obtain ⟨d, e, hd, he, sd, se, q⟩ := h
 obtain ⟨as, r1⟩ := Dp.reads I d x v hd rx
 obtain ⟨bs, r2⟩ := Dp.reads I e y u he ry
 exact SeqAt.compareNe_shaped r1 r2 sd se hu ⟨.bl _, H, I, rfl, q⟩
end
end L2
namespace L2
open PySem PySem.Spec PyProof.Rows
abbrev CellAt (h : Heap) (c : Addr) (v : Option Value) : Prop := h.IsCell c v
def relS (scope sc : Scope) : Scope :=
 { scope with names := scope.names.map λ (n, k) => if (k == .free && sc.kind == .function && sc.names.lookup n == some .cell) then (n, .cell) else (n, k) }
def cloFrom (cells : List (Str × Addr)) : List (Str × NameKind) -> List (Str × Addr) -> List (Str × Addr)
 | [], acc => acc
 | (n, k) :: r, acc => if k == .free then cloFrom cells r ((n, (cells.lookup n).getD 0) :: acc) else cloFrom cells r acc
theorem closure_loop (env : Env) (f : Str × NameKind -> List (Str × Addr) -> Sem (ForInStep (List (Str × Addr))))
  (hf : ∀ n k c, f (n, k) c = if k == .free then (do let a <- cellOf env n; pure (.yield ((n, a) :: c))) else pure (.yield c)) :
  ∀ (names : List (Str × NameKind)) (acc : List (Str × Addr)), (∀ y ∈ names, y.2 = .free -> ∃ c, env.cells.lookup y.1 = some c) -> forIn names acc f = pure (cloFrom env.cells names acc)
 | [], acc, _ => by rw [List.forIn_nil]; rfl
 | (n, k) :: r, acc, h => by
  rw [List.forIn_cons, hf]
  have ih := λ acc => closure_loop env f hf r acc λ y hy => h y (List.mem_cons_of_mem _ hy)
  unfold cloFrom
  by_cases hk : (k == NameKind.free) = true
  ·rw [if_pos hk, if_pos hk]
   obtain ⟨c, hc⟩ := h (n, k) List.mem_cons_self (by simpa using hk)
   have e : cellOf env n = pure c := by unfold cellOf; rw [hc]
   rw [e]
   have e2 : (env.cells.lookup n).getD 0 = c := by rw [hc]; rfl
   rw [e2]
   exact ih _
  ·rw [if_neg hk, if_neg hk]
   exact ih _
theorem closure_ok {scope : Scope} {env : Env} (h : ∀ y ∈ scope.names, y.2 = .free -> ∃ c, env.cells.lookup y.1 = some c) : closureFor scope env = pure (cloFrom env.cells scope.names []) := by
 simp only [closureFor]
 rw [closure_loop env _ (λ n k c => rfl) scope.names [] h]
 rfl
theorem mem_lookup {α : Type} : ∀ {l : List (Str × α)} {n : Str} {c : α}, (n, c) ∈ l -> ∃ c', l.lookup n = some c'
 | (k, v) :: r, n, c, h => by
  rw [List.lookup_cons]
  cases hb : n == k with
  | true => exact ⟨_, rfl⟩
  | false =>
   rcases List.mem_cons.mp h with e | h
   ·cases e; simp at hb
   ·exact mem_lookup h
theorem cloFrom_mem {cells : List (Str × Addr)} : ∀ {names : List (Str × NameKind)} {acc : List (Str × Addr)} {n : Str} {c : Addr}, (n, c) ∈ cloFrom cells names acc -> (n, c) ∈ acc ∨ ((n, .free) ∈ names /\ c = (cells.lookup n).getD 0)
 | [], _, _, _, h => .inl h
 | (m, k) :: r, acc, n, c, h => by
  unfold cloFrom at h
  split at h
  ·rename_i hk
   have hk : k = .free := by simpa using hk
   rcases cloFrom_mem h with h | ⟨h1, h2⟩
   ·rcases List.mem_cons.mp h with e | h
    ·cases e; exact .inr ⟨hk ▸ List.mem_cons_self, rfl⟩
    ·exact .inl h
   ·exact .inr ⟨List.mem_cons_of_mem _ h1, h2⟩
  ·rcases cloFrom_mem h with h | ⟨h1, h2⟩
   ·exact .inl h
   ·exact .inr ⟨List.mem_cons_of_mem _ h1, h2⟩
theorem cloFrom_acc {cells : List (Str × Addr)} : ∀ {names : List (Str × NameKind)} {acc : List (Str × Addr)} {p : Str × Addr}, p ∈ acc -> p ∈ cloFrom cells names acc
 | [], _, _, h => h
 | (m, k) :: r, acc, p, h => by
  unfold cloFrom
  split
  ·exact cloFrom_acc (List.mem_cons_of_mem _ h)
  ·exact cloFrom_acc h
theorem cloFrom_has {cells : List (Str × Addr)} : ∀ {names : List (Str × NameKind)} {acc : List (Str × Addr)} {n : Str}, (n, .free) ∈ names -> (n, (cells.lookup n).getD 0) ∈ cloFrom cells names acc
 | (m, k) :: r, acc, n, h => by
  unfold cloFrom
  rcases List.mem_cons.mp h with e | h
  ·cases e
   exact cloFrom_acc List.mem_cons_self
  ·split
   ·exact cloFrom_has h
   ·exact cloFrom_has h
theorem cells_mem : ∀ {names : List (Str × NameKind)} {h : Heap} {acc : List (Str × Addr)} {x : Str} {c : Addr}, (x, c) ∈ cellsFrom h.objs.size names acc ->
  (x, c) ∈ acc ∨ ((x, .cell) ∈ names /\ h.objs.size <= c /\ CellAt (pushCells h names) c none)
 | [], _, _, _, _, h => .inl h
 | (n, k) :: r, h, acc, x, c, hm => by
  unfold cellsFrom at hm
  unfold pushCells
  split at hm
  ·rename_i hk
   rw [if_pos hk]
   have hk : k = .cell := by simpa using hk
   rw [<- Heap.size_push h { cls := .type "cell", data := .cell none }] at hm
   rcases cells_mem hm with hm | ⟨h1, h2, h3⟩
   ·rcases List.mem_cons.mp hm with e | hm
    ·cases e
     exact .inr ⟨hk ▸ List.mem_cons_self, Nat.le_refl _, _, pushCells_keeps r _ _ _ (Heap.get?_push_size _ rfl), rfl⟩
    ·exact .inl hm
   ·rw [Heap.size_push] at h2
    exact .inr ⟨List.mem_cons_of_mem _ h1, Nat.le_of_succ_le h2, h3⟩
  ·rename_i hk
   rw [if_neg hk]
   rcases cells_mem hm with hm | ⟨h1, h2, h3⟩
   ·exact .inl hm
   ·exact .inr ⟨List.mem_cons_of_mem _ h1, h2, h3⟩
theorem cells_acc : ∀ {names : List (Str × NameKind)} {n : Nat} {acc : List (Str × Addr)} {p : Str × Addr}, p ∈ acc -> p ∈ cellsFrom n names acc
 | [], _, _, _, h => h
 | (m, k) :: r, n, acc, p, h => by
  unfold cellsFrom
  split
  ·exact cells_acc (List.mem_cons_of_mem _ h)
  ·exact cells_acc h
theorem cells_has : ∀ {names : List (Str × NameKind)} {n : Nat} {acc : List (Str × Addr)} {x : Str}, (x, .cell) ∈ names -> ∃ c, (x, c) ∈ cellsFrom n names acc
 | (m, k) :: r, n, acc, x, h => by
  unfold cellsFrom
  rcases List.mem_cons.mp h with e | h
  ·cases e
   exact ⟨n, cells_acc List.mem_cons_self⟩
  ·split
   ·exact cells_has h
   ·exact cells_has h
theorem cells_inj : ∀ {names : List (Str × NameKind)} {h : Heap} {acc : List (Str × Addr)} {x y : Str} {c : Addr}, (∀ p ∈ acc, p.2 < h.objs.size) -> (∀ x y c, (x, c) ∈ acc -> (y, c) ∈ acc -> x = y) ->
  (x, c) ∈ cellsFrom h.objs.size names acc -> (y, c) ∈ cellsFrom h.objs.size names acc -> x = y
 | [], _, _, _, _, _, _, hi, h1, h2 => hi _ _ _ h1 h2
 | (n, k) :: r, h, acc, x, y, c, hl, hi, h1, h2 => by
  unfold cellsFrom at h1 h2
  split at h1
  ·rename_i hk
   rw [if_pos hk] at h2
   rw [<- Heap.size_push h { cls := .type "cell", data := .cell none }] at h1 h2
   refine cells_inj (h := h.push _) (λ p hp => ?_) (λ x y c a b => ?_) h1 h2
   ·rw [Heap.size_push]
    rcases List.mem_cons.mp hp with rfl | hp
    ·exact Nat.lt_succ_self _
    ·exact Nat.lt_succ_of_lt (hl p hp)
   ·rcases List.mem_cons.mp a with e | a <;> rcases List.mem_cons.mp b with e' | b
    ·cases e; cases e'; rfl
    ·cases e; exact absurd (hl _ b) (Nat.lt_irrefl _)
    ·cases e'; exact absurd (hl _ a) (Nat.lt_irrefl _)
    ·exact hi _ _ _ a b
  ·rename_i hk
   rw [if_neg hk] at h2
   exact cells_inj hl hi h1 h2
theorem newEnv_comp {M : Model} {A : Around} {E : Value -> Shared -> Prop} {s : Shared} {scope : Scope} {globals : Addr} {closure : List (Str × Addr)} {qual : Str} {func : Option Addr} {code : Value} {around : Env} {builtins : Addr} {Q : Env -> Shared -> Prop}
  (h : Q (newEnv scope s.heap.objs.size globals (cellsFrom (s.heap.objs.size + 1) scope.names closure) qual func code (some around) builtins)
   { s with heap := pushCells (s.heap.push { cls := .type "dict", data := .dict #[] }) scope.names }) :
  wpAny M A (newFunctionEnv scope globals closure [] qual func code (some around) builtins) Q E s := by
 simp only [newFunctionEnv, Option.isSome_some, if_true]
 refine wpAny_bind (wpAny_alloc ?_)
 refine wpAny_bind (wpAny_layCells _ (λ n k c => rfl) scope.names closure _ _ ?_)
 rw [show ({ s with heap := s.heap.push { cls := .type "dict", data := .dict #[] } } : Shared).heap.objs.size = s.heap.objs.size + 1 from Heap.size_push ..]
 rw [List.forIn_nil]
 exact wpAny_bind (wpAny_pure (wpAny_pure h))
theorem lookup_relS {sc : Scope} : ∀ {names : List (Str × NameKind)} {x : Str} {k : NameKind},
  (names.map λ (n, k) => if (k == NameKind.free && sc.kind == .function && sc.names.lookup n == some .cell) then (n, NameKind.cell) else (n, k)).lookup x = some k ->
  ∃ k', names.lookup x = some k' /\ (k = k' ∨ (k' = .free /\ k = .cell))
 | [], _, _, h => by simp at h
 | (n, k₀) :: r, x, k, h => by
  have ih := @lookup_relS sc r x k
  have h' : List.lookup x ((if (k₀ == NameKind.free && sc.kind == .function && sc.names.lookup n == some .cell) = true then (n, NameKind.cell) else (n, k₀)) :: (r.map _)) = some k := h
  cases hx : x == n with
  | true =>
   simp only [List.lookup_cons, hx]
   by_cases hc : (k₀ == NameKind.free && sc.kind == .function && sc.names.lookup n == some .cell) = true
   ·rw [if_pos hc] at h'
    simp only [List.lookup_cons, hx] at h'
    cases h'
    simp only [Bool.and_eq_true, beq_iff_eq] at hc
    exact ⟨k₀, rfl, .inr ⟨hc.1.1, rfl⟩⟩
   ·rw [if_neg hc] at h'
    simp only [List.lookup_cons, hx] at h'
    cases h'
    exact ⟨_, rfl, .inl rfl⟩
  | false =>
   simp only [List.lookup_cons, hx]
   by_cases hc : (k₀ == NameKind.free && sc.kind == .function && sc.names.lookup n == some .cell) = true
   ·rw [if_pos hc] at h'
    simp only [List.lookup_cons, hx] at h'
    exact ih h'
   ·rw [if_neg hc] at h'
    simp only [List.lookup_cons, hx] at h'
    exact ih h'
structure BlkOk (N : List Str) (sc scope : Scope) (own : List (Str × Nat)) : Prop where
 kind : scope.kind = .function
 uniq : ∀ y ∈ scope.names, scope.names.lookup y.1 = some y.2
 ix : ∀ p ∈ own, N[p.2]? = some p.1
 free : ∀ y ∈ scope.names, y.2 = .free -> sc.names.lookup y.1 = some .cell ∨ sc.names.lookup y.1 = some .free
 own : ∀ y ∈ scope.names, y.2 = .local ∨ y.2 = .cell -> y.1 ∈ own.map (·.1) ∨ y.1 ∉ N
def wipe (σ : St) : List Nat -> St
 | [] => σ
 | v :: vs => (wipe σ vs).set v none
theorem wipe_length (σ : St) : ∀ vs : List Nat, (wipe σ vs).length = σ.length
 | [] => rfl
 | v :: vs => by unfold wipe; rw [List.length_set, wipe_length σ vs]
theorem wipe_some {σ : St} {i : Nat} {x : V} : ∀ {vs : List Nat}, (wipe σ vs)[i]? = some (some x) -> σ[i]? = some (some x) /\ i ∉ vs
 | [], h => ⟨h, by simp⟩
 | v :: vs, h => by
  unfold wipe at h
  by_cases hi : v = i
  ·subst hi
   by_cases hv : v < (wipe σ vs).length
   ·rw [List.getElem?_set_self hv] at h; cases h
   ·rw [List.getElem?_eq_none (by simpa using hv)] at h; cases h
  ·rw [List.getElem?_set_ne hi] at h
   obtain ⟨h1, h2⟩ := wipe_some h
   exact ⟨h1, by simp only [List.mem_cons, not_or]; exact ⟨λ e => hi e.symm, h2⟩⟩
abbrev Cx.blk (X : Cx) (s : Shared) (H : Hp) (scope : Scope) (cenv : Env) (fp : List Addr) : Cx := { X with s_0 := s, H_0 := H, env := cenv, outer := X.stack, ex := fp, fn := λ x => scope.names.lookup x == some .cell, pn := [], xe := λ _ _ => False }
section
variable {X : Cx} {pins : List (Addr × Obj)} {σ : St} {H : Hp} {s : Shared}
theorem block_start {scope : Scope} {own : List (Str × Nat)} {fp : List Addr} (I : Inv X pins σ H s) (ok : BlkOk X.N X.env.scope scope own) (hN : X.N.Nodup) (hfp : ∀ b ∈ fp, FpOk X pins H b /\ b < s.heap.objs.size) :
  Inv (X.blk s H scope (compEnvC scope (cellsFrom (s.heap.objs.size + 1) scope.names (cloFrom X.env.cells scope.names [])) s.heap.objs.size X.env) fp) [] (wipe σ (own.map (·.2))) H { s with heap := pushCells (s.heap.push { cls := .type "dict", data := .dict #[] }) scope.names } := by
 have hfree : ∀ y ∈ scope.names, y.2 = .free -> ∃ c, X.env.cells.lookup y.1 = some c := λ y hy e => by
  rcases ok.free y hy e with k | k
  ·exact I.ok.has _ (.inl k)
  ·exact I.ok.has _ (.inr k)
 generalize hcenv : compEnvC scope (cellsFrom (s.heap.objs.size + 1) scope.names (cloFrom X.env.cells scope.names [])) s.heap.objs.size X.env = cenv
 have kp : ∀ b o, s.heap.get? b = some o -> (pushCells (s.heap.push { cls := .type "dict", data := .dict #[] }) scope.names).get? b = some o := λ b o e => pushCells_keeps _ _ _ _ (Heap.get?_push_of_some _ e)
 have hL : cenv.locals = s.heap.objs.size := by rw [<- hcenv]; rfl
 have hcl : cenv.cells = cellsFrom (s.heap.objs.size + 1) scope.names (cloFrom X.env.cells scope.names []) := by rw [<- hcenv]; rfl
 have hsc : cenv.scope = relS scope X.env.scope := by rw [<- hcenv]; rfl
 rw [<- Heap.size_push s.heap { cls := .type "dict", data := .dict #[] }] at hcl
 have cm : ∀ {y c}, (y, c) ∈ cloFrom X.env.cells scope.names [] -> X.env.cells.lookup y = some c /\ c < s.heap.objs.size := λ {y c} hm => by
  rcases cloFrom_mem hm with hm | ⟨h1, rfl⟩
  ·cases hm
  ·obtain ⟨c, hc⟩ := hfree _ h1 rfl
   rw [hc]
   obtain ⟨w, z⟩ := I.cell _ _ hc
   exact ⟨rfl, z.lt⟩
 have mem : ∀ {y c}, cenv.cells.lookup y = some c -> (X.env.cells.lookup y = some c /\ c < s.heap.objs.size) ∨ (s.heap.objs.size + 1 <= c /\ CellAt (pushCells (s.heap.push { cls := .type "dict", data := .dict #[] }) scope.names) c none) := λ {y c} e => by
  rw [hcl] at e
  rcases cells_mem (PySem.mem_of_lookup e) with hm | ⟨_, h2, h3⟩
  ·exact .inl (cm hm)
  ·rw [Heap.size_push] at h2; exact .inr ⟨h2, h3⟩
 have look : ∀ {y}, scope.names.lookup y = some .free -> ∃ c, cenv.cells.lookup y = some c /\ X.env.cells.lookup y = some c := λ {y} hl => by
  have hy : (y, NameKind.free) ∈ scope.names := PySem.mem_of_lookup hl
  obtain ⟨c', e'⟩ := mem_lookup (cells_acc (names := scope.names) (n := (s.heap.push { cls := .type "dict", data := .dict #[] }).objs.size) (cloFrom_has (cells := X.env.cells) (acc := []) hy))
  rw [<- hcl] at e'
  refine ⟨c', e', ?_⟩
  rw [hcl] at e'
  rcases cells_mem (PySem.mem_of_lookup e') with hm | ⟨h1, _, _⟩
  ·exact (cm hm).1
  ·have := ok.uniq _ h1
   rw [hl] at this; cases this
 have okB : (X.blk s H scope cenv fp).Ok := by
  refine ⟨I.ok.mod, by show cenv.scope.kind = _; rw [hsc]; exact ok.kind, by show cenv.globals = _; rw [<- hcenv]; exact I.ok.glob, by show cenv.builtins = _; rw [<- hcenv]; exact I.ok.blt, by show s.heap.objs.size <= cenv.locals; rw [hL]; exact Nat.le_refl _,
   λ y z c e1 e2 => ?_, λ y hy => ?_, λ y c z e => ?_, I.ok.hd, I.ok.frames, .inl rfl, λ b hb => ⟨?_, λ y c e z => ?_⟩, I.bs, Nat.le_trans I.ok.bsz I.sz, λ b o e hb => ?_, λ b hb z => ?_, I.stack, I.stkFree⟩
  ·have e1 : cenv.cells.lookup y = some c := e1
   have e2 : cenv.cells.lookup z = some c := e2
   rw [hcl] at e1 e2
   refine cells_inj (λ p hp => ?_) (λ y z c a b => I.ok.inj y z c (cm a).1 (cm b).1) (PySem.mem_of_lookup e1) (PySem.mem_of_lookup e2)
   rw [Heap.size_push]
   exact Nat.lt_succ_of_lt (cm (y := p.1) (c := p.2) hp).2
  ·show ∃ c, cenv.cells.lookup y = some c
   have key : ∀ k, cenv.kindOf y = some k -> (k = .cell ∨ k = .free) -> ∃ c, cenv.cells.lookup y = some c := λ k hk hk' => by
    unfold Env.kindOf at hk
    rw [hsc] at hk
    obtain ⟨k', e, r⟩ := lookup_relS hk
    have : k' = .cell ∨ k' = .free := by
     rcases r with rfl | ⟨rfl, _⟩
     ·exact hk'
     ·exact .inr rfl
    rcases this with rfl | rfl
    ·obtain ⟨c, hm⟩ := cells_has (n := (s.heap.push { cls := .type "dict", data := .dict #[] }).objs.size) (acc := cloFrom X.env.cells scope.names []) (PySem.mem_of_lookup e)
     obtain ⟨c', e'⟩ := mem_lookup hm
     exact ⟨c', by rw [hcl]; exact e'⟩
    ·obtain ⟨c, h1, _⟩ := look e
     exact ⟨c, h1⟩
   rcases hy with hy | hy
   ·exact key _ hy (.inl rfl)
   ·exact key _ hy (.inr rfl)
  ·have z : (scope.names.lookup y == some NameKind.cell) = true := z
   have z : scope.names.lookup y = some .cell := by simpa using z
   have e : cenv.cells.lookup y = some c := e
   rw [hcl] at e
   rcases cells_mem (PySem.mem_of_lookup e) with hm | ⟨_, h2, _⟩
   ·rcases cloFrom_mem hm with hm | ⟨h1, _⟩
    ·cases hm
    ·have q := ok.uniq _ h1
     rw [z] at q; cases q
   ·rw [Heap.size_push] at h2
    exact Nat.le_of_succ_le h2
  ·show b ≠ cenv.locals
   rw [hL]; exact Nat.ne_of_lt (hfp b hb).2
  ·have e : cenv.cells.lookup y = some c := e
   rcases mem e with ⟨h1, _⟩ | ⟨h1, _⟩
   ·exact (hfp b hb).1.2.2.2.2.1 y c h1 z
   ·have h2 : s.heap.objs.size + 1 <= b := by rw [<- z]; exact h1
    exact absurd (Nat.lt_of_lt_of_le (hfp b hb).2 (Nat.le_of_succ_le h2)) (Nat.lt_irrefl _)
  ·rcases (hfp b hb).1.2.2.2.1 with z | z
   ·exact I.ok.noex b o e z
   ·exact absurd (Nat.lt_of_lt_of_le (Heap.lt_size e) (Nat.le_trans I.ok.bsz z)) (Nat.lt_irrefl _)
  ·rcases List.mem_cons.mp (I.stkSub b z) with z | z
   ·exact (hfp b hb).1.2.1 z
   ·exact (hfp b hb).1.2.2.1 z
 refine ⟨okB, rfl, I.bare, Un.kept kp, ⟨λ _ => none, ?_, λ i y av e1 e2 e3 => ?_⟩, λ y c e => ?_, ?_, λ y c e => ?_, λ p hp => ?_, I.hok.kept kp, by rw [wipe_length]; exact I.len⟩
 ·show Heap.Ns _ cenv.locals _
  rw [hL]
  exact Heap.Ns.keeps (Heap.Ns.new ..) λ b o e => pushCells_keeps _ _ _ _ e
 ·obtain ⟨e2, hne⟩ := wipe_some e2
  have hfr : scope.names.lookup y = some .free /\ (cenv.kindOf y = some .cell ∨ cenv.kindOf y = some .free) := by
   have key : ∀ k, cenv.scope.names.lookup y = some k -> k = .local ∨ k = .cell ∨ k = .free -> scope.names.lookup y = some .free /\ (cenv.kindOf y = some .cell ∨ cenv.kindOf y = some .free) := λ k hk hk' => by
    have hk0 := hk
    rw [hsc] at hk
    obtain ⟨k', e, r⟩ := lookup_relS hk
    have no : ¬ (k' = .local ∨ k' = .cell) := λ hh => by
     rcases ok.own _ (PySem.mem_of_lookup e) hh with e' | e'
     ·obtain ⟨p, hp, hpy⟩ := List.mem_map.mp e'
      have e3 := ok.ix p hp
      have : p.1 = y := hpy
      rw [this] at e3
      exact hne (List.mem_map.mpr ⟨p, hp, nodup_ix hN e3 e1⟩)
     ·exact e' (List.mem_of_getElem? e1)
    rcases r with rfl | ⟨rfl, rfl⟩
    ·rcases hk' with rfl | rfl | rfl
     ·exact absurd (.inl rfl) no
     ·exact absurd (.inr rfl) no
     ·exact ⟨e, .inr hk0⟩
    ·exact ⟨e, .inl hk0⟩
   have e3 : Vis cenv.scope y := e3
   rcases e3 with e3 | e3 | e3
   ·exact key _ e3 (.inl rfl)
   ·exact key _ e3 (.inr (.inl rfl))
   ·exact key _ e3 (.inr (.inr rfl))
  obtain ⟨m, hn, hl⟩ := I.loc
  have hvis : Vis X.env.scope y := (ok.free _ (PySem.mem_of_lookup hfr.1) rfl).elim (λ k => .inr (.inl k)) (λ k => .inr (.inr k))
  obtain ⟨w, r, q⟩ := hl i y av e1 e2 hvis
  refine ⟨w, r, .inr ⟨hfr.2, ?_⟩⟩
  obtain ⟨c, h1, h2⟩ := look hfr.1
  rcases q with ⟨k, _⟩ | ⟨_, c', e', z⟩
  ·have k : X.env.scope.names.lookup y = some .local := k
   rcases ok.free _ (PySem.mem_of_lookup hfr.1) rfl with k' | k' <;> rw [show X.env.scope.names.lookup y = _ from k'] at k <;> cases k
  ·rw [h2] at e'; cases e'
   exact ⟨c, h1, z.keeps kp⟩
 ·have e : cenv.cells.lookup y = some c := e
  rcases mem e with ⟨h1, _⟩ | ⟨_, z⟩
  ·obtain ⟨w, z⟩ := I.cell y c h1
   exact ⟨w, z.keeps kp⟩
  ·exact ⟨_, z⟩
 ·show H cenv.locals = none
  rw [hL]; exact I.hok.fresh (Nat.le_refl _)
 ·have e : cenv.cells.lookup y = some c := e
  rcases mem e with ⟨h1, _⟩ | ⟨h1, _⟩
  ·exact I.freeC y c h1
  ·exact I.hok.fresh (Nat.le_of_succ_le h1)
 ·exact absurd (show p ∈ ([] : List (Addr × Obj)) ++ [] from hp) (by simp)
theorem app_ok {E : Value -> Shared -> Prop} {D : Addr} {xs : List V} {y : V} {v : Value} {Q : Value -> Shared -> Prop} (I : Inv X pins σ H s) (hD : H D = some (.lst xs)) (hz : xs.length < sizeLine) (r : RelV y v)
  (h : ∀ s', Inv X pins σ (upd H D (.lst (xs ++ [y]))) s' -> Q .none s') : wpAny (model X.prog X.w) X.A (call (.builtin "list.append") [.ref D, v]) Q E s := by
 obtain ⟨hz', its, n, ri, e⟩ := I.hok D _ hD
 have hl := ri.length
 refine append_at (hsz := by rw [List.size_toArray]; omega) e λ h' sb ho' => ?_
 refine h { s with heap := h' } (I.write (t' := s.toks) (by rw [hD]; trivial) (.inl rfl) (λ b u hb q => (sb.2 b hb).trans q) ⟨_, ho'⟩ ⟨by rw [lna]; exact hz, its ++ [v], n + 1, ri.append (.cons r .nil), ?_⟩)
 rw [ho']
 simp
def PTs (X : Cx) (ifs : List Expr) (t : TT) : Prop :=
 ∀ (pins : List (Addr × Obj)) (s : Shared) (σ : St) (H : Hp) (Q : Bool -> Hp -> Prop), Inv X pins σ H s -> t σ H Q ->
  wpAny (model X.prog X.w) X.A (forIn ifs true λ c r => if r = true then do let ok <- isTrue c X.env (eval c X.env); pure (ForInStep.yield ok) else pure (ForInStep.yield r)) (TP X pins σ Q) X.xe s
def tYes : TT := λ _ H Q => Q true H
theorem pts_nil : PTs X [] tYes := λ _ _ _ H _ I h => wpAny_tests_nil ⟨H, I, h⟩
theorem pts_one {c : Expr} {t : TT} (h : PT X c t) : PTs X [c] t := λ pins s σ H Q I hw => wpAny_tests_one (h pins s σ H Q I hw)
end
theorem thnF {α : Type} {t : Sem α} {Q Q' : α -> Shared -> Prop} {M : Model} {A : Around} {E : Value -> Shared -> Prop} {s : Shared} (h : wpAny M A t Q (λ _ _ => False) s) (hQ : ∀ a s, Q a s -> Q' a s) : wpAny M A t Q' E s := wpAny_mono h hQ λ _ _ z => False.elim z
theorem compLoop_any {prog : Program} {w : World} {A : Around} {R : Result -> Shared -> Prop} {s : Shared} {elt target iter : Expr} {ifs : List Expr} {scope : Scope} {pos : Pos} {it acc : Value} {env : Env} (I : Nat -> Shared -> Prop)
  (turn : ∀ n s, I n s -> wpAny (model prog w) A (pyNext it) (λ r s₁ => match r with
   | none => R (.ok .next) s₁
   | some v => wpAny (model prog w) A (letOwnedTupleGo target it v) (λ _ s₁' => wpAny (model prog w) A (assign target env v) (λ _ s₂ =>
     wpAny (model prog w) A (forIn ifs true λ c r => if r = true then do let ok <- isTrue c env (eval c env); pure (ForInStep.yield ok) else pure (ForInStep.yield r)) (λ ok s₃ =>
      if ok = true then wpAny (model prog w) A (eval elt env) (λ x s₄ =>
       wpAny (model prog w) A (call (.builtin "list.append") [acc, x]) (λ _ s₅ => ∃ m, m < n /\ I m s₅) (notedBy (model prog w) A env λ e s' => R (.error e) s') s₄) (notedBy (model prog w) A env λ e s' => R (.error e) s') s₃
      else ∃ m, m < n /\ I m s₃) (notedBy (model prog w) A env λ e s' => R (.error e) s') s₂) (notedBy (model prog w) A env λ e s' => R (.error e) s') s₁') (notedBy (model prog w) A env λ e s' => R (.error e) s') s₁) (notedBy (model prog w) A env λ e s' => R (.error e) s') s)
  (n : Nat) (h : I n s) :
  codeAny (model prog w) A (.compLoop (.ListComp elt [⟨target, iter, ifs, 0⟩] scope pos) 0 it acc env) R s := by
 refine codeAny_loop rfl I (λ n s hI => ?_) n h
 show wpAny _ A ((compTurn (.ListComp elt [⟨target, iter, ifs, 0⟩] scope pos) 0 it acc env).onRaise (λ x => do noteFrame x env; theTreesLotGoes x)) _ _ s
 refine wpAny_noted ?_
 rw [compTurn_list]
 refine wpAny_bind (wpAny_standAt (wpAny_bind (wpAny_mono (turn n s hI) (λ r s₁ h₁ => ?_) λ _ _ h' => h')))
 cases r with
 | none => exact wpAny_pure h₁
 | some v =>
  refine wpAny_bind (wpAny_mono h₁ (λ _ s₁' h₁' => ?_) λ _ _ h' => h')
  refine wpAny_bind (wpAny_mono h₁' (λ _ s₂ h₂ => wpAny_bind (wpAny_mono h₂ (λ ok s₃ h₃ => ?_) λ _ _ h' => h')) λ _ _ h' => h')
  cases ok with
  | false => exact wpAny_pure ⟨rfl, h₃⟩
  | true =>
   exact wpAny_bind (wpAny_bind (wpAny_mono h₃ (λ x s₄ h₄ => wpAny_bind (wpAny_mono h₄ (λ _ s₅ h₅ => wpAny_pure (wpAny_pure ⟨rfl, h₅⟩)) λ _ _ h' => h')) λ _ _ h' => h'))
section
variable {X : Cx}
def tLc (wi : TI) (g : TG) (tt : TT) (te : TE) (vs : List Nat) : TE := λ σ H Q => wi σ H λ J H1 => ∀ D, H1 D = none -> ∃ W : Nat -> Nat -> Hp -> Prop, (∃ m, W 0 m (upd H1 D (.lst []))) /\ ∀ i m H, W i m H ->
 (J.stop i H /\ Q (.ref D) H) ∨ (J.go i H /\ ∃ Nx : Hp -> Prop, (∀ H', Nx H' -> ∃ m', m' < m /\ W (i + 1) m' H') /\ ∀ x H', J.yld i H x H' -> g x (wipe σ vs) H' λ σ2 H2 => wipe σ2 vs = wipe σ vs /\ tt σ2 H2 λ b H3 =>
  if b = true then te σ2 H3 λ y H4 => ∃ acc, H4 D = some (.lst acc) /\ acc.length < sizeLine /\ Nx (upd H4 D (.lst (acc ++ [y]))) else Nx H3)
theorem lc_core {pins : List (Addr × Obj)} {s : Shared} {σ : St} {H : Hp} {Q : VK} {elt tg iter : Expr} {ifs : List Expr} {scope : Scope} {own : List (Str × Nat)} {pos pos' : Pos} {wi : TI} {g : TG} {tt : TT} {te : TE} {use : Option (Value -> Sem Unit)} {Qf : Value -> Shared -> Prop}
  (hc : X.calm = true) (hN : X.N.Nodup) (I : Inv X pins σ H s) (hi : PI X tg iter wi) (ok : BlkOk X.N X.env.scope scope own)
  (hg : ∀ (s : Shared) (H : Hp) (C : Addr) (cl : List (Str × Addr)) (fp : List Addr), PG (X.blk s H scope (compEnvC scope cl C X.env) fp) tg g) (ht : ∀ (s : Shared) (H : Hp) (C : Addr) (cl : List (Str × Addr)) (fp : List Addr), PTs (X.blk s H scope (compEnvC scope cl C X.env) fp) ifs tt)
  (he : ∀ (s : Shared) (H : Hp) (C : Addr) (cl : List (Str × Addr)) (fp : List Addr), PE (X.blk s H scope (compEnvC scope cl C X.env) fp) elt te) (hs : ∀ x, foldedSetIterable iter X.env x = pure x)
  (h : tLc wi g tt te (own.map (·.2)) σ H Q)
  (hRR : ∀ D C s' m H', Inv X pins σ H' s' -> Q (.ref D) H' -> s'.heap.Ns C m -> FpOk X pins H' C -> compPost (model X.prog X.w) X.A X.xe use Qf (.ref D) C (.ok .next) s') :
  wpAny (model X.prog X.w) X.A (comprehension (.ListComp elt [⟨tg, iter, ifs, 0⟩] scope pos) scope X.env pos' (newList []) false (eval iter X.env) use) Qf X.xe s := by
 have hfree : ∀ y ∈ scope.names, y.2 = .free -> ∃ c, X.env.cells.lookup y.1 = some c := λ y hy e => by
  rcases ok.free y hy e with k | k
  ·exact I.ok.has _ (.inl k)
  ·exact I.ok.has _ (.inr k)
 refine wpAny_comprehension_free (use := use) rfl hs (closure_ok hfree) ok.kind (λ y hy e => by rw [ok.uniq y hy, e])
  (thn (hi pins s σ H _ I h) λ xv s1 hx => thn hx λ itv s2 h2 => ?_)
 obtain ⟨it, fp, tn, J, H2, e, I2, T, st2, f2, q⟩ := h2
 subst e
 refine wpAny_newObj_type (newEnv_comp ?_) (by show 0 <= sizeLine; decide)
 generalize hD : s2.heap.objs.size = D
 have hDn : H2 D = none := I2.hok.fresh (Nat.le_of_eq hD)
 obtain ⟨W, ⟨m0, w0⟩, turn⟩ := q D hDn
 -- the new list
 generalize hs3 : ({ s2 with heap := s2.heap.push { cls := .type "list", data := .seq ([] : List Value).toArray } } : Shared) = s3
 have I3 : Inv X pins σ (upd H2 D (.lst [])) s3 := by
  rw [<- hs3]
  refine I2.laid (t' := s2.toks) (λ b o e => Heap.get?_push_of_some _ e) (Nat.le_of_eq hD) ⟨Nat.zero_le _, [], 0, .nil, ?_⟩
  rw [<- hD]
  exact Heap.get?_push_size _ rfl
 have h3 : s3.heap = s2.heap.push { cls := .type "list", data := .seq ([] : List Value).toArray } := by rw [<- hs3]
 have sz : ∀ b ∈ fp, b < s2.heap.objs.size := λ b hb => by
  obtain ⟨o, e, _⟩ := T.obj _ _ st2 b hb
  exact Heap.lt_size e
 have f3 : ∀ b ∈ fp, FpOk X pins (upd H2 D (.lst [])) b /\ b < s3.heap.objs.size := λ b hb => by
  have hlt := sz b hb
  refine ⟨⟨?_, (f2 b hb).2⟩, by rw [h3, Heap.size_push]; exact Nat.lt_succ_of_lt hlt⟩
  rw [upd_ne (by rw [<- hD]; exact Nat.ne_of_lt hlt)]
  exact (f2 b hb).1
 have st3 : tn 0 s3.heap := T.keep _ _ _ st2 λ b _ o e => by rw [h3]; exact Heap.get?_push_of_some _ e
 have I4 := block_start I3 ok hN f3
 have pg := hg s3 (upd H2 D (.lst [])) s3.heap.objs.size (cellsFrom (s3.heap.objs.size + 1) scope.names (cloFrom X.env.cells scope.names [])) fp
 have pt := ht s3 (upd H2 D (.lst [])) s3.heap.objs.size (cellsFrom (s3.heap.objs.size + 1) scope.names (cloFrom X.env.cells scope.names [])) fp
 have pe := he s3 (upd H2 D (.lst [])) s3.heap.objs.size (cellsFrom (s3.heap.objs.size + 1) scope.names (cloFrom X.env.cells scope.names [])) fp
 show codeAny _ _ (.compStart (.ListComp elt [⟨tg, iter, ifs, 0⟩] scope pos) 0 (.ref it) (.ref D) (compEnvC scope (cellsFrom (s3.heap.objs.size + 1) scope.names (cloFrom X.env.cells scope.names [])) s3.heap.objs.size X.env)) (compPost (model X.prog X.w) X.A X.xe use Qf (.ref D) s3.heap.objs.size) { s3 with heap := pushCells (s3.heap.push { cls := .type "dict", data := .dict #[] }) scope.names }
 have nfp : ∀ b ∈ fp, (upd H2 D (.lst [])) b = none := λ b hb => (f3 b hb).1.1
 generalize hce : compEnvC scope (cellsFrom (s3.heap.objs.size + 1) scope.names (cloFrom X.env.cells scope.names [])) s3.heap.objs.size X.env = ce at I4 pg pt pe ⊢
 have cL : ce.locals = s3.heap.objs.size := by subst hce; rfl
 generalize hH3 : upd H2 D (.lst []) = H3 at I3 I4 pg pt pe w0 nfp f3
 generalize hs4 : ({ s3 with heap := pushCells (s3.heap.push { cls := .type "dict", data := .dict #[] }) scope.names } : Shared) = s4 at I4 ⊢
 have st4 : tn 0 s4.heap := T.keep _ _ _ st3 λ b _ o e => by rw [<- hs4]; exact pushCells_keeps _ _ _ _ (Heap.get?_push_of_some _ e)
 have stat : ∀ {σ' : St} {H' : Hp} {s' : Shared}, Inv (X.blk s3 H3 scope ce fp) [] σ' H' s' -> (∀ b ∈ fp, H' b = none) -> ∀ b ∈ fp, FpOk (X.blk s3 H3 scope ce fp) [] H' b := λ {σ' H' s'} I' hn b hb =>
  ⟨hn b hb, (I'.ok.exf b hb).1, I'.ok.exfs b hb, .inl hb, λ x c e => (I'.ok.exf b hb).2 x c e, λ p hp => absurd (show p ∈ ([] : List (Addr × Obj)) ++ [] from hp) (by simp)⟩
 have loop : codeAny (model X.prog X.w) X.A (.compLoop (.ListComp elt [⟨tg, iter, ifs, 0⟩] scope pos) 0 (.ref it) (.ref D) ce) (compPost (model X.prog X.w) X.A X.xe use Qf (.ref D) s3.heap.objs.size) s4 := by
  refine compLoop_any (λ n s' => ∃ i H', Inv (X.blk s3 H3 scope ce fp) [] (wipe σ (own.map (·.2))) H' s' /\ tn i s'.heap /\ (∀ b ∈ fp, H' b = none) /\ W i n H') ?_ m0 ⟨0, H3, I4, st4, nfp, w0⟩
  rintro n s5 ⟨i, H5, I5, st5, n5, w5⟩
  rcases turn i n H5 w5 with ⟨stop, qq⟩ | ⟨go, Nx, hNx, step⟩
  ·have td := T.done (X.blk s3 H3 scope ce fp) rfl rfl rfl hc i [] s5 _ H5 (λ _ _ => False) I5 (stat I5 n5) st5 stop
   refine thnF td λ r s6 ⟨hr, I6⟩ => ?_
   subst hr
   -- back in the def's context
   have I7 : Inv X pins σ H5 s6 := I3.call' (ch := fp) I6.os I6.base I6.hok I6.bare λ b hb => ⟨(f3 b hb).1.2.2.2.1, (f3 b hb).1.2.1, (f3 b hb).1.2.2.2.2.1, (f3 b hb).1.2.2.2.2.2⟩
   have nC : H5 s3.heap.objs.size = none := by
    have z : H5 ce.locals = none := I6.free
    rw [cL] at z
    exact z
   obtain ⟨m, hn, _⟩ := I6.loc
   have hn : s6.heap.Ns ce.locals m := hn
   rw [cL] at hn
   exact hRR D s3.heap.objs.size s6 m H5 I7 qq hn (I3.fpOk (Nat.le_refl _) nC)
  ·have ti := T.item (X.blk s3 H3 scope ce fp) rfl rfl rfl hc i [] s5 _ H5 (λ _ _ => False) I5 (stat I5 n5) st5 go
   refine thnF ti λ r s6 ⟨u, hr, h6⟩ => ?_
   subst hr
   refine thnF h6 λ _ s7 ⟨x, H7, I7, r7, y7, st7, n7⟩ => ?_
   have I7' := I7.pinned (stat I7 n7) (T.obj _ _ st7)
   refine thnF (pg _ s7 _ H7 x u _ I7' r7 (step x H7 y7)) λ _ s8 ⟨σ8, H8, I8, hw8, q8⟩ => ?_
   refine thnF (pt _ s8 σ8 H8 _ I8 q8) λ b s9 ⟨H9, I9, q9⟩ => ?_
   -- the turn's end
   have fin : ∀ {s' : Shared} {H' : Hp}, Inv (X.blk s3 H3 scope ce fp) ([] ++ pinsAt fp s7.heap) σ8 H' s' -> Nx H' -> ∃ m, m < n /\ ∃ i H', Inv (X.blk s3 H3 scope ce fp) [] (wipe σ (own.map (·.2))) H' s' /\ tn i s'.heap /\ (∀ b ∈ fp, H' b = none) /\ W i m H' := λ {s' H'} I' nx => by
    obtain ⟨m', hm, w'⟩ := hNx H' nx
    have pin' : ∀ b ∈ fp, ∀ o, s7.heap.get? b = some o -> s'.heap.get? b = some o /\ H' b = none := λ b hb o e =>
     let z := I'.pin (b, o) (List.mem_append_right _ (List.mem_append_right _ (mem_pinsAt hb e)))
     ⟨z.1, z.2.1⟩
    have hl : (wipe σ (own.map (·.2))).length = σ8.length := by rw [<- hw8, wipe_length]
    refine ⟨m', hm, i + 1, H', (I'.unpinned (pins := [])).weak hl (λ j v e => ?_), T.keep _ _ _ st7 λ b hb o e => (pin' b hb o e).1, λ b hb => ?_, w'⟩
    ·rw [<- hw8] at e
     exact (wipe_some e).1
    ·obtain ⟨o, e, _⟩ := T.obj _ _ st7 b hb
     exact (pin' b hb o e).2
   cases b with
   | false =>
    simp only [Bool.false_eq_true, if_false] at q9 ⊢
    exact fin I9 q9
   | true =>
    simp only [if_true] at q9 ⊢
    refine thnF (pe _ s9 σ8 H9 _ I9 q9) λ z s10 ⟨yv, H10, I10, r10, acc, hD10, hz10, nx⟩ => ?_
    exact app_ok (X := X.blk s3 H3 scope ce fp) I10 hD10 hz10 r10 λ s11 I11 => fin I11 nx
 exact codeAny_compStart_list loop (T.self X.A 0 _ _ _ st4 loop)
theorem pe_lc {elt tg iter : Expr} {ifs : List Expr} {scope : Scope} {own : List (Str × Nat)} {pos : Pos} {wi : TI} {g : TG} {tt : TT} {te : TE} (hc : X.calm = true) (hN : X.N.Nodup) (hi : PI X tg iter wi) (ok : BlkOk X.N X.env.scope scope own)
  (hg : ∀ (s : Shared) (H : Hp) (C : Addr) (cl : List (Str × Addr)) (fp : List Addr), PG (X.blk s H scope (compEnvC scope cl C X.env) fp) tg g) (ht : ∀ (s : Shared) (H : Hp) (C : Addr) (cl : List (Str × Addr)) (fp : List Addr), PTs (X.blk s H scope (compEnvC scope cl C X.env) fp) ifs tt)
  (he : ∀ (s : Shared) (H : Hp) (C : Addr) (cl : List (Str × Addr)) (fp : List Addr), PE (X.blk s H scope (compEnvC scope cl C X.env) fp) elt te) (hs : ∀ x, foldedSetIterable iter X.env x = pure x := by intro _; rfl) :
  PE X (.ListComp elt [⟨tg, iter, ifs, 0⟩] scope pos) (tLc wi g tt te (own.map (·.2))) := by
 intro pins s σ H Q I h
 rw [eval_ListComp]
 refine lc_core hc hN I hi ok hg ht he hs h λ D C s' m H' I' q hn f => ⟨m, hn, λ h'' sb => ?_⟩
 obtain ⟨f0, f1, f2, f3, f4, f5⟩ := f
 exact ⟨.ref D, H', I'.turned (t' := s'.toks) (λ b o hb e => (sb.2 b hb).trans e) f0 f1 f3 f4 f5, rfl, q⟩
theorem ps_setLc {i : Nat} {y : Str} {py : Pos} {elt tg iter : Expr} {ifs : List Expr} {scope : Scope} {own : List (Str × Nat)} {pos spos : Pos} {wi : TI} {g : TG} {tt : TT} {te : TE} (hc : X.calm = true) (hN : X.N.Nodup) (hy : X.N[i]? = some y) (hyl : X.env.scope.names.lookup y = some .local)
  (hsw : swapsWith (.ListComp elt [⟨tg, iter, ifs, 0⟩] scope pos) (some (.Name y py)) spos.line X.env = pure true) (hi : PI X tg iter wi) (ok : BlkOk X.N X.env.scope scope own)
  (hg : ∀ (s : Shared) (H : Hp) (C : Addr) (cl : List (Str × Addr)) (fp : List Addr), PG (X.blk s H scope (compEnvC scope cl C X.env) fp) tg g) (ht : ∀ (s : Shared) (H : Hp) (C : Addr) (cl : List (Str × Addr)) (fp : List Addr), PTs (X.blk s H scope (compEnvC scope cl C X.env) fp) ifs tt)
  (he : ∀ (s : Shared) (H : Hp) (C : Addr) (cl : List (Str × Addr)) (fp : List Addr), PE (X.blk s H scope (compEnvC scope cl C X.env) fp) elt te) (hs : ∀ x, foldedSetIterable iter X.env x = pure x := by intro _; rfl) :
  PS X (.Assign [.Name y py] (.ListComp elt [⟨tg, iter, ifs, 0⟩] scope pos) spos) (tAsg (tLc wi g tt te (own.map (·.2))) (gName i)) := by
 intro pins s σ H D I h
 rw [exec_Assign_Name_used _ _ _ _ hsw]
 refine wpAny_bind (wpAny_standAt (wpAny_bind ?_))
 show wpAny _ X.A (do let _ <- comprehension (.ListComp elt [⟨tg, iter, ifs, 0⟩] scope pos) scope X.env (firstIterPos [⟨tg, iter, ifs, 0⟩] pos) (newList []) false (eval iter X.env) (some (assign (.Name y py) X.env))) _ _ s
 have h : tLc wi g tt te (own.map (·.2)) σ H (λ x H1 => gName i x σ H1 D.nx) := h
 refine wpAny_bind (thn (lc_core (Qf := λ _ s' => SP X pins D .next s') hc hN I hi ok hg ht he hs h λ L C s' m H' I' q hn f => ?_) λ _ s' hq => wpAny_pure (wpAny_pure hq))
 show wpAny _ _ (assign (.Name y py) X.env (.ref L)) _ _ _
 refine wpAny_assign_Name (store_ok2 (v := V.ref L) I' hN hy (.inl hyl) rfl (λ s2 I2 ⟨a, sb, ha⟩ => ?_) (.inr hyl))
 obtain ⟨f0, f1, f2, f3, f4, f5⟩ := f
 have haC : C ≠ a := by
  rcases ha with z | z
  ·rw [z]; exact f1
  ·exact λ e => f4 y a z e.symm
 refine ⟨m, hn.sameBut sb haC, λ h3 sb3 => ?_⟩
 exact ⟨_, H', I2.turned (t' := s2.toks) (λ b o hb e => (sb3.2 b hb).trans e) f0 f1 f3 f4 f5, q⟩
theorem sw_true {elt : Expr} {gs : List Comprehension} {scope : Scope} {pos py : Pos} {y : Str} {l : Nat} {env : Env} (hk : env.scope.kind = .function) (hy : env.scope.names.lookup y = some .local) (hl : (py.line == pos.line) = true)
  (ha : (scope.names.any λ (n, k) => n == y && (k == .local || k == .cell)) = false) : swapsWith (.ListComp elt gs scope pos) (some (.Name y py)) l env = pure true := by
 have ky : env.kindOf y = some .local := hy
 have hb : env.blockKind = .function := by unfold Env.blockKind; rw [hk]; rfl
 unfold swapsWith
 simp only [hb, ky, ha, Expr.pos, hl]
 rfl
end
theorem lc_range {lo : Int} {n : Nat} {g : TG} {tt : TT} {te : TE} {vs : List Nat} {σ : St} {H1 : Hp} {D : Addr} {Qd : Hp -> Prop} (Pv : Nat -> Hp -> Prop) (h0 : Pv 0 (upd H1 D (.lst [])))
  (hs : ∀ i H, i < n -> Pv i H -> g (.int (lo + i)) (wipe σ vs) H λ σ2 H2 => wipe σ2 vs = wipe σ vs /\ tt σ2 H2 λ b H3 =>
   if b = true then te σ2 H3 λ y H4 => ∃ acc, H4 D = some (.lst acc) /\ acc.length < sizeLine /\ Pv (i + 1) (upd H4 D (.lst (acc ++ [y]))) else Pv (i + 1) H3) (hd : ∀ H, Pv n H -> Qd H) :
  ∃ W : Nat -> Nat -> Hp -> Prop, (∃ m, W 0 m (upd H1 D (.lst []))) /\ ∀ i m H, W i m H ->
   ((Itr lo n).stop i H /\ Qd H) ∨ ((Itr lo n).go i H /\ ∃ Nx : Hp -> Prop, (∀ H', Nx H' -> ∃ m', m' < m /\ W (i + 1) m' H') /\ ∀ x H', (Itr lo n).yld i H x H' -> g x (wipe σ vs) H' λ σ2 H2 => wipe σ2 vs = wipe σ vs /\ tt σ2 H2 λ b H3 =>
    if b = true then te σ2 H3 λ y H4 => ∃ acc, H4 D = some (.lst acc) /\ acc.length < sizeLine /\ Nx (upd H4 D (.lst (acc ++ [y]))) else Nx H3) := by
 refine ⟨λ i m H => m = n - i /\ i <= n /\ Pv i H, ⟨n, by simp, Nat.zero_le _, h0⟩, ?_⟩
 rintro i m H ⟨rfl, hi, p⟩
 by_cases hlt : i < n
 ·refine .inr ⟨hlt, Pv (i + 1), λ H' p' => ⟨n - (i + 1), by omega, rfl, hlt, p'⟩, λ x H' y => ?_⟩
  obtain ⟨e, y⟩ := y
  subst e y
  exact hs i _ hlt p
 ·have e : i = n := by omega
  subst e
  exact .inl ⟨Nat.le_refl _, hd H p⟩
theorem lc_list {K : PySem.W.Frag} {a : Addr} {xs : List V} {g : TG} {tt : TT} {te : TE} {vs : List Nat} {σ : St} {H1 : Hp} {D : Addr} {Qd : Hp -> Prop} (Pv : Nat -> Hp -> Prop) (h0 : Pv 0 (upd H1 D (.lst []))) (hl : ∀ i H, i <= xs.length -> Pv i H -> SqL K H a xs)
  (hs : ∀ i x H, xs[i]? = some x -> Pv i H -> g x (wipe σ vs) H λ σ2 H2 => wipe σ2 vs = wipe σ vs /\ tt σ2 H2 λ b H3 =>
   if b = true then te σ2 H3 λ y H4 => ∃ acc, H4 D = some (.lst acc) /\ acc.length < sizeLine /\ Pv (i + 1) (upd H4 D (.lst (acc ++ [y]))) else Pv (i + 1) H3) (hd : ∀ H, Pv xs.length H -> Qd H) :
  ∃ W : Nat -> Nat -> Hp -> Prop, (∃ m, W 0 m (upd H1 D (.lst []))) /\ ∀ i m H, W i m H ->
   ((Itl K a).stop i H /\ Qd H) ∨ ((Itl K a).go i H /\ ∃ Nx : Hp -> Prop, (∀ H', Nx H' -> ∃ m', m' < m /\ W (i + 1) m' H') /\ ∀ x H', (Itl K a).yld i H x H' -> g x (wipe σ vs) H' λ σ2 H2 => wipe σ2 vs = wipe σ vs /\ tt σ2 H2 λ b H3 =>
    if b = true then te σ2 H3 λ y H4 => ∃ acc, H4 D = some (.lst acc) /\ acc.length < sizeLine /\ Nx (upd H4 D (.lst (acc ++ [y]))) else Nx H3) := by
 refine ⟨λ i m H => m = xs.length - i /\ i <= xs.length /\ Pv i H, ⟨xs.length, by simp, Nat.zero_le _, h0⟩, ?_⟩
 rintro i m H ⟨rfl, hi, p⟩
 have q := hl i H hi p
 by_cases hlt : i < xs.length
 ·refine .inr ⟨⟨xs, xs[i], q, by simp [hlt]⟩, Pv (i + 1), λ H' p' => ⟨xs.length - (i + 1), by omega, rfl, hlt, p'⟩, λ x H' y => ?_⟩
  obtain ⟨e, y⟩ := y
  subst e
  exact hs i x _ (y xs q) p
 ·have e : i = xs.length := by omega
  subst e
  exact .inl ⟨⟨xs, q, Nat.le_refl _⟩, hd H p⟩
def blkC (N : List Str) (sc scope : Scope) (own : List (Str × Nat)) : Bool :=
 (match scope.kind with | .function => true | _ => false) && (scope.names.all λ y => decide (scope.names.lookup y.1 = some y.2)) && (own.all λ p => decide (N[p.2]? = some p.1)) &&
  (scope.names.all λ y => match y.2 with
   | .free => (match sc.names.lookup y.1 with | some .cell => true | some .free => true | _ => false)
   | .local => decide (y.1 ∈ own.map (·.1)) || decide (y.1 ∉ N)
   | .cell => decide (y.1 ∈ own.map (·.1)) || decide (y.1 ∉ N)
   | _ => true)
theorem blkOk_by {N : List Str} {sc scope : Scope} {own : List (Str × Nat)} (h : blkC N sc scope own = true) : BlkOk N sc scope own := by
 unfold blkC at h
 simp only [Bool.and_eq_true, List.all_eq_true, decide_eq_true_eq] at h
 obtain ⟨⟨⟨h1, h2⟩, h3⟩, h4⟩ := h
 refine ⟨?_, h2, h3, λ y hy e => ?_, λ y hy e => ?_⟩
 ·split at h1
  ·assumption
  ·cases h1
 ·have q := h4 y hy
  simp only [e] at q
  split at q <;> first | exact .inl (by assumption) | exact .inr (by assumption) | cases q
 ·have q := h4 y hy
  rcases e with e | e <;> (simp only [e, Bool.or_eq_true, decide_eq_true_eq] at q; exact q)
end L2
namespace L2
open PySem PySem.Spec PyProof.Rows
section
variable {κ : Type} [DecidableEq κ]
def valV (kvs : List (κ × V)) (k : κ) : Option V := (kvs.find? λ kv => decide (kv.1 = k)).map (·.2)
def putK (kvs : List (κ × V)) (k : κ) (v : V) : List (κ × V) :=
 if (kvs.any λ kv => decide (kv.1 = k)) = true then kvs.map (λ kv => if kv.1 = k then (kv.1, v) else kv) else kvs ++ [(k, v)]
theorem valV_nil {k : κ} : valV ([] : List (κ × V)) k = none := rfl
theorem valV_pos {p : κ × V} {r : List (κ × V)} {k : κ} (e : p.1 = k) : valV (p :: r) k = some p.2 := by simp [valV, List.find?_cons, e]
theorem valV_neg {p : κ × V} {r : List (κ × V)} {k : κ} (e : ¬ p.1 = k) : valV (p :: r) k = valV r k := by simp [valV, List.find?_cons, e]
theorem valV_any (k : κ) : ∀ kvs : List (κ × V), (kvs.any λ kv => decide (kv.1 = k)) = (valV kvs k).isSome
 | [] => rfl
 | p :: r => by
  rw [List.any_cons]
  by_cases e : p.1 = k
  ·simp only [valV_pos e, decide_eq_true e, Bool.true_or, Option.isSome_some]
  ·rw [valV_neg e, decide_eq_false e, Bool.false_or]; exact valV_any k r
theorem valV_map (k j : κ) (y : V) : ∀ kvs : List (κ × V), valV (kvs.map λ kv => if kv.1 = k then (kv.1, y) else kv) j = (valV kvs j).map λ x => if j = k then y else x
 | [] => rfl
 | p :: r => by
  have ih := valV_map k j y r
  rw [List.map_cons]
  by_cases h : p.1 = k
  ·rw [if_pos h]
   by_cases e : p.1 = j
   ·rw [valV_pos (p := (p.1, y)) e, valV_pos e, Option.map_some, if_pos (e.symm.trans h)]
   ·rw [valV_neg (p := (p.1, y)) e, valV_neg e, ih]
  ·rw [if_neg h]
   by_cases e : p.1 = j
   ·rw [valV_pos (p := p) e, valV_pos e, Option.map_some, if_neg (λ z => h (e.trans z))]
   ·rw [valV_neg (p := p) e, valV_neg e, ih]
theorem valV_snoc (k j : κ) (y : V) : ∀ kvs : List (κ × V), valV kvs k = none -> valV (kvs ++ [(k, y)]) j = if j = k then some y else valV kvs j
 | [], _ => by
  by_cases e : k = j
  ·rw [if_pos e.symm]; exact valV_pos (p := (k, y)) e
  ·rw [if_neg (λ z => e z.symm)]; exact valV_neg (p := (k, y)) e
 | p :: r, hn => by
  rw [List.cons_append]
  have hk : ¬ p.1 = k := λ z => by rw [valV_pos z] at hn; cases hn
  rw [valV_neg hk] at hn
  have ih := valV_snoc k j y r hn
  by_cases e : p.1 = j
  ·rw [valV_pos e, valV_pos e, if_neg (λ z => hk (e.trans z))]
  ·rw [valV_neg e, valV_neg e, ih]
theorem valV_put (kvs : List (κ × V)) (k j : κ) (y : V) : valV (putK kvs k y) j = if j = k then some y else valV kvs j := by
 unfold putK
 by_cases a : (kvs.any λ kv => decide (kv.1 = k)) = true
 ·rw [if_pos a, valV_map]
  rw [valV_any] at a
  by_cases e : j = k
  ·obtain ⟨x, hx⟩ := Option.isSome_iff_exists.mp a
   rw [if_pos e, e, hx, Option.map_some, if_pos rfl]
  ·rw [if_neg e]
   cases valV kvs j with
   | none => rfl
   | some x => rw [Option.map_some, if_neg e]
 ·rw [if_neg a]
  refine valV_snoc k j y kvs ?_
  rw [valV_any] at a
  cases q : valV kvs k with
  | none => rfl
  | some x => rw [q] at a; exact (a rfl).elim
theorem length_putK (kvs : List (κ × V)) (k : κ) (v : V) : (putK kvs k v).length <= kvs.length + 1 := by
 unfold putK
 split
 ·rw [lnm]; omega
 ·rw [lna, lnc, List.length_nil]; omega
theorem putK_new {kvs : List (κ × V)} {k : κ} (v : V) (h : valV kvs k = none) : putK kvs k v = kvs ++ [(k, v)] := by
 unfold putK
 rw [valV_any, h]
 exact if_neg (by decide)
theorem RelO.isSome_eq {o : Option V} {u : Option Value} (r : RelO o u) : o.isSome = u.isSome := by
 cases o with
 | none => cases u with
  | none => rfl
  | some _ => exact (show False from r).elim
 | some _ => cases u with
  | none => exact (show False from r).elim
  | some _ => rfl
theorem RelO.getD {o : Option V} {u : Option Value} {d : V} {d' : Value} (r : RelO o u) (rd : RelV d d') : RelV (o.getD d) (u.getD d') := by
 cases o with
 | none => cases u with
  | none => exact rd
  | some _ => exact (show False from r).elim
 | some _ => cases u with
  | none => exact (show False from r).elim
  | some _ => exact r
theorem KV.val {kvs : List (κ × V)} {vs : List (κ × Value)} (r : KV kvs vs) (k : κ) : RelO (valV kvs k) (valueAt vs k) := by
 unfold KV at r
 induction r with
 | nil => exact True.intro
 | @cons p q ps qs h t ih =>
  obtain ⟨h1, h2⟩ := h
  by_cases e : p.1 = k
  ·have e' : q.1 = k := h1.symm.trans e
   have b : valueAt (q :: qs) k = some q.2 := by simp [valueAt, List.find?_cons, e']
   rw [valV_pos e, b]; exact h2
  ·have e' : ¬ q.1 = k := λ z => e (h1.trans z)
   have b : valueAt (q :: qs) k = valueAt qs k := by simp [valueAt, List.find?_cons, e']
   rw [valV_neg e, b]; exact ih
theorem KV.any {kvs : List (κ × V)} {vs : List (κ × Value)} (r : KV kvs vs) (k : κ) : (kvs.any λ kv => decide (kv.1 = k)) = vs.any λ kv => decide (kv.1 = k) := by
 unfold KV at r
 induction r with
 | nil => rfl
 | cons h t ih => rw [List.any_cons, List.any_cons, ih, h.1]
theorem KV.repl {kvs : List (κ × V)} {vs : List (κ × Value)} (r : KV kvs vs) (k : κ) {y : V} {u : Value} (ry : RelV y u) :
  KV (kvs.map λ kv => if kv.1 = k then (kv.1, y) else kv) (vs.map λ kv => if kv.1 = k then (kv.1, u) else kv) := by
 unfold KV at r ⊢
 induction r with
 | nil => exact .nil
 | @cons p q ps qs h t ih =>
  rw [List.map_cons, List.map_cons]
  refine .cons ?_ ih
  obtain ⟨h1, h2⟩ := h
  by_cases e : p.1 = k
  ·rw [if_pos e, if_pos (h1.symm.trans e)]; exact ⟨h1, ry⟩
  ·rw [if_neg e, if_neg (λ z => e (h1.trans z))]; exact ⟨h1, h2⟩
theorem KV.put {kvs : List (κ × V)} {vs : List (κ × Value)} (r : KV kvs vs) (k : κ) {y : V} {u : Value} (ry : RelV y u) : KV (putK kvs k y) (stored vs k u) := by
 unfold putK stored
 rw [r.any k]
 by_cases e : (vs.any λ kv => decide (kv.1 = k)) = true
 ·rw [if_pos e, if_pos e]; exact r.repl k ry
 ·rw [if_neg e, if_neg e]; exact Paired.snoc r ⟨rfl, ry⟩
theorem KV.length {kvs : List (κ × V)} {vs : List (κ × Value)} (r : KV kvs vs) : kvs.length = vs.length := Paired.length r
end
theorem kV_is {P : Program} {w : World} {k : Key} {u : Value} (r : RelV (kV k) u) : (mixKind P w).is k u = true := by
 cases k with
 | inl i => obtain ⟨t, e⟩ := (show ∃ t, u = Value.int i t from r); subst e; exact mixKind_int P w i t
 | inr x => obtain ⟨t, e⟩ := (show ∃ t, u = Value.str x t from r); subst e; exact mixKind_str P w x t
theorem items_are {P : Program} {w : World} : ∀ {ks : List Key} {us : List Value}, Vals (ks.map kV) us -> ItemsAre (mixKind P w) ks us
 | [], _, r => by rw [List.map_nil] at r; cases r; exact .nil
 | k :: ks, _, r => by
  rw [List.map_cons] at r
  cases r with
  | cons h t => exact .cons (kV_is h) (items_are t)
abbrev KT (H : Hp) : List (List Key × V) -> List (List Key × Addr × Value) -> Prop := Paired λ p q => p.1 = q.1 /\ H q.2.1 = some (.tup (p.1.map kV)) /\ RelV p.2 q.2.2
theorem KT.val {H : Hp} {kvs : List (List Key × V)} {xs : List (List Key × Addr × Value)} (r : KT H kvs xs) (k : List Key) : RelO (valV kvs k) ((atKey xs k).map (·.2)) := by
 induction r with
 | nil => exact True.intro
 | @cons p q ps qs h t ih =>
  obtain ⟨h1, _, h2⟩ := h
  by_cases e : p.1 = k
  ·have e' : q.1 = k := h1.symm.trans e
   have b : atKey (q :: qs) k = some q.2 := by simp [atKey, List.find?_cons, e']
   rw [valV_pos e, b]; exact h2
  ·have e' : ¬ q.1 = k := λ z => e (h1.trans z)
   have b : atKey (q :: qs) k = atKey qs k := by simp [atKey, List.find?_cons, e']
   rw [valV_neg e, b]; exact ih
theorem KT.repl {H : Hp} {kvs : List (List Key × V)} {xs : List (List Key × Addr × Value)} (r : KT H kvs xs) (k : List Key) {y : V} {u : Value} (ry : RelV y u) :
  KT H (kvs.map λ kv => if kv.1 = k then (kv.1, y) else kv) (xs.map (putAt k u)) := by
 induction r with
 | nil => exact .nil
 | @cons p q ps qs h t ih =>
  rw [List.map_cons, List.map_cons]
  refine .cons ?_ ih
  obtain ⟨h1, h2, h3⟩ := h
  unfold putAt
  by_cases e : p.1 = k
  ·rw [if_pos e, if_pos (h1.symm.trans e)]; exact ⟨h1, h2, ry⟩
  ·rw [if_neg e, if_neg (λ z => e (h1.trans z))]; exact ⟨h1, h2, h3⟩
theorem KT.put {H : Hp} {kvs : List (List Key × V)} {xs : List (List Key × Addr × Value)} (r : KT H kvs xs) (k : List Key) {b : Addr} {y : V} {u : Value} (hb : H b = some (.tup (k.map kV))) (ry : RelV y u) :
  KT H (putK kvs k y) (storedH xs k b u) := by
 have e : (kvs.any λ kv => decide (kv.1 = k)) = (atKey xs k).isSome := by
  rw [valV_any, (r.val k).isSome_eq, Option.isSome_map]
 unfold putK storedH
 rw [e]
 by_cases q : (atKey xs k).isSome = true
 ·rw [if_pos q, if_pos q]; exact r.repl k ry
 ·rw [if_neg q, if_neg q]; exact Paired.snoc r ⟨rfl, hb, ry⟩
theorem KT.keeps {H H' : Hp} {kvs : List (List Key × V)} {xs : List (List Key × Addr × Value)} (r : KT H kvs xs) (ht : ∀ b ys, H b = some (.tup ys) -> H' b = some (.tup ys)) : KT H' kvs xs :=
 Paired.mapP r λ _ _ z => ⟨z.1, ht _ _ z.2.1, z.2.2⟩
section
variable {P : Program} {w : World} {H : Hp} {h : Heap} {a : Addr}
theorem rd_of {u : HO} (ok : HOk P w H h) (e : Rd H a u) : ObjOk P w H h a u := e.ok ok
theorem dk_rd {kvs : List (Key × V)} (ok : HOk P w H h) (e : Rd H a (.dK kvs)) : kvs.length <= sizeLine /\ (a == sysModules) = false /\ ∃ vs, KV kvs vs /\ h.DictOf (mixKind P w) a vs :=
 show ObjOk P w H h a (.dK kvs) from rd_of ok e
theorem dk_of {kvs : List (Key × V)} (ok : HOk P w H h) (e : H a = some (.dK kvs)) : kvs.length <= sizeLine /\ (a == sysModules) = false /\ ∃ vs, KV kvs vs /\ h.DictOf (mixKind P w) a vs := dk_rd ok (.inl e)
theorem key_of {ks : List Key} (ok : HOk P w H h) (e : H a = some (.tup (ks.map kV))) : (tupleKind (mixKind P w)).is h ks a := by
 obtain ⟨_, its, r, o, h1, h2, n, h3⟩ := (show ObjOk P w H h a (.tup (ks.map kV)) from ok a _ e)
 exact ⟨o, its.toArray, n, h1, h2, h3, by simpa using items_are r⟩
theorem dt_rd {kvs : List (List Key × V)} (ok : HOk P w H h) (e : Rd H a (.dT kvs)) : kvs.length <= sizeLine /\ (a == sysModules) = false /\
  ∃ xs, KT H kvs xs /\ h.DictOfH (tupleKind (mixKind P w)) a xs := by
 obtain ⟨z, y, xs, r, o, es, ep, h1, h2, h3, h4, h5⟩ := (show ObjOk P w H h a (.dT kvs) from rd_of ok e)
 refine ⟨z, y, xs, r, o, es, ep, h1, h2, h3, h4, λ x hx => ?_, h5⟩
 have all : ∀ {l : List (List Key × V)} {m : List (List Key × Addr × Value)}, KT H l m -> ∀ x ∈ m, (tupleKind (mixKind P w)).is h x.1 x.2.1 := by
  intro l m q
  induction q with
  | nil => intro x hx; exact nomatch hx
  | @cons p q ps qs hq t ih =>
   intro x hx
   rcases List.mem_cons.mp hx with e | hx
   ·subst e
    exact key_of ok (by rw [<- hq.1]; exact hq.2.1)
   ·exact ih x hx
 exact all r x hx
theorem dt_of {kvs : List (List Key × V)} (ok : HOk P w H h) (e : H a = some (.dT kvs)) : kvs.length <= sizeLine /\ (a == sysModules) = false /\
  ∃ xs, KT H kvs xs /\ h.DictOfH (tupleKind (mixKind P w)) a xs := dt_rd ok (.inl e)
end
def DGet (H : Hp) (a : Addr) (y : V) (r : Option V) : Prop :=
 (∃ kvs k, Rd H a (.dK kvs) /\ y = kV k /\ r = valV kvs k) ∨ ∃ kvs k b, Rd H a (.dT kvs) /\ y = .ref b /\ H b = some (.tup (k.map kV)) /\ r = valV kvs k
def DPut (H : Hp) (a : Addr) (y v : V) (H' : Hp) : Prop :=
 (∃ kvs k, H a = some (.dK kvs) /\ y = kV k /\ kvs.length < sizeLine /\ H' = upd H a (.dK (putK kvs k v))) ∨
 ∃ kvs k b, H a = some (.dT kvs) /\ y = .ref b /\ H b = some (.tup (k.map kV)) /\ kvs.length < sizeLine /\ H' = upd H a (.dT (putK kvs k v))
theorem DGet.k {H : Hp} {a : Addr} {kvs : List (Key × V)} {k : Key} (e : H a = some (.dK kvs)) : DGet H a (kV k) (valV kvs k) := .inl ⟨kvs, k, .inl e, rfl, rfl⟩
theorem DPut.k {H : Hp} {a : Addr} {kvs : List (Key × V)} {k : Key} {v : V} (e : H a = some (.dK kvs)) (hl : kvs.length < sizeLine) : DPut H a (kV k) v (upd H a (.dK (putK kvs k v))) := .inl ⟨kvs, k, e, rfl, hl, rfl⟩
section
variable {X : Cx} {pins : List (Addr × Obj)} {σ : St} {H : Hp} {s : Shared} {a : Addr} {y v : V} {u r : Value} {o : Option V} {A : Around} {E : Value -> Shared -> Prop}
theorem Inv.big (I : Inv X pins σ H s) : sysModules < s.heap.objs.size := by
 have h : mainGlobals < s.heap.objs.size := (I.mod.glob.keeps I.bk).lt
 exact Nat.lt_trans (by decide) h
theorem d_getItem {Q : Value -> Shared -> Prop} (hu : A.units + 1 < cLine) (I : Inv X pins σ H s) (g : DGet H a y (some v)) (ry : RelV y u) (h : ∀ w' s', Inv X pins σ H s' -> RelV v w' -> Q w' s') :
  wpAny (model X.prog X.w) A (getItem (.ref a) u) Q E s := by
 rcases g with ⟨kvs, k, e, ey, l⟩ | ⟨kvs, k, b, e, ey, eb, l⟩
 ·subst ey
  obtain ⟨z, hd, vs, rel, dd⟩ := dk_rd I.hok e
  obtain ⟨w', hw, rw'⟩ := RelO.some_of (v := v) (o := valueAt vs k) (by rw [l]; exact rel.val k)
  exact wpAny_getItem_of (kV_is ry) dd.mapOf hw (h w' _ (I.tok _) rw')
 ·subst ey
  cases (show u = Value.ref b from ry)
  obtain ⟨z, hd, xs, rel, dd⟩ := dt_rd I.hok e
  obtain ⟨w', hw, rw'⟩ := RelO.some_of (v := v) (o := (atKey xs k).map (·.2)) (by rw [l]; exact rel.val k)
  obtain ⟨p, hp, hp2⟩ := Option.map_eq_some_iff.mp hw
  refine wpAny_getItem_heap (tupleKind_room_in1 hu) (key_of I.hok eb) dd hp ?_
  rw [hp2]
  exact h w' _ (I.tok _) rw'
theorem d_write {h' : Heap} {t' : Nat} {ob : HO} (I : Inv X pins σ H s) (mu : Mut (H a)) (hs : Heap.SameBut a s.heap h') (he : ∃ q, h'.get? a = some q) (new : ObjOk X.prog X.w (upd H a ob) h' a ob) :
  Inv X pins σ (upd H a ob) { s with heap := h', toks := t' } :=
 I.write (x := a) (e := a) mu (.inl rfl) (λ b q hb z => (hs.2 b hb).trans z) he new
theorem dk_new {P : Program} {w : World} {H' : Hp} {h' : Heap} {kvs : List (Key × V)} {vs : List (Key × Value)} (z : kvs.length <= sizeLine) (hd : (a == sysModules) = false) (rel : KV kvs vs) (dd : h'.DictOf (mixKind P w) a vs) :
  ObjOk P w H' h' a (.dK kvs) := ⟨z, hd, vs, rel, dd⟩
theorem d_setItem {H' : Hp} {Q : Unit -> Shared -> Prop} (hu : A.units + 1 < cLine) (I : Inv X pins σ H s) (g : DPut H a y v H') (ry : RelV y u) (rv : RelV v r) (h : ∀ s', Inv X pins σ H' s' -> Q () s') :
  wpAny (model X.prog X.w) A (setItem (.ref a) u r) Q E s := by
 rcases g with ⟨kvs, k, e, ey, l, eH⟩ | ⟨kvs, k, b, e, ey, eb, l, eH⟩
 ·subst ey eH
  obtain ⟨z, hd, vs, rel, dd⟩ := dk_of I.hok e
  have hz : vs.length <= sizeLine := by rw [<- rel.length]; exact z
  have hl : (putK kvs k v).length <= sizeLine := by have := length_putK kvs k v; omega
  refine wpAny_setItem_pairs (hsz := hz) (kV_is ry) dd λ h' dd' hs => h _ ?_
  have he : ∃ q, h'.get? a = some q := let ⟨q, _, _, hq, _⟩ := dd'; ⟨q, hq⟩
  exact d_write I (by rw [e]; exact True.intro) hs he (dk_new hl hd (rel.put k rv) dd')
 ·subst ey eH
  cases (show u = Value.ref b from ry)
  obtain ⟨z, hd, xs, rel, dd⟩ := dt_of I.hok e
  have hz : xs.length <= sizeLine := by rw [<- Paired.length rel]; exact z
  have hl : (putK kvs k v).length <= sizeLine := by have := length_putK kvs k v; omega
  refine wpAny_setItem_heap (hsz := hz) (tupleKind_room_in1 hu) (key_of I.hok eb) dd λ h' dd' hs => h _ ?_
  obtain ⟨q, es, ep, hq, h2, h3, h4, _, h5⟩ := dd'
  refine d_write I (by rw [e]; exact True.intro) hs ⟨q, hq⟩ ⟨hl, hd, _, (rel.put k eb rv).keeps λ c ys ec => ?_, q, es, ep, hq, h2, h3, h4, h5⟩
  rw [upd_ne (ne_of ec e (λ z => nomatch z))]
  exact ec
end
section
variable {X : Cx} {pins : List (Addr × Obj)} {σ : St} {H : Hp} {s : Shared} {a : Addr} {kvs : List (Key × V)} {k : Key} {u : Value} {A : Around} {E : Value -> Shared -> Prop}
theorem d_len {Q : Value -> Shared -> Prop} (I : Inv X pins σ H s) (e : Rd H a (.dK kvs)) (h : ∀ t s', Inv X pins σ H s' -> Q (.int kvs.length t) s') : wpAny (model X.prog X.w) A (call (.builtin "len") [.ref a]) Q E s := by
 obtain ⟨z, hd, vs, rel, dd⟩ := dk_rd I.hok e
 refine call_len_dict hd dd (by rw [<- rel.length]; rw [sizeLine_eq] at z; omega) ?_
 rw [<- rel.length]
 exact h _ _ (I.tok _)
end
def NoSl (i : Expr) : Prop := ∀ ov iv, subscripted i false ov iv = operate [ov, iv] (getItem ov iv)
theorem subD_of {prog : Program} {w : World} {A : Around} {E : Value -> Shared -> Prop} {s : Shared} {env : Env} {value slice : Expr} {pos : Pos} {T id : String} {Q : Value -> Shared -> Prop}
  (hl : typeLookup (.type T) "__getitem__" = pure (some (.builtin id))) (hs : NoSl slice)
  (h : wpAny (model prog w) A (eval value env) (λ o s₁ => wpAny (model prog w) A (eval slice env) (λ i s₂ => s₂.TypeIs o T /\ wpAny (model prog w) A (getItem o i) Q E s₂) E s₁) E s) :
  wpAny (model prog w) A (eval (.Subscript value slice pos) env) Q E s := by
 refine Subscript_ (wpAny_mono h (λ o s₁ h₁ => wpAny_mono h₁ (λ i s₂ h₂ => ?_) λ _ _ x => x) λ _ _ x => x)
 obtain ⟨hT, h₂⟩ := h₂
 unfold subscriptTail
 refine wpAny_bind ?_
 rw [getitemInPython_of_ne hT.not_modules]
 refine wpAny_bind (wpAny_specialOf hT hl ?_)
 have fin : wpAny (model prog w) A (subscripted slice false o i) (λ r s₃ => wpAny (model prog w) A (letTemporaryGo value o r >>= λ _ => pure r) Q E s₃) E s₂ := by
  rw [hs o i]
  exact wpAny_operating (wpAny_mono h₂ (λ r s₃ h₃ => wpAny_bind (wpAny_letTemporaryGo (wpAny_pure h₃))) λ _ _ x => x)
 first
  | exact wpAny_pure (wpAny_bind fin)
  | exact wpAny_bind (wpAny_pure (wpAny_bind fin))
  | exact wpAny_bind fin
theorem dict_typeIs {X : Cx} {pins : List (Addr × Obj)} {σ : St} {H : Hp} {s : Shared} {a : Addr} {y : V} {o : Option V} (I : Inv X pins σ H s) (g : DGet H a y o) : s.TypeIs (.ref a) "dict" := by
 rcases g with ⟨kvs, k, e, _, _⟩ | ⟨kvs, k, b, e, _, _, _⟩
 ·obtain ⟨_, _, vs, _, dd⟩ := dk_rd I.hok e
  exact dd.typeIs
 ·obtain ⟨_, _, xs, _, dd⟩ := dt_rd I.hok e
  exact dd.typeIs
def tDGet (td ty : TE) : TE := λ σ H Q => td σ H λ x H1 => ty σ H1 λ y H2 => ∃ a v, x = .ref a /\ DGet H2 a y (some v) /\ Q v H2
def sDPut (td ty tv : TE) : TS := λ D σ H => tv σ H λ v H1 => td σ H1 λ x H2 => ty σ H2 λ y H3 => ∃ a H4, x = .ref a /\ DPut H3 a y v H4 /\ D.nx σ H4
section
variable {X : Cx} {o i e value : Expr} {pos pos' tpos : Pos} {td ty tv : TE}
theorem pe_dget (hu : X.A.units + 1 < cLine) (ho : PE X o td) (hi : PE X i ty) (hs : NoSl i) : PE X (.Subscript o i pos) (tDGet td ty) := by
 intro pins s σ H Q I h
 refine subD_of PySem.F.slot_dict_getitem.lookup hs (thn (ho pins s σ H _ I h) λ u s1 ⟨x, H1, I1, rx, q1⟩ => thn (hi pins s1 σ H1 _ I1 q1) λ iv s2 ⟨y, H2, I2, ry, a, v, ex, g, q2⟩ => ?_)
 subst ex
 obtain rfl : u = Value.ref a := rx
 exact ⟨dict_typeIs I2 g, d_getItem hu I2 g ry λ w' s3 I3 rw' => ⟨v, H2, I3, rw', q2⟩⟩
theorem ps_dput (hu : X.A.units + 1 < cLine) (ho : PE X o td) (hi : PE X i ty) (hv : PE X value tv) (hs : swapsWith value (some (.Subscript o i pos')) pos.line X.env = pure false) :
  PS X (.Assign [.Subscript o i pos'] value pos) (sDPut td ty tv) := by
 intro pins s σ H D I h
 refine wpAny_Assign_Subscript (thn (hv pins s σ H _ I h) λ r s1 ⟨v, H1, I1, rv, q1⟩ => thn (ho pins s1 σ H1 _ I1 q1) λ u s2 ⟨x, H2, I2, rx, q2⟩ => thn (hi pins s2 σ H2 _ I2 q2) λ iv s3 ⟨y, H3, I3, ry, a, H4, ex, g, q3⟩ => ?_) hs
 subst ex
 obtain rfl : u = Value.ref a := rx
 exact d_setItem hu I3 g ry rv λ s4 I4 => ⟨σ, H4, I4, q3⟩
end
theorem dk_empty {P : Program} {w : World} {H : Hp} (h : Heap) (hb : sysModules < h.objs.size) : ObjOk P w H (h.push { cls := .type "dict", data := .dict #[] }) h.objs.size (.dK []) :=
 ⟨Nat.zero_le _, beq_eq_false_iff_ne.mpr (Ne.symm (Nat.ne_of_lt hb)), [], .nil, Heap.DictOf.new h⟩
def tDNewK : TE := λ _ H Q => ∀ p, H p = none -> Q (.ref p) (upd H p (.dK []))
section
variable {X : Cx} {pos : Pos}
theorem pe_dnewK : PE X (.Dict [] [] pos) tDNewK := λ pins s σ H Q I h =>
 wpAny_Dict_empty ⟨.ref s.heap.objs.size, _, I.laid (a := s.heap.objs.size) (o := .dK []) (t' := s.toks) (λ _ _ q => Heap.get?_push_of_some _ q) (Nat.le_refl _) (dk_empty s.heap I.big), rfl, h _ (I.hok.fresh (Nat.le_refl _))⟩
end
structure M2 (X : Cx) (o : Expr) (m : Str) (apos : Pos) (e f : Expr) (cpos : Pos) : Prop where
 base : attributeBase o m X.env (eval o X.env) = eval o X.env
 few : ((backTo cpos (starEach [e, f] X.env)).all (λ x => !x.1) && (backToKw cpos (keywordEach [] X.env)).all (λ x => x.1.isSome)
  && decide (([e, f] : List Expr).length + ([] : List Keyword).length + (if ([] : List Keyword).isEmpty then 0 else 1) < 30)) = true
 line : (apos.endLine == cpos.line) = true
 trees : backTo cpos (starEach [e, f] X.env) = [(false, eval e X.env), (false, eval f X.env)]
def IsD (H : Hp) (a : Addr) : Prop := (∃ kvs, Rd H a (.dK kvs)) ∨ ∃ kvs, Rd H a (.dT kvs)
theorem isD_at {X : Cx} {pins : List (Addr × Obj)} {σ : St} {H : Hp} {s : Shared} {a : Addr} (I : Inv X pins σ H s) (d : IsD H a) :
  s.TypeIs (.ref a) "dict" /\ (∀ b, Value.ref a = .ref b -> ∃ ob, s.heap.get? b = some ob /\ ob.dict = none) /\ (a == sysModules) = false := by
 rcases d with ⟨kvs, e⟩ | ⟨kvs, e⟩
 ·obtain ⟨_, hd, vs, _, dd⟩ := dk_rd I.hok e
  refine ⟨dd.typeIs, λ b q => ?_, hd⟩
  cases q
  obtain ⟨ob, _, _, h1, h2, _⟩ := dd
  exact ⟨ob, h1, h2.2.1⟩
 ·obtain ⟨_, hd, xs, _, dd⟩ := dt_rd I.hok e
  refine ⟨dd.typeIs, λ b q => ?_, hd⟩
  cases q
  obtain ⟨ob, _, _, h1, h2, _⟩ := dd
  exact ⟨ob, h1, h2.2.1⟩
section
variable {X : Cx} {pins : List (Addr × Obj)} {σ : St} {H : Hp} {s : Shared} {a : Addr} {y d : V} {u r : Value} {o : Option V} {A : Around} {E : Value -> Shared -> Prop}
theorem d_get2 {Q : Value -> Shared -> Prop} (hu : A.units + 1 < cLine) (I : Inv X pins σ H s) (g : DGet H a y o) (ry : RelV y u) (rd : RelV d r) (h : ∀ w' s', Inv X pins σ H s' -> RelV (o.getD d) w' -> Q w' s') :
  wpAny (model X.prog X.w) A (call (.builtin "dict.get") [.ref a, u, r]) Q E s := by
 rcases g with ⟨kvs, k, e, ey, l⟩ | ⟨kvs, k, b, e, ey, eb, l⟩
 ·subst ey
  obtain ⟨z, hd, vs, rel, dd⟩ := dk_rd I.hok e
  refine call_meetsIn PySem.F.slot_dict_get dd.typeIs PySem.F.entry_dict_get (PySem.F.args_dict_get_3 _ _ _) (meets_dict_get_default (mixKind X.prog X.w) a (kV_is ry) hd r) ⟨_, dd.mapOf, h _ _ (I.tok _) ?_⟩
  rw [l]
  exact (rel.val k).getD rd
 ·subst ey
  cases (show u = Value.ref b from ry)
  obtain ⟨z, hd, xs, rel, dd⟩ := dt_rd I.hok e
  refine call_meetsIn PySem.F.slot_dict_get dd.typeIs PySem.F.entry_dict_get (PySem.F.args_dict_get_3 _ _ _) (meetsH_dict_get_default (tupleKind (mixKind X.prog X.w)) a b hd r) ⟨tupleKind_room_in1 hu, k, xs, key_of I.hok eb, dd, h _ _ (I.tok _) ?_⟩
  rw [l]
  exact (rel.val k).getD rd
end
def tDGet2 (td ty tx : TE) : TE := λ σ H Q => td σ H λ x H1 => ∃ a, x = .ref a /\ IsD H1 a /\ ty σ H1 λ y H2 => tx σ H2 λ z H3 => ∃ o, DGet H3 a y o /\ Q (o.getD z) H3
section
variable {X : Cx} {o e f : Expr} {apos cpos : Pos} {td ty tx : TE}
theorem pe_dget2 (hu : X.A.units + 1 < cLine) (ho : PE X o td) (he : PE X e ty) (hf : PE X f tx) (m : M2 X o "get" apos e f cpos) : PE X (.Call (.Attribute o "get" apos) [e, f] [] cpos) (tDGet2 td ty tx) := by
 intro pins s σ H Q I h
 refine wpAny_Call_method m.base m.few m.line PySem.F.plainAttrs_dict PySem.F.slot_dict_get PySem.F.type_dict_get (thn (ho pins s σ H _ I h) λ u s1 ⟨x, H1, I1, rx, a, ex, d, q1⟩ => ?_)
 subst ex
 obtain rfl : u = Value.ref a := rx
 obtain ⟨t1, t2, _⟩ := isD_at I1 d
 refine ⟨t1, t2, ?_⟩
 rw [m.trees]
 refine Calls.callWith_builtin rfl (Calls.evalArgs_plain (Calls.spliced_cons (thn (he pins s1 σ H1 _ I1 q1) λ iv s2 ⟨y, H2, I2, ry, q2⟩ =>
  Calls.spliced_cons (thn (hf pins s2 σ H2 _ I2 q2) λ fv s3 ⟨z, H3, I3, rz, ov, g, q3⟩ => Calls.spliced_nil ?_))))
 exact d_get2 hu I3 g ry rz λ w' s4 I4 rw' => ⟨_, H3, I4, rw', q3⟩
end
end L2
namespace L2
open PySem PySem.Spec PyProof.Rows
theorem boot_reversed5 : bootBuiltins "reversed" = some (.type "reversed") := by decide +kernel
section
variable {X : Cx} {pins : List (Addr × Obj)} {σ : St} {H : Hp} {s : Shared} {h' : Heap}
theorem Inv.turnedL {t' : Nat} {ch : List Addr} (I : Inv X pins σ H s) (k : ∀ b o, b ∉ ch -> s.heap.get? b = some o -> h'.get? b = some o) (hf : ∀ b ∈ ch, FpOk X pins H b) : Inv X pins σ H { s with heap := h', toks := t' } := by
 have nit : ∀ b u, H b = some u -> b ∉ ch := λ b u e z => by
  have q := (hf b z).1
  rw [q] at e; cases e
 refine I.step (g' := s.gens) (d' := s.drawn) (ch := ch) (λ b hb => ⟨(hf b hb).2.2.2.1, (hf b hb).2.1, (hf b hb).2.2.2.2.1, (hf b hb).2.2.2.2.2⟩) (λ b o _ _ hc e _ => k b o hc e) (λ b o _ _ hc e _ => ⟨o.slots, k b o hc e⟩)
  (λ _ _ _ _ n => n) (λ b o hc e => ⟨o, k b o hc e⟩) (λ _ _ e => e) (λ _ _ _ e => e) (λ b ps e => ⟨#[], by rw [e]; simp⟩) (λ m hm => ?_) (λ b u e => ?_) I.bare
 ·obtain ⟨o, es, ep, ho, r⟩ := hm
  exact ⟨o, es, ep, k _ o (λ z => (hf _ z).2.1 rfl) ho, r⟩
 ·refine (I.hok b u e).stay (λ c v hc q => k c v ?_ q) (λ _ q => q) λ _ _ q => q
  rcases hc with z | z
  ·rw [z]; exact nit b u e
  ·exact nit c _ z
theorem Inv.turnedNew {t' : Nat} {ch : List Addr} {T : Addr} {ob : HO} (I : Inv X pins σ H s) (k : ∀ b o, b ∉ ch -> s.heap.get? b = some o -> h'.get? b = some o) (hf : ∀ b ∈ ch, FpOk X pins H b) (hT : s.heap.objs.size <= T)
  (new : ObjOk X.prog X.w (upd H T ob) h' T ob) : Inv X pins σ (upd H T ob) { s with heap := h', toks := t' } := by
 have hn : H T = none := I.hok.fresh hT
 have nit : ∀ b u, H b = some u -> b ∉ ch := λ b u e z => by
  have q := (hf b z).1
  rw [q] at e; cases e
 refine I.step (g' := s.gens) (d' := s.drawn) (ch := ch) (λ b hb => ⟨(hf b hb).2.2.2.1, (hf b hb).2.1, (hf b hb).2.2.2.2.1, (hf b hb).2.2.2.2.2⟩) (λ b o _ _ hc e _ => k b o hc e) (λ b o _ _ hc e _ => ⟨o.slots, k b o hc e⟩)
  (λ b o _ e n => ?_) (λ b o hc e => ⟨o, k b o hc e⟩) (λ b xs e => ?_) (λ b o u e => ?_) (λ b ps e => ⟨#[], ?_⟩) (λ m hm => ?_) (λ b u e => ?_) I.bare
 ·rw [upd_ne (Nat.ne_of_lt (Nat.lt_of_lt_of_le (Heap.lt_size e) hT))]; exact n
 ·rw [upd_ne (ne_of_none e hn)]; exact e
 ·rw [upd_ne (ne_of_none e hn)]; exact e
 ·rw [upd_ne (ne_of_none e hn), e]; simp
 ·obtain ⟨o, es, ep, ho, r⟩ := hm
  exact ⟨o, es, ep, k _ o (λ z => (hf _ z).2.1 rfl) ho, r⟩
 ·by_cases hb : b = T
  ·subst hb
   rw [upd_same] at e
   cases e
   exact new
  ·rw [upd_ne hb] at e
   refine (I.hok b u e).stay (λ c v hc q => k c v ?_ q) (λ c q => by rw [upd_ne (ne_of_none q hn)]; exact q) λ c xs q => by rw [upd_ne (ne_of_none q hn)]; exact q
   rcases hc with z | z
   ·rw [z]; exact nit b u e
   ·exact nit c _ z
end
section
variable {X : Cx}
theorem pi_one {tg : Expr} {pins : List (Addr × Obj)} {σ : St} {H : Hp} {s : Shared} {R : It -> Hp -> Prop} {J : It} {tn : Nat -> Heap -> Prop} {tk : Nat} (I : Inv X pins σ H s) (o : Obj)
  (T : Turn X.prog X.w X.K tg J [s.heap.objs.size] s.heap.objs.size tn) (st : tn 0 (s.heap.push o)) (q : R J H) : PIE X pins σ tg R (.ref s.heap.objs.size) { s with heap := s.heap.push o, toks := tk } := by
 refine ⟨s.heap.objs.size, [s.heap.objs.size], tn, J, H, rfl, I.kept λ b ob e => Heap.get?_push_of_some _ e, T, st, λ b hb => ?_, q⟩
 have e : b = s.heap.objs.size := by simpa using hb
 subst e
 exact I.fpOk (Nat.le_refl _) (I.hok.fresh (Nat.le_refl _))
end
def Itc (lo c : Int) (n : Nat) : It := ⟨λ i _ => i < n, λ i H x H' => H' = H /\ x = .int (lo + (i : Nat) * c), λ i _ => n <= i⟩
theorem turn_rangeC {P : Program} {w : World} {K : PySem.W.Frag} {tg : Expr} (it : Addr) (lo c : Int) (n : Nat) : Turn P w K tg (Itc lo c n) [it] it (λ i h => IsRangeIter h it (lo + (i : Nat) * c) ((n : Int) - (i : Nat)) c) where
 mem := by simp
 obj := λ i h st b hb => by
  have e : b = it := by simpa using hb
  subst e
  exact ⟨_, st, λ v z => nomatch z⟩
 keep := λ i h h' st k => k it (by simp) _ st
 item := by
  intro X hP hw hK hc i pins s σ H E I hf st hg
  subst hP hw hK
  obtain ⟨f0, f1, f2, f3, f4, f5⟩ := hf it (by simp)
  have W := Walks.range (prog := X.prog) (w := X.w) (I.ok.hd hc) it lo c n
  refine W.item i s _ _ hg st λ v h' tk hv st' kk => ?_
  obtain ⟨t, rfl⟩ := hv
  have I1 : Inv X pins σ H { s with heap := h', toks := tk } := I.turned (λ b o hb e => kk b o (by simpa using hb) e) f0 f1 f3 f4 f5
  exact ⟨_, rfl, go_of (s := { s with heap := h', toks := tk }) (n := "range_iterator") st' rfl rfl (by decide) ⟨.int (lo + (i : Nat) * c), H, I1, ⟨t, rfl⟩, ⟨rfl, rfl⟩, st', λ b hb => (hf b hb).1⟩⟩
 done := by
  intro X hP hw hK hc i pins s σ H E I hf st hg
  subst hP hw hK
  obtain ⟨f0, f1, f2, f3, f4, f5⟩ := hf it (by simp)
  exact wpAny_pyNext_range_end (I.ok.hd hc) st (by have : n <= i := hg; omega) λ h' eb => ⟨rfl, I.turned (t' := s.toks) (λ b o hb e => eb b o hb e) f0 f1 f3 f4 f5⟩
 self := λ A i s Q E st h => wpAny_pyIter_rangeiter st h
def RgC (i j c : Int) (n : Nat) : Prop := c ≠ 0 /\ c.natAbs < 1073741824 /\ Builtin.Range.small i j c = true /\ Builtin.Range.rangeSize i j c = n
def iRng3 (ta : TA) : TI := λ σ H R => ta σ H λ vs H1 => ∃ (i j c : Int) (n : Nat), vs = [.int i, .int j, .int c] /\ RgC i j c n /\ R (Itc i c n) H1
section
variable {X : Cx} {tg : Expr}
theorem pi_range3 {a b c : Expr} {ta : TA} {p pos : Pos} (hg : Gl X "range") (hm : X.mg "range" = none) (ha : PA X [a, b, c] ta)
  (hs : starEach [a, b, c] X.env = (false, eval a X.env) :: starEach [b, c] X.env := by rfl) (hpl : (backTo pos (starEach [b, c] X.env)).any (·.1) = false := by rfl) :
  PI X tg (.Call (.Name "range" p) [a, b, c] [] pos) (iRng3 ta) := by
 intro pins s σ H R I h
 refine Call_ (ld_blt I hg hm boot_range (PyProof.Rows.callWith_type1 (thn (ha pos pins s σ H _ I h) λ us s1 ⟨vs, H1, I1, r1, q1⟩ => ?_) hs hpl))
 obtain ⟨i, j, k, n, e, ⟨c0, c1, c2, c3⟩, q⟩ := q1
 subst e
 cases r1 with
 | cons r rr =>
  cases rr with
  | cons r' rr =>
   cases rr with
   | cons r'' rr =>
    cases rr
    obtain ⟨t, rfl⟩ := r
    obtain ⟨t', rfl⟩ := r'
    obtain ⟨t'', rfl⟩ := r''
    refine call_range_3 c0 ?_ (.inl (PyProof.noPylong_small c1))
    refine wpAny_pyIter_range (IsRange.new ..) c2 ?_
    have I2 : Inv X pins σ H1 { s1 with heap := s1.heap.push { cls := .type "range", data := .fields #[.int i t, .int j t', .int k t''] } } := I1.kept (t' := s1.toks) λ b o e => Heap.get?_push_of_some _ e
    refine pi_one (tk := s1.toks) I2 _ (turn_rangeC _ i k n) ?_ q
    have e1 : i + ((0 : Nat) : Int) * k = i := by simp
    have e2 : (n : Int) - ((0 : Nat) : Int) = Builtin.Range.rangeSize i j k := by rw [c3]; simp
    show IsRangeIter _ _ (i + ((0 : Nat) : Int) * k) ((n : Int) - ((0 : Nat) : Int)) k
    rw [e1, e2]
    exact Heap.get?_push_size _ rfl
end
def Itv (K : PySem.W.Frag) (a : Addr) (n : Nat) : It :=
 ⟨λ i H => i < n /\ ∃ (xs : List V) (x : V), SqL K H a xs /\ xs[n - 1 - i]? = some x, λ i H x H' => H' = H /\ ∀ xs, SqL K H a xs -> xs[n - 1 - i]? = some x, λ i _ => n <= i⟩
theorem turn_rev {P : Program} {w : World} {K : PySem.W.Frag} {tg : Expr} (a it : Addr) (n : Nat) : Turn P w K tg (Itv K a n) [it] it (λ i h => i <= n /\ h.IsRevIter it a ((n : Int) - 1 - (i : Nat))) where
 mem := by simp
 obj := λ i h st b hb => by
  have e : b = it := by simpa using hb
  subst e
  obtain ⟨_, o, e, c, d⟩ := st
  exact ⟨o, e, λ v z => by rw [d] at z; cases z⟩
 keep := λ i h h' st k => ⟨st.1, st.2.at λ o e => k it (by simp) o e⟩
 item := by
  intro X hP hw hK hc i pins s σ H E I hf st hg
  subst hP hw hK
  obtain ⟨hin, xs, x, hq, hx⟩ := hg
  obtain ⟨its, rv, p, hz⟩ := I.list hq
  obtain ⟨u, hu, ru⟩ := rv.get hx
  obtain ⟨f0, f1, f2, f3, f4, f5⟩ := hf it (by simp)
  obtain ⟨_, hit⟩ := st
  have e1 : (n : Int) - 1 - ((i : Nat) : Int) = ((n - 1 - i : Nat) : Int) := by omega
  rw [e1] at hit
  refine wpAny_pyNext_rev_item hit p.isList (x := u) (by simpa using hu) λ h' st' sb => ?_
  have e2 : ((n - 1 - i : Nat) : Int) - 1 = (n : Int) - 1 - ((i + 1 : Nat) : Int) := by omega
  rw [e2] at st'
  have I1 : Inv X pins σ H { s with heap := h' } := I.turned (t' := s.toks) (λ b o hb e => (sb.2 b hb).trans e) f0 f1 f3 f4 f5
  obtain ⟨o, e, c, d⟩ := id st'
  exact ⟨u, rfl, go_of (s := { s with heap := h' }) e c d (by decide) ⟨x, H, I1, ru, ⟨rfl, λ ys hy => by rw [I.list_inj hy hq]; exact hx⟩, ⟨hin, st'⟩, λ b hb => (hf b hb).1⟩⟩
 done := by
  intro X hP hw hK hc i pins s σ H E I hf st hg
  subst hP hw hK
  obtain ⟨f0, f1, f2, f3, f4, f5⟩ := hf it (by simp)
  obtain ⟨hin, hit⟩ := st
  have hge : n <= i := hg
  have e1 : (n : Int) - 1 - ((i : Nat) : Int) = -1 := by omega
  rw [e1] at hit
  exact wpAny_pyNext_rev_end (I.ok.hd hc) hit λ h' eb => ⟨rfl, I.turned (t' := s.toks) (λ b o hb e => eb b o hb e) f0 f1 f3 f4 f5⟩
 self := λ A i s Q E st h => wpAny_pyIter_revIter st.2 h
def iRev (K : PySem.W.Frag) (ta : TA) : TI := λ σ H R => ta σ H λ vs H1 => ∃ (a : Addr) (xs : List V), vs = [.ref a] /\ SqL K H1 a xs /\ R (Itv K a xs.length) H1
section
variable {X : Cx} {tg : Expr}
theorem pi_reversed {e : Expr} {ta : TA} {p pos : Pos} (hg : Gl X "reversed") (hm : X.mg "reversed" = none) (ha : PA X [e] ta) (hs : starEach [e] X.env = [(false, eval e X.env)] := by rfl) : PI X tg (.Call (.Name "reversed" p) [e] [] pos) (iRev X.K ta) := by
 intro pins s σ H R I h
 refine Call_ (ld_blt I hg hm boot_reversed5 (PyProof.Rows.callWith_type1 (thn (ha pos pins s σ H _ I h) λ us s1 ⟨vs, H1, I1, r1, q1⟩ => ?_) hs rfl))
 obtain ⟨a, xs, e, hq, q⟩ := q1
 subst e
 cases r1 with
 | cons r rr =>
  cases rr
  cases r
  obtain ⟨its, rv, p', hz⟩ := I1.list hq
  have hl := rv.length
  have e1 : ((its.toArray.size : Nat) : Int) - 1 = (xs.length : Int) - 1 - ((0 : Nat) : Int) := by simp only [List.size_toArray]; omega
  refine call_reversed_list p'.isList (wpAny_pyIter_revIter (l := a) (i := ((its.toArray.size : Nat) : Int) - 1) ⟨_, Heap.get?_push_size _ rfl, rfl, rfl⟩ ?_)
  refine pi_one (tk := s1.toks) I1 _ (turn_rev a _ xs.length) ⟨Nat.zero_le _, ?_⟩ q
  rw [<- e1]
  exact ⟨_, Heap.get?_push_size _ rfl, rfl, rfl⟩
end
def Ite (K : PySem.W.Frag) (a : Addr) : It :=
 ⟨λ i H => ∃ (xs : List V) (x : V), SqL K H a xs /\ xs[i]? = some x, λ i H v H' => ∃ T x, v = .ref T /\ H T = none /\ H' = upd H T (.tup [.int (i : Nat), x]) /\ ∀ xs, SqL K H a xs -> xs[i]? = some x, λ i H => ∃ xs : List V, SqL K H a xs /\ xs.length <= i⟩
theorem turn_enum {P : Program} {w : World} {K : PySem.W.Frag} {elts : List Expr} {kk : Nat} {tpos : Pos} (a e it : Addr) :
  Turn P w K (.Tuple elts kk tpos) (Ite K a) [e, it] e (λ i h => (∃ old, IsEnum h e it ((i : Nat) : Int) old) /\ h.IsListIter it a i /\ e ≠ it) where
 mem := by simp
 obj := λ i h st b hb => by
  obtain ⟨⟨old, he⟩, ⟨o, ho, hc, hd⟩, _⟩ := st
  have e' : b = e ∨ b = it := by simpa using hb
  rcases e' with z | z
  ·rw [z]; exact ⟨_, he, λ v q => nomatch q⟩
  ·rw [z]; exact ⟨o, ho, λ v q => by rw [hd] at q; cases q⟩
 keep := λ i h h' st k => let ⟨⟨old, he⟩, hi, hne⟩ := st; ⟨⟨old, k e (by simp) _ he⟩, hi.at λ o q => k it (by simp) o q, hne⟩
 item := by
  intro X hP hw hK hc i pins s σ H E I hf st hg
  subst hP hw hK
  obtain ⟨⟨old, he⟩, hit, hne⟩ := st
  obtain ⟨xs, x, hq, hx⟩ := hg
  obtain ⟨its, rv, p, hz⟩ := I.list hq
  obtain ⟨u, hu, ru⟩ := rv.get hx
  have hel : e < s.heap.objs.size := Heap.lt_size he
  have hil : it < s.heap.objs.size := by obtain ⟨_, q, _⟩ := hit; exact Heap.lt_size q
  refine wpAny_pyNext_enum_item he hit p.isList (x := u) (by simpa using hu) hne λ h' ho hit' hT hsz hk => ?_
  refine ⟨_, rfl, wpAny_letOwnedTupleGo_enum (s := { s with heap := h', toks := s.toks + 1 }) ho λ h'' he' sb => ?_⟩
  have hT2 : h''.get? s.heap.objs.size = some { cls := .type "tuple", data := .seq #[.int i s.toks, u] } := (sb.2 _ (Nat.ne_of_gt hel)).trans hT
  have new : ObjOk X.prog X.w (upd H s.heap.objs.size (.tup [.int (i : Nat), x])) h'' s.heap.objs.size (.tup [.int (i : Nat), x]) :=
   ⟨by show 2 <= sizeLine; decide, [.int i s.toks, u], .cons ⟨_, rfl⟩ (.cons ru .nil), ⟨_, hT2, rfl, _, rfl⟩⟩
  have I1 : Inv X pins σ (upd H s.heap.objs.size (.tup [.int (i : Nat), x])) { s with heap := h'', toks := s.toks + 1 } :=
   I.turnedNew (ch := [e, it]) (λ b ob hb q => (sb.2 b (λ z => hb (by simp [z]))).trans (hk b ob (λ z => hb (by simp [z])) (λ z => hb (by simp [z])) q)) hf (Nat.le_refl _) new
  refine ⟨.ref s.heap.objs.size, _, I1, rfl, ⟨_, x, rfl, I.hok.fresh (Nat.le_refl _), rfl, λ ys hy => by rw [I.list_inj hy hq]; exact hx⟩, ⟨⟨u, ?_⟩, hit'.at λ o q => (sb.2 it (Ne.symm hne)).trans q, hne⟩, λ b hb => ?_⟩
  ·have e1 : ((i + 1 : Nat) : Int) = (i : Int) + 1 := by omega
   rw [e1]; exact he'
  ·have hb' : b < s.heap.objs.size := by
    have e' : b = e ∨ b = it := by simpa using hb
    rcases e' with z | z
    ·rw [z]; exact hel
    ·rw [z]; exact hil
   rw [upd_ne (Nat.ne_of_lt hb')]
   exact (hf b hb).1
 done := by
  intro X hP hw hK hc i pins s σ H E I hf st hg
  subst hP hw hK
  obtain ⟨⟨old, he⟩, hit, hne⟩ := st
  obtain ⟨xs, hq, hx⟩ := hg
  obtain ⟨its, rv, p, hz⟩ := I.list hq
  obtain ⟨f0, f1, f2, f3, f4, f5⟩ := hf it (by simp)
  have hl := rv.length
  exact wpAny_pyNext_enum_end (I.ok.hd hc) he hit p.isList (by simp; omega) λ h' eb => ⟨rfl, I.turned (t' := s.toks) (λ b o hb q => eb b o hb q) f0 f1 f3 f4 f5⟩
 self := λ A i s Q E st h => let ⟨⟨_, he⟩, _⟩ := st; wpAny_pyIter_enum he h
def iEnum (K : PySem.W.Frag) (ta : TA) : TI := λ σ H R => ta σ H λ vs H1 => ∃ a xs, vs = [.ref a] /\ SqL K H1 a xs /\ R (Ite K a) H1
theorem pi_enum {X : Cx} {e : Expr} {ta : TA} {p pos tpos : Pos} {elts : List Expr} {kk : Nat} (hg : Gl X "enumerate") (hm : X.mg "enumerate" = none) (ha : PA X [e] ta) (hs : starEach [e] X.env = [(false, eval e X.env)] := by rfl) :
  PI X (.Tuple elts kk tpos) (.Call (.Name "enumerate" p) [e] [] pos) (iEnum X.K ta) := by
 intro pins s σ H R I h
 refine Call_ (ld_blt I hg hm boot_enumerate (PyProof.Rows.callWith_type1 (thn (ha pos pins s σ H _ I h) λ us s1 ⟨vs, H1, I1, r1, q1⟩ => ?_) hs rfl))
 obtain ⟨a, xs, ex, hq, q⟩ := q1
 subst ex
 cases r1 with
 | cons r rr =>
  cases rr
  cases r
  obtain ⟨its, rv, p', hz⟩ := I1.list hq
  refine call_enumerate_list p'.isList λ h' he hit hsz hk => wpAny_pyIter_enum he ?_
  have I2 : Inv X pins σ H1 { s1 with heap := h' } := I1.kept (t' := s1.toks) hk
  refine ⟨s1.heap.objs.size + 1, [s1.heap.objs.size + 1, s1.heap.objs.size], _, _, H1, rfl, I2, turn_enum a (s1.heap.objs.size + 1) s1.heap.objs.size, ⟨⟨.none, he⟩, hit, Nat.succ_ne_self _⟩, λ b hb => ?_, q⟩
  have e' : b = s1.heap.objs.size + 1 ∨ b = s1.heap.objs.size := by simpa using hb
  have hle : s1.heap.objs.size <= b := by
   rcases e' with z | z
   ·rw [z]; exact Nat.le_add_right _ _
   ·rw [z]; exact Nat.le_refl _
  exact I1.fpOk hle (I1.hok.fresh hle)
theorem boot_zip5 : bootBuiltins "zip" = some (.type "zip") := by decide +kernel
def Itz (K : PySem.W.Frag) (a b : Addr) : It :=
 ⟨λ i H => ∃ (xs ys : List V) (x y : V), SqL K H a xs /\ SqL K H b ys /\ xs[i]? = some x /\ ys[i]? = some y,
  λ i H v H' => ∃ T x y, v = .ref T /\ H T = none /\ H' = upd H T (.tup [x, y]) /\ (∀ xs, SqL K H a xs -> xs[i]? = some x) /\ ∀ ys, SqL K H b ys -> ys[i]? = some y,
  λ i H => ∃ xs ys : List V, SqL K H a xs /\ SqL K H b ys /\ (xs.length <= i ∨ ys.length <= i)⟩
theorem turn_zip {P : Program} {w : World} {K : PySem.W.Frag} {elts : List Expr} {kk : Nat} {tpos : Pos} {a b z TI TO i1 i2 : Addr} (D : ZipApart z TI TO i1 i2 a b) :
  Turn P w K (.Tuple elts kk tpos) (Itz K a b) [z, TI, TO, i1, i2] z (λ i h => IsZip h z TI TO .none /\ IsPair h TI (.ref i1) (.ref i2) /\ (∃ x y, IsPair h TO x y) /\ h.IsListIter i1 a i /\ h.IsListIter i2 b i) where
 mem := by simp
 obj := λ i h st c hc => by
  obtain ⟨hz, hTI, ⟨x, y, hTO⟩, ⟨o1, e1, _, d1⟩, ⟨o2, e2, _, d2⟩⟩ := st
  have e' : c = z ∨ c = TI ∨ c = TO ∨ c = i1 ∨ c = i2 := by simpa using hc
  rcases e' with q | q | q | q | q
  ·rw [q]; exact ⟨_, hz, λ v q => nomatch q⟩
  ·rw [q]; exact ⟨_, hTI, λ v q => nomatch q⟩
  ·rw [q]; exact ⟨_, hTO, λ v q => nomatch q⟩
  ·rw [q]; exact ⟨o1, e1, λ v q => by rw [d1] at q; cases q⟩
  ·rw [q]; exact ⟨o2, e2, λ v q => by rw [d2] at q; cases q⟩
 keep := λ i h h' st k => by
  obtain ⟨hz, hTI, ⟨x, y, hTO⟩, h1, h2⟩ := st
  exact ⟨k z (by simp) _ hz, k TI (by simp) _ hTI, ⟨x, y, k TO (by simp) _ hTO⟩, h1.at λ o q => k i1 (by simp) o q, h2.at λ o q => k i2 (by simp) o q⟩
 item := by
  intro X hP hw hK hc i pins s σ H E I hf st hg
  subst hP hw hK
  obtain ⟨hz, hTI, ⟨x0, y0, hTO⟩, h1, h2⟩ := st
  obtain ⟨xs, ys, x, y, hqx, hqy, hx, hy⟩ := hg
  obtain ⟨its, rv, p, _⟩ := I.list hqx
  obtain ⟨its2, rv2, p2, _⟩ := I.list hqy
  obtain ⟨u, hu, ru⟩ := rv.get hx
  obtain ⟨u2, hu2, ru2⟩ := rv2.get hy
  have hzl : z < s.heap.objs.size := Heap.lt_size hz
  refine wpAny_pyNext_zip_item D hz hTI hTO h1 h2 p.isList p2.isList (x := u) (y := u2) (by simpa using hu) (by simpa using hu2) λ h' z' TO' h1' h2' hT hsz hk => ?_
  refine ⟨_, rfl, wpAny_letOwnedTupleGo_zip (s := { s with heap := h' }) z' λ h'' z'' sb => ?_⟩
  have hT2 : h''.get? s.heap.objs.size = some { cls := .type "tuple", data := .seq #[u, u2] } := (sb.2 _ (Nat.ne_of_gt hzl)).trans hT
  have new : ObjOk X.prog X.w (upd H s.heap.objs.size (.tup [x, y])) h'' s.heap.objs.size (.tup [x, y]) :=
   ⟨by show 2 <= sizeLine; decide, [u, u2], .cons ru (.cons ru2 .nil), ⟨_, hT2, rfl, _, rfl⟩⟩
  have I1 : Inv X pins σ (upd H s.heap.objs.size (.tup [x, y])) { s with heap := h'' } :=
   I.turnedNew (t' := s.toks) (ch := [z, TI, TO, i1, i2]) (λ c o hb q => (sb.2 c (λ q' => hb (by simp [q']))).trans (hk c o (λ q' => hb (by simp [q'])) (λ q' => hb (by simp [q'])) (λ q' => hb (by simp [q'])) (λ q' => hb (by simp [q'])) q)) hf (Nat.le_refl _) new
  refine ⟨.ref s.heap.objs.size, _, I1, rfl, ⟨_, x, y, rfl, I.hok.fresh (Nat.le_refl _), rfl, λ l hl => by rw [I.list_inj hl hqx]; exact hx, λ l hl => by rw [I.list_inj hl hqy]; exact hy⟩, ⟨z'', ?_, ⟨u, u2, ?_⟩, ?_, ?_⟩, λ c hcm => ?_⟩
  ·exact (sb.2 _ D.TIz).trans (hk _ _ D.TIz D.TITO D.TIi1 D.TIi2 hTI)
  ·exact (sb.2 _ D.TOz).trans TO'
  ·exact h1'.at λ o q => (sb.2 _ D.i1z).trans q
  ·exact h2'.at λ o q => (sb.2 _ D.i2z).trans q
  ·have hlt : c < s.heap.objs.size := by
    have e' : c = z ∨ c = TI ∨ c = TO ∨ c = i1 ∨ c = i2 := by simpa using hcm
    rcases e' with q | q | q | q | q
    ·rw [q]; exact hzl
    ·rw [q]; exact Heap.lt_size hTI
    ·rw [q]; exact Heap.lt_size hTO
    ·rw [q]; obtain ⟨_, e1, _⟩ := h1; exact Heap.lt_size e1
    ·rw [q]; obtain ⟨_, e2, _⟩ := h2; exact Heap.lt_size e2
   rw [upd_ne (Nat.ne_of_lt hlt)]
   exact (hf c hcm).1
 done := by
  intro X hP hw hK hc i pins s σ H E I hf st hg
  subst hP hw hK
  obtain ⟨hz, hTI, ⟨x0, y0, hTO⟩, h1, h2⟩ := st
  obtain ⟨xs, ys, hqx, hqy, hend⟩ := hg
  obtain ⟨its, rv, p, _⟩ := I.list hqx
  obtain ⟨its2, rv2, p2, _⟩ := I.list hqy
  have l1 := rv.length
  have l2 := rv2.length
  have he : its.toArray[i]? = none ∨ its2.toArray[i]? = none := by
   rcases hend with q | q
   ·exact .inl (by simp; omega)
   ·exact .inr (by simp; omega)
  exact wpAny_pyNext_zip_end (I.ok.hd hc) D hz hTI hTO h1 h2 p.isList p2.isList he λ h' hk => ⟨rfl, I.turnedL (t' := s.toks) (ch := [z, TI, TO, i1, i2]) (λ c o hb q =>
   hk c o (λ q' => hb (by simp [q'])) (λ q' => hb (by simp [q'])) (λ q' => hb (by simp [q'])) (λ q' => hb (by simp [q'])) q) hf⟩
 self := λ A i s Q E st h => wpAny_pyIter_zip st.1 h
def iZip (K : PySem.W.Frag) (ta : TA) : TI := λ σ H R => ta σ H λ vs H1 => ∃ a b xs ys, vs = [.ref a, .ref b] /\ SqL K H1 a xs /\ SqL K H1 b ys /\ R (Itz K a b) H1
theorem pi_zip {X : Cx} {e e2 : Expr} {ta : TA} {p pos tpos : Pos} {elts : List Expr} {kk : Nat} (hg : Gl X "zip") (hm : X.mg "zip" = none) (ha : PA X [e, e2] ta)
  (hs : starEach [e, e2] X.env = (false, eval e X.env) :: starEach [e2] X.env := by rfl) (hpl : (backTo pos (starEach [e2] X.env)).any (·.1) = false := by rfl) :
  PI X (.Tuple elts kk tpos) (.Call (.Name "zip" p) [e, e2] [] pos) (iZip X.K ta) := by
 intro pins s σ H R I h
 refine Call_ (ld_blt I hg hm boot_zip5 (PyProof.Rows.callWith_type1 (thn (ha pos pins s σ H _ I h) λ us s1 ⟨vs, H1, I1, r1, q1⟩ => ?_) hs hpl))
 obtain ⟨a, b, xs, ys, ex, hqx, hqy, q⟩ := q1
 subst ex
 cases r1 with
 | cons r rr =>
  cases rr with
  | cons r' rr =>
   cases rr
   cases r
   cases r'
   obtain ⟨its, rv, p1, _⟩ := I1.list hqx
   obtain ⟨its2, rv2, p2, _⟩ := I1.list hqy
   have la : a < s1.heap.objs.size := p1.lt
   have lb : b < s1.heap.objs.size := p2.lt
   refine call_zip_2 p1.isList p2.isList λ h' hz hTI hTO h1 h2 hsz hk => wpAny_pyIter_zip hz ?_
   have I2 : Inv X pins σ H1 { s1 with heap := h' } := I1.kept (t' := s1.toks) hk
   refine ⟨s1.heap.objs.size + 4, [s1.heap.objs.size + 4, s1.heap.objs.size + 2, s1.heap.objs.size + 3, s1.heap.objs.size, s1.heap.objs.size + 1], _, _, H1, rfl, I2, turn_zip (PySem.W.ktu_apart s1.heap.objs.size a b la lb), ⟨hz, hTI, ⟨_, _, hTO⟩, h1, h2⟩, λ c hcm => ?_, q⟩
   have e' : c = s1.heap.objs.size + 4 ∨ c = s1.heap.objs.size + 2 ∨ c = s1.heap.objs.size + 3 ∨ c = s1.heap.objs.size ∨ c = s1.heap.objs.size + 1 := by simpa using hcm
   have hle : s1.heap.objs.size <= c := by
    rcases e' with z | z | z | z | z
    ·rw [z]; exact Nat.le_add_right _ _
    ·rw [z]; exact Nat.le_add_right _ _
    ·rw [z]; exact Nat.le_add_right _ _
    ·rw [z]; exact Nat.le_refl _
    ·rw [z]; exact Nat.le_add_right _ _
   exact I1.fpOk hle (I1.hok.fresh hle)
end L2
section 
end 
section 
end 
/- THE LAST THEOREM (shape; LID, My.* are yours):
  My.Adr: a structure of the addresses that your layer names (classes, functions); My.Txt K t: a structure (Prop) of the equations over K;
  My.txt_mk : {K} {implicit addresses ..} (e1 : nsIn K mainGlobals "law" = some (some (.ref f))) (e2 : K.lookup f = some ⟨oc, od, .func (fnOf "law" "law" params body scope dV kV doc pm an cdv ct), sl⟩) (e3 : codeIn K cdv "law" = true) .. : ∃ t, My.Txt K t
set_option maxRecDepth 100000 in
set_option maxHeartbeats 0 in
theorem PySem.Challenge.cw_LID_holds : PySem.Challenge.rw_LID.Holds := by
 w_on; o_law; k_head; (case hw => w_witness2)
 k_fill
 refine L2.walk_of (l := PySem.Challenge.rw_LID) (n := 63) (k := 40) (x := "script") (CX := λ w => ..) (sp := λ _ => My.sp_law) rfl (by decide) rfl ⟨rfl, by decide, by decide⟩ (λ w h Y => PySem.W.kIn_of Y) ?F ?S ?C
 case F =>
  intro w mg fa h KX G hmg
  have T : ∃ t, My.Txt (L2.KOf KX) t := by
   dsimp only [L2.KOf]                          -- K must stand as «<heap const> w.params» for k_is
   refine' My.txt_mk ?e1 ?e2 ?e3 ..
   (case e1 => PySem.W.k_is)                    -- in the order: a name -> its address -> its object -> its parts
   (case e2 => PySem.W.k_is)
   ..
  obtain ⟨t, T⟩ := T
  have e0 := hmg.symm.trans (PySem.W.mg_of KX G T.law)
  cases e0                                       -- fa is the law's own address
  exact ⟨_, λ s u => .of_eq rfl, λ base kb nb => My.law_fn T kb nb⟩     -- if «.of_eq rfl» comes too early: refine' ⟨_, ?b, λ base kb nb => My.law_fn T kb nb⟩; exact λ s u => .of_eq rfl
 case S => exact λ w H a ns hl hO hS => ..
 case C => exact ..
(the tactic k_is has no namespace: write k_is) -/
namespace L2
open PySem PySem.Spec PyProof.Rows
def inClass (s : Stmt) (j : Nat) : Stmt := match s with
 | .ClassDef _ _ _ body _ _ _ _ _ _ _ => body.getD j (.Pass ⟨0, 0, 0, 0⟩)
 | _ => .Pass ⟨0, 0, 0, 0⟩
def defArgs (s : Stmt) : Arguments := match s with
 | .FunctionDef _ a _ _ _ _ _ _ _ _ => a
 | _ => { posonlyargs := [], args := [], vararg := none, kwonlyargs := [], kw_defaults := [], kwarg := none, defaults := [] }
def defBody (s : Stmt) : List Stmt := match s with
 | .FunctionDef _ _ b _ _ _ _ _ _ _ => b
 | _ => []
def defScope (s : Stmt) : Scope := match s with
 | .FunctionDef _ _ _ _ _ _ sc _ _ _ => sc
 | _ => { kind := .function, names := [], isGenerator := false, isCoroutine := false }
abbrev CX0 : CXT := λ _ _ _ _ _ _ => False
abbrev E0 : XK := λ _ _ _ => False
theorem pass0 {X : Cx} : Passes CX0 X E0 := λ _ _ _ _ _ _ _ h => h.elim
structure Fun (K : PySem.W.Frag) (x qual : Str) (st : Stmt) (f : Addr) (fd : FuncData) : Prop where
 ex : ∃ (oc : Value) (od : Option Addr) (kV doc pm : Value) (an : Option Addr) (cdv ct : Value) (osl : Array (Option Value)),
  fd = PySem.W.fnOf x qual (defArgs st) (defBody st) (defScope st) .none kV doc pm an cdv ct /\ K.lookup f = some ⟨oc, od, .func fd, osl⟩ /\ PySem.W.codeIn K cdv qual = true
 kp : PySem.W.keepIn K (.ref f) = true
section
variable {P : Program} {w : World} {K : PySem.W.Frag} {mg : Str -> Option Value} {base : Heap}
theorem Fun.ok {x qual : Str} {st : Stmt} {f : Addr} {fd : FuncData} {N ps : List Str} {k : Nat} {sp : Sp} (F : Fun K x qual st f fd) (S : FnScope N ps (defScope st)) (len : ∀ vs H Q E, sp vs H Q E -> vs.length = ps.length)
  (hbody : ∀ (cdv : Value) (A : Around) (outer : List Env) (s : Shared) (H : Hp) (vs : List V) (Q : VK) (E : XK), Room k (A.deeper (envOfC qual (defScope st) s.heap.objs.size f cdv)) -> sp vs H Q E ->
   ∃ t, PSs (cxOf CX0 P w K mg base N qual (defScope st) f cdv A outer s H E).nox (defBody st) t /\ t { nx := λ _ H' => Q .non H', rt := Q } (start N vs) H) : FnOk P w K mg base CX0 (k + 1) f fd ps sp := by
 obtain ⟨oc, od, kV, doc, pm, an, cdv, ct, osl, rfl, lk, hcd⟩ := F.ex
 refine fn_of lk hcd S len λ A outer s H vs Q E hr hsp => ?_
 obtain ⟨t, h, q⟩ := hbody cdv A outer s H vs Q E hr hsp
 exact ⟨t, h.nox, q⟩
theorem Fun.binds {x qual : Str} {st : Stmt} {f : Addr} {fd : FuncData} {ps : List Str} (F : Fun K x qual st f fd)
  (h : ∀ (kV doc pm : Value) (an : Option Addr) (cdv ct : Value) (us : List Value), us.length = ps.length -> bindArgs (PySem.W.fnOf x qual (defArgs st) (defBody st) (defScope st) .none kV doc pm an cdv ct) ⟨us, []⟩ = pure (ps.zip us)) : Binds K fd ps [] := by
 obtain ⟨oc, od, kV, doc, pm, an, cdv, ct, osl, rfl, lk, hcd⟩ := F.ex
 exact .all (h kV doc pm an cdv ct)
theorem fun_mk {x qual : Str} {st : Stmt} {f : Addr} {oc : Value} {od an : Option Addr} {osl : Array (Option Value)} {kV doc pm cdv ct : Value} (l : K.lookup f = some ⟨oc, od, .func (PySem.W.fnOf x qual (defArgs st) (defBody st) (defScope st) .none kV doc pm an cdv ct), osl⟩)
  (c : PySem.W.codeIn K cdv qual = true) (k : PySem.W.keepIn K (.ref f) = true) : Fun K x qual st f (PySem.W.fnOf x qual (defArgs st) (defBody st) (defScope st) .none kV doc pm an cdv ct) := ⟨⟨oc, od, kV, doc, pm, an, cdv, ct, osl, rfl, l, c⟩, k⟩
end
theorem hu_of {A : Around} {k : Nat} (hr : Room k A) : A.units + 1 < cLine := Nat.lt_of_le_of_lt (Nat.add_le_add_left (by decide : 1 <= 64) _) hr.units
section
variable {X : Cx}
theorem pv (i : Nat) {x : Str} {pos : Pos} (hN : X.N[i]? = some x := by rfl) (hv : Vis X.env.scope x := by first | exact Or.inl rfl | exact Or.inr (Or.inl rfl) | exact Or.inr (Or.inr rfl)) (hd : (x == ("__debug__" : Str)) = false := by decide)
  (hcd : (x == ("__classdict__" : Str)) = false := by decide) : PE X (.Name x pos) (tVar i) := pe_var hN hv hd hcd
theorem call_lenD : CallR X (.builtin "len") (λ xs H Q => ∃ a kvs, xs = [V.ref a] /\ H a = some (.dK kvs) /\ Q (.int kvs.length) H) := by
 intro pins s σ H xs us Q I r h
 obtain ⟨a, kvs, rfl, ha, q⟩ := h
 obtain ⟨u, rfl, ru⟩ := vals1 r
 cases ru
 exact d_len I (.inl ha) λ t s' I' => ⟨.int kvs.length, H, I', ⟨t, rfl⟩, q⟩
end
theorem iteF {A B : Prop} (h : B) : if false = true then A else B := by
 rw [if_neg Bool.false_ne_true]
 exact h
theorem iteT {A B : Prop} (h : A) : if true = true then A else B := by
 rw [if_pos rfl]
 exact h
theorem ite2 {c A B : Prop} [Decidable c] (h1 : c -> A) (h2 : ¬ c -> B) : if c then A else B := by
 by_cases h : c
 ·rw [if_pos h]
  exact h1 h
 ·rw [if_neg h]
  exact h2 h
def Same (H H' : Hp) : Prop := ∀ b o, H b = some o -> H' b = some o
theorem Same.refl (H : Hp) : Same H H := λ _ _ h => h
theorem Same.trans {H H1 H2 : Hp} (a : Same H H1) (b : Same H1 H2) : Same H H2 := λ c o h => b c o (a c o h)
theorem Same.free {H H' : Hp} (e : Same H H') {l : Addr} (h : H' l = Option.none) : H l = Option.none := by
 cases q : H l with
 | none => rfl
 | some o =>
  rw [e l o q] at h
  cases h
theorem Same.seq {K : PySem.W.Frag} {H H' : Hp} {a : Addr} {xs : List V} (e : Same H H') (h : SqL K H a xs) : SqL K H' a xs := by
 rcases h with (h | ⟨o, h⟩) | h
 ·exact .inl (.inl (e _ _ h))
 ·exact .inl (.inr ⟨o, e _ _ h⟩)
 ·exact .inr h
section
variable {κ : Type} [DecidableEq κ]
theorem nd_snoc : ∀ {l : List κ} {k : κ}, l.Nodup -> ¬ k ∈ l -> (l ++ [k]).Nodup
 | [], k, _, _ => by simp
 | a :: r, k, h, hk => by
  obtain ⟨h1, h2⟩ := List.nodup_cons.mp h
  show (a :: (r ++ [k])).Nodup
  refine List.nodup_cons.mpr ⟨λ m => ?_, nd_snoc h2 λ m => hk (List.mem_cons.mpr (Or.inr m))⟩
  rcases List.mem_append.mp m with q | q
  ·exact h1 q
  ·exact hk (List.mem_cons.mpr (Or.inl (List.mem_singleton.mp q).symm))
end
theorem at_of {xs : List V} {z : Int} {j : Nat} {v : V} (e : z = (j : Int)) (h : xs[j]? = some v) : atI xs z = some v := by
 rw [e]
 exact atI_nat h
end L2
section
set_option maxHeartbeats 2000000
namespace L2
open PySem PySem.Spec PyProof.Rows
open PySem.W (WData Codec OpenSpec Well WellAll ReadsW ReadsAllW)
mutual
inductive Dw (K : PySem.W.Frag) (H : Hp) : V -> WData -> Prop
 | non : Dw K H .non .none
 | bl (b : Bool) : Dw K H (.bl b) (.bool b)
 | int (i : Int) : Dw K H (.int i) (.int i)
 | str (x : Str) : Dw K H (.str x) (.str x)
 | byt (b : Array UInt8) : Dw K H (.byt b) (.bytes b.toList)
 | lst {a : Addr} {xs : List V} {ds : List WData} : SqL K H a xs -> DwAll K H xs ds -> Dw K H (.ref a) (.list ds)
 | tup {a : Addr} {xs : List V} {ds : List WData} : SqT K H a xs -> DwAll K H xs ds -> Dw K H (.ref a) (.tuple ds)
inductive DwAll (K : PySem.W.Frag) (H : Hp) : List V -> List WData -> Prop
 | nil : DwAll K H [] []
 | cons {v : V} {vs : List V} {d : WData} {ds : List WData} : Dw K H v d -> DwAll K H vs ds -> DwAll K H (v :: vs) (d :: ds)
end
theorem dw_ints {K : PySem.W.Frag} {H : Hp} : ∀ ns : List Int, DwAll K H (ns.map V.int) (ns.map WData.int)
 | [] => .nil
 | n :: r => .cons (.int n) (dw_ints r)
section
variable {P : Program} {w : World} {K : PySem.W.Frag} {H : Hp} {h : Heap} {R : PySem.W.WRecords} {cl : Str -> Option Addr}
theorem sqL_at {a : Addr} {xs : List V} (hok : HOk P w H h) (KX : K.In h) (q : SqL K H a xs) : ∃ (its : List Value) (o : Obj) (n : Nat), Vals xs its /\ h.get? a = some o /\ o.cls = .type "list" /\ o.data = .seq its.toArray n := by
 rcases q with q | ⟨o, its, n, e, hc, _, hd, _, hv, _⟩
 ·obtain ⟨_, its, n, hv, e⟩ := (show ObjOk P w H h a (.lst xs) from q.ok hok)
  exact ⟨its, _, n, hv, e, rfl, rfl⟩
 ·exact ⟨its.toList, o, n, hv, KX _ _ e, hc, by simp [hd]⟩
theorem sqT_at {a : Addr} {xs : List V} (hok : HOk P w H h) (KX : K.In h) (q : SqT K H a xs) : ∃ (its : List Value) (o : Obj) (n : Nat), Vals xs its /\ h.get? a = some o /\ o.cls = .type "tuple" /\ o.data = .seq its.toArray n := by
 rcases q with q | ⟨o, its, n, e, hc, hd, _, hv, _⟩
 ·obtain ⟨_, its, hv, o, e, hc, n, hd⟩ := (show ObjOk P w H h a (.tup xs) from q.ok hok)
  exact ⟨its, o, n, hv, e, hc, hd⟩
 ·exact ⟨its.toList, o, n, hv, KX _ _ e, hc, by simp [hd]⟩
mutual
theorem Dw.reads (hok : HOk P w H h) (KX : K.In h) : ∀ (d : WData) (v : V) (u : Value), Dw K H v d -> RelV v u -> ∃ as, ReadsW R cl h u d as
 | .none, _, _, x, r => by
  cases x
  cases r
  exact ⟨_, ReadsW.none⟩
 | .bool b, _, _, x, r => by
  cases x
  cases r
  exact ⟨_, ReadsW.bool b⟩
 | .int i, _, _, x, r => by
  cases x
  obtain ⟨t, rfl⟩ := r
  exact ⟨_, ReadsW.int i t⟩
 | .str s, _, _, x, r => by
  cases x
  obtain ⟨t, rfl⟩ := r
  exact ⟨_, ReadsW.str s t⟩
 | .bytes b, _, _, x, r => by
  cases x
  obtain ⟨t, rfl⟩ := r
  exact ⟨_, ReadsW.bytes _ t⟩
 | .list ds, _, _, x, r => by
  cases x with
  | lst hs ha =>
   cases r
   obtain ⟨its, o, n, rv, ho, hc, hd⟩ := sqL_at hok KX hs
   obtain ⟨as, hr⟩ := Dw.readsAll hok KX ds _ its ha rv
   exact ⟨_, ReadsW.list ho hc hd hr⟩
 | .tuple ds, _, _, x, r => by
  cases x with
  | tup hs ha =>
   cases r
   obtain ⟨its, o, n, rv, ho, hc, hd⟩ := sqT_at hok KX hs
   obtain ⟨as, hr⟩ := Dw.readsAll hok KX ds _ its ha rv
   exact ⟨_, ReadsW.tuple ho hc hd hr⟩
 | .float _, _, _, x, _ => by cases x
 | .dict _, _, _, x, _ => by cases x
 | .bytearray _, _, _, x, _ => by cases x
 | .set _, _, _, x, _ => by cases x
 | .frozenset _, _, _, x, _ => by cases x
 | .obj _ _, _, _, x, _ => by cases x
theorem Dw.readsAll (hok : HOk P w H h) (KX : K.In h) : ∀ (ds : List WData) (vs : List V) (us : List Value), DwAll K H vs ds -> Vals vs us -> ∃ as, ReadsAllW R cl h us ds as
 | [], _, _, x, r => by
  cases x
  cases r
  exact ⟨_, ReadsAllW.nil⟩
 | d :: ds, _, _, x, r => by
  cases x with
  | cons h1 h2 =>
   cases r with
   | cons r1 r2 =>
    obtain ⟨as, q1⟩ := Dw.reads hok KX d _ _ h1 r1
    obtain ⟨bs, q2⟩ := Dw.readsAll hok KX ds _ _ h2 r2
    exact ⟨_, ReadsAllW.cons q1 q2⟩
end
end
end L2
end
section
namespace Pc
open Vbpcao
def lows (s : State) : List Int := s.map λ n => n.b
def ups (s : State) : List Int := s.map λ n => n.a
theorem lows_len (s : State) : (lows s).length = s.length := List.length_map ..
theorem ups_len (s : State) : (ups s).length = s.length := List.length_map ..
def bAt (s : State) (i : Nat) : Int := (lows s).getD i 0
def aAt (s : State) (i : Nat) : Int := (ups s).getD i 0
theorem lows_at {s : State} {i : Nat} (h : i < s.length) : (lows s)[i]? = some (bAt s i) := by
 unfold bAt
 rw [List.getD_eq_getElem?_getD, List.getElem?_eq_getElem (by rw [lows_len]; exact h)]
 rfl
theorem ups_at {s : State} {i : Nat} (h : i < s.length) : (ups s)[i]? = some (aAt s i) := by
 unfold aAt
 rw [List.getD_eq_getElem?_getD, List.getElem?_eq_getElem (by rw [ups_len]; exact h)]
 rfl
theorem st_at {s : State} {i : Nat} (h : i < s.length) : s[i]? = some ⟨bAt s i, aAt s i⟩ := by
 have h1 := lows_at h
 have h2 := ups_at h
 unfold lows at h1
 unfold ups at h2
 rw [gem] at h1 h2
 rw [List.getElem?_eq_getElem h] at h1 h2 ⊢
 simp only [Option.map_some, Option.some.injEq] at h1 h2
 rw [<- h1, <- h2]
theorem find_range_some {p : Nat -> Bool} : ∀ {n i : Nat}, i < n -> p i = true -> (∀ j, j < i -> p j = false) -> (List.range n).find? p = some i := by
 intro n i hi hp hj
 rw [List.find?_eq_some_iff_append]
 refine ⟨hp, List.range i, (List.range' (i + 1) (n - i - 1)), ?_, λ a ha => ?_⟩
 ·rw [List.range_eq_range', List.range_eq_range']
  have e : n = i + (1 + (n - i - 1)) := by omega
  conv => lhs; rw [e, <- List.range'_append_1, <- List.range'_append_1]
  simp
 ·rw [List.mem_range] at ha
  rw [hj a ha]; rfl
theorem find_range_none {p : Nat -> Bool} {n : Nat} (h : ∀ j, j < n -> p j = false) : (List.range n).find? p = none := by
 rw [List.find?_eq_none]
 intro x hx
 rw [List.mem_range] at hx
 rw [h x hx]; exact Bool.false_ne_true
def nar (s : State) (k : Nat) : Option Nat := (List.range s.length).find? λ i => !pairFits s k i
theorem pair_at {s : State} {k i : Nat} (h : i + k < s.length) : pairFits s k i = (decide ((k : Int) <= bAt s (i + k) - aAt s i) && decide ((k : Int) <= aAt s (i + k) - bAt s i)) := by
 unfold pairFits
 rw [st_at h, st_at (show i < s.length by omega)]
theorem pair_out {s : State} {k i : Nat} (h : s.length <= i + k) : pairFits s k i = true := by
 unfold pairFits
 rw [List.getElem?_eq_none h]
 split
 ·rename_i e; cases e
 ·rfl
theorem nar_none {s : State} {k : Nat} (h : ∀ j, j + k < s.length -> pairFits s k j = true) : nar s k = none := by
 unfold nar
 refine find_range_none λ j hj => ?_
 by_cases q : j + k < s.length
 ·rw [h j q]; rfl
 ·rw [pair_out (by omega)]; rfl
theorem nar_some {s : State} {k i : Nat} (hi : i < s.length) (hf : pairFits s k i = false) (h : ∀ j, j < i -> pairFits s k j = true) : nar s k = some i := by
 unfold nar
 exact find_range_some hi (by rw [hf]; rfl) λ j hj => by rw [h j hj]; rfl
theorem fits_nar (s : State) (k : Nat) : fits s k = (nar s k).isNone := by
 unfold fits nar
 rw [Bool.eq_iff_iff, List.all_eq_true, Option.isNone_iff_eq_none, List.find?_eq_none]
 constructor
 ·intro h x hx; rw [h x hx]; decide
 ·intro h x hx
  have := h x hx
  cases e : pairFits s k x with
  | true => rfl
  | false => rw [e] at this; exact absurd rfl this
theorem fits_len {s : State} {k : Nat} (h : s.length <= k) : fits s k = true := by
 unfold fits
 rw [List.all_eq_true]
 intro x _
 exact pair_out (by omega)
theorem least_eq {s : State} {k : Nat} (hf : fits s k = true) (h : ∀ j, j < k -> fits s j = false) : least s = k := by
 unfold least
 have hk : k < s.length + 1 := by
  rcases Nat.lt_or_ge k (s.length + 1) with q | q
  ·exact q
  ·have := h s.length (by omega)
   rw [fits_len (Nat.le_refl _)] at this; cases this
 rw [find_range_some hk hf h]; rfl
theorem greatest_eq : ∀ {l : List Int} {m : Int}, m ∈ l -> (∀ y, y ∈ l -> y <= m) -> greatestInt l = m
 | [], m, h, _ => by cases h
 | [x], m, h, _ => by
  have e : m = x := by simpa using h
  unfold greatestInt; exact e.symm
 | x :: y :: r, m, h, hm => by
  unfold greatestInt
  by_cases q : m ∈ (y :: r)
  ·rw [greatest_eq q λ z hz => hm z (List.mem_cons_of_mem _ hz)]
   exact Int.max_eq_right (hm x List.mem_cons_self)
  ·have e : m = x := by
    rcases List.mem_cons.mp h with e | e
    ·exact e
    ·exact absurd e q
   subst e
   obtain ⟨g, hg, hg2⟩ : ∃ g, g ∈ (y :: r) /\ ∀ z, z ∈ (y :: r) -> z <= g := by
    clear h hm q
    induction r generalizing y with
    | nil => exact ⟨y, by simp, λ z hz => by simp at hz; omega⟩
    | cons w r ih =>
     obtain ⟨g, h1, h2⟩ := ih w
     by_cases hy : y <= g
     ·exact ⟨g, List.mem_cons_of_mem _ h1, λ z hz => by
       rcases List.mem_cons.mp hz with e | e
       ·rw [e]; exact hy
       ·exact h2 z e⟩
     ·exact ⟨y, by simp, λ z hz => by
       rcases List.mem_cons.mp hz with e | e
       ·rw [e]; exact Int.le_refl _
       ·have := h2 z e; omega⟩
   rw [greatest_eq hg hg2]
   exact Int.max_eq_left (hm g (List.mem_cons_of_mem _ hg))
theorem leastI_eq : ∀ {l : List Int} {m : Int}, m ∈ l -> (∀ y, y ∈ l -> m <= y) -> leastInt l = m
 | [], m, h, _ => by cases h
 | [x], m, h, _ => by
  have e : m = x := by simpa using h
  unfold leastInt; exact e.symm
 | x :: y :: r, m, h, hm => by
  unfold leastInt
  by_cases q : m ∈ (y :: r)
  ·rw [leastI_eq q λ z hz => hm z (List.mem_cons_of_mem _ hz)]
   exact Int.min_eq_right (hm x List.mem_cons_self)
  ·have e : m = x := by
    rcases List.mem_cons.mp h with e | e
    ·exact e
    ·exact absurd e q
   subst e
   obtain ⟨g, hg, hg2⟩ : ∃ g, g ∈ (y :: r) /\ ∀ z, z ∈ (y :: r) -> g <= z := by
    clear h hm q
    induction r generalizing y with
    | nil => exact ⟨y, by simp, λ z hz => by simp at hz; omega⟩
    | cons w r ih =>
     obtain ⟨g, h1, h2⟩ := ih w
     by_cases hy : g <= y
     ·exact ⟨g, List.mem_cons_of_mem _ h1, λ z hz => by
       rcases List.mem_cons.mp hz with e | e
       ·rw [e]; exact hy
       ·exact h2 z e⟩
     ·exact ⟨y, by simp, λ z hz => by
       rcases List.mem_cons.mp hz with e | e
       ·rw [e]; exact Int.le_refl _
       ·have := h2 z e; omega⟩
   rw [leastI_eq hg hg2]
   exact Int.min_eq_left (hm g (List.mem_cons_of_mem _ hg))
def gaps (s : State) (k : Nat) : List Int := (List.range (s.length - k)).map λ i => bAt s i - aAt s (i + k) + (k : Int)
def gaps2 (s : State) (k : Nat) : List Int := (List.range (s.length - k)).map λ i => bAt s (i + k) - aAt s i - (k : Int)
theorem spaced_at (s : State) (k : Nat) : spaced s k = (List.range (s.length - k)).map λ i => ((⟨bAt s i, aAt s i⟩ : Net), (⟨bAt s (i + k), aAt s (i + k)⟩ : Net)) := by
 unfold spaced
 refine List.ext_getElem? λ i => ?_
 rw [gem]
 by_cases h : i < s.length - k
 ·rw [List.getElem?_range h]
  have e1 : s[i]? = _ := st_at (show i < s.length by omega)
  have e2 : (s.drop k)[i]? = _ := (List.getElem?_drop ..).trans (st_at (show k + i < s.length by omega))
  rw [List.getElem?_zip_eq_some (z := ((⟨bAt s i, aAt s i⟩ : Net), (⟨bAt s (k + i), aAt s (k + i)⟩ : Net))) |>.mpr ⟨e1, e2⟩, Nat.add_comm k i]
  rfl
 ·rw [List.getElem?_eq_none (by rw [List.length_zip, List.length_drop]; omega), List.getElem?_eq_none (by rw [lnr]; omega)]
  rfl
theorem range_none {s : State} {k : Nat} (h : s.length <= k) : range s k = none := by
 unfold range
 rw [spaced_at, show s.length - k = 0 by omega]
 rfl
theorem range_some {s : State} {k : Nat} {lo hi : Int} (h : k < s.length) (h1 : lo ∈ gaps s k) (h2 : ∀ y, y ∈ gaps s k -> y <= lo) (h3 : hi ∈ gaps2 s k) (h4 : ∀ y, y ∈ gaps2 s k -> hi <= y) : range s k = some (lo, hi) := by
 have g1 : greatestInt ((spaced s k).map λ t => t.1.b - t.2.a) = lo - k := by
  rw [spaced_at, List.map_map]
  unfold gaps at h1 h2
  refine greatest_eq ?_ λ y hy => ?_
  ·obtain ⟨i, hi, e⟩ := List.mem_map.mp h1
   exact List.mem_map.mpr ⟨i, hi, by show bAt s i - aAt s (i + k) = _; omega⟩
  ·obtain ⟨i, hi, e⟩ := List.mem_map.mp hy
   have := h2 _ (List.mem_map.mpr ⟨i, hi, rfl⟩)
   have e : bAt s i - aAt s (i + k) = y := e
   omega
 have g2 : leastInt ((spaced s k).map λ t => t.2.b - t.1.a) = hi + k := by
  rw [spaced_at, List.map_map]
  unfold gaps2 at h3 h4
  refine leastI_eq ?_ λ y hy => ?_
  ·obtain ⟨i, hi, e⟩ := List.mem_map.mp h3
   exact List.mem_map.mpr ⟨i, hi, by show bAt s (i + k) - aAt s i = _; omega⟩
  ·obtain ⟨i, hi, e⟩ := List.mem_map.mp hy
   have := h4 _ (List.mem_map.mpr ⟨i, hi, rfl⟩)
   have e : bAt s (i + k) - aAt s i = y := e
   omega
 unfold range
 split
 ·rename_i e
  rw [spaced_at] at e
  have := congrArg List.length e
  rw [lnm, lnr] at this
  simp at this
  omega
 ·rw [g1, g2]
  congr 2 <;> omega
theorem best_eq {s : State} {k : Nat} (hf : open_ (range s k) = true) (h : ∀ j, j < k -> open_ (range s j) = false) : best s = k := by
 unfold best
 have hk : k < s.length + 1 := by
  rcases Nat.lt_or_ge k (s.length + 1) with q | q
  ·exact q
  ·have := h s.length (by omega)
   rw [range_none (Nat.le_refl _)] at this; cases this
 rw [find_range_some hk hf h]; rfl
theorem rises_iff : ∀ (l : List Int), rises l = true ↔ ∀ k x y, l[k]? = some x -> l[k + 1]? = some y -> x < y
 | [] => by simp [rises]
 | [a] => by
  simp only [rises, true_iff]
  intro k x y h1 h2
  simp at h2
 | a :: b :: r => by
  unfold rises
  rw [Bool.and_eq_true, dte, rises_iff (b :: r)]
  constructor
  ·rintro ⟨h1, h2⟩ k x y hx hy
   cases k with
   | zero =>
    simp at hx hy
    omega
   | succ k => exact h2 k x y (by simpa using hx) (by simpa using hy)
  ·intro h
   exact ⟨h 0 a b rfl rfl, λ k x y hx hy => h (k + 1) x y (by simpa using hx) (by simpa using hy)⟩
def risesB (l : List Int) : List Bool := (List.range (l.length - 1)).map λ k => decide (l.getD k 0 < l.getD (k + 1) 0)
theorem risesB_all (l : List Int) : (risesB l).all id = rises l := by
 rw [Bool.eq_iff_iff, rises_iff]
 unfold risesB
 rw [List.all_eq_true]
 constructor
 ·intro h k x y hx hy
  have hk : k + 1 < l.length := (List.getElem?_eq_some_iff.mp hy).1
  have := h _ (List.mem_map.mpr ⟨k, List.mem_range.mpr (by omega), rfl⟩)
  simp only [id, decide_eq_true_eq, List.getD_eq_getElem?_getD, hx, hy, Option.getD_some] at this
  exact this
 ·intro h b hb
  obtain ⟨k, hk, rfl⟩ := List.mem_map.mp hb
  rw [List.mem_range] at hk
  simp only [id, decide_eq_true_eq, List.getD_eq_getElem?_getD]
  rw [List.getElem?_eq_getElem (show k < l.length by omega), List.getElem?_eq_getElem (show k + 1 < l.length by omega)]
  exact h k _ _ (List.getElem?_eq_getElem (show k < l.length by omega)) (List.getElem?_eq_getElem (show k + 1 < l.length by omega))
theorem rises_pw : ∀ {l : List Int}, rises l = true -> l.Pairwise (· < ·)
 | [], _ => .nil
 | [a], _ => by simp
 | a :: b :: r, h => by
  unfold rises at h
  rw [Bool.and_eq_true, dte] at h
  have ih := rises_pw h.2
  refine List.pairwise_cons.mpr ⟨λ z hz => ?_, ih⟩
  rcases List.mem_cons.mp hz with e | e
  ·rw [e]; exact h.1
  ·have := (List.pairwise_cons.mp ih).1 z e
   omega
theorem pw_rises : ∀ {l : List Int}, l.Pairwise (· < ·) -> rises l = true
 | [], _ => rfl
 | [a], _ => rfl
 | a :: b :: r, h => by
  unfold rises
  obtain ⟨h1, h2⟩ := List.pairwise_cons.mp h
  rw [Bool.and_eq_true, dte]
  exact ⟨h1 b (by simp), pw_rises h2⟩
structure Good (s : State) : Prop where
 lo : (lows s).Pairwise (· < ·)
 up : (ups s).Pairwise (· < ·)
 rb : ∀ n ∈ s, inRange n.b = true
 ra : ∀ n ∈ s, inRange n.a = true
theorem good_sound {s : State} : sound s = true ↔ Good s := by
 unfold sound
 rw [Bool.and_eq_true, Bool.and_eq_true, List.all_eq_true]
 constructor
 ·rintro ⟨h1, h2, h3⟩
  exact ⟨rises_pw h1, rises_pw h2, λ n hn => (Bool.and_eq_true _ _ ▸ h3 n hn).1, λ n hn => (Bool.and_eq_true _ _ ▸ h3 n hn).2⟩
 ·rintro ⟨h1, h2, h3, h4⟩
  exact ⟨pw_rises h1, pw_rises h2, λ n hn => by rw [Bool.and_eq_true]; exact ⟨h3 n hn, h4 n hn⟩⟩
theorem inRange_iff {x : Int} : inRange x = true ↔ -1000000000 <= x /\ x <= 1000000000 := by
 unfold inRange FAR
 rw [dte]
theorem good_nil : Good [] := ⟨.nil, .nil, (λ _ h => nomatch h), (λ _ h => nomatch h)⟩
end Pc
end
section
namespace Pc
open Vbpcao
def mkNets (bs as : List Int) : State := (bs.zip as).map λ x => ⟨x.1, x.2⟩
theorem lows_mk : ∀ {bs as : List Int}, bs.length = as.length -> lows (mkNets bs as) = bs
 | [], [], _ => rfl
 | b :: bs, a :: as, h => by
  have ih := lows_mk (bs := bs) (as := as) (by simpa using h)
  show b :: lows (mkNets bs as) = b :: bs
  rw [ih]
theorem ups_mk : ∀ {bs as : List Int}, bs.length = as.length -> ups (mkNets bs as) = as
 | [], [], _ => rfl
 | b :: bs, a :: as, h => by
  have ih := ups_mk (bs := bs) (as := as) (by simpa using h)
  show a :: ups (mkNets bs as) = a :: as
  rw [ih]
theorem mk_len {bs as : List Int} (h : bs.length = as.length) : (mkNets bs as).length = bs.length := by
 rw [<- lows_len, lows_mk h]
theorem mem_lows {s : State} {n : Net} (h : n ∈ s) : n.b ∈ lows s := List.mem_map.mpr ⟨n, h, rfl⟩
theorem mem_ups {s : State} {n : Net} (h : n ∈ s) : n.a ∈ ups s := List.mem_map.mpr ⟨n, h, rfl⟩
def pinRow (l : List Int) : Bool := l.all inRange && rises l
theorem pinRow_iff {l : List Int} : pinRow l = true ↔ (∀ x ∈ l, inRange x = true) /\ l.Pairwise (· < ·) := by
 unfold pinRow
 rw [Bool.and_eq_true, List.all_eq_true]
 exact ⟨λ h => ⟨h.1, rises_pw h.2⟩, λ h => ⟨h.1, pw_rises h.2⟩⟩
theorem good_rows {s : State} : Good s ↔ pinRow (lows s) = true /\ pinRow (ups s) = true := by
 rw [pinRow_iff, pinRow_iff]
 constructor
 ·intro g
  exact ⟨⟨λ x hx => by
    obtain ⟨n, hn, rfl⟩ := List.mem_map.mp hx
    exact g.rb n hn, g.lo⟩, ⟨λ x hx => by
    obtain ⟨n, hn, rfl⟩ := List.mem_map.mp hx
    exact g.ra n hn, g.up⟩⟩
 ·rintro ⟨⟨h1, h2⟩, ⟨h3, h4⟩⟩
  exact ⟨h2, h4, λ n hn => h1 _ (mem_lows hn), λ n hn => h3 _ (mem_ups hn)⟩
theorem sound_rows {s : State} : sound s = (pinRow (lows s) && pinRow (ups s)) := by
 rw [Bool.eq_iff_iff, Bool.and_eq_true, good_sound, good_rows]
theorem pins_ok {s : State} {bs as : List Int} (h1 : bs.length = as.length) (h2 : bs.length <= 64) (h3 : pinRow bs = true) (h4 : pinRow as = true) :
  step s (.pins bs as) = (mkNets bs as, [(bs.length : Int)]) /\ Good (mkNets bs as) := by
 have g : Good (mkNets bs as) := by rw [good_rows, lows_mk h1, ups_mk h1]; exact ⟨h3, h4⟩
 refine ⟨?_, g⟩
 have e : sound ((bs.zip as).map λ x => (⟨x.1, x.2⟩ : Net)) = true := good_sound.mpr g
 have e2 : (bs.length == as.length && decide (bs.length <= NETS)) = true := by
  rw [Bool.and_eq_true, beq_iff_eq, dte]
  exact ⟨h1, h2⟩
 have e3 : ((bs.zip as).map λ x => (⟨x.1, x.2⟩ : Net)).length = bs.length := mk_len h1
 simp only [step, must, change, e, e2, e3, bind, Except.bind, pure, Except.pure, if_true]
 rfl
theorem pins_bad {s : State} {bs as : List Int} (h : ¬ (bs.length = as.length /\ bs.length <= 64 /\ pinRow bs = true /\ pinRow as = true)) : step s (.pins bs as) = (s, [-3]) := by
 by_cases h1 : bs.length = as.length /\ bs.length <= 64
 ·have e2 : (bs.length == as.length && decide (bs.length <= NETS)) = true := by
   rw [Bool.and_eq_true, beq_iff_eq, dte]
   exact h1
  have e : sound ((bs.zip as).map λ x => (⟨x.1, x.2⟩ : Net)) = false := by
   show sound (mkNets bs as) = false
   rw [sound_rows, lows_mk h1.1, ups_mk h1.1]
   cases q1 : pinRow bs <;> cases q2 : pinRow as <;> first | rfl | exact absurd ⟨h1.1, h1.2, q1, q2⟩ h
  simp only [step, must, change, e, e2, bind, Except.bind, if_true]
  rfl
 ·have e2 : (bs.length == as.length && decide (bs.length <= NETS)) = false := by
   rw [Bool.eq_false_iff]
   intro q
   rw [Bool.and_eq_true, beq_iff_eq, dte] at q
   exact h1 q
  simp only [step, must, change, e2, bind, Except.bind]
  rfl
def place (l : List Int) (b : Int) : Nat := (l.filter λ x => decide (x < b)).length
theorem place_le (l : List Int) (b : Int) : place l b <= l.length := List.length_filter_le ..
def ins (l : List Int) (c : Nat) (x : Int) : List Int := l.take c ++ [x] ++ l.drop c
theorem ins_len {l : List Int} {c : Nat} {x : Int} (h : c <= l.length) : (ins l c x).length = l.length + 1 := by
 unfold ins
 rw [lna, lna, lnt, List.length_drop, List.length_singleton]
 omega
theorem ins_perm (l : List Int) (c : Nat) (x : Int) : (ins l c x).Perm (x :: l) := by
 unfold ins
 have e : x :: l = x :: (l.take c ++ l.drop c) := by rw [List.take_append_drop]
 rw [e, List.append_assoc]
 exact List.perm_middle
theorem put_perm (n : Net) : ∀ s : State, (putNet n s).Perm (n :: s)
 | [] => List.Perm.refl _
 | m :: r => by
  unfold putNet
  split
  ·exact List.Perm.refl _
  ·exact ((put_perm n r).cons m).trans (List.Perm.swap ..)
theorem put_split (b a : Int) : ∀ {s : State}, (lows s).Pairwise (· < ·) -> b ∉ lows s -> putNet ⟨b, a⟩ s = s.take (place (lows s) b) ++ ⟨b, a⟩ :: s.drop (place (lows s) b)
 | [], _, _ => rfl
 | m :: r, hp, hb => by
  have hp : (m.b :: lows r).Pairwise (· < ·) := hp
  obtain ⟨h1, h2⟩ := List.pairwise_cons.mp hp
  have hb1 : b ≠ m.b := λ e => hb (by rw [e]; exact List.mem_cons_self)
  have hb2 : b ∉ lows r := λ e => hb (List.mem_cons_of_mem _ e)
  unfold putNet
  by_cases h : b < m.b
  ·have e : place (lows (m :: r)) b = 0 := by
    unfold place
    rw [List.length_eq_zero_iff, List.filter_eq_nil_iff]
    intro z hz
    rw [dte]
    rcases List.mem_cons.mp (show z ∈ m.b :: lows r from hz) with q | q
    ·omega
    ·have := h1 z q; omega
   rw [if_pos h, e]
   rfl
  ·have e : place (lows (m :: r)) b = place (lows r) b + 1 := by
    unfold place
    show ((m.b :: lows r).filter _).length = _
    rw [List.filter_cons, if_pos (by rw [dte]; omega)]
    rfl
   rw [if_neg h, e, put_split b a h2 hb2]
   rfl
theorem nodup_of_pw {l : List Int} (h : l.Pairwise (· < ·)) : l.Nodup := h.imp λ {a b} q => by omega
theorem put_lows {s : State} {b a : Int} (hp : (lows s).Pairwise (· < ·)) (hb : b ∉ lows s) : lows (putNet ⟨b, a⟩ s) = ins (lows s) (place (lows s) b) b := by
 rw [put_split b a hp hb]
 unfold ins
 unfold lows
 rw [List.map_append, List.map_cons, List.map_take, List.map_drop, List.append_assoc]
 rfl
theorem put_ups {s : State} {b a : Int} (hp : (lows s).Pairwise (· < ·)) (hb : b ∉ lows s) : ups (putNet ⟨b, a⟩ s) = ins (ups s) (place (lows s) b) a := by
 rw [put_split b a hp hb]
 unfold ins ups
 rw [List.map_append, List.map_cons, List.map_take, List.map_drop, List.append_assoc]
 rfl
theorem add_rows {s : State} {b a : Int} (g : Good s) (hr : inRange b = true /\ inRange a = true) :
  sound (putNet ⟨b, a⟩ s) = (rises (ins (lows s) (place (lows s) b) b) && rises (ins (ups s) (place (lows s) b) a)) := by
 by_cases hb : b ∈ lows s
 ·have f1 : sound (putNet ⟨b, a⟩ s) = false := by
   rw [Bool.eq_false_iff]
   intro q
   have n := nodup_of_pw (good_sound.mp q).lo
   have p : (lows (putNet ⟨b, a⟩ s)).Perm (b :: lows s) := (put_perm ⟨b, a⟩ s).map _
   exact (List.nodup_cons.mp (p.nodup_iff.mp n)).1 hb
  have f2 : rises (ins (lows s) (place (lows s) b) b) = false := by
   rw [Bool.eq_false_iff]
   intro q
   have n := nodup_of_pw (rises_pw q)
   exact (List.nodup_cons.mp ((ins_perm ..).nodup_iff.mp n)).1 hb
  rw [f1, f2]
  rfl
 ·rw [sound_rows, put_lows g.lo hb, put_ups g.lo hb]
  have r1 : (ins (lows s) (place (lows s) b) b).all inRange = true := by
   rw [List.all_eq_true]
   intro x hx
   rcases List.mem_cons.mp ((ins_perm ..).mem_iff.mp hx) with e | e
   ·rw [e]; exact hr.1
   ·exact (pinRow_iff.mp (good_rows.mp g).1).1 x e
  have r2 : (ins (ups s) (place (lows s) b) a).all inRange = true := by
   rw [List.all_eq_true]
   intro x hx
   rcases List.mem_cons.mp ((ins_perm ..).mem_iff.mp hx) with e | e
   ·rw [e]; exact hr.2
   ·exact (pinRow_iff.mp (good_rows.mp g).2).1 x e
  unfold pinRow
  rw [r1, r2]
  rfl
theorem add_range {s : State} {b a : Int} (h : ¬ (inRange b = true /\ inRange a = true)) : step s (.add b a) = (s, [-2]) := by
 have e : (inRange b && inRange a) = false := by
  rw [Bool.eq_false_iff]
  intro q
  rw [Bool.and_eq_true] at q
  exact h q
 simp only [step, must, change, e, bind, Except.bind]
 rfl
theorem add_bad {s : State} {b a : Int} (g : Good s) (hr : inRange b = true /\ inRange a = true) (h : (rises (ins (lows s) (place (lows s) b) b) && rises (ins (ups s) (place (lows s) b) a)) = false) : step s (.add b a) = (s, [-3]) := by
 have e : (inRange b && inRange a) = true := by rw [hr.1, hr.2]; rfl
 rw [<- add_rows g hr] at h
 simp only [step, must, change, e, h, bind, Except.bind, if_true]
 rfl
theorem add_full {s : State} {b a : Int} (g : Good s) (hr : inRange b = true /\ inRange a = true) (h : (rises (ins (lows s) (place (lows s) b) b) && rises (ins (ups s) (place (lows s) b) a)) = true) (hf : 64 <= s.length) : step s (.add b a) = (s, [-4]) := by
 have e : (inRange b && inRange a) = true := by rw [hr.1, hr.2]; rfl
 have e2 : decide (s.length < NETS) = false := decide_eq_false (by show ¬ s.length < 64; omega)
 rw [<- add_rows g hr] at h
 simp only [step, must, change, e, h, e2, bind, Except.bind, if_true]
 rfl
theorem add_ok {s : State} {b a : Int} (g : Good s) (hr : inRange b = true /\ inRange a = true) (h : (rises (ins (lows s) (place (lows s) b) b) && rises (ins (ups s) (place (lows s) b) a)) = true) (hf : s.length < 64) :
  ∃ t, step s (.add b a) = (t, [(place (lows s) b : Int)]) /\ lows t = ins (lows s) (place (lows s) b) b /\ ups t = ins (ups s) (place (lows s) b) a /\ Good t /\ t.length = s.length + 1 := by
 have e : (inRange b && inRange a) = true := by rw [hr.1, hr.2]; rfl
 have e2 : decide (s.length < NETS) = true := decide_eq_true (by show s.length < 64; omega)
 have h0 := h
 rw [<- add_rows g hr] at h
 have hb : b ∉ lows s := λ hb => by
  rw [Bool.and_eq_true] at h0
  have n := nodup_of_pw (rises_pw h0.1)
  exact (List.nodup_cons.mp ((ins_perm ..).nodup_iff.mp n)).1 hb
 have ix : (putNet ⟨b, a⟩ s).idxOf ⟨b, a⟩ = place (lows s) b := by
  rw [put_split b a g.lo hb, List.idxOf_append, if_neg (λ m => hb (mem_lows (List.mem_of_mem_take m))), List.idxOf_cons_self, lnt]
  have := place_le (lows s) b
  rw [lows_len] at this
  omega
 refine ⟨putNet ⟨b, a⟩ s, ?_, put_lows g.lo hb, put_ups g.lo hb, good_sound.mp h, (put_perm ..).length_eq⟩
 simp only [step, must, change, e, h, e2, bind, Except.bind, pure, Except.pure, if_true, ix]
theorem net_no {s : State} {i : Int} (h : ¬ (0 <= i /\ i < (s.length : Int))) : netAt s i = .error (-1) := by unfold netAt; rw [if_neg h]
theorem net_yes {s : State} {i : Int} (h : 0 <= i /\ i < (s.length : Int)) : netAt s i = .ok i.toNat := by unfold netAt; rw [if_pos h]
theorem away_no {s : State} {i : Int} (h : ¬ (0 <= i /\ i < (s.length : Int))) : step s (.away i) = (s, [-1]) := by
 simp only [step, change, net_no h, bind, Except.bind]
theorem away_ok {s : State} {i : Int} (h : 0 <= i /\ i < (s.length : Int)) : step s (.away i) = (s.eraseIdx i.toNat, [0]) := by
 simp only [step, change, net_yes h, bind, Except.bind, pure, Except.pure]
theorem map_erase {α β : Type} (f : α -> β) : ∀ (l : List α) (k : Nat), (l.eraseIdx k).map f = (l.map f).eraseIdx k
 | [], _ => rfl
 | _ :: _, 0 => rfl
 | a :: r, k + 1 => by
  show f a :: (r.eraseIdx k).map f = f a :: (r.map f).eraseIdx k
  rw [map_erase f r k]
theorem good_sub {s t : State} (h : t.Sublist s) (g : Good s) : Good t :=
 ⟨g.lo.sublist (h.map _), g.up.sublist (h.map _), λ n hn => g.rb n (h.subset hn), λ n hn => g.ra n (h.subset hn)⟩
theorem good_away {s : State} (k : Nat) (g : Good s) : Good (s.eraseIdx k) := good_sub (List.eraseIdx_sublist ..) g
theorem shift_lows (s : State) (d : Int) : lows (shifted s d) = lows s := by unfold lows shifted; rw [List.map_map]; rfl
theorem shift_ups (s : State) (d : Int) : ups (shifted s d) = (ups s).map (· + d) := by unfold ups shifted; rw [List.map_map, List.map_map]; rfl
theorem shift_test (s : State) (d : Int) : ((shifted s d).all λ n => inRange n.a) = ((ups s).map (· + d)).all inRange := by
 rw [<- shift_ups]
 unfold ups
 rw [List.all_map]
 rfl
theorem shift_no {s : State} {d : Int} (h : ((ups s).map (· + d)).all inRange = false) : step s (.shift d) = (s, [-2]) := by
 rw [<- shift_test] at h
 simp only [step, must, change, h, bind, Except.bind]
 rfl
theorem shift_ok {s : State} {d : Int} (g : Good s) (h : ((ups s).map (· + d)).all inRange = true) : step s (.shift d) = (shifted s d, [0]) /\ Good (shifted s d) := by
 constructor
 ·rw [<- shift_test] at h
  simp only [step, must, change, h, bind, Except.bind, pure, Except.pure, if_true]
 ·rw [good_rows, shift_lows, shift_ups]
  refine ⟨(good_rows.mp g).1, pinRow_iff.mpr ⟨λ x hx => List.all_eq_true.mp h x hx, ?_⟩⟩
  rw [List.pairwise_map]
  exact g.up.imp λ {a b} q => by omega
theorem move_st {s : State} {k : Nat} {a : Int} (h : k < s.length) : lows (s.set k ⟨(s[k]?.map λ n => n.b).getD 0, a⟩) = lows s /\ ups (s.set k ⟨(s[k]?.map λ n => n.b).getD 0, a⟩) = (ups s).set k a := by
 constructor
 ·unfold lows
  rw [List.map_set]
  refine List.ext_getElem? λ i => ?_
  by_cases e : i = k
  ·subst e
   rw [List.getElem?_set_self (by rw [lnm]; exact h), List.getElem?_map, List.getElem?_eq_getElem h]
   rfl
  ·rw [List.getElem?_set_ne (λ q => e q.symm)]
 ·unfold ups
  rw [List.map_set]
theorem move_no {s : State} {i a : Int} (h : ¬ (0 <= i /\ i < (s.length : Int))) : step s (.move i a) = (s, [-1]) := by
 simp only [step, change, net_no h, bind, Except.bind]
theorem move_range {s : State} {i a : Int} (h : 0 <= i /\ i < (s.length : Int)) (hr : inRange a = false) : step s (.move i a) = (s, [-2]) := by
 simp only [step, change, net_yes h, must, hr, bind, Except.bind]
 rfl
theorem move_sound {s : State} {k : Nat} {a : Int} (g : Good s) (h : k < s.length) (hr : inRange a = true) : sound (s.set k ⟨(s[k]?.map λ n => n.b).getD 0, a⟩) = rises ((ups s).set k a) := by
 rw [sound_rows, (move_st h).1, (move_st h).2, (good_rows.mp g).1]
 have r : ((ups s).set k a).all inRange = true := by
  rw [List.all_eq_true]
  intro x hx
  rcases List.mem_or_eq_of_mem_set hx with e | e
  ·exact (pinRow_iff.mp (good_rows.mp g).2).1 x e
  ·rw [e]; exact hr
 unfold pinRow
 rw [r]
 rfl
theorem move_bad {s : State} {i a : Int} (g : Good s) (h : 0 <= i /\ i < (s.length : Int)) (hr : inRange a = true) (hb : rises ((ups s).set i.toNat a) = false) : step s (.move i a) = (s, [-3]) := by
 rw [<- move_sound g (by omega) hr] at hb
 simp only [step, change, net_yes h, must, hr, hb, bind, Except.bind, if_true]
 rfl
theorem move_ok {s : State} {i a : Int} (g : Good s) (h : 0 <= i /\ i < (s.length : Int)) (hr : inRange a = true) (hb : rises ((ups s).set i.toNat a) = true) :
  ∃ t, step s (.move i a) = (t, [0]) /\ lows t = lows s /\ ups t = (ups s).set i.toNat a /\ Good t /\ t.length = s.length := by
 have hk : i.toNat < s.length := by omega
 have hs := hb
 rw [<- move_sound g hk hr] at hs
 refine ⟨_, ?_, (move_st hk).1, (move_st hk).2, good_sound.mp hs, List.length_set⟩
 simp only [step, change, net_yes h, must, hr, hs, bind, Except.bind, pure, Except.pure, if_true]
theorem turn_rows (s : State) : lows (turned s) = ups s /\ ups (turned s) = lows s := by
 unfold lows ups turned
 rw [List.map_map, List.map_map]
 exact ⟨rfl, rfl⟩
theorem good_turn {s : State} (g : Good s) : Good (turned s) := by
 rw [good_rows, (turn_rows s).1, (turn_rows s).2]
 exact (good_rows.mp g).symm
def negRev (l : List Int) : List Int := (l.map λ x => -x).reverse
theorem mirror_rows (s : State) : lows (mirrored s) = negRev (lows s) /\ ups (mirrored s) = negRev (ups s) := by
 unfold lows ups mirrored negRev
 rw [List.map_reverse, List.map_reverse, List.map_map, List.map_map, List.map_map, List.map_map]
 exact ⟨rfl, rfl⟩
theorem pinRow_negRev {l : List Int} (h : pinRow l = true) : pinRow (negRev l) = true := by
 rw [pinRow_iff] at h ⊢
 refine ⟨λ x hx => ?_, ?_⟩
 ·unfold negRev at hx
  rw [List.mem_reverse] at hx
  obtain ⟨y, hy, rfl⟩ := List.mem_map.mp hx
  have := inRange_iff.mp (h.1 y hy)
  exact inRange_iff.mpr (by omega)
 ·unfold negRev
  rw [List.pairwise_reverse, List.pairwise_map]
  exact h.2.imp λ {a b} q => by omega
theorem good_mirror {s : State} (g : Good s) : Good (mirrored s) := by
 rw [good_rows, (mirror_rows s).1, (mirror_rows s).2]
 exact ⟨pinRow_negRev (good_rows.mp g).1, pinRow_negRev (good_rows.mp g).2⟩
end Pc
end
section
namespace Pc
open Vbpcao
theorem mem_columns {keep : Int -> Bool} : ∀ {l : List Int} {x : Int}, x ∈ columns keep l ↔ x ∈ l /\ keep x = true
 | [], x => by simp [columns]
 | c :: r, x => by
  have ih := @mem_columns keep r x
  unfold columns
  dsimp only
  split
  ·rename_i h
   rw [List.mem_cons, List.mem_cons, ih]
   constructor
   ·rintro (e | e)
    ·subst e; exact ⟨.inl rfl, h.1⟩
    ·exact ⟨.inr e.1, e.2⟩
   ·rintro ⟨e | e, q⟩
    ·exact .inl e
    ·exact .inr ⟨e, q⟩
  ·rename_i h
   rw [List.mem_cons, ih]
   constructor
   ·rintro ⟨e, q⟩; exact ⟨.inr e, q⟩
   ·rintro ⟨e | e, q⟩
    ·subst e
     have hh : (columns keep r).head? = some x := Classical.byContradiction λ z => h ⟨q, z⟩
     have : x ∈ columns keep r := List.mem_of_head? hh
     exact ⟨(@mem_columns keep r x).mp this |>.1, q⟩
    ·exact ⟨e, q⟩
theorem columns_pw {R : Int -> Int -> Prop} {keep : Int -> Bool} (hs : ∀ a b, R a b ∨ a = b -> ∀ c, R b c -> R a c) : ∀ {l : List Int}, l.Pairwise (λ a b => R a b ∨ a = b) -> (columns keep l).Pairwise R
 | [], _ => .nil
 | c :: r, h => by
  obtain ⟨h1, h2⟩ := List.pairwise_cons.mp h
  have ih := @columns_pw R keep hs r h2
  unfold columns
  dsimp only
  split
  ·rename_i q
   refine List.pairwise_cons.mpr ⟨λ z hz => ?_, ih⟩
   have hzr : z ∈ r := (mem_columns.mp hz).1
   cases e : columns keep r with
   | nil => rw [e] at hz; cases hz
   | cons y t =>
    rw [e] at hz q ih
    have hyc : y ≠ c := λ z => q.2 (by rw [z]; rfl)
    have hyr : y ∈ r := (mem_columns (keep := keep).mp (by rw [e]; exact List.mem_cons_self)).1
    have hcy : R c y := by
     rcases h1 y hyr with w | w
     ·exact w
     ·exact absurd w.symm hyc
    rcases List.mem_cons.mp hz with w | w
    ·rw [w]; exact hcy
    ·exact hs c y (.inl hcy) z ((List.pairwise_cons.mp ih).1 z w)
  ·exact ih
theorem pw_same : ∀ {l m : List Int}, l.Pairwise (· < ·) -> m.Pairwise (· < ·) -> (∀ x, x ∈ l ↔ x ∈ m) -> l = m
 | [], [], _, _, _ => rfl
 | [], y :: m, _, _, h => absurd ((h y).mpr List.mem_cons_self) (by simp)
 | x :: l, [], _, _, h => absurd ((h x).mp List.mem_cons_self) (by simp)
 | x :: l, y :: m, hl, hm, h => by
  obtain ⟨l1, l2⟩ := List.pairwise_cons.mp hl
  obtain ⟨m1, m2⟩ := List.pairwise_cons.mp hm
  have e : x = y := by
   rcases List.mem_cons.mp ((h x).mp List.mem_cons_self) with q | q
   ·exact q
   ·have a := m1 x q
    rcases List.mem_cons.mp ((h y).mpr List.mem_cons_self) with q2 | q2
    ·exact q2.symm
    ·have := l1 y q2; omega
  subst e
  rw [pw_same l2 m2 λ z => ?_]
  constructor
  ·intro hz
   rcases List.mem_cons.mp ((h z).mp (List.mem_cons_of_mem _ hz)) with q | q
   ·have := l1 z hz; omega
   ·exact q
  ·intro hz
   rcases List.mem_cons.mp ((h z).mpr (List.mem_cons_of_mem _ hz)) with q | q
   ·have := m1 z hz; omega
   ·exact q
def climb (ht : Int -> Int) : Int -> List Int -> List (Int × Int)
 | _, [] => []
 | y, c :: r => (c, y) :: (c, ht c) :: climb ht (ht c) r
def lastH (ht : Int -> Int) : Int -> List Int -> Int
 | y, [] => y
 | _, c :: r => lastH ht (ht c) r
def rising (ht : Int -> Int) (b a top : Int) (keys : List Int) : List (Int × Int) := (b, 0) :: (b, ht b) :: (climb ht (ht b) keys ++ [(a, lastH ht (ht b) keys), (a, top)])
def toPt (p : Int × Int) : Pt := ⟨p.1, p.2⟩
theorem stairs_climb (height : Int -> Nat) (a : Int) : ∀ (y : Int) (l : List Int), (stairs height y l).dropLast ++ ((stairs height y l).getLast?.toList.map λ p => (⟨a, p.y⟩ : Pt)) = ((climb (λ x => (height x : Int)) y l) ++ [(a, lastH (λ x => (height x : Int)) y l)]).map toPt
 | y, [] => rfl
 | y, c :: r => by
  have ih := stairs_climb height a (height c) r
  have hne : stairs height (height c : Int) r ≠ [] := by cases r <;> simp [stairs]
  obtain ⟨z, t, e⟩ := List.exists_cons_of_ne_nil hne
  show (⟨c, y⟩ :: ⟨c, (height c : Int)⟩ :: stairs height (height c) r).dropLast ++ _ = _
  unfold climb lastH
  rw [e] at ih
  show (⟨c, y⟩ :: ⟨c, (height c : Int)⟩ :: stairs height (height c) r).dropLast ++ ((⟨c, y⟩ :: ⟨c, (height c : Int)⟩ :: stairs height (height c) r).getLast?.toList.map λ p => (⟨a, p.y⟩ : Pt)) = _
  rw [e]
  simp only [List.dropLast_cons_cons, List.getLast?_cons_cons, List.cons_append, List.map_cons] at ih ⊢
  rw [ih]
  rfl
def hts (marks : List Int) (x : Int) : Int := 1 + ((marks.filter λ c => decide (c <= x)).length : Int)
def htsL (marks : List Int) (x : Int) : Int := 1 + ((marks.filter λ c => decide (x <= c)).length : Int)
def marksR (s : State) (i : Nat) : List Int := (List.range (s.length - (i + 1))).map λ t => bAt s (i + 1 + t) - ((t : Int) + 1)
def marksL (s : State) (i : Nat) : List Int := (List.range i).map λ j => bAt s j + ((i : Int) - (j : Int))
theorem csR (s : State) (i : Nat) : ((s.drop (i + 1)).zipIdx.map λ t => t.1.b - ((t.2 : Int) + 1)) = marksR s i := by
 unfold marksR
 refine List.ext_getElem? λ k => ?_
 rw [gem, gem, List.getElem?_zipIdx, List.getElem?_drop]
 by_cases h : k < s.length - (i + 1)
 ·rw [List.getElem?_range h, st_at (show i + 1 + k < s.length by omega)]
  simp only [Option.map_some, Option.some.injEq]
  rw [Nat.zero_add]
 ·rw [List.getElem?_eq_none (show s.length <= i + 1 + k by omega), List.getElem?_eq_none (show (List.range (s.length - (i + 1))).length <= k by rw [lnr]; omega)]
  rfl
theorem csL {s : State} {i : Nat} (hi : i <= s.length) : ((s.take i).reverse.zipIdx.map λ t => t.1.b + ((t.2 : Int) + 1)) = (marksL s i).reverse := by
 unfold marksL
 refine List.ext_getElem? λ k => ?_
 have hl : (s.take i).length = i := by rw [lnt]; omega
 rw [gem, List.getElem?_zipIdx]
 by_cases h : k < i
 ·rw [List.getElem?_reverse (by rw [hl]; exact h), hl, List.getElem?_take_of_lt (by omega), st_at (by omega), List.getElem?_reverse (by simpa using h), List.length_map, List.length_range, List.getElem?_map, List.getElem?_range (by omega)]
  simp only [Option.map_some, Option.some.injEq]
  omega
 ·rw [List.getElem?_eq_none (show (s.take i).reverse.length <= k by rw [List.length_reverse, hl]; omega), List.getElem?_eq_none (by rw [List.length_reverse, lnm, lnr]; omega)]
  rfl
theorem bAt_lt {s : State} (g : Good s) {i j : Nat} (h : i < j) (hj : j < s.length) : bAt s i < bAt s j := by
 have h1 := lows_at (show i < s.length by omega)
 have h2 := lows_at hj
 have := List.pairwise_iff_getElem.mp g.lo i j (by rw [lows_len]; omega) (by rw [lows_len]; omega) h
 rw [List.getElem?_eq_getElem (by rw [lows_len]; omega)] at h1 h2
 rw [Option.some.injEq] at h1 h2
 rw [h1, h2] at this
 exact this
theorem bAt_far {s : State} (g : Good s) {i : Nat} : ∀ {d : Nat}, i + d < s.length -> bAt s i + (d : Int) <= bAt s (i + d)
 | 0, h => by simp
 | d + 1, h => by
  have ih := bAt_far g (i := i) (d := d) (by omega)
  have := bAt_lt g (i := i + d) (j := i + (d + 1)) (by omega) h
  omega
theorem marksR_pw {s : State} (g : Good s) (i : Nat) : (marksR s i).Pairwise (λ a b => a < b ∨ a = b) := by
 unfold marksR
 rw [List.pairwise_map]
 refine List.pairwise_lt_range.imp_of_mem λ {x y} hx hy h => ?_
 rw [List.mem_range] at hx hy
 have := bAt_far g (i := i + 1 + x) (d := y - x) (by omega)
 rw [show i + 1 + x + (y - x) = i + 1 + y by omega] at this
 omega
theorem marksL_pw {s : State} (g : Good s) {i : Nat} (hi : i <= s.length) : (marksL s i).Pairwise (λ a b => a < b ∨ a = b) := by
 unfold marksL
 rw [List.pairwise_map]
 refine List.pairwise_lt_range.imp_of_mem λ {x y} hx hy h => ?_
 rw [List.mem_range] at hx hy
 have := bAt_far g (i := x) (d := y - x) (by omega)
 rw [show x + (y - x) = y by omega] at this
 omega
theorem wire_eq {s : State} {h i : Nat} (hi : i < s.length) (e : aAt s i = bAt s i) : wire s h i = [⟨bAt s i, 0⟩, ⟨bAt s i, (h : Int) + 1⟩] := by
 unfold wire
 rw [st_at hi]
 dsimp only
 rw [if_pos e]
theorem wire_right {s : State} {h i : Nat} (g : Good s) (hi : i < s.length) (e : bAt s i < aAt s i) {keys : List Int} (hk : keys.Pairwise (· < ·)) (hm : ∀ x, x ∈ keys ↔ x ∈ marksR s i /\ bAt s i < x /\ x < aAt s i) :
  wire s h i = (rising (hts (marksR s i)) (bAt s i) (aAt s i) ((h : Int) + 1) keys).map toPt := by
 unfold wire
 rw [st_at hi]
 dsimp only
 rw [if_neg (by omega), if_pos e, csR]
 simp only [if_pos e]
 have ck : columns (λ c => decide (bAt s i < c /\ c < aAt s i)) (marksR s i) = keys := by
  refine pw_same (columns_pw (R := (· < ·)) (λ a b hab c hbc => ?_) (marksR_pw g i)) hk λ x => ?_
  ·omega
  ·rw [mem_columns, hm, dte]
 rw [ck, stairs_climb]
 unfold rising
 rw [List.map_cons, List.map_cons, List.map_append, List.map_append]
 have eh : (λ x => ((1 + ((marksR s i).filter λ c => decide (c <= x)).length : Nat) : Int)) = hts (marksR s i) := by
  funext x
  unfold hts
  omega
 rw [eh]
 have eh2 : ((1 + ((marksR s i).filter λ c => decide (c <= bAt s i)).length : Nat) : Int) = hts (marksR s i) (bAt s i) := by
  unfold hts
  omega
 rw [eh2]
 simp only [List.map_cons, List.map_nil, List.cons_append, List.append_assoc, List.nil_append]
 rfl
theorem climb_neg {ht ht' : Int -> Int} (e : ∀ x, ht' x = ht (-x)) : ∀ (y : Int) (l : List Int), climb ht' y l = (climb ht y (l.map λ x => -x)).map λ p => (-p.1, p.2)
 | _, [] => rfl
 | y, c :: r => by
  show (c, y) :: (c, ht' c) :: climb ht' (ht' c) r = (- -c, y) :: (- -c, ht (-c)) :: (climb ht (ht (-c)) (r.map λ x => -x)).map _
  rw [climb_neg e (ht' c) r, e, Int.neg_neg]
theorem lastH_neg {ht ht' : Int -> Int} (e : ∀ x, ht' x = ht (-x)) : ∀ (y : Int) (l : List Int), lastH ht' y l = lastH ht y (l.map λ x => -x)
 | _, [] => rfl
 | y, c :: r => by
  show lastH ht' (ht' c) r = lastH ht (ht (-c)) (r.map λ x => -x)
  rw [lastH_neg e (ht' c) r, e]
theorem hts_neg (l : List Int) (x : Int) : htsL l x = hts (l.map λ z => -z) (-x) := by
 unfold htsL hts
 congr 2
 rw [List.filter_map, lnm]
 congr 2
 funext z
 show decide (x <= z) = decide (-z <= -x)
 rw [decide_eq_decide]
 omega
theorem htsL_rev (l : List Int) : htsL l.reverse = htsL l := by
 funext x
 unfold htsL
 rw [List.filter_reverse, List.length_reverse]
theorem wire_left {s : State} {h i : Nat} (g : Good s) (hi : i < s.length) (e : aAt s i < bAt s i) {keys : List Int} (hk : keys.Pairwise (· < ·)) (hm : ∀ x, x ∈ keys ↔ x ∈ (marksL s i).map (λ z => -z) /\ -bAt s i < x /\ x < -aAt s i) :
  wire s h i = ((rising (hts ((marksL s i).map λ z => -z)) (-bAt s i) (-aAt s i) ((h : Int) + 1) keys).map λ p => (-p.1, p.2)).map toPt := by
 unfold wire
 rw [st_at hi]
 dsimp only
 rw [if_neg (by omega), if_neg (by omega), csL (Nat.le_of_lt hi)]
 have nlt : ¬ bAt s i < aAt s i := by omega
 simp only [if_neg nlt]
 have ck : columns (λ c => decide (aAt s i < c /\ c < bAt s i)) (marksL s i).reverse = keys.map λ x => -x := by
  have p1 : (columns (λ c => decide (aAt s i < c /\ c < bAt s i)) (marksL s i).reverse).Pairwise (· > ·) := by
   refine columns_pw (R := (· > ·)) (λ a b hab c hbc => by omega) ?_
   rw [List.pairwise_reverse]
   exact (marksL_pw g (Nat.le_of_lt hi)).imp λ {a b} q => by omega
  have p2 : ((columns (λ c => decide (aAt s i < c /\ c < bAt s i)) (marksL s i).reverse).map λ x => -x).Pairwise (· < ·) := by
   rw [List.pairwise_map]
   exact p1.imp λ {a b} q => by omega
  have e1 : (columns (λ c => decide (aAt s i < c /\ c < bAt s i)) (marksL s i).reverse).map (λ x => -x) = keys := by
   refine pw_same p2 hk λ x => ?_
   rw [hm, List.mem_map, List.mem_map]
   constructor
   ·rintro ⟨y, hy, rfl⟩
    rw [mem_columns, List.mem_reverse, dte] at hy
    exact ⟨⟨y, hy.1, rfl⟩, by omega, by omega⟩
   ·rintro ⟨⟨y, hy, rfl⟩, h1, h2⟩
    refine ⟨y, ?_, rfl⟩
    rw [mem_columns, List.mem_reverse, dte]
    exact ⟨hy, by omega, by omega⟩
  rw [<- e1, List.map_map]
  have : ((λ x : Int => -x) ∘ λ x => -x) = id := by funext x; show - -x = x; omega
  rw [this, List.map_id]
 rw [ck, stairs_climb]
 have eh : (λ x => ((1 + ((marksL s i).reverse.filter λ c => decide (x <= c)).length : Nat) : Int)) = htsL (marksL s i) := by
  rw [<- htsL_rev]
  funext x
  unfold htsL
  omega
 have eh2 : ((1 + ((marksL s i).reverse.filter λ c => decide (bAt s i <= c)).length : Nat) : Int) = htsL (marksL s i) (bAt s i) := by
  rw [<- htsL_rev]
  unfold htsL
  omega
 rw [eh, eh2, climb_neg (λ x => hts_neg (marksL s i) x), lastH_neg (λ x => hts_neg (marksL s i) x), hts_neg]
 have en : (keys.map λ x => -x).map (λ x => -x) = keys := by
  rw [List.map_map]
  have : ((λ x : Int => -x) ∘ λ x => -x) = id := by funext x; show - -x = x; omega
  rw [this, List.map_id]
 rw [en]
 unfold rising
 simp only [List.map_cons, List.map_nil, List.map_append, List.cons_append, List.append_assoc, List.nil_append, toPt, Int.neg_neg]
end Pc
end
section
namespace Pc
open Vbpcao
theorem climb_snoc (ht : Int -> Int) (c : Int) : ∀ (y : Int) (l : List Int), climb ht y (l ++ [c]) = climb ht y l ++ [(c, lastH ht y l), (c, ht c)]
 | _, [] => rfl
 | y, d :: r => by
  show (d, y) :: (d, ht d) :: climb ht (ht d) (r ++ [c]) = (d, y) :: (d, ht d) :: (climb ht (ht d) r ++ [(c, lastH ht (ht d) r), (c, ht c)])
  rw [climb_snoc ht c (ht d) r]
theorem lastH_snoc (ht : Int -> Int) (c : Int) : ∀ (y : Int) (l : List Int), lastH ht y (l ++ [c]) = ht c
 | _, [] => rfl
 | _, d :: r => lastH_snoc ht c (ht d) r
theorem lastH_last (ht : Int -> Int) : ∀ (b : Int) (l : List Int), lastH ht (ht b) l = ht ((l.getLast?).getD b)
 | _, [] => rfl
 | b, c :: r => by
  show lastH ht (ht c) r = _
  rw [lastH_last ht c r]
  cases r with
  | nil => rfl
  | cons d r => rw [List.getLast?_cons_cons]; cases e : (d :: r).getLast? <;> simp_all
theorem hts_add {marks : List Int} {p c : Int} (h : p < c) (hno : ∀ m ∈ marks, p < m -> m < c -> False) : hts marks c = hts marks p + ((marks.filter λ m => decide (m = c)).length : Int) := by
 unfold hts
 induction marks with
 | nil => rfl
 | cons m r ih =>
  have ih := ih λ m' hm => hno m' (List.mem_cons_of_mem _ hm)
  have hm := hno m List.mem_cons_self
  simp only [List.filter_cons]
  by_cases h1 : m <= p
  ·have h2 : m <= c := by omega
   have h3 : ¬ m = c := by omega
   simp only [h1, h2, h3, decide_true, decide_false, if_true, Bool.false_eq_true, if_false, List.length_cons]
   omega
  ·by_cases h2 : m = c
   ·have h3 : m <= c := by omega
    simp only [h1, h2, decide_true, decide_false, if_true, Bool.false_eq_true, if_false, List.length_cons, Int.le_refl]
    rw [h2] at h1
    simp only [h1, decide_false, Bool.false_eq_true, if_false]
    omega
   ·have h3 : ¬ m <= c := λ q => hm (by omega) (by omega)
    simp only [h1, h2, h3, decide_false, Bool.false_eq_true, if_false]
    omega
theorem key_height {marks keys : List Int} {b a : Int} (hk : keys.Pairwise (· < ·)) (hm : ∀ x, x ∈ keys ↔ x ∈ marks /\ b < x /\ x < a) {j : Nat} {c : Int} (hc : keys[j]? = some c) :
  hts marks c = lastH (hts marks) (hts marks b) (keys.take j) + ((marks.filter λ m => decide (m = c)).length : Int) := by
 rw [lastH_last]
 have hj : j < keys.length := (List.getElem?_eq_some_iff.mp hc).1
 have hcm := (hm c).mp (List.mem_of_getElem? hc)
 cases j with
 | zero =>
  show _ = hts marks b + _
  refine hts_add hcm.2.1 λ m hmm h1 h2 => ?_
  have : m ∈ keys := (hm m).mpr ⟨hmm, h1, by omega⟩
  obtain ⟨i, hi, e⟩ := List.getElem_of_mem this
  have hc0 : keys[0] = c := by rw [List.getElem?_eq_getElem hj] at hc; exact Option.some.inj hc
  rcases Nat.eq_zero_or_pos i with q | q
  ·subst q; omega
  ·have := List.pairwise_iff_getElem.mp hk 0 i hj hi q
   omega
 | succ j =>
  have hj1 : j < keys.length := by omega
  have el : (keys.take (j + 1)).getLast? = some keys[j] := by
   rw [List.getLast?_eq_getElem?, lnt, show min (j + 1) keys.length - 1 = j by omega, List.getElem?_take_of_lt (by omega), List.getElem?_eq_getElem hj1]
  rw [el]
  show _ = hts marks keys[j] + _
  have hc1 : keys[j + 1] = c := by rw [List.getElem?_eq_getElem hj] at hc; exact Option.some.inj hc
  have hlt := List.pairwise_iff_getElem.mp hk j (j + 1) hj1 hj (by omega)
  have hpm := (hm keys[j]).mp (List.getElem_mem hj1)
  refine hts_add (by omega) λ m hmm h1 h2 => ?_
  have : m ∈ keys := (hm m).mpr ⟨hmm, by omega, by omega⟩
  obtain ⟨i, hi, e⟩ := List.getElem_of_mem this
  rcases Nat.lt_or_ge i (j + 1) with q | q
  ·rcases Nat.lt_or_ge i j with q2 | q2
   ·have := List.pairwise_iff_getElem.mp hk i j hi hj1 q2
    omega
   ·have : i = j := by omega
    subst this; omega
  ·rcases Nat.lt_or_ge (j + 1) i with q2 | q2
   ·have := List.pairwise_iff_getElem.mp hk (j + 1) i hj hi q2
    omega
   ·have : i = j + 1 := by omega
    subst this; omega
theorem count_filter {marks : List Int} {b a c : Int} (h1 : b < c) (h2 : c < a) : ((marks.filter λ m => decide (b < m /\ m < a)).filter λ m => decide (m = c)).length = (marks.filter λ m => decide (m = c)).length := by
 rw [List.filter_filter]
 congr 2
 funext m
 rw [Bool.eq_iff_iff, Bool.and_eq_true, dte, dte]
 constructor
 ·exact λ h => h.1
 ·rintro rfl; exact ⟨rfl, h1, h2⟩
theorem sorted_strict {l : List Int} (h : l.Pairwise (· <= ·)) (n : l.Nodup) : l.Pairwise (· < ·) := by
 have := List.pairwise_and_iff.mpr ⟨h, n⟩
 exact this.imp λ {a b} q => by omega
theorem climb_len (ht : Int -> Int) : ∀ (y : Int) (l : List Int), (climb ht y l).length = 2 * l.length
 | _, [] => rfl
 | y, c :: r => by
  show (climb ht (ht c) r).length + 1 + 1 = 2 * (r.length + 1)
  rw [climb_len ht (ht c) r]
  omega
theorem rising_len (ht : Int -> Int) (b a top : Int) (keys : List Int) : (rising ht b a top keys).length = 2 * keys.length + 4 := by
 unfold rising
 simp only [List.length_cons, List.length_append, climb_len, List.length_nil]
theorem columns_len {keep : Int -> Bool} : ∀ (l : List Int), (columns keep l).length <= l.length
 | [] => Nat.le_refl _
 | c :: r => by
  have ih := columns_len (keep := keep) r
  unfold columns
  dsimp only
  split
  ·rw [lnc, lnc]; omega
  ·rw [lnc]; omega
theorem wire_len (s : State) (h i : Nat) : (wire s h i).length <= 2 * s.length + 4 := by
 unfold wire
 split
 ·exact Nat.zero_le _
 ·rename_i n e
  have hi : i < s.length := (List.getElem?_eq_some_iff.mp e).1
  dsimp only
  split
  ·simp
  ·rw [stairs_climb]
   simp only [List.length_cons, List.length_append, List.length_map, climb_len, List.length_nil]
   have := columns_len (keep := λ c => if n.b < n.a then decide (n.b < c /\ c < n.a) else decide (n.a < c /\ c < n.b)) (if n.b < n.a then ((s.drop (i + 1)).zipIdx.map λ t => t.1.b - ((t.2 : Int) + 1)) else ((s.take i).reverse.zipIdx.map λ t => t.1.b + ((t.2 : Int) + 1)))
   have h2 : (if n.b < n.a then ((s.drop (i + 1)).zipIdx.map λ t => t.1.b - ((t.2 : Int) + 1)) else ((s.take i).reverse.zipIdx.map λ t => t.1.b + ((t.2 : Int) + 1))).length <= s.length := by
    split
    ·rw [lnm, List.length_zipIdx, List.length_drop]; omega
    ·rw [lnm, List.length_zipIdx, List.length_reverse, lnt]; omega
   omega
open PyFlat
def due (s : State) (cs : List (List (List Int))) : List Int := told (played VbpcaoNeutral.step s cs)
theorem due_cons (s : State) (c : List (List Int)) (cs : List (List (List Int))) : due s (c :: cs) = (((VbpcaoNeutral.step s c).2.length : Int) :: (VbpcaoNeutral.step s c).2) ++ due (VbpcaoNeutral.step s c).1 cs := by
 show told ((VbpcaoNeutral.step s c).2 :: played VbpcaoNeutral.step (VbpcaoNeutral.step s c).1 cs) = _
 unfold told
 rw [List.flatMap_cons]
 rfl
theorem calls_cons {f : Nat} {p : Int} {r : List Int} {cs : List (List (List Int))} (h : PyFlat.calls PyVbpcao.shape f (p :: r) = some cs) :
  ∃ n k xs t cs' f', PyVbpcao.shape p = some (n, k) /\ n <= r.length /\ PyFlat.rows k (r.drop n) = some (xs, t) /\ cs = ((p :: r.take n) :: xs) :: cs' /\ PyFlat.calls PyVbpcao.shape f' t = some cs' := by
 cases f with
 | zero => simp [PyFlat.calls] at h
 | succ f =>
  unfold PyFlat.calls PyFlat.call at h
  dsimp only at h
  cases e1 : PyVbpcao.shape p with
  | none => rw [e1] at h; simp at h
  | some nk =>
   obtain ⟨n, k⟩ := nk
   rw [e1] at h
   dsimp only at h
   by_cases hn : r.length < n
   ·rw [if_pos hn] at h; simp at h
   ·rw [if_neg hn] at h
    cases e2 : PyFlat.rows k (r.drop n) with
    | none => rw [e2] at h; simp at h
    | some xt =>
     obtain ⟨xs, t⟩ := xt
     rw [e2] at h
     dsimp only at h
     cases e3 : PyFlat.calls PyVbpcao.shape f t with
     | none => rw [e3] at h; simp at h
     | some cs' =>
      rw [e3] at h
      dsimp only at h
      exact ⟨n, k, xs, t, cs', f, rfl, by omega, e2, (Option.some.inj h).symm, e3⟩
theorem rows_cons {k : Nat} {r : List Int} {xs : List (List Int)} {t : List Int} (h : PyFlat.rows (k + 1) r = some (xs, t)) :
  ∃ (m : Nat) (r' : List Int) (xs' : List (List Int)), r = (m : Int) :: r' /\ m <= r'.length /\ xs = r'.take m :: xs' /\ PyFlat.rows k (r'.drop m) = some (xs', t) := by
 unfold PyFlat.rows at h
 cases r with
 | nil => simp [PyFlat.row] at h
 | cons n r' =>
  unfold PyFlat.row at h
  dsimp only at h
  by_cases hn : 0 <= n /\ n.toNat <= r'.length
  ·rw [if_pos hn] at h
   dsimp only at h
   cases e : PyFlat.rows k (r'.drop n.toNat) with
   | none => rw [e] at h; simp at h
   | some ys =>
    obtain ⟨ys, t'⟩ := ys
    rw [e] at h
    dsimp only at h
    have h := Option.some.inj h
    have h1 := congrArg Prod.fst h
    have h2 := congrArg Prod.snd h
    dsimp only at h1 h2
    subst h2
    exact ⟨n.toNat, r', ys, by rw [show ((n.toNat : Nat) : Int) = n by omega], hn.2, h1.symm, e⟩
  ·rw [if_neg hn] at h
   simp at h
theorem calls_nil {f : Nat} {cs : List (List (List Int))} (h : PyFlat.calls PyVbpcao.shape f [] = some cs) : cs = [] := by
 cases f <;> simp [PyFlat.calls] at h <;> exact h
theorem ite1 {A : Type} {c : Prop} [Decidable c] {a b x : A} (h : ite c a b = x) : c /\ a = x \/ b = x := by
 split at h
  <;> simp_all
theorem shape_elim {M : Int -> Nat -> Nat -> Prop} (h0 : M 0 0 2) (h1 : M 1 2 0) (h2 : M 2 1 0) (h3 : M 3 0 0) (h4 : M 4 0 0) (h5 : M 5 1 0) (h6 : M 6 1 0) (h7 : M 7 0 0) (h8 : M 8 1 0) (h9 : M 9 2 0) (h10 : M 10 1 0) (h11 : M 11 1 0) (h12 : M 12 2 0) (h13 : M 13 3 0) (h14 : M 14 1 1) (h15 : M 15 2 0) (h16 : M 16 2 0) (h17 : M 17 0 0) (h18 : M 18 0 0) {p : Int} {n k : Nat} (h : PyVbpcao.shape p = some (n, k)) : M p n k := by
 unfold PyVbpcao.shape at h
 repeat
  obtain ⟨rfl, h⟩ | h := ite1 h
  ·cases h; assumption
 cases h
theorem rows_len : ∀ {k : Nat} {r : List Int} {xs : List (List Int)} {t : List Int}, PyFlat.rows k r = some (xs, t) -> xs.length = k
 | 0, r, xs, t, h => by cases h; rfl
 | k + 1, r, xs, t, h => by
  obtain ⟨m, r', xs', _, _, rfl, h2⟩ := rows_cons h
  rw [lnc, rows_len h2]
def WholeAt (p : Int) (n k : Nat) : Prop := ∀ (nums : List Int) (xs : List (List Int)), nums.length = n -> xs.length = k -> PyVbpcao.whole ((p :: nums) :: xs) = (p :: nums) :: xs
theorem whole_one {p : Int} {n k : Nat} (h : PyVbpcao.shape p = some (n, k)) : WholeAt p n k :=
 shape_elim (M := WholeAt) (λ nums xs h1 h2 => match nums, xs, h1, h2 with | [], [_, _], _, _ => rfl) (λ nums xs h1 h2 => match nums, xs, h1, h2 with | [_, _], [], _, _ => rfl) (λ nums xs h1 h2 => match nums, xs, h1, h2 with | [_], [], _, _ => rfl) (λ nums xs h1 h2 => match nums, xs, h1, h2 with | [], [], _, _ => rfl) (λ nums xs h1 h2 => match nums, xs, h1, h2 with | [], [], _, _ => rfl) (λ nums xs h1 h2 => match nums, xs, h1, h2 with | [_], [], _, _ => rfl) (λ nums xs h1 h2 => match nums, xs, h1, h2 with | [_], [], _, _ => rfl) (λ nums xs h1 h2 => match nums, xs, h1, h2 with | [], [], _, _ => rfl) (λ nums xs h1 h2 => match nums, xs, h1, h2 with | [_], [], _, _ => rfl) (λ nums xs h1 h2 => match nums, xs, h1, h2 with | [_, _], [], _, _ => rfl) (λ nums xs h1 h2 => match nums, xs, h1, h2 with | [_], [], _, _ => rfl) (λ nums xs h1 h2 => match nums, xs, h1, h2 with | [_], [], _, _ => rfl) (λ nums xs h1 h2 => match nums, xs, h1, h2 with | [_, _], [], _, _ => rfl) (λ nums xs h1 h2 => match nums, xs, h1, h2 with | [_, _, _], [], _, _ => rfl) (λ nums xs h1 h2 => match nums, xs, h1, h2 with | [_], [_], _, _ => rfl) (λ nums xs h1 h2 => match nums, xs, h1, h2 with | [_, _], [], _, _ => rfl) (λ nums xs h1 h2 => match nums, xs, h1, h2 with | [_, _], [], _, _ => rfl) (λ nums xs h1 h2 => match nums, xs, h1, h2 with | [], [], _, _ => rfl) (λ nums xs h1 h2 => match nums, xs, h1, h2 with | [], [], _, _ => rfl) h
theorem whole_calls : ∀ {cs : List (List (List Int))} {f : Nat} {l : List Int}, PyFlat.calls PyVbpcao.shape f l = some cs -> cs.map PyVbpcao.whole = cs
 | [], _, _, _ => rfl
 | c :: cs, f, [], h => by cases calls_nil h
 | c :: cs, f, p :: r, h => by
  obtain ⟨n, k, xs, t, cs', f', hsh, hn, hrows, ecs, hcalls'⟩ := calls_cons h
  injection ecs with e1 e2
  subst e1
  subst e2
  rw [List.map_cons, whole_calls hcalls', whole_one hsh _ _ (by rw [lnt]; omega) (rows_len hrows)]
theorem calls_eq (l : List Int) : PyVbpcao.calls l = PyFlat.calls PyVbpcao.shape l.length l := by
 unfold PyVbpcao.calls
 cases e : PyFlat.calls PyVbpcao.shape l.length l with
 | none => rfl
 | some cs =>
  show some (cs.map PyVbpcao.whole) = some cs
  rw [whole_calls e]
theorem answers_due {l : List Int} {cs : List (List (List Int))} (h : PyFlat.calls PyVbpcao.shape l.length l = some cs) : PyVbpcao.answers l = due start cs := by
 unfold PyVbpcao.answers
 rw [calls_eq, h]
 rfl
end Pc
end
section
namespace Pc
open Vbpcao
structure Ok (s : State) : Prop where
 g : Good s
 len : s.length <= 64
theorem ok_start : Ok start := ⟨good_nil, Nat.zero_le _⟩
theorem step_ok {s : State} (o : Ok s) (c : Call) : Ok (step s c).1 := by
 cases c with
 | pins bs as =>
  by_cases h : bs.length = as.length /\ bs.length <= 64 /\ pinRow bs = true /\ pinRow as = true
  ·obtain ⟨e, g⟩ := pins_ok (s := s) h.1 h.2.1 h.2.2.1 h.2.2.2
   rw [e]
   exact ⟨g, by show (mkNets bs as).length <= 64; rw [mk_len h.1]; exact h.2.1⟩
  ·rw [pins_bad h]; exact o
 | add b a =>
  by_cases hr : inRange b = true /\ inRange a = true
  ·cases h : (rises (ins (lows s) (place (lows s) b) b) && rises (ins (ups s) (place (lows s) b) a)) with
   | false => rw [add_bad o.g hr h]; exact o
   | true =>
    by_cases hf : s.length < 64
    ·obtain ⟨t, e, _, _, g, hl⟩ := add_ok o.g hr h hf
     rw [e]; exact ⟨g, by show t.length <= 64; omega⟩
    ·rw [add_full o.g hr h (by omega)]; exact o
  ·rw [add_range hr]; exact o
 | away i =>
  by_cases h : 0 <= i /\ i < (s.length : Int)
  ·rw [away_ok h]
   exact ⟨good_away _ o.g, Nat.le_trans (List.eraseIdx_sublist ..).length_le o.len⟩
  ·rw [away_no h]; exact o
 | shift d =>
  cases h : ((ups s).map (· + d)).all inRange with
  | false => rw [shift_no h]; exact o
  | true =>
   obtain ⟨e, g⟩ := shift_ok o.g h
   rw [e]; exact ⟨g, by show (shifted s d).length <= 64; unfold shifted; rw [lnm]; exact o.len⟩
 | move i a =>
  by_cases h : 0 <= i /\ i < (s.length : Int)
  ·cases hr : inRange a with
   | false => rw [move_range h hr]; exact o
   | true =>
    cases hb : rises ((ups s).set i.toNat a) with
    | false => rw [move_bad o.g h hr hb]; exact o
    | true =>
     obtain ⟨t, e, _, _, g, hl⟩ := move_ok o.g h hr hb
     rw [e]; exact ⟨g, by show t.length <= 64; rw [hl]; exact o.len⟩
  ·rw [move_no h]; exact o
 | turn => exact ⟨good_turn o.g, by show (turned s).length <= 64; unfold turned; rw [lnm]; exact o.len⟩
 | mirror => exact ⟨good_mirror o.g, by show (mirrored s).length <= 64; unfold mirrored; rw [List.length_reverse, lnm]; exact o.len⟩
 | list => exact o
 | least => exact o
 | fits h => exact o
 | range h => exact o
 | best => exact o
 | wire i h => exact o
 | route h => exact o
 | length h => exact o
 | track h y => exact o
 | at_ h x y => exact o
 | check h l => exact o
 | room i h => exact o
theorem nstep_ok {s : State} (o : Ok s) (c : List (List Int)) : Ok (VbpcaoNeutral.step s c).1 := by
 unfold VbpcaoNeutral.step
 cases VbpcaoNeutral.callOf c with
 | none => exact o
 | some d => exact step_ok o d
theorem flat_len {α : Type} (f : α -> List Int) (m : Nat) : ∀ (l : List α), (∀ x ∈ l, (f x).length <= m) -> (l.flatMap f).length <= m * l.length
 | [], _ => Nat.le_refl _
 | x :: r, h => by
  have ih := flat_len f m r λ y hy => h y (List.mem_cons_of_mem _ hy)
  have := h x List.mem_cons_self
  rw [List.flatMap_cons, lna, lnc, Nat.mul_succ]
  omega
theorem counted_len {α : Type} (f : α -> List Int) (m : Nat) (l : List α) (h : ∀ x ∈ l, (f x).length <= m) : (counted f l).length <= m * l.length + 1 := by
 unfold counted
 have := flat_len f m l h
 rw [lnc]
 omega
theorem wireNums_len {s : State} (o : Ok s) (h i : Nat) : (wireNums (wire s h i)).length <= 265 := by
 have h1 := counted_len ptNums 2 (wire s h i) λ p _ => Nat.le_refl _
 have h2 := wire_len s h i
 have := o.len
 unfold wireNums
 omega
theorem ask_len {s : State} {r : Got Answer} {m : Nat} (hm : 1 <= m) (h : ∀ a, r = .ok a -> a.length <= m) : (ask s r).2.length <= m := by
 unfold ask
 cases r with
 | error e => exact hm
 | ok a => exact h a rfl
theorem change_len {s : State} {r : Got (State × Answer)} {m : Nat} (hm : 1 <= m) (h : ∀ a, r = .ok a -> a.2.length <= m) : (change s r).2.length <= m := by
 unfold change
 cases r with
 | error e => exact hm
 | ok a => exact h a rfl
theorem bind_ok {α β : Type} {x : Got α} {f : α -> Got β} {b : β} (h : (x >>= f) = .ok b) : ∃ a, x = .ok a /\ f a = .ok b := by
 cases x with
 | error e => cases h
 | ok a => exact ⟨a, rfl, h⟩
theorem segs_len (l : List Pt) : (segs l).length <= l.length := by
 unfold segs
 rw [lnm, List.length_zip]
 omega
theorem onTrack_len (s : State) (h : Nat) (y : Int) (hl : s.length <= 64) : (onTrack s h y).length <= 8448 := by
 unfold onTrack
 have : ∀ l : List Nat, ((l.flatMap λ i => (segs (wire s h i)).filterMap λ t => if t.p.y = y /\ t.q.y = y then some (i, min t.p.x t.q.x, max t.p.x t.q.x) else none) : List (Nat × Int × Int)).length <= 132 * l.length := by
  intro l
  induction l with
  | nil => exact Nat.le_refl _
  | cons i r ih =>
   rw [List.flatMap_cons, lna, lnc, Nat.mul_succ]
   have h1 := List.length_filterMap_le (λ t : Seg => if t.p.y = y /\ t.q.y = y then some (i, min t.p.x t.q.x, max t.p.x t.q.x) else none) (segs (wire s h i))
   have h2 := segs_len (wire s h i)
   have h3 := wire_len s h i
   omega
 have h1 := this (List.range s.length)
 rw [lnr] at h1
 omega
theorem step_len {s : State} (o : Ok s) (c : Call) : (step s c).2.length <= 40000 := by
 have hl := o.len
 cases c with
 | pins bs as =>
  by_cases h : bs.length = as.length /\ bs.length <= 64 /\ pinRow bs = true /\ pinRow as = true
  ·rw [(pins_ok (s := s) h.1 h.2.1 h.2.2.1 h.2.2.2).1]; (show 1 <= 40000); decide
  ·rw [pins_bad h]; (show 1 <= 40000); decide
 | add b a =>
  refine change_len (by decide) λ x e => ?_
  obtain ⟨_, _, e⟩ := bind_ok e
  obtain ⟨_, _, e⟩ := bind_ok e
  obtain ⟨_, _, e⟩ := bind_ok e
  cases e
  show 1 <= 40000; decide
 | away i =>
  refine change_len (by decide) λ x e => ?_
  obtain ⟨_, _, e⟩ := bind_ok e
  cases e
  show 1 <= 40000; decide
 | shift d =>
  refine change_len (by decide) λ x e => ?_
  obtain ⟨_, _, e⟩ := bind_ok e
  cases e
  show 1 <= 40000; decide
 | move i a =>
  refine change_len (by decide) λ x e => ?_
  obtain ⟨_, _, e⟩ := bind_ok e
  obtain ⟨_, _, e⟩ := bind_ok e
  obtain ⟨_, _, e⟩ := bind_ok e
  cases e
  show 1 <= 40000; decide
 | turn => show 1 <= 40000; decide
 | mirror => show 1 <= 40000; decide
 | list =>
  refine ask_len (by decide) λ x e => ?_
  cases e
  have := counted_len (λ (n : Net) => [n.b, n.a]) 2 s λ _ _ => Nat.le_refl _
  omega
 | least => show 1 <= 40000; decide
 | fits h =>
  refine ask_len (by decide) λ x e => ?_
  obtain ⟨_, _, e⟩ := bind_ok e
  cases e
  split <;> simp
 | range h =>
  refine ask_len (by decide) λ x e => ?_
  obtain ⟨_, _, e⟩ := bind_ok e
  cases e
  split
  ·simp
  ·split <;> simp
 | best =>
  refine ask_len (by decide) λ x e => ?_
  cases e
  rw [lnc]
  split <;> simp
 | wire i h =>
  refine ask_len (by decide) λ x e => ?_
  obtain ⟨k, _, e⟩ := bind_ok e
  obtain ⟨w, _, e⟩ := bind_ok e
  cases e
  have := wireNums_len o w k
  omega
 | route h =>
  refine ask_len (by decide) λ x e => ?_
  obtain ⟨w, _, e⟩ := bind_ok e
  cases e
  have h1 := counted_len wireNums 265 (route s w) λ x hx => by
   unfold route at hx
   obtain ⟨i, _, rfl⟩ := List.mem_map.mp hx
   exact wireNums_len o w i
  have h2 : (route s w).length = s.length := by unfold route; rw [lnm, lnr]
  rw [h2] at h1
  omega
 | length h =>
  refine ask_len (by decide) λ x e => ?_
  obtain ⟨_, _, e⟩ := bind_ok e
  cases e
  show 1 <= 40000; decide
 | track h y =>
  refine ask_len (by decide) λ x e => ?_
  obtain ⟨w, _, e⟩ := bind_ok e
  obtain ⟨_, _, e⟩ := bind_ok e
  cases e
  have h1 := counted_len (λ (t : Nat × Int × Int) => [(t.1 : Int), t.2.1, t.2.2]) 3 (onTrack s w y) λ _ _ => Nat.le_refl _
  have h2 := onTrack_len s w y hl
  omega
 | at_ h x y =>
  refine ask_len (by decide) λ x e => ?_
  obtain ⟨_, _, e⟩ := bind_ok e
  cases e
  split <;> simp
 | check h l =>
  refine ask_len (by decide) λ x e => ?_
  obtain ⟨k, _, e⟩ := bind_ok e
  split at e
  ·cases e
   unfold wrong
   dsimp only
   repeat (split; simp)
   all_goals simp
  ·cases e
 | room i h =>
  refine ask_len (by decide) λ x e => ?_
  obtain ⟨_, _, e⟩ := bind_ok e
  obtain ⟨_, _, e⟩ := bind_ok e
  cases e
  split <;> simp
theorem nstep_len {s : State} (o : Ok s) (c : List (List Int)) : (VbpcaoNeutral.step s c).2.length <= 40000 := by
 unfold VbpcaoNeutral.step
 cases VbpcaoNeutral.callOf c with
 | none => exact Nat.zero_le _
 | some d => exact step_len o d
end Pc
end
section
namespace Pc
open Vbpcao
theorem tracks_no {h : Int} (e : within h 0 1000 = false) : tracks h = .error (-2) := by
 unfold tracks; rw [e]; rfl
theorem tracks_yes {h : Int} (e : within h 0 1000 = true) : tracks h = .ok h.toNat := by
 unfold tracks; rw [if_pos e]
theorem within_iff {h : Int} : within h 0 1000 = true ↔ 0 <= h /\ h <= 1000 := by
 unfold within; rw [dte]
theorem wide_no {s : State} {h : Int} (e : within h 0 1000 = false) : wide s h = .error (-2) := by
 unfold wide; rw [tracks_no e]; rfl
theorem wide_narrow {s : State} {h : Int} (e : within h 0 1000 = true) (f : fits s h.toNat = false) : wide s h = .error (-5) := by
 unfold wide must; rw [tracks_yes e]
 simp only [bind, Except.bind, f]
 rfl
theorem wide_yes {s : State} {h : Int} (e : within h 0 1000 = true) (f : fits s h.toNat = true) : wide s h = .ok h.toNat := by
 unfold wide must; rw [tracks_yes e]
 simp only [bind, Except.bind, f, if_true, pure, Except.pure]
theorem list_is (s : State) : step s .list = (s, (s.length : Int) :: s.flatMap λ n => [n.b, n.a]) := rfl
theorem least_is (s : State) : step s .least = (s, [(least s : Int)]) := rfl
theorem fits_no {s : State} {h : Int} (e : within h 0 1000 = false) : step s (.fits h) = (s, [-2]) := by
 simp only [step, ask, tracks_no e, bind, Except.bind]
theorem fits_one {s : State} {h : Int} (e : within h 0 1000 = true) (n : nar s h.toNat = none) : step s (.fits h) = (s, [1]) := by
 unfold nar at n
 simp only [step, ask, tracks_yes e, bind, Except.bind, pure, Except.pure, n]
theorem fits_two {s : State} {h : Int} {i : Nat} (e : within h 0 1000 = true) (n : nar s h.toNat = some i) : step s (.fits h) = (s, [0, (i : Int)]) := by
 unfold nar at n
 simp only [step, ask, tracks_yes e, bind, Except.bind, pure, Except.pure, n]
theorem range_no {s : State} {h : Int} (e : within h 0 1000 = false) : step s (.range h) = (s, [-2]) := by
 simp only [step, ask, tracks_no e, bind, Except.bind]
theorem range_two {s : State} {h : Int} (e : within h 0 1000 = true) (n : range s h.toNat = none) : step s (.range h) = (s, [2]) := by
 simp only [step, ask, tracks_yes e, bind, Except.bind, pure, Except.pure, n]
theorem range_one {s : State} {h lo hi : Int} (e : within h 0 1000 = true) (n : range s h.toNat = some (lo, hi)) (o : lo <= hi) : step s (.range h) = (s, [1, lo, hi]) := by
 simp only [step, ask, tracks_yes e, bind, Except.bind, pure, Except.pure, n, if_pos o]
theorem range_zero {s : State} {h lo hi : Int} (e : within h 0 1000 = true) (n : range s h.toNat = some (lo, hi)) (o : ¬ lo <= hi) : step s (.range h) = (s, [0]) := by
 simp only [step, ask, tracks_yes e, bind, Except.bind, pure, Except.pure, n, if_neg o]
theorem best_all {s : State} {k : Nat} (b : best s = k) (n : range s k = none) : step s .best = (s, [(k : Int)]) := by
 simp only [step, ask, b, n]
theorem best_two {s : State} {k : Nat} {lo hi : Int} (b : best s = k) (n : range s k = some (lo, hi)) : step s .best = (s, [(k : Int), lo, hi]) := by
 simp only [step, ask, b, n]
theorem wire_no {s : State} {i h : Int} (n : ¬ (0 <= i /\ i < (s.length : Int))) : step s (.wire i h) = (s, [-1]) := by
 simp only [step, ask, net_no n, bind, Except.bind]
theorem wire_err {s : State} {i h e : Int} (n : 0 <= i /\ i < (s.length : Int)) (w : wide s h = .error e) : step s (.wire i h) = (s, [e]) := by
 simp only [step, ask, net_yes n, w, bind, Except.bind]
theorem wire_ok {s : State} {i h : Int} {k : Nat} (n : 0 <= i /\ i < (s.length : Int)) (w : wide s h = .ok k) : step s (.wire i h) = (s, wireNums (wire s k i.toNat)) := by
 simp only [step, ask, net_yes n, w, bind, Except.bind, pure, Except.pure]
theorem route_err {s : State} {h e : Int} (w : wide s h = .error e) : step s (.route h) = (s, [e]) := by
 simp only [step, ask, w, bind, Except.bind]
theorem route_ok {s : State} {h : Int} {k : Nat} (w : wide s h = .ok k) : step s (.route h) = (s, counted wireNums (route s k)) := by
 simp only [step, ask, w, bind, Except.bind, pure, Except.pure]
theorem length_err {s : State} {h e : Int} (w : wide s h = .error e) : step s (.length h) = (s, [e]) := by
 simp only [step, ask, w, bind, Except.bind]
theorem length_ok {s : State} {h : Int} {k : Nat} (w : wide s h = .ok k) : step s (.length h) = (s, [(((route s k).map lengthOf).sum : Int)]) := by
 simp only [step, ask, w, bind, Except.bind, pure, Except.pure]
theorem track_err {s : State} {h y e : Int} (w : wide s h = .error e) : step s (.track h y) = (s, [e]) := by
 simp only [step, ask, w, bind, Except.bind]
theorem track_no {s : State} {h y : Int} {k : Nat} (w : wide s h = .ok k) (n : within y 1 (k : Int) = false) : step s (.track h y) = (s, [-2]) := by
 simp only [step, ask, w, must, n, bind, Except.bind]
 rfl
theorem track_ok {s : State} {h y : Int} {k : Nat} (w : wide s h = .ok k) (n : within y 1 (k : Int) = true) : step s (.track h y) = (s, counted (λ (t : Nat × Int × Int) => [(t.1 : Int), t.2.1, t.2.2]) (onTrack s k y)) := by
 simp only [step, ask, w, must, n, bind, Except.bind, pure, Except.pure, if_true]
theorem at_err {s : State} {h x y e : Int} (w : wide s h = .error e) : step s (.at_ h x y) = (s, [e]) := by
 simp only [step, ask, w, bind, Except.bind]
theorem at_some {s : State} {h x y : Int} {k i : Nat} (w : wide s h = .ok k) (n : at_ s k ⟨x, y⟩ = some i) : step s (.at_ h x y) = (s, [1, (i : Int)]) := by
 simp only [step, ask, w, bind, Except.bind, pure, Except.pure, n]
theorem at_none {s : State} {h x y : Int} {k : Nat} (w : wide s h = .ok k) (n : at_ s k ⟨x, y⟩ = none) : step s (.at_ h x y) = (s, [0]) := by
 simp only [step, ask, w, bind, Except.bind, pure, Except.pure, n]
theorem check_no {s : State} {h : Int} {l : List Int} (e : within h 0 1000 = false) : step s (.check h l) = (s, [-2]) := by
 simp only [step, ask, tracks_no e, bind, Except.bind]
theorem check_bad {s : State} {h : Int} {l : List Int} (e : within h 0 1000 = true) (w : wiresOf (l.length + 1) l = none) : step s (.check h l) = (s, [-3]) := by
 simp only [step, ask, tracks_yes e, bind, Except.bind, w]
theorem check_ok {s : State} {h : Int} {l : List Int} {ws : List (List Pt)} (e : within h 0 1000 = true) (w : wiresOf (l.length + 1) l = some ws) : step s (.check h l) = (s, wrong s h.toNat ws) := by
 simp only [step, ask, tracks_yes e, bind, Except.bind, w, pure, Except.pure]
theorem room_no {s : State} {i h : Int} (n : ¬ (0 <= i /\ i < (s.length : Int))) : step s (.room i h) = (s, [-1]) := by
 simp only [step, ask, net_no n, bind, Except.bind]
theorem room_err {s : State} {i h : Int} (n : 0 <= i /\ i < (s.length : Int)) (e : within h 0 1000 = false) : step s (.room i h) = (s, [-2]) := by
 simp only [step, ask, net_yes n, tracks_no e, bind, Except.bind]
theorem room_ok {s : State} {i h : Int} (n : 0 <= i /\ i < (s.length : Int)) (e : within h 0 1000 = true) : step s (.room i h) = (s, if (room s h.toNat i.toNat).1 <= (room s h.toNat i.toNat).2 then [1, (room s h.toNat i.toNat).1, (room s h.toNat i.toNat).2] else [0]) := by
 simp only [step, ask, net_yes n, tracks_yes e, bind, Except.bind, pure, Except.pure]
end Pc
end
section
namespace Pc
open Vbpcao
inductive Up : List Pt -> Prop
 | nil : Up []
 | one (p : Pt) : Up [p]
 | cons {p q : Pt} {r : List Pt} : p.x <= q.x -> p.y <= q.y -> Up (q :: r) -> Up (p :: q :: r)
theorem up_len : ∀ {l : List Pt} {p e : Pt}, Up (p :: l) -> (p :: l).getLast? = some e -> (lengthOf (p :: l) : Int) = (e.x - p.x) + (e.y - p.y)
 | [], p, e, _, h => by
  have e : p = e := Option.some.inj h
  subst e
  show ((0 : Nat) : Int) = _
  omega
 | q :: r, p, e, u, h => by
  cases u with
  | cons h1 h2 u =>
   rw [List.getLast?_cons_cons] at h
   have ih := up_len u h
   show (((p.x - q.x).natAbs + (p.y - q.y).natAbs + lengthOf (q :: r) : Nat) : Int) = _
   rw [Int.natCast_add, ih]
   omega
theorem hts_mono {marks : List Int} {x y : Int} (h : x <= y) : hts marks x <= hts marks y := by
 unfold hts
 induction marks with
 | nil => exact Int.le_refl _
 | cons m r ih =>
  simp only [List.filter_cons]
  by_cases h1 : m <= x
  ·have h2 : m <= y := by omega
   simp only [h1, h2, decide_true, if_true, List.length_cons]
   omega
  ·by_cases h2 : m <= y
   ·simp only [h1, h2, decide_true, decide_false, if_true, Bool.false_eq_true, if_false, List.length_cons]
    omega
   ·simp only [h1, h2, decide_false, Bool.false_eq_true, if_false]
    exact ih
theorem hts_pos (marks : List Int) (x : Int) : 1 <= hts marks x := by unfold hts; omega
theorem up_climb {marks : List Int} {a top : Int} : ∀ {keys : List Int} {b : Int}, (b :: keys).Pairwise (· < ·) -> (∀ x ∈ b :: keys, x < a) -> (∀ x, x < a -> hts marks x <= top) ->
  Up (⟨b, hts marks b⟩ :: ((climb (hts marks) (hts marks b) keys ++ [(a, lastH (hts marks) (hts marks b) keys), (a, top)]).map toPt))
 | [], b, _, h2, h3 => by
  have hb := h2 b List.mem_cons_self
  have := h3 b hb
  exact .cons (Int.le_of_lt hb) (Int.le_refl _) (.cons (Int.le_refl _) this (.one _))
 | c :: r, b, h1, h2, h3 => by
  obtain ⟨p1, p2⟩ := List.pairwise_cons.mp h1
  have ih := up_climb (top := top) p2 (λ x hx => h2 x (List.mem_cons_of_mem _ hx)) h3
  have hbc := p1 c List.mem_cons_self
  exact .cons (Int.le_of_lt hbc) (Int.le_refl _) (.cons (Int.le_refl _) (hts_mono (Int.le_of_lt hbc)) ih)
theorem len_rising {marks keys : List Int} {b a top : Int} (hab : b < a) (hk : keys.Pairwise (· < ·)) (hm : ∀ x ∈ keys, b < x /\ x < a) (ht : ∀ x, x < a -> hts marks x <= top) :
  (lengthOf ((rising (hts marks) b a top keys).map toPt) : Int) = (a - b) + top := by
 have u := up_climb (marks := marks) (a := a) (top := top) (keys := keys) (b := b) (List.pairwise_cons.mpr ⟨λ x hx => (hm x hx).1, hk⟩) (λ x hx => by
  rcases List.mem_cons.mp hx with e | e
  ·rw [e]; exact hab
  ·exact (hm x e).2) ht
 have u2 : Up (⟨b, 0⟩ :: ⟨b, hts marks b⟩ :: ((climb (hts marks) (hts marks b) keys ++ [(a, lastH (hts marks) (hts marks b) keys), (a, top)]).map toPt)) :=
  .cons (Int.le_refl _) (by have := hts_pos marks b; show (0 : Int) <= hts marks b; omega) u
 have e := up_len (e := ⟨a, top⟩) u2 (by
  rw [List.map_append]
  show ((⟨b, 0⟩ :: ⟨b, hts marks b⟩ :: ((climb (hts marks) (hts marks b) keys).map toPt) ++ [⟨a, lastH (hts marks) (hts marks b) keys⟩, ⟨a, top⟩] : List Pt)).getLast? = _
  rw [List.getLast?_append]
  rfl)
 have e2 : (rising (hts marks) b a top keys).map toPt = ⟨b, 0⟩ :: ⟨b, hts marks b⟩ :: ((climb (hts marks) (hts marks b) keys ++ [(a, lastH (hts marks) (hts marks b) keys), (a, top)]).map toPt) := rfl
 rw [e2, e]
 show a - b + (top - 0) = _
 omega
theorem len_neg : ∀ (l : List (Int × Int)), lengthOf ((l.map λ p => (-p.1, p.2)).map toPt) = lengthOf (l.map toPt)
 | [] => rfl
 | [_] => rfl
 | p :: q :: r => by
  have ih := len_neg (q :: r)
  show (-p.1 - -q.1).natAbs + (p.2 - q.2).natAbs + lengthOf (((q :: r).map λ p => (-p.1, p.2)).map toPt) = (p.1 - q.1).natAbs + (p.2 - q.2).natAbs + lengthOf ((q :: r).map toPt)
  rw [ih]
  omega
theorem count_le {f : Nat -> Int} {p : Int -> Bool} {m : Nat} : ∀ n, (∀ t, m <= t -> t < n -> p (f t) = false) -> (((List.range n).map f).filter p).length <= m
 | 0, _ => Nat.zero_le _
 | n + 1, h => by
  have ih := count_le n λ t h1 h2 => h t h1 (by omega)
  rw [List.range_succ, List.map_append, List.filter_append, lna]
  rcases Nat.lt_or_ge n m with q | q
  ·have h1 := List.length_filter_le p ((List.range n).map f)
   have h2 := List.length_filter_le p ([n].map f)
   rw [lnm, lnr] at h1
   rw [lnm, List.length_singleton] at h2
   omega
  ·have e : ([n].map f).filter p = [] := by
    show [f n].filter p = []
    rw [List.filter_cons, h n q (by omega)]
    rfl
   rw [e]
   exact ih
theorem count_ge {f : Nat -> Int} {p : Int -> Bool} {m : Nat} (n : Nat) (h : ∀ t, t + m < n -> p (f t) = false) : (((List.range n).map f).filter p).length <= m := by
 rcases Nat.lt_or_ge n m with q | q
 ·have := List.length_filter_le p ((List.range n).map f)
  rw [lnm, lnr] at this
  omega
 ·have e : List.range n = List.range (n - m) ++ (List.range m).map (λ t => n - m + t) := by
   conv => lhs; rw [show n = (n - m) + m by omega]
   exact List.range_add
  rw [e, List.map_append, List.filter_append, lna]
  have e1 : (((List.range (n - m)).map f).filter p) = [] := by
   rw [List.filter_eq_nil_iff]
   intro x hx
   obtain ⟨t, ht, rfl⟩ := List.mem_map.mp hx
   rw [List.mem_range] at ht
   rw [h t (by omega)]
   exact Bool.false_ne_true
  rw [e1]
  have := List.length_filter_le p (((List.range m).map (λ t => n - m + t)).map f)
  rw [lnm, lnm, lnr] at this
  show 0 + _ <= m
  omega
theorem fits_at {s : State} {k i : Nat} (hf : fits s k = true) (h : i + k < s.length) : (k : Int) <= bAt s (i + k) - aAt s i /\ (k : Int) <= aAt s (i + k) - bAt s i := by
 have := List.all_eq_true.mp hf i (List.mem_range.mpr (by omega))
 rw [pair_at h, Bool.and_eq_true, dte, dte] at this
 exact this
theorem topR {s : State} {k i : Nat} (g : Good s) (hf : fits s k = true) (hi : i < s.length) (hab : bAt s i < aAt s i) (x : Int) (hx : x < aAt s i) : hts (marksR s i) x <= (k : Int) + 1 := by
 have hk : 1 <= k := by
  rcases Nat.eq_zero_or_pos k with q | q
  ·subst q
   have := fits_at hf (i := i) (by omega)
   rw [Nat.add_zero] at this
   omega
  ·exact q
 have : ((marksR s i).filter λ c => decide (c <= x)).length <= k - 1 := by
  unfold marksR
  refine count_le _ λ t h1 h2 => decide_eq_false ?_
  have f := (fits_at hf (i := i) (by omega)).1
  have b := bAt_far g (i := i + k) (d := i + 1 + t - (i + k)) (by omega)
  rw [show i + k + (i + 1 + t - (i + k)) = i + 1 + t by omega] at b
  omega
 unfold hts
 omega
theorem topL {s : State} {k i : Nat} (g : Good s) (hf : fits s k = true) (hi : i < s.length) (hab : aAt s i < bAt s i) (x : Int) (hx : x < -aAt s i) : hts ((marksL s i).map λ z => -z) x <= (k : Int) + 1 := by
 have hk : 1 <= k := by
  rcases Nat.eq_zero_or_pos k with q | q
  ·subst q
   have := fits_at hf (i := i) (by omega)
   rw [Nat.add_zero] at this
   omega
  ·exact q
 have : (((marksL s i).map λ z => -z).filter λ c => decide (c <= x)).length <= k - 1 := by
  unfold marksL
  rw [List.map_map]
  refine count_ge _ λ t ht => decide_eq_false ?_
  have f := (fits_at hf (i := i - k) (by omega)).2
  rw [show i - k + k = i by omega] at f
  have b := bAt_far g (i := t) (d := i - k - t) (by omega)
  rw [show t + (i - k - t) = i - k by omega] at b
  show ¬ -(bAt s t + ((i : Int) - (t : Int))) <= x
  omega
 unfold hts
 omega
theorem len_wire {s : State} {k i : Nat} (g : Good s) (hf : fits s k = true) (hi : i < s.length) : (lengthOf (wire s k i) : Int) = (if aAt s i - bAt s i < 0 then -(aAt s i - bAt s i) else aAt s i - bAt s i) + (k : Int) + 1 := by
 rcases Int.lt_trichotomy (aAt s i) (bAt s i) with q | q | q
 ·rw [if_pos (by omega)]
  have hk : (columns (λ c => decide (aAt s i < c /\ c < bAt s i)) (marksL s i)).Pairwise (· < ·) := columns_pw (R := (· < ·)) (λ a b hab c hbc => by omega) (marksL_pw g (Nat.le_of_lt hi))
  let keys := ((columns (λ c => decide (aAt s i < c /\ c < bAt s i)) (marksL s i)).map λ x => -x).reverse
  have hk2 : keys.Pairwise (· < ·) := by
   show (((columns (λ c => decide (aAt s i < c /\ c < bAt s i)) (marksL s i)).map λ x => -x).reverse).Pairwise (· < ·)
   rw [List.pairwise_reverse, List.pairwise_map]
   exact hk.imp λ {a b} q => by omega
  have hm : ∀ x, x ∈ keys ↔ x ∈ (marksL s i).map (λ z => -z) /\ -bAt s i < x /\ x < -aAt s i := λ x => by
   show x ∈ ((columns (λ c => decide (aAt s i < c /\ c < bAt s i)) (marksL s i)).map λ x => -x).reverse ↔ _
   rw [List.mem_reverse, List.mem_map, List.mem_map]
   constructor
   ·rintro ⟨y, hy, rfl⟩
    rw [mem_columns, dte] at hy
    exact ⟨⟨y, hy.1, rfl⟩, by omega, by omega⟩
   ·rintro ⟨⟨y, hy, rfl⟩, h1, h2⟩
    refine ⟨y, ?_, rfl⟩
    rw [mem_columns, dte]
    exact ⟨hy, by omega, by omega⟩
  rw [wire_left g hi q hk2 hm, len_neg, len_rising (by omega) hk2 (λ x hx => ((hm x).mp hx).2) (topL g hf hi q)]
  omega
 ·rw [wire_eq hi q, if_neg (by omega)]
  show ((((bAt s i - bAt s i).natAbs + ((0 : Int) - ((k : Int) + 1)).natAbs + 0 : Nat)) : Int) = _
  omega
 ·rw [if_neg (by omega)]
  have hk : (columns (λ c => decide (bAt s i < c /\ c < aAt s i)) (marksR s i)).Pairwise (· < ·) := columns_pw (R := (· < ·)) (λ a b hab c hbc => by omega) (marksR_pw g i)
  have hm : ∀ x, x ∈ columns (λ c => decide (bAt s i < c /\ c < aAt s i)) (marksR s i) ↔ x ∈ marksR s i /\ bAt s i < x /\ x < aAt s i := λ x => by
   rw [mem_columns, dte]
  rw [wire_right g hi q hk hm, len_rising q hk (λ x hx => ((hm x).mp hx).2) (topR g hf hi q)]
  omega
def lens (s : State) (k : Nat) : List Int := (List.range s.length).map λ i => (if aAt s i - bAt s i < 0 then -(aAt s i - bAt s i) else aAt s i - bAt s i) + (k : Int) + 1
theorem len_all {s : State} {k : Nat} (g : Good s) (hf : fits s k = true) : (((route s k).map lengthOf).sum : Int) = (lens s k).sum := by
 unfold route lens
 rw [List.map_map]
 have : ∀ l : List Nat, (∀ i ∈ l, i < s.length) -> ((l.map (lengthOf ∘ wire s k)).sum : Int) = (l.map λ i => (if aAt s i - bAt s i < 0 then -(aAt s i - bAt s i) else aAt s i - bAt s i) + (k : Int) + 1).sum := by
  intro l
  induction l with
  | nil => intro _; rfl
  | cons i r ih =>
   intro h
   rw [List.map_cons, List.sum_cons, List.map_cons, List.sum_cons, Int.natCast_add, ih λ j hj => h j (List.mem_cons_of_mem _ hj)]
   have := len_wire g hf (h i List.mem_cons_self)
   show (lengthOf (wire s k i) : Int) + _ = _
   rw [this]
 exact this _ λ i hi => List.mem_range.mp hi
end Pc
end
section
namespace Pc
open Vbpcao
def ofPt (p : Pt) : Int × Int := (p.x, p.y)
theorem of_to (l : List (Int × Int)) : (l.map toPt).map ofPt = l := by
 rw [List.map_map]
 exact List.map_id l
theorem to_of (l : List Pt) : (l.map ofPt).map toPt = l := by
 rw [List.map_map]
 exact List.map_id l
def nexts {α : Type} (ps : List α) : List (α × α) := ps.zip (ps.drop 1)
theorem nexts_len {α : Type} (ps : List α) : (nexts ps).length = ps.length - 1 := by
 unfold nexts
 rw [List.length_zip, List.length_drop]
 omega
theorem nexts_at {α : Type} {ps : List α} {j : Nat} {p q : α} (h1 : ps[j]? = some p) (h2 : ps[j + 1]? = some q) : (nexts ps)[j]? = some (p, q) := by
 unfold nexts
 rw [List.getElem?_zip_eq_some]
 exact ⟨h1, by rw [List.getElem?_drop, Nat.add_comm]; exact h2⟩
theorem of_nexts {α : Type} {ps : List α} {j : Nat} {t : α × α} (h : (nexts ps)[j]? = some t) : ps[j]? = some t.1 /\ ps[j + 1]? = some t.2 := by
 unfold nexts at h
 rw [List.getElem?_zip_eq_some, List.getElem?_drop, Nat.add_comm] at h
 exact h
theorem segs_of (ps : List (Int × Int)) : segs (ps.map toPt) = (nexts ps).map λ t => ⟨toPt t.1, toPt t.2⟩ := by
 unfold segs nexts
 rw [<- List.map_drop, List.zip_map, List.map_map]
 rfl
def alongP (y : Int) (ps : List (Int × Int)) : List (Int × Int) := (nexts ps).filterMap λ t => if t.1.2 = y /\ t.2.2 = y then some (min t.1.1 t.2.1, max t.1.1 t.2.1) else none
theorem filterMap_snoc {α β : Type} (f : α -> Option β) (l : List α) (x : α) : (l ++ [x]).filterMap f = match f x with | some y => l.filterMap f ++ [y] | none => l.filterMap f := by
 rw [List.filterMap_append, List.filterMap_cons]
 cases f x <;> simp
theorem onTrack_is (s : State) (k : Nat) (y : Int) : onTrack s k y = (List.range s.length).flatMap λ i => (alongP y ((wire s k i).map ofPt)).map λ q => (i, q.1, q.2) := by
 unfold onTrack
 congr 1
 funext i
 conv => lhs; rw [<- to_of (wire s k i), segs_of]
 unfold alongP
 rw [List.filterMap_map, List.map_filterMap]
 congr 1
 funext t
 show (if t.1.2 = y /\ t.2.2 = y then some (i, min t.1.1 t.2.1, max t.1.1 t.2.1) else none) = _
 split <;> rfl
def btw (n a b : Int) : Bool := decide (a <= n /\ n <= b ∨ b <= n /\ n <= a)
def hasP (x y : Int) (ps : List (Int × Int)) : Bool := (nexts ps).any λ t => btw x t.1.1 t.2.1 && btw y t.1.2 t.2.2
theorem over_btw (a b x : Int) : overlap a b x x = btw x a b := by
 unfold overlap btw
 rw [decide_eq_decide]
 omega
theorem meet_pt (l : List Pt) (x y : Int) : wiresMeet l [⟨x, y⟩, ⟨x, y⟩] = hasP x y (l.map ofPt) := by
 conv => lhs; rw [<- to_of l]
 unfold wiresMeet hasP
 rw [segs_of, List.any_map]
 congr 1
 funext t
 show (meet ⟨toPt t.1, toPt t.2⟩ ⟨⟨x, y⟩, ⟨x, y⟩⟩ || false) = _
 rw [Bool.or_false]
 unfold meet
 rw [over_btw, over_btw]
 rfl
theorem at_first {s : State} {k i : Nat} {x y : Int} (hi : i < s.length) (h : hasP x y ((wire s k i).map ofPt) = true) (hb : ∀ j, j < i -> hasP x y ((wire s k j).map ofPt) = false) : at_ s k ⟨x, y⟩ = some i := by
 unfold at_
 exact find_range_some hi (by rw [meet_pt]; exact h) λ j hj => by rw [meet_pt]; exact hb j hj
theorem at_no {s : State} {k : Nat} {x y : Int} (hb : ∀ j, j < s.length -> hasP x y ((wire s k j).map ofPt) = false) : at_ s k ⟨x, y⟩ = none := by
 unfold at_
 exact find_range_none λ j hj => by rw [meet_pt]; exact hb j hj
def floorsOf (s : State) (h i : Nat) : List Int := [-1000000000] ++ ((if 1 <= i then [aAt s (i - 1) + 1] else []) ++ (if h <= i then [bAt s (i - h) + (h : Int)] else []))
def ceilsOf (s : State) (h i : Nat) : List Int := [1000000000] ++ ((if i + 1 < s.length then [aAt s (i + 1) - 1] else []) ++ (if i + h < s.length then [bAt s (i + h) - (h : Int)] else []))
theorem b_get {s : State} {k : Nat} (h : k < s.length) : (s[k]?.map λ n => n.b).getD 0 = bAt s k := by rw [st_at h]; rfl
theorem a_get {s : State} {k : Nat} (h : k < s.length) : (s[k]?.map λ n => n.a).getD 0 = aAt s k := by rw [st_at h]; rfl
theorem room_is {s : State} {h i : Nat} {lo hi : Int} (hi' : i < s.length) (h1 : lo ∈ floorsOf s h i) (h2 : ∀ y ∈ floorsOf s h i, y <= lo) (h3 : hi ∈ ceilsOf s h i) (h4 : ∀ y ∈ ceilsOf s h i, hi <= y) : room s h i = (lo, hi) := by
 have e1 : ([-FAR] ++ ((if 1 <= i then [(s[i - 1]?.map λ n => n.a).getD 0 + 1] else []) ++ (if h <= i then [(s[i - h]?.map λ n => n.b).getD 0 + (h : Int)] else []))) = floorsOf s h i := by
  unfold floorsOf
  rw [a_get (by omega), b_get (by omega)]
  rfl
 have e2 : ([FAR] ++ ((if i + 1 < s.length then [(s[i + 1]?.map λ n => n.a).getD 0 - 1] else []) ++ (if i + h < s.length then [(s[i + h]?.map λ n => n.b).getD 0 - (h : Int)] else []))) = ceilsOf s h i := by
  unfold ceilsOf
  by_cases q1 : i + 1 < s.length
  ·rw [a_get q1]
   by_cases q2 : i + h < s.length
   ·rw [b_get q2]; rfl
   ·rw [if_neg q2, if_neg q2]; rfl
  ·rw [if_neg q1, if_neg q1]
   by_cases q2 : i + h < s.length
   ·rw [b_get q2]; rfl
   ·rw [if_neg q2, if_neg q2]; rfl
 unfold room
 dsimp only
 rw [e1, e2, greatest_eq h1 h2, leastI_eq h3 h4]
def cornersAt (row : List Int) (place n : Nat) : List (Int × Int) := (List.range n).map λ i => (row.getD (place + 2 * i) 0, row.getD (place + 2 * i + 1) 0)
theorem wires_step {row : List Int} {place : Nat} {n : Int} {f : Nat} (hn : row[place]? = some n) :
  wiresOf (f + 1) (row.drop place) = if n < 0 ∨ (row.length : Int) < (place : Int) + 1 + 2 * n then none else (wiresOf f (row.drop (place + 1 + 2 * n.toNat))).map λ ws => (cornersAt row (place + 1) n.toNat).map toPt :: ws := by
 have hp : place < row.length := (List.getElem?_eq_some_iff.mp hn).1
 have e : row.drop place = n :: row.drop (place + 1) := by
  rw [List.drop_eq_getElem_cons hp]
  congr 1
  rw [List.getElem?_eq_getElem hp] at hn
  exact Option.some.inj hn
 rw [e]
 show (if n < 0 ∨ ((row.drop (place + 1)).length : Int) < 2 * n then none else _) = _
 have hl : ((row.drop (place + 1)).length : Int) = (row.length : Int) - ((place : Int) + 1) := by
  rw [List.length_drop]
  omega
 rw [hl]
 by_cases q : n < 0 ∨ (row.length : Int) < (place : Int) + 1 + 2 * n
 ·rw [if_pos q, if_pos (by omega)]
 ·rw [if_neg q, if_neg (by omega), List.drop_drop]
  congr 1
  funext ws
  congr 1
  unfold cornersAt
  rw [List.map_map]
  refine List.map_congr_left λ i _ => ?_
  show (⟨(row.drop (place + 1)).getD (2 * i) 0, (row.drop (place + 1)).getD (2 * i + 1) 0⟩ : Pt) = ⟨row.getD (place + 1 + 2 * i) 0, row.getD (place + 1 + 2 * i + 1) 0⟩
  simp only [List.getD_eq_getElem?_getD, List.getElem?_drop, Nat.add_assoc]
theorem wires_end {row : List Int} {place f : Nat} (h : row.length <= place) : wiresOf (f + 1) (row.drop place) = some [] := by
 rw [List.drop_of_length_le h]
 rfl
def joinsP (b a top : Int) (ps : List (Int × Int)) : Bool := decide (2 <= ps.length) && (decide (ps.head? = some (b, 0)) && (decide (ps.getLast? = some (a, top)) && (nexts ps).all λ t => (decide (t.1.1 = t.2.1)) != (decide (t.1.2 = t.2.2))))
theorem straight_is (p q : Int × Int) : straight ⟨toPt p, toPt q⟩ = (decide (p.1 = q.1) != decide (p.2 = q.2)) := by
 unfold straight
 have e : decide ((toPt p) ≠ (toPt q)) = !(decide (p.1 = q.1) && decide (p.2 = q.2)) := by
  rw [Bool.eq_iff_iff, dte, Bool.not_eq_true', <- Bool.not_eq_true, Bool.and_eq_true, dte, dte]
  refine not_congr ⟨λ h => ?_, λ h => ?_⟩
  ·exact ⟨congrArg Pt.x h, congrArg Pt.y h⟩
  ·show (⟨p.1, p.2⟩ : Pt) = ⟨q.1, q.2⟩
   rw [h.1, h.2]
 show (decide ((toPt p) ≠ (toPt q)) && (p.1 == q.1 || p.2 == q.2)) = _
 have eb : ∀ a b : Int, (a == b) = decide (a = b) := λ a b => by rw [Bool.eq_iff_iff, beq_iff_eq, dte]
 rw [e, eb, eb]
 cases decide (p.1 = q.1) <;> cases decide (p.2 = q.2) <;> rfl
theorem toPt_inj {p q : Int × Int} (h : toPt p = toPt q) : p = q := Prod.ext (congrArg Pt.x h) (congrArg Pt.y h)
theorem opt_toPt (o : Option (Int × Int)) (q : Int × Int) : (o.map toPt == some (toPt q)) = decide (o = some q) := by
 rw [Bool.eq_iff_iff, beq_iff_eq, dte]
 constructor
 ·intro h
  cases o with
  | none => cases h
  | some p => rw [toPt_inj (Option.some.inj h)]
 ·intro h
  rw [h]
  rfl
theorem joins_is (n : Net) (h : Nat) (ps : List (Int × Int)) : joinsPins n h (ps.map toPt) = joinsP n.b n.a ((h : Int) + 1) ps := by
 unfold joinsPins joinsP
 rw [lnm, List.head?_map, List.getLast?_map, segs_of, List.all_map]
 have e1 := opt_toPt ps.head? (n.b, 0)
 have e2 := opt_toPt ps.getLast? (n.a, (h : Int) + 1)
 have e3 : (straight ∘ λ t : (Int × Int) × (Int × Int) => (⟨toPt t.1, toPt t.2⟩ : Seg)) = λ t => decide (t.1.1 = t.2.1) != decide (t.1.2 = t.2.2) := by
  funext t
  exact straight_is t.1 t.2
 rw [e3]
 have e1' : (ps.head?.map toPt == some (⟨n.b, 0⟩ : Pt)) = decide (ps.head? = some (n.b, 0)) := e1
 have e2' : (ps.getLast?.map toPt == some (⟨n.a, (h : Int) + 1⟩ : Pt)) = decide (ps.getLast? = some (n.a, (h : Int) + 1)) := e2
 rw [e1', e2']
def tracksP (h : Int) (ps : List (Int × Int)) : Bool := (ps.drop 1).dropLast.all λ p => decide (1 <= p.2 /\ p.2 <= h)
theorem tracks_is (h : Nat) (ps : List (Int × Int)) : onTracks h (ps.map toPt) = tracksP (h : Int) ps := by
 unfold onTracks tracksP
 rw [<- List.map_drop, <- List.map_dropLast, List.all_map]
 rfl
theorem find_zip_some {β : Type} {n : Nat} {xs : List β} {p : Nat × β -> Bool} {i : Nat} {x : β} (hl : xs.length = n) (hx : xs[i]? = some x) (hp : p (i, x) = true) (hb : ∀ j z, j < i -> xs[j]? = some z -> p (j, z) = false) : ((List.range n).zip xs).find? p = some (i, x) := by
 have hi : i < xs.length := (List.getElem?_eq_some_iff.mp hx).1
 have hz : ((List.range n).zip xs).length = n := by rw [List.length_zip, lnr]; omega
 have hat : ∀ j z, xs[j]? = some z -> ((List.range n).zip xs)[j]? = some (j, z) := λ j z h => by
  rw [List.getElem?_zip_eq_some]
  exact ⟨List.getElem?_range (by have := (List.getElem?_eq_some_iff.mp h).1; omega), h⟩
 rw [List.find?_eq_some_iff_getElem]
 refine ⟨hp, i, by omega, ?_, λ j hj => ?_⟩
 ·have := hat i x hx
  rw [List.getElem?_eq_getElem (by omega)] at this
  exact Option.some.inj this
 ·have hjl : j < xs.length := by omega
  have := hat j xs[j] (List.getElem?_eq_getElem hjl)
  rw [List.getElem?_eq_getElem (by omega)] at this
  rw [Option.some.inj this, hb j _ hj (List.getElem?_eq_getElem hjl)]
  rfl
theorem find_zip_none {β : Type} {n : Nat} {xs : List β} {p : Nat × β -> Bool} (hb : ∀ j z, xs[j]? = some z -> p (j, z) = false) : ((List.range n).zip xs).find? p = none := by
 rw [List.find?_eq_none]
 intro t ht
 obtain ⟨j, hj, e⟩ := List.getElem_of_mem ht
 have h := List.getElem?_eq_getElem hj
 rw [e, List.getElem?_zip_eq_some] at h
 have e1 : t.1 = j := by
  have := h.1
  have hl := (List.getElem?_eq_some_iff.mp this).1
  rw [lnr] at hl
  rw [List.getElem?_range hl] at this
  exact (Option.some.inj this).symm
 have := hb j t.2 h.2
 rw [<- e1] at this
 rw [this]
 exact Bool.false_ne_true
theorem pairs_some {α : Type} {P : α -> α -> Bool} : ∀ {l : List α} {i j : Nat} {x y : α}, l[i]? = some x -> l[j]? = some y -> i < j -> P x y = true ->
  (∀ (i' j' : Nat) (x' y' : α), l[i']? = some x' -> l[j']? = some y' -> i' < j' -> (i' < i ∨ (i' = i /\ j' < j)) -> P x' y' = false) -> (pairs l).find? (λ t => P t.1 t.2) = some (x, y)
 | [], i, j, x, y, h, _, _, _, _ => by simp at h
 | z :: r, 0, j + 1, x, y, h1, h2, _, hp, hb => by
  have e : z = x := Option.some.inj h1
  subst e
  have h2 : r[j]? = some y := by simpa using h2
  show ((r.map λ y => (z, y)) ++ pairs r).find? _ = _
  rw [List.find?_append]
  have : (r.map λ y => (z, y)).find? (λ t => P t.1 t.2) = some (z, y) := by
   rw [List.find?_map]
   obtain ⟨hj1, hj2⟩ := List.getElem?_eq_some_iff.mp h2
   have : r.find? ((λ t : α × α => P t.1 t.2) ∘ λ y => (z, y)) = some y := by
    rw [List.find?_eq_some_iff_getElem]
    refine ⟨hp, j, hj1, hj2, λ j' hj' => ?_⟩
    have := hb 0 (j' + 1) z (r[j']'(by omega)) rfl (by rw [List.getElem?_cons_succ]; exact List.getElem?_eq_getElem _) (by omega) (.inr ⟨rfl, by omega⟩)
    show (!P z _) = true
    rw [this]
    rfl
   rw [this]
   rfl
  rw [this]
  rfl
 | z :: r, i + 1, j + 1, x, y, h1, h2, hij, hp, hb => by
  have h1 : r[i]? = some x := by simpa using h1
  have h2 : r[j]? = some y := by simpa using h2
  show ((r.map λ y => (z, y)) ++ pairs r).find? _ = _
  rw [List.find?_append]
  have : (r.map λ y => (z, y)).find? (λ t => P t.1 t.2) = none := by
   rw [List.find?_eq_none]
   intro t ht
   obtain ⟨y', hy', rfl⟩ := List.mem_map.mp ht
   obtain ⟨j', hj', e⟩ := List.getElem_of_mem hy'
   have := hb 0 (j' + 1) z y' rfl (by rw [List.getElem?_cons_succ, <- e]; exact List.getElem?_eq_getElem _) (by omega) (.inl (by omega))
   show ¬ P z y' = true
   rw [this]
   exact Bool.false_ne_true
  rw [this, Option.none_or]
  exact pairs_some h1 h2 (by omega) hp λ i' j' x' y' a b c d => hb (i' + 1) (j' + 1) x' y' (by simpa using a) (by simpa using b) (by omega) (by omega)
theorem pairs_none {α : Type} {P : α -> α -> Bool} : ∀ {l : List α}, (∀ (i j : Nat) (x y : α), l[i]? = some x -> l[j]? = some y -> i < j -> P x y = false) -> (pairs l).find? (λ t => P t.1 t.2) = none
 | [], _ => rfl
 | z :: r, hb => by
  show ((r.map λ y => (z, y)) ++ pairs r).find? _ = _
  rw [List.find?_append]
  have : (r.map λ y => (z, y)).find? (λ t => P t.1 t.2) = none := by
   rw [List.find?_eq_none]
   intro t ht
   obtain ⟨y', hy', rfl⟩ := List.mem_map.mp ht
   obtain ⟨j', hj', e⟩ := List.getElem_of_mem hy'
   have := hb 0 (j' + 1) z y' rfl (by rw [List.getElem?_cons_succ, <- e]; exact List.getElem?_eq_getElem _) (by omega)
   show ¬ P z y' = true
   rw [this]
   exact Bool.false_ne_true
  rw [this, Option.none_or]
  exact pairs_none λ i j x y a b c => hb (i + 1) (j + 1) x y (by simpa using a) (by simpa using b) (by omega)
end Pc
end
section
namespace Pc
open Vbpcao
def rk (vs : List Int) (x : Int) : Nat := vs.idxOf x
theorem rk_lt {vs : List Int} {x : Int} (h : x ∈ vs) : rk vs x < vs.length := List.idxOf_lt_length_iff.mpr h
theorem rk_get {vs : List Int} {x : Int} (h : x ∈ vs) : vs[rk vs x]? = some x := by
 rw [List.getElem?_eq_getElem (rk_lt h)]
 exact congrArg some (List.getElem_idxOf (rk_lt h))
theorem rk_lt_of {vs : List Int} (hp : vs.Pairwise (· < ·)) {x y : Int} (hx : x ∈ vs) (hy : y ∈ vs) (h : x < y) : rk vs x < rk vs y := by
 rcases Nat.lt_trichotomy (rk vs x) (rk vs y) with q | q | q
 ·exact q
 ·have h1 := rk_get hx
  have h2 := rk_get hy
  rw [q, h2] at h1
  have := Option.some.inj h1
  omega
 ·obtain ⟨a1, a2⟩ := List.getElem?_eq_some_iff.mp (rk_get hx)
  obtain ⟨b1, b2⟩ := List.getElem?_eq_some_iff.mp (rk_get hy)
  have := List.pairwise_iff_getElem.mp hp _ _ b1 a1 q
  rw [a2, b2] at this
  omega
theorem rk_le {vs : List Int} (hp : vs.Pairwise (· < ·)) {x y : Int} (hx : x ∈ vs) (hy : y ∈ vs) : x <= y ↔ rk vs x <= rk vs y := by
 constructor
 ·intro h
  rcases Int.lt_or_eq_of_le h with q | q
  ·exact Nat.le_of_lt (rk_lt_of hp hx hy q)
  ·rw [q]; exact Nat.le_refl _
 ·intro h
  by_cases q : y < x
  ·have := rk_lt_of hp hy hx q; omega
  ·omega
theorem rk_of {vs : List Int} (hp : vs.Pairwise (· < ·)) {i : Nat} (h : i < vs.length) : ∃ x, x ∈ vs /\ rk vs x = i := by
 refine ⟨vs[i], List.getElem_mem h, ?_⟩
 obtain ⟨a1, a2⟩ := List.getElem?_eq_some_iff.mp (rk_get (List.getElem_mem h))
 rcases Nat.lt_trichotomy (rk vs vs[i]) i with q | q | q
 ·have := List.pairwise_iff_getElem.mp hp _ _ a1 h q; omega
 ·exact q
 ·have := List.pairwise_iff_getElem.mp hp _ _ h a1 q; omega
theorem rk_inj {vs : List Int} {x y : Int} (hx : x ∈ vs) (hy : y ∈ vs) (h : rk vs x = rk vs y) : x = y := by
 have h1 := rk_get hx
 rw [h, rk_get hy] at h1
 exact (Option.some.inj h1).symm
theorem btw_rk {vs : List Int} (hp : vs.Pairwise (· < ·)) {x a b : Int} (hx : x ∈ vs) (ha : a ∈ vs) (hb : b ∈ vs) : btw x a b = true ↔ min (rk vs a) (rk vs b) <= rk vs x /\ rk vs x <= max (rk vs a) (rk vs b) := by
 unfold btw
 rw [dte, rk_le hp ha hx, rk_le hp hx hb, rk_le hp hb hx, rk_le hp hx ha]
 omega
def plc (xs ys : List Int) (p : Int × Int) : Nat := rk ys p.2 * xs.length + rk xs p.1
def stepOf (w u v : Nat) : Nat := if u / w = v / w then 1 else w
def cellsOf (w u v : Nat) : List Nat := (List.range ((max u v - min u v) / stepOf w u v + 1)).map λ t => min u v + t * stepOf w u v
structure InG (xs ys : List Int) (p : Int × Int) : Prop where
 x : p.1 ∈ xs
 y : p.2 ∈ ys
theorem div_pl {w r c : Nat} (h : c < w) : (r * w + c) / w = r := by
 rw [Nat.add_comm, Nat.add_mul_div_right _ _ (by omega), Nat.div_eq_of_lt h, Nat.zero_add]
theorem mod_pl {w r c : Nat} (h : c < w) : (r * w + c) % w = c := by
 rw [Nat.add_comm, Nat.add_mul_mod_self_right, Nat.mod_eq_of_lt h]
theorem pl_inj {w r c r' c' : Nat} (h : c < w) (h' : c' < w) (e : r * w + c = r' * w + c') : r = r' /\ c = c' := by
 have e1 := congrArg (· / w) e
 have e2 := congrArg (· % w) e
 simp only [div_pl h, div_pl h', mod_pl h, mod_pl h'] at e1 e2
 exact ⟨e1, e2⟩
theorem plc_inj {xs ys : List Int} {p q : Int × Int} (hp : InG xs ys p) (hq : InG xs ys q) (e : plc xs ys p = plc xs ys q) : p = q := by
 obtain ⟨e1, e2⟩ := pl_inj (rk_lt hp.x) (rk_lt hq.x) e
 exact Prod.ext (rk_inj hp.x hq.x e2) (rk_inj hp.y hq.y e1)
theorem cells_row {w r c d : Nat} (hc : c < w) (hd : d < w) (z : Nat) : z ∈ cellsOf w (r * w + c) (r * w + d) ↔ ∃ e, min c d <= e /\ e <= max c d /\ z = r * w + e := by
 unfold cellsOf stepOf
 rw [div_pl hc, div_pl hd, if_pos rfl, Nat.div_one]
 generalize r * w = R
 simp only [List.mem_map, List.mem_range, Nat.mul_one]
 constructor
 ·rintro ⟨t, h1, h2⟩
  exact ⟨min c d + t, by omega, by omega, by omega⟩
 ·rintro ⟨e, h1, h2, h3⟩
  exact ⟨e - min c d, by omega, by omega⟩
theorem cells_col {w r s c : Nat} (hc : c < w) (hrs : r < s) (z : Nat) : (∃ t, t < (s * w + c - (r * w + c)) / w + 1 /\ r * w + c + t * w = z) ↔ ∃ e, r <= e /\ e <= s /\ z = e * w + c := by
 have e1 : (s * w + c - (r * w + c)) / w = s - r := by
  rw [Nat.add_sub_add_right, <- Nat.sub_mul, Nat.mul_div_cancel _ (by omega)]
 rw [e1]
 constructor
 ·rintro ⟨t, h1, h2⟩
  refine ⟨r + t, by omega, by omega, ?_⟩
  rw [<- h2, Nat.add_mul]
  omega
 ·rintro ⟨e, h1, h2, h3⟩
  refine ⟨e - r, by omega, ?_⟩
  have : e * w = r * w + (e - r) * w := by rw [<- Nat.add_mul]; congr 1; omega
  rw [h3, this]
  omega
theorem cells_up {w r s c : Nat} (hc : c < w) (hrs : r ≠ s) (z : Nat) : z ∈ cellsOf w (r * w + c) (s * w + c) ↔ ∃ e, min r s <= e /\ e <= max r s /\ z = e * w + c := by
 unfold cellsOf stepOf
 rw [div_pl hc, div_pl hc, if_neg hrs]
 simp only [List.mem_map, List.mem_range]
 have hw : 0 < w := by omega
 rcases Nat.lt_or_ge r s with q | q
 ·have : r * w < s * w := Nat.mul_lt_mul_of_pos_right q hw
  rw [show max (r * w + c) (s * w + c) = s * w + c by omega, show min (r * w + c) (s * w + c) = r * w + c by omega, cells_col hc q, show min r s = r by omega, show max r s = s by omega]
 ·have q : s < r := by omega
  have : s * w < r * w := Nat.mul_lt_mul_of_pos_right q hw
  rw [show max (r * w + c) (s * w + c) = r * w + c by omega, show min (r * w + c) (s * w + c) = s * w + c by omega, cells_col hc q, show min r s = s by omega, show max r s = r by omega]
theorem cells_mem {xs ys : List Int} (hx : xs.Pairwise (· < ·)) (hy : ys.Pairwise (· < ·)) {p q : Int × Int} (hp : InG xs ys p) (hq : InG xs ys q) (hs : (decide (p.1 = q.1) != decide (p.2 = q.2)) = true) (z : Nat) :
  z ∈ cellsOf xs.length (plc xs ys p) (plc xs ys q) ↔ ∃ t : Int × Int, InG xs ys t /\ btw t.1 p.1 q.1 = true /\ btw t.2 p.2 q.2 = true /\ z = plc xs ys t := by
 by_cases ey : p.2 = q.2
 ·have : plc xs ys q = rk ys p.2 * xs.length + rk xs q.1 := by unfold plc; rw [<- ey]
  rw [this]
  show z ∈ cellsOf xs.length (rk ys p.2 * xs.length + rk xs p.1) _ ↔ _
  rw [cells_row (rk_lt hp.x) (rk_lt hq.x)]
  constructor
  ·rintro ⟨e, h1, h2, h3⟩
   obtain ⟨x, hxm, hxr⟩ := rk_of hx (i := e) (by have := rk_lt hp.x; have := rk_lt hq.x; omega)
   refine ⟨(x, p.2), ⟨hxm, hp.y⟩, (btw_rk hx hxm hp.x hq.x).mpr (by omega), ?_, ?_⟩
   ·unfold btw
    rw [<- ey, dte]
    exact .inl ⟨Int.le_refl _, Int.le_refl _⟩
   ·rw [h3, <- hxr]; rfl
  ·rintro ⟨t, ht, h1, h2, h3⟩
   have e : t.2 = p.2 := by
    unfold btw at h2
    rw [<- ey, dte] at h2
    omega
   have := (btw_rk hx ht.x hp.x hq.x).mp h1
   exact ⟨rk xs t.1, this.1, this.2, by rw [h3]; unfold plc; rw [e]⟩
 ·have ex : p.1 = q.1 := by
   by_cases z : p.1 = q.1
   ·exact z
   ·rw [decide_eq_false ey, decide_eq_false z] at hs
    cases hs
  have : plc xs ys q = rk ys q.2 * xs.length + rk xs p.1 := by unfold plc; rw [<- ex]
  rw [this]
  show z ∈ cellsOf xs.length (rk ys p.2 * xs.length + rk xs p.1) _ ↔ _
  rw [cells_up (rk_lt hp.x) (λ e => ey (rk_inj hp.y hq.y e))]
  constructor
  ·rintro ⟨e, h1, h2, h3⟩
   obtain ⟨y, hym, hyr⟩ := rk_of hy (i := e) (by have := rk_lt hp.y; have := rk_lt hq.y; omega)
   refine ⟨(p.1, y), ⟨hp.x, hym⟩, ?_, (btw_rk hy hym hp.y hq.y).mpr (by omega), ?_⟩
   ·unfold btw
    rw [<- ex, dte]
    exact .inl ⟨Int.le_refl _, Int.le_refl _⟩
   ·rw [h3, <- hyr]; rfl
  ·rintro ⟨t, ht, h1, h2, h3⟩
   have e : t.1 = p.1 := by
    unfold btw at h1
    rw [<- ex, dte] at h1
    omega
   have := (btw_rk hy ht.y hp.y hq.y).mp h2
   exact ⟨rk ys t.2, this.1, this.2, by rw [h3]; unfold plc; rw [e]⟩
def wireCells (w : Nat) (pl : List Nat) : List Nat := (nexts pl).flatMap λ t => cellsOf w t.1 t.2
structure WireG (xs ys : List Int) (ps : List (Int × Int)) : Prop where
 inG : ∀ p ∈ ps, InG xs ys p
 str : ∀ t ∈ nexts ps, (decide (t.1.1 = t.2.1) != decide (t.1.2 = t.2.2)) = true
theorem nexts_mem {α : Type} {ps : List α} {t : α × α} (h : t ∈ nexts ps) : t.1 ∈ ps /\ t.2 ∈ ps := by
 obtain ⟨j, hj, e⟩ := List.getElem_of_mem h
 have := of_nexts (List.getElem?_eq_getElem hj)
 rw [e] at this
 exact ⟨List.mem_of_getElem? this.1, List.mem_of_getElem? this.2⟩
theorem nexts_map {α β : Type} (f : α -> β) (ps : List α) : nexts (ps.map f) = (nexts ps).map λ t => (f t.1, f t.2) := by
 unfold nexts
 rw [<- List.map_drop, List.zip_map]
 rfl
theorem wire_cells {xs ys : List Int} (hx : xs.Pairwise (· < ·)) (hy : ys.Pairwise (· < ·)) {ps : List (Int × Int)} (W : WireG xs ys ps) (z : Nat) :
  z ∈ wireCells xs.length (ps.map (plc xs ys)) ↔ ∃ t ∈ nexts ps, ∃ u : Int × Int, InG xs ys u /\ btw u.1 t.1.1 t.2.1 = true /\ btw u.2 t.1.2 t.2.2 = true /\ z = plc xs ys u := by
 unfold wireCells
 rw [nexts_map, List.mem_flatMap]
 constructor
 ·rintro ⟨t', ht', hz⟩
  obtain ⟨t, ht, rfl⟩ := List.mem_map.mp ht'
  have m := nexts_mem ht
  exact ⟨t, ht, (cells_mem hx hy (W.inG _ m.1) (W.inG _ m.2) (W.str t ht) z).mp hz⟩
 ·rintro ⟨t, ht, h⟩
  have m := nexts_mem ht
  exact ⟨_, List.mem_map.mpr ⟨t, ht, rfl⟩, (cells_mem hx hy (W.inG _ m.1) (W.inG _ m.2) (W.str t ht) z).mpr h⟩
theorem over_ex {xs : List Int} {a b c d : Int} (ha : a ∈ xs) (hb : b ∈ xs) (hc : c ∈ xs) (hd : d ∈ xs) (h : overlap a b c d = true) : ∃ x ∈ xs, btw x a b = true /\ btw x c d = true := by
 unfold overlap at h
 rw [dte] at h
 unfold btw
 simp only [decide_eq_true_eq]
 rcases Int.le_total (min a b) (min c d) with q | q
 ·rcases Int.le_total c d with r | r
  ·exact ⟨c, hc, by omega, by omega⟩
  ·exact ⟨d, hd, by omega, by omega⟩
 ·rcases Int.le_total a b with r | r
  ·exact ⟨a, ha, by omega, by omega⟩
  ·exact ⟨b, hb, by omega, by omega⟩
theorem over_of {x a b c d : Int} (h1 : btw x a b = true) (h2 : btw x c d = true) : overlap a b c d = true := by
 unfold btw at h1 h2
 unfold overlap
 rw [dte] at h1 h2 ⊢
 omega
theorem meet_cells {xs ys : List Int} (hx : xs.Pairwise (· < ·)) (hy : ys.Pairwise (· < ·)) {ps qs : List (Int × Int)} (W : WireG xs ys ps) (V : WireG xs ys qs) :
  wiresMeet (ps.map toPt) (qs.map toPt) = true ↔ ∃ z, z ∈ wireCells xs.length (ps.map (plc xs ys)) /\ z ∈ wireCells xs.length (qs.map (plc xs ys)) := by
 unfold wiresMeet
 rw [segs_of, segs_of, List.any_map, List.any_eq_true]
 constructor
 ·rintro ⟨t, ht, h⟩
  have h : ((nexts qs).map λ t => (⟨toPt t.1, toPt t.2⟩ : Seg)).any (meet ⟨toPt t.1, toPt t.2⟩) = true := h
  rw [List.any_map, List.any_eq_true] at h
  obtain ⟨u, hu, h⟩ := h
  have h : (overlap t.1.1 t.2.1 u.1.1 u.2.1 && overlap t.1.2 t.2.2 u.1.2 u.2.2) = true := h
  rw [Bool.and_eq_true] at h
  have mt := nexts_mem ht
  have mu := nexts_mem hu
  obtain ⟨x, x1, x2, x3⟩ := over_ex (W.inG _ mt.1).x (W.inG _ mt.2).x (V.inG _ mu.1).x (V.inG _ mu.2).x h.1
  obtain ⟨y, y1, y2, y3⟩ := over_ex (W.inG _ mt.1).y (W.inG _ mt.2).y (V.inG _ mu.1).y (V.inG _ mu.2).y h.2
  exact ⟨plc xs ys (x, y), (wire_cells hx hy W _).mpr ⟨t, ht, (x, y), ⟨x1, y1⟩, x2, y2, rfl⟩, (wire_cells hx hy V _).mpr ⟨u, hu, (x, y), ⟨x1, y1⟩, x3, y3, rfl⟩⟩
 ·rintro ⟨z, h1, h2⟩
  obtain ⟨t, ht, p, gp, p1, p2, e1⟩ := (wire_cells hx hy W z).mp h1
  obtain ⟨u, hu, q, gq, q1, q2, e2⟩ := (wire_cells hx hy V z).mp h2
  have e := plc_inj gp gq (e1.symm.trans e2)
  subst e
  refine ⟨t, ht, ?_⟩
  show ((nexts qs).map λ t => (⟨toPt t.1, toPt t.2⟩ : Seg)).any (meet ⟨toPt t.1, toPt t.2⟩) = true
  rw [List.any_map, List.any_eq_true]
  refine ⟨u, hu, ?_⟩
  show (overlap t.1.1 t.2.1 u.1.1 u.2.1 && overlap t.1.2 t.2.2 u.1.2 u.2.2) = true
  rw [Bool.and_eq_true]
  exact ⟨over_of p1 q1, over_of p2 q2⟩
theorem plc_lt {xs ys : List Int} {p : Int × Int} (h : InG xs ys p) : plc xs ys p < xs.length * ys.length := by
 unfold plc
 have h1 := rk_lt h.x
 have h2 := rk_lt h.y
 have h3 : (rk ys p.2 + 1) * xs.length <= ys.length * xs.length := Nat.mul_le_mul_right _ h2
 rw [Nat.add_mul, Nat.one_mul] at h3
 rw [Nat.mul_comm xs.length]
 omega
def holdStep (n : Nat) (st : List (Option Nat) × Nat) (c : Nat) : List (Option Nat) × Nat := match st.1.getD c none with
 | none => (st.1.set c (some n), st.2)
 | some m => (st.1, if m < st.2 then m else st.2)
def hold (n : Nat) (st : List (Option Nat) × Nat) (cs : List Nat) : List (Option Nat) × Nat := cs.foldl (holdStep n) st
theorem hold_snoc (n : Nat) (st : List (Option Nat) × Nat) (cs : List Nat) (c : Nat) : hold n st (cs ++ [c]) = holdStep n (hold n st cs) c := by
 unfold hold
 rw [List.foldl_append]
 rfl
theorem holdStep_len (n : Nat) (st : List (Option Nat) × Nat) (c : Nat) : (holdStep n st c).1.length = st.1.length := by
 unfold holdStep
 split
 ·rw [List.length_set]
 ·rfl
theorem hold_len (n : Nat) : ∀ (cs : List Nat) (st : List (Option Nat) × Nat), (hold n st cs).1.length = st.1.length
 | [], _ => rfl
 | c :: r, st => by
  show (hold n (holdStep n st c) r).1.length = _
  rw [hold_len n r, holdStep_len]
structure Held (C : Nat -> Nat -> Prop) (n : Nat) (hs : List (Option Nat)) : Prop where
 none_ : ∀ c, hs[c]? = some none -> ∀ m, m < n -> ¬ C m c
 some_ : ∀ c m, hs[c]? = some (some m) -> m < n /\ C m c /\ ∀ m', m' < m -> ¬ C m' c
structure Mid (C : Nat -> Nat -> Prop) (n : Nat) (P : List Nat) (st : List (Option Nat) × Nat) : Prop where
 none_ : ∀ c, st.1[c]? = some none -> (∀ m, m < n -> ¬ C m c) /\ c ∉ P
 some_ : ∀ c m, st.1[c]? = some (some m) -> (m < n /\ C m c /\ ∀ m', m' < m -> ¬ C m' c) ∨ (m = n /\ c ∈ P /\ ∀ m', m' < n -> ¬ C m' c)
 le : st.2 <= n
 wit : st.2 < n -> ∃ c, c ∈ P /\ C st.2 c
 least : ∀ c, c ∈ P -> ∀ m, m < n -> C m c -> st.2 <= m
theorem mid_nil {C : Nat -> Nat -> Prop} {n : Nat} {hs : List (Option Nat)} (h : Held C n hs) : Mid C n [] (hs, n) :=
 ⟨λ c e => ⟨h.none_ c e, λ z => by cases z⟩, λ c m e => .inl (h.some_ c m e), Nat.le_refl _, λ z => absurd z (Nat.lt_irrefl _), λ c z => by cases z⟩
theorem mid_step {C : Nat -> Nat -> Prop} {n : Nat} {P : List Nat} {st : List (Option Nat) × Nat} (M : Mid C n P st) {c : Nat} (hc : c < st.1.length) : Mid C n (P ++ [c]) (holdStep n st c) := by
 have mem : ∀ x, x ∈ P ++ [c] ↔ x ∈ P ∨ x = c := λ x => by rw [List.mem_append, List.mem_singleton]
 obtain ⟨o, ho⟩ : ∃ o, st.1[c]? = some o := ⟨_, List.getElem?_eq_getElem hc⟩
 have hg : st.1.getD c none = o := by rw [List.getD_eq_getElem?_getD, ho]; rfl
 unfold holdStep
 rw [hg]
 cases o with
 | none =>
  obtain ⟨n1, n2⟩ := M.none_ c ho
  refine ⟨λ d e => ?_, λ d m e => ?_, M.le, λ z => ?_, λ d hd m hm hC => ?_⟩
  ·by_cases q : c = d
   ·subst q
    rw [List.getElem?_set_self hc] at e
    cases Option.some.inj e
   ·rw [List.getElem?_set_ne q] at e
    obtain ⟨a, b⟩ := M.none_ d e
    exact ⟨a, λ z => ((mem d).mp z).elim b λ z => q z.symm⟩
  ·by_cases q : c = d
   ·subst q
    rw [List.getElem?_set_self hc] at e
    have e := Option.some.inj (Option.some.inj e)
    exact .inr ⟨e.symm, (mem c).mpr (.inr rfl), n1⟩
   ·rw [List.getElem?_set_ne q] at e
    rcases M.some_ d m e with a | ⟨a, b, d'⟩
    ·exact .inl a
    ·exact .inr ⟨a, (mem d).mpr (.inl b), d'⟩
  ·obtain ⟨d, a, b⟩ := M.wit z
   exact ⟨d, (mem d).mpr (.inl a), b⟩
  ·rcases (mem d).mp hd with q | q
   ·exact M.least d q m hm hC
   ·subst q
    exact absurd hC (n1 m hm)
 | some m0 =>
  have base := M.some_ c m0 ho
  refine ⟨λ d e => ?_, λ d m e => ?_, ?_, λ z => ?_, λ d hd m hm hC => ?_⟩
  ·obtain ⟨a, b⟩ := M.none_ d e
   refine ⟨a, λ z => ((mem d).mp z).elim b λ z => ?_⟩
   subst z
   rw [ho] at e
   cases Option.some.inj e
  ·rcases M.some_ d m e with a | ⟨a, b, d'⟩
   ·exact .inl a
   ·exact .inr ⟨a, (mem d).mpr (.inl b), d'⟩
  ·show (if m0 < st.2 then m0 else st.2) <= n
   have := M.le
   split <;> omega
  ·have z : (if m0 < st.2 then m0 else st.2) < n := z
   show ∃ d, d ∈ P ++ [c] /\ C (if m0 < st.2 then m0 else st.2) d
   by_cases q : m0 < st.2
   ·rw [if_pos q] at z ⊢
    rcases base with ⟨_, b, _⟩ | ⟨b, _, _⟩
    ·exact ⟨c, (mem c).mpr (.inr rfl), b⟩
    ·omega
   ·rw [if_neg q] at z ⊢
    obtain ⟨d, a, b⟩ := M.wit z
    exact ⟨d, (mem d).mpr (.inl a), b⟩
  ·show (if m0 < st.2 then m0 else st.2) <= m
   rcases (mem d).mp hd with q | q
   ·have := M.least d q m hm hC
    split <;> omega
   ·subst q
    have h0 : m0 <= m := by
     rcases base with ⟨_, _, b⟩ | ⟨_, _, b⟩
     ·rcases Nat.lt_or_ge m m0 with z | z
      ·exact absurd hC (b m z)
      ·exact z
     ·exact absurd hC (b m hm)
    split <;> omega
theorem mid_all {C : Nat -> Nat -> Prop} {n : Nat} : ∀ (cs P : List Nat) (st : List (Option Nat) × Nat), Mid C n P st -> (∀ c ∈ cs, c < st.1.length) -> Mid C n (P ++ cs) (hold n st cs)
 | [], P, st, M, _ => by rw [List.append_nil]; exact M
 | c :: r, P, st, M, h => by
  have := mid_all r (P ++ [c]) (holdStep n st c) (mid_step M (h c List.mem_cons_self)) (λ d hd => by rw [holdStep_len]; exact h d (List.mem_cons_of_mem _ hd))
  rw [List.append_assoc] at this
  exact this
theorem held_next {C : Nat -> Nat -> Prop} {n : Nat} {cs : List Nat} {st : List (Option Nat) × Nat} (M : Mid C n cs st) (hC : ∀ c, C n c ↔ c ∈ cs) : Held C (n + 1) st.1 := by
 refine ⟨λ c e m hm => ?_, λ c m e => ?_⟩
 ·obtain ⟨a, b⟩ := M.none_ c e
  rcases Nat.lt_or_ge m n with q | q
  ·exact a m q
  ·have : m = n := by omega
   subst this
   exact λ z => b ((hC c).mp z)
 ·rcases M.some_ c m e with ⟨a, b, d⟩ | ⟨a, b, d⟩
  ·exact ⟨by omega, b, d⟩
  ·subst a
   exact ⟨by omega, (hC c).mpr b, d⟩
def IsFirst (T : Nat -> Nat -> Prop) (n : Nat) : Option (Nat × Nat) -> Prop
 | none => ∀ i j, i < j -> j < n -> ¬ T i j
 | some (i, j) => i < j /\ j < n /\ T i j /\ ∀ i' j', i' < j' -> j' < n -> (i' < i ∨ (i' = i /\ j' < j)) -> ¬ T i' j'
theorem first_step {T : Nat -> Nat -> Prop} {n : Nat} {o : Option (Nat × Nat)} (h : IsFirst T n o) {met : Nat} (hle : met <= n) (hw : met < n -> T met n) (hl : ∀ m, m < n -> T m n -> met <= m) :
  IsFirst T (n + 1) (if met < n /\ (∀ p, o = some p -> met < p.1) then some (met, n) else o) := by
 split
 ·rename_i q
  refine ⟨q.1, by omega, hw q.1, λ i' j' a b c d => ?_⟩
  rcases Nat.lt_or_ge j' n with z | z
  ·cases o with
   | none => exact h i' j' a z d
   | some p =>
    obtain ⟨i, j⟩ := p
    have := q.2 (i, j) rfl
    exact h.2.2.2 i' j' a z (.inl (by show i' < i; have : met < i := this; omega)) d
  ·have : j' = n := by omega
   subst this
   have := hl i' a d
   omega
 ·rename_i q
  have hq : met < n -> ∃ p, o = some p /\ p.1 <= met := λ z => by
   refine Classical.byContradiction λ no => q ⟨z, λ p e => ?_⟩
   rcases Nat.lt_or_ge met p.1 with w | w
   ·exact w
   ·exact absurd ⟨p, e, w⟩ no
  have nomeet : ∀ m, m < n -> T m n -> met < n := λ m a b => by have := hl m a b; omega
  cases o with
  | none =>
   intro i j a b c
   rcases Nat.lt_or_ge j n with z | z
   ·exact h i j a z c
   ·have : j = n := by omega
    subst this
    obtain ⟨p, e, _⟩ := hq (nomeet i a c)
    cases e
  | some p =>
   obtain ⟨i, j⟩ := p
   obtain ⟨a, b, c, d⟩ := h
   refine ⟨a, by omega, c, λ i' j' a' b' c' d' => ?_⟩
   rcases Nat.lt_or_ge j' n with z | z
   ·exact d i' j' a' z c' d'
   ·have : j' = n := by omega
    subst this
    obtain ⟨p, e, hp⟩ := hq (nomeet i' a' d')
    cases e
    have := hl i' a' d'
    have hp : i <= met := hp
    omega
end Pc
end
section
namespace Pc.Tab
open PySem PySem.SetTable
def stp (x : Nat) : Nat := 5 * x + 1
def it : Nat -> Nat -> Nat
 | 0, x => x
 | n + 1, x => it n (stp x)
theorem it_add : ∀ (m n x : Nat), it (m + n) x = it n (it m x)
 | 0, n, x => by rw [Nat.zero_add]; rfl
 | m + 1, n, x => by
  rw [Nat.add_right_comm]
  show it (m + n) (stp x) = it n (it m (stp x))
  exact it_add m n (stp x)
theorem it_succ (n x : Nat) : it (n + 1) x = stp (it n x) := it_add n 1 x
def gk : Nat -> Nat
 | 0 => 1
 | k + 1 => 2 * gk k * (2 * gk k + 1)
theorem it_pow : ∀ (k y : Nat), it (2 ^ k) y = y + gk k * (4 * y + 1)
 | 0, y => by
  show 5 * y + 1 = y + 1 * (4 * y + 1)
  omega
 | k + 1, y => by
  rw [Nat.pow_succ, Nat.mul_two, it_add, it_pow k, it_pow k]
  show _ = y + 2 * gk k * (2 * gk k + 1) * (4 * y + 1)
  generalize gk k = g
  grind
theorem gk_odd : ∀ k : Nat, ∃ w, gk k = 2 ^ k * (2 * w + 1)
 | 0 => ⟨0, rfl⟩
 | k + 1 => by
  obtain ⟨w, e⟩ := gk_odd k
  refine ⟨w * (2 * gk k + 1) + gk k, ?_⟩
  show 2 * gk k * (2 * gk k + 1) = _
  rw [Nat.pow_succ]
  generalize hg : gk k = g
  rw [hg] at e
  have : 2 * g * (2 * g + 1) = 2 * (2 ^ k * (2 * w + 1)) * (2 * g + 1) := by rw [<- e]
  rw [this]
  grind
theorem it_mul (k : Nat) : ∀ (q y : Nat), ∃ z, it (2 ^ k * q) y = y + 2 ^ k * q + 2 ^ (k + 1) * z
 | 0, y => ⟨0, by simp [it]⟩
 | q + 1, y => by
  obtain ⟨z, e⟩ := it_mul k q y
  obtain ⟨w, eg⟩ := gk_odd k
  rw [Nat.mul_succ, it_add, it_pow, e, eg]
  generalize hy : y + 2 ^ k * q + 2 ^ (k + 1) * z = y'
  refine ⟨z + w * (4 * y' + 1) + 2 * y', ?_⟩
  rw [Nat.pow_succ] at hy ⊢
  generalize 2 ^ k = M at *
  grind
theorem period : ∀ (k d y : Nat), it d y % 2 ^ k = y % 2 ^ k -> 2 ^ k ∣ d
 | 0, d, y, _ => by simp
 | k + 1, d, y, h => by
  have h0 : it d y % 2 ^ k = y % 2 ^ k := by
   have dv : 2 ^ k ∣ 2 ^ (k + 1) := ⟨2, Nat.pow_succ ..⟩
   rw [<- Nat.mod_mod_of_dvd _ dv, h, Nat.mod_mod_of_dvd _ dv]
  obtain ⟨q, rfl⟩ := period k d y h0
  obtain ⟨z, e⟩ := it_mul k q y
  rw [e, Nat.add_mul_mod_self_left] at h
  have h1 := Nat.sub_mod_eq_zero_of_mod_eq h
  rw [Nat.add_sub_cancel_left] at h1
  exact Nat.dvd_of_mod_eq_zero h1
def blk (mask : Nat) (h : Int) : Nat -> Nat × Nat
 | 0 => (bits h % (mask + 1), bits h)
 | m + 1 => leap mask (blk mask h m).1 (blk mask h m).2
theorem bits_lt (h : Int) : bits h < 2 ^ 64 := by
 unfold bits
 have h1 := Int.emod_nonneg h (show (2 ^ 64 : Int) ≠ 0 by decide)
 have h2 := Int.emod_lt_of_pos h (show (0 : Int) < 2 ^ 64 by decide)
 omega
theorem blk_pert (mask : Nat) (h : Int) : ∀ m, (blk mask h m).2 = bits h / 32 ^ m
 | 0 => by simp [blk]
 | m + 1 => by
  show (blk mask h m).2 / 32 = _
  rw [blk_pert mask h m, Nat.div_div_eq_div_mul, Nat.pow_succ]
theorem blk_zero (mask : Nat) (h : Int) (n : Nat) : (blk mask h (13 + n)).2 = 0 := by
 rw [blk_pert]
 refine Nat.div_eq_of_lt (Nat.lt_of_lt_of_le (bits_lt h) ?_)
 have : (2 : Nat) ^ 64 <= 32 ^ 13 := by decide
 exact Nat.le_trans this (Nat.pow_le_pow_right (by decide) (Nat.le_add_right ..))
theorem blk_lt (mask : Nat) (h : Int) : ∀ m, (blk mask h m).1 < mask + 1
 | 0 => Nat.mod_lt _ (Nat.succ_pos _)
 | _ + 1 => Nat.mod_lt _ (Nat.succ_pos _)
theorem blk_it (mask : Nat) (h : Int) : ∀ n, (blk mask h (13 + n)).1 = it n (blk mask h 13).1 % (mask + 1)
 | 0 => (Nat.mod_eq_of_lt (blk_lt ..)).symm
 | n + 1 => by
  show ((blk mask h (13 + n)).1 * 5 + 1 + (blk mask h (13 + n)).2 / 32) % (mask + 1) = _
  rw [blk_zero, blk_it mask h n, it_succ]
  generalize it n (blk mask h 13).1 = x
  show (x % (mask + 1) * 5 + 1 + 0) % (mask + 1) = (5 * x + 1) % (mask + 1)
  rw [Nat.add_zero, Nat.mul_comm 5 x, Nat.add_mod, Nat.mul_mod, Nat.mod_mod, <- Nat.mul_mod, <- Nat.add_mod]
theorem blk_ne {mask k : Nat} (hm : mask + 1 = 2 ^ k) (h : Int) {a b : Nat} (hab : a < b) (hb : b <= mask) : (blk mask h (13 + a)).1 ≠ (blk mask h (13 + b)).1 := by
 intro e
 rw [blk_it, blk_it, hm] at e
 have e2 : b = a + (b - a) := by omega
 rw [e2, it_add] at e
 obtain ⟨c, hc⟩ := period k (b - a) _ e.symm
 rw [<- hm] at hc
 cases c with
 | zero => omega
 | succ c =>
  rw [Nat.mul_succ] at hc
  omega
theorem free_block {mask k : Nat} (hm : mask + 1 = 2 ^ k) (h : Int) {pl : List Nat} (hl : pl.length <= mask) : ∃ m, m <= 13 + pl.length /\ (blk mask h m).1 ∉ pl := by
 refine Classical.byContradiction λ no => ?_
 have all : ∀ m, m <= 13 + pl.length -> (blk mask h m).1 ∈ pl := λ m hm => Classical.byContradiction λ q => no ⟨m, hm, q⟩
 have nd : ((List.range (pl.length + 1)).map λ a => (blk mask h (13 + a)).1).Nodup := by
  rw [List.Nodup, List.pairwise_map]
  refine List.pairwise_lt_range.imp_of_mem λ {x y} hx hy q => ?_
  rw [List.mem_range] at hx hy
  exact blk_ne hm h q (by omega)
 have sub : ((List.range (pl.length + 1)).map λ a => (blk mask h (13 + a)).1) ⊆ pl := λ x hx => by
  obtain ⟨a, ha, rfl⟩ := List.mem_map.mp hx
  rw [List.mem_range] at ha
  exact all _ (by omega)
 have := List.Nodup.length_le_of_subset nd sub
 rw [lnm, lnr] at this
 omega
def adv (mask : Nat) (p : Probe) : Probe :=
 if p.more > 0 then { p with j := p.j + 1, more := p.more - 1 } else
 { p with j := (leap mask p.i p.perturb).1, more := runEnd mask (leap mask p.i p.perturb).1 - (leap mask p.i p.perturb).1, i := (leap mask p.i p.perturb).1, perturb := (leap mask p.i p.perturb).2 }
def prb (mask : Nat) (h : Int) : Nat -> Probe
 | 0 => { j := bits h % (mask + 1), more := runEnd mask (bits h % (mask + 1)) - bits h % (mask + 1), i := bits h % (mask + 1), perturb := bits h, dummy := none }
 | n + 1 => adv mask (prb mask h n)
theorem start_eq (t : SetTable) (h : Int) : t.probeStart h = prb t.mask h 0 := rfl
def jq (mask : Nat) (h : Int) (n : Nat) : Nat := (prb mask h n).j
def st (mask : Nat) (h : Int) : Nat -> Nat
 | 0 => 0
 | m + 1 => st mask h m + (runEnd mask (blk mask h m).1 - (blk mask h m).1) + 1
theorem runEnd_le {mask i : Nat} (h : i <= mask) : runEnd mask i <= mask /\ i <= runEnd mask i /\ runEnd mask i <= i + 9 := by
 unfold runEnd
 split <;> omega
theorem prb_run (mask : Nat) (h : Int) (m : Nat) (e : prb mask h (st mask h m) = ⟨(blk mask h m).1, runEnd mask (blk mask h m).1 - (blk mask h m).1, (blk mask h m).1, (blk mask h m).2, none⟩) :
  ∀ r, r <= runEnd mask (blk mask h m).1 - (blk mask h m).1 -> prb mask h (st mask h m + r) = ⟨(blk mask h m).1 + r, runEnd mask (blk mask h m).1 - (blk mask h m).1 - r, (blk mask h m).1, (blk mask h m).2, none⟩
 | 0, _ => e
 | r + 1, hr => by
  have ih := prb_run mask h m e r (by omega)
  show adv mask (prb mask h (st mask h m + r)) = _
  rw [ih]
  unfold adv
  rw [if_pos (show (runEnd mask (blk mask h m).1 - (blk mask h m).1 - r) > 0 by omega)]
  rfl
theorem prb_st (mask : Nat) (h : Int) : ∀ m, prb mask h (st mask h m) = ⟨(blk mask h m).1, runEnd mask (blk mask h m).1 - (blk mask h m).1, (blk mask h m).1, (blk mask h m).2, none⟩
 | 0 => rfl
 | m + 1 => by
  have e := prb_run mask h m (prb_st mask h m) _ (Nat.le_refl _)
  show adv mask (prb mask h (st mask h m + (runEnd mask (blk mask h m).1 - (blk mask h m).1))) = _
  rw [e]
  unfold adv
  rw [if_neg (show ¬ (runEnd mask (blk mask h m).1 - (blk mask h m).1 - (runEnd mask (blk mask h m).1 - (blk mask h m).1)) > 0 by omega)]
  rfl
theorem jq_run (mask : Nat) (h : Int) (m r : Nat) (hr : r <= runEnd mask (blk mask h m).1 - (blk mask h m).1) : jq mask h (st mask h m + r) = (blk mask h m).1 + r := by
 unfold jq
 rw [prb_run mask h m (prb_st mask h m) r hr]
theorem prb_dummy (mask : Nat) (h : Int) : ∀ n, (prb mask h n).dummy = none
 | 0 => rfl
 | n + 1 => by
  show (adv mask (prb mask h n)).dummy = none
  unfold adv
  split <;> exact prb_dummy mask h n
theorem st_le (mask : Nat) (h : Int) : ∀ m, st mask h m <= 10 * m
 | 0 => Nat.le_refl _
 | m + 1 => by
  have := st_le mask h m
  have := runEnd_le (Nat.le_of_lt_succ (blk_lt mask h m))
  show st mask h m + (runEnd mask (blk mask h m).1 - (blk mask h m).1) + 1 <= _
  omega
theorem prb_le (mask : Nat) (h : Int) : ∀ n, (prb mask h n).j + (prb mask h n).more <= mask
 | 0 => by
  have := runEnd_le (mask := mask) (i := bits h % (mask + 1)) (Nat.le_of_lt_succ (Nat.mod_lt (bits h) (Nat.succ_pos mask)))
  show bits h % (mask + 1) + (runEnd mask (bits h % (mask + 1)) - bits h % (mask + 1)) <= mask
  omega
 | n + 1 => by
  have ih := prb_le mask h n
  show (adv mask (prb mask h n)).j + (adv mask (prb mask h n)).more <= mask
  unfold adv
  split
  ·show (prb mask h n).j + 1 + ((prb mask h n).more - 1) <= mask
   omega
  ·have := runEnd_le (Nat.le_of_lt_succ (show (leap mask (prb mask h n).i (prb mask h n).perturb).1 < mask + 1 from Nat.mod_lt _ (Nat.succ_pos mask)))
   show (leap mask (prb mask h n).i (prb mask h n).perturb).1 + (runEnd mask (leap mask (prb mask h n).i (prb mask h n).perturb).1 - (leap mask (prb mask h n).i (prb mask h n).perturb).1) <= mask
   omega
theorem jq_le (mask : Nat) (h : Int) (n : Nat) : jq mask h n <= mask := Nat.le_trans (Nat.le_add_right ..) (prb_le mask h n)
theorem least_of {p : Nat -> Prop} : ∀ N, p N -> ∃ n, n <= N /\ p n /\ ∀ m, m < n -> ¬ p m := by
 intro N
 induction N using Nat.strongRecOn with
 | ind N ih =>
  intro hN
  by_cases q : ∃ m, m < N /\ p m
  ·obtain ⟨m, hm, hp⟩ := q
   obtain ⟨n, h1, h2, h3⟩ := ih m hm hp
   exact ⟨n, by omega, h2, h3⟩
  ·exact ⟨N, Nat.le_refl _, hN, λ m hm hp => q ⟨m, hm, hp⟩⟩
theorem first_free {mask k : Nat} (hm : mask + 1 = 2 ^ k) (h : Int) {pl : List Nat} (hl : pl.length <= mask) : ∃ n, n <= 10 * (13 + pl.length) /\ jq mask h n ∉ pl /\ ∀ m, m < n -> jq mask h m ∈ pl := by
 obtain ⟨m, h1, h2⟩ := free_block hm h hl
 have e := jq_run mask h m 0 (Nat.zero_le _)
 rw [Nat.add_zero, Nat.add_zero] at e
 obtain ⟨n, a, b, c⟩ := least_of (p := λ n => jq mask h n ∉ pl) (st mask h m) (by show jq mask h (st mask h m) ∉ pl; rw [e]; exact h2)
 have := st_le mask h m
 exact ⟨n, by omega, b, λ q hq => Classical.byContradiction λ z => c q hq z⟩
end Pc.Tab
end
section
namespace Pc.Tab
open PySem PySem.SetTable
theorem ris_lt {xs : Array Nat} (hr : xs.toList.Pairwise (· < ·)) {i k v u : Nat} (h : i < k) (hi : xs[i]? = some v) (hk : xs[k]? = some u) : v < u := by
 rw [<- Array.getElem?_toList] at hi hk
 obtain ⟨h1, e1⟩ := List.getElem?_eq_some_iff.mp hi
 obtain ⟨h2, e2⟩ := List.getElem?_eq_some_iff.mp hk
 have := List.pairwise_iff_getElem.mp hr i k h1 h2 h
 rw [e1, e2] at this
 exact this
theorem go_spec {xs : Array Nat} (hr : xs.toList.Pairwise (· < ·)) (j : Nat) : ∀ (fuel lo hi : Nat), hi - lo <= fuel -> lo <= hi -> hi <= xs.size -> (∀ i v, i < lo -> xs[i]? = some v -> v < j) -> (∀ i v, hi <= i -> xs[i]? = some v -> j <= v) ->
  below.go xs j fuel lo hi <= xs.size /\ (∀ i v, i < below.go xs j fuel lo hi -> xs[i]? = some v -> v < j) /\ (∀ i v, below.go xs j fuel lo hi <= i -> xs[i]? = some v -> j <= v)
 | 0, lo, hi, hf, h1, h2, a, b => by
  have : lo = hi := by omega
  subst this
  exact ⟨h2, a, b⟩
 | fuel + 1, lo, hi, hf, h1, h2, a, b => by
  unfold below.go
  split
  ·rename_i q
   dsimp only
   have hm : (lo + hi) / 2 < xs.size := by omega
   obtain ⟨v, hv⟩ : ∃ v, xs[(lo + hi) / 2]? = some v := ⟨_, Array.getElem?_eq_getElem hm⟩
   have hg : xs.getD ((lo + hi) / 2) j = v := by rw [Array.getD_eq_getD_getElem?, hv]; rfl
   rw [hg]
   split
   ·rename_i hlt
    refine go_spec hr j fuel _ hi (by omega) (by omega) h2 (λ i u hi' hu => ?_) b
    rcases Nat.lt_or_ge i ((lo + hi) / 2) with z | z
    ·exact Nat.lt_trans (ris_lt hr z hu hv) hlt
    ·have : i = (lo + hi) / 2 := by omega
     subst this
     rw [hu] at hv
     cases hv
     exact hlt
   ·rename_i hge
    refine go_spec hr j fuel lo _ (by omega) (by omega) (by omega) a (λ i u hi' hu => ?_)
    rcases Nat.lt_or_ge ((lo + hi) / 2) i with z | z
    ·have := ris_lt hr z hv hu
     omega
    ·have : i = (lo + hi) / 2 := by omega
     subst this
     rw [hu] at hv
     cases hv
     omega
  ·have : lo = hi := by omega
   subst this
   exact ⟨h2, a, b⟩
theorem below_spec {xs : Array Nat} (hr : xs.toList.Pairwise (· < ·)) (j : Nat) : below xs j <= xs.size /\ (∀ i v, i < below xs j -> xs[i]? = some v -> v < j) /\ (∀ i v, below xs j <= i -> xs[i]? = some v -> j <= v) :=
 go_spec hr j xs.size 0 xs.size (by omega) (Nat.zero_le _) (Nat.le_refl _) (λ i v h => absurd h (Nat.not_lt_zero _)) (λ i v h hv => by
  rw [Array.getElem?_eq_none h] at hv; cases hv)
theorem below_at {xs : Array Nat} (hr : xs.toList.Pairwise (· < ·)) {i j : Nat} (h : xs[i]? = some j) : below xs j = i := by
 obtain ⟨h1, h2, h3⟩ := below_spec hr j
 rcases Nat.lt_trichotomy (below xs j) i with q | q | q
 ·have hi : i < xs.size := (Array.getElem?_eq_some_iff.mp h).1
  obtain ⟨v, hv⟩ : ∃ v, xs[below xs j]? = some v := ⟨_, Array.getElem?_eq_getElem (by omega)⟩
  have := h3 _ _ (Nat.le_refl _) hv
  have := ris_lt hr q hv h
  omega
 ·exact q
 ·have := h2 i j q h
  omega
theorem slot_live {t : SetTable} (hr : t.place.toList.Pairwise (· < ·)) {i j : Nat} (h : t.place[i]? = some j) : t.slot j = .live i := by
 unfold slot
 dsimp only
 rw [below_at hr h, h, if_pos (by simp)]
theorem has_nil (j : Nat) : has #[] j = false := by
 unfold has
 rw [Array.getElem?_eq_none (Nat.zero_le _)]
 rfl
theorem slot_empty {t : SetTable} (hd : t.dummies = #[]) {j : Nat} (h : j ∉ t.place.toList) : t.slot j = .empty := by
 unfold slot
 dsimp only
 rw [if_neg, hd, has_nil]
 ·rfl
 ·intro e
  rw [beq_iff_eq, <- Array.getElem?_toList] at e
  exact h (List.mem_of_getElem? e)
structure WF (t : SetTable) (hs : List Int) : Prop where
 pow : ∃ k, t.mask + 1 = 2 ^ k
 big : 7 <= t.mask
 ris : t.place.toList.Pairwise (· < ·)
 le : ∀ j ∈ t.place.toList, j <= t.mask
 dm : t.dummies = #[]
 len : t.place.toList.length = hs.length
 few : hs.length <= t.mask
 plain : t.plain = true
 seq : ∀ (i : Nat) (h : Int), hs[i]? = some h -> ∃ n, t.place.toList[i]? = some (jq t.mask h n) /\ ∀ m, m < n -> jq t.mask h m ∈ t.place.toList
theorem WF.fill {t : SetTable} {hs : List Int} (W : WF t hs) : t.fill = hs.length := by
 unfold SetTable.fill
 rw [W.dm, <- W.len, Array.length_toList]
 rfl
theorem WF.fits {t : SetTable} {hs : List Int} (W : WF t hs) : t.fits hs.length = true := by
 unfold SetTable.fits
 rw [W.fill, Bool.and_eq_true, beq_iff_eq, dte, <- W.len, Array.length_toList]
 refine ⟨rfl, ?_⟩
 have := W.few
 rw [<- W.len, Array.length_toList] at this
 exact this
theorem WF.way {t : SetTable} {hs : List Int} (W : WF t hs) : t.gaveWay = false := by
 unfold SetTable.gaveWay
 obtain ⟨k, e⟩ := W.pow
 have := W.big
 cases k with
 | zero => simp at e; omega
 | succ k =>
  rw [Nat.pow_succ] at e
  have : t.mask % 2 = 1 := by omega
  rw [this]
  rfl
theorem wf_fresh (f m : Nat) (led : Bool) : WF (.fresh f m led) [] :=
 ⟨⟨3, rfl⟩, Nat.le_refl _, .nil, (λ _ h => nomatch h), rfl, rfl, Nat.zero_le _, rfl, (λ i h e => by simp at e)⟩
theorem toList_ins {α : Type} (xs : Array α) (p : Nat) (x : α) : (insertAt xs p x).toList = xs.toList.take p ++ x :: xs.toList.drop p := by
 simp [insertAt, List.extract_eq_take_drop, List.take_of_length_le]
theorem ins_mem {α : Type} (l : List α) (p : Nat) (x y : α) : y ∈ l.take p ++ x :: l.drop p ↔ y = x ∨ y ∈ l := by
 conv => rhs; rw [<- List.take_append_drop p l]
 simp only [List.mem_append, List.mem_cons]
 constructor
 ·rintro (h | h | h)
  ·exact .inr (.inl h)
  ·exact .inl h
  ·exact .inr (.inr h)
 ·rintro (h | h | h)
  ·exact .inr (.inl h)
  ·exact .inl h
  ·exact .inr (.inr h)
theorem ins_at {α : Type} {l : List α} {p : Nat} (hp : p <= l.length) (x : α) (i : Nat) : (l.take p ++ x :: l.drop p)[i]? = if i < p then l[i]? else if i = p then some x else l[i - 1]? := by
 have hl : (l.take p).length = p := by rw [lnt]; omega
 split
 ·rename_i h
  rw [List.getElem?_append_left (by omega), List.getElem?_take_of_lt h]
 ·rename_i h
  rw [List.getElem?_append_right (by omega), hl]
  split
  ·rename_i e
   subst e
   rw [Nat.sub_self]
   rfl
  ·rename_i e
   obtain ⟨d, hd⟩ : ∃ d, i - p = d + 1 := ⟨i - p - 1, by omega⟩
   rw [hd, List.getElem?_cons_succ, List.getElem?_drop]
   congr 1
   omega
theorem WF.put {t : SetTable} {hs : List Int} (W : WF t hs) {h : Int} {n : Nat} (hlt : hs.length < t.mask) (hn : jq t.mask h n ∉ t.place.toList) (hb : ∀ m, m < n -> jq t.mask h m ∈ t.place.toList) :
  WF (t.put (jq t.mask h n)).1 (hs.take (t.put (jq t.mask h n)).2 ++ h :: hs.drop (t.put (jq t.mask h n)).2) /\ (t.put (jq t.mask h n)).2 <= hs.length /\ (t.put (jq t.mask h n)).1.mask = t.mask /\ (t.put (jq t.mask h n)).1.moves = t.moves := by
 obtain ⟨b1, b2, b3⟩ := below_spec W.ris (jq t.mask h n)
 generalize hj : jq t.mask h n = j at *
 have epl : (t.put j).1.place.toList = t.place.toList.take (below t.place j) ++ j :: t.place.toList.drop (below t.place j) := toList_ins ..
 have ep : (t.put j).2 = below t.place j := rfl
 have em : (t.put j).1.mask = t.mask := rfl
 have hpl : below t.place j <= hs.length := by rw [<- W.len, Array.length_toList]; exact b1
 refine ⟨⟨W.pow, W.big, ?_, ?_, ?_, ?_, ?_, W.plain, ?_⟩, by rw [ep]; exact hpl, em, rfl⟩
 ·rw [epl, List.pairwise_append]
  have hr := W.ris
  have e := List.take_append_drop (below t.place j) t.place.toList
  rw [<- e, List.pairwise_append] at hr
  obtain ⟨r1, r2, r3⟩ := hr
  have ha : ∀ x ∈ t.place.toList.take (below t.place j), x < j := λ x hx => by
   obtain ⟨i, hi, ex⟩ := List.getElem_of_mem hx
   have hx? := List.getElem?_eq_getElem hi
   rw [ex] at hx?
   have hil : i < below t.place j := by rw [lnt] at hi; omega
   rw [List.getElem?_take_of_lt hil, Array.getElem?_toList] at hx?
   exact b2 i x hil hx?
  have hbb : ∀ x ∈ t.place.toList.drop (below t.place j), j < x := λ x hx => by
   obtain ⟨i, hi, ex⟩ := List.getElem_of_mem hx
   have hx? := List.getElem?_eq_getElem hi
   rw [ex, List.getElem?_drop, Array.getElem?_toList] at hx?
   have h1 := b3 _ x (Nat.le_add_right _ i) hx?
   have h2 : x ≠ j := λ q => by
    rw [q] at hx
    exact hn (List.mem_of_mem_drop hx)
   omega
  refine ⟨r1, List.pairwise_cons.mpr ⟨hbb, r2⟩, λ a ha' b hb' => ?_⟩
  rcases List.mem_cons.mp hb' with q | q
  ·rw [q]; exact ha a ha'
  ·exact r3 a ha' b q
 ·intro x hx
  rw [epl, ins_mem] at hx
  rcases hx with q | q
  ·rw [q, <- hj]; exact jq_le ..
  ·exact W.le x q
 ·show (if has t.dummies j then eraseAt t.dummies (below t.dummies j) else t.dummies) = #[]
  rw [W.dm, has_nil]
  rfl
 ·rw [epl, ep]
  simp only [List.length_append, List.length_cons, List.length_take, List.length_drop, W.len]
 ·rw [ep, em]
  simp only [List.length_append, List.length_cons, List.length_take, List.length_drop]
  omega
 ·intro i g hi
  rw [ep, ins_at hpl] at hi
  rw [epl, em]
  have mono : ∀ x, x ∈ t.place.toList -> x ∈ t.place.toList.take (below t.place j) ++ j :: t.place.toList.drop (below t.place j) := λ x hx => (ins_mem ..).mpr (.inr hx)
  rw [ins_at (by rw [W.len]; exact hpl)]
  split at hi
  ·rename_i q
   obtain ⟨m, h1, h2⟩ := W.seq i g hi
   exact ⟨m, by rw [if_pos q]; exact h1, λ a ha => mono _ (h2 a ha)⟩
  ·rename_i q
   split at hi
   ·rename_i q2
    cases hi
    exact ⟨n, by rw [if_neg q, if_pos q2, hj], λ a ha => mono _ (hb a ha)⟩
   ·rename_i q2
    obtain ⟨m, h1, h2⟩ := W.seq _ g hi
    exact ⟨m, by rw [if_neg q, if_neg q2]; exact h1, λ a ha => mono _ (h2 a ha)⟩
theorem go_empty {t : SetTable} {hs : List Int} (W : WF t hs) {hashAt : Nat -> Int} {h : Int} {N : Nat} (hN : jq t.mask h N ∉ t.place.toList) (hb : ∀ m, m < N -> jq t.mask h m ∈ t.place.toList)
  (hno : ∀ i : Nat, (hashAt i == h) = false) : ∀ (d n fuel : Nat), N - n = d -> n <= N -> d < fuel -> probe.go t hashAt h fuel (prb t.mask h n) = some (.empty (jq t.mask h N) none)
 | 0, n, fuel + 1, hd, hn, hf => by
  have : n = N := by omega
  subst this
  unfold probe.go
  have e : t.slot (prb t.mask h n).j = .empty := slot_empty W.dm hN
  rw [e, prb_dummy]
  rfl
 | d + 1, n, fuel + 1, hd, hn, hf => by
  unfold probe.go
  obtain ⟨i, hi, ei⟩ := List.getElem_of_mem (hb n (by omega))
  have hi? := List.getElem?_eq_getElem hi
  rw [ei, Array.getElem?_toList] at hi?
  have e : t.slot (prb t.mask h n).j = .live i := slot_live W.ris hi?
  rw [e]
  dsimp only
  rw [hno, if_neg Bool.false_ne_true]
  exact go_empty W hN hb hno d (n + 1) fuel (by omega) (by omega) (by omega)
theorem free_slot {t : SetTable} {hs : List Int} (W : WF t hs) (h : Int) : ∃ n, n <= 10 * (13 + hs.length) /\ jq t.mask h n ∉ t.place.toList /\ (∀ m, m < n -> jq t.mask h m ∈ t.place.toList) /\ t.freeSlot h = some (jq t.mask h n, false) := by
 obtain ⟨k, hk⟩ := W.pow
 obtain ⟨n, h1, h2, h3⟩ := first_free hk h (pl := t.place.toList) (by rw [W.len]; exact W.few)
 rw [W.len] at h1
 refine ⟨n, h1, h2, h3, ?_⟩
 unfold SetTable.freeSlot SetTable.probe
 rw [start_eq, go_empty W h2 h3 (λ _ => by rw [beq_eq_false_iff_ne]; omega) n 0 _ rfl (Nat.zero_le _) ?_]
 ·rfl
 ·unfold turns
  have := W.few
  omega
end Pc.Tab
end
section
namespace Pc.Tab
open PySem PySem.SetTable
theorem above_go (n : Nat) : ∀ (fuel size : Nat), n < size * 2 ^ fuel -> ∃ m, sizeAbove.go n fuel size = size * 2 ^ m /\ n < size * 2 ^ m /\ sizeAbove.go n fuel size <= max size (2 * n)
 | 0, size, h => ⟨0, by simp [sizeAbove.go], by simpa using h, by simp [sizeAbove.go]; omega⟩
 | fuel + 1, size, h => by
  unfold sizeAbove.go
  split
  ·obtain ⟨m, h1, h2, h3⟩ := above_go n fuel (size * 2) (by rw [Nat.pow_succ] at h; rw [Nat.mul_assoc, Nat.mul_comm 2]; exact h)
   refine ⟨m + 1, ?_, ?_, by omega⟩
   ·rw [h1, Nat.pow_succ, Nat.mul_assoc, Nat.mul_comm 2]
   ·rw [Nat.pow_succ, Nat.mul_comm (2 ^ m), <- Nat.mul_assoc]; exact h2
  ·exact ⟨0, by simp, by simp; omega, by omega⟩
theorem above_spec {n : Nat} (h : n <= 1000000) : ∃ k, sizeAbove n - 1 + 1 = 2 ^ k /\ n <= sizeAbove n - 1 /\ 7 <= sizeAbove n - 1 /\ sizeAbove n <= max 8 (2 * n) := by
 have h8 : n < 8 * 2 ^ 64 := Nat.lt_of_le_of_lt h (by decide)
 obtain ⟨m, h1, h2, h3⟩ := above_go n 64 8 h8
 have e : sizeAbove n = 8 * 2 ^ m := h1
 have hp : 1 <= 2 ^ m := Nat.one_le_two_pow
 refine ⟨m + 3, ?_, ?_, ?_, h3⟩
 ·rw [e, Nat.pow_add]; omega
 ·rw [e]; omega
 ·rw [e]; omega
structure Own (mask : Nat) (owner : Array (Option Nat)) (slots : Nat -> Nat) (pre : List Int) : Prop where
 size : owner.size = mask + 1
 le : ∀ i, i < pre.length -> slots i <= mask
 at_ : ∀ j, j <= mask -> ∀ i, owner[j]? = some (some i) ↔ i < pre.length /\ slots i = j
 seq : ∀ (i : Nat) (h : Int), pre[i]? = some h -> ∃ n, jq mask h n = slots i /\ ∀ m, m < n -> ∃ i', i' < pre.length /\ slots i' = jq mask h m
def used (slots : Nat -> Nat) (pre : List Int) : List Nat := (List.range pre.length).map slots
theorem mem_used {slots : Nat -> Nat} {pre : List Int} {j : Nat} : j ∈ used slots pre ↔ ∃ i, i < pre.length /\ slots i = j := by
 unfold used
 rw [List.mem_map]
 constructor
 ·rintro ⟨i, h1, h2⟩; exact ⟨i, List.mem_range.mp h1, h2⟩
 ·rintro ⟨i, h1, h2⟩; exact ⟨i, List.mem_range.mpr h1, h2⟩
theorem Own.free {mask : Nat} {owner : Array (Option Nat)} {slots : Nat -> Nat} {pre : List Int} (O : Own mask owner slots pre) {j : Nat} (hj : j <= mask) : (owner.getD j (some 0)).isNone = true ↔ j ∉ used slots pre := by
 have hs : j < owner.size := by rw [O.size]; omega
 obtain ⟨o, ho⟩ : ∃ o, owner[j]? = some o := ⟨_, Array.getElem?_eq_getElem hs⟩
 rw [Array.getD_eq_getD_getElem?, ho, mem_used]
 cases o with
 | none =>
  refine ⟨λ _ ⟨i, h1, h2⟩ => ?_, λ _ => rfl⟩
  have := (O.at_ j hj i).mpr ⟨h1, h2⟩
  rw [ho] at this
  cases this
 | some i =>
  refine ⟨λ h => by simp at h, λ h => ?_⟩
  exact absurd ⟨i, (O.at_ j hj i).mp ho⟩ h
theorem free_spec {mask : Nat} {owner : Array (Option Nat)} {slots : Nat -> Nat} {pre : List Int} (O : Own mask owner slots pre) (h : Int) : ∀ (fuel m0 : Nat), (∀ m, m < st mask h m0 -> jq mask h m ∈ used slots pre) ->
  (∃ m, m0 <= m /\ m < m0 + fuel /\ (blk mask h m).1 ∉ used slots pre) -> ∃ n, layClean.free mask owner fuel (blk mask h m0).1 (blk mask h m0).2 = some (jq mask h n) /\ jq mask h n ∉ used slots pre /\ ∀ m, m < n -> jq mask h m ∈ used slots pre
 | 0, m0, _, ⟨m, h1, h2, _⟩ => by omega
 | fuel + 1, m0, hb, ⟨m, h1, h2, h3⟩ => by
  have hle := runEnd_le (Nat.le_of_lt_succ (blk_lt mask h m0))
  unfold layClean.free
  cases hf : (List.range (runEnd mask (blk mask h m0).1 + 1 - (blk mask h m0).1)).find? λ k => (owner.getD ((blk mask h m0).1 + k) (some 0)).isNone with
  | some r =>
   dsimp only
   have hr := List.mem_of_find?_eq_some hf
   rw [List.mem_range] at hr
   have hp := List.find?_some hf
   have ej := jq_run mask h m0 r (by omega)
   refine ⟨st mask h m0 + r, by rw [ej], ?_, λ m hm => ?_⟩
   ·rw [ej]; exact (O.free (by omega)).mp hp
   ·rcases Nat.lt_or_ge m (st mask h m0) with q | q
    ·exact hb m q
    ·have e2 := jq_run mask h m0 (m - st mask h m0) (by omega)
     rw [show st mask h m0 + (m - st mask h m0) = m by omega] at e2
     rw [e2]
     refine Classical.byContradiction λ no => ?_
     have yes := (O.free (j := (blk mask h m0).1 + (m - st mask h m0)) (by omega)).mpr no
     rw [List.find?_range_eq_some] at hf
     have := hf.2.2 (m - st mask h m0) (by omega)
     rw [yes] at this
     exact absurd this (by decide)
  | none =>
   dsimp only
   have hall : ∀ r, r <= runEnd mask (blk mask h m0).1 - (blk mask h m0).1 -> (blk mask h m0).1 + r ∈ used slots pre := λ r hr => by
    refine Classical.byContradiction λ no => ?_
    have yes := (O.free (j := (blk mask h m0).1 + r) (by omega)).mpr no
    have := List.find?_eq_none.mp hf r (List.mem_range.mpr (by omega))
    exact this yes
   refine free_spec O h fuel (m0 + 1) (λ m hm => ?_) ⟨m, ?_, by omega, h3⟩
   ·rcases Nat.lt_or_ge m (st mask h m0) with q | q
    ·exact hb m q
    ·have hm' : m < st mask h m0 + (runEnd mask (blk mask h m0).1 - (blk mask h m0).1) + 1 := hm
     have e2 := jq_run mask h m0 (m - st mask h m0) (by omega)
     rw [show st mask h m0 + (m - st mask h m0) = m by omega] at e2
     rw [e2]
     exact hall _ (by omega)
   ·rcases Nat.lt_or_ge m0 m with q | q
    ·exact q
    ·have : m = m0 := by omega
     subst this
     exact absurd (hall 0 (Nat.zero_le _)) h3
theorem Own.step {mask k : Nat} (hm : mask + 1 = 2 ^ k) {owner : Array (Option Nat)} {slots : Nat -> Nat} {pre : List Int} (O : Own mask owner slots pre) (h : Int) (hl : pre.length <= mask) :
  ∃ j slots', layClean.free mask owner (turns mask) (bits h % (mask + 1)) (bits h) = some j /\ Own mask (owner.setIfInBounds j (some pre.length)) slots' (pre ++ [h]) := by
 have ul : (used slots pre).length = pre.length := by unfold used; rw [lnm, lnr]
 obtain ⟨m, h1, h2⟩ := free_block hm h (pl := used slots pre) (by rw [ul]; exact hl)
 rw [ul] at h1
 obtain ⟨n, e, hn, hb⟩ := free_spec O h (turns mask) 0 (λ m hm => absurd hm (Nat.not_lt_zero _)) ⟨m, Nat.zero_le _, by unfold turns; omega, h2⟩
 refine ⟨jq mask h n, λ i => if i = pre.length then jq mask h n else slots i, e, ?_⟩
 have hjl := jq_le mask h n
 have lt : ∀ i, i < (pre ++ [h]).length ↔ i < pre.length ∨ i = pre.length := λ i => by
  rw [lna, List.length_singleton]; omega
 have mono : ∀ i, i < pre.length -> (if i = pre.length then jq mask h n else slots i) = slots i := λ i hi => if_neg (by omega)
 refine ⟨by rw [Array.size_setIfInBounds]; exact O.size, λ i hi => ?_, λ j hj i => ?_, λ i g hi => ?_⟩
 ·rcases (lt i).mp hi with q | q
  ·rw [mono i q]; exact O.le i q
  ·rw [if_pos q]; exact hjl
 ·rw [Array.getElem?_setIfInBounds]
  by_cases q : jq mask h n = j
  ·subst q
   rw [if_pos rfl, if_pos (by rw [O.size]; omega)]
   constructor
   ·intro z
    have z : pre.length = i := Option.some.inj (Option.some.inj z)
    subst z
    exact ⟨(lt _).mpr (.inr rfl), if_pos rfl⟩
   ·rintro ⟨z1, z2⟩
    rcases (lt i).mp z1 with w | w
    ·rw [mono i w] at z2
     exact absurd (mem_used.mpr ⟨i, w, z2⟩) hn
    ·rw [w]
  ·rw [if_neg q, O.at_ j hj i]
   constructor
   ·rintro ⟨z1, z2⟩
    exact ⟨(lt i).mpr (.inl z1), by rw [mono i z1]; exact z2⟩
   ·rintro ⟨z1, z2⟩
    rcases (lt i).mp z1 with w | w
    ·rw [mono i w] at z2; exact ⟨w, z2⟩
    ·rw [if_pos w] at z2; exact absurd z2 q
 ·have up : ∀ x, x ∈ used slots pre -> ∃ i', i' < (pre ++ [h]).length /\ (if i' = pre.length then jq mask h n else slots i') = x := λ x hx => by
   obtain ⟨i', w1, w2⟩ := mem_used.mp hx
   exact ⟨i', (lt _).mpr (.inl w1), by rw [mono i' w1]; exact w2⟩
  rcases Nat.lt_or_ge i pre.length with q | q
  ·rw [List.getElem?_append_left q] at hi
   obtain ⟨a, b1, b2⟩ := O.seq i g hi
   exact ⟨a, by rw [mono i q]; exact b1, λ m hm => up _ (mem_used.mpr (b2 m hm))⟩
  ·have hlt := (List.getElem?_eq_some_iff.mp hi).1
   have q2 : i = pre.length := by
    rcases (lt i).mp hlt with w | w
    ·omega
    ·exact w
   subst q2
   rw [List.getElem?_append_right (Nat.le_refl _), Nat.sub_self] at hi
   have hi : h = g := Option.some.inj hi
   subst hi
   exact ⟨n, (if_pos rfl).symm, λ m hm => up _ (hb m hm)⟩
def layStep (mask : Nat) (acc : Option (Array (Option Nat) × Nat)) (h : Int) : Option (Array (Option Nat) × Nat) := do
 let (owner, k) <- acc
 let j <- layClean.free mask owner (turns mask) (bits h % (mask + 1)) (bits h)
 pure (owner.setIfInBounds j (some k), k + 1)
theorem lay_fold {mask k : Nat} (hm : mask + 1 = 2 ^ k) : ∀ (rest pre : List Int) (owner : Array (Option Nat)) (slots : Nat -> Nat), Own mask owner slots pre -> pre.length + rest.length <= mask ->
  ∃ owner' slots', rest.foldl (layStep mask) (some (owner, pre.length)) = some (owner', (pre ++ rest).length) /\ Own mask owner' slots' (pre ++ rest)
 | [], pre, owner, slots, O, _ => ⟨owner, slots, by rw [List.append_nil]; rfl, by rw [List.append_nil]; exact O⟩
 | h :: rest, pre, owner, slots, O, hl => by
  rw [lnc] at hl
  obtain ⟨j, slots', e, O'⟩ := O.step hm h (by omega)
  have hl' : (pre ++ [h]).length + rest.length <= mask := by rw [lna, List.length_singleton]; omega
  obtain ⟨o2, s2, e2, O2⟩ := lay_fold hm rest (pre ++ [h]) _ slots' O' hl'
  rw [List.append_assoc] at e2 O2
  refine ⟨o2, s2, ?_, O2⟩
  rw [List.foldl_cons]
  have es : layStep mask (some (owner, pre.length)) h = some (owner.setIfInBounds j (some pre.length), (pre ++ [h]).length) := by
   unfold layStep
   simp only [Option.bind_eq_bind, Option.bind_some, e, List.length_append, List.length_singleton]
   rfl
  rw [es]
  exact e2
theorem own_nil (mask : Nat) : Own mask (Array.replicate (mask + 1) none) (λ _ => 0) [] := by
 refine ⟨Array.size_replicate, λ i hi => absurd hi (Nat.not_lt_zero _), λ j hj i => ?_, λ i h e => by simp at e⟩
 rw [Array.getElem?_replicate, if_pos (by omega)]
 constructor
 ·intro z; cases Option.some.inj z
 ·rintro ⟨z, _⟩; exact absurd z (Nat.not_lt_zero _)
theorem clean_spec {mask k : Nat} (hm : mask + 1 = 2 ^ k) {hs : List Int} (hl : hs.length <= mask) : ∃ owner slots, layClean mask hs.toArray = some owner /\ Own mask owner slots hs := by
 obtain ⟨o, s, e, O⟩ := lay_fold hm hs [] _ _ (own_nil mask) (by simpa using hl)
 refine ⟨o, s, ?_, O⟩
 unfold layClean
 rw [<- Array.foldl_toList]
 have e' : List.foldl (layStep mask) (some (Array.replicate (mask + 1) none, 0)) hs = some (o, ([] ++ hs).length) := e
 have : (List.foldl (layStep mask) (some (Array.replicate (mask + 1) none, 0)) hs).map (·.1) = some o := by rw [e']; rfl
 exact this
def live (mask : Nat) (owner : Array (Option Nat)) : List (Nat × Nat) := (List.range (mask + 1)).filterMap λ j => (owner.getD j none).map (j, ·)
theorem mem_live {mask : Nat} {owner : Array (Option Nat)} {slots : Nat -> Nat} {hs : List Int} (O : Own mask owner slots hs) {j i : Nat} : (j, i) ∈ live mask owner ↔ j <= mask /\ i < hs.length /\ slots i = j := by
 unfold live
 rw [List.mem_filterMap]
 constructor
 ·rintro ⟨j', h1, h2⟩
  rw [List.mem_range] at h1
  rw [Array.getD_eq_getD_getElem?] at h2
  obtain ⟨o, ho⟩ : ∃ o, owner[j']? = some o := ⟨_, Array.getElem?_eq_getElem (by rw [O.size]; exact h1)⟩
  rw [ho] at h2
  cases o with
  | none => cases h2
  | some i' =>
   have h2 : (j', i') = (j, i) := Option.some.inj h2
   cases h2
   exact ⟨by omega, (O.at_ j (by omega) i).mp ho⟩
 ·rintro ⟨h1, h2⟩
  refine ⟨j, List.mem_range.mpr (by omega), ?_⟩
  rw [Array.getD_eq_getD_getElem?, (O.at_ j h1 i).mpr h2]
  rfl
theorem live_pw (mask : Nat) (owner : Array (Option Nat)) : (live mask owner).Pairwise λ a b => a.1 < b.1 := by
 unfold live
 rw [List.pairwise_filterMap]
 refine List.pairwise_lt_range.imp λ {a b} h x hx y hy => ?_
 cases e1 : owner.getD a none with
 | none => rw [e1] at hx; cases hx
 | some u =>
  cases e2 : owner.getD b none with
  | none => rw [e2] at hy; cases hy
  | some v =>
   rw [e1] at hx
   rw [e2] at hy
   cases hx
   cases hy
   exact h
theorem fm_map {α β : Type} {f : α -> Option β} {g : α -> β} : ∀ {l : List α}, (∀ x ∈ l, f x = some (g x)) -> l.filterMap f = l.map g
 | [], _ => rfl
 | x :: r, h => by
  rw [List.filterMap_cons, h x List.mem_cons_self, List.map_cons, fm_map λ y hy => h y (List.mem_cons_of_mem _ hy)]
theorem relaid_spec {t : SetTable} {es : Array (Int × Value)} (hp : t.plain = true) {wanted : Nat} (hw : wanted <= 1000000) (hl : es.size <= wanted) :
  ∃ t' order, t.relaid (es.map (·.1)) wanted = some (t', order) /\ coversAll order es.size = true /\ (order.filterMap (es[·]?)).toList.Perm es.toList /\ WF t' ((order.filterMap (es[·]?)).toList.map (·.1)) /\ t'.mask = sizeAbove wanted - 1 /\ t'.led = t.led := by
 obtain ⟨k, h1, h2, h3, h4⟩ := above_spec hw
 have ehs : (es.map (·.1)) = (es.toList.map (·.1)).toArray := by rw [<- Array.toList_map, Array.toArray_toList]
 have hlen : (es.toList.map (·.1)).length = es.size := by simp
 obtain ⟨owner, slots, e, O⟩ := clean_spec h1 (hs := es.toList.map (·.1)) (by rw [hlen]; omega)
 refine ⟨⟨sizeAbove wanted - 1, ((live (sizeAbove wanted - 1) owner).map (·.1)).toArray, #[], t.finger, t.led, t.movedTo (sizeAbove wanted - 1), t.plain⟩, ((live (sizeAbove wanted - 1) owner).map (·.2)).toArray, ?_, ?_⟩
 ·unfold relaid laid
  rw [ehs, e]
  rfl
 generalize hM : sizeAbove wanted - 1 = M at *
 have nd : ((live M owner).map (·.2)).Nodup := by
  rw [List.Nodup, List.pairwise_map]
  refine (live_pw M owner).imp_of_mem λ {a b} ha hb q z => ?_
  have e1 := ((mem_live O).mp (show (a.1, a.2) ∈ live M owner from ha)).2.2
  have e2 := ((mem_live O).mp (show (b.1, b.2) ∈ live M owner from hb)).2.2
  rw [z] at e1
  omega
 have mem : ∀ i, i ∈ (live M owner).map (·.2) ↔ i < es.size := λ i => by
  rw [List.mem_map]
  constructor
  ·rintro ⟨a, ha, rfl⟩
   have := ((mem_live O).mp (show (a.1, a.2) ∈ live M owner from ha)).2.1
   rw [hlen] at this
   exact this
  ·intro hi
   have hi' : i < (es.toList.map (·.1)).length := by rw [hlen]; exact hi
   exact ⟨(slots i, i), (mem_live O).mpr ⟨O.le i hi', hi', rfl⟩, rfl⟩
 have perm : ((live M owner).map (·.2)).Perm (List.range es.size) := by
  rw [List.perm_ext_iff_of_nodup nd List.nodup_range]
  intro i
  rw [mem, List.mem_range]
 have hc : coversAll ((live M owner).map (·.2)).toArray es.size = true := by
  unfold coversAll
  exact List.isPerm_iff.mpr perm
 have efm : (((live M owner).map (·.2)).toArray.filterMap (es[·]?)).toList = (live M owner).map λ p => es.getD p.2 (0, .none) := by
  rw [Array.toList_filterMap]
  show ((live M owner).map (·.2)).filterMap (es[·]?) = _
  rw [List.filterMap_map]
  refine fm_map λ p hp' => ?_
  ·have hi : p.2 < es.size := (mem p.2).mp (List.mem_map.mpr ⟨p, hp', rfl⟩)
   show es[p.2]? = _
   rw [Array.getD_eq_getD_getElem?, Array.getElem?_eq_getElem hi]
   rfl
 refine ⟨hc, ?_, ?_, rfl, rfl⟩
 ·rw [Array.toList_filterMap]
  refine (perm.filterMap _).trans ?_
  rw [filterMap_getElem?_range]
 ·rw [efm, List.map_map]
  have hll : (live M owner).length = es.size := by
   have := perm.length_eq
   rw [lnm, lnr] at this
   exact this
  refine ⟨⟨k, h1⟩, h3, ?_, ?_, rfl, ?_, ?_, hp, ?_⟩
  ·show ((live M owner).map (·.1)).Pairwise (· < ·)
   rw [List.pairwise_map]
   exact live_pw M owner
  ·intro j hj
   obtain ⟨a, ha, rfl⟩ := List.mem_map.mp (show j ∈ (live M owner).map (·.1) from hj)
   exact ((mem_live O).mp (show (a.1, a.2) ∈ live M owner from ha)).1
  ·show ((live M owner).map (·.1)).length = _
   rw [lnm, lnm]
  ·rw [lnm, hll]
   show es.size <= M
   omega
  ·intro q h hq
   rw [gem] at hq
   cases el : (live M owner)[q]? with
   | none => rw [el] at hq; cases hq
   | some p =>
    rw [el] at hq
    have hq : (es.getD p.2 (0, .none)).1 = h := Option.some.inj hq
    have hpm := (mem_live O).mp (show (p.1, p.2) ∈ live M owner from List.mem_of_getElem? el)
    have hi : p.2 < es.size := by have := hpm.2.1; rw [hlen] at this; exact this
    have hg : (es.toList.map (·.1))[p.2]? = some h := by
     rw [gem, Array.getElem?_toList, Array.getElem?_eq_getElem hi, <- hq, Array.getD_eq_getD_getElem?, Array.getElem?_eq_getElem hi]
     rfl
    obtain ⟨n, a, b⟩ := O.seq p.2 h hg
    refine ⟨n, ?_, λ m hm => ?_⟩
    ·show ((live M owner).map (·.1))[q]? = some (jq M h n)
     rw [gem, el, a, hpm.2.2]
     rfl
    ·obtain ⟨i', c1, c2⟩ := b m hm
     show jq M h m ∈ (live M owner).map (·.1)
     exact List.mem_map.mpr ⟨(jq M h m, i'), (mem_live O).mpr ⟨jq_le .., c1, c2⟩, rfl⟩
end Pc.Tab
end
section
namespace Pc.Tab
open PySem PySem.SetTable
def keyOf (e : Int × Value) : Int := match e.2 with
 | .int k _ => k
 | _ => 0
def El (e : Int × Value) : Prop := ∃ (k : Int) (tk : Tok), tk ≠ 0 /\ e = (hashInt k, Value.int k tk)
structure SetD (w : World) (es : Array (Int × Value)) (t : SetTable) (ks : List Int) : Prop where
 wf : WF t (es.toList.map (·.1))
 room : es.size * 5 < t.mask * 3
 els : ∀ e ∈ es.toList, El e
 nd : (es.toList.map keyOf).Nodup
 mem : ∀ k, k ∈ es.toList.map keyOf ↔ k ∈ ks
 led : t.led = !w.params.followText "set-order"
def SetW (w : World) (h : Heap) (a : Addr) (ks : List Int) : Prop := ∃ o es ep t, h.get? a = some o /\ o.ExactSet /\ o.data = .set es ep t /\ SetD w es t ks
section
variable {prog : Program} {w : World} {A : Around} {E : Value -> Shared -> Prop} {s : Shared} {a : Addr} {es : Array (Int × Value)} {t : SetTable} {ks : List Int}
theorem SetD.fits (D : SetD w es t ks) : t.fits es.size = true := by
 have := D.wf.fits
 rw [lnm, Array.length_toList] at this
 exact this
theorem SetD.elems (D : SetD w es t ks) : ElemsOf (intKind prog w) es.toList := λ e he => by
 obtain ⟨k, tk, _, rfl⟩ := D.els e he
 exact ⟨⟨k, intKind_is _ _ _ _, rfl⟩, rfl⟩
theorem SetD.size_le (D : SetD w es t ks) : es.size <= ks.length := by
 have := List.Nodup.length_le_of_subset D.nd (λ x hx => (D.mem x).mp hx)
 rw [lnm, Array.length_toList] at this
 exact this
theorem map_ins {α β : Type} (f : α -> β) (l : List α) (p : Nat) (x : α) : (l.take p ++ x :: l.drop p).map f = (l.map f).take p ++ f x :: (l.map f).drop p := by
 rw [List.map_append, List.map_cons, List.map_take, List.map_drop]
theorem SetD.one (D : SetD w es t ks) {k : Int} {tk : Tok} (h0 : tk ≠ 0) (hk : k ∉ ks) {n : Nat} (hn : jq t.mask (hashInt k) n ∉ t.place.toList) (hb : ∀ m, m < n -> jq t.mask (hashInt k) m ∈ t.place.toList) :
  WF (t.put (jq t.mask (hashInt k) n)).1 ((insertAt es (t.put (jq t.mask (hashInt k) n)).2 (hashInt k, Value.int k tk)).toList.map (·.1)) /\
  (∀ e ∈ (insertAt es (t.put (jq t.mask (hashInt k) n)).2 (hashInt k, Value.int k tk)).toList, El e) /\
  ((insertAt es (t.put (jq t.mask (hashInt k) n)).2 (hashInt k, Value.int k tk)).toList.map keyOf).Nodup /\
  (∀ x, x ∈ (insertAt es (t.put (jq t.mask (hashInt k) n)).2 (hashInt k, Value.int k tk)).toList.map keyOf ↔ x ∈ ks ++ [k]) /\
  (insertAt es (t.put (jq t.mask (hashInt k) n)).2 (hashInt k, Value.int k tk)).size = es.size + 1 /\ (t.put (jq t.mask (hashInt k) n)).1.mask = t.mask := by
 have hlt : (es.toList.map (·.1)).length < t.mask := by
  rw [lnm, Array.length_toList]
  have := D.room
  omega
 obtain ⟨W, hp, em, _⟩ := D.wf.put hlt hn hb
 generalize hP : (t.put (jq t.mask (hashInt k) n)).2 = p at *
 have pm : (insertAt es p (hashInt k, Value.int k tk)).toList.Perm ((hashInt k, Value.int k tk) :: es.toList) := by
  rw [toList_ins]
  conv => rhs; rw [<- List.take_append_drop p es.toList]
  exact List.perm_middle
 refine ⟨?_, ?_, ?_, ?_, ?_, em⟩
 ·rw [toList_ins, map_ins]
  exact W
 ·intro e he
  rcases List.mem_cons.mp (pm.mem_iff.mp he) with q | q
  ·exact ⟨k, tk, h0, q⟩
  ·exact D.els e q
 ·refine (pm.map keyOf).nodup_iff.mpr ?_
  rw [List.map_cons]
  refine List.nodup_cons.mpr ⟨λ q => hk ((D.mem k).mp q), D.nd⟩
 ·intro x
  rw [(pm.map keyOf).mem_iff, List.map_cons, List.mem_cons, D.mem, List.mem_append, List.mem_singleton]
  exact ⟨λ h => h.elim .inr .inl, λ h => h.elim .inr .inl⟩
 ·have := pm.length_eq
  rw [Array.length_toList, lnc, Array.length_toList] at this
  exact this
theorem tooFull_iff {t : SetTable} {hs : List Int} (W : WF t hs) : t.tooFull = decide (t.mask * 3 <= hs.length * 5) := by
 unfold SetTable.tooFull
 rw [W.fill]
theorem grown_eq {n : Nat} (h : n <= 50000) : grown n = n * 4 := by
 unfold grown
 rw [if_neg (by omega)]
theorem relay_all {t : SetTable} {es : Array (Int × Value)} (W : WF t (es.toList.map (·.1))) (hn : es.size <= 50000) : ∃ es' t', relayAll t es (grown es.size) = (es', t', false) /\ es'.toList.Perm es.toList /\ WF t' (es'.toList.map (·.1)) /\ es.size * 4 <= t'.mask /\ 7 <= t'.mask /\ t'.led = t.led := by
 rw [grown_eq hn]
 obtain ⟨t', order, e, hc, pm, W', em, el⟩ := relaid_spec (t := t) (es := es) W.plain (wanted := es.size * 4) (by omega) (by omega)
 obtain ⟨_, _, h2, h3, _⟩ := above_spec (n := es.size * 4) (by omega)
 refine ⟨_, t', ?_, pm, W', by rw [em]; exact h2, by rw [em]; exact h3, el⟩
 unfold relayAll
 rw [e]
 dsimp only
 have hf : t'.fits (order.filterMap (es[·]?)).size = true := by
  have := W'.fits
  rw [lnm, Array.length_toList] at this
  exact this
 rw [hc, hf, Bool.and_self, if_pos rfl]
theorem put_get {h : Heap} {a : Addr} {o : Obj} {es : Array (Int × Value)} {ep : Nat} {t : SetTable} (es' : Array (Int × Value)) (t' : SetTable) (ho : h.get? a = some o) (hd : o.data = .set es ep t) :
  (h.update a (Obj.putSet es' t')).get? a = some { o with data := .set es' (ep + 1) t' } := by
 have := Heap.get?_update_self (Obj.putSet es' t') ho (by rw [putSet_of es' t' hd]; rfl)
 rw [putSet_of es' t' hd] at this
 exact this
theorem SetD.perm {es' : Array (Int × Value)} {t' : SetTable} (pm : es'.toList.Perm es.toList) (W : WF t' (es'.toList.map (·.1))) (hr : es'.size * 5 < t'.mask * 3)
  (els : ∀ e ∈ es.toList, El e) (nd : (es.toList.map keyOf).Nodup) (mem : ∀ k, k ∈ es.toList.map keyOf ↔ k ∈ ks) (led : t'.led = !w.params.followText "set-order") : SetD w es' t' ks :=
 ⟨W, hr, λ e he => els e (pm.mem_iff.mp he), (pm.map keyOf).nodup_iff.mpr nd, λ k => (pm.map keyOf).mem_iff.trans (mem k), led⟩
theorem found_of {es : Array (Int × Value)} (els : ∀ e ∈ es.toList, El e) (k : Int) : (∃ j, es.toList.findIdx? (λ e => (intKind prog w).is k e.2) = some j) ↔ k ∈ es.toList.map keyOf := by
 constructor
 ·rintro ⟨j, hj⟩
  obtain ⟨h1, h2, _⟩ := List.findIdx?_eq_some_iff_getElem.mp hj
  refine List.mem_map.mpr ⟨es.toList[j], List.getElem_mem h1, ?_⟩
  obtain ⟨t, e⟩ := Value.isInt_shape h2
  unfold keyOf
  rw [e]
 ·intro hk
  obtain ⟨e, he, ek⟩ := List.mem_map.mp hk
  cases hr : es.toList.findIdx? (λ e => (intKind prog w).is k e.2) with
  | some j => exact ⟨j, rfl⟩
  | none =>
   have := List.findIdx?_eq_none_iff.mp hr e he
   obtain ⟨k', tk, _, rfl⟩ := els e he
   have ek : k' = k := ek
   subst ek
   rw [intKind_is] at this
   cases this
theorem add_few {o : Obj} {ep : Nat} {k : Int} {tk : Tok} {Q : Option Bool -> Shared -> Prop} (h0 : tk ≠ 0) (ho : s.heap.get? a = some o) (hex : o.ExactSet) (hd : o.data = .set es ep t) (D : SetD w es t ks) (hn : ks.length < 5000)
  (h : ∀ b h', Heap.SameBut a s.heap h' -> SetW w h' a (ks ++ [k]) -> Q (some b) { s with heap := h' }) :
  wpAny (model prog w) A (setAddByScan a (.int k tk) (hashInt k) es t) Q E s := by
 have hsz := D.size_le
 unfold setAddByScan
 refine wpAny_bind (wpAny_rule ?_)
 refine wpAny_bind (wpAny_setScan_of (knd := intKind prog w) (k := k) (intKind_is _ _ _ _) ho hd D.fits D.elems ?_)
 by_cases hk : k ∈ ks
 ·obtain ⟨j, hj⟩ := (found_of (prog := prog) (w := w) D.els k).mpr ((D.mem k).mpr hk)
  rw [hj]
  dsimp only
  refine wpAny_pure ?_
  have e : s = { s with heap := s.heap } := by cases s; rfl
  rw [e]
  refine h false s.heap (Heap.SameBut.refl a s.heap) ⟨o, es, ep, t, ho, hex, hd, D.wf, D.room, D.els, D.nd, λ x => (D.mem x).trans ?_, D.led⟩
  rw [List.mem_append, List.mem_singleton]
  exact ⟨.inl, λ q => q.elim id λ z => z ▸ hk⟩
 ·have hno : es.toList.findIdx? (λ e => (intKind prog w).is k e.2) = none := by
   cases hr : es.toList.findIdx? (λ e => (intKind prog w).is k e.2) with
   | none => rfl
   | some j => exact absurd ((D.mem k).mp ((found_of (prog := prog) (w := w) D.els k).mp ⟨j, hr⟩)) hk
  rw [hno]
  dsimp only
  obtain ⟨n, _, hn1, hn2, ef⟩ := free_slot D.wf (hashInt k)
  obtain ⟨W1, els1, nd1, mem1, sz1, em1⟩ := D.one h0 hk hn1 hn2
  have hl : layNew t es (hashInt k) (.int k tk) = (insertAt es (t.put (jq t.mask (hashInt k) n)).2 (hashInt k, Value.int k tk), (t.put (jq t.mask (hashInt k) n)).1, false, false) := by
   unfold layNew
   rw [ef]
   dsimp only
   have hf : (t.put (jq t.mask (hashInt k) n)).1.fits (insertAt es (t.put (jq t.mask (hashInt k) n)).2 (hashInt k, Value.int k tk)).size = true := by
    have := W1.fits
    rw [lnm, Array.length_toList] at this
    exact this
   unfold SetTable.orStandIn
   rw [hf, if_pos rfl]
   rfl
  rw [hl]
  generalize hes1 : insertAt es (t.put (jq t.mask (hashInt k) n)).2 (hashInt k, Value.int k tk) = es1 at *
  have hled1 : (t.put (jq t.mask (hashInt k) n)).1.led = !w.params.followText "set-order" := D.led
  generalize ht1 : (t.put (jq t.mask (hashInt k) n)).1 = t1 at *
  dsimp only
  refine wpAny_bind (wpAny_pure ?_)
  rw [if_pos W1.plain]
  refine wpAny_bind ?_
  rw [hashByValue_scannable 8 (x := Value.int k tk) rfl]
  refine wpAny_pure ?_
  show wpAny _ _ (do
   storeSet a es1 t1
   if (!false && t1.tooFull) = true then do
    (match (relayAll t1 es1 (SetTable.grown es1.size)).2.2 with | true => rule "set.scan.the-table-gave-way" | false => pure ())
    storeSet a (relayAll t1 es1 (SetTable.grown es1.size)).1 (relayAll t1 es1 (SetTable.grown es1.size)).2.1
    pure (some true)
   else pure (some true)) _ _ _
  refine wpAny_bind (wpAny_storeSet_of ho hd ?_ (by rw [sizeLine_eq]; omega))
  have ho1 := put_get es1 t1 ho hd
  have sb1 := Heap.SameBut.update s.heap a (Obj.putSet es1 t1)
  rw [tooFull_iff W1, lnm, Array.length_toList, Bool.not_false, Bool.true_and]
  by_cases hf : t1.mask * 3 <= es1.size * 5
  ·rw [decide_eq_true hf, if_pos rfl]
   obtain ⟨es2, t2, e2, pm, W2, hm, h7, hl2⟩ := relay_all W1 (by omega)
   rw [e2]
   dsimp only
   have hs2 : es2.size = es1.size := by rw [<- Array.length_toList, pm.length_eq, Array.length_toList]
   refine wpAny_bind (wpAny_pure ?_)
   refine wpAny_bind (wpAny_storeSet_of ho1 rfl ?_ (by rw [sizeLine_eq]; omega))
   have ho2 := put_get es2 t2 ho1 rfl
   exact wpAny_pure (h true _ (sb1.trans (Heap.SameBut.update _ a _)) ⟨_, es2, _, t2, ho2, hex, rfl, SetD.perm pm W2 (by omega) els1 nd1 mem1 (by rw [hl2]; exact hled1)⟩)
  ·rw [decide_eq_false hf, if_neg Bool.false_ne_true]
   exact wpAny_pure (h true _ sb1 ⟨_, es1, _, t1, ho1, hex, rfl, W1, by omega, els1, nd1, mem1, hled1⟩)
end
end Pc.Tab
end
section
namespace Pc.Tab
open PySem PySem.SetTable
section
variable {prog : Program} {w : World} {A : Around} {E : Value -> Shared -> Prop} {s : Shared} {a : Addr} {es : Array (Int × Value)} {t : SetTable} {ks : List Int}
theorem go_find {t : SetTable} {hs : List Int} (W : WF t hs) {hashAt : Nat -> Int} {h : Int} {N : Nat} (hN : jq t.mask h N ∉ t.place.toList) (hb : ∀ m, m < N -> jq t.mask h m ∈ t.place.toList) :
  ∀ (d n fuel : Nat), N - n = d -> n <= N -> d < fuel ->
   (probe.go t hashAt h fuel (prb t.mask h n) = some (.empty (jq t.mask h N) none) /\ ∀ m i, n <= m -> m < N -> t.place[i]? = some (jq t.mask h m) -> hashAt i ≠ h) ∨
   (∃ m i, n <= m /\ m < N /\ t.place[i]? = some (jq t.mask h m) /\ hashAt i = h /\ probe.go t hashAt h fuel (prb t.mask h n) = some (.candidate (jq t.mask h m) i (prb t.mask h (m + 1))) /\ ∀ m' i', n <= m' -> m' < m -> t.place[i']? = some (jq t.mask h m') -> hashAt i' ≠ h)
 | 0, n, fuel + 1, hd, hn, hf => by
  have : n = N := by omega
  subst this
  refine .inl ⟨?_, λ m i h1 h2 => by omega⟩
  unfold probe.go
  have e : t.slot (prb t.mask h n).j = .empty := slot_empty W.dm hN
  rw [e, prb_dummy]
  rfl
 | d + 1, n, fuel + 1, hd, hn, hf => by
  obtain ⟨i, hi, ei⟩ := List.getElem_of_mem (hb n (by omega))
  have hi? := List.getElem?_eq_getElem hi
  rw [ei, Array.getElem?_toList] at hi?
  have e : t.slot (prb t.mask h n).j = .live i := slot_live W.ris hi?
  have uniq : ∀ i', t.place[i']? = some (jq t.mask h n) -> i' = i := λ i' q => by rw [<- below_at W.ris q, below_at W.ris hi?]
  by_cases q : hashAt i = h
  ·refine .inr ⟨n, i, Nat.le_refl _, by omega, hi?, q, ?_, λ m' i' h1 h2 => by omega⟩
   unfold probe.go
   rw [e]
   dsimp only
   rw [if_pos (by rw [q]; exact beq_self_eq_true h)]
   rfl
  ·have step : probe.go t hashAt h (fuel + 1) (prb t.mask h n) = probe.go t hashAt h fuel (prb t.mask h (n + 1)) := by
    conv => lhs; unfold probe.go
    rw [e]
    dsimp only
    rw [if_neg (by rw [beq_iff_eq]; exact q)]
    rfl
   rw [step]
   rcases go_find W hN hb d (n + 1) fuel (by omega) (by omega) (by omega) with ⟨h1, h2⟩ | ⟨m, i', h1, h2, h3, h4, h5, h6⟩
   ·refine .inl ⟨h1, λ m i' a b c => ?_⟩
    rcases Nat.eq_or_lt_of_le a with z | z
    ·subst z; rw [uniq i' c]; exact q
    ·exact h2 m i' z b c
   ·refine .inr ⟨m, i', by omega, h2, h3, h4, h5, λ m' i2 a b c => ?_⟩
    rcases Nat.eq_or_lt_of_le a with z | z
    ·subst z; rw [uniq i2 c]; exact q
    ·exact h6 m' i2 z b c
theorem quiet_loop : ∀ (l : List Value), (∀ y ∈ l, ∃ i t, y = Value.int i t) -> ∀ (f : Value -> Option Bool × PUnit -> Sem (ForInStep (Option Bool × PUnit))), (∀ i t r, f (.int i t) r = pure (.yield (none, ()))) -> forIn l (none, ()) f = pure (none, ())
 | [], _, _, _ => rfl
 | y :: l, hy, f, hf => by
  obtain ⟨i, t, rfl⟩ := hy y List.mem_cons_self
  rw [List.forIn_cons, hf]
  exact quiet_loop l (λ z hz => hy z (List.mem_cons_of_mem _ hz)) f hf
theorem seen_no (k : Int) (tk : Tok) (l : List Value) (hl : ∀ y ∈ l, ∃ i t, y = Value.int i t) : searchCouldBeSeen (.int k tk) l = pure false := by
 unfold searchCouldBeSeen
 rw [quiet_loop l hl _ (λ i t r => rfl)]
 rfl
theorem same_self (k : Int) (tk : Tok) (h0 : tk ≠ 0) {M : Model} {Q : Bool -> Shared -> Prop} (h : Q true s) : wpAny M A (isSame (.int k tk) (.int k tk)) Q E s := by
 unfold isSame
 have e0 : (tk == 0 || tk == 0) = false := by simp [h0]
 dsimp only
 split
 ·unfold isSame.cachedInt
  rw [e0, if_neg Bool.false_ne_true]
  exact wpAny_bind (wpAny_rule (wpAny_pure h))
 ·unfold isSame.created
  rw [e0, if_neg Bool.false_ne_true]
  simp only [beq_self_eq_true, if_true]
  exact wpAny_pure h
theorem search_past {k k' : Int} {tk' : Tok} {n m N i : Nat} (hk : k' ≠ k) (h3 : t.place[i]? = some (jq t.mask (hashInt k) m)) (hes : es[i]? = some (hashInt k', Value.int k' tk'))
  (hno : ∀ (m' i' : Nat), n <= m' -> m' < m -> t.place[i']? = some (jq t.mask (hashInt k) m') -> (es[i']?.map (·.1)).getD 0 ≠ hashInt k)
  (hin : ∃ (i m : Nat) (tk' : Tok), n <= m /\ m < N /\ t.place[i]? = some (jq t.mask (hashInt k) m) /\ es[i]? = some (hashInt k, Value.int k tk'))
  (hr : t.place.toList.Pairwise (· < ·) := by exact D.wf.ris) :
  ∃ (i m' : Nat) (tk' : Tok), m + 1 <= m' /\ m' < N /\ t.place[i]? = some (jq t.mask (hashInt k) m') /\ es[i]? = some (hashInt k, Value.int k tk') := by
 obtain ⟨i2, m2, tk2, a1, a2, a3, a4⟩ := hin
 refine ⟨i2, m2, tk2, ?_, a2, a3, a4⟩
 rcases Nat.lt_trichotomy m2 m with q | q | q
 ·exact absurd (by rw [a4]; rfl) (hno m2 i2 a1 q a3)
 ·subst q
  have : i2 = i := by rw [<- below_at hr a3, below_at hr h3]
  subst this
  rw [hes] at a4
  have e : k' = k := by
   have := congrArg Prod.snd (Option.some.inj a4)
   injection this
  exact absurd e hk
 ·exact q
theorem search_turn {o : Obj} {ep : Nat} {k k' : Int} {tk tk' : Tok} {fuel j i : Nat} {next : Probe} {Q : SetFound -> Shared -> Prop} (ho : s.heap.get? a = some o) (hd : o.data = .set es ep t) (D : SetD w es t ks)
  (h3 : t.place[i]? = some j) (hes : es[i]? = some (hashInt k', Value.int k' tk')) (h0 : tk' ≠ 0) (hthere : k' = k -> Q (.there none) s)
  (hgo : k' ≠ k -> wpAny (model prog w) A (setSearchFrom a (.int k tk) (hashInt k) true fuel (some next)) Q E s) :
  wpAny (model prog w) A (do
   let equal <- holding [Value.int k' tk'] (eqBool (Value.int k' tk') (Value.int k tk))
   let x <- setState a
   if (true && equal) = true then pure (SetFound.there none)
   else
    match x.2.2.sameMemory t.moves t.mask with
    | some same =>
     match if same = true then x.2.2.slot j else Slot.empty with
     | Slot.live i' =>
      match x.1[i']? with
      | some (fst, y') => do
       let lift <- isSame y' (Value.int k' tk')
       let still <- pure (if lift = true then some i' else none)
       match still with
        | none => do
         rule "set.search.anew"
         setSearchFrom a (Value.int k tk) (hashInt k) true fuel none
        | some i' =>
         if equal = true then pure (SetFound.there (some i'))
         else setSearchFrom a (Value.int k tk) (hashInt k) true fuel (some next)
      | none => do
       let still <- pure none
       match still with
        | none => do
         rule "set.search.anew"
         setSearchFrom a (Value.int k tk) (hashInt k) true fuel none
        | some i' =>
         if equal = true then pure (SetFound.there (some i'))
         else setSearchFrom a (Value.int k tk) (hashInt k) true fuel (some next)
     | x => do
      let still <- pure none
      match still with
       | none => do
        rule "set.search.anew"
        setSearchFrom a (Value.int k tk) (hashInt k) true fuel none
       | some i' =>
        if equal = true then pure (SetFound.there (some i'))
        else setSearchFrom a (Value.int k tk) (hashInt k) true fuel (some next)
    | x => unsupported "set.changed-during-lookup:is-the-new-block-at-the-old-address") Q E s := by
 refine wpAny_bind (wpAny_holding ((intKind prog w).eqBool (a := k') (b := k) (intKind_is _ _ _ _) (intKind_is _ _ _ _) ?_))
 refine wpAny_bind (wpAny_setState_of ho hd D.fits ?_)
 dsimp only
 by_cases q : k' = k
 ·rw [decide_eq_true q, Bool.and_self, if_pos rfl]
  exact wpAny_pure (hthere q)
 ·rw [decide_eq_false q, Bool.and_false, if_neg Bool.false_ne_true]
  have em : t.sameMemory t.moves t.mask = some true := by
   unfold SetTable.sameMemory
   rw [beq_self_eq_true, if_pos rfl]
  rw [em]
  dsimp only
  rw [if_pos rfl, slot_live D.wf.ris h3]
  dsimp only
  rw [hes]
  dsimp only
  refine wpAny_bind (same_self k' tk' h0 ?_)
  rw [if_pos rfl]
  refine wpAny_bind (wpAny_pure ?_)
  dsimp only
  exact hgo q
theorem search_from {o : Obj} {ep : Nat} {k : Int} {tk : Tok} {Q : SetFound -> Shared -> Prop} {N : Nat} (ho : s.heap.get? a = some o) (hd : o.data = .set es ep t) (D : SetD w es t ks)
  (hN : jq t.mask (hashInt k) N ∉ t.place.toList) (hb : ∀ m, m < N -> jq t.mask (hashInt k) m ∈ t.place.toList) (hNl : N <= 10 * (13 + es.size))
  (hfree : k ∉ ks -> Q (.free (jq t.mask (hashInt k) N) false) s) (hthere : k ∈ ks -> Q (.there none) s) :
  ∀ (fuel n : Nat) (stand : Option Probe), stand.getD (t.probeStart (hashInt k)) = prb t.mask (hashInt k) n -> n <= N -> N - n < fuel ->
   (k ∈ ks -> ∃ (i m : Nat) (tk' : Tok), n <= m /\ m < N /\ t.place[i]? = some (jq t.mask (hashInt k) m) /\ es[i]? = some (hashInt k, Value.int k tk')) ->
   wpAny (model prog w) A (setSearchFrom a (.int k tk) (hashInt k) true fuel stand) Q E s := by
 intro fuel
 induction fuel with
 | zero => intro n stand _ _ hf; omega
 | succ fuel ih =>
  intro n stand hst hn hf hin
  unfold setSearchFrom
  refine wpAny_bind (wpAny_setState_of ho hd D.fits ?_)
  dsimp only
  rw [D.wf.way, if_neg Bool.false_ne_true, hst]
  have hfew := D.wf.few
  rw [lnm, Array.length_toList] at hfew
  unfold SetTable.probe
  have hplen := D.wf.len
  rw [lnm, Array.length_toList, Array.length_toList] at hplen
  rcases go_find D.wf (hashAt := λ i => (es[i]?.map (·.1)).getD 0) hN hb (N - n) n (10 * turns t.mask) rfl hn (by unfold turns; omega) with ⟨e, hno⟩ | ⟨m, i, h1, h2, h3, h4, e, hno⟩
  ·have e' : probe.go t (λ i => (es[i]?.map (·.1)).getD 0) (hashInt k) (10 * turns t.mask) (prb t.mask (hashInt k) n) = _ := e
   show wpAny _ _ (match probe.go t (λ i => (es[i]?.map (·.1)).getD 0) (hashInt k) (10 * turns t.mask) (prb t.mask (hashInt k) n) with | some met => _ | _ => _) _ _ _
   rw [e']
   refine wpAny_pure (hfree λ hk => ?_)
   obtain ⟨i, m, tk', a1, a2, a3, a4⟩ := hin hk
   refine hno m i a1 a2 a3 ?_
   show (es[i]?.map (·.1)).getD 0 = _
   rw [a4]
   rfl
  ·have e' : probe.go t (λ i => (es[i]?.map (·.1)).getD 0) (hashInt k) (10 * turns t.mask) (prb t.mask (hashInt k) n) = _ := e
   show wpAny _ _ (match probe.go t (λ i => (es[i]?.map (·.1)).getD 0) (hashInt k) (10 * turns t.mask) (prb t.mask (hashInt k) n) with | some met => _ | _ => _) _ _ _
   rw [e']
   dsimp only
   have hi : i < es.size := by
    have := (Array.getElem?_eq_some_iff.mp h3).1
    omega
   obtain ⟨k', tk', h0', he'⟩ := D.els es[i] (by rw [<- Array.getElem_toList]; exact List.getElem_mem _)
   have hes : es[i]? = some (hashInt k', Value.int k' tk') := by rw [Array.getElem?_eq_getElem hi, he']
   have hseen : searchCouldBeSeen (.int k tk) ((es.filter (·.1 == hashInt k)).toList.map (·.2)) = pure false := seen_no k tk _ λ y hy => by
    obtain ⟨x, hx, rfl⟩ := List.mem_map.mp hy
    rw [Array.toList_filter] at hx
    obtain ⟨kk, tt, _, rfl⟩ := D.els x (List.mem_filter.mp hx).1
    exact ⟨kk, tt, rfl⟩
   have h4' : hashInt k' = hashInt k := by rw [hes] at h4; exact h4
   rw [hseen, hes]
   dsimp only
   split
   ·refine wpAny_bind (wpAny_pure ?_)
    rw [if_neg Bool.false_ne_true]
    refine search_turn ho hd D h3 hes h0' (λ hk => hthere (hk ▸ (D.mem k').mp ?_)) λ hk => ih (m + 1) _ rfl (by omega) (by omega) λ hks => ?_
    ·exact List.mem_map.mpr ⟨_, List.mem_of_getElem? (by rw [Array.getElem?_toList]; exact hes), rfl⟩
    ·exact search_past hk h3 hes hno (hin hks)
   ·refine search_turn ho hd D h3 hes h0' (λ hk => hthere (hk ▸ (D.mem k').mp ?_)) λ hk => ih (m + 1) _ rfl (by omega) (by omega) λ hks => ?_
    ·exact List.mem_map.mpr ⟨_, List.mem_of_getElem? (by rw [Array.getElem?_toList]; exact hes), rfl⟩
    ·exact search_past hk h3 hes hno (hin hks)
end
end Pc.Tab
end
section
namespace Pc.Tab
open PySem PySem.SetTable
section
variable {prog : Program} {w : World} {A : Around} {E : Value -> Shared -> Prop} {s : Shared} {a : Addr} {es : Array (Int × Value)} {t : SetTable} {ks : List Int}
theorem relay_many {o : Obj} {ep : Nat} {Q : Unit -> Shared -> Prop} (ho : s.heap.get? a = some o) (hd : o.data = .set es ep t) (W : WF t (es.toList.map (·.1))) (hn : es.size <= 50000)
  (h : ∀ es' t' h', Heap.SameBut a s.heap h' -> h'.get? a = some { o with data := .set es' (ep + 1) t' } -> es'.toList.Perm es.toList -> WF t' (es'.toList.map (·.1)) -> es.size * 4 <= t'.mask -> 7 <= t'.mask -> t'.led = t.led -> Q () { s with heap := h' }) :
  wpAny (model prog w) A (setRelay a (grown es.size)) Q E s := by
 rw [grown_eq hn]
 obtain ⟨t', order, e, hc, pm, W', em, el⟩ := relaid_spec (t := t) (es := es) W.plain (wanted := es.size * 4) (by omega) (by omega)
 obtain ⟨_, _, h2, h3, h4⟩ := above_spec (n := es.size * 4) (by omega)
 have hf : t.fits es.size = true := by
  have := W.fits
  rw [lnm, Array.length_toList] at this
  exact this
 unfold setRelay
 refine wpAny_bind (wpAny_setState_of ho hd hf ?_)
 dsimp only
 rw [if_neg (by rw [sizeLine_eq]; omega), e]
 have hs : (order.filterMap (es[·]?)).size = es.size := by rw [<- Array.length_toList, pm.length_eq, Array.length_toList]
 refine wpAny_bind ?_
 show wpAny _ _ (if ((order.filterMap (es[·]?)).size != es.size) = true then _ else pure (order.filterMap (es[·]?), t')) _ _ _
 rw [if_neg (by rw [hs]; simp)]
 refine wpAny_pure ?_
 dsimp only
 refine wpAny_storeSet_of ho hd ?_ (by rw [sizeLine_eq]; omega)
 exact h _ t' _ (Heap.SameBut.update s.heap a _) (put_get _ t' ho hd) pm W' (by rw [em]; exact h2) (by rw [em]; exact h3) el
theorem add_in {k : Int} {tk : Tok} {Q : Bool -> Shared -> Prop} (h0 : tk ≠ 0) (S : SetW w s.heap a ks) (hn : ks.length < 5000)
  (h : ∀ b h', Heap.SameBut a s.heap h' -> SetW w h' a (ks ++ [k]) -> Q b { s with heap := h' }) (fuel : Nat) :
  wpAny (model prog w) A (setAddHashedIn a (.int k tk) (hashInt k) (fuel + 1)) Q E s := by
 obtain ⟨o, es, ep, t, ho, hex, hd, D⟩ := S
 have hsz := D.size_le
 unfold setAddHashedIn
 refine wpAny_bind (wpAny_setState_of ho hd D.fits ?_)
 dsimp only
 by_cases hsc : es.size < scanBound
 ·rw [byScan_of (knd := intKind prog w) (x := Value.int k tk) rfl hsc D.elems, if_pos rfl]
  refine wpAny_bind (add_few h0 ho hex hd D hn λ b h' sb S' => ?_)
  exact wpAny_pure (h b h' sb S')
 ·have hbs : byScan (Value.int k tk) es = false := by
   unfold byScan
   rw [decide_eq_false hsc, Bool.and_false, Bool.false_and]
  rw [hbs, if_neg Bool.false_ne_true]
  obtain ⟨N, hN1, hN2, hN3, _⟩ := free_slot D.wf (hashInt k)
  rw [lnm, Array.length_toList] at hN1
  have hplen := D.wf.len
  rw [lnm, Array.length_toList, Array.length_toList] at hplen
  have hin : k ∈ ks -> ∃ (i m : Nat) (tk' : Tok), 0 <= m /\ m < N /\ t.place[i]? = some (jq t.mask (hashInt k) m) /\ es[i]? = some (hashInt k, Value.int k tk') := λ hk => by
   obtain ⟨e, he, ek⟩ := List.mem_map.mp ((D.mem k).mpr hk)
   obtain ⟨k', tk', _, rfl⟩ := D.els e he
   have ek : k' = k := ek
   subst ek
   obtain ⟨i, hi, ei⟩ := List.getElem_of_mem he
   have hi? := List.getElem?_eq_getElem hi
   rw [ei] at hi?
   obtain ⟨m, a1, a2⟩ := D.wf.seq i (hashInt k') (by rw [gem, hi?]; rfl)
   rw [Array.getElem?_toList] at hi? a1
   refine ⟨i, m, tk', Nat.zero_le _, ?_, a1, hi?⟩
   rcases Nat.lt_trichotomy m N with q | q | q
   ·exact q
   ·subst q
    exact absurd (List.mem_of_getElem? (by rw [Array.getElem?_toList]; exact a1)) hN2
   ·exact absurd (a2 N q) hN2
  have e0 : s = { s with heap := s.heap } := by cases s; rfl
  refine wpAny_bind ?_
  unfold setSearch
  refine search_from ho hd D hN2 hN3 hN1 (λ hk => ?_) (λ hk => ?_) 100000 0 none rfl (Nat.zero_le _) (by omega) hin
  ·dsimp only
   obtain ⟨W1, els1, nd1, mem1, sz1, em1⟩ := D.one h0 hk hN2 hN3
   refine wpAny_bind (wpAny_setState_of ho hd D.fits ?_)
   dsimp only
   have hled1 : (t.put (jq t.mask (hashInt k) N)).1.led = !w.params.followText "set-order" := D.led
   generalize hes1 : insertAt es (t.put (jq t.mask (hashInt k) N)).2 (hashInt k, Value.int k tk) = es1 at *
   generalize ht1 : (t.put (jq t.mask (hashInt k) N)).1 = t1 at *
   rw [if_pos W1.plain, hashByValue_scannable 8 (x := Value.int k tk) rfl]
   refine wpAny_bind (wpAny_pure ?_)
   show wpAny _ _ (do
    storeSet a es1 t1
    if (!false && t1.tooFull) = true then do
     setRelay a (grown (es.size + 1))
     pure true
    else pure true) _ _ _
   refine wpAny_bind (wpAny_storeSet_of ho hd ?_ (by rw [sizeLine_eq]; omega))
   have ho1 := put_get es1 t1 ho hd
   have sb1 := Heap.SameBut.update s.heap a (Obj.putSet es1 t1)
   rw [tooFull_iff W1, lnm, Array.length_toList, Bool.not_false, Bool.true_and]
   by_cases hf : t1.mask * 3 <= es1.size * 5
   ·rw [decide_eq_true hf, if_pos rfl, <- sz1]
    refine wpAny_bind (relay_many ho1 rfl W1 (by omega) λ es2 t2 h' sb2 ho2 pm W2 hm h7 hl2 => ?_)
    have hs2 : es2.size = es1.size := by rw [<- Array.length_toList, pm.length_eq, Array.length_toList]
    exact wpAny_pure (h true _ (sb1.trans sb2) ⟨_, es2, _, t2, ho2, hex, rfl, SetD.perm pm W2 (by omega) els1 nd1 mem1 (by rw [hl2]; exact hled1)⟩)
   ·rw [decide_eq_false hf, if_neg Bool.false_ne_true]
    exact wpAny_pure (h true _ sb1 ⟨_, es1, _, t1, ho1, hex, rfl, W1, by omega, els1, nd1, mem1, hled1⟩)
  ·dsimp only
   refine wpAny_pure ?_
   rw [e0]
   refine h false s.heap (Heap.SameBut.refl a s.heap) ⟨o, es, ep, t, ho, hex, hd, D.wf, D.room, D.els, D.nd, λ x => (D.mem x).trans ?_, D.led⟩
   rw [List.mem_append, List.mem_singleton]
   exact ⟨.inl, λ q => q.elim id λ z => z ▸ hk⟩
theorem set_add {k : Int} {tk : Tok} {Q : Bool -> Shared -> Prop} (h0 : tk ≠ 0) (S : SetW w s.heap a ks) (hn : ks.length < 5000)
  (h : ∀ b h', Heap.SameBut a s.heap h' -> SetW w h' a (ks ++ [k]) -> Q b { s with heap := h', toks := s.toks + 1 }) :
  wpAny (model prog w) A (setAdd a (.int k tk)) Q E s := by
 unfold setAdd
 refine wpAny_holding (wpAny_bind ((intKind prog w).pyHash (k := k) (intKind_is _ _ _ _) ?_))
 unfold setAddHashed
 exact wpAny_holding (add_in (s := { s with toks := s.toks + 1 }) h0 S hn (λ b h' sb S' => h b h' sb S') 99999)
end
end Pc.Tab
end
section
namespace Pc.Tab
open PySem PySem.SetTable PySem.Spec
theorem SetW.stay {w : World} {h h' : Heap} {a : Addr} {ks : List Int} (S : SetW w h a ks) (e : ∀ o, h.get? a = some o -> h'.get? a = some o) : SetW w h' a ks :=
 let ⟨o, es, ep, t, h1, h2⟩ := S
 ⟨o, es, ep, t, e o h1, h2⟩
section
variable {prog : Program} {w : World} {A : Around} {R : Result -> Shared -> Prop} {I : Addr} {fp wr : List Addr} {G : Array GenState -> Array GenState -> Prop} {n : Nat} {P : Nat -> Value -> Prop} {St : Nat -> Shared -> Prop}
theorem set_loop (W : WalksS prog w A.in1 I fp wr G n P St) (S : Addr) (hSf : S ∉ fp) (val : Nat -> Int) (hval : ∀ i v, P i v -> ∃ t : Tok, t ≠ 0 /\ v = .int (val i) t) (hn : n <= 5000) :
  ∀ (d i : Nat) (s : Shared), n - i = d -> i <= n -> St i s -> SetW w s.heap S ((List.range i).map val) ->
   (∀ s', Moved (S :: wr) G s s' -> SetW w s'.heap S ((List.range n).map val) -> R (.ok (.ret .none)) s') ->
   codeAny (model prog w) A (.builtin "set.update.loop" ⟨[.ref S, .ref I], []⟩) R s := by
 have hSw : S ∉ wr := λ q => hSf (W.sub _ q)
 have more : ∀ b, b ∈ wr -> b ∈ S :: wr := λ b q => List.mem_cons_of_mem _ q
 intro d
 induction d with
 | zero =>
  intro i s hd hi st hS hR
  obtain rfl : i = n := by omega
  refine codeAny_builtin PyProof.Rows.F.entry_set_update_loop ?_
  rw [Around.under_plainId PyProof.Rows.F.plain_set_update_loop _]
  show wpAny _ A.in1 (bind (pyNext (.ref I)) _) _ _ s
  exact wpAny_bind (W.done s _ _ st λ s' hm => wpAny_pure (hR s' (hm.mono more) (hS.stay λ o e => hm.heap S o hSw e)))
 | succ d ih =>
  intro i s hd hi st hS hR
  have hlt : i < n := by omega
  refine codeAny_builtin PyProof.Rows.F.entry_set_update_loop ?_
  rw [Around.under_plainId PyProof.Rows.F.plain_set_update_loop _]
  show wpAny _ A.in1 (bind (pyNext (.ref I)) _) _ _ s
  refine wpAny_bind (W.item i s _ _ hlt st λ v s' hP st' hm => ?_)
  obtain ⟨t, h0, rfl⟩ := hval i v hP
  have hS' : SetW w s'.heap S ((List.range i).map val) := hS.stay λ o e => hm.heap S o hSw e
  show wpAny _ A.in1 (bind (holding [Value.int (val i) t] (setAdd S (.int (val i) t))) _) _ _ s'
  refine wpAny_bind (wpAny_holding (set_add h0 hS' (by rw [lnm, lnr]; omega) λ b h' sb S2 => ?_))
  have S3 : SetW w h' S ((List.range (i + 1)).map val) := by
   rw [List.range_succ, List.map_append]
   exact S2
  refine wpAny_pure ⟨plainId_quiet PyProof.Rows.F.plain_set_update_loop _, ih (i + 1) _ (by omega) hlt (W.frame _ s' _ _ st' (Nat.le_succ _) λ b hb o e => ?_) S3 λ s2 hm2 S4 => ?_⟩
  ·rw [sb.2 b (λ q : b = S => hSf (q ▸ hb))]
   exact e
  ·refine hR s2 (Moved.trans W.gtrans ((hm.mono more).then_heap (Nat.le_succ _) λ b o hb e => ?_) hm2) S4
   rw [sb.2 b (λ q : b = S => hb (by rw [q]; exact List.mem_cons_self))]
   exact e
end
section
variable {prog : Program} {w : World} {A : Around} {E : Value -> Shared -> Prop} {s : Shared}
abbrev newSetObj (w : World) : Obj := { cls := .type "set", dict := none, data := .set #[] 0 (.fresh 0 0 (!w.params.followText "set-order")) }
theorem setW_new (h : Heap) {a : Addr} (e : h.get? a = some (newSetObj w)) : SetW w h a [] :=
 ⟨_, #[], 0, _, e, ⟨rfl, rfl, rfl⟩, rfl, wf_fresh _ _ _, (by show 0 * 5 < 7 * 3; decide), (λ e h => by simp at h), List.nodup_nil, (λ k => by simp), rfl⟩
theorem made_set (v : Value) {Q : Value -> Shared -> Prop} (h : Q (.ref s.heap.objs.size) { s with heap := s.heap.push (newSetObj w) }) :
  codeAny (model prog w) A (.call (.builtin "set.__new__") ⟨[.type "set", v], []⟩) (wants Q E) s := by
 refine codeAny_of_tree ?_
 show wpAny _ A.in1 (bind (checkBuiltinCall "set.__new__" ⟨[.type "set", v], []⟩) λ _ => again (.builtin "set.__new__" ⟨[.type "set", v], []⟩)) _ _ s
 refine wpAny_bind (wpAny_of_eq (F.newCall_set_1 v) (wpAny_pure ⟨plainId_quiet F.plain_set_new _, codeAny_builtin F.entry_set_new ?_⟩))
 rw [Around.under_plainId F.plain_set_new _]
 unfold Builtin.«set.__new__» Builtin.Frozenset.newClass
 have hsub := sub_set_self
 obtain ⟨hp, g, d, tk, os⟩ := s
 dsimp only
 wp_walk
 refine wpAny_askSetting (wpAny_pure ?_)
 dsimp only [newObj]
 exact wpAny_bind (wpAny_alloc (wpAny_pure (wpAny_pure h)))
set_option maxHeartbeats 4000000 in
theorem call_set {l : Addr} {items : Array Value} {val : Nat -> Int} {Q : Value -> Shared -> Prop} (hh : A.handled = none) (hl : s.heap.IsList l items)
  (hv : ∀ (i : Nat) (v : Value), items[i]? = some v -> ∃ t : Tok, t ≠ 0 /\ v = .int (val i) t) (hn : items.size <= 5000)
  (h : ∀ (h' : Heap) (tk : Nat), SetW w h' s.heap.objs.size ((List.range items.size).map val) -> (∀ b o, s.heap.get? b = some o -> h'.get? b = some o) -> Q (.ref s.heap.objs.size) { s with heap := h', toks := tk }) :
  wpAny (model prog w) A (call (.type "set") [.ref l]) Q E s := by
 obtain ⟨c, tl, hmro⟩ := F.called_set.mro
 have made := F.called_set.made
 have sub := F.called_set.sub
 refine wpAny_call (codeAny_of_tree ?_)
 show wpAny _ _ (callAny (.type "set") _) _ _ _
 refine wpAny_pure ⟨Code.quiet_builtin _ (by decide +kernel), codeAny_builtin F.entry_type_call ?_⟩
 rw [Around.under_plain (weight_type_call_type "set" [.ref l] []) rfl]
 have c1 := F.called_set.notType
 have c2 := F.called_set.canCreate
 have c3 := F.typeCall_set_1 (.ref l)
 repeat (any_goals (first | assumption | wp_step))
 refine codeAny_mono (made_set (.ref l) (E := E) (Q := λ v s1 => v = .ref s.heap.objs.size /\ s1 = { s with heap := s.heap.push (newSetObj w) }) ⟨rfl, rfl⟩) λ r s1 hr => ?_
 have hS : (s.heap.push (newSetObj w)).get? s.heap.objs.size = some (newSetObj w) := Heap.get?_push_size _ rfl
 have kept : ∀ b o, s.heap.get? b = some o -> (s.heap.push (newSetObj w)).get? b = some o := λ b o e => Heap.get?_push_of_some _ e
 cases r with
 | error e => exact hr
 | ok fl =>
  cases fl with
  | ret obj =>
   obtain ⟨rfl, rfl⟩ := hr
   have hT : Shared.TypeIs { s with heap := s.heap.push (newSetObj w) } (.ref s.heap.objs.size) "set" := ⟨_, hS, rfl⟩
   have i1 := F.called_set.init.lookup
   have i2 := F.called_set.init.bind (.ref s.heap.objs.size)
   repeat (any_goals (first | assumption | wp_step))
   refine codeAny_mono (codeAny_call_builtin (R := wants (λ r s2 => r = .none /\ ∃ h' tk, s2 = { s with heap := h', toks := tk } /\ SetW w h' s.heap.objs.size ((List.range items.size).map val) /\
     ∀ b o, s.heap.get? b = some o -> h'.get? b = some o) E) F.called_set.init.plain F.entry_set_init (check_set_init_1 hT ?_)) λ r2 s2 hr2 => ?_
   ·have hl1 : (s.heap.push (newSetObj w)).IsList l items := hl.push _
    obtain ⟨ol, hol, hcl, nl, hdl⟩ := hl1
    have hlS : l < s.heap.objs.size := by
     obtain ⟨ol', hol', _⟩ := hl
     exact Heap.lt_size hol'
    have hl2 : (s.heap.push (newSetObj w)).IsList l items := hl.push _
    have tyl : Shared.TypeIs { s with heap := s.heap.push (newSetObj w) } (.ref l) "list" := ⟨ol, hol, hcl⟩
    obtain ⟨ocls, odict, odata, oslots⟩ := ol
    dsimp only at hcl hdl
    subst hcl
    subst hdl
    have q1 := F.sub_list_set
    have q2 := F.sub_list_frozenset
    have q3 : (Value.type "list" == Value.type "dict") = false := by decide
    unfold Builtin.«set.__init__» noKeywords Builtin.Frozenset.updateFrom
    generalize hPI : pyIter = PI
    wp_walk
    subst hPI
    refine wpAny_pyIter_list hl2 ?_
    refine wpAny_bind (wpAny_runValue ?_)
    have hh3 : A.in1.in1.in1.handled = none := by simp [hh]
    have hsz : (s.heap.push (newSetObj w)).objs.size = s.heap.objs.size + 1 := Heap.size_push ..
    have hneI : l ≠ (s.heap.push (newSetObj w)).objs.size := by
     rw [hsz]
     exact Nat.ne_of_lt (Nat.lt_succ_of_lt hlS)
    have hSf : s.heap.objs.size ∉ [(s.heap.push (newSetObj w)).objs.size, l] := by
     rw [hsz]
     intro q
     rcases List.mem_cons.mp q with q | q
     ·exact absurd q (Nat.ne_of_lt (Nat.lt_succ_self _))
     ·exact absurd (List.mem_singleton.mp q) (Nat.ne_of_gt hlS)
    refine set_loop ((Walks.list hh3 _ l hneI items).toS) s.heap.objs.size hSf val hv hn (items.size - 0) 0 _ (by omega) (Nat.zero_le _) ⟨⟨_, Heap.get?_push_size _ rfl, rfl, rfl⟩, (hl2.push _)⟩ ?_ ?_
    ·exact setW_new _ (Heap.get?_push_of_some _ hS)
    ·intro s' hm hS'
     obtain ⟨h1, g1, d1, t1, o1⟩ := s'
     have eg : g1 = s.gens := hm.gens
     have ed : d1 = s.drawn := hm.drawn
     have eo : o1 = s.os := hm.os
     subst eg ed eo
     show wpAny _ _ _ _ _ _
     refine wpAny_pure ?_
     show wpAny _ _ (ret Value.none) _ _ _
     refine wpAny_pure ⟨rfl, h1, t1, rfl, hS', λ b o e => ?_⟩
     have hb : b < s.heap.objs.size := Heap.lt_size e
     refine hm.heap b o (λ q => ?_) (Heap.get?_push_of_some _ (kept b o e))
     rcases List.mem_cons.mp q with q | q
     ·exact absurd q (Nat.ne_of_lt hb)
     ·have q := List.mem_singleton.mp q
      rw [hsz] at q
      exact absurd q (Nat.ne_of_lt (Nat.lt_succ_of_lt hb))
   ·cases r2 with
    | error e => exact hr2
    | ok fl2 =>
     cases fl2 with
     | ret r =>
      obtain ⟨rfl, h', tk, rfl, hS', hk'⟩ := hr2
      repeat (any_goals (first | assumption | wp_step))
      exact h _ _ hS' hk'
     | _ => exact hr2.elim
  | _ => exact hr.elim
end
end Pc.Tab
end
section
namespace Pc.Tab
open PySem PySem.SetTable PySem.Spec
theorem entry_set_iter : entryFor table "set.__iter__" = some Builtin.«frozenset.__iter__» := entryFor_alias (id' := "frozenset.__iter__") (by kernel_rfl) rfl (by decide +kernel) (by kernel_rfl)
theorem slot_si_next : Slot "set_iterator" "__next__" "set_iterator.__next__" :=
 .of (owner := "set_iterator") (n := "__next__") (by rw [typeLookup_type, builtinLookup_eq_fast]; kernel_rfl) (by decide +kernel) (by decide +kernel) (by decide +kernel)
  (by first | exact .inl (by decide +kernel) | exact .inr (by decide +kernel)) (by rw [isSubtype_type]; kernel_rfl)
theorem entry_si_next : entryFor table "set_iterator.__next__" = some Builtin.«set_iterator.__next__» := entryFor_of_tree (by kernel_rfl)
theorem owner_si : Manifest.owners.lookup (String.ofList ['r', 'o', 't', 'a', 'r', 'e', 't', 'i', '_', 't', 'e', 's'].reverse) = some Manifest.sig_set_iterator := by kernel_rfl
theorem args_si_next (a : Value) : argsOk "set_iterator.__next__" ⟨[a], []⟩ := by
 unfold argsOk
 rw [signature?_of (id := "set_iterator.__next__") (n := ['_', '_', 't', 'x', 'e', 'n', '_', '_']) (o := ['r', 'o', 't', 'a', 'r', 'e', 't', 'i', '_', 't', 'e', 's']) (by kernel_rfl) owner_si]
 kernel_rfl
theorem slot_si_iter : Slot "set_iterator" "__iter__" "set_iterator.__iter__" :=
 .of (owner := "set_iterator") (n := "__iter__") (by rw [typeLookup_type, builtinLookup_eq_fast]; kernel_rfl) (by decide +kernel) (by decide +kernel) (by decide +kernel)
  (by first | exact .inl (by decide +kernel) | exact .inr (by decide +kernel)) (by rw [isSubtype_type]; kernel_rfl)
theorem args_si_iter (a : Value) : argsOk "set_iterator.__iter__" ⟨[a], []⟩ := by
 unfold argsOk
 rw [signature?_of (id := "set_iterator.__iter__") (n := ['_', '_', 'r', 'e', 't', 'i', '_', '_']) (o := ['r', 'o', 't', 'a', 'r', 'e', 't', 'i', '_', 't', 'e', 's']) (by kernel_rfl) owner_si]
 kernel_rfl
theorem entry_si_iter : entryFor table "set_iterator.__iter__" = some Builtin.«dict_keyiterator.__iter__» := entryFor_alias (id' := "dict_keyiterator.__iter__") (by kernel_rfl) rfl (by decide +kernel) (by kernel_rfl)
end Pc.Tab
end
section
namespace Pc.Tab
open PySem PySem.SetTable PySem.Spec
theorem pick_go {α : Type} (next : Nat -> Nat) : ∀ (fuel k : Nat) (left : List α) (out : Array α), fuel = left.length -> (pickOrder.go next fuel k left out).toList.Perm (out.toList ++ left)
 | 0, k, left, out, h => by
  have : left = [] := List.eq_nil_of_length_eq_zero h.symm
  subst this
  unfold pickOrder.go
  rw [List.append_nil]
 | fuel + 1, k, left, out, h => by
  have hlt : next k % left.length < left.length := Nat.mod_lt _ (by omega)
  unfold pickOrder.go
  rw [List.getElem?_eq_getElem hlt]
  dsimp only
  refine (pick_go next fuel (k + 1) _ _ (by rw [List.length_eraseIdx_of_lt hlt]; omega)).trans ?_
  rw [Array.toList_push, List.append_assoc]
  refine List.Perm.append_left _ ?_
  rw [List.eraseIdx_eq_take_drop_succ]
  have e : left = left.take (next k % left.length) ++ left[next k % left.length] :: left.drop (next k % left.length + 1) := by
   rw [<- List.drop_eq_getElem_cons hlt, List.take_append_drop]
  conv => rhs; rw [e]
  exact (List.perm_middle (a := left[next k % left.length]) (l₁ := left.take (next k % left.length)) (l₂ := left.drop (next k % left.length + 1))).symm
theorem pick_perm {α : Type} (next : Nat -> Nat) (xs : Array α) : (pickOrder next xs).toList.Perm xs.toList := by
 have := pick_go next xs.size 0 xs.toList #[] (Array.length_toList ..).symm
 rw [List.nil_append] at this
 exact this
section
variable {prog : Program} {w : World} {A : Around} {E : Value -> Shared -> Prop} {s : Shared} {a I : Addr} {es : Array (Int × Value)} {t : SetTable} {ks : List Int} {ep : Nat} {o : Obj}
def byText (w : World) : Bool := w.params.followText "set-order"
def ord (w : World) (a : Addr) (ep : Nat) (es : Array (Int × Value)) : Array (Int × Value) := if byText w = true then pickOrder (w.params.setOrder a ep) es else es
def slotAt (w : World) (t : SetTable) (i : Nat) : Nat := if byText w = true then 0 else if i = 0 then 0 else t.place.getD (i - 1) 0 + 1
theorem ord_perm (w : World) (a : Addr) (ep : Nat) (es : Array (Int × Value)) : (ord w a ep es).toList.Perm es.toList := by
 unfold ord
 split
 ·exact pick_perm ..
 ·exact List.Perm.refl _
theorem ord_size (w : World) (a : Addr) (ep : Nat) (es : Array (Int × Value)) : (ord w a ep es).size = es.size := by
 rw [<- Array.length_toList, (ord_perm ..).length_eq, Array.length_toList]
theorem by_text {Q : Bool -> Shared -> Prop} (h : Q (byText w) s) : wpAny (model prog w) A setsByText Q E s := by
 unfold setsByText
 exact wpAny_bind (wpAny_askSetting (wpAny_pure h))
theorem below_slot (D : SetD w es t ks) (hb : byText w = false) {i : Nat} (hi : i <= es.size) : below t.place (slotAt w t i) = i := by
 unfold slotAt
 rw [hb, if_neg Bool.false_ne_true]
 have hl := D.wf.len
 rw [lnm, Array.length_toList, Array.length_toList] at hl
 obtain ⟨b1, b2, b3⟩ := below_spec D.wf.ris (if i = 0 then 0 else t.place.getD (i - 1) 0 + 1)
 by_cases h0 : i = 0
 ·subst h0
  rw [if_pos rfl] at b1 b2 b3 ⊢
  rcases Nat.eq_zero_or_pos (below t.place 0) with q | q
  ·exact q
  ·obtain ⟨v, hv⟩ : ∃ v, t.place[0]? = some v := ⟨_, Array.getElem?_eq_getElem (by omega)⟩
   have := b2 0 v q hv
   omega
 ·rw [if_neg h0] at b1 b2 b3 ⊢
  have hi1 : i - 1 < t.place.size := by omega
  have hg : t.place.getD (i - 1) 0 = t.place[i - 1] := by rw [Array.getD_eq_getD_getElem?, Array.getElem?_eq_getElem hi1]; rfl
  have hv := Array.getElem?_eq_getElem hi1
  rw [hg] at b1 b2 b3 ⊢
  rcases Nat.lt_trichotomy (below t.place (t.place[i - 1] + 1)) i with q | q | q
  ·have := b3 (i - 1) _ (by omega) hv
   omega
  ·exact q
  ·obtain ⟨u, hu⟩ : ∃ u, t.place[i]? = some u := ⟨_, Array.getElem?_eq_getElem (by omega)⟩
   have h1 := b2 i u q hu
   have h2 := ris_lt D.wf.ris (show i - 1 < i by omega) hv hu
   omega
theorem set_next (ho : s.heap.get? a = some o) (hd : o.data = .set es ep t) (D : SetD w es t ks) {i : Nat} {Q : Option (Value × Nat) -> Shared -> Prop} (hi : i <= es.size)
  (h : Q (((ord w a ep es)[i]?).map λ e => (e.2, slotAt w t (i + 1))) s) : wpAny (model prog w) A (setNext a (slotAt w t i) i ep) Q E s := by
 have hl := D.wf.len
 rw [lnm, Array.length_toList, Array.length_toList] at hl
 unfold setNext
 refine wpAny_bind (wpAny_setState_of ho hd D.fits ?_)
 dsimp only
 refine wpAny_bind (by_text ?_)
 unfold ord at h
 cases hb : byText w with
 | true =>
  rw [hb, if_pos rfl] at h
  rw [if_pos rfl]
  rw [if_neg (by simp)]
  unfold setWalk
  refine wpAny_bind ?_
  refine wpAny_bind (wpAny_setState_of ho hd D.fits ?_)
  dsimp only
  refine wpAny_bind (by_text ?_)
  rw [hb, if_pos rfl]
  refine wpAny_bind (wpAny_askSetting (wpAny_pure ?_))
  refine wpAny_pure ?_
  have e0 : ∀ i, slotAt w t i = 0 := λ i => by unfold slotAt; rw [hb, if_pos rfl]
  rw [e0] at h ⊢
  exact h
 | false =>
  rw [hb, if_neg Bool.false_ne_true] at h
  rw [if_neg Bool.false_ne_true]
  have hled : t.led = true := by rw [D.led]; show (!byText w) = true; rw [hb]; rfl
  show wpAny _ _ (if (!t.plain && decide (es.size > 1)) = true then _ else _) _ _ _
  rw [D.wf.plain, Bool.not_true, Bool.false_and, if_neg Bool.false_ne_true]
  refine wpAny_bind ?_
  show wpAny _ _ (if (!t.led && !es.isEmpty) = true then _ else _) _ _ _
  rw [hled, Bool.not_true, Bool.false_and, if_neg Bool.false_ne_true]
  refine wpAny_pure (wpAny_pure ?_)
  rw [below_slot D hb hi]
  rcases Nat.lt_or_ge i es.size with q | q
  ·have hp : i < t.place.size := by omega
   rw [Array.getElem?_eq_getElem q] at h ⊢
   rw [Array.getElem?_eq_getElem hp]
   have e : slotAt w t (i + 1) = t.place[i] + 1 := by
    unfold slotAt
    rw [hb, if_neg Bool.false_ne_true, if_neg (by omega), Nat.add_sub_cancel, Array.getD_eq_getD_getElem?, Array.getElem?_eq_getElem hp]
    rfl
   rw [e] at h
   exact h
  ·rw [Array.getElem?_eq_none q] at h ⊢
   exact h
def SetIt (h : Heap) (I a : Addr) (slot i n ep : Nat) : Prop := ∃ o, h.get? I = some o /\ o.cls = .type "set_iterator" /\ o.data = .fields #[.int slot 0, .int i 0, .ref a, .int n 0, .int ep 0]
theorem SetIt.typeIs {slot i n ep : Nat} (x : SetIt s.heap I a slot i n ep) : s.TypeIs (.ref I) "set_iterator" := let ⟨o, h1, h2, _⟩ := x; ⟨o, h1, h2⟩
theorem iter_set {Q : Value -> Shared -> Prop} (ho : s.heap.get? a = some o) (hex : o.ExactSet) (hd : o.data = .set es ep t) (D : SetD w es t ks)
  (h : Q (.ref s.heap.objs.size) { s with heap := s.heap.push { cls := .type "set_iterator", data := .fields #[.int 0 0, .int 0 0, .ref a, .int es.size 0, .int ep 0] } }) : wpAny (model prog w) A (pyIter (.ref a)) Q E s := by
 have hT : s.TypeIs (.ref a) "set" := ⟨o, ho, hex.1⟩
 refine wpAny_pyIter_slot hT F.slot_set_iter (wpAny_call_entry F.slot_set_iter hT entry_set_iter ?_ (F.args_set_iter_1 _))
 unfold Builtin.«frozenset.__iter__»
 refine wpAny_bind (wpAny_pure ?_)
 unfold Builtin.Frozenset.sizeOf
 refine wpAny_bind (wpAny_bind (wpAny_setEntries_of ho hd D.fits (wpAny_pure ?_)))
 unfold setDrawn
 refine wpAny_bind (wpAny_bind (wpAny_setState_of ho hd D.fits ?_))
 dsimp only
 refine wpAny_bind (by_text (wpAny_pure ?_))
 show wpAny _ _ (if (!byText w && (!t.plain && decide (es.size > 1))) = true then _ else _) _ _ _
 rw [D.wf.plain, Bool.not_true, Bool.false_and, Bool.and_false, if_neg Bool.false_ne_true]
 refine wpAny_bind (wpAny_pure ?_)
 refine wpAny_bind (wpAny_setEpoch_of ho hd D.fits ?_)
 refine wpAny_bind (wpAny_newObj_type (wpAny_pure ⟨_, rfl, "set_iterator", _, ⟨_, Heap.get?_push_size _ rfl, rfl⟩, slot_si_next.lookup, ?_⟩))
 exact h
theorem next_set {Q : Option Value -> Shared -> Prop} {i : Nat} {x : Int × Value} (hit : SetIt s.heap I a (slotAt w t i) i es.size ep) (ho : s.heap.get? a = some o) (hd : o.data = .set es ep t) (D : SetD w es t ks) (hne : a ≠ I)
  (hx : (ord w a ep es)[i]? = some x) (h : ∀ h', SetIt h' I a (slotAt w t (i + 1)) (i + 1) es.size ep -> Heap.SameBut I s.heap h' -> Q (some x.2) { s with heap := h' }) : wpAny (model prog w) A (pyNext (.ref I)) Q E s := by
 have hi : i < es.size := by
  have := (Array.getElem?_eq_some_iff.mp hx).1
  rw [ord_size] at this
  exact this
 obtain ⟨oi, h1, h2, h3⟩ := id hit
 unfold pyNext
 refine wpAny_bind (wpAny_attempt (wpAny_callSpecial?_slot (name := Str.ofString "__next__") hit.typeIs slot_si_next (wpAny_call_entry slot_si_next hit.typeIs entry_si_next ?_ (args_si_next _))))
 unfold Builtin.«set_iterator.__next__»
 refine wpAny_bind (wpAny_pure ?_)
 refine wpAny_bind (wpAny_fieldsOf h1 h3 ?_)
 dsimp only
 refine wpAny_bind (wpAny_setEntries_of ho hd D.fits ?_)
 rw [if_neg (by simp)]
 refine wpAny_bind (set_next ho hd D (Nat.le_of_lt hi) ?_)
 rw [hx]
 show wpAny _ _ (bind (setField (.ref I) 0 (rawInt ((slotAt w t (i + 1) : Nat) : Int))) _) _ _ s
 refine wpAny_bind (wpAny_setField h1 h3 (by simp) ?_)
 have g1 : (s.heap.update I (Obj.mapFields (·.setIfInBounds 0 (rawInt ((slotAt w t (i + 1) : Nat) : Int))))).get? I = _ := Heap.get?_update_self _ h1 (Obj.isFreed_of_fields (Obj.data_mapFields h3 _))
 have d1 := Obj.data_mapFields h3 (·.setIfInBounds 0 (rawInt ((slotAt w t (i + 1) : Nat) : Int)))
 show wpAny _ _ (bind (setField (.ref I) 1 (rawInt ((i : Int) + 1))) _) _ _ _
 refine wpAny_bind (wpAny_setField g1 d1 (by simp) ?_)
 refine wpAny_pure ⟨_, rfl, wpAny_pure (h _ ⟨_, Heap.get?_update_self _ g1 (Obj.isFreed_of_fields (Obj.data_mapFields d1 _)), ?_, ?_⟩ ((Heap.SameBut.update ..).trans (Heap.SameBut.update ..)))⟩
 ·rw [Obj.cls_mapFields, Obj.cls_mapFields]
  exact h2
 ·rw [Obj.data_mapFields d1]
  simp [rawInt]
theorem next_stop {Q : Option Value -> Shared -> Prop} (hh : A.handled = none) (hit : SetIt s.heap I a (slotAt w t es.size) es.size es.size ep) (ho : s.heap.get? a = some o) (hd : o.data = .set es ep t) (D : SetD w es t ks)
  (h : ∀ h', Heap.ExtBut I s.heap h' -> Q none { s with heap := h' }) : wpAny (model prog w) A (pyNext (.ref I)) Q E s := by
 obtain ⟨oi, h1, h2, h3⟩ := id hit
 unfold pyNext
 refine wpAny_bind (wpAny_attempt (wpAny_callSpecial?_slot (name := Str.ofString "__next__") hit.typeIs slot_si_next (wpAny_call_entry slot_si_next hit.typeIs entry_si_next ?_ (args_si_next _))))
 unfold Builtin.«set_iterator.__next__»
 refine wpAny_bind (wpAny_pure ?_)
 refine wpAny_bind (wpAny_fieldsOf h1 h3 ?_)
 dsimp only
 refine wpAny_bind (wpAny_setEntries_of ho hd D.fits ?_)
 rw [if_neg (by simp)]
 refine wpAny_bind (set_next ho hd D (Nat.le_refl _) ?_)
 rw [Array.getElem?_eq_none (by rw [ord_size]; exact Nat.le_refl _)]
 show wpAny _ _ (bind (setField (.ref I) 2 .none) _) _ _ s
 refine wpAny_bind (wpAny_setField h1 h3 (by simp) ?_)
 show wpAny _ _ (bind (newExc (.type "StopIteration") []) _) _ _ _
 refine wpAny_bind ?_
 simp only [newExc, newTuple]
 refine wpAny_bind (wpAny_newObj_type ?_ (by size_fits))
 refine wpAny_bind (m := firstArgMember _ _) (wpAny_of_eq (a := Value.none) (by first | rfl | (simp only [firstArgMember]; rfl)) ?_)
 refine wpAny_newObj_type ?_ (by size_fits)
 simp only [raiseNew]
 refine wpAny_bind (wpAny_handled ?_)
 rw [show A.in1.handled = none from hh]
 refine wpAny_bind (wpAny_pure (wpAny_throw ?_))
 refine wpAny_bind (wpAny_isInstance (T := "StopIteration") (b := true) ⟨_, Heap.get?_push_size _ rfl, rfl⟩ isSubtype_stop ?_)
 exact wpAny_pure (h _ (((Heap.SameBut.update ..).extBut.push _).push _))
theorem iter_self {Q : Value -> Shared -> Prop} {slot i n : Nat} (hit : SetIt s.heap I a slot i n ep) (h : Q (.ref I) s) : wpAny (model prog w) A (pyIter (.ref I)) Q E s := by
 refine wpAny_pyIter_slot hit.typeIs slot_si_iter (wpAny_call_entry slot_si_iter hit.typeIs entry_si_iter ?_ (args_si_iter _))
 show wpAny _ _ (ret (.ref I)) _ _ s
 exact wpAny_pure ⟨_, rfl, "set_iterator", _, hit.typeIs, slot_si_next.lookup, h⟩
theorem walks_set (hh : A.handled = none) (I : Addr) (hne : a ≠ I) (hd : o.data = .set es ep t) (D : SetD w es t ks) :
  Walks prog w A I [I, a] [I] es.size (λ i v => ∃ x, (ord w a ep es)[i]? = some x /\ v = x.2) (λ i h => SetIt h I a (slotAt w t i) i es.size ep /\ h.get? a = some o) where
 sub := λ b hb => by simp at hb; simp [hb]
 frame := λ i h h' st hk => by
  obtain ⟨⟨oi, h1, h2⟩, h3⟩ := st
  exact ⟨⟨oi, hk I (by simp) _ h1, h2⟩, hk a (by simp) _ h3⟩
 item := λ i s Q E hi st hQ => by
  have hx := Array.getElem?_eq_getElem (show i < (ord w a ep es).size by rw [ord_size]; exact hi)
  refine next_set st.1 st.2 hd D hne hx λ h' hit' sb => ?_
  refine hQ _ h' s.toks ⟨_, hx, rfl⟩ ⟨hit', ?_⟩ λ b o' hb e => ?_
  ·rw [sb.2 a hne]; exact st.2
  ·rw [sb.2 b (λ q => hb (by simp [q]))]; exact e
 done := λ s Q E st hQ => next_stop hh st.1 st.2 hd D λ h' he => hQ h' s.toks λ b o' hb e => he b o' (λ q => hb (by simp [q])) e
 self := λ i s Q E st hQ => iter_self st.1 hQ
end
end Pc.Tab
end
section
namespace Pc.Tab
open PySem PySem.SetTable PySem.Spec
section
variable {prog : Program} {w : World} {A : Around} {E : Value -> Shared -> Prop} {s : Shared} {a : Addr} {es : Array (Int × Value)} {t : SetTable} {ks : List Int} {ep : Nat} {o : Obj}
theorem hint_set {r : Addr} {Q : Bool -> Shared -> Prop} (hT : s.TypeIs (.ref r) "set") (h : Q false s) : wpAny (model prog w) A (Builtin.List.listLengthHint (.ref r)) Q E s := by
 unfold Builtin.List.listLengthHint
 refine wpAny_bind (wpAny_specialOf hT F.slot_set_len.lookup ?_)
 generalize hid : ("set.__len__" : String) = id0
 wp_delta
 rw [show splitId id0 = some ("set", "__len__") from by subst hid; decide +kernel]
 subst hid
 refine wpAny_bind (wpAny_isInstance (T := "set") (b := true) hT sub_set_self ?_)
 refine wpAny_ite_split (λ no => absurd no (by decide)) (λ _ => ?_)
 refine wpAny_ite_split (λ _ => ?_) (λ no => absurd (by decide +kernel) no)
 exact wpAny_bind (wpAny_typeOf hT (wpAny_pure h))
theorem src_set (hex : o.ExactSet) (hd : o.data = .set es ep t) (D : SetD w es t ks) :
  PySem.W.KdlSrc prog w "set" a a es.size (λ i v => ∃ x, (ord w a ep es)[i]? = some x /\ v = x.2) (λ h => h.get? a = some o) where
 type := λ s e => ⟨o, e, hex.1⟩
 there := λ h e => ⟨Heap.lt_size e, Heap.lt_size e⟩
 keep := λ h h' e k => k a (.inl rfl) o e
 notList := by decide
 notTuple := by decide
 hint := λ A E s Q e q => hint_set ⟨o, e, hex.1⟩ q
 iter := λ A s hh e => by
  refine ⟨{ cls := .type "set_iterator", data := .fields #[.int 0 0, .int 0 0, .ref a, .int es.size 0, .int ep 0] }, _, λ E Q q => iter_set e hex hd D q, walks_set hh _ (Nat.ne_of_lt (Heap.lt_size e)) hd D, ⟨⟨_, Heap.get?_push_size _ rfl, rfl, ?_⟩, Heap.get?_push_of_some _ e⟩⟩
  have e0 : slotAt w t 0 = 0 := by unfold slotAt; split <;> rfl
  rw [e0]
  rfl
end
end Pc.Tab
end
section
namespace Pc
open PySem PySem.Spec PyProof.Rows L2
open Vbpcao (State)
def top (i : Nat) : Stmt := PySem.Challenge.pw_pinchanneldesk_s01_answers.main.body.getD i (.Pass ⟨0, 0, 0, 0⟩)
def Def (K : PySem.W.Frag) (mg : Str -> Option Value) (x : Str) (st : Stmt) : Prop := ∃ f fd, mg x = some (.ref f) /\ Fun K x x st f fd
def Cal (P : Program) (w : World) (K : PySem.W.Frag) (mg : Str -> Option Value) (base : Heap) (x : Str) (ps : List Str) (k : Nat) (sp : Sp) : Prop :=
 ∃ f fd, mg x = some (.ref f) /\ PySem.W.keepIn K (.ref f) = true /\ Binds K fd ps [] /\ FnOk P w K mg base CX0 k f fd ps sp
section
variable {P : Program} {w : World} {K : PySem.W.Frag} {mg : Str -> Option Value} {base : Heap}
theorem Def.cal {x : Str} {st : Stmt} {N ps : List Str} {k : Nat} {sp : Sp} (D : Def K mg x st) (S : FnScope N ps (defScope st))
  (hb : ∀ (kV doc pm : Value) (an : Option Addr) (cdv ct : Value) (us : List Value), us.length = ps.length -> bindArgs (PySem.W.fnOf x x (defArgs st) (defBody st) (defScope st) .none kV doc pm an cdv ct) ⟨us, []⟩ = pure (ps.zip us))
  (len : ∀ vs H Q E, sp vs H Q E -> vs.length = ps.length)
  (hbody : ∀ (f : Addr) (cdv : Value) (A : Around) (outer : List Env) (s : Shared) (H : Hp) (vs : List V) (Q : VK) (E : XK), Room k (A.deeper (envOfC x (defScope st) s.heap.objs.size f cdv)) -> sp vs H Q E ->
   ∃ t, PSs (cxOf CX0 P w K mg base N x (defScope st) f cdv A outer s H E).nox (defBody st) t /\ t { nx := λ _ H' => Q .non H', rt := Q } (start N vs) H) : Cal P w K mg base x ps (k + 1) sp := by
 obtain ⟨f, fd, hm, F⟩ := D
 exact ⟨f, fd, hm, F.kp, F.binds hb, F.ok S len (hbody f)⟩
theorem Cal.mono {x : Str} {ps : List Str} {j k : Nat} {sp : Sp} (C : Cal P w K mg base x ps j sp) (h : j <= k) : Cal P w K mg base x ps k sp := by
 obtain ⟨f, fd, h1, h2, h3, F⟩ := C
 exact ⟨f, fd, h1, h2, h3, F.mono h⟩
end
section
variable {X : Cx}
theorem pe_cal {x : Str} {ps : List Str} {k : Nat} {sp : Sp} {e : Expr} {es : List Expr} {t : TA} {p pos : Pos} (C : Cal X.prog X.w X.K X.mg X.base x ps k sp) (hr : Room k X.A) (hg : Gl X x) (ha : PA X (e :: es) t)
  (hdb : (x == ("__debug__" : Str)) = false := by decide) (he : starEach (e :: es) X.env = (false, eval e X.env) :: starEach es X.env := by rfl) (hpl : (backTo pos (starEach es X.env)).any (·.1) = false := by rfl) :
  PE X (.Call (.Name x p) (e :: es) [] pos) (tCall sp [] E0 t) := by
 obtain ⟨f, fd, hm, hk, hb, F⟩ := C
 exact pe_call F hr hg hm hk hb .nil pass0 ha hdb he hpl
theorem pe_gint {x : Str} {v : Int} {pos : Pos} (h : ∃ t, X.mg x = some (.int v t)) (hg : Gl X x) (hd : (x == ("__debug__" : Str)) = false := by decide) : PE X (.Name x pos) (tC (.int v)) := by
 obtain ⟨t, h⟩ := h
 exact pe_glob hg h ⟨t, rfl⟩ hd
def tCallV (X : Cx) (tn : TE) (t : TA) : TE := λ σ H Q => tn σ H λ v H1 => ∃ (f : Addr) (k : Nat) (fd : FuncData) (ps : List Str) (sp : Sp), v = .ref f /\ PySem.W.keepIn X.K (.ref f) = true /\ Binds X.K fd ps [] /\
 FnOk X.prog X.w X.K X.mg X.base CX0 k f fd ps sp /\ Room k X.A /\ t σ H1 λ vs H2 => sp (vs ++ []) H2 Q E0
theorem pe_callV {x : Str} {e : Expr} {es : List Expr} {tn : TE} {t : TA} {p pos : Pos} (hn : PE X (.Name x p) tn) (ha : PA X (e :: es) t)
  (he : starEach (e :: es) X.env = (false, eval e X.env) :: starEach es X.env := by rfl) (hpl : (backTo pos (starEach es X.env)).any (·.1) = false := by rfl) :
  PE X (.Call (.Name x p) (e :: es) [] pos) (tCallV X tn t) := by
 intro pins s σ H Q I h
 refine wpAny_Call_Name_kw (thn (hn pins s σ H _ I h) λ u s1 ⟨v, H1, I1, r1, f, k, fd, ps, sp, ev, hk, hb, F, hr, q⟩ => ?_)
 subst ev
 obtain rfl : u = Value.ref f := r1
 refine PySem.W.callWith_K (h₀ := X.base) I.ok.mod.kin hk (thn (ha pos pins s1 σ H1 _ I1 q) λ us s2 ⟨vs, H2, I2, r, q2⟩ => ⟨I2.kIn, ?_⟩) he hpl
 exact run_fn F hr hb .nil pass0 I2 r q2
end
section
variable {X : Cx}
theorem sort_any {pins : List (Addr × Obj)} {s : Shared} {σ : L2.St} {H : Hp} {A : Around} {a : Addr} {ns : List Int} {Q : Value -> Shared -> Prop} {E : Value -> Shared -> Prop} (I : L2.Inv X pins σ H s) (ha : H a = some (.lst (ns.map V.int))) (h64 : ns.length <= sizeLine)
  (q : ∀ (ns' : List Int) (s' : Shared), ns'.Perm ns -> ns'.Pairwise (· <= ·) -> L2.Inv X pins σ (upd H a (.lst (ns'.map V.int))) s' -> Q .none s') :
  wpAny (model X.prog X.w) A (call (.builtin "list.sort") [.ref a]) Q E s := by
 obtain ⟨hz, its, n, rv, hob⟩ := I.hok a _ ha
 have hi := rv.ints
 refine wpAny_call_entry PyProof.Rows.slot_list_sort ⟨_, hob, rfl⟩ PyProof.Rows.entry_list_sort
  (PyProof.Rows.list_sort_treeAny hob hi (by rw [hi.length]; exact h64) λ out ns' h1 h2 h3 => ⟨.none, rfl, ?_⟩) (PyProof.Rows.args_list_sort _)
 obtain ⟨ep, he'⟩ := PyProof.Rows.sortedHeap_at (vs := its) (out := out) hob
 have hlen : (ns'.map V.int).length <= sizeLine := by rw [lnm, h2.length_eq]; exact h64
 refine q ns' _ h2 h3 (I.write (e := a) (t' := s.toks) (by rw [ha]; trivial) (.inl rfl) (λ b u hb hu => ?_) ⟨_, he'⟩ ⟨hlen, out.toList, ep, vals_of_ints h1, he'⟩)
 rw [PyProof.Rows.sortedHeap_old hb (Heap.lt_size hu)]; exact hu
def rSortedD : List V -> Hp -> VK -> Prop := λ vs H Q => ∃ (a : Addr) (kvs : List (Key × V)) (ns : List Int), vs = [V.ref a] /\ H a = some (.dK kvs) /\ kvs.map (·.1) = ns.map Sum.inl /\ ns.length < 64 /\
 ∀ (ns' : List Int) (p : Addr), ns'.Perm ns -> ns'.Pairwise (· <= ·) -> H p = none -> Q (.ref p) (upd H p (.lst (ns'.map V.int)))
theorem kv_keys : ∀ {kvs : List (Key × V)} {vs : List (Key × Value)}, KV kvs vs -> kvs.map (·.1) = vs.map (·.1)
 | _, _, .nil => rfl
 | _, _, .cons r t => by rw [List.map_cons, List.map_cons, r.1, kv_keys t]
theorem ints_of_keys {acc : List Value} : ∀ {ns : List Int}, acc.length = ns.length -> (∀ (j : Nat) (v : Value) (n : Int), acc[j]? = some v -> ns[j]? = some n -> keyIs (.inl n) v = true) -> IntsAre acc ns := by
 induction acc with
 | nil =>
  intro ns h _
  cases ns with
  | nil => exact .nil
  | cons n r => cases h
 | cons v r ih =>
  intro ns h hk
  cases ns with
  | nil => cases h
  | cons n ns =>
   have h0 := hk 0 v n rfl rfl
   rcases keyIs_shape h0 with ⟨i, t, e1, e2⟩ | ⟨x, t, e1, _⟩
   ·cases e1
    subst e2
    exact .cons _ t (ih (by simpa using h) λ j w m h1 h2 => hk (j + 1) w m (by simpa using h1) (by simpa using h2))
   ·cases e1
theorem cr_sortedD (hc : X.calm = true) : CallR X (.builtin "sorted") rSortedD := by
 intro pins s σ H vs us Q I r h
 obtain ⟨a, kvs, ns, rfl, ha, hk, h64, q⟩ := h
 rw [Vals.ref1 r]
 obtain ⟨z, lo, kv2, rel, dd⟩ := dk_rd I.hok (.inl ha)
 obtain ⟨ep, hat⟩ := dd.dictAt
 refine Calls.call_function_entry kind_sorted plain_sorted entry_sorted (args_sorted1 _) ?_
 unfold Builtin.«sorted»
 refine wpAny_bind (m := checkCount "sorted" 1 1 _) (wpAny_pure ?_)
 have hl2 : kv2.length = ns.length := by
  have e := congrArg List.length (kv_keys rel)
  rw [hk, lnm, lnm] at e
  exact e.symm
 refine wpAny_bind (PySem.W.kdu_collect (A := X.A.in1) (PySem.W.kdl_dict (knd := mixKind X.prog X.w) (kvs := kv2) (ep := ep) lo) (I.ok.hd hc) hat (by rw [hl2]; exact small64 h64) λ h' tk acc hkp hacc => ?_)
 have hl : acc.toList.length = ns.length := by rw [Array.length_toList, hacc.1, hl2]
 have hi : IntsAre acc.toList ns := ints_of_keys hl λ j v n h1 h2 => by
  obtain ⟨k, x, hx, hkv⟩ := hacc.2 j v (by rw [<- Array.getElem?_toList]; exact h1)
  have e1 : (kv2.map (·.1))[j]? = some k := by rw [gem, hx]; rfl
  rw [<- kv_keys rel, hk, gem, h2] at e1
  have e2 : (Sum.inl n : Key) = k := Option.some.inj e1
  rw [e2]
  exact hkv
 have hz : acc.toList.length <= sizeLine := by rw [hl]; exact small64 h64
 refine wpAny_bind (wpAny_newList ?_ hz)
 have I1 : L2.Inv X pins σ H { s with heap := h', toks := tk } := I.kept hkp
 have I2 := I1.lnew (ys := ns.map V.int) (its := acc.toList) (t' := tk) (vals_of_ints hi) (by rw [lnm]; exact small64 h64)
 refine wpAny_bind (wpAny_holding (sort_any I2 upd_same (small64 h64) λ ns' s' p1 p2 I3 => ?_))
 rw [upd_upd] at I3
 exact wpAny_pure ⟨_, rfl, ⟨.ref _, _, I3, rfl, q ns' _ p1 p2 I1.fresh⟩⟩
end
def weakV : V -> V
 | .tok i => .int i
 | v => v
theorem RelV.weak {v : V} {u : Value} (r : RelV v u) : RelV (weakV v) u := by
 cases v with
 | tok i => obtain ⟨t, _, rfl⟩ := r; exact ⟨t, rfl⟩
 | _ => exact r
theorem Vals.weak {ns : List Int} : ∀ {us : List Value}, Vals (ns.map V.tok) us -> Vals (ns.map V.int) us := by
 induction ns with
 | nil => intro us r; exact r
 | cons n ns ih =>
  intro us r
  cases r with
  | cons a b => exact .cons (RelV.weak a) (ih b)
def tWeak (t : TE) : TE := λ σ H Q => t σ H λ v H' => Q (weakV v) H'
inductive WeakTo : Hp -> Hp -> Prop
 | refl (H : Hp) : WeakTo H H
 | step {H H' : Hp} {a : Addr} {ns : List Int} : WeakTo H H' -> H' a = some (.lst (ns.map V.tok)) -> WeakTo H (upd H' a (.lst (ns.map V.int)))
def tWeakH (t : TE) : TE := λ σ H Q => ∃ H', WeakTo H H' /\ t σ H' Q
section
variable {X : Cx} {e : Expr}
theorem pe_weak {t : TE} (h : PE X e t) : PE X e (tWeak t) := λ pins s σ H Q I hw =>
 thn (h pins s σ H _ I hw) λ u s1 ⟨v, H1, I1, r1, q⟩ => ⟨weakV v, H1, I1, RelV.weak r1, q⟩
theorem inv_weak {pins : List (Addr × Obj)} {σ : L2.St} {H H' : Hp} {s : Shared} (I : L2.Inv X pins σ H s) (w : WeakTo H H') : L2.Inv X pins σ H' s := by
 induction w with
 | refl => exact I
 | @step H' a ns w e ih =>
  have I := ih
  obtain ⟨z, its, n, r, ho⟩ := I.hok a _ e
  rw [lnm] at z
  exact I.write (x := a) (e := a) (h' := s.heap) (t' := s.toks) (by rw [e]; trivial) (.inl rfl) (λ b u _ q => q) ⟨_, ho⟩ ⟨by rw [lnm]; exact z, its, n, Vals.weak r, ho⟩
theorem pe_weakH {t : TE} (h : PE X e t) : PE X e (tWeakH t) := λ pins s σ H Q I ⟨H', w, hw⟩ => h pins s σ H' Q (inv_weak I w) hw
end
section
variable {X : Cx}
def setHO (w : World) (p : Addr) (ns : List Int) : HO := .ext λ h => Tab.SetW w h p ns
def rSet (K : PySem.W.Frag) (w : World) : List V -> Hp -> VK -> Prop := λ vs H Q => ∃ (a : Addr) (ns : List Int), vs = [V.ref a] /\ SqL K H a (ns.map V.tok) /\ ns.length <= 5000 /\ ∀ p, H p = none -> Q (.ref p) (upd H p (setHO w p ns))
theorem toks_at {ns : List Int} {us : List Value} (r : Vals (ns.map V.tok) us) {i : Nat} {v : Value} (h : us[i]? = some v) : ∃ t : Tok, t ≠ 0 /\ v = .int (ns.getD i 0) t := by
 have hl := r.length
 rw [lnm] at hl
 have hi : i < ns.length := by
  have := (List.getElem?_eq_some_iff.mp h).1
  omega
 obtain ⟨u, hu, ru⟩ := r.get (i := i) (x := V.tok ns[i]) (by rw [gem, List.getElem?_eq_getElem hi]; rfl)
 rw [h] at hu
 cases hu
 obtain ⟨t, h0, rfl⟩ := ru
 refine ⟨t, h0, ?_⟩
 rw [List.getD_eq_getElem?_getD, List.getElem?_eq_getElem hi]
 rfl
theorem cr_set (hc : X.calm = true) : CallR X (.type "set") (rSet X.K X.w) := by
 intro pins s σ H vs us Q I r h
 obtain ⟨a, ns, rfl, hl, hn, q⟩ := h
 rw [Vals.ref1 r]
 obtain ⟨its, rv, pl, _⟩ := I.list hl
 have hlen := rv.length
 rw [lnm] at hlen
 refine Tab.call_set (items := its.toArray) (val := λ i => ns.getD i 0) (I.ok.hd hc) pl.isList (λ i v hv => toks_at rv (by simpa using hv)) (by rw [List.size_toArray]; omega) λ h' tk S kept => ?_
 have e : (List.range its.toArray.size).map (λ i => ns.getD i 0) = ns := by
  rw [List.size_toArray, <- hlen]
  refine List.ext_getElem? λ i => ?_
  rw [gem]
  by_cases hi : i < ns.length
  ·rw [List.getElem?_range hi, List.getElem?_eq_getElem hi]
   show some (ns.getD i 0) = _
   rw [List.getD_eq_getElem?_getD, List.getElem?_eq_getElem hi]
   rfl
  ·rw [List.getElem?_eq_none (show (List.range ns.length).length <= i by rw [lnr]; omega), List.getElem?_eq_none (show ns.length <= i by omega)]
   rfl
 rw [e] at S
 refine ⟨.ref s.heap.objs.size, _, I.laid (t' := tk) kept (Nat.le_refl _) ?_, rfl, q _ I.fresh⟩
 refine ⟨S, ?_, λ h1 h2 S1 k => S1.stay k⟩
 obtain ⟨o, _, _, _, ho, _⟩ := S
 exact ⟨o, ho⟩
def rSortSet (w : World) : List V -> Hp -> VK -> Prop := λ vs H Q => ∃ (p : Addr) (ks : List Int), vs = [V.ref p] /\ H p = some (setHO w p ks) /\ ks.length <= 5000 /\
 ∀ (ns : List Int) (l : Addr), ns.Pairwise (· < ·) -> (∀ x, x ∈ ns ↔ x ∈ ks) -> H l = none -> Q (.ref l) (upd H l (.lst (ns.map V.int)))
theorem cr_sortSet (hc : X.calm = true) : CallR X (.builtin "sorted") (rSortSet X.w) := by
 intro pins s σ H vs us Q I r h
 obtain ⟨p, ks, rfl, hp, hn, q⟩ := h
 rw [Vals.ref1 r]
 obtain ⟨S, _, _⟩ := I.hok p _ hp
 obtain ⟨o, es, ep, t, ho, hex, hd, D⟩ := S
 have hsz := D.size_le
 refine Calls.call_function_entry kind_sorted plain_sorted entry_sorted (args_sorted1 _) ?_
 unfold Builtin.«sorted»
 refine wpAny_bind (m := checkCount "sorted" 1 1 _) (wpAny_pure ?_)
 refine wpAny_bind (PySem.W.kdu_collect (A := X.A.in1) (Tab.src_set (prog := X.prog) hex hd D) (I.ok.hd hc) ho (by rw [sizeLine_eq]; omega) λ h' tk acc hkp hacc => ?_)
 have pm := Tab.ord_perm X.w p ep es
 have hl : acc.toList.length = es.size := by rw [Array.length_toList, hacc.1]
 have hi : IntsAre acc.toList ((Tab.ord X.w p ep es).toList.map Tab.keyOf) := by
  refine ints_of_keys (by rw [hl, lnm, Array.length_toList, Tab.ord_size]) λ j v n h1 h2 => ?_
  obtain ⟨x, hx, rfl⟩ := hacc.2 j v (by rw [<- Array.getElem?_toList]; exact h1)
  rw [gem, Array.getElem?_toList, hx] at h2
  have h2 : Tab.keyOf x = n := Option.some.inj h2
  obtain ⟨k, tk, _, rfl⟩ := D.els x (pm.mem_iff.mp (List.mem_of_getElem? (by rw [Array.getElem?_toList]; exact hx)))
  have h2 : k = n := h2
  subst h2
  exact keyIs_int k tk
 have hz : acc.toList.length <= sizeLine := by rw [hl, sizeLine_eq]; omega
 have hz2 : ((Tab.ord X.w p ep es).toList.map Tab.keyOf).length <= sizeLine := by rw [lnm, Array.length_toList, Tab.ord_size, sizeLine_eq]; omega
 refine wpAny_bind (wpAny_newList ?_ hz)
 have I1 : L2.Inv X pins σ H { s with heap := h', toks := tk } := I.kept hkp
 have I2 := I1.lnew (ys := ((Tab.ord X.w p ep es).toList.map Tab.keyOf).map V.int) (its := acc.toList) (t' := tk) (vals_of_ints hi) (by rw [lnm]; exact hz2)
 refine wpAny_bind (wpAny_holding (sort_any I2 upd_same hz2 λ ns' s' p1 p2 I3 => ?_))
 rw [upd_upd] at I3
 have pk := p1.trans (pm.map Tab.keyOf)
 refine wpAny_pure ⟨_, rfl, ⟨.ref _, _, I3, rfl, q ns' _ (sorted_strict p2 (pk.nodup_iff.mpr D.nd)) (λ x => pk.mem_iff.trans (D.mem x)) I1.fresh⟩⟩
end
structure KDict (K : PySem.W.Frag) (D : Addr) (tb : List (Int × Addr)) : Prop where
 ex : ∃ (o : Obj) (es : Array DictEntry) (ep : Nat), K.lookup D = some o /\ o.ExactDict /\ o.data = .dict es ep /\ Paired (λ (e : DictEntry) (p : Int × Addr) => e.key.isInt p.1 = true /\ e.hash = hashInt p.1 /\ e.val = .ref p.2) es.toList tb
 nd : (tb.map (·.1)).Nodup
 nm : (D == sysModules) = false
section
variable {X : Cx}
theorem KDict.get {h : Heap} {K : PySem.W.Frag} {D : Addr} {tb : List (Int × Addr)} {P : Program} {w : World} (d : KDict K D tb) (hk : K.In h) : h.DictOf (mixKind P w) D (tb.map λ p => (Sum.inl p.1, Value.ref p.2)) := by
 obtain ⟨o, es, ep, hl, hex, hd, hp⟩ := d.ex
 refine ⟨o, es, ep, hk D o hl, hex, hd, ?_, ?_, ?_⟩
 ·intro e he
  have : ∀ {l : List DictEntry} {tb : List (Int × Addr)}, Paired (λ (e : DictEntry) (p : Int × Addr) => e.key.isInt p.1 = true /\ e.hash = hashInt p.1 /\ e.val = .ref p.2) l tb -> ∀ e ∈ l, ∃ k : Key, (mixKind P w).is k e.key = true /\ e.hash = (mixKind P w).hash k := by
   intro l tb r
   induction r with
   | nil => intro e he; cases he
   | cons a b ih =>
    intro e he
    rcases List.mem_cons.mp he with q | q
    ·subst q; exact ⟨Sum.inl _, a.1, a.2.1⟩
    ·exact ih e q
  exact this hp e (by simpa using he)
 ·have : ∀ {l : List DictEntry} {tb : List (Int × Addr)}, Paired (λ (e : DictEntry) (p : Int × Addr) => e.key.isInt p.1 = true /\ e.hash = hashInt p.1 /\ e.val = .ref p.2) l tb -> Pairs (mixKind P w) l (tb.map λ p => (Sum.inl p.1, Value.ref p.2)) := by
   intro l tb r
   induction r with
   | nil => exact .nil
   | cons a b ih => exact .cons a.1 a.2.2 ih
  exact this hp
 ·rw [List.map_map]
  have := d.nd
  rw [List.Nodup, List.pairwise_map] at this ⊢
  exact this.imp λ {a b} q z => q (Sum.inl.inj z)
theorem value_at {tb : List (Int × Addr)} (nd : (tb.map (·.1)).Nodup) {n : Int} {a : Addr} (h : (n, a) ∈ tb) : valueAt (tb.map λ p => ((Sum.inl p.1 : Key), Value.ref p.2)) (Sum.inl n) = some (Value.ref a) := by
 induction tb with
 | nil => cases h
 | cons p r ih =>
  rw [List.map_cons] at nd
  obtain ⟨n1, n2⟩ := List.nodup_cons.mp nd
  unfold valueAt
  rw [List.map_cons, List.find?_cons]
  by_cases e : p.1 = n
  ·rcases List.mem_cons.mp h with q | q
   ·rw [<- q]
    simp
   ·exact absurd (List.mem_map.mpr ⟨_, q, e.symm⟩) n1
  ·have e2 : ¬ (Sum.inl p.1 : Key) = Sum.inl n := λ z => e (Sum.inl.inj z)
   rcases List.mem_cons.mp h with q | q
   ·rw [<- q] at e
    exact absurd rfl e
   ·rw [decide_eq_false e2]
    exact ih n2 q
def tKGet (K : PySem.W.Frag) (tn ty : TE) : TE := λ σ H Q => tn σ H λ x H1 => ty σ H1 λ y H2 => ∃ (D : Addr) (tb : List (Int × Addr)) (n : Int) (a : Addr), x = .ref D /\ KDict K D tb /\ y = .int n /\ (n, a) ∈ tb /\ Q (.ref a) H2
theorem pe_kget {o i : Expr} {pos : Pos} {tn ty : TE} (ho : PE X o tn) (hi : PE X i ty) (hs : NoSl i) : PE X (.Subscript o i pos) (tKGet X.K tn ty) := by
 intro pins s σ H Q I h
 refine subD_of PySem.F.slot_dict_getitem.lookup hs (thn (ho pins s σ H _ I h) λ u s1 ⟨x, H1, I1, rx, q1⟩ => thn (hi pins s1 σ H1 _ I1 q1) λ iv s2 ⟨y, H2, I2, ry, D, tb, n, a, ex, kd, ey, hm, q2⟩ => ?_)
 subst ex ey
 obtain rfl : u = Value.ref D := rx
 have dd := KDict.get (P := X.prog) (w := X.w) kd I2.kIn
 refine ⟨?_, ?_⟩
 ·obtain ⟨o', es, ep, h1, h2, _⟩ := dd
  exact ⟨o', h1, h2.1⟩
 ·exact wpAny_getItem_of (knd := mixKind X.prog X.w) (k := Sum.inl n) (kV_is (k := Sum.inl n) ry) dd.mapOf (value_at kd.nd hm) ⟨.ref a, H2, I2.tok _, rfl, q2⟩
theorem pe_gref {x : Str} {f : Addr} {pos : Pos} (h : X.mg x = some (.ref f)) (hg : Gl X x) (hd : (x == ("__debug__" : Str)) = false := by decide) : PE X (.Name x pos) (tC (.ref f)) := pe_glob hg h rfl hd
theorem ext_tup (l : Addr) (its : Array Value) (n : Nat) (b : Addr) (its2 : Array Value) (n2 : Nat) (dd : Option Addr) (sl : Array (Option Value)) (h0 : ¬ (!its.isEmpty && Builtin.List.listTooLong (its.size + its2.size)) = true) (h1 : its.size <= sizeLine) (h2 : its.size + its2.size <= sizeLine + 1) :
  Meets (Builtin.«list.extend» ⟨[.ref l, .ref b], []⟩) (λ _ R s => s.heap.get? l = some { cls := .type "list", dict := none, data := .seq its n, slots := #[] } /\ s.heap.get? b = some { cls := .type "tuple", dict := dd, data := .seq its2 n2, slots := sl } /\
   R (.ok (.ret Value.none)) { s with heap := s.heap.update l (Obj.mapSeq λ x => x ++ its2), toks := s.toks }) :=
 .of_wp λ prog w A R s h => by
  obtain ⟨hp, g, d, tk, os⟩ := s
  obtain ⟨hl, hb, h⟩ := h
  have f1 := AutoSeq1.idx_int
  have f2 := AutoSeq1.sub_tuple_tuple
  have f3 := AutoSeq1.sub_list_list
  have f4 := AutoSeq1.sub_tuple_list
  have f5 := AutoSeq1.sub_list_tuple
  have hz' : (its ++ its2).size <= sizeLine + 1 := by rw [Array.size_append]; exact h2
  wp_walk using (wpAny_updateSeq hl rfl (hz := h1) (_hz' := hz')), wpAny_loadPart' hl, wpAny_loadPart' hb
  exact ⟨_, rfl, h⟩
def rExtendT (K : PySem.W.Frag) : V -> List V -> Hp -> VK -> Prop := λ x vs H Q => ∃ l b xs zs, x = .ref l /\ vs = [.ref b] /\ H l = some (.lst xs) /\ SqT K H b zs /\ xs.length + zs.length <= sizeLine /\ Q .non (upd H l (.lst (xs ++ zs)))
theorem mt_extendT : MtM X "list.extend" (rExtendT X.K) := by
 intro pins s σ H x vs v us Q I rx rv h
 obtain ⟨l, b, xs, zs, rfl, rfl, hH, hB, hz, q⟩ := h
 cases rx
 obtain ⟨u, rfl, ru⟩ := rv.one
 cases ru
 obtain ⟨z, its, n, r, hl, e⟩ := I.lstM hH
 obtain ⟨its2, r2, ⟨o2, e2, hc2, n2, hd2⟩, z2⟩ := I.tuple hB
 have hl2 := r2.length
 obtain ⟨oc, od, odt, osl⟩ := o2
 dsimp only at hc2 hd2
 subst hc2 hd2
 have hsz : its.toArray.size + its2.toArray.size <= sizeLine := by rw [List.size_toArray, List.size_toArray]; omega
 have hlong : ¬ (!its.toArray.isEmpty && Builtin.List.listTooLong (its.toArray.size + its2.toArray.size)) = true := by
  rw [notLongL hsz, Bool.and_false]
  exact Bool.false_ne_true
 refine call_meets F.slot_list_extend ⟨_, e, rfl⟩ F.entry_list_extend (F.args_list_extend_2 _ _) (ext_tup l its.toArray n b its2.toArray n2 od osl hlong (by rw [List.size_toArray]; omega) (by omega)) ⟨e, e2, ?_⟩
 refine ⟨.non, _, I.lset (its' := its ++ its2) hH e (by simp) (r.append r2) ?_, rfl, q⟩
 rw [lna]
 omega
end
theorem for_enum {K : PySem.W.Frag} {a : Addr} {xs : List V} {g : TG} {tb : TS} {D : Ends} {σ : L2.St} {H : Hp} (Pv : Nat -> L2.St -> Hp -> Prop) (h0 : Pv 0 σ H) (hl : ∀ i σ H, i <= xs.length -> Pv i σ H -> SqL K H a xs)
  (hs : ∀ (i : Nat) (x : V) (σ : L2.St) (H : Hp) (T : Addr), xs[i]? = some x -> Pv i σ H -> H T = none -> g (.ref T) σ (upd H T (.tup [.int i, x])) λ σ2 H2 => tb { D with nx := Pv (i + 1), ct := Pv (i + 1), bk := D.nx } σ2 H2) (hd : ∀ σ H, Pv xs.length σ H -> D.nx σ H) :
  ∃ W : Nat -> Nat -> L2.St -> Hp -> Prop, (∃ m, W 0 m σ H) /\ ∀ i m σ H, W i m σ H ->
   ((Ite K a).stop i H /\ D.nx σ H) ∨ ((Ite K a).go i H /\ ∃ N : L2.St -> Hp -> Prop, (∀ σ' H', N σ' H' -> ∃ m', m' < m /\ W (i + 1) m' σ' H') /\ ∀ x H', (Ite K a).yld i H x H' -> g x σ H' λ σ2 H2 => tb { D with nx := N, ct := N, bk := D.nx } σ2 H2) := by
 refine ⟨λ i m σ H => m = xs.length - i /\ i <= xs.length /\ Pv i σ H, ⟨xs.length, by simp, Nat.zero_le _, h0⟩, ?_⟩
 rintro i m σ H ⟨rfl, hi, p⟩
 have q := hl i σ H hi p
 by_cases hlt : i < xs.length
 ·refine .inr ⟨⟨xs, xs[i], q, by simp [hlt]⟩, Pv (i + 1), λ σ' H' p' => ⟨xs.length - (i + 1), by omega, rfl, hlt, p'⟩, λ x H' y => ?_⟩
  obtain ⟨T, z, rfl, hT, rfl, y⟩ := y
  exact hs i z σ H T (y xs q) p hT
 ·have e : i = xs.length := by omega
  subst e
  exact .inl ⟨⟨xs, q, Nat.le_refl _⟩, hd σ H p⟩
theorem for_zip {K : PySem.W.Frag} {a b : Addr} {xs ys : List V} {g : TG} {tb : TS} {D : Ends} {σ : L2.St} {H : Hp} (Pv : Nat -> L2.St -> Hp -> Prop) (h0 : Pv 0 σ H) (hl : ∀ i σ H, Pv i σ H -> SqL K H a xs /\ SqL K H b ys)
  (hs : ∀ (i : Nat) (x y : V) (σ : L2.St) (H : Hp) (T : Addr), xs[i]? = some x -> ys[i]? = some y -> Pv i σ H -> H T = none -> g (.ref T) σ (upd H T (.tup [x, y])) λ σ2 H2 => tb { D with nx := Pv (i + 1), ct := Pv (i + 1), bk := D.nx } σ2 H2) (hd : ∀ σ H, Pv (min xs.length ys.length) σ H -> D.nx σ H) :
  ∃ W : Nat -> Nat -> L2.St -> Hp -> Prop, (∃ m, W 0 m σ H) /\ ∀ i m σ H, W i m σ H ->
   ((Itz K a b).stop i H /\ D.nx σ H) ∨ ((Itz K a b).go i H /\ ∃ N : L2.St -> Hp -> Prop, (∀ σ' H', N σ' H' -> ∃ m', m' < m /\ W (i + 1) m' σ' H') /\ ∀ x H', (Itz K a b).yld i H x H' -> g x σ H' λ σ2 H2 => tb { D with nx := N, ct := N, bk := D.nx } σ2 H2) := by
 refine ⟨λ i m σ H => m = min xs.length ys.length - i /\ i <= min xs.length ys.length /\ Pv i σ H, ⟨min xs.length ys.length, by simp, Nat.zero_le _, h0⟩, ?_⟩
 rintro i m σ H ⟨rfl, hi, p⟩
 obtain ⟨q1, q2⟩ := hl i σ H p
 by_cases hlt : i < min xs.length ys.length
 ·have l1 : i < xs.length := by omega
  have l2 : i < ys.length := by omega
  refine .inr ⟨⟨xs, ys, xs[i], ys[i], q1, q2, by simp [l1], by simp [l2]⟩, Pv (i + 1), λ σ' H' p' => ⟨min xs.length ys.length - (i + 1), by omega, rfl, hlt, p'⟩, λ x H' y => ?_⟩
  obtain ⟨T, z, z', rfl, hT, rfl, y1, y2⟩ := y
  exact hs i z z' σ H T (y1 xs q1) (y2 ys q2) p hT
 ·have e : i = min xs.length ys.length := by omega
  subst e
  exact .inl ⟨⟨xs, ys, q1, q2, by omega⟩, hd σ H p⟩
theorem lc_zip {K : PySem.W.Frag} {a b : Addr} {xs ys : List V} {g : TG} {tt : TT} {te : TE} {vs : List Nat} {σ : L2.St} {H1 : Hp} {D : Addr} {Qd : Hp -> Prop} (Pv : Nat -> Hp -> Prop) (h0 : Pv 0 (upd H1 D (.lst []))) (hl : ∀ i H, Pv i H -> SqL K H a xs /\ SqL K H b ys)
  (hs : ∀ (i : Nat) (x y : V) (H : Hp) (T : Addr), xs[i]? = some x -> ys[i]? = some y -> Pv i H -> H T = none -> g (.ref T) (wipe σ vs) (upd H T (.tup [x, y])) λ σ2 H2 => wipe σ2 vs = wipe σ vs /\ tt σ2 H2 λ b H3 =>
   if b = true then te σ2 H3 λ y H4 => ∃ acc, H4 D = some (.lst acc) /\ acc.length < sizeLine /\ Pv (i + 1) (upd H4 D (.lst (acc ++ [y]))) else Pv (i + 1) H3) (hd : ∀ H, Pv (min xs.length ys.length) H -> Qd H) :
  ∃ W : Nat -> Nat -> Hp -> Prop, (∃ m, W 0 m (upd H1 D (.lst []))) /\ ∀ i m H, W i m H ->
   ((Itz K a b).stop i H /\ Qd H) ∨ ((Itz K a b).go i H /\ ∃ Nx : Hp -> Prop, (∀ H', Nx H' -> ∃ m', m' < m /\ W (i + 1) m' H') /\ ∀ x H', (Itz K a b).yld i H x H' -> g x (wipe σ vs) H' λ σ2 H2 => wipe σ2 vs = wipe σ vs /\ tt σ2 H2 λ b H3 =>
    if b = true then te σ2 H3 λ y H4 => ∃ acc, H4 D = some (.lst acc) /\ acc.length < sizeLine /\ Nx (upd H4 D (.lst (acc ++ [y]))) else Nx H3) := by
 refine ⟨λ i m H => m = min xs.length ys.length - i /\ i <= min xs.length ys.length /\ Pv i H, ⟨min xs.length ys.length, by simp, Nat.zero_le _, h0⟩, ?_⟩
 rintro i m H ⟨rfl, hi, p⟩
 obtain ⟨q1, q2⟩ := hl i H p
 by_cases hlt : i < min xs.length ys.length
 ·have l1 : i < xs.length := by omega
  have l2 : i < ys.length := by omega
  refine .inr ⟨⟨xs, ys, xs[i], ys[i], q1, q2, by simp [l1], by simp [l2]⟩, Pv (i + 1), λ H' p' => ⟨min xs.length ys.length - (i + 1), by omega, rfl, hlt, p'⟩, λ x H' y => ?_⟩
  obtain ⟨T, z, z', rfl, hT, rfl, y1, y2⟩ := y
  exact hs i z z' H T (y1 xs q1) (y2 ys q2) p hT
 ·have e : i = min xs.length ys.length := by omega
  subst e
  exact .inl ⟨⟨xs, ys, q1, q2, by omega⟩, hd H p⟩
theorem lc_rev {K : PySem.W.Frag} {a : Addr} {xs : List V} {g : TG} {tt : TT} {te : TE} {vs : List Nat} {σ : L2.St} {H1 : Hp} {D : Addr} {Qd : Hp -> Prop} (Pv : Nat -> Hp -> Prop) (h0 : Pv 0 (upd H1 D (.lst []))) (hl : ∀ i H, i <= xs.length -> Pv i H -> SqL K H a xs)
  (hs : ∀ (i : Nat) (x : V) (H : Hp), i < xs.length -> xs[xs.length - 1 - i]? = some x -> Pv i H -> g x (wipe σ vs) H λ σ2 H2 => wipe σ2 vs = wipe σ vs /\ tt σ2 H2 λ b H3 =>
   if b = true then te σ2 H3 λ y H4 => ∃ acc, H4 D = some (.lst acc) /\ acc.length < sizeLine /\ Pv (i + 1) (upd H4 D (.lst (acc ++ [y]))) else Pv (i + 1) H3) (hd : ∀ H, Pv xs.length H -> Qd H) :
  ∃ W : Nat -> Nat -> Hp -> Prop, (∃ m, W 0 m (upd H1 D (.lst []))) /\ ∀ i m H, W i m H ->
   ((Itv K a xs.length).stop i H /\ Qd H) ∨ ((Itv K a xs.length).go i H /\ ∃ Nx : Hp -> Prop, (∀ H', Nx H' -> ∃ m', m' < m /\ W (i + 1) m' H') /\ ∀ x H', (Itv K a xs.length).yld i H x H' -> g x (wipe σ vs) H' λ σ2 H2 => wipe σ2 vs = wipe σ vs /\ tt σ2 H2 λ b H3 =>
    if b = true then te σ2 H3 λ y H4 => ∃ acc, H4 D = some (.lst acc) /\ acc.length < sizeLine /\ Nx (upd H4 D (.lst (acc ++ [y]))) else Nx H3) := by
 refine ⟨λ i m H => m = xs.length - i /\ i <= xs.length /\ Pv i H, ⟨xs.length, by simp, Nat.zero_le _, h0⟩, ?_⟩
 rintro i m H ⟨rfl, hi, p⟩
 have q := hl i H hi p
 by_cases hlt : i < xs.length
 ·refine .inr ⟨⟨hlt, xs, xs[xs.length - 1 - i], q, List.getElem?_eq_getElem _⟩, Pv (i + 1), λ H' p' => ⟨xs.length - (i + 1), by omega, rfl, hlt, p'⟩, λ x H' y => ?_⟩
  obtain ⟨rfl, y⟩ := y
  exact hs i x _ hlt (y xs q) p
 ·have e : i = xs.length := by omega
  subst e
  exact .inl ⟨Nat.le_refl _, hd H p⟩
theorem lc_rangeC {lo c : Int} {n : Nat} {g : TG} {tt : TT} {te : TE} {vs : List Nat} {σ : L2.St} {H1 : Hp} {D : Addr} {Qd : Hp -> Prop} (Pv : Nat -> Hp -> Prop) (h0 : Pv 0 (upd H1 D (.lst [])))
  (hs : ∀ (i : Nat) (H : Hp), i < n -> Pv i H -> g (.int (lo + (i : Nat) * c)) (wipe σ vs) H λ σ2 H2 => wipe σ2 vs = wipe σ vs /\ tt σ2 H2 λ b H3 =>
   if b = true then te σ2 H3 λ y H4 => ∃ acc, H4 D = some (.lst acc) /\ acc.length < sizeLine /\ Pv (i + 1) (upd H4 D (.lst (acc ++ [y]))) else Pv (i + 1) H3) (hd : ∀ H, Pv n H -> Qd H) :
  ∃ W : Nat -> Nat -> Hp -> Prop, (∃ m, W 0 m (upd H1 D (.lst []))) /\ ∀ i m H, W i m H ->
   ((Itc lo c n).stop i H /\ Qd H) ∨ ((Itc lo c n).go i H /\ ∃ Nx : Hp -> Prop, (∀ H', Nx H' -> ∃ m', m' < m /\ W (i + 1) m' H') /\ ∀ x H', (Itc lo c n).yld i H x H' -> g x (wipe σ vs) H' λ σ2 H2 => wipe σ2 vs = wipe σ vs /\ tt σ2 H2 λ b H3 =>
    if b = true then te σ2 H3 λ y H4 => ∃ acc, H4 D = some (.lst acc) /\ acc.length < sizeLine /\ Nx (upd H4 D (.lst (acc ++ [y]))) else Nx H3) := by
 refine ⟨λ i m H => m = n - i /\ i <= n /\ Pv i H, ⟨n, by simp, Nat.zero_le _, h0⟩, ?_⟩
 rintro i m H ⟨rfl, hi, p⟩
 by_cases hlt : i < n
 ·refine .inr ⟨hlt, Pv (i + 1), λ H' p' => ⟨n - (i + 1), by omega, rfl, hlt, p'⟩, λ x H' y => ?_⟩
  obtain ⟨rfl, rfl⟩ := y
  exact hs i _ hlt p
 ·have e : i = n := by omega
  subst e
  exact .inl ⟨Nat.le_refl _, hd H p⟩
end Pc
end
section
namespace Pc
open PySem PySem.Spec PyProof.Rows L2
open Vbpcao (State)
theorem same_new {H : Hp} {a : Addr} {o : HO} (h : H a = Option.none) : Same H (upd H a o) := λ b ob e => by
 rw [upd_ne (ne_of_none e h)]; exact e
theorem same_upd {H H' : Hp} {a : Addr} {o : HO} (s : Same H H') (h : H a = Option.none) : Same H (upd H' a o) := λ b ob e => by
 rw [upd_ne (ne_of_none e h)]; exact s b ob e
theorem take_one {α : Type} {l : List α} {i : Nat} {x : α} (h : l[i]? = some x) : l.take (i + 1) = l.take i ++ [x] := by
 rw [List.take_add_one, h]
 rfl
theorem lc_rangeV {lo : Int} {n : Nat} {g : TG} {tt : TT} {te : TE} {vs : List Nat} {σ : L2.St} {H1 : Hp} {D : Addr} {Qd : Hp -> Prop} (f : Nat -> V) (hD : H1 D = Option.none) (hn : n <= 1000000)
  (hs : ∀ (i : Nat) (H' : Hp) (R : VK) (N : Hp -> Prop), i < n -> Same H1 H' -> R (f i) H' -> g (.int (lo + i)) (wipe σ vs) H' λ σ2 H2 => wipe σ2 vs = wipe σ vs /\ tt σ2 H2 λ b H3 => if b = true then te σ2 H3 R else N H3)
  (hd : ∀ H', Same H1 H' -> H' D = some (.lst ((List.range n).map f)) -> Qd H') :
  ∃ W : Nat -> Nat -> Hp -> Prop, (∃ m, W 0 m (upd H1 D (.lst []))) /\ ∀ i m H, W i m H ->
   ((Itr lo n).stop i H /\ Qd H) ∨ ((Itr lo n).go i H /\ ∃ Nx : Hp -> Prop, (∀ H', Nx H' -> ∃ m', m' < m /\ W (i + 1) m' H') /\ ∀ x H', (Itr lo n).yld i H x H' -> g x (wipe σ vs) H' λ σ2 H2 => wipe σ2 vs = wipe σ vs /\ tt σ2 H2 λ b H3 =>
    if b = true then te σ2 H3 λ y H4 => ∃ acc, H4 D = some (.lst acc) /\ acc.length < sizeLine /\ Nx (upd H4 D (.lst (acc ++ [y]))) else Nx H3) := by
 refine lc_range (λ i H' => Same H1 H' /\ H' D = some (.lst (((List.range n).map f).take i))) ⟨same_new hD, upd_same⟩ (λ i H' hi ⟨s1, h1⟩ => ?_) (λ H' ⟨s1, h1⟩ => ?_)
 ·refine hs i H' _ _ hi s1 ⟨_, h1, ?_, same_upd s1 hD, ?_⟩
  ·rw [lnt, lnm, lnr, sizeLine_eq]
   omega
  ·rw [upd_same, take_one (x := f i)]
   rw [gem, List.getElem?_range hi]
   rfl
 ·refine hd H' s1 ?_
  rw [h1, List.take_of_length_le]
  rw [lnm, lnr]
  exact Nat.le_refl _
theorem filter_take {α : Type} {p : α -> Bool} {l : List α} {i : Nat} {x : α} (h : l[i]? = some x) : (l.take (i + 1)).filter p = if p x = true then (l.take i).filter p ++ [x] else (l.take i).filter p := by
 rw [take_one h, List.filter_append]
 by_cases e : p x = true
 ·rw [if_pos e, List.filter_cons, if_pos e]; rfl
 ·rw [if_neg e, List.filter_cons, if_neg e]; simp
theorem lc_listV {K : PySem.W.Frag} {a : Addr} {xs : List V} {g : TG} {tt : TT} {te : TE} {vs : List Nat} {σ : L2.St} {H1 : Hp} {D : Addr} {Qd : Hp -> Prop} (p : V -> Bool) (f : V -> V) (hl : SqL K H1 a xs) (hD : H1 D = Option.none) (hn : xs.length <= 1000000)
  (hs : ∀ (i : Nat) (x : V) (H' : Hp) (R : VK) (N : Hp -> Prop), xs[i]? = some x -> Same H1 H' -> (p x = true -> R (f x) H') -> (p x = false -> N H') -> g x (wipe σ vs) H' λ σ2 H2 => wipe σ2 vs = wipe σ vs /\ tt σ2 H2 λ b H3 => if b = true then te σ2 H3 R else N H3)
  (hd : ∀ H', Same H1 H' -> H' D = some (.lst ((xs.filter p).map f)) -> Qd H') :
  ∃ W : Nat -> Nat -> Hp -> Prop, (∃ m, W 0 m (upd H1 D (.lst []))) /\ ∀ i m H, W i m H ->
   ((Itl K a).stop i H /\ Qd H) ∨ ((Itl K a).go i H /\ ∃ Nx : Hp -> Prop, (∀ H', Nx H' -> ∃ m', m' < m /\ W (i + 1) m' H') /\ ∀ x H', (Itl K a).yld i H x H' -> g x (wipe σ vs) H' λ σ2 H2 => wipe σ2 vs = wipe σ vs /\ tt σ2 H2 λ b H3 =>
    if b = true then te σ2 H3 λ y H4 => ∃ acc, H4 D = some (.lst acc) /\ acc.length < sizeLine /\ Nx (upd H4 D (.lst (acc ++ [y]))) else Nx H3) := by
 refine lc_list (K := K) (xs := xs) (λ i H' => Same H1 H' /\ H' D = some (.lst (((xs.take i).filter p).map f))) ⟨same_new hD, upd_same⟩ (λ i H' _ ⟨s1, _⟩ => s1.seq hl) (λ i x H' hx ⟨s1, h1⟩ => ?_) (λ H' ⟨s1, h1⟩ => ?_)
 ·refine hs i x H' _ _ hx s1 (λ e => ⟨_, h1, ?_, same_upd s1 hD, ?_⟩) (λ e => ⟨s1, ?_⟩)
  ·have := List.length_filter_le p (xs.take i)
   have := List.length_take_le i xs
   have := List.length_take_le' i xs
   rw [lnm, sizeLine_eq]
   omega
  ·rw [upd_same, filter_take hx, if_pos e, List.map_append]
   rfl
  ·rw [h1, filter_take hx, if_neg (by rw [e]; exact Bool.false_ne_true)]
 ·refine hd H' s1 ?_
  rw [h1, List.take_of_length_le (Nat.le_refl _)]
def MDef (K : PySem.W.Frag) (C : Addr) (m qual : Str) (st : Stmt) : Prop := ∃ f fd, Meth K C m f /\ Fun K m qual st f fd
def MCal (P : Program) (w : World) (K : PySem.W.Frag) (mg : Str -> Option Value) (base : Heap) (C : Addr) (m : Str) (ps : List Str) (k : Nat) (sp : Sp) : Prop :=
 ∃ f fd, Meth K C m f /\ Binds K fd ps [] /\ FnOk P w K mg base CX0 k f fd ps sp
def IDef (K : PySem.W.Frag) (C : Addr) (qual : Str) (st : Stmt) : Prop := ∃ f fd, Mk K C f /\ Fun K "__init__" qual st f fd
def ICal (P : Program) (w : World) (K : PySem.W.Frag) (mg : Str -> Option Value) (base : Heap) (C : Addr) (ps : List Str) (k : Nat) (sp : Sp) : Prop :=
 ∃ f fd, Mk K C f /\ Binds K fd ps [] /\ FnOk P w K mg base CX0 k f fd ps sp
section
variable {P : Program} {w : World} {K : PySem.W.Frag} {mg : Str -> Option Value} {base : Heap}
theorem MDef.cal {C : Addr} {m qual : Str} {st : Stmt} {N ps : List Str} {k : Nat} {sp : Sp} (D : MDef K C m qual st) (S : FnScope N ps (defScope st))
  (hb : ∀ (kV doc pm : Value) (an : Option Addr) (cdv ct : Value) (us : List Value), us.length = ps.length -> bindArgs (PySem.W.fnOf m qual (defArgs st) (defBody st) (defScope st) .none kV doc pm an cdv ct) ⟨us, []⟩ = pure (ps.zip us))
  (len : ∀ vs H Q E, sp vs H Q E -> vs.length = ps.length)
  (hbody : ∀ (f : Addr) (cdv : Value) (A : Around) (outer : List Env) (s : Shared) (H : Hp) (vs : List V) (Q : VK) (E : XK), Room k (A.deeper (envOfC qual (defScope st) s.heap.objs.size f cdv)) -> sp vs H Q E ->
   ∃ t, PSs (cxOf CX0 P w K mg base N qual (defScope st) f cdv A outer s H E).nox (defBody st) t /\ t { nx := λ _ H' => Q .non H', rt := Q } (start N vs) H) : MCal P w K mg base C m ps (k + 1) sp := by
 obtain ⟨f, fd, hm, F⟩ := D
 exact ⟨f, fd, hm, F.binds hb, F.ok S len (hbody f)⟩
theorem IDef.cal {C : Addr} {qual : Str} {st : Stmt} {N ps : List Str} {k : Nat} {sp : Sp} (D : IDef K C qual st) (S : FnScope N ps (defScope st))
  (hb : ∀ (kV doc pm : Value) (an : Option Addr) (cdv ct : Value) (us : List Value), us.length = ps.length -> bindArgs (PySem.W.fnOf "__init__" qual (defArgs st) (defBody st) (defScope st) .none kV doc pm an cdv ct) ⟨us, []⟩ = pure (ps.zip us))
  (len : ∀ vs H Q E, sp vs H Q E -> vs.length = ps.length)
  (hbody : ∀ (f : Addr) (cdv : Value) (A : Around) (outer : List Env) (s : Shared) (H : Hp) (vs : List V) (Q : VK) (E : XK), Room k (A.deeper (envOfC qual (defScope st) s.heap.objs.size f cdv)) -> sp vs H Q E ->
   ∃ t, PSs (cxOf CX0 P w K mg base N qual (defScope st) f cdv A outer s H E).nox (defBody st) t /\ t { nx := λ _ H' => Q .non H', rt := Q } (start N vs) H) : ICal P w K mg base C ps (k + 1) sp := by
 obtain ⟨f, fd, hm, F⟩ := D
 exact ⟨f, fd, hm, F.binds hb, F.ok S len (hbody f)⟩
end
section
variable {X : Cx}
theorem pe_met0 {C : Addr} {m : Str} {ps : List Str} {k : Nat} {sp : Sp} {o : Expr} {to : TE} {apos pos : Pos} {pl : Sem Bool} (c : MCal X.prog X.w X.K X.mg X.base C m ps k sp) (cl : Cls X.K C) (hr : Room k X.A) (ho : PE X o to)
  (ht : eval (.Call (.Attribute o m apos) [] [] pos) X.env = (do
   let ov <- eval o X.env
   standAt apos.atName
   let (f, first) <- holding [ov] (getMethod ov m pl)
   callWith pos f first (backTo pos (starEach [] X.env)) (backToKw pos (keywordEach [] X.env))) := by rfl) :
  PE X (.Call (.Attribute o m apos) [] [] pos) (tMeth C m sp [] E0 to tNil) := by
 obtain ⟨f, fd, hm, hb, F⟩ := c
 exact pe_meth0 (pl := pl) ho cl hm F hr hb .nil pass0 ht
theorem pe_mk0 {C : Addr} {x : Str} {ps : List Str} {k : Nat} {sp : Sp} {p pos : Pos} (c : ICal X.prog X.w X.K X.mg X.base C ps k sp) (hr : Room (k + 1) X.A) (hg : Gl X x) (hm : X.mg x = some (.ref C)) (hdb : (x == ("__debug__" : Str)) = false := by decide) :
  PE X (.Call (.Name x p) [] [] pos) (tMake C sp [] E0 tNil) := by
 obtain ⟨f, fd, M, hb, F⟩ := c
 exact pe_make0 M F hr hg hm hb .nil pass0 hdb
theorem pe_mk {C : Addr} {x : Str} {ps : List Str} {k : Nat} {sp : Sp} {e : Expr} {es : List Expr} {t : TA} {p pos : Pos} (c : ICal X.prog X.w X.K X.mg X.base C ps k sp) (hr : Room (k + 1) X.A) (hg : Gl X x) (hm : X.mg x = some (.ref C)) (ha : PA X (e :: es) t)
  (hdb : (x == ("__debug__" : Str)) = false := by decide) (he : starEach (e :: es) X.env = (false, eval e X.env) :: starEach es X.env := by rfl) (hpl : (backTo pos (starEach es X.env)).any (·.1) = false := by rfl) :
  PE X (.Call (.Name x p) (e :: es) [] pos) (tMake C sp [] E0 t) := by
 obtain ⟨f, fd, M, hb, F⟩ := c
 exact pe_make M F hr hg hm hb .nil pass0 ha hdb he hpl
end
theorem boot_set : bootBuiltins "set" = some (.type "set") := by decide +kernel
section
variable {X : Cx}
theorem ix_listK {K : PySem.W.Frag} (h : X.K = K) : IxR X (rIxL K) := h ▸ ix_list
theorem pg_tupK {K : PySem.W.Frag} {es : List Expr} {k : Nat} {pos : Pos} {t : TGs} {n : Nat} (h : X.K = K) (g : PG X (.Tuple es k pos) (gTup X.K n t)) : PG X (.Tuple es k pos) (gTup K n t) := h ▸ g
end
end Pc
end
section
namespace Pc
open PySem PySem.Spec PyProof.Rows L2
open Vbpcao (State)
variable {P : Program} {w : World} {K : PySem.W.Frag} {mg : Str -> Option Value} {base : Heap}
abbrev s_read_wires : Stmt := top 1
abbrev s_what_is_wrong : Stmt := top 2
abbrev s_joins : Stmt := top 3
abbrev s_is_straight : Stmt := top 4
abbrev s_keeps_to_tracks : Stmt := top 5
abbrev s_first_meeting : Stmt := top 6
abbrev s_all_corners : Stmt := top 7
abbrev s_ranks : Stmt := top 8
abbrev s_hold_places : Stmt := top 9
abbrev s_narrow_net : Stmt := top 11
abbrev s_least_width : Stmt := top 12
abbrev s_shift_bounds : Stmt := top 13
abbrev s_some_shift_does : Stmt := top 14
abbrev s_room_bounds : Stmt := top 15
abbrev s_wire_corners : Stmt := top 16
abbrev s_rising_corners : Stmt := top 17
abbrev s_count_alike : Stmt := top 18
abbrev s_all_wires : Stmt := top 19
abbrev s_pieces_along : Stmt := top 20
abbrev s_has_point : Stmt := top 21
abbrev s_is_between : Stmt := top 22
abbrev s_Reader___init__ : Stmt := inClass (top 24) 0
abbrev s_Reader_has_more : Stmt := inClass (top 24) 1
abbrev s_Reader_read_number : Stmt := inClass (top 24) 2
abbrev s_Reader_read_row : Stmt := inClass (top 24) 3
abbrev s_Desk___init__ : Stmt := inClass (top 34) 0
abbrev s_is_pin : Stmt := top 35
abbrev s_is_width : Stmt := top 36
abbrev s_has_net : Stmt := top 37
abbrev s_rises_strictly : Stmt := top 38
abbrev s_is_pin_row : Stmt := top 39
abbrev s_pins : Stmt := top 40
abbrev s_add : Stmt := top 41
abbrev s_away : Stmt := top 42
abbrev s_list_nets : Stmt := top 43
abbrev s_least : Stmt := top 44
abbrev s_fits : Stmt := top 45
abbrev s_range_of : Stmt := top 46
abbrev s_best : Stmt := top 47
abbrev s_shift : Stmt := top 48
abbrev s_width_refusal : Stmt := top 49
abbrev s_wire : Stmt := top 50
abbrev s_told_wire : Stmt := top 51
abbrev s_route : Stmt := top 52
abbrev s_length : Stmt := top 53
abbrev s_track : Stmt := top 54
abbrev s_at : Stmt := top 55
abbrev s_check : Stmt := top 56
abbrev s_room : Stmt := top 57
abbrev s_move : Stmt := top 58
abbrev s_turn : Stmt := top 59
abbrev s_mirror : Stmt := top 60
abbrev s_answer_call : Stmt := top 62
abbrev s_answers : Stmt := top 63
def LI (H : Hp) (a : Addr) (ns : List Int) : Prop := H a = some (.lst (ns.map V.int))
theorem LI.same {H H' : Hp} {a : Addr} {ns : List Int} (h : LI H a ns) (s : Same H H') : LI H' a ns := s _ _ h
theorem ints_at {ns : List Int} {i : Nat} {z : Int} (h : ns[i]? = some z) : (ns.map V.int)[i]? = some (V.int z) := by rw [gem, h]; rfl
theorem lo_at {s : State} {i : Nat} (h : i < s.length) : ((lows s).map V.int)[i]? = some (V.int (bAt s i)) := ints_at (lows_at h)
theorem up_at {s : State} {i : Nat} (h : i < s.length) : ((ups s).map V.int)[i]? = some (V.int (aAt s i)) := ints_at (ups_at h)
def deskF (l u : Addr) : List (Str × V) := putF "upper_pins" (.ref u) (putF "lower_pins" (.ref l) [])
theorem deskF_lo (l u : Addr) : (deskF l u).lookup ("lower_pins" : Str) = some (.ref l) := by
 unfold deskF
 rw [lookup_putF, if_neg (by decide +kernel), lookup_putF, if_pos rfl]
theorem deskF_up (l u : Addr) : (deskF l u).lookup ("upper_pins" : Str) = some (.ref u) := by
 unfold deskF
 rw [lookup_putF, if_pos rfl]
theorem deskF_put_lo (l u l' : Addr) : putF "lower_pins" (.ref l') (deskF l u) = deskF l' u := by rfl
theorem deskF_put_up (l u u' : Addr) : putF "upper_pins" (.ref u') (deskF l u) = deskF l u' := by rfl
structure DeskAt (C : Addr) (H : Hp) (d l u : Addr) (s : State) : Prop where
 obj : ∃ dx, H d = some (.ins C dx (deskF l u))
 lo : LI H l (lows s)
 up : LI H u (ups s)
 ne : l ≠ u
theorem DeskAt.same {C : Addr} {H H' : Hp} {d l u : Addr} {s : State} (D : DeskAt C H d l u s) (e : Same H H') : DeskAt C H' d l u s :=
 ⟨let ⟨dx, h⟩ := D.obj; ⟨dx, e _ _ h⟩, D.lo.same e, D.up.same e, D.ne⟩
structure Txt (mg : Str -> Option Value) : Prop where
 len : mg "len" = none
 range : mg "range" = none
 zip : mg "zip" = none
 all : mg "all" = none
 max : mg "max" = none
 min : mg "min" = none
 sorted : mg "sorted" = none
 set : mg "set" = none
 reversed : mg "reversed" = none
 enumerate : mg "enumerate" = none
 abs : mg "abs" = none
 sum : mg "sum" = none
 GREATEST_PIN : ∃ t, mg "GREATEST_PIN" = some (.int 1000000000 t)
 MOST_NETS : ∃ t, mg "MOST_NETS" = some (.int 64 t)
 MOST_TRACKS : ∃ t, mg "MOST_TRACKS" = some (.int 1000 t)
 NO_SUCH_NET : ∃ t, mg "NO_SUCH_NET" = some (.int (-1) t)
 OUT_OF_RANGE : ∃ t, mg "OUT_OF_RANGE" = some (.int (-2) t)
 BAD_ROWS : ∃ t, mg "BAD_ROWS" = some (.int (-3) t)
 TOO_MANY_NETS : ∃ t, mg "TOO_MANY_NETS" = some (.int (-4) t)
 TOO_NARROW : ∃ t, mg "TOO_NARROW" = some (.int (-5) t)
structure DeskC (K : PySem.W.Frag) (C : Addr) : Prop where
 cl : Cls K C
 nLo : NoAttr K C "lower_pins"
 nUp : NoAttr K C "upper_pins"
def spPin : Sp := λ vs H Q _ => ∃ n : Int, vs = [.int n] /\ Q (.bl (Vbpcao.inRange n)) H
theorem up {j k : Nat} {A : Around} (hr : Room k A) (h : j <= k := by decide) : Room j A := hr.mono h
theorem sc_is_pin : FnScope ["number"] ["number"] (defScope s_is_pin) := ⟨rfl, rfl, rfl, by decide +kernel, rfl, by decide +kernel, by decide +kernel⟩
theorem ok_is_pin (D : Def K mg "is_pin" s_is_pin) (T : Txt mg) : Cal P w K mg base "is_pin" ["number"] 1 spPin := by
 refine D.cal sc_is_pin (λ _ _ _ _ _ _ us hl => match us, hl with | [_], _ => rfl) (λ vs H Q E h => ?_) (λ f cdv A outer s H vs Q E hr h => ?_)
 ·obtain ⟨n, rfl, _⟩ := h
  rfl
 ·obtain ⟨n, rfl, k⟩ := h
  refine ⟨_, (pss_one (ps_ret (pe_chain op_le op_le (pe_un un_neg (pe_gint T.GREATEST_PIN rfl)) (pv 0) (pe_gint T.GREATEST_PIN rfl)))), ?_⟩
  refine ⟨_, rfl, _, rfl, _, _, rfl, rfl, _, rfl, ite2 (λ h1 => ⟨_, _, rfl, rfl, ?_⟩) (λ h1 => ?_)⟩
  ·rw [dte] at h1
   have e : Vbpcao.inRange n = decide (n <= 1000000000) := by
    unfold Vbpcao.inRange Vbpcao.FAR
    rw [decide_eq_decide]
    exact ⟨λ z => z.2, λ z => ⟨h1, z⟩⟩
   rw [e] at k
   exact k
  ·rw [dte] at h1
   have e : Vbpcao.inRange n = false := by
    unfold Vbpcao.inRange Vbpcao.FAR
    exact decide_eq_false λ z => h1 z.1
   rw [e] at k
   exact k
def spWidth : Sp := λ vs H Q _ => ∃ n : Int, vs = [.int n] /\ Q (.bl (Vbpcao.within n 0 1000)) H
theorem sc_is_width : FnScope ["h"] ["h"] (defScope s_is_width) := ⟨rfl, rfl, rfl, by decide +kernel, rfl, by decide +kernel, by decide +kernel⟩
theorem ok_is_width (D : Def K mg "is_width" s_is_width) (T : Txt mg) : Cal P w K mg base "is_width" ["h"] 1 spWidth := by
 refine D.cal sc_is_width (λ _ _ _ _ _ _ us hl => match us, hl with | [_], _ => rfl) (λ vs H Q E h => ?_) (λ f cdv A outer s H vs Q E hr h => ?_)
 ·obtain ⟨n, rfl, _⟩ := h
  rfl
 ·obtain ⟨n, rfl, k⟩ := h
  refine ⟨_, (pss_one (ps_ret (pe_chain op_le op_le pe_int (pv 0) (pe_gint T.MOST_TRACKS rfl)))), ?_⟩
  refine ⟨_, rfl, _, _, rfl, rfl, _, rfl, ite2 (λ h1 => ⟨_, _, rfl, rfl, ?_⟩) (λ h1 => ?_)⟩
  ·rw [dte] at h1
   have e : Vbpcao.within n 0 1000 = decide (n <= 1000) := by
    unfold Vbpcao.within
    rw [decide_eq_decide]
    exact ⟨λ z => z.2, λ z => ⟨h1, z⟩⟩
   rw [e] at k
   exact k
  ·rw [dte] at h1
   have e : Vbpcao.within n 0 1000 = false := by
    unfold Vbpcao.within
    exact decide_eq_false λ z => h1 z.1
   rw [e] at k
   exact k
def spHas (C : Addr) : Sp := λ vs H Q _ => ∃ (d l u : Addr) (s : State) (n : Int), vs = [.ref d, .int n] /\ DeskAt C H d l u s /\ Q (.bl (decide (0 <= n /\ n < (s.length : Int)))) H
theorem sc_has_net : FnScope ["desk", "net"] ["desk", "net"] (defScope s_has_net) := ⟨rfl, rfl, rfl, by decide +kernel, rfl, by decide +kernel, by decide +kernel⟩
theorem ok_has_net {C : Addr} (D : Def K mg "has_net" s_has_net) (T : Txt mg) (TC : DeskC K C) : Cal P w K mg base "has_net" ["desk", "net"] 1 (spHas C) := by
 refine D.cal sc_has_net (λ _ _ _ _ _ _ us hl => match us, hl with | [_, _], _ => rfl) (λ vs H Q E h => ?_) (λ f cdv A outer s H vs Q E hr h => ?_)
 ·obtain ⟨d, l, u, s, n, rfl, _⟩ := h
  rfl
 ·obtain ⟨d, l, u, s, n, rfl, DA, k⟩ := h
  obtain ⟨dx, hd⟩ := DA.obj
  refine ⟨_, (pss_one (ps_ret (pe_chain op_le op_lt pe_int (pv 1) (pe_callB call_len_seq (by rfl) T.len PySem.boot_len (pa_cons (pe_fld (pv 0) rfl) pa_nil))))), ?_⟩
  refine ⟨_, rfl, _, _, rfl, rfl, _, rfl, ite2 (λ h1 => ?_) (λ h1 => ?_)⟩
  ·rw [dte] at h1
   refine ⟨_, rfl, d, C, dx, _, _, rfl, hd, TC.cl, TC.nLo, deskF_lo l u, l, _, rfl, .inl (SqL.of DA.lo), _, _, rfl, rfl, ?_⟩
   have e : decide (0 <= n /\ n < (s.length : Int)) = decide (n < (((lows s).map V.int).length : Int)) := by
    rw [lnm, lows_len, decide_eq_decide]
    exact ⟨λ z => z.2, λ z => ⟨h1, z⟩⟩
   rw [e] at k
   exact k
  ·rw [dte] at h1
   have e : decide (0 <= n /\ n < (s.length : Int)) = false := decide_eq_false λ z => h1 z.1
   rw [e] at k
   exact k
def optI : Option Nat -> V
 | none => .non
 | some i => .int i
def spNarrow : Sp := λ vs H Q _ => ∃ (l u : Addr) (s : State) (k : Nat), vs = [.ref l, .ref u, .int k] /\ LI H l (lows s) /\ LI H u (ups s) /\ s.length <= 64 /\ k <= 1000 /\ Q (optI (nar s k)) H
theorem sc_narrow_net : FnScope ["lower", "upper", "h", "i"] ["lower", "upper", "h"] (defScope s_narrow_net) := ⟨rfl, rfl, rfl, by decide +kernel, rfl, by decide +kernel, by decide +kernel⟩
theorem ok_narrow_net (D : Def K mg "narrow_net" s_narrow_net) (T : Txt mg) : Cal P w K mg base "narrow_net" ["lower", "upper", "h"] 1 spNarrow := by
 refine D.cal sc_narrow_net (λ _ _ _ _ _ _ us hl => match us, hl with | [_, _, _], _ => rfl) (λ vs H Q E h => ?_) (λ f cdv A outer s H vs Q E hr h => ?_)
 ·obtain ⟨l, u, s, k, rfl, _⟩ := h
  rfl
 ·obtain ⟨l, u, s, k, rfl, hl, hu, h64, hk, q⟩ := h
  have len : ((lows s).map V.int).length = s.length := by rw [lnm, lows_len]
  refine ⟨_, (pss_cons (ps_for PassesOwn.never rfl (pi_range1 rfl T.range (pa_cons (pe_op op_sub (pe_callB call_len_seq (by rfl) T.len PySem.boot_len (pa_cons (pv 0) pa_nil)) (pv 2)) pa_nil)) (pg_name (i := 3) sc_narrow_net.nd rfl (.inl rfl)) (pss_one (ps_if (pw_or (pt_cmpR op_lt (pe_op op_sub (pe_ix ix_list (pv 0) (pe_op op_add (pv 3) (pv 2)) (λ _ _ => rfl)) (pe_ix ix_list (pv 1) (pv 3) (λ _ _ => rfl))) (pv 2) (nomark _)) (pw_or1 (pt_cmpR op_lt (pe_op op_sub (pe_ix ix_list (pv 1) (pe_op op_add (pv 3) (pv 2)) (λ _ _ => rfl)) (pe_ix ix_list (pv 0) (pv 3) (λ _ _ => rfl))) (pv 2) (nomark _)))).pt (pss_one (ps_ret (pv 3))) pss_nil)))
   (pss_one (ps_ret pe_non))), ?_⟩
  refine ⟨_, rfl, l, _, rfl, .inl (SqL.of hl), _, rfl, _, _, rfl, rfl, _, rfl, (by rw [len]; omega), (by rw [len]; omega), for_range (λ i σ H' => ∃ v, σ = [some (.ref l), some (.ref u), some (.int k), v] /\ H' = H /\ ∀ j, j < i -> Vbpcao.pairFits s k j = true) ⟨_, rfl, rfl, λ j hj => absurd hj (Nat.not_lt_zero _)⟩ ?_ ?_⟩
  ·rintro i σ H' hi ⟨v, rfl, rfl, hf⟩
   rw [len] at hi
   have hik : i + k < s.length := by omega
   have e := pair_at (s := s) (k := k) (i := i) hik
   refine ⟨_, rfl, _, rfl, _, rfl, _, _, rfl, rfl, l, _, _, _, rfl, rfl, SqL.of hl, at_of (j := i + k) (by omega) (lo_at hik), _, rfl, _, rfl, u, _, _, _, rfl, rfl, SqL.of hu, at_of (j := i) (by omega) (up_at (by omega)), _, _, rfl, rfl, _, rfl, _, _, rfl, rfl, _, rfl, ite2 (λ h1 => iteT ?_) (λ h1 => ?_)⟩
   ·rw [dte] at h1
    refine ⟨_, rfl, ?_⟩
    have hp : Vbpcao.pairFits s k i = false := by
     rw [e, decide_eq_false (by omega)]
     rfl
    rw [nar_some (by omega) hp hf] at q
    show Q (V.int (0 + (i : Int))) H'
    rw [Int.zero_add]
    exact q
   ·rw [dte] at h1
    refine ⟨_, rfl, _, rfl, _, rfl, _, _, rfl, rfl, u, _, _, _, rfl, rfl, SqL.of hu, at_of (j := i + k) (by omega) (up_at hik), _, rfl, _, rfl, l, _, _, _, rfl, rfl, SqL.of hl, at_of (j := i) (by omega) (lo_at (by omega)), _, _, rfl, rfl, _, rfl, _, _, rfl, rfl, _, rfl, ite2 (λ h2 => ?_) (λ h2 => ?_)⟩
    ·rw [dte] at h2
     refine ⟨_, rfl, ?_⟩
     have hp : Vbpcao.pairFits s k i = false := by
      rw [e, decide_eq_false (p := (k : Int) <= aAt s (i + k) - bAt s i) (by omega), Bool.and_false]
     rw [nar_some (by omega) hp hf] at q
     show Q (V.int (0 + (i : Int))) H'
     rw [Int.zero_add]
     exact q
    ·rw [dte] at h2
     refine ⟨_, rfl, rfl, λ j hj => ?_⟩
     by_cases hji : j = i
     ·subst hji
      rw [e, decide_eq_true (p := (k : Int) <= bAt s (j + k) - aAt s j) (by omega), decide_eq_true (p := (k : Int) <= aAt s (j + k) - bAt s j) (by omega)]
      rfl
     ·exact hf j (by omega)
  ·rintro σ H' ⟨v, rfl, rfl, hf⟩
   show Q .non H'
   rw [nar_none (λ j hj => hf j (by rw [len]; omega))] at q
   exact q
theorem optI_non (o : Option Nat) : decide (optI o = V.non) = o.isNone := by
 cases o with
 | none => rfl
 | some i => exact decide_eq_false (λ e => nomatch e)
def spLeast : Sp := λ vs H Q _ => ∃ (l u : Addr) (s : State), vs = [.ref l, .ref u] /\ LI H l (lows s) /\ LI H u (ups s) /\ s.length <= 64 /\ Q (.int (Vbpcao.least s)) H
theorem sc_least_width : FnScope ["lower", "upper", "h"] ["lower", "upper"] (defScope s_least_width) := ⟨rfl, rfl, rfl, by decide +kernel, rfl, by decide +kernel, by decide +kernel⟩
theorem ok_least_width (D : Def K mg "least_width" s_least_width) (T : Txt mg) (c_narrow_net : Cal P w K mg base "narrow_net" ["lower", "upper", "h"] 1 spNarrow) : Cal P w K mg base "least_width" ["lower", "upper"] 2 spLeast := by
 refine D.cal sc_least_width (λ _ _ _ _ _ _ us hl => match us, hl with | [_, _], _ => rfl) (λ vs H Q E h => ?_) (λ f cdv A outer s H vs Q E hr h => ?_)
 ·obtain ⟨l, u, s, rfl, _⟩ := h
  rfl
 ·obtain ⟨l, u, s, rfl, hl, hu, h64, q⟩ := h
  refine ⟨_, (pss_cons (ps_set (i := 2) sc_least_width.nd rfl (.inl rfl) pe_int)
   (pss_cons (ps_while PassesOwn.never (pt_cmp (pc_notN (pe_cal c_narrow_net (up hr) rfl (pa_cons (pv 0) (pa_cons (pv 1) (pa_cons (pv 2) pa_nil)))))) (pss_one (ps_aug (i := 2) sc_least_width.nd rfl (.inl rfl) pe_int ip_add)))
   (pss_one (ps_ret (pv 2))))), ?_⟩
  refine ⟨λ m σ H' => ∃ j : Nat, m = 64 - j /\ j <= s.length /\ σ = [some (.ref l), some (.ref u), some (.int j)] /\ H' = H /\ ∀ i, i < j -> Vbpcao.fits s i = false, ⟨64, 0, rfl, Nat.zero_le _, rfl, rfl, λ i hi => absurd hi (Nat.not_lt_zero _)⟩, ?_⟩
  rintro m σ H' ⟨j, rfl, hj, rfl, rfl, hf⟩
  refine ⟨_, rfl, _, rfl, _, rfl, l, u, s, j, rfl, hl, hu, h64, by omega, _, rfl, ?_⟩
  rw [optI_non, <- fits_nar]
  cases hfj : Vbpcao.fits s j with
  | false =>
   refine iteT ⟨_, λ _ _ h => h, _, rfl, _, _, rfl, rfl, ?_⟩
   have hlt : j < s.length := by
    rcases Nat.lt_or_ge j s.length with z | z
    ·exact z
    ·rw [fits_len z] at hfj; cases hfj
   refine ⟨64 - (j + 1), by omega, j + 1, rfl, hlt, rfl, rfl, λ i hi => ?_⟩
   by_cases e : i = j
   ·rw [e]; exact hfj
   ·exact hf i (by omega)
  | true =>
   refine iteF ⟨_, rfl, ?_⟩
   rw [least_eq hfj hf] at q
   exact q
theorem getD_at {ns : List Int} {i : Nat} (h : i < ns.length) : ns[i]? = some (ns.getD i 0) := by
 rw [List.getD_eq_getElem?_getD, List.getElem?_eq_getElem h]
 rfl
def spRises : Sp := λ vs H Q _ => ∃ (r : Addr) (ns : List Int), vs = [.ref r] /\ LI H r ns /\ ns.length <= 100000 /\ ∀ H', Same H H' -> Q (.bl (Vbpcao.rises ns)) H'
theorem sc_rises_strictly : FnScope ["row", "k"] ["row"] (defScope s_rises_strictly) := ⟨rfl, rfl, rfl, by decide +kernel, rfl, by decide +kernel, by decide +kernel⟩
theorem ok_rises_strictly (D : Def K mg "rises_strictly" s_rises_strictly) (T : Txt mg) : Cal P w K mg base "rises_strictly" ["row"] 1 spRises := by
 refine D.cal sc_rises_strictly (λ _ _ _ _ _ _ us hl => match us, hl with | [_], _ => rfl) (λ vs H Q E h => ?_) (λ f cdv A outer s H vs Q E hr h => ?_)
 ·obtain ⟨r, ns, rfl, _⟩ := h
  rfl
 ·obtain ⟨r, ns, rfl, h, hn, q⟩ := h
  have len : (ns.map V.int).length = ns.length := List.length_map ..
  refine ⟨_, (pss_one (ps_ret (pe_callB (cr_all rfl) (by rfl) T.all boot_all (pa_cons (pe_lc rfl sc_rises_strictly.nd (pi_range1 rfl T.range (pa_cons (pe_op op_sub (pe_callB call_len_seq (by rfl) T.len PySem.boot_len (pa_cons (pv 0) pa_nil)) pe_int) pa_nil)) (blkOk_by (own := [("k", 1)]) (by kernel_rfl)) (λ _ _ _ _ _ => (pg_name (i := 1) sc_rises_strictly.nd rfl (.inl rfl))) (λ _ _ _ _ _ => pts_nil) (λ _ _ _ _ _ => (pe_cmpR op_lt (pe_ix (ix_listK (K := K) rfl) (pv 0) (pv 1) (λ _ _ => rfl)) (pe_ix (ix_listK (K := K) rfl) (pv 0) (pe_op op_add (pv 1) pe_int) (λ _ _ => rfl)) (nomark _)))) pa_nil)))), ?_⟩
  refine ⟨_, rfl, r, _, rfl, .inl (SqL.of h), _, _, rfl, rfl, _, rfl, (by rw [len]; omega), (by rw [len]; omega), λ D1 n1 => lc_rangeV (λ k => .bl (decide (ns.getD k 0 < ns.getD (k + 1) 0))) n1 (by rw [len]; omega) (λ i H' R N hi s1 hR => ?_) (λ H' s1 hD => ?_)⟩
  ·rw [len] at hi
   refine ⟨rfl, iteT (B := N H') ⟨_, rfl, _, rfl, r, _, _, _, rfl, rfl, SqL.of (s1 _ _ h), at_of (j := i) (by omega) (ints_at (getD_at (by omega))), _, rfl, _, rfl, _, _, rfl, rfl, r, _, _, _, rfl, rfl, SqL.of (s1 _ _ h), at_of (j := i + 1) (by omega) (ints_at (getD_at (by omega))), _, _, rfl, rfl, hR⟩⟩
  ·refine ⟨D1, risesB ns, rfl, SqL.of ?_, ?_⟩
   ·rw [hD]
    unfold risesB
    rw [List.map_map, len, show ((ns.length : Int) - 1).toNat = ns.length - 1 by omega]
    rfl
   ·rw [risesB_all]
    exact q H' s1
def pinV : V -> V
 | .int n => .bl (Vbpcao.inRange n)
 | v => v
def spPinRow : Sp := λ vs H Q _ => ∃ (r : Addr) (ns : List Int), vs = [.ref r] /\ LI H r ns /\ ns.length <= 100000 /\ ∀ H', Same H H' -> Q (.bl (pinRow ns)) H'
theorem int_of {ns : List Int} {i : Nat} {x : V} (h : (ns.map V.int)[i]? = some x) : ∃ z, ns[i]? = some z /\ x = V.int z := by
 rw [gem] at h
 cases e : ns[i]? with
 | none => rw [e] at h; cases h
 | some z => rw [e] at h; exact ⟨z, rfl, (Option.some.inj h).symm⟩
theorem sc_is_pin_row : FnScope ["row", "number"] ["row"] (defScope s_is_pin_row) := ⟨rfl, rfl, rfl, by decide +kernel, rfl, by decide +kernel, by decide +kernel⟩
theorem ok_is_pin_row (D : Def K mg "is_pin_row" s_is_pin_row) (T : Txt mg) (c_is_pin : Cal P w K mg base "is_pin" ["number"] 1 spPin) (c_rises_strictly : Cal P w K mg base "rises_strictly" ["row"] 1 spRises) : Cal P w K mg base "is_pin_row" ["row"] 2 spPinRow := by
 refine D.cal sc_is_pin_row (λ _ _ _ _ _ _ us hl => match us, hl with | [_], _ => rfl) (λ vs H Q E h => ?_) (λ f cdv A outer s H vs Q E hr h => ?_)
 ·obtain ⟨r, ns, rfl, _⟩ := h
  rfl
 ·obtain ⟨r, ns, rfl, h, hn, q⟩ := h
  refine ⟨_, (pss_one (ps_ret (pe_and (pe_callB (cr_all rfl) (by rfl) T.all boot_all (pa_cons (pe_lc rfl sc_is_pin_row.nd (pi_list (pv 0)) (blkOk_by (own := [("number", 1)]) (by kernel_rfl)) (λ _ _ _ _ _ => (pg_name (i := 1) sc_is_pin_row.nd rfl (.inl rfl))) (λ _ _ _ _ _ => pts_nil) (λ _ _ _ _ _ => (pe_cal c_is_pin (up hr) rfl (pa_cons (pv 1) pa_nil)))) pa_nil)) (pe_one (pe_cal c_rises_strictly (up hr) rfl (pa_cons (pv 0) pa_nil)))))), ?_⟩
  refine ⟨_, rfl, r, rfl, ⟨_, SqL.of h⟩, λ D1 n1 => lc_listV (K := K) (xs := ns.map V.int) (λ _ => true) pinV (SqL.of h) n1 (by rw [lnm]; omega) (λ i x H' R N hx s1 h1 h2 => ?_) (λ H' s1 hD => ?_)⟩
  ·obtain ⟨z, hz, rfl⟩ := int_of hx
   exact ⟨rfl, iteT (B := N H') ⟨_, rfl, z, rfl, h1 rfl⟩⟩
  ·have eD : H' D1 = some (.lst ((ns.map Vbpcao.inRange).map V.bl)) := by
    rw [hD, List.filter_eq_self.mpr (λ _ _ => rfl), List.map_map, List.map_map]
    rfl
   refine ⟨D1, ns.map Vbpcao.inRange, rfl, SqL.of eD, _, rfl, ?_⟩
   have ea : (ns.map Vbpcao.inRange).all id = ns.all Vbpcao.inRange := by rw [List.all_map]; rfl
   rw [ea]
   cases e : ns.all Vbpcao.inRange with
   | false =>
    refine iteF ?_
    have z : pinRow ns = false := by unfold pinRow; rw [e]; rfl
    have := q H' s1
    rw [z] at this
    exact this
   | true =>
    refine iteT ⟨_, rfl, r, ns, rfl, s1 _ _ h, hn, λ H2 s2 => ?_⟩
    have z : pinRow ns = Vbpcao.rises ns := by unfold pinRow; rw [e]; rfl
    have := q H2 (s1.trans s2)
    rw [z] at this
    exact this
def BV (H : Hp) (v : V) : Option (Int × Int) -> Prop
 | none => v = .non
 | some r => ∃ p, v = .ref p /\ H p = some (.tup [.int r.1, .int r.2])
def spBounds : Sp := λ vs H Q _ => ∃ (l u : Addr) (s : State) (k : Nat), vs = [.ref l, .ref u, .int k] /\ LI H l (lows s) /\ LI H u (ups s) /\ s.length <= 64 /\ k <= 1000 /\ ∀ H' v, Same H H' -> BV H' v (Vbpcao.range s k) -> Q v H'
theorem sc_shift_bounds : FnScope ["lower", "upper", "h", "least", "greatest", "i"] ["lower", "upper", "h"] (defScope s_shift_bounds) := ⟨rfl, rfl, rfl, by decide +kernel, rfl, by decide +kernel, by decide +kernel⟩
theorem ok_shift_bounds (D : Def K mg "shift_bounds" s_shift_bounds) (T : Txt mg) : Cal P w K mg base "shift_bounds" ["lower", "upper", "h"] 1 spBounds := by
 refine D.cal sc_shift_bounds (λ _ _ _ _ _ _ us hl => match us, hl with | [_, _, _], _ => rfl) (λ vs H Q E h => ?_) (λ f cdv A outer s H vs Q E hr h => ?_)
 ·obtain ⟨l, u, s, k, rfl, _⟩ := h
  rfl
 ·obtain ⟨l, u, s, k, rfl, hl, hu, h64, hk, q⟩ := h
  have len : ((lows s).map V.int).length = s.length := by rw [lnm, lows_len]
  refine ⟨_, (pss_cons (ps_if (pt_cmpR op_le (pe_callB call_len_seq (by rfl) T.len PySem.boot_len (pa_cons (pv 0) pa_nil)) (pv 2) (nomark _)) (pss_one (ps_ret pe_non)) pss_nil)
   (pss_cons (ps_set (i := 3) sc_shift_bounds.nd rfl (.inl rfl) (pe_callB (cr_max rfl) (by rfl) T.max boot_max (pa_cons (pe_lc rfl sc_shift_bounds.nd (pi_range1 rfl T.range (pa_cons (pe_op op_sub (pe_callB call_len_seq (by rfl) T.len PySem.boot_len (pa_cons (pv 0) pa_nil)) (pv 2)) pa_nil)) (blkOk_by (own := [("i", 5)]) (by kernel_rfl)) (λ _ _ _ _ _ => (pg_name (i := 5) sc_shift_bounds.nd rfl (.inl rfl))) (λ _ _ _ _ _ => pts_nil) (λ _ _ _ _ _ => (pe_op op_add (pe_op op_sub (pe_ix (ix_listK (K := K) rfl) (pv 0) (pv 5) (λ _ _ => rfl)) (pe_ix (ix_listK (K := K) rfl) (pv 1) (pe_op op_add (pv 5) (pv 2)) (λ _ _ => rfl))) (pv 2)))) pa_nil)))
   (pss_cons (ps_set (i := 4) sc_shift_bounds.nd rfl (.inl rfl) (pe_callB (cr_min rfl) (by rfl) T.min boot_min (pa_cons (pe_lc rfl sc_shift_bounds.nd (pi_range1 rfl T.range (pa_cons (pe_op op_sub (pe_callB call_len_seq (by rfl) T.len PySem.boot_len (pa_cons (pv 0) pa_nil)) (pv 2)) pa_nil)) (blkOk_by (own := [("i", 5)]) (by kernel_rfl)) (λ _ _ _ _ _ => (pg_name (i := 5) sc_shift_bounds.nd rfl (.inl rfl))) (λ _ _ _ _ _ => pts_nil) (λ _ _ _ _ _ => (pe_op op_sub (pe_op op_sub (pe_ix (ix_listK (K := K) rfl) (pv 0) (pe_op op_add (pv 5) (pv 2)) (λ _ _ => rfl)) (pe_ix (ix_listK (K := K) rfl) (pv 1) (pv 5) (λ _ _ => rfl))) (pv 2)))) pa_nil)))
   (pss_one (ps_ret (pe_tup (pa_cons (pv 3) (pa_cons (pv 4) pa_nil)))))))), ?_⟩
  refine ⟨_, rfl, l, _, rfl, .inl (SqL.of hl), _, rfl, _, _, rfl, rfl, _, rfl, ite2 (λ h1 => ?_) (λ h1 => ?_)⟩
  ·rw [dte, len] at h1
   refine q H .non (Same.refl H) ?_
   rw [range_none (by omega)]
   rfl
  ·rw [dte, len] at h1
   refine ⟨_, rfl, l, _, rfl, .inl (SqL.of hl), _, rfl, _, _, rfl, rfl, _, rfl, (by rw [len]; omega), (by rw [len]; omega), λ D1 n1 => lc_rangeV (λ i => .int (bAt s i - aAt s (i + k) + (k : Int))) n1 (by rw [len]; omega) (λ i H' R N hi s1 hR => ?_) (λ H1 s1 hD => ?_)⟩
   ·rw [len] at hi
    exact ⟨rfl, iteT (B := N H') ⟨_, rfl, _, rfl, l, _, _, _, rfl, rfl, SqL.of (s1 _ _ hl), at_of (j := i) (by omega) (lo_at (by omega)), _, rfl, _, rfl, _, rfl, _, _, rfl, rfl, u, _, _, _, rfl, rfl, SqL.of (s1 _ _ hu), at_of (j := i + k) (by omega) (up_at (by omega)), _, _, rfl, rfl, _, rfl, _, _, rfl, rfl, hR⟩⟩
   ·have eD : LI H1 D1 (gaps s k) := by
     unfold LI gaps
     rw [hD, List.map_map, len, show ((s.length : Int) - (k : Int)).toNat = s.length - k by omega]
     rfl
    refine ⟨D1, gaps s k, rfl, SqL.of eD, (by unfold gaps; rw [lnm, lnr]; omega), λ lo m1 m2 => ?_⟩
    refine ⟨_, rfl, l, _, rfl, .inl (SqL.of (s1 _ _ hl)), _, rfl, _, _, rfl, rfl, _, rfl, (by rw [len]; omega), (by rw [len]; omega), λ D2 n2 => lc_rangeV (λ i => .int (bAt s (i + k) - aAt s i - (k : Int))) n2 (by rw [len]; omega) (λ i H' R N hi s2 hR => ?_) (λ H2 s2 hD2 => ?_)⟩
    ·rw [len] at hi
     exact ⟨rfl, iteT (B := N H') ⟨_, rfl, _, rfl, _, rfl, _, _, rfl, rfl, l, _, _, _, rfl, rfl, SqL.of (s2 _ _ (s1 _ _ hl)), at_of (j := i + k) (by omega) (lo_at (by omega)), _, rfl, _, rfl, u, _, _, _, rfl, rfl, SqL.of (s2 _ _ (s1 _ _ hu)), at_of (j := i) (by omega) (up_at (by omega)), _, _, rfl, rfl, _, rfl, _, _, rfl, rfl, hR⟩⟩
    ·have eD2 : LI H2 D2 (gaps2 s k) := by
      unfold LI gaps2
      rw [hD2, List.map_map, len, show ((s.length : Int) - (k : Int)).toNat = s.length - k by omega]
      rfl
     refine ⟨D2, gaps2 s k, rfl, SqL.of eD2, (by unfold gaps2; rw [lnm, lnr]; omega), λ hi m3 m4 => ?_⟩
     refine ⟨_, rfl, _, rfl, (by show 2 <= sizeLine; decide), λ p hp => ?_⟩
     refine q _ (.ref p) (same_upd (s1.trans s2) ((s1.trans s2).free hp)) ?_
     rw [range_some (by omega) m1 m2 m3 m4]
     exact ⟨p, rfl, upd_same⟩
def spSome : Sp := λ vs H Q _ => ∃ (v : V) (r : Option (Int × Int)), vs = [v] /\ BV H v r /\ Q (.bl (Vbpcao.open_ r)) H
theorem sc_some_shift_does : FnScope ["bounds"] ["bounds"] (defScope s_some_shift_does) := ⟨rfl, rfl, rfl, by decide +kernel, rfl, by decide +kernel, by decide +kernel⟩
theorem ok_some_shift_does (D : Def K mg "some_shift_does" s_some_shift_does) (T : Txt mg) : Cal P w K mg base "some_shift_does" ["bounds"] 1 spSome := by
 refine D.cal sc_some_shift_does (λ _ _ _ _ _ _ us hl => match us, hl with | [_], _ => rfl) (λ vs H Q E h => ?_) (λ f cdv A outer s H vs Q E hr h => ?_)
 ·obtain ⟨v, r, rfl, _⟩ := h
  rfl
 ·obtain ⟨v, r, rfl, hb, q⟩ := h
  refine ⟨_, (pss_one (ps_ret (pe_or (pe_cmp (pc_isN (pv 0))) (pe_one (pe_cmpR op_le (pe_ix ix_tup (pv 0) pe_int (λ _ _ => rfl)) (pe_ix ix_tup (pv 0) pe_int (λ _ _ => rfl)) (nomark _)))))), ?_⟩
  refine ⟨_, rfl, _, rfl, ?_⟩
  cases r with
  | none =>
   have e : v = .non := hb
   subst e
   exact iteT q
  | some r =>
   obtain ⟨p, rfl, hp⟩ := hb
   refine iteF ⟨_, rfl, p, _, _, _, rfl, rfl, SqT.of hp, at_of (j := 0) rfl rfl, _, rfl, p, _, _, _, rfl, rfl, SqT.of hp, at_of (j := 1) rfl rfl, _, _, rfl, rfl, ?_⟩
   exact q
structure Tups (H : Hp) (as : List Addr) (ps : List (Int × Int)) : Prop where
 len : as.length = ps.length
 at_ : ∀ (j : Nat) (ad : Addr) (p : Int × Int), as[j]? = some ad -> ps[j]? = some p -> H ad = some (.tup [.int p.1, .int p.2])
def PtsAt (H : Hp) (q : Addr) (ps : List (Int × Int)) : Prop := ∃ as : List Addr, H q = some (.lst (as.map V.ref)) /\ Tups H as ps
theorem Tups.same {H H' : Hp} {as : List Addr} {ps : List (Int × Int)} (t : Tups H as ps) (s : Same H H') : Tups H' as ps := ⟨t.len, λ j ad p h1 h2 => s _ _ (t.at_ j ad p h1 h2)⟩
theorem PtsAt.same {H H' : Hp} {q : Addr} {ps : List (Int × Int)} (t : PtsAt H q ps) (s : Same H H') : PtsAt H' q ps := let ⟨as, h1, h2⟩ := t; ⟨as, s _ _ h1, h2.same s⟩
theorem tups_nil (H : Hp) : Tups H [] [] := ⟨rfl, λ j ad p h => by simp at h⟩
theorem Tups.write {H : Hp} {as : List Addr} {ps : List (Int × Int)} (t : Tups H as ps) {q : Addr} {xs : List V} {o : HO} (hq : H q = some (.lst xs)) : Tups (upd H q o) as ps := ⟨t.len, λ j ad p h1 h2 => by
 have e := t.at_ j ad p h1 h2
 rw [upd_ne (ne_of e hq (λ z => nomatch z))]
 exact e⟩
theorem Tups.snoc {H : Hp} {as : List Addr} {ps : List (Int × Int)} (t : Tups H as ps) {p : Addr} {x y : Int} (hp : H p = some (.tup [.int x, .int y])) : Tups H (as ++ [p]) (ps ++ [(x, y)]) := by
 refine ⟨by rw [lna, lna, t.len]; rfl, λ j ad z h1 h2 => ?_⟩
 by_cases hj : j < as.length
 ·rw [List.getElem?_append_left hj] at h1
  rw [List.getElem?_append_left (by rw [<- t.len]; exact hj)] at h2
  exact t.at_ j ad z h1 h2
 ·rw [List.getElem?_append_right (by omega)] at h1
  rw [List.getElem?_append_right (by rw [<- t.len]; omega), <- t.len] at h2
  cases e : j - as.length with
  | zero =>
   rw [e] at h1 h2
   have e1 : p = ad := Option.some.inj h1
   have e2 : (x, y) = z := Option.some.inj h2
   subst e1 e2
   exact hp
  | succ n => rw [e] at h1; simp at h1
theorem pts_app {H : Hp} {q p : Addr} {as : List Addr} {ps : List (Int × Int)} {x y : Int} (hq : H q = some (.lst (as.map V.ref))) (t : Tups H as ps) (hp : H p = Option.none) :
  PtsAt (upd (upd H p (.tup [.int x, .int y])) q (.lst (as.map V.ref ++ [V.ref p]))) q (ps ++ [(x, y)]) := by
 have hqp : q ≠ p := ne_of_none hq hp
 have hq1 : upd H p (.tup [.int x, .int y]) q = some (.lst (as.map V.ref)) := by rw [upd_ne hqp]; exact hq
 refine ⟨as ++ [p], by rw [upd_same, List.map_append]; rfl, ?_⟩
 exact ((t.same (same_new hp)).snoc upd_same).write hq1
structure Counts (kvs : List (Key × V)) (ks ns : List Int) : Prop where
 keys : kvs.map (·.1) = ks.map Sum.inl
 nd : ks.Nodup
 mem : ∀ x, x ∈ ks ↔ x ∈ ns
 len : ks.length <= ns.length
 val : ∀ x, valV kvs (.inl x) = if x ∈ ns then some (.int ((ns.filter λ m => decide (m = x)).length : Int)) else Option.none
theorem counts_nil : Counts [] [] [] := ⟨rfl, List.nodup_nil, λ x => Iff.rfl, Nat.le_refl _, λ x => by simp [valV_nil]⟩
theorem keys_put_old {kvs : List (Key × V)} {k : Key} {v : V} (h : (valV kvs k).isSome = true) : (putK kvs k v).map (·.1) = kvs.map (·.1) := by
 unfold putK
 rw [valV_any, if_pos h, List.map_map]
 congr 1
 funext kv
 show (if kv.1 = k then (kv.1, v) else kv).1 = kv.1
 split <;> rfl
theorem Counts.snoc {kvs : List (Key × V)} {ks ns : List Int} (c : Counts kvs ks ns) (z : Int) : ∃ ks', Counts (putK kvs (.inl z) (.int (((ns.filter λ m => decide (m = z)).length : Int) + 1))) ks' (ns ++ [z]) := by
 have cnt : ∀ x : Int, ((ns ++ [z]).filter λ m => decide (m = x)).length = (ns.filter λ m => decide (m = x)).length + if z = x then 1 else 0 := λ x => by
  rw [List.filter_append, lna, List.filter_cons]
  by_cases e : z = x <;> simp [e]
 have val : ∀ x, valV (putK kvs (.inl z) (.int (((ns.filter λ m => decide (m = z)).length : Int) + 1))) (.inl x) = if x ∈ ns ++ [z] then some (.int (((ns ++ [z]).filter λ m => decide (m = x)).length : Int)) else Option.none := λ x => by
  rw [valV_put, cnt]
  by_cases e : x = z
  ·subst e
   rw [if_pos rfl, if_pos (by simp), if_pos rfl]
   rfl
  ·have e2 : ¬ (Sum.inl x : Key) = Sum.inl z := λ q => e (Sum.inl.inj q)
   have e3 : ¬ z = x := λ q => e q.symm
   rw [if_neg e2, c.val, if_neg e3]
   by_cases m : x ∈ ns
   ·rw [if_pos m, if_pos (by simp [m])]
    rfl
   ·rw [if_neg m, if_neg (by simp [m, e])]
 by_cases m : z ∈ ns
 ·refine ⟨ks, ⟨?_, c.nd, λ x => ?_, ?_, val⟩⟩
  ·rw [keys_put_old (by rw [c.val, if_pos m]; rfl), c.keys]
  ·rw [c.mem, List.mem_append, List.mem_singleton]
   exact ⟨.inl, λ h => h.elim id λ e => by rw [e]; exact m⟩
  ·have := c.len
   rw [lna]
   omega
 ·have vn : valV kvs (.inl z) = Option.none := by rw [c.val, if_neg m]
  refine ⟨ks ++ [z], ⟨?_, nd_snoc c.nd (λ q => m ((c.mem z).mp q)), λ x => ?_, ?_, val⟩⟩
  ·rw [putK_new _ vn, List.map_append, c.keys, List.map_append]
   rfl
  ·rw [List.mem_append, List.mem_append, c.mem]
  ·have := c.len
   rw [lna, lna]
   simp
   exact this
def spCount : Sp := λ vs H Q _ => ∃ (m : Addr) (ns : List Int), vs = [.ref m] /\ LI H m ns /\ ns.length <= 64 /\ ∀ (H' : Hp) (p : Addr) (kvs : List (Key × V)) (ks : List Int), Same H H' -> H p = Option.none -> H' p = some (.dK kvs) -> Counts kvs ks ns -> Q (.ref p) H'
theorem sc_count_alike : FnScope ["numbers", "counts", "number"] ["numbers"] (defScope s_count_alike) := ⟨rfl, rfl, rfl, by decide +kernel, rfl, by decide +kernel, by decide +kernel⟩
theorem ok_count_alike (D : Def K mg "count_alike" s_count_alike) (T : Txt mg) : Cal P w K mg base "count_alike" ["numbers"] 1 spCount := by
 refine D.cal sc_count_alike (λ _ _ _ _ _ _ us hl => match us, hl with | [_], _ => rfl) (λ vs H Q E h => ?_) (λ f cdv A outer s H vs Q E hr h => ?_)
 ·obtain ⟨m, ns, rfl, _⟩ := h
  rfl
 ·obtain ⟨m, ns, rfl, hm, h64, q⟩ := h
  have hu := hu_of hr
  refine ⟨_, (pss_cons (ps_set (i := 1) sc_count_alike.nd rfl (.inl rfl) pe_dnewK)
   (pss_cons (ps_for PassesOwn.never rfl (pi_list (pv 0)) (pg_name (i := 2) sc_count_alike.nd rfl (.inl rfl)) (pss_one (ps_dput hu (pv 1) (pv 2) (pe_op op_add (pe_dget2 hu (pv 1) (pv 2) pe_int ⟨rfl, rfl, rfl, rfl⟩) pe_int) rfl)))
   (pss_one (ps_ret (pv 1))))), ?_⟩
  intro p hp
  refine ⟨_, rfl, m, rfl, ⟨_, SqL.of (same_new hp _ _ hm)⟩, for_list (K := K) (a := m) (xs := ns.map V.int) (λ i σ H' => ∃ v kvs ks, σ = [some (.ref m), some (.ref p), v] /\ Same H H' /\ H' p = some (.dK kvs) /\ Counts kvs ks (ns.take i))
   ⟨_, [], [], rfl, same_new hp, upd_same, counts_nil⟩ (λ i σ H' _ ⟨_, _, _, _, s1, _⟩ => SqL.of (s1 _ _ hm)) ?_ ?_⟩
  ·rintro i x σ H' hx ⟨v, kvs, ks, rfl, s1, hp', c⟩
   obtain ⟨z, hz, rfl⟩ := int_of hx
   have hget : (valV kvs (Sum.inl z)).getD (V.int 0) = V.int (((ns.take i).filter λ m => decide (m = z)).length : Int) := by
    rw [c.val]
    by_cases e : z ∈ ns.take i
    ·rw [if_pos e]; rfl
    ·rw [if_neg e]
     have : (ns.take i).filter (λ m => decide (m = z)) = [] := by
      rw [List.filter_eq_nil_iff]
      intro y hy
      rw [dte]
      intro q
      exact e (q ▸ hy)
     rw [this]
     rfl
   obtain ⟨ks', c'⟩ := c.snoc z
   refine ⟨_, rfl, p, rfl, .inl ⟨_, .inl hp'⟩, _, rfl, _, DGet.k (k := Sum.inl z) hp', _, _, hget, rfl, _, rfl, _, rfl, p, _, rfl, DPut.k (k := Sum.inl z) hp' ?_, ?_⟩
   ·have e1 := congrArg List.length c.keys
    rw [lnm, lnm] at e1
    have := c.len
    have := List.length_take_le i ns
    rw [e1, sizeLine_eq]
    have : (ns.take i).length <= 64 := Nat.le_trans (List.length_take_le' i ns) h64
    omega
   ·refine ⟨_, _, ks', rfl, same_upd s1 hp, upd_same, ?_⟩
    rw [take_one hz]
    exact c'
  ·rintro σ H' ⟨v, kvs, ks, rfl, s1, hp', c⟩
   refine ⟨_, rfl, ?_⟩
   rw [lnm, List.take_length] at c
   exact q H' p kvs ks s1 hp hp' c
def leV (b : Int) : V -> Bool
 | .int z => decide (z <= b)
 | _ => false
def inV (b a : Int) : V -> Bool
 | .int z => decide (b < z /\ z < a)
 | _ => false
def IsKeys (keys marks : List Int) (b a : Int) : Prop := keys.Pairwise (· < ·) /\ ∀ x, x ∈ keys ↔ x ∈ marks /\ b < x /\ x < a
def spRising : Sp := λ vs H Q _ => ∃ (b a : Int) (m : Addr) (h : Int) (marks : List Int), vs = [.int b, .int a, .ref m, .int h] /\ LI H m marks /\ marks.length <= 63 /\
 ∀ (H' : Hp) (q : Addr) (keys : List Int), Same H H' -> H q = Option.none -> IsKeys keys marks b a -> keys.length <= 63 -> PtsAt H' q (rising (hts marks) b a (h + 1) keys) -> Q (.ref q) H'
theorem filt_ints (p : V -> Bool) (marks : List Int) : ((marks.map V.int).filter p).map id = (marks.filter λ z => p (V.int z)).map V.int := by
 rw [List.filter_map, List.map_id]
 rfl
def But (q : Addr) (H H' : Hp) : Prop := ∀ b o, H b = some o -> b ≠ q -> H' b = some o
theorem sc_rising_corners : FnScope ["b", "a", "marks", "h", "height", "corners", "alike", "mark"] ["b", "a", "marks", "h"] (defScope s_rising_corners) := ⟨rfl, rfl, rfl, by decide +kernel, rfl, by decide +kernel, by decide +kernel⟩
theorem ok_rising_corners (D : Def K mg "rising_corners" s_rising_corners) (T : Txt mg) (c_count_alike : Cal P w K mg base "count_alike" ["numbers"] 1 spCount) : Cal P w K mg base "rising_corners" ["b", "a", "marks", "h"] 2 spRising := by
 refine D.cal sc_rising_corners (λ _ _ _ _ _ _ us hl => match us, hl with | [_, _, _, _], _ => rfl) (λ vs H Q E h => ?_) (λ f cdv A outer s H vs Q E hr h => ?_)
 ·obtain ⟨b, a, m, h, marks, rfl, _⟩ := h
  rfl
 ·obtain ⟨b, a, m, h, marks, rfl, hm, h63, q⟩ := h
  have hu := hu_of hr
  refine ⟨_, (pss_cons (ps_set (i := 4) sc_rising_corners.nd rfl (.inl rfl) (pe_op op_add pe_int (pe_callB call_len_seq (by rfl) T.len PySem.boot_len (pa_cons (pe_lc rfl sc_rising_corners.nd (pi_list (pv 2)) (blkOk_by (own := [("mark", 7)]) (by kernel_rfl)) (λ _ _ _ _ _ => (pg_name (i := 7) sc_rising_corners.nd rfl (.inl rfl))) (λ _ _ _ _ _ => (pts_one (pt_cmpR op_le (pv 7) (pv 0) (nomark _)))) (λ _ _ _ _ _ => (pv 7))) pa_nil))))
   (pss_cons (ps_set (i := 5) sc_rising_corners.nd rfl (.inl rfl) (pe_lst (pa_cons (pe_tup (pa_cons (pv 0) (pa_cons pe_int pa_nil))) (pa_cons (pe_tup (pa_cons (pv 0) (pa_cons (pv 4) pa_nil))) pa_nil))))
   (pss_cons (ps_set (i := 6) sc_rising_corners.nd rfl (.inl rfl) (pe_cal c_count_alike (up hr) rfl (pa_cons (pe_lc rfl sc_rising_corners.nd (pi_list (pv 2)) (blkOk_by (own := [("mark", 7)]) (by kernel_rfl)) (λ _ _ _ _ _ => (pg_name (i := 7) sc_rising_corners.nd rfl (.inl rfl))) (λ _ _ _ _ _ => (pts_one (pt_chain op_lt op_lt (pv 0) (pv 7) (pv 1)))) (λ _ _ _ _ _ => (pv 7))) pa_nil)))
   (pss_cons (ps_for PassesOwn.never rfl (pi_list (pe_callB (cr_sortedD rfl) (by rfl) T.sorted boot_sorted (pa_cons (pv 6) pa_nil))) (pg_name (i := 7) sc_rising_corners.nd rfl (.inl rfl)) (pss_cons (ps_expr (pe_bm PySem.F.plainAttrs_list PySem.F.slot_list_append PySem.F.type_list_append mt_append (pv 5) (pa_cons (pe_tup (pa_cons (pv 7) (pa_cons (pv 4) pa_nil))) pa_nil)))
   (pss_cons (ps_aug (i := 4) sc_rising_corners.nd rfl (.inl rfl) (pe_dget hu (pv 6) (pv 7) (λ _ _ => rfl)) ip_add)
   (pss_one (ps_expr (pe_bm PySem.F.plainAttrs_list PySem.F.slot_list_append PySem.F.type_list_append mt_append (pv 5) (pa_cons (pe_tup (pa_cons (pv 7) (pa_cons (pv 4) pa_nil))) pa_nil)))))))
   (pss_cons (ps_expr (pe_bm PySem.F.plainAttrs_list PySem.F.slot_list_append PySem.F.type_list_append mt_append (pv 5) (pa_cons (pe_tup (pa_cons (pv 1) (pa_cons (pv 4) pa_nil))) pa_nil)))
   (pss_cons (ps_expr (pe_bm PySem.F.plainAttrs_list PySem.F.slot_list_append PySem.F.type_list_append mt_append (pv 5) (pa_cons (pe_tup (pa_cons (pv 1) (pa_cons (pe_op op_add (pv 3) pe_int) pa_nil))) pa_nil)))
   (pss_one (ps_ret (pv 5))))))))), ?_⟩
  -- height = 1 + len([mark for mark in marks if mark <= b])
  refine ⟨_, rfl, m, rfl, ⟨_, SqL.of hm⟩, λ D1 n1 => lc_listV (K := K) (xs := marks.map V.int) (leV b) id (SqL.of hm) n1 (by rw [lnm]; omega) (λ i x H' R N hx s1 h1 h2 => ?_) (λ H1 s1 hD1 => ?_)⟩
  ·obtain ⟨z, hz, rfl⟩ := int_of hx
   exact ⟨rfl, _, rfl, _, rfl, _, _, rfl, rfl, _, rfl, ite2 (λ e => ⟨_, rfl, h1 e⟩) (λ e => h2 (Bool.eq_false_iff.mpr e))⟩
  rw [filt_ints] at hD1
  refine ⟨D1, _, rfl, .inl (SqL.of hD1), _, _, rfl, rfl, ?_⟩
  have eh : 1 + ((((marks.filter λ z => leV b (V.int z)).map V.int).length : Nat) : Int) = hts marks b := by
   rw [lnm]
   rfl
  dsimp only
  rw [eh]
  -- corners = [(b, 0), (b, height)]
  refine ⟨_, rfl, (by show 2 <= sizeLine; decide), λ p1 n2 => ⟨_, rfl, _, rfl, (by show 2 <= sizeLine; decide), λ p2 n3 => ⟨(by show 2 <= sizeLine; decide), λ cq n4 => ?_⟩⟩⟩
  generalize eH4 : upd (upd (upd H1 p1 (.tup [.int b, .int 0])) p2 (.tup [.int b, .int (hts marks b)])) cq (.lst [.ref p1, .ref p2]) = H4
  have s2 : Same H1 (upd H1 p1 (.tup [.int b, .int 0])) := same_new n2
  have s3 : Same (upd H1 p1 (.tup [.int b, .int 0])) (upd (upd H1 p1 (.tup [.int b, .int 0])) p2 (.tup [.int b, .int (hts marks b)])) := same_new n3
  have s4 : Same (upd (upd H1 p1 (.tup [.int b, .int 0])) p2 (.tup [.int b, .int (hts marks b)])) H4 := by rw [<- eH4]; exact same_new n4
  have s14 : Same H H4 := ((s1.trans s2).trans s3).trans s4
  have ncq : H cq = Option.none := ((s1.trans s2).trans s3).free n4
  have t4 : Tups H4 ([p1] ++ [p2]) ([(b, 0)] ++ [(b, hts marks b)]) := by
   have a1 : H4 p1 = some (.tup [.int b, .int 0]) := s4 _ _ (s3 _ _ upd_same)
   have a2 : H4 p2 = some (.tup [.int b, .int (hts marks b)]) := s4 _ _ upd_same
   exact ((tups_nil H4).snoc a1).snoc a2
  have hq4 : H4 cq = some (.lst (([p1] ++ [p2]).map V.ref)) := by rw [<- eH4]; exact upd_same
  -- alike = count_alike([mark for mark in marks if b < mark < a])
  refine ⟨_, rfl, m, rfl, ⟨_, SqL.of (s14 _ _ hm)⟩, λ D5 n5 => lc_listV (K := K) (xs := marks.map V.int) (inV b a) id (SqL.of (s14 _ _ hm)) n5 (by rw [lnm]; omega) (λ i x H' R N hx s1 h1 h2 => ?_) (λ H5 s5 hD5 => ?_)⟩
  ·obtain ⟨z, hz, rfl⟩ := int_of hx
   refine ⟨rfl, _, rfl, _, rfl, _, _, rfl, rfl, _, rfl, ite2 (λ e => ⟨_, rfl, _, _, rfl, rfl, _, rfl, ite2 (λ e2 => ⟨_, rfl, h1 ?_⟩) (λ e2 => h2 ?_)⟩) (λ e => ⟨_, rfl, iteF (h2 ?_)⟩)⟩
   ·rw [dte] at e e2
    exact decide_eq_true ⟨e, e2⟩
   ·rw [dte] at e e2
    exact decide_eq_false λ z => e2 z.2
   ·rw [dte] at e
    exact decide_eq_false λ z => e z.1
  rw [filt_ints] at hD5
  refine ⟨D5, _, rfl, hD5, Nat.le_trans (List.length_filter_le ..) (by omega), λ H6 dp kvs ks s6 n6 hdp c => ?_⟩
  have h64 : ks.length < 64 := by
   have := c.len
   have := List.length_filter_le (λ z => inV b a (V.int z)) marks
   omega
  -- for mark in sorted(alike)
  refine ⟨_, rfl, dp, kvs, ks, rfl, hdp, c.keys, h64, λ keys p perm srt n7 => ⟨p, rfl, ⟨_, SqL.of upd_same⟩, ?_⟩⟩
  generalize eH7 : upd H6 p (.lst (keys.map V.int)) = H7
  have s67 : Same H6 H7 := by rw [<- eH7]; exact same_new n7
  have s47 : Same H4 H7 := (s5.trans s6).trans s67
  have hk : IsKeys keys marks b a := by
   refine ⟨sorted_strict srt (perm.nodup_iff.mpr c.nd), λ x => ?_⟩
   rw [perm.mem_iff, c.mem, List.mem_filter]
   show x ∈ marks /\ decide (b < x /\ x < a) = true ↔ _
   rw [dte]
  have hkl : keys.length < 64 := by rw [perm.length_eq]; exact h64
  have hp7 : H7 p = some (.lst (keys.map V.int)) := by rw [<- eH7]; exact upd_same
  have npc : p ≠ cq := λ e => by
   rw [<- e] at hq4
   rw [(s5.trans s6) _ _ hq4] at n7
   cases n7
  have hdp7 : H7 dp = some (.dK kvs) := s67 _ _ hdp
  have ndc : dp ≠ cq := ne_of hdp7 (s47 _ _ hq4) (λ z => nomatch z)
  refine for_list (K := K) (a := p) (xs := keys.map V.int) (λ j σ H' => ∃ v as, σ = [some (.int b), some (.int a), some (.ref m), some (.int h), some (.int (lastH (hts marks) (hts marks b) (keys.take j))), some (.ref cq), some (.ref dp), v] /\ But cq H7 H' /\ H' cq = some (.lst (as.map V.ref)) /\ Tups H' as ((b, 0) :: (b, hts marks b) :: climb (hts marks) (hts marks b) (keys.take j)))
   ⟨_, _, rfl, λ x o e _ => e, s47 _ _ hq4, t4.same s47⟩ (λ j σ H' _ ⟨_, _, _, bt, _⟩ => SqL.of (bt _ _ hp7 npc)) ?_ ?_
  ·rintro j x σ H' hx ⟨v, as, rfl, bt, hq, t⟩
   obtain ⟨cc, hc, rfl⟩ := int_of hx
   have hlen : as.length < sizeLine := by
    rw [t.len, lnc, lnc, climb_len, sizeLine_eq]
    have := List.length_take_le' j keys
    omega
   have hcm := (hk.2 cc).mp (List.mem_of_getElem? hc)
   have hval : valV kvs (Sum.inl cc) = some (.int ((marks.filter λ m => decide (m = cc)).length : Int)) := by
    rw [c.val, if_pos (List.mem_filter.mpr ⟨hcm.1, decide_eq_true hcm.2⟩)]
    have := count_filter (marks := marks) hcm.2.1 hcm.2.2
    rw [<- this]
    rfl
   have hht := key_height hk.1 hk.2 hc
   refine ⟨_, rfl, .inl ⟨rfl, _, SqL.of hq⟩, _, rfl, _, rfl, (by show 2 <= sizeLine; decide), λ p8 n8 => ⟨cq, _, _, rfl, rfl, (by rw [upd_ne (ne_of_none hq n8)]; exact hq), (by rw [lnm]; exact hlen), ?_⟩⟩
   obtain ⟨as8, hq8, t8⟩ := pts_app (x := cc) (y := lastH (hts marks) (hts marks b) (keys.take j)) hq t n8
   have bt8 : But cq H7 (upd (upd H' p8 (.tup [.int cc, .int (lastH (hts marks) (hts marks b) (keys.take j))])) cq (.lst (as.map V.ref ++ [V.ref p8]))) := λ x o e ne => by
    rw [upd_ne ne, upd_ne (ne_of_none (bt x o e ne) n8)]
    exact bt x o e ne
   generalize eH8 : upd (upd H' p8 (.tup [.int cc, .int (lastH (hts marks) (hts marks b) (keys.take j))])) cq (.lst (as.map V.ref ++ [V.ref p8])) = H8 at hq8 t8 bt8
   have hg : DGet H8 dp (kV (Sum.inl cc)) (some (.int ((marks.filter λ m => decide (m = cc)).length : Int))) := by
    have := DGet.k (k := Sum.inl cc) (bt8 _ _ hdp7 ndc)
    rw [hval] at this
    exact this
   refine ⟨_, rfl, _, rfl, _, rfl, dp, _, rfl, hg, _, _, rfl, rfl, ?_⟩
   dsimp only
   rw [<- hht]
   have hlen8 : as8.length < sizeLine := by
    rw [t8.len, lna, lnc, lnc, climb_len, sizeLine_eq]
    have := List.length_take_le' j keys
    simp
    omega
   refine ⟨_, rfl, .inl ⟨rfl, _, SqL.of hq8⟩, _, rfl, _, rfl, (by show 2 <= sizeLine; decide), λ p9 n9 => ⟨cq, _, _, rfl, rfl, (by rw [upd_ne (ne_of_none hq8 n9)]; exact hq8), (by rw [lnm]; exact hlen8), ?_⟩⟩
   obtain ⟨as9, hq9, t9⟩ := pts_app (x := cc) (y := hts marks cc) hq8 t8 n9
   refine ⟨some (V.int cc), as9, ?_, λ x o e ne => ?_, hq9, ?_⟩
   ·rw [take_one hc, lastH_snoc]
    rfl
   ·rw [upd_ne ne, upd_ne (ne_of_none (bt8 x o e ne) n9)]
    exact bt8 x o e ne
   ·rw [take_one hc, climb_snoc]
    rw [List.append_assoc] at t9
    exact t9
  ·rintro σ H' ⟨v, as, rfl, bt, hq, t⟩
   rw [lnm, List.take_length] at t
   have hlen : as.length < sizeLine := by
    rw [t.len, lnc, lnc, climb_len, sizeLine_eq]
    omega
   refine ⟨_, rfl, .inl ⟨rfl, _, SqL.of hq⟩, _, rfl, _, rfl, (by show 2 <= sizeLine; decide), λ p8 n8 => ⟨cq, _, _, rfl, rfl, (by rw [upd_ne (ne_of_none hq n8)]; exact hq), (by rw [lnm]; exact hlen), ?_⟩⟩
   rw [lnm, List.take_length]
   obtain ⟨as8, hq8, t8⟩ := pts_app (x := a) (y := lastH (hts marks) (hts marks b) keys) hq t n8
   have bt8 : But cq H7 (upd (upd H' p8 (.tup [.int a, .int (lastH (hts marks) (hts marks b) keys)])) cq (.lst (as.map V.ref ++ [V.ref p8]))) := λ x o e ne => by
    rw [upd_ne ne, upd_ne (ne_of_none (bt x o e ne) n8)]
    exact bt x o e ne
   generalize eH8 : upd (upd H' p8 (.tup [.int a, .int (lastH (hts marks) (hts marks b) keys)])) cq (.lst (as.map V.ref ++ [V.ref p8])) = H8 at hq8 t8 bt8
   have hlen8 : as8.length < sizeLine := by
    rw [t8.len, lna, lnc, lnc, climb_len, sizeLine_eq]
    simp
    omega
   refine ⟨_, rfl, .inl ⟨rfl, _, SqL.of hq8⟩, _, rfl, _, rfl, _, _, rfl, rfl, (by show 2 <= sizeLine; decide), λ p9 n9 => ⟨cq, _, _, rfl, rfl, (by rw [upd_ne (ne_of_none hq8 n9)]; exact hq8), (by rw [lnm]; exact hlen8), ?_⟩⟩
   obtain ⟨as9, hq9, t9⟩ := pts_app (x := a) (y := h + 1) hq8 t8 n9
   refine ⟨_, rfl, ?_⟩
   refine q _ cq keys (λ x o e => ?_) ncq hk (by omega) ⟨as9, hq9, ?_⟩
   ·have ne : x ≠ cq := ne_of_none e ncq
    have e7 := s47 _ _ (s14 _ _ e)
    rw [upd_ne ne, upd_ne (ne_of_none (bt8 x o e7 ne) n9)]
    exact bt8 x o e7 ne
   ·rw [List.append_assoc] at t9
    exact t9
def spCorners : Sp := λ vs H Q _ => ∃ (l u : Addr) (s : State) (i k : Nat), vs = [.ref l, .ref u, .int i, .int k] /\ LI H l (lows s) /\ LI H u (ups s) /\ Good s /\ s.length <= 64 /\ i < s.length /\
 ∀ (H' : Hp) (q : Addr), Same H H' -> H q = Option.none -> PtsAt H' q ((Vbpcao.wire s k i).map ofPt) -> Q (.ref q) H'
theorem sc_wire_corners : FnScope ["lower", "upper", "net", "h", "b", "a", "marks", "j", "x", "y"] ["lower", "upper", "net", "h"] (defScope s_wire_corners) := ⟨rfl, rfl, rfl, by decide +kernel, rfl, by decide +kernel, by decide +kernel⟩
theorem ok_wire_corners (D : Def K mg "wire_corners" s_wire_corners) (T : Txt mg) (c_rising_corners : Cal P w K mg base "rising_corners" ["b", "a", "marks", "h"] 2 spRising) : Cal P w K mg base "wire_corners" ["lower", "upper", "net", "h"] 3 spCorners := by
 refine D.cal sc_wire_corners (λ _ _ _ _ _ _ us hl => match us, hl with | [_, _, _, _], _ => rfl) (λ vs H Q E h => ?_) (λ f cdv A outer s H vs Q E hr h => ?_)
 ·obtain ⟨l, u, s, i, k, rfl, _⟩ := h
  rfl
 ·obtain ⟨l, u, s, i, k, rfl, hl, hu, g, h64, hi, q⟩ := h
  have len : ((lows s).map V.int).length = s.length := by rw [lnm, lows_len]
  refine ⟨_, (pss_cons (ps_set (i := 4) sc_wire_corners.nd rfl (.inl rfl) (pe_ix ix_list (pv 0) (pv 2) (λ _ _ => rfl)))
   (pss_cons (ps_set (i := 5) sc_wire_corners.nd rfl (.inl rfl) (pe_ix ix_list (pv 1) (pv 2) (λ _ _ => rfl)))
   (pss_cons (ps_if (pt_cmpR op_eq (pv 5) (pv 4) (nomark _)) (pss_one (ps_ret (pe_lst (pa_cons (pe_tup (pa_cons (pv 4) (pa_cons pe_int pa_nil))) (pa_cons (pe_tup (pa_cons (pv 4) (pa_cons (pe_op op_add (pv 3) pe_int) pa_nil))) pa_nil))))) pss_nil)
   (pss_cons (ps_if (pt_cmpR op_gt (pv 5) (pv 4) (nomark _)) (pss_cons (ps_setLc (i := 6) rfl sc_wire_corners.nd rfl rfl (sw_true rfl rfl rfl (by decide +kernel)) (pi_range2 rfl T.range (pa_cons (pe_op op_add (pv 2) pe_int) (pa_cons (pe_callB call_len_seq (by rfl) T.len PySem.boot_len (pa_cons (pv 0) pa_nil)) pa_nil))) (blkOk_by (own := [("j", 7)]) (by kernel_rfl)) (λ _ _ _ _ _ => (pg_name (i := 7) sc_wire_corners.nd rfl (.inl rfl))) (λ _ _ _ _ _ => pts_nil) (λ _ _ _ _ _ => (pe_op op_sub (pe_ix (ix_listK (K := K) rfl) (pv 0) (pv 7) (λ _ _ => rfl)) (pe_op op_sub (pv 7) (pv 2)))))
   (pss_one (ps_ret (pe_cal c_rising_corners (up hr) rfl (pa_cons (pv 4) (pa_cons (pv 5) (pa_cons (pv 6) (pa_cons (pv 3) pa_nil)))))))) pss_nil)
   (pss_cons (ps_setLc (i := 6) rfl sc_wire_corners.nd rfl rfl (sw_true rfl rfl rfl (by decide +kernel)) (pi_range1 rfl T.range (pa_cons (pv 2) pa_nil)) (blkOk_by (own := [("j", 7)]) (by kernel_rfl)) (λ _ _ _ _ _ => (pg_name (i := 7) sc_wire_corners.nd rfl (.inl rfl))) (λ _ _ _ _ _ => pts_nil) (λ _ _ _ _ _ => (pe_un un_neg (pe_op op_add (pe_ix (ix_listK (K := K) rfl) (pv 0) (pv 7) (λ _ _ => rfl)) (pe_op op_sub (pv 2) (pv 7))))))
   (pss_one (ps_ret (pe_lc rfl sc_wire_corners.nd (pi_list (pe_cal c_rising_corners (up hr) rfl (pa_cons (pe_un un_neg (pv 4)) (pa_cons (pe_un un_neg (pv 5)) (pa_cons (pv 6) (pa_cons (pv 3) pa_nil)))))) (blkOk_by (own := [("x", 8), ("y", 9)]) (by kernel_rfl)) (λ _ _ _ _ _ => (pg_tupK (K := K) (n := 2) rfl (pg_tup (n := 2) rfl (pgs_cons (pg_name (i := 8) sc_wire_corners.nd rfl (.inl rfl)) (pgs_cons (pg_name (i := 9) sc_wire_corners.nd rfl (.inl rfl)) pgs_nil))))) (λ _ _ _ _ _ => pts_nil) (λ _ _ _ _ _ => (pe_tup (pa_cons (pe_un un_neg (pv 8)) (pa_cons (pv 9) pa_nil)))))))))))), ?_⟩
  refine ⟨_, rfl, _, rfl, l, _, _, _, rfl, rfl, SqL.of hl, at_of (j := i) rfl (lo_at hi), ?_⟩
  refine ⟨_, rfl, _, rfl, u, _, _, _, rfl, rfl, SqL.of hu, at_of (j := i) rfl (up_at hi), ?_⟩
  refine ⟨_, rfl, _, rfl, rfl, _, rfl, ite2 (λ h1 => ?_) (λ h1 => ?_)⟩
  ·rw [dte] at h1
   have e : aAt s i = bAt s i := V.int.inj h1
   refine ⟨_, rfl, (by show 2 <= sizeLine; decide), λ p1 n1 => ⟨_, rfl, _, rfl, _, _, rfl, rfl, (by show 2 <= sizeLine; decide), λ p2 n2 => ⟨(by show 2 <= sizeLine; decide), λ cq n3 => ?_⟩⟩⟩
   have s1 := same_new (o := .tup [.int (bAt s i), .int 0]) n1
   have s2 := same_new (o := .tup [.int (bAt s i), .int ((k : Int) + 1)]) n2
   have s3 := same_new (o := .lst [.ref p1, .ref p2]) n3
   refine q _ cq ((s1.trans s2).trans s3) ((s1.trans s2).free n3) ⟨[p1] ++ [p2], upd_same, ?_⟩
   rw [wire_eq hi e]
   have a1 := s3 _ _ (s2 _ _ (upd_same (H := H) (a := p1) (o := .tup [.int (bAt s i), .int 0])))
   have a2 := s3 _ _ (upd_same (H := upd H p1 (.tup [.int (bAt s i), .int 0])) (a := p2) (o := .tup [.int (bAt s i), .int ((k : Int) + 1)]))
   exact ((tups_nil _).snoc a1).snoc a2
  ·rw [dte] at h1
   have ne : aAt s i ≠ bAt s i := λ e => h1 (congrArg V.int e)
   refine ⟨_, rfl, _, rfl, _, _, rfl, rfl, _, rfl, ite2 (λ h2 => ?_) (λ h2 => ?_)⟩
   ·rw [dte] at h2
    refine ⟨_, rfl, _, _, rfl, rfl, _, rfl, l, _, rfl, .inl (SqL.of hl), _, _, rfl, (by rw [len]; omega), λ D1 n1 => lc_rangeV (λ t => .int (bAt s (i + 1 + t) - ((t : Int) + 1))) n1 (by rw [len]; omega) (λ t H' R N ht s1 hR => ?_) (λ H1 s1 hD => ?_)⟩
    ·rw [len] at ht
     refine ⟨rfl, iteT (B := N H') ⟨_, rfl, _, rfl, l, _, _, _, rfl, rfl, SqL.of (s1 _ _ hl), at_of (j := i + 1 + t) (by omega) (lo_at (by omega)), _, rfl, _, rfl, _, _, rfl, rfl, _, _, rfl, rfl, ?_⟩⟩
     have e : bAt s (i + 1 + t) - ((i : Int) + 1 + (t : Int) - (i : Int)) = bAt s (i + 1 + t) - ((t : Int) + 1) := by omega
     rw [<- e] at hR
     exact hR
    ·have eD : LI H1 D1 (marksR s i) := by
      unfold LI marksR
      rw [hD, List.map_map, len, show ((s.length : Int) - ((i : Int) + 1)).toNat = s.length - (i + 1) by omega]
      rfl
     refine ⟨_, rfl, _, rfl, _, rfl, _, rfl, bAt s i, aAt s i, D1, k, marksR s i, rfl, eD, (by unfold marksR; rw [lnm, lnr]; omega), λ H2 q2 keys s2 n2 hk _ hp => ?_⟩
     refine q H2 q2 (s1.trans s2) (s1.free n2) ?_
     rw [wire_right g hi h2 hk.1 hk.2, of_to]
     exact hp
   ·rw [dte] at h2
    have h3 : aAt s i < bAt s i := by omega
    refine ⟨_, rfl, _, rfl, (by omega), (by omega), λ D1 n1 => lc_rangeV (λ j => .int (-(bAt s j + ((i : Int) - (j : Int))))) n1 (by omega) (λ t H' R N ht s1 hR => ?_) (λ H1 s1 hD => ?_)⟩
    ·refine ⟨rfl, iteT (B := N H') ⟨_, rfl, _, rfl, l, _, _, _, rfl, rfl, SqL.of (s1 _ _ hl), at_of (j := t) (by omega) (lo_at (by omega)), _, rfl, _, rfl, _, _, rfl, rfl, _, _, rfl, rfl, _, rfl, ?_⟩⟩
     rw [Int.zero_add]
     exact hR
    ·have eD : LI H1 D1 ((marksL s i).map λ z => -z) := by
      unfold LI marksL
      rw [hD, List.map_map, List.map_map, Int.toNat_natCast]
      rfl
     refine ⟨_, rfl, _, rfl, _, rfl, _, rfl, _, rfl, _, rfl, -bAt s i, -aAt s i, D1, k, _, rfl, eD, (by unfold marksL; rw [lnm, lnm, lnr]; omega), λ H2 q2 keys s2 n2 hk hkl hp => ?_⟩
     obtain ⟨as, hq, t⟩ := hp
     have hal : as.length <= 1000 := by rw [t.len, rising_len]; omega
     refine ⟨q2, rfl, ⟨_, SqL.of hq⟩, λ D3 n3 => lc_list (K := K) (xs := as.map V.ref) (λ j H' => Same H2 H' /\ ∃ bs : List Addr, H' D3 = some (.lst (bs.map V.ref)) /\ Tups H' bs (((rising (hts ((marksL s i).map λ z => -z)) (-bAt s i) (-aAt s i) ((k : Int) + 1) keys).take j).map λ p => (-p.1, p.2))) ⟨same_new n3, [], upd_same, tups_nil _⟩ (λ j H' _ ⟨s3, _⟩ => SqL.of (s3 _ _ hq)) ?_ ?_⟩
     ·rintro j x H' hx ⟨s3, bs, hb, tb⟩
      obtain ⟨ad, had, rfl⟩ : ∃ ad, as[j]? = some ad /\ x = V.ref ad := by
       rw [gem] at hx
       cases e : as[j]? with
       | none => rw [e] at hx; cases hx
       | some ad => rw [e] at hx; exact ⟨ad, rfl, (Option.some.inj hx).symm⟩
      have hjl : j < (rising (hts ((marksL s i).map λ z => -z)) (-bAt s i) (-aAt s i) ((k : Int) + 1) keys).length := by
       rw [<- t.len]; exact (List.getElem?_eq_some_iff.mp had).1
      have hpj := List.getElem?_eq_getElem hjl
      generalize (rising (hts ((marksL s i).map λ z => -z)) (-bAt s i) (-aAt s i) ((k : Int) + 1) keys)[j] = pj at hpj
      have hadt := t.at_ j ad pj had hpj
      refine ⟨ad, _, rfl, SqT.of (s3 _ _ hadt), rfl, _, _, rfl, _, _, rfl, rfl, rfl, iteT (B := True) ⟨_, rfl, _, rfl, _, rfl, (by show 2 <= sizeLine; decide), λ p4 n4 => ⟨_, (by rw [upd_ne (ne_of_none hb n4)]; exact hb), ?_, λ b o e => ?_, ?_⟩⟩⟩
      ·rw [lnm, tb.len, lnm, sizeLine_eq]
       have := List.length_take_le' j (rising (hts ((marksL s i).map λ z => -z)) (-bAt s i) (-aAt s i) ((k : Int) + 1) keys)
       rw [rising_len] at this
       omega
      ·have nb : b ≠ D3 := ne_of_none e n3
       rw [upd_ne nb, upd_ne (ne_of_none (s3 _ _ e) n4)]
       exact s3 _ _ e
      ·obtain ⟨bs', hb', tb'⟩ := pts_app (x := -pj.1) (y := pj.2) hb tb n4
       refine ⟨bs', hb', ?_⟩
       rw [take_one hpj, List.map_append]
       exact tb'
     ·rintro H3 ⟨s3, bs, hb, tb⟩
      refine q H3 D3 ((s1.trans s2).trans s3) ((s1.trans s2).free n3) ⟨bs, hb, ?_⟩
      rw [lnm, t.len, List.take_length] at tb
      rw [wire_left g hi h3 hk.1 hk.2, of_to]
      exact tb
def flatP (ps : List (Int × Int)) : List Int := ps.flatMap λ p => [p.1, p.2]
theorem flatP_len (ps : List (Int × Int)) : (flatP ps).length = 2 * ps.length := by
 unfold flatP
 induction ps with
 | nil => rfl
 | cons p r ih =>
  rw [List.flatMap_cons, lna, ih, lnc]
  show 2 + 2 * r.length = 2 * (r.length + 1)
  omega
theorem flatP_snoc (ps : List (Int × Int)) (p : Int × Int) : flatP (ps ++ [p]) = flatP ps ++ [p.1] ++ [p.2] := by
 unfold flatP
 rw [List.flatMap_append, List.append_assoc]
 rfl
def toldP (ps : List (Int × Int)) : List Int := (ps.length : Int) :: flatP ps
theorem told_wire_eq (l : List Vbpcao.Pt) : Vbpcao.wireNums l = toldP (l.map ofPt) := by
 unfold Vbpcao.wireNums Vbpcao.counted toldP flatP
 rw [lnm, List.flatMap_map]
 rfl
def spTold : Sp := λ vs H Q _ => ∃ (c : Addr) (ps : List (Int × Int)), vs = [.ref c] /\ PtsAt H c ps /\ ps.length <= 1000 /\ ∀ (H' : Hp) (p : Addr), Same H H' -> H p = Option.none -> LI H' p (toldP ps) -> Q (.ref p) H'
theorem sc_told_wire : FnScope ["corners", "answer", "x", "y"] ["corners"] (defScope s_told_wire) := ⟨rfl, rfl, rfl, by decide +kernel, rfl, by decide +kernel, by decide +kernel⟩
theorem ok_told_wire (D : Def K mg "told_wire" s_told_wire) (T : Txt mg) : Cal P w K mg base "told_wire" ["corners"] 1 spTold := by
 refine D.cal sc_told_wire (λ _ _ _ _ _ _ us hl => match us, hl with | [_], _ => rfl) (λ vs H Q E h => ?_) (λ f cdv A outer s H vs Q E hr h => ?_)
 ·obtain ⟨c, ps, rfl, _⟩ := h
  rfl
 ·obtain ⟨c, ps, rfl, ⟨as, hc, t⟩, hlen, q⟩ := h
  have len : (as.map V.ref).length = ps.length := by rw [lnm, t.len]
  refine ⟨_, (pss_cons (ps_set (i := 1) sc_told_wire.nd rfl (.inl rfl) (pe_lst (pa_cons (pe_callB call_len_seq (by rfl) T.len PySem.boot_len (pa_cons (pv 0) pa_nil)) pa_nil)))
   (pss_cons (ps_for PassesOwn.never rfl (pi_list (pv 0)) (pg_tup (n := 2) rfl (pgs_cons (pg_name (i := 2) sc_told_wire.nd rfl (.inl rfl)) (pgs_cons (pg_name (i := 3) sc_told_wire.nd rfl (.inl rfl)) pgs_nil))) (pss_cons (ps_expr (pe_bm PySem.F.plainAttrs_list PySem.F.slot_list_append PySem.F.type_list_append mt_append (pv 1) (pa_cons (pv 2) pa_nil)))
   (pss_one (ps_expr (pe_bm PySem.F.plainAttrs_list PySem.F.slot_list_append PySem.F.type_list_append mt_append (pv 1) (pa_cons (pv 3) pa_nil))))))
   (pss_one (ps_ret (pv 1))))), ?_⟩
  refine ⟨_, rfl, c, _, rfl, .inl (SqL.of hc), (by show 1 <= sizeLine; decide), λ r n1 => ?_⟩
  have s1 := same_new (o := .lst [.int ((as.map V.ref).length : Int)]) n1
  refine ⟨_, rfl, c, rfl, ⟨_, SqL.of (s1 _ _ hc)⟩, for_list (K := K) (a := c) (xs := as.map V.ref) (λ j σ H' => ∃ v1 v2, σ = [some (.ref c), some (.ref r), v1, v2] /\ Same H H' /\ LI H' r ((ps.length : Int) :: flatP (ps.take j))) ⟨_, _, rfl, s1, by unfold LI; rw [upd_same, len]; rfl⟩ (λ j σ H' _ ⟨_, _, _, s2, _⟩ => SqL.of (s2 _ _ hc)) ?_ ?_⟩
  ·rintro j x σ H' hx ⟨v1, v2, rfl, s2, hr'⟩
   obtain ⟨ad, had, rfl⟩ : ∃ ad, as[j]? = some ad /\ x = V.ref ad := by
    rw [gem] at hx
    cases e : as[j]? with
    | none => rw [e] at hx; cases hx
    | some ad => rw [e] at hx; exact ⟨ad, rfl, (Option.some.inj hx).symm⟩
   have hjl : j < ps.length := by rw [<- t.len]; exact (List.getElem?_eq_some_iff.mp had).1
   have hpj := List.getElem?_eq_getElem hjl
   generalize ps[j] = pj at hpj
   have hadt := t.at_ j ad pj had hpj
   have hl1 : (((ps.length : Int) :: flatP (ps.take j)).map V.int).length + 2 < sizeLine := by
    rw [lnm, lnc, flatP_len, sizeLine_eq]
    have := List.length_take_le' j ps
    omega
   refine ⟨ad, _, rfl, SqT.of (s2 _ _ hadt), rfl, _, _, rfl, _, _, rfl, rfl, _, rfl, .inl ⟨rfl, _, SqL.of hr'⟩, _, rfl, r, _, _, rfl, rfl, hr', (by omega), ?_⟩
   refine ⟨_, rfl, .inl ⟨rfl, _, SqL.of upd_same⟩, _, rfl, r, _, _, rfl, rfl, upd_same, (by rw [lna]; simp; simp at hl1; omega), ?_⟩
   refine ⟨_, _, rfl, same_upd (same_upd s2 n1) n1, ?_⟩
   unfold LI
   rw [upd_same, take_one hpj, flatP_snoc, <- List.cons_append, <- List.cons_append, List.map_append, List.map_append]
   rfl
  ·rintro σ H' ⟨v1, v2, rfl, s2, hr'⟩
   refine ⟨_, rfl, ?_⟩
   rw [len, List.take_length] at hr'
   exact q H' r s2 n1 hr'
structure After (C : Addr) (H : Hp) (d l u : Addr) (F : Addr -> Prop) (s' : State) (H' : Hp) (l' u' : Addr) : Prop where
 desk : DeskAt C H' d l' u' s'
 keep : ∀ b o, H b = some o -> b ≠ d -> b ≠ l -> b ≠ u -> H' b = some o
 nl : l' = l ∨ l' = u ∨ H l' = Option.none ∨ F l'
 nu : u' = l ∨ u' = u ∨ H u' = Option.none ∨ F u'
theorem After.same {C : Addr} {H H' : Hp} {d l u : Addr} {F : Addr -> Prop} {s : State} (D : DeskAt C H d l u s) (e : Same H H') : After C H d l u F s H' l u :=
 ⟨D.same e, λ b o h _ _ _ => e b o h, .inl rfl, .inr (.inl rfl)⟩
def CallSp (C : Addr) (nums : List Int) (rows : Hp -> List Addr -> Prop) (c : Vbpcao.Call) : Sp := λ vs H Q _ => ∃ (d g l u : Addr) (s : State) (rs : List Addr), vs = [.ref d, .ref g] /\ DeskAt C H d l u s /\ Ok s /\ H g = some (.lst (nums.map V.int ++ rs.map V.ref)) /\ g ≠ l /\ g ≠ u /\ rows H rs /\
 ∀ (H' : Hp) (p l' u' : Addr), After C H d l u (λ a => a ∈ rs) (Vbpcao.step s c).1 H' l' u' -> H p = Option.none -> LI H' p (Vbpcao.step s c).2 -> Q (.ref p) H'
theorem CallSp.len {C : Addr} {nums : List Int} {rows : Hp -> List Addr -> Prop} {c : Vbpcao.Call} {vs : List V} {H : Hp} {Q : VK} {E : XK} (h : CallSp C nums rows c vs H Q E) : vs.length = 2 := by
 obtain ⟨_, _, _, _, _, _, rfl, _⟩ := h
 rfl
def noRows : Hp -> List Addr -> Prop := λ _ rs => rs = []
theorem done {C : Addr} {H H1 : Hp} {d l u p : Addr} {F : Addr -> Prop} {s : State} {c : Vbpcao.Call} {Q : VK} {ans : List Int} (D : DeskAt C H d l u s)
  (k : ∀ (H' : Hp) (p l' u' : Addr), After C H d l u F (Vbpcao.step s c).1 H' l' u' -> H p = Option.none -> LI H' p (Vbpcao.step s c).2 -> Q (.ref p) H') (e : Vbpcao.step s c = (s, ans)) (s1 : Same H H1) (hp : H p = Option.none) (hL : LI H1 p ans) : Q (.ref p) H1 := by
 refine k H1 p l u ?_ hp ?_
 ·rw [e]; exact After.same D s1
 ·rw [e]; exact hL
theorem done1 {C : Addr} {H H1 : Hp} {d l u p : Addr} {F : Addr -> Prop} {s : State} {c : Vbpcao.Call} {Q : VK} {ans : List Int} (D : DeskAt C H d l u s)
  (k : ∀ (H' : Hp) (p l' u' : Addr), After C H d l u F (Vbpcao.step s c).1 H' l' u' -> H p = Option.none -> LI H' p (Vbpcao.step s c).2 -> Q (.ref p) H') (e : Vbpcao.step s c = (s, ans)) (s1 : Same H H1) (hp : H1 p = Option.none) : Q (.ref p) (upd H1 p (.lst (ans.map V.int))) :=
 done D k e (same_upd s1 (s1.free hp)) (s1.free hp) upd_same
theorem sz1 {xs : List V} (h : xs.length <= 1000 := by simp) : xs.length <= sizeLine := by rw [sizeLine_eq]; omega
def refV : Except Int Nat -> V
 | .error e => .int e
 | .ok _ => .non
def spRefuse (C : Addr) : Sp := λ vs H Q _ => ∃ (d l u : Addr) (s : State) (h : Int), vs = [.ref d, .int h] /\ DeskAt C H d l u s /\ Ok s /\ Q (refV (Vbpcao.wide s h)) H
theorem sc_width_refusal : FnScope ["desk", "h"] ["desk", "h"] (defScope s_width_refusal) := ⟨rfl, rfl, rfl, by decide +kernel, rfl, by decide +kernel, by decide +kernel⟩
theorem ok_width_refusal {C : Addr} (D : Def K mg "width_refusal" s_width_refusal) (T : Txt mg) (TC : DeskC K C) (c_is_width : Cal P w K mg base "is_width" ["h"] 1 spWidth) (c_narrow_net : Cal P w K mg base "narrow_net" ["lower", "upper", "h"] 1 spNarrow) : Cal P w K mg base "width_refusal" ["desk", "h"] 2 (spRefuse C) := by
 refine D.cal sc_width_refusal (λ _ _ _ _ _ _ us hl => match us, hl with | [_, _], _ => rfl) (λ vs H Q E h => ?_) (λ f cdv A outer s H vs Q E hr h => ?_)
 ·obtain ⟨d, l, u, s, h, rfl, _⟩ := h
  rfl
 ·obtain ⟨d, l, u, s, h, rfl, DA, o, q⟩ := h
  obtain ⟨dx, hd⟩ := DA.obj
  refine ⟨_, (pss_cons (ps_if (pt_not (pt_val (pe_cal c_is_width (up hr) rfl (pa_cons (pv 1) pa_nil)))) (pss_one (ps_ret (pe_gint T.OUT_OF_RANGE rfl))) pss_nil)
   (pss_cons (ps_if (pt_cmp (pc_notN (pe_cal c_narrow_net (up hr) rfl (pa_cons (pe_fld (pv 0) rfl) (pa_cons (pe_fld (pv 0) rfl) (pa_cons (pv 1) pa_nil)))))) (pss_one (ps_ret (pe_gint T.TOO_NARROW rfl))) pss_nil)
   (pss_one (ps_ret pe_non)))), ?_⟩
  refine ⟨_, rfl, h, rfl, _, rfl, ?_⟩
  cases e : Vbpcao.within h 0 1000 with
  | false =>
   refine iteT ?_
   rw [wide_no e] at q
   exact q
  | true =>
   refine iteF ?_
   have eh := within_iff.mp e
   refine ⟨_, rfl, d, C, dx, _, _, rfl, hd, TC.cl, TC.nLo, deskF_lo l u, _, rfl, d, C, dx, _, _, rfl, hd, TC.cl, TC.nUp, deskF_up l u, _, rfl, l, u, s, h.toNat, by rw [show ((h.toNat : Nat) : Int) = h by omega]; rfl, DA.lo, DA.up, o.len, by omega, _, rfl, ?_⟩
   rw [optI_non, <- fits_nar]
   cases ef : Vbpcao.fits s h.toNat with
   | false =>
    refine iteT ?_
    rw [wide_narrow e ef] at q
    exact q
   | true =>
    refine iteF ?_
    rw [wide_yes e ef] at q
    exact q
def spLeastC (C : Addr) : Sp := CallSp C [] noRows .least
theorem sc_least : FnScope ["desk", "given"] ["desk", "given"] (defScope s_least) := ⟨rfl, rfl, rfl, by decide +kernel, rfl, by decide +kernel, by decide +kernel⟩
theorem ok_least {C : Addr} (D : Def K mg "least" s_least) (T : Txt mg) (TC : DeskC K C) (c_least_width : Cal P w K mg base "least_width" ["lower", "upper"] 2 spLeast) : Cal P w K mg base "least" ["desk", "given"] 3 (spLeastC C) := by
 refine D.cal sc_least (λ _ _ _ _ _ _ us hl => match us, hl with | [_, _], _ => rfl) (λ vs H Q E h => h.len) (λ f cdv A outer s H vs Q E hr h => ?_)
 obtain ⟨d, g, l, u, s, rs, rfl, DA, o, hg, _, _, _, k⟩ := h
 obtain ⟨dx, hd⟩ := DA.obj
 refine ⟨_, (pss_one (ps_ret (pe_lst (pa_cons (pe_cal c_least_width (up hr) rfl (pa_cons (pe_fld (pv 0) rfl) (pa_cons (pe_fld (pv 0) rfl) pa_nil))) pa_nil)))), ?_⟩
 refine ⟨_, rfl, d, C, dx, _, _, rfl, hd, TC.cl, TC.nLo, deskF_lo l u, _, rfl, d, C, dx, _, _, rfl, hd, TC.cl, TC.nUp, deskF_up l u, l, u, s, rfl, DA.lo, DA.up, o.len, sz1, λ p hp => ?_⟩
 exact done1 DA k (least_is s) (Same.refl H) hp
def spFitsC (C : Addr) : Sp := λ vs H Q E => ∃ h : Int, CallSp C [h] noRows (.fits h) vs H Q E
theorem sc_fits : FnScope ["desk", "given", "h", "net"] ["desk", "given"] (defScope s_fits) := ⟨rfl, rfl, rfl, by decide +kernel, rfl, by decide +kernel, by decide +kernel⟩
theorem ok_fits {C : Addr} (D : Def K mg "fits" s_fits) (T : Txt mg) (TC : DeskC K C) (c_is_width : Cal P w K mg base "is_width" ["h"] 1 spWidth) (c_narrow_net : Cal P w K mg base "narrow_net" ["lower", "upper", "h"] 1 spNarrow) : Cal P w K mg base "fits" ["desk", "given"] 2 (spFitsC C) := by
 refine D.cal sc_fits (λ _ _ _ _ _ _ us hl => match us, hl with | [_, _], _ => rfl) (λ vs H Q E h => h.choose_spec.len) (λ f cdv A outer s H vs Q E hr h => ?_)
 obtain ⟨h, d, g, l, u, s, rs, rfl, DA, o, hg, _, _, _, k⟩ := h
 obtain ⟨dx, hd⟩ := DA.obj
 refine ⟨_, (pss_cons (ps_set (i := 2) sc_fits.nd rfl (.inl rfl) (pe_ix ix_list (pv 1) pe_int (λ _ _ => rfl)))
   (pss_cons (ps_if (pt_not (pt_val (pe_cal c_is_width (up hr) rfl (pa_cons (pv 2) pa_nil)))) (pss_one (ps_ret (pe_lst (pa_cons (pe_gint T.OUT_OF_RANGE rfl) pa_nil)))) pss_nil)
   (pss_cons (ps_set (i := 3) sc_fits.nd rfl (.inl rfl) (pe_cal c_narrow_net (up hr) rfl (pa_cons (pe_fld (pv 0) rfl) (pa_cons (pe_fld (pv 0) rfl) (pa_cons (pv 2) pa_nil)))))
   (pss_one (ps_ret (pe_ifExp (pt_cmp (pc_isN (pv 3))) (pe_lst (pa_cons pe_int pa_nil)) (pe_lst (pa_cons pe_int (pa_cons (pv 3) pa_nil))))))))), ?_⟩
 refine ⟨_, rfl, g, _, _, _, rfl, rfl, SqL.of hg, at_of (j := 0) rfl rfl, _, rfl, h, rfl, _, rfl, ?_⟩
 cases e : Vbpcao.within h 0 1000 with
 | false =>
  refine iteT ⟨sz1, λ p hp => ?_⟩
  exact done1 DA k (fits_no e) (Same.refl H) hp
 | true =>
  refine iteF ?_
  have eh := within_iff.mp e
  refine ⟨_, rfl, d, C, dx, _, _, rfl, hd, TC.cl, TC.nLo, deskF_lo l u, _, rfl, d, C, dx, _, _, rfl, hd, TC.cl, TC.nUp, deskF_up l u, _, rfl, l, u, s, h.toNat, by rw [show ((h.toNat : Nat) : Int) = h by omega]; rfl, DA.lo, DA.up, o.len, by omega, _, rfl, _, rfl, ?_⟩
  cases n : nar s h.toNat with
  | none =>
   refine iteT ⟨sz1, λ p hp => ?_⟩
   exact done1 DA k (fits_one e n) (Same.refl H) hp
  | some i =>
   refine iteF ⟨_, rfl, sz1, λ p hp => ?_⟩
   exact done1 DA k (fits_two e n) (Same.refl H) hp
def spRangeC (C : Addr) : Sp := λ vs H Q E => ∃ h : Int, CallSp C [h] noRows (.range h) vs H Q E
theorem sc_range_of : FnScope ["desk", "given", "h", "bounds"] ["desk", "given"] (defScope s_range_of) := ⟨rfl, rfl, rfl, by decide +kernel, rfl, by decide +kernel, by decide +kernel⟩
theorem ok_range_of {C : Addr} (D : Def K mg "range_of" s_range_of) (T : Txt mg) (TC : DeskC K C) (c_is_width : Cal P w K mg base "is_width" ["h"] 1 spWidth) (c_shift_bounds : Cal P w K mg base "shift_bounds" ["lower", "upper", "h"] 1 spBounds) (c_some_shift_does : Cal P w K mg base "some_shift_does" ["bounds"] 1 spSome) : Cal P w K mg base "range_of" ["desk", "given"] 2 (spRangeC C) := by
 refine D.cal sc_range_of (λ _ _ _ _ _ _ us hl => match us, hl with | [_, _], _ => rfl) (λ vs H Q E h => h.choose_spec.len) (λ f cdv A outer s H vs Q E hr h => ?_)
 obtain ⟨h, d, g, l, u, s, rs, rfl, DA, o, hg, _, _, _, k⟩ := h
 obtain ⟨dx, hd⟩ := DA.obj
 refine ⟨_, (pss_cons (ps_set (i := 2) sc_range_of.nd rfl (.inl rfl) (pe_ix ix_list (pv 1) pe_int (λ _ _ => rfl)))
   (pss_cons (ps_if (pt_not (pt_val (pe_cal c_is_width (up hr) rfl (pa_cons (pv 2) pa_nil)))) (pss_one (ps_ret (pe_lst (pa_cons (pe_gint T.OUT_OF_RANGE rfl) pa_nil)))) pss_nil)
   (pss_cons (ps_set (i := 3) sc_range_of.nd rfl (.inl rfl) (pe_cal c_shift_bounds (up hr) rfl (pa_cons (pe_fld (pv 0) rfl) (pa_cons (pe_fld (pv 0) rfl) (pa_cons (pv 2) pa_nil)))))
   (pss_cons (ps_if (pt_cmp (pc_isN (pv 3))) (pss_one (ps_ret (pe_lst (pa_cons pe_int pa_nil)))) pss_nil)
   (pss_cons (ps_if (pt_not (pt_val (pe_cal c_some_shift_does (up hr) rfl (pa_cons (pv 3) pa_nil)))) (pss_one (ps_ret (pe_lst (pa_cons pe_int pa_nil)))) pss_nil)
   (pss_one (ps_ret (pe_lst (pa_cons pe_int (pa_cons (pe_ix ix_tup (pv 3) pe_int (λ _ _ => rfl)) (pa_cons (pe_ix ix_tup (pv 3) pe_int (λ _ _ => rfl)) pa_nil))))))))))), ?_⟩
 refine ⟨_, rfl, g, _, _, _, rfl, rfl, SqL.of hg, at_of (j := 0) rfl rfl, _, rfl, h, rfl, _, rfl, ?_⟩
 cases e : Vbpcao.within h 0 1000 with
 | false =>
  refine iteT ⟨sz1, λ p hp => ?_⟩
  exact done1 DA k (range_no e) (Same.refl H) hp
 | true =>
  refine iteF ?_
  have eh := within_iff.mp e
  refine ⟨_, rfl, d, C, dx, _, _, rfl, hd, TC.cl, TC.nLo, deskF_lo l u, _, rfl, d, C, dx, _, _, rfl, hd, TC.cl, TC.nUp, deskF_up l u, _, rfl, l, u, s, h.toNat, by rw [show ((h.toNat : Nat) : Int) = h by omega]; rfl, DA.lo, DA.up, o.len, by omega, λ H1 v s1 bv => ⟨_, rfl, _, rfl, ?_⟩⟩
  cases n : Vbpcao.range s h.toNat with
  | none =>
   rw [n] at bv
   have ev : v = .non := bv
   subst ev
   refine iteT ⟨sz1, λ p hp => ?_⟩
   exact done1 DA k (range_two e n) s1 hp
  | some r =>
   rw [n] at bv
   obtain ⟨t, rfl, ht⟩ := bv
   refine iteF ?_
   refine ⟨_, rfl, V.ref t, some r, rfl, ⟨t, rfl, ht⟩, _, rfl, ?_⟩
   obtain ⟨lo, hi⟩ := r
   by_cases ol : lo <= hi
   ·have eo : Vbpcao.open_ (some (lo, hi)) = true := decide_eq_true ol
    rw [eo]
    refine iteF ?_
    refine ⟨_, rfl, t, _, _, _, rfl, rfl, SqT.of ht, at_of (j := 0) rfl rfl, _, rfl, t, _, _, _, rfl, rfl, SqT.of ht, at_of (j := 1) rfl rfl, sz1, λ p hp => ?_⟩
    exact done1 DA k (range_one e n ol) s1 hp
   ·have eo : Vbpcao.open_ (some (lo, hi)) = false := decide_eq_false ol
    rw [eo]
    refine iteT ⟨sz1, λ p hp => ?_⟩
    exact done1 DA k (range_zero e n ol) s1 hp
def spBestC (C : Addr) : Sp := CallSp C [] noRows .best
theorem sc_best : FnScope ["desk", "given", "h", "bounds"] ["desk", "given"] (defScope s_best) := ⟨rfl, rfl, rfl, by decide +kernel, rfl, by decide +kernel, by decide +kernel⟩
theorem ok_best {C : Addr} (D : Def K mg "best" s_best) (T : Txt mg) (TC : DeskC K C) (c_shift_bounds : Cal P w K mg base "shift_bounds" ["lower", "upper", "h"] 1 spBounds) (c_some_shift_does : Cal P w K mg base "some_shift_does" ["bounds"] 1 spSome) : Cal P w K mg base "best" ["desk", "given"] 2 (spBestC C) := by
 refine D.cal sc_best (λ _ _ _ _ _ _ us hl => match us, hl with | [_, _], _ => rfl) (λ vs H Q E h => h.len) (λ f cdv A outer s H vs Q E hr h => ?_)
 obtain ⟨d, g, l, u, s, rs, rfl, DA, o, hg, _, _, _, k⟩ := h
 obtain ⟨dx, hd⟩ := DA.obj
 have hlen := o.len
 refine ⟨_, (pss_cons (ps_set (i := 2) sc_best.nd rfl (.inl rfl) pe_int)
   (pss_cons (ps_set (i := 3) sc_best.nd rfl (.inl rfl) (pe_cal c_shift_bounds (up hr) rfl (pa_cons (pe_fld (pv 0) rfl) (pa_cons (pe_fld (pv 0) rfl) (pa_cons (pv 2) pa_nil)))))
   (pss_cons (ps_while PassesOwn.never (pt_not (pt_val (pe_cal c_some_shift_does (up hr) rfl (pa_cons (pv 3) pa_nil)))) (pss_cons (ps_aug (i := 2) sc_best.nd rfl (.inl rfl) pe_int ip_add)
   (pss_one (ps_set (i := 3) sc_best.nd rfl (.inl rfl) (pe_cal c_shift_bounds (up hr) rfl (pa_cons (pe_fld (pv 0) rfl) (pa_cons (pe_fld (pv 0) rfl) (pa_cons (pv 2) pa_nil))))))))
   (pss_cons (ps_if (pt_cmp (pc_isN (pv 3))) (pss_one (ps_ret (pe_lst (pa_cons (pv 2) pa_nil)))) pss_nil)
   (pss_one (ps_ret (pe_lst (pa_cons (pv 2) (pa_cons (pe_ix ix_tup (pv 3) pe_int (λ _ _ => rfl)) (pa_cons (pe_ix ix_tup (pv 3) pe_int (λ _ _ => rfl)) pa_nil)))))))))), ?_⟩
 refine ⟨_, rfl, d, C, dx, _, _, rfl, hd, TC.cl, TC.nLo, deskF_lo l u, _, rfl, d, C, dx, _, _, rfl, hd, TC.cl, TC.nUp, deskF_up l u, _, rfl, l, u, s, 0, rfl, DA.lo, DA.up, o.len, by omega, λ H0 v0 s0 bv0 => ?_⟩
 refine ⟨λ m σ H' => ∃ (j : Nat) (v : V), m = 64 - j /\ j <= s.length /\ σ = [some (.ref d), some (.ref g), some (.int j), some v] /\ Same H H' /\ BV H' v (Vbpcao.range s j) /\ ∀ i, i < j -> Vbpcao.open_ (Vbpcao.range s i) = false,
  ⟨64, 0, v0, rfl, Nat.zero_le _, rfl, s0, bv0, λ i hi => absurd hi (Nat.not_lt_zero _)⟩, ?_⟩
 rintro m σ H' ⟨j, v, rfl, hj, rfl, s1, bv, hf⟩
 refine ⟨_, rfl, v, _, rfl, bv, _, rfl, ?_⟩
 cases eo : Vbpcao.open_ (Vbpcao.range s j) with
 | false =>
  have hlt : j < s.length := by
   rcases Nat.lt_or_ge j s.length with z | z
   ·exact z
   ·rw [range_none z] at eo; cases eo
  have DA1 := DA.same s1
  refine iteT ⟨_, λ _ _ h => h, _, rfl, _, _, rfl, rfl, _, rfl, d, C, dx, _, _, rfl, s1 _ _ hd, TC.cl, TC.nLo, deskF_lo l u, _, rfl, d, C, dx, _, _, rfl, s1 _ _ hd, TC.cl, TC.nUp, deskF_up l u, _, rfl, l, u, s, j + 1, rfl, DA1.lo, DA1.up, o.len, by omega, λ H2 v2 s2 bv2 => ?_⟩
  refine ⟨64 - (j + 1), by omega, j + 1, v2, rfl, hlt, rfl, s1.trans s2, bv2, λ i hi => ?_⟩
  by_cases e : i = j
  ·rw [e]; exact eo
  ·exact hf i (by omega)
 | true =>
  refine iteF ?_
  have eb := best_eq eo hf
  refine ⟨_, rfl, _, rfl, ?_⟩
  cases n : Vbpcao.range s j with
  | none =>
   rw [n] at bv
   have ev : v = .non := bv
   subst ev
   refine iteT ⟨_, rfl, sz1, λ p hp => ?_⟩
   exact done1 DA k (best_all eb n) s1 hp
  | some r =>
   rw [n] at bv
   obtain ⟨t, rfl, ht⟩ := bv
   refine iteF ?_
   refine ⟨_, rfl, _, rfl, t, _, _, _, rfl, rfl, SqT.of ht, at_of (j := 0) rfl rfl, _, rfl, t, _, _, _, rfl, rfl, SqT.of ht, at_of (j := 1) rfl rfl, sz1, λ p hp => ?_⟩
   exact done1 DA k (best_two eb n) s1 hp
theorem deskF_len (l u : Addr) : (deskF l u).length < 1000 := by
 have h1 := length_putF "lower_pins" (.ref l) []
 have h2 := length_putF "upper_pins" (.ref u) (putF "lower_pins" (.ref l) [])
 unfold deskF
 simp only [List.length_nil] at h1
 omega
theorem After.put {C : Addr} {H H1 : Hp} {d l u l' u' dx : Addr} {fs : List (Str × V)} {F : Addr -> Prop} {s' : State} (s1 : Same H H1) (hd : H d = some (.ins C dx fs)) (hl : LI H1 l' (lows s')) (hu : LI H1 u' (ups s')) (ne : l' ≠ u')
  (nl : l' = l ∨ l' = u ∨ H l' = Option.none ∨ F l') (nu : u' = l ∨ u' = u ∨ H u' = Option.none ∨ F u') : After C H d l u F s' (upd H1 d (.ins C dx (deskF l' u'))) l' u' := by
 have hd1 := s1 _ _ hd
 refine ⟨⟨⟨dx, upd_same⟩, ?_, ?_, ne⟩, λ b o e h1 _ _ => by rw [upd_ne h1]; exact s1 _ _ e, nl, nu⟩
 ·unfold LI
  rw [upd_ne (ne_of hl hd1 (λ z => nomatch z))]
  exact hl
 ·unfold LI
  rw [upd_ne (ne_of hu hd1 (λ z => nomatch z))]
  exact hu
theorem After.more {C : Addr} {H H1 H2 : Hp} {d l u l' u' : Addr} {F : Addr -> Prop} {s' : State} (a : After C H d l u F s' H1 l' u') (e : Same H1 H2) : After C H d l u F s' H2 l' u' :=
 ⟨a.desk.same e, λ b o h h1 h2 h3 => e _ _ (a.keep b o h h1 h2 h3), a.nl, a.nu⟩
theorem changed {C : Addr} {H H1 : Hp} {d l u l' u' p : Addr} {F : Addr -> Prop} {s s' : State} {c : Vbpcao.Call} {Q : VK} {ans : List Int}
  (k : ∀ (H' : Hp) (p l' u' : Addr), After C H d l u F (Vbpcao.step s c).1 H' l' u' -> H p = Option.none -> LI H' p (Vbpcao.step s c).2 -> Q (.ref p) H') (e : Vbpcao.step s c = (s', ans)) (a : After C H d l u F s' H1 l' u')
  (hp : H1 p = Option.none) (hH : H1 p = Option.none -> H p = Option.none) : Q (.ref p) (upd H1 p (.lst (ans.map V.int))) := by
 refine k _ p l' u' ?_ (hH hp) ?_
 ·rw [e]; exact a.more (same_new hp)
 ·rw [e]; exact upd_same
theorem free_upd {H H1 : Hp} {d p : Addr} {o : HO} (s1 : Same H H1) (h : upd H1 d o p = Option.none) : H p = Option.none := by
 by_cases e : p = d
 ·subst e; rw [upd_same] at h; cases h
 ·rw [upd_ne e] at h; exact s1.free h
theorem cut_to {xs : List V} {c : Nat} (h : c <= xs.length) : cutV xs Option.none (some (c : Int)) = xs.take c := by
 unfold cutV
 rw [HT.sIx_nat, HT.sIx_none, List.drop_zero, Nat.min_eq_left h, Nat.sub_zero]
theorem cut_from {xs : List V} {c : Nat} (h : c <= xs.length) : cutV xs (some (c : Int)) Option.none = xs.drop c := by
 unfold cutV
 rw [HT.sIx_nat, HT.sIx_none, Nat.min_eq_left h, List.take_of_length_le]
 rw [List.length_drop]
 exact Nat.le_refl _
theorem cat3 {K : PySem.W.Frag} {C d a dx : Addr} {fs : List (Str × V)} {f : Str} {σ : L2.St} {H : Hp} {Q : VK} {i j : Nat} {te2 : TE} {ns : List Int} {c c2 : Nat} {v : Int} (h0 : σ[0]? = some (some (.ref d))) (hi : σ[i]? = some (some (.int c))) (hj : σ[j]? = some (some (.int v)))
  (hd : H d = some (.ins C dx fs)) (cl : Cls K C) (na : NoAttr K C f) (lk : fs.lookup f = some (.ref a)) (ha : LI H a ns) (hn : ns.length <= 1000) (hc : c <= ns.length) (hc2 : c2 <= ns.length) (ht2 : ∀ (H1 : Hp) (Q : VK), Q (.int c2) H1 -> te2 σ H1 Q)
  (k : ∀ (H' : Hp) (p : Addr), Same H H' -> H p = Option.none -> LI H' p (ns.take c ++ [v] ++ ns.drop c2) -> Q (.ref p) H') :
  tOp rCat (tOp rCat (tSl (rSlL K) (tFld K (tVar 0) f) tNoPart (tPart (tVar i))) (tLst (tCons (tVar j) tNil))) (tSl (rSlL K) (tFld K (tVar 0) f) (tPart te2) tNoPart) σ H Q := by
 have hlen : (ns.map V.int).length = ns.length := List.length_map ..
 refine ⟨_, h0, d, C, dx, _, _, rfl, hd, cl, na, lk, _, hi, _, rfl, a, _, rfl, SqL.of ha, λ p1 n1 => ?_⟩
 rw [cut_to (by rw [hlen]; exact hc)]
 have s1 := same_new (o := .lst ((ns.map V.int).take c)) n1
 refine ⟨_, hj, sz1, λ p2 n2 => ?_⟩
 have s2 := same_new (o := .lst [V.int v]) n2
 refine ⟨p1, p2, _, _, rfl, rfl, s2 _ _ upd_same, upd_same, by rw [lnt, hlen, sizeLine_eq]; simp; omega, λ p3 n3 => ?_⟩
 have s3 := same_new (o := .lst ((ns.map V.int).take c ++ [V.int v])) n3
 have s13 := (s1.trans s2).trans s3
 refine ⟨_, h0, d, C, dx, _, _, rfl, s13 _ _ hd, cl, na, lk, ht2 _ _ ⟨_, rfl, a, _, rfl, SqL.of (s13 _ _ ha), λ p4 n4 => ?_⟩⟩
 rw [cut_from (by rw [hlen]; exact hc2)]
 have s4 := same_new (o := .lst ((ns.map V.int).drop c2)) n4
 refine ⟨p3, p4, _, _, rfl, rfl, s4 _ _ upd_same, upd_same, by rw [lna, lnt, List.length_drop, hlen, sizeLine_eq]; simp; omega, λ p5 n5 => ?_⟩
 have s14 := s13.trans s4
 refine k _ p5 (s14.trans (same_new n5)) (s14.free n5) ?_
 unfold LI
 rw [upd_same, List.map_append, List.map_append, List.map_take, List.map_drop]
 rfl
def spTurnC (C : Addr) : Sp := CallSp C [] noRows .turn
theorem sc_turn : FnScope ["desk", "given", "lower"] ["desk", "given"] (defScope s_turn) := ⟨rfl, rfl, rfl, by decide +kernel, rfl, by decide +kernel, by decide +kernel⟩
theorem ok_turn {C : Addr} (D : Def K mg "turn" s_turn) (T : Txt mg) (TC : DeskC K C) : Cal P w K mg base "turn" ["desk", "given"] 1 (spTurnC C) := by
 refine D.cal sc_turn (λ _ _ _ _ _ _ us hl => match us, hl with | [_, _], _ => rfl) (λ vs H Q E h => h.len) (λ f cdv A outer s H vs Q E hr h => ?_)
 obtain ⟨d, g, l, u, s, rs, rfl, DA, o, hg, _, _, _, k⟩ := h
 obtain ⟨dx, hd⟩ := DA.obj
 refine ⟨_, (pss_cons (ps_set (i := 2) sc_turn.nd rfl (.inl rfl) (pe_fld (pv 0) rfl))
   (pss_cons (ps_fld (pv 0) (pe_fld (pv 0) rfl) rfl)
   (pss_cons (ps_fld (pv 0) (pv 2) rfl)
   (pss_one (ps_ret (pe_lst (pa_cons pe_int pa_nil))))))), ?_⟩
 refine ⟨_, rfl, d, C, dx, _, _, rfl, hd, TC.cl, TC.nLo, deskF_lo l u, _, rfl, d, C, dx, _, _, rfl, hd, TC.cl, TC.nUp, deskF_up l u, _, rfl, d, C, dx, _, rfl, hd, TC.cl, TC.nLo, deskF_len l u, ?_⟩
 rw [deskF_put_lo]
 refine ⟨_, rfl, _, rfl, d, C, dx, _, rfl, upd_same, TC.cl, TC.nUp, deskF_len u u, ?_⟩
 rw [deskF_put_up, upd_upd]
 refine ⟨sz1, λ p hp => ?_⟩
 refine changed k rfl (After.put (Same.refl H) hd (by rw [(turn_rows s).1]; exact DA.up) (by rw [(turn_rows s).2]; exact DA.lo) (λ e => DA.ne e.symm) (.inr (.inl rfl)) (.inl rfl)) hp (free_upd (Same.refl H))
def addV (d : Int) : V -> V
 | .int n => .int (n + d)
 | v => v
def spShiftC (C : Addr) : Sp := λ vs H Q E => ∃ n : Int, CallSp C [n] noRows (.shift n) vs H Q E
theorem sc_shift : FnScope ["desk", "given", "d", "upper", "pin"] ["desk", "given"] (defScope s_shift) := ⟨rfl, rfl, rfl, by decide +kernel, rfl, by decide +kernel, by decide +kernel⟩
theorem ok_shift {C : Addr} (D : Def K mg "shift" s_shift) (T : Txt mg) (TC : DeskC K C) (c_is_pin : Cal P w K mg base "is_pin" ["number"] 1 spPin) : Cal P w K mg base "shift" ["desk", "given"] 2 (spShiftC C) := by
 refine D.cal sc_shift (λ _ _ _ _ _ _ us hl => match us, hl with | [_, _], _ => rfl) (λ vs H Q E h => h.choose_spec.len) (λ f cdv A outer s H vs Q E hr h => ?_)
 obtain ⟨n, d, g, l, u, s, rs, rfl, DA, o, hg, _, _, _, k⟩ := h
 obtain ⟨dx, hd⟩ := DA.obj
 have hlen := o.len
 have hul : ((ups s).map V.int).length = s.length := by rw [lnm, ups_len]
 refine ⟨_, (pss_cons (ps_set (i := 2) sc_shift.nd rfl (by first|exact .inl rfl|exact .inr rfl) (pe_ix ix_list (pv 1) pe_int (λ _ _ => rfl)))
   (pss_cons (ps_setLc (i := 3) rfl sc_shift.nd rfl rfl (sw_true rfl rfl rfl (by decide +kernel)) (pi_list (pe_fld (pv 0) rfl)) (blkOk_by (own := [("pin", 4)]) (by kernel_rfl)) (λ _ _ _ _ _ => (pg_name (i := 4) sc_shift.nd rfl (by first|exact .inl rfl|exact .inr rfl))) (λ _ _ _ _ _ => pts_nil) (λ _ _ _ _ _ => (pe_op op_add (pv 4) (pv 2))))
   (pss_cons (ps_if (pt_not (pt_val (pe_callB (cr_all rfl) (by rfl) T.all boot_all (pa_cons (pe_lc rfl sc_shift.nd (pi_list (pv 3)) (blkOk_by (own := [("pin", 4)]) (by kernel_rfl)) (λ _ _ _ _ _ => (pg_name (i := 4) sc_shift.nd rfl (by first|exact .inl rfl|exact .inr rfl))) (λ _ _ _ _ _ => pts_nil) (λ _ _ _ _ _ => (pe_cal c_is_pin (up hr) rfl (pa_cons (pv 4) pa_nil)))) pa_nil)))) (pss_one (ps_ret (pe_lst (pa_cons (pe_gint T.OUT_OF_RANGE rfl) pa_nil)))) pss_nil)
   (pss_cons (ps_fld (pv 0) (pv 3) rfl)
   (pss_one (ps_ret (pe_lst (pa_cons pe_int pa_nil)))))))), ?_⟩
 refine ⟨_, rfl, g, _, _, _, rfl, rfl, SqL.of hg, at_of (j := 0) rfl rfl, _, rfl, d, C, dx, _, _, rfl, hd, TC.cl, TC.nUp, deskF_up l u, u, rfl, ⟨_, SqL.of DA.up⟩, λ D1 n1 => lc_listV (K := K) (xs := (ups s).map V.int) (λ _ => true) (addV n) (SqL.of DA.up) n1 (by rw [hul]; omega) (λ i x H' R N hx s1 h1 h2 => ?_) (λ H1 s1 hD1 => ?_)⟩
 ·obtain ⟨z, hz, rfl⟩ := int_of hx
  exact ⟨rfl, iteT (B := N H') ⟨_, rfl, _, rfl, _, _, rfl, rfl, h1 rfl⟩⟩
 rw [List.filter_eq_self.mpr (λ _ _ => rfl)] at hD1
 have hD : LI H1 D1 ((ups s).map (· + n)) := by
  unfold LI
  rw [hD1, List.map_map, List.map_map]
  rfl
 refine ⟨_, rfl, D1, rfl, ⟨_, SqL.of hD⟩, λ D2 n2 => lc_listV (K := K) (xs := ((ups s).map (· + n)).map V.int) (λ _ => true) pinV (SqL.of hD) n2 (by rw [lnm, lnm, ups_len]; omega) (λ i x H' R N hx s2 h1 h2 => ?_) (λ H2 s2 hD2 => ?_)⟩
 ·obtain ⟨z, hz, rfl⟩ := int_of hx
  exact ⟨rfl, iteT (B := N H') ⟨_, rfl, z, rfl, h1 rfl⟩⟩
 rw [List.filter_eq_self.mpr (λ _ _ => rfl)] at hD2
 have eD : H2 D2 = some (.lst ((((ups s).map (· + n)).map Vbpcao.inRange).map V.bl)) := by
  rw [hD2]
  simp only [List.map_map]
  rfl
 have s12 := s1.trans s2
 refine ⟨D2, _, rfl, SqL.of eD, _, rfl, ?_⟩
 have ea : (((ups s).map (· + n)).map Vbpcao.inRange).all id = ((ups s).map (· + n)).all Vbpcao.inRange := by rw [List.all_map]; rfl
 rw [ea]
 cases e : ((ups s).map (· + n)).all Vbpcao.inRange with
 | false =>
  refine iteT ⟨sz1, λ p hp => ?_⟩
  exact done1 DA k (shift_no e) s12 hp
 | true =>
  refine iteF ?_
  refine ⟨_, rfl, _, rfl, d, C, dx, _, rfl, s12 _ _ hd, TC.cl, TC.nUp, deskF_len l u, ?_⟩
  rw [deskF_put_up]
  refine ⟨sz1, λ p hp => ?_⟩
  refine changed k (shift_ok o.g e).1 (After.put s12 hd ?_ ?_ (ne_of_none DA.lo n1) (.inl rfl) (.inr (.inr (.inl n1)))) hp (free_upd s12)
  ·rw [shift_lows]; exact s12 _ _ DA.lo
  ·rw [shift_ups]; exact s2 _ _ hD
def spMoveC (C : Addr) : Sp := λ vs H Q E => ∃ i a : Int, CallSp C [i, a] noRows (.move i a) vs H Q E
theorem set_cut {l : List Int} {i : Nat} {a : Int} (h : i < l.length) : l.take i ++ [a] ++ l.drop (i + 1) = l.set i a := by
 rw [List.set_eq_take_append_cons_drop, if_pos h, List.append_assoc]
 rfl
theorem sc_move : FnScope ["desk", "given", "net", "a", "upper"] ["desk", "given"] (defScope s_move) := ⟨rfl, rfl, rfl, by decide +kernel, rfl, by decide +kernel, by decide +kernel⟩
theorem ok_move {C : Addr} (D : Def K mg "move" s_move) (T : Txt mg) (TC : DeskC K C) (c_has_net : Cal P w K mg base "has_net" ["desk", "net"] 1 (spHas C)) (c_is_pin : Cal P w K mg base "is_pin" ["number"] 1 spPin) (c_rises_strictly : Cal P w K mg base "rises_strictly" ["row"] 1 spRises) : Cal P w K mg base "move" ["desk", "given"] 2 (spMoveC C) := by
 refine D.cal sc_move (λ _ _ _ _ _ _ us hl => match us, hl with | [_, _], _ => rfl) (λ vs H Q E h => h.choose_spec.choose_spec.len) (λ f cdv A outer s H vs Q E hr h => ?_)
 obtain ⟨i, a, d, g, l, u, s, rs, rfl, DA, o, hg, _, _, _, k⟩ := h
 obtain ⟨dx, hd⟩ := DA.obj
 have hlen := o.len
 refine ⟨_, (pss_cons (ps_set (i := 2) sc_move.nd rfl (.inl rfl) (pe_ix ix_list (pv 1) pe_int (λ _ _ => rfl)))
   (pss_cons (ps_set (i := 3) sc_move.nd rfl (.inl rfl) (pe_ix ix_list (pv 1) pe_int (λ _ _ => rfl)))
   (pss_cons (ps_if (pt_not (pt_val (pe_cal c_has_net (up hr) rfl (pa_cons (pv 0) (pa_cons (pv 2) pa_nil))))) (pss_one (ps_ret (pe_lst (pa_cons (pe_gint T.NO_SUCH_NET rfl) pa_nil)))) pss_nil)
   (pss_cons (ps_if (pt_not (pt_val (pe_cal c_is_pin (up hr) rfl (pa_cons (pv 3) pa_nil)))) (pss_one (ps_ret (pe_lst (pa_cons (pe_gint T.OUT_OF_RANGE rfl) pa_nil)))) pss_nil)
   (pss_cons (ps_set (i := 4) sc_move.nd rfl (.inl rfl) (pe_op op_cat (pe_op op_cat (pe_slice sl_list (pe_fld (pv 0) rfl) po_none (po_some (pv 2))) (pe_lst (pa_cons (pv 3) pa_nil))) (pe_slice sl_list (pe_fld (pv 0) rfl) (po_some (pe_op op_add (pv 2) pe_int)) po_none)))
   (pss_cons (ps_if (pt_not (pt_val (pe_cal c_rises_strictly (up hr) rfl (pa_cons (pv 4) pa_nil)))) (pss_one (ps_ret (pe_lst (pa_cons (pe_gint T.BAD_ROWS rfl) pa_nil)))) pss_nil)
   (pss_cons (ps_fld (pv 0) (pv 4) rfl)
   (pss_one (ps_ret (pe_lst (pa_cons pe_int pa_nil))))))))))), ?_⟩
 refine ⟨_, rfl, g, _, _, _, rfl, rfl, SqL.of hg, at_of (j := 0) rfl rfl, _, rfl, g, _, _, _, rfl, rfl, SqL.of hg, at_of (j := 1) rfl rfl, _, rfl, _, rfl, d, l, u, s, i, rfl, DA, _, rfl, ?_⟩
 by_cases hi : 0 <= i /\ i < (s.length : Int)
 ·rw [decide_eq_true hi]
  refine iteF ?_
  refine ⟨_, rfl, a, rfl, _, rfl, ?_⟩
  cases hr' : Vbpcao.inRange a with
  | false =>
   refine iteT ⟨sz1, λ p hp => ?_⟩
   exact done1 DA k (move_range hi hr') (Same.refl H) hp
  | true =>
   refine iteF ?_
   have hin : i.toNat < (ups s).length := by rw [ups_len]; omega
   refine cat3 (C := C) (d := d) (a := u) (dx := dx) (c := i.toNat) (c2 := i.toNat + 1) (v := a) (ns := ups s) rfl (by show some (some (V.int i)) = _; rw [show ((i.toNat : Nat) : Int) = i by omega]) rfl hd TC.cl TC.nUp (deskF_up l u) DA.up (by rw [ups_len]; omega) (by omega) (by omega) (λ H1 Q h => ⟨_, rfl, _, _, rfl, rfl, ?_⟩) (λ H1 p1 s1 n1 hp1 => ?_)
   ·have : (((i.toNat + 1 : Nat) : Nat) : Int) = i + 1 := by omega
    rw [this] at h
    exact h
   rw [set_cut hin] at hp1
   refine ⟨_, rfl, p1, _, rfl, hp1, by rw [List.length_set, ups_len]; omega, λ H2 s2 => ⟨_, rfl, ?_⟩⟩
   have s12 := s1.trans s2
   cases hb : Vbpcao.rises ((ups s).set i.toNat a) with
   | false =>
    refine iteT ⟨sz1, λ p hp => ?_⟩
    exact done1 DA k (move_bad o.g hi hr' hb) s12 hp
   | true =>
    refine iteF ?_
    refine ⟨_, rfl, _, rfl, d, C, dx, _, rfl, s12 _ _ hd, TC.cl, TC.nUp, deskF_len l u, ?_⟩
    rw [deskF_put_up]
    refine ⟨sz1, λ p hp => ?_⟩
    obtain ⟨t, et, e1, e2, _, _⟩ := move_ok o.g hi hr' hb
    refine changed k et (After.put s12 hd ?_ ?_ (ne_of_none DA.lo n1) (.inl rfl) (.inr (.inr (.inl n1)))) hp (free_upd s12)
    ·rw [e1]; exact s12 _ _ DA.lo
    ·rw [e2]; exact s2 _ _ hp1
 ·rw [decide_eq_false hi]
  refine iteT ⟨sz1, λ p hp => ?_⟩
  exact done1 DA k (move_no hi) (Same.refl H) hp
def pinRows (bs as : List Int) : Hp -> List Addr -> Prop := λ H rs => ∃ r1 r2, rs = [r1, r2] /\ r1 ≠ r2 /\ LI H r1 bs /\ LI H r2 as /\ bs.length <= 10000 /\ as.length <= 10000
def spPinsC (C : Addr) : Sp := λ vs H Q E => ∃ bs as : List Int, CallSp C [] (pinRows bs as) (.pins bs as) vs H Q E
theorem sc_pins : FnScope ["desk", "given", "lower", "upper"] ["desk", "given"] (defScope s_pins) := ⟨rfl, rfl, rfl, by decide +kernel, rfl, by decide +kernel, by decide +kernel⟩
theorem ok_pins {C : Addr} (D : Def K mg "pins" s_pins) (T : Txt mg) (TC : DeskC K C) (c_is_pin_row : Cal P w K mg base "is_pin_row" ["row"] 2 spPinRow) : Cal P w K mg base "pins" ["desk", "given"] 3 (spPinsC C) := by
 refine D.cal sc_pins (λ _ _ _ _ _ _ us hl => match us, hl with | [_, _], _ => rfl) (λ vs H Q E h => h.choose_spec.choose_spec.len) (λ f cdv A outer s H vs Q E hr h => ?_)
 obtain ⟨bs, as, d, g, l, u, s, rs, rfl, DA, o, hg, _, _, ⟨r1, r2, rfl, ne, h1, h2, b1, b2⟩, k⟩ := h
 obtain ⟨dx, hd⟩ := DA.obj
 have l1 : (bs.map V.int).length = bs.length := List.length_map ..
 have l2 : (as.map V.int).length = as.length := List.length_map ..
 refine ⟨_, (pss_cons (ps_set (i := 2) sc_pins.nd rfl (.inl rfl) (pe_ix ix_list (pv 1) pe_int (λ _ _ => rfl)))
   (pss_cons (ps_set (i := 3) sc_pins.nd rfl (.inl rfl) (pe_ix ix_list (pv 1) pe_int (λ _ _ => rfl)))
   (pss_cons (ps_if (PW.pt (pw_or (pt_cmpR op_ne (pe_callB call_len_seq (by rfl) T.len PySem.boot_len (pa_cons (pv 2) pa_nil)) (pe_callB call_len_seq (by rfl) T.len PySem.boot_len (pa_cons (pv 3) pa_nil)) (nomark _)) (pw_or1 (pt_cmpR op_gt (pe_callB call_len_seq (by rfl) T.len PySem.boot_len (pa_cons (pv 2) pa_nil)) (pe_gint T.MOST_NETS rfl) (nomark _))))) (pss_one (ps_ret (pe_lst (pa_cons (pe_gint T.BAD_ROWS rfl) pa_nil)))) pss_nil)
   (pss_cons (ps_if (PW.pt (pw_or (pt_not (pt_val (pe_cal c_is_pin_row (up hr) rfl (pa_cons (pv 2) pa_nil)))) (pw_or1 (pt_not (pt_val (pe_cal c_is_pin_row (up hr) rfl (pa_cons (pv 3) pa_nil))))))) (pss_one (ps_ret (pe_lst (pa_cons (pe_gint T.BAD_ROWS rfl) pa_nil)))) pss_nil)
   (pss_cons (ps_fld (pv 0) (pv 2) rfl)
   (pss_cons (ps_fld (pv 0) (pv 3) rfl)
   (pss_one (ps_ret (pe_lst (pa_cons (pe_callB call_len_seq (by rfl) T.len PySem.boot_len (pa_cons (pv 2) pa_nil)) pa_nil)))))))))), ?_⟩
 refine ⟨_, rfl, g, _, _, _, rfl, rfl, SqL.of hg, at_of (j := 0) rfl rfl, _, rfl, g, _, _, _, rfl, rfl, SqL.of hg, at_of (j := 1) rfl rfl, ?_⟩
 refine ⟨_, rfl, r1, _, rfl, .inl (SqL.of h1), _, rfl, r2, _, rfl, .inl (SqL.of h2), rfl, _, rfl, ite2 (λ e1 => ?_) (λ e1 => ?_)⟩
 ·have hne : bs.length ≠ as.length := λ q => by rw [l1, l2, q] at e1; simp at e1
  refine iteT ⟨sz1, λ p hp => ?_⟩
  exact done1 DA k (pins_bad λ z => hne z.1) (Same.refl H) hp
 have heq : bs.length = as.length := by
  refine Classical.byContradiction λ z => e1 ?_
  rw [l1, l2, decide_eq_false (λ q => z (by have := V.int.inj q; omega))]
  rfl
 refine ⟨_, rfl, r1, _, rfl, .inl (SqL.of h1), _, _, rfl, rfl, _, rfl, ite2 (λ e2 => ?_) (λ e2 => ?_)⟩
 ·rw [dte, l1] at e2
  refine ⟨sz1, λ p hp => ?_⟩
  exact done1 DA k (pins_bad λ z => by have := z.2.1; omega) (Same.refl H) hp
 rw [dte, l1] at e2
 refine ⟨_, rfl, r1, bs, rfl, h1, by omega, λ H1 s1 => ⟨_, rfl, ?_⟩⟩
 cases p1 : pinRow bs with
 | false =>
  refine iteT (iteT ⟨sz1, λ p hp => ?_⟩)
  exact done1 DA k (pins_bad λ z => by rw [p1] at z; exact absurd z.2.2.1 Bool.false_ne_true) s1 hp
 | true =>
  refine iteF ?_
  refine ⟨_, rfl, r2, as, rfl, s1 _ _ h2, by omega, λ H2 s2 => ⟨_, rfl, ?_⟩⟩
  have s12 := s1.trans s2
  cases p2 : pinRow as with
  | false =>
   refine iteT ⟨sz1, λ p hp => ?_⟩
   exact done1 DA k (pins_bad λ z => by rw [p2] at z; exact absurd z.2.2.2 Bool.false_ne_true) s12 hp
  | true =>
   refine iteF ?_
   refine ⟨_, rfl, _, rfl, d, C, dx, _, rfl, s12 _ _ hd, TC.cl, TC.nLo, deskF_len l u, ?_⟩
   rw [deskF_put_lo]
   refine ⟨_, rfl, _, rfl, d, C, dx, _, rfl, upd_same, TC.cl, TC.nUp, deskF_len r1 u, ?_⟩
   rw [deskF_put_up, upd_upd]
   have hr1 : upd H2 d (.ins C dx (deskF r1 r2)) r1 = some (.lst (bs.map V.int)) := by
    rw [upd_ne (ne_of (s12 _ _ h1) (s12 _ _ hd) (λ z => nomatch z))]
    exact s12 _ _ h1
   refine ⟨_, rfl, r1, _, rfl, .inl (SqL.of hr1), sz1, λ p hp => ?_⟩
   have ho := pins_ok (s := s) heq (by omega) p1 p2
   have := changed k ho.1 (After.put (F := λ a => a ∈ [r1, r2]) s12 hd (by rw [lows_mk heq]; exact s12 _ _ h1) (by rw [ups_mk heq]; exact s12 _ _ h2) ne (.inr (.inr (.inr (by simp)))) (.inr (.inr (.inr (by simp))))) hp (free_upd s12)
   rw [l1]
   exact this
def ltV (b : Int) : V -> Bool
 | .int z => decide (z < b)
 | _ => false
def spAddC (C : Addr) : Sp := λ vs H Q E => ∃ b a : Int, CallSp C [b, a] noRows (.add b a) vs H Q E
theorem sc_add : FnScope ["desk", "given", "b", "a", "net", "lower", "upper", "pin"] ["desk", "given"] (defScope s_add) := ⟨rfl, rfl, rfl, by decide +kernel, rfl, by decide +kernel, by decide +kernel⟩
theorem ok_add {C : Addr} (D : Def K mg "add" s_add) (T : Txt mg) (TC : DeskC K C) (c_is_pin : Cal P w K mg base "is_pin" ["number"] 1 spPin) (c_rises_strictly : Cal P w K mg base "rises_strictly" ["row"] 1 spRises) : Cal P w K mg base "add" ["desk", "given"] 2 (spAddC C) := by
 refine D.cal sc_add (λ _ _ _ _ _ _ us hl => match us, hl with | [_, _], _ => rfl) (λ vs H Q E h => h.choose_spec.choose_spec.len) (λ f cdv A outer s H vs Q E hr h => ?_)
 obtain ⟨b, a, d, g, l, u, s, rs, rfl, DA, o, hg, _, _, _, k⟩ := h
 obtain ⟨dx, hd⟩ := DA.obj
 have hlen := o.len
 have hll : ((lows s).map V.int).length = s.length := by rw [lnm, lows_len]
 refine ⟨_, (pss_cons (ps_set (i := 2) sc_add.nd rfl (by first|exact .inl rfl|exact .inr rfl) (pe_ix ix_list (pv 1) pe_int (λ _ _ => rfl)))
   (pss_cons (ps_set (i := 3) sc_add.nd rfl (by first|exact .inl rfl|exact .inr rfl) (pe_ix ix_list (pv 1) pe_int (λ _ _ => rfl)))
   (pss_cons (ps_if (PW.pt (pw_or (pt_not (pt_val (pe_cal c_is_pin (up hr) rfl (pa_cons (pv 2) pa_nil)))) (pw_or1 (pt_not (pt_val (pe_cal c_is_pin (up hr) rfl (pa_cons (pv 3) pa_nil))))))) (pss_one (ps_ret (pe_lst (pa_cons (pe_gint T.OUT_OF_RANGE rfl) pa_nil)))) pss_nil)
   (pss_cons (ps_set (i := 4) sc_add.nd rfl (by first|exact .inl rfl|exact .inr rfl) (pe_callB call_len_seq (by rfl) T.len PySem.boot_len (pa_cons (pe_lc rfl sc_add.nd (pi_list (pe_fld (pv 0) rfl)) (blkOk_by (own := [("pin", 7)]) (by kernel_rfl)) (λ _ _ _ _ _ => (pg_name (i := 7) sc_add.nd rfl (by first|exact .inl rfl|exact .inr rfl))) (λ _ _ _ _ _ => (pts_one (pt_cmpR op_lt (pv 7) (pv 2) (nomark _)))) (λ _ _ _ _ _ => (pv 7))) pa_nil)))
   (pss_cons (ps_set (i := 5) sc_add.nd rfl (by first|exact .inl rfl|exact .inr rfl) (pe_op op_cat (pe_op op_cat (pe_slice sl_list (pe_fld (pv 0) rfl) po_none (po_some (pv 4))) (pe_lst (pa_cons (pv 2) pa_nil))) (pe_slice sl_list (pe_fld (pv 0) rfl) (po_some (pv 4)) po_none)))
   (pss_cons (ps_set (i := 6) sc_add.nd rfl (by first|exact .inl rfl|exact .inr rfl) (pe_op op_cat (pe_op op_cat (pe_slice sl_list (pe_fld (pv 0) rfl) po_none (po_some (pv 4))) (pe_lst (pa_cons (pv 3) pa_nil))) (pe_slice sl_list (pe_fld (pv 0) rfl) (po_some (pv 4)) po_none)))
   (pss_cons (ps_if (PW.pt (pw_or (pt_not (pt_val (pe_cal c_rises_strictly (up hr) rfl (pa_cons (pv 5) pa_nil)))) (pw_or1 (pt_not (pt_val (pe_cal c_rises_strictly (up hr) rfl (pa_cons (pv 6) pa_nil))))))) (pss_one (ps_ret (pe_lst (pa_cons (pe_gint T.BAD_ROWS rfl) pa_nil)))) pss_nil)
   (pss_cons (ps_if (pt_cmpR op_gt (pe_callB call_len_seq (by rfl) T.len PySem.boot_len (pa_cons (pv 5) pa_nil)) (pe_gint T.MOST_NETS rfl) (nomark _)) (pss_one (ps_ret (pe_lst (pa_cons (pe_gint T.TOO_MANY_NETS rfl) pa_nil)))) pss_nil)
   (pss_cons (ps_fld (pv 0) (pv 5) rfl)
   (pss_cons (ps_fld (pv 0) (pv 6) rfl)
   (pss_one (ps_ret (pe_lst (pa_cons (pv 4) pa_nil)))))))))))))), ?_⟩
 refine ⟨_, rfl, g, _, _, _, rfl, rfl, SqL.of hg, at_of (j := 0) rfl rfl, _, rfl, g, _, _, _, rfl, rfl, SqL.of hg, at_of (j := 1) rfl rfl, _, rfl, b, rfl, _, rfl, ?_⟩
 cases r1 : Vbpcao.inRange b with
 | false =>
  refine iteT (iteT ⟨sz1, λ p hp => ?_⟩)
  exact done1 DA k (add_range λ z => by rw [r1] at z; exact absurd z.1 Bool.false_ne_true) (Same.refl H) hp
 | true =>
  refine iteF ?_
  refine ⟨_, rfl, a, rfl, _, rfl, ?_⟩
  cases r2 : Vbpcao.inRange a with
  | false =>
   refine iteT ⟨sz1, λ p hp => ?_⟩
   exact done1 DA k (add_range λ z => by rw [r2] at z; exact absurd z.2 Bool.false_ne_true) (Same.refl H) hp
  | true =>
   refine iteF ?_
   refine ⟨_, rfl, d, C, dx, _, _, rfl, hd, TC.cl, TC.nLo, deskF_lo l u, l, rfl, ⟨_, SqL.of DA.lo⟩, λ D1 n1 => lc_listV (K := K) (xs := (lows s).map V.int) (ltV b) id (SqL.of DA.lo) n1 (by rw [hll]; omega) (λ i x H' R N hx s1 h1 h2 => ?_) (λ H1 s1 hD1 => ?_)⟩
   ·obtain ⟨z, hz, rfl⟩ := int_of hx
    exact ⟨rfl, _, rfl, _, rfl, _, _, rfl, rfl, _, rfl, ite2 (λ e => ⟨_, rfl, h1 e⟩) (λ e => h2 (Bool.eq_false_iff.mpr e))⟩
   rw [filt_ints] at hD1
   refine ⟨D1, _, rfl, .inl (SqL.of hD1), ?_⟩
   have en : ((((lows s).filter λ z => ltV b (V.int z)).map V.int).length : Int) = (place (lows s) b : Int) := by
    rw [lnm]
    rfl
   rw [en]
   have hpl := place_le (lows s) b
   have hpu : place (lows s) b <= (ups s).length := by rw [ups_len, <- lows_len]; exact hpl
   have DA1 := DA.same s1
   refine cat3 (C := C) (d := d) (a := l) (dx := dx) (c := place (lows s) b) (c2 := place (lows s) b) (v := b) (ns := lows s) rfl rfl rfl (s1 _ _ hd) TC.cl TC.nLo (deskF_lo l u) DA1.lo (by rw [lows_len]; omega) hpl hpl (λ H1 Q h => ⟨_, rfl, h⟩) (λ H2 p1 s2 m1 hp1 => ?_)
   have DA2 := DA1.same s2
   refine cat3 (C := C) (d := d) (a := u) (dx := dx) (c := place (lows s) b) (c2 := place (lows s) b) (v := a) (ns := ups s) rfl rfl rfl (s2 _ _ (s1 _ _ hd)) TC.cl TC.nUp (deskF_up l u) DA2.up (by rw [ups_len]; omega) hpu hpu (λ H1 Q h => ⟨_, rfl, h⟩) (λ H3 p2 s3 m2 hp2 => ?_)
   have s13 := (s1.trans s2).trans s3
   have il : (ins (lows s) (place (lows s) b) b).length = s.length + 1 := by rw [ins_len hpl, lows_len]
   have iu : (ins (ups s) (place (lows s) b) a).length = s.length + 1 := by rw [ins_len hpu, ups_len]
   have hp1' : LI H3 p1 (ins (lows s) (place (lows s) b) b) := s3 _ _ hp1
   have hp2' : LI H3 p2 (ins (ups s) (place (lows s) b) a) := hp2
   refine ⟨_, rfl, p1, _, rfl, hp1', by omega, λ H4 s4 => ⟨_, rfl, ?_⟩⟩
   have s14 := s13.trans s4
   cases e1 : Vbpcao.rises (ins (lows s) (place (lows s) b) b) with
   | false =>
    refine iteT (iteT ⟨sz1, λ p hp => ?_⟩)
    exact done1 DA k (add_bad o.g ⟨r1, r2⟩ (by rw [e1]; rfl)) s14 hp
   | true =>
    refine iteF ?_
    refine ⟨_, rfl, p2, _, rfl, s4 _ _ hp2', by omega, λ H5 s5 => ⟨_, rfl, ?_⟩⟩
    have s15 := s14.trans s5
    cases e2 : Vbpcao.rises (ins (ups s) (place (lows s) b) a) with
    | false =>
     refine iteT ⟨sz1, λ p hp => ?_⟩
     exact done1 DA k (add_bad o.g ⟨r1, r2⟩ (by rw [e1, e2]; rfl)) s15 hp
    | true =>
     refine iteF ?_
     have hp5 : LI H5 p1 (ins (lows s) (place (lows s) b) b) := s5 _ _ (s4 _ _ hp1')
     have hu5 : LI H5 p2 (ins (ups s) (place (lows s) b) a) := s5 _ _ (s4 _ _ hp2')
     have hboth : (Vbpcao.rises (ins (lows s) (place (lows s) b) b) && Vbpcao.rises (ins (ups s) (place (lows s) b) a)) = true := by rw [e1, e2]; rfl
     refine ⟨_, rfl, p1, _, rfl, .inl (SqL.of hp5), _, _, rfl, rfl, _, rfl, ite2 (λ e3 => ?_) (λ e3 => ?_)⟩
     ·rw [dte, lnm, il] at e3
      refine ⟨sz1, λ p hp => ?_⟩
      exact done1 DA k (add_full o.g ⟨r1, r2⟩ hboth (by omega)) s15 hp
     ·rw [dte, lnm, il] at e3
      refine ⟨_, rfl, _, rfl, d, C, dx, _, rfl, s15 _ _ hd, TC.cl, TC.nLo, deskF_len l u, ?_⟩
      rw [deskF_put_lo]
      refine ⟨_, rfl, _, rfl, d, C, dx, _, rfl, upd_same, TC.cl, TC.nUp, deskF_len p1 u, ?_⟩
      rw [deskF_put_up, upd_upd]
      refine ⟨_, rfl, sz1, λ p hp => ?_⟩
      obtain ⟨t, et, t1, t2, _, _⟩ := add_ok o.g ⟨r1, r2⟩ hboth (by omega)
      have f1 : H p1 = Option.none := s1.free m1
      have f2 : H p2 = Option.none := (s1.trans s2).free m2
      refine changed k et (After.put s15 hd (by rw [t1]; exact hp5) (by rw [t2]; exact hu5) (ne_of_none hp1 m2) (.inr (.inr (.inl f1))) (.inr (.inr (.inl f2)))) hp (free_upd s15)
def spAwayC (C : Addr) : Sp := λ vs H Q E => ∃ i : Int, CallSp C [i] noRows (.away i) vs H Q E
theorem seq_at {i : Int} {n : Nat} (h : 0 <= i /\ i < (n : Int)) : seqIndex? i n = some i.toNat := by
 have : ixN n i = some i.toNat := by unfold ixN; rw [if_pos h.1, if_pos h.2]
 exact (ixN_seq this).1
theorem sc_away : FnScope ["desk", "given", "net"] ["desk", "given"] (defScope s_away) := ⟨rfl, rfl, rfl, by decide +kernel, rfl, by decide +kernel, by decide +kernel⟩
theorem ok_away {C : Addr} (D : Def K mg "away" s_away) (T : Txt mg) (TC : DeskC K C) (c_has_net : Cal P w K mg base "has_net" ["desk", "net"] 1 (spHas C)) : Cal P w K mg base "away" ["desk", "given"] 2 (spAwayC C) := by
 refine D.cal sc_away (λ _ _ _ _ _ _ us hl => match us, hl with | [_, _], _ => rfl) (λ vs H Q E h => h.choose_spec.len) (λ f cdv A outer s H vs Q E hr h => ?_)
 obtain ⟨i, d, g, l, u, s, rs, rfl, DA, o, hg, _, _, _, k⟩ := h
 obtain ⟨dx, hd⟩ := DA.obj
 have hlen := o.len
 have hll : ((lows s).map V.int).length = s.length := by rw [lnm, lows_len]
 have hul : ((ups s).map V.int).length = s.length := by rw [lnm, ups_len]
 refine ⟨_, (pss_cons (ps_set (i := 2) sc_away.nd rfl (.inl rfl) (pe_ix ix_list (pv 1) pe_int (λ _ _ => rfl)))
   (pss_cons (ps_if (pt_not (pt_val (pe_cal c_has_net (up hr) rfl (pa_cons (pv 0) (pa_cons (pv 2) pa_nil))))) (pss_one (ps_ret (pe_lst (pa_cons (pe_gint T.NO_SUCH_NET rfl) pa_nil)))) pss_nil)
   (pss_cons (ps_expr (pe_bm PySem.F.plainAttrs_list PySem.F.slot_list_pop PySem.F.type_list_pop mt_popAt (pe_fld (pv 0) rfl) (pa_cons (pv 2) pa_nil)))
   (pss_cons (ps_expr (pe_bm PySem.F.plainAttrs_list PySem.F.slot_list_pop PySem.F.type_list_pop mt_popAt (pe_fld (pv 0) rfl) (pa_cons (pv 2) pa_nil)))
   (pss_one (ps_ret (pe_lst (pa_cons pe_int pa_nil)))))))), ?_⟩
 refine ⟨_, rfl, g, _, _, _, rfl, rfl, SqL.of hg, at_of (j := 0) rfl rfl, _, rfl, _, rfl, d, l, u, s, i, rfl, DA, _, rfl, ?_⟩
 by_cases hi : 0 <= i /\ i < (s.length : Int)
 ·rw [decide_eq_true hi]
  refine iteF ?_
  have hin : i.toNat < s.length := by omega
  refine ⟨_, rfl, d, C, dx, _, _, rfl, hd, TC.cl, TC.nLo, deskF_lo l u, .inl ⟨rfl, _, SqL.of DA.lo⟩, _, rfl, l, _, i, i.toNat, _, rfl, rfl, DA.lo, by omega, by omega, by rw [hll]; exact seq_at hi, lo_at hin, ?_⟩
  have ndl : d ≠ l := ne_of hd DA.lo (λ z => nomatch z)
  have ndu : d ≠ u := ne_of hd DA.up (λ z => nomatch z)
  have hd1 : upd H l (.lst (((lows s).map V.int).eraseIdx i.toNat)) d = some (.ins C dx (deskF l u)) := by rw [upd_ne ndl]; exact hd
  have hu1 : upd H l (.lst (((lows s).map V.int).eraseIdx i.toNat)) u = some (.lst ((ups s).map V.int)) := by rw [upd_ne (λ e => DA.ne e.symm)]; exact DA.up
  refine ⟨_, rfl, d, C, dx, _, _, rfl, hd1, TC.cl, TC.nUp, deskF_up l u, .inl ⟨rfl, _, SqL.of hu1⟩, _, rfl, u, _, i, i.toNat, _, rfl, rfl, hu1, by omega, by omega, by rw [hul]; exact seq_at hi, up_at hin, ?_⟩
  refine ⟨sz1, λ p hp => ?_⟩
  have et := away_ok (s := s) hi
  refine changed k et (l' := l) (u' := u) ⟨⟨⟨dx, ?_⟩, ?_, ?_, DA.ne⟩, λ b ob e h1 h2 h3 => ?_, .inl rfl, .inr (.inl rfl)⟩ hp (λ z => ?_)
  ·rw [upd_ne ndu, upd_ne ndl]; exact hd
  ·unfold LI
   rw [upd_ne DA.ne, upd_same, <- map_erase]
   unfold lows
   rw [<- map_erase]
  ·unfold LI
   rw [upd_same, <- map_erase]
   unfold ups
   rw [<- map_erase]
  ·rw [upd_ne h3, upd_ne h2]; exact e
  ·have n1 : p ≠ u := λ e => by rw [e, upd_same] at z; cases z
   rw [upd_ne n1] at z
   have n2 : p ≠ l := λ e => by rw [e, upd_same] at z; cases z
   rw [upd_ne n2] at z
   exact z
 ·rw [decide_eq_false hi]
  refine iteT ⟨sz1, λ p hp => ?_⟩
  exact done1 DA k (away_no hi) (Same.refl H) hp
theorem flat_snoc {α : Type} (f : α -> List Int) {l : List α} {i : Nat} {x : α} (h : l[i]? = some x) : (l.take (i + 1)).flatMap f = (l.take i).flatMap f ++ f x := by
 rw [take_one h, List.flatMap_append, List.flatMap_cons, List.flatMap_nil, List.append_nil]
theorem LI.app {H : Hp} {r : Addr} {ns : List Int} (x : Int) : LI (upd H r (.lst (ns.map V.int ++ [V.int x]))) r (ns ++ [x]) := by
 unfold LI
 rw [upd_same, List.map_append]
 rfl
def netsFlat (l : List Vbpcao.Net) : List Int := l.flatMap λ n => [n.b, n.a]
theorem netsFlat_len (l : List Vbpcao.Net) : (netsFlat l).length = 2 * l.length := by
 unfold netsFlat
 induction l with
 | nil => rfl
 | cons p r ih =>
  rw [List.flatMap_cons, lna, ih, lnc]
  show 2 + 2 * r.length = 2 * (r.length + 1)
  omega
def spListC (C : Addr) : Sp := CallSp C [] noRows .list
theorem sc_list_nets : FnScope ["desk", "given", "answer", "b", "a"] ["desk", "given"] (defScope s_list_nets) := ⟨rfl, rfl, rfl, by decide +kernel, rfl, by decide +kernel, by decide +kernel⟩
theorem ok_list_nets {C : Addr} (D : Def K mg "list_nets" s_list_nets) (T : Txt mg) (TC : DeskC K C) : Cal P w K mg base "list_nets" ["desk", "given"] 1 (spListC C) := by
 refine D.cal sc_list_nets (λ _ _ _ _ _ _ us hl => match us, hl with | [_, _], _ => rfl) (λ vs H Q E h => h.len) (λ f cdv A outer s H vs Q E hr h => ?_)
 obtain ⟨d, g, l, u, s, rs, rfl, DA, o, hg, _, _, _, k⟩ := h
 obtain ⟨dx, hd⟩ := DA.obj
 have hlen := o.len
 have hll : ((lows s).map V.int).length = s.length := by rw [lnm, lows_len]
 have hul : ((ups s).map V.int).length = s.length := by rw [lnm, ups_len]
 refine ⟨_, (pss_cons (ps_set (i := 2) sc_list_nets.nd rfl (.inl rfl) (pe_lst (pa_cons (pe_callB call_len_seq (by rfl) T.len PySem.boot_len (pa_cons (pe_fld (pv 0) rfl) pa_nil)) pa_nil)))
   (pss_cons (ps_for PassesOwn.never rfl (pi_zip rfl T.zip (pa_cons (pe_fld (pv 0) rfl) (pa_cons (pe_fld (pv 0) rfl) pa_nil))) (pg_tup (n := 2) rfl (pgs_cons (pg_name (i := 3) sc_list_nets.nd rfl (.inl rfl)) (pgs_cons (pg_name (i := 4) sc_list_nets.nd rfl (.inl rfl)) pgs_nil))) (pss_cons (ps_expr (pe_bm PySem.F.plainAttrs_list PySem.F.slot_list_append PySem.F.type_list_append mt_append (pv 2) (pa_cons (pv 3) pa_nil)))
   (pss_one (ps_expr (pe_bm PySem.F.plainAttrs_list PySem.F.slot_list_append PySem.F.type_list_append mt_append (pv 2) (pa_cons (pv 4) pa_nil))))))
   (pss_one (ps_ret (pv 2))))), ?_⟩
 refine ⟨_, rfl, d, C, dx, _, _, rfl, hd, TC.cl, TC.nLo, deskF_lo l u, l, _, rfl, .inl (SqL.of DA.lo), sz1, λ r n1 => ?_⟩
 have s1 := same_new (o := .lst [.int ((((lows s).map V.int).length : Nat) : Int)]) n1
 have DA1 := DA.same s1
 refine ⟨_, rfl, d, C, dx, _, _, rfl, s1 _ _ hd, TC.cl, TC.nLo, deskF_lo l u, _, rfl, d, C, dx, _, _, rfl, s1 _ _ hd, TC.cl, TC.nUp, deskF_up l u, l, u, _, _, rfl, SqL.of DA1.lo, SqL.of DA1.up,
  for_zip (K := K) (xs := (lows s).map V.int) (ys := (ups s).map V.int) (λ i σ H' => ∃ v1 v2, σ = [some (.ref d), some (.ref g), some (.ref r), v1, v2] /\ Same H H' /\ LI H' r ((s.length : Int) :: netsFlat (s.take i)))
   ⟨_, _, rfl, s1, by unfold LI; rw [upd_same, hll]; rfl⟩ (λ i σ H' ⟨_, _, _, s2, _⟩ => ⟨SqL.of (s2 _ _ DA.lo), SqL.of (s2 _ _ DA.up)⟩) ?_ ?_⟩
 ·rintro i x y σ H' t hx hy ⟨v1, v2, rfl, s2, hr'⟩ ht
  obtain ⟨b, hb, rfl⟩ := int_of hx
  obtain ⟨a, ha, rfl⟩ := int_of hy
  have hi : i < s.length := by
   have := (List.getElem?_eq_some_iff.mp hb).1
   rw [lows_len] at this
   exact this
  rw [lows_at hi] at hb
  rw [ups_at hi] at ha
  cases hb
  cases ha
  have s3 := same_new (o := .tup [.int (bAt s i), .int (aAt s i)]) ht
  have hr3 := hr'.same s3
  have hsz : (((s.length : Int) :: netsFlat (s.take i)).map V.int).length + 2 < sizeLine := by
   rw [lnm, lnc, netsFlat_len, sizeLine_eq]
   have := List.length_take_le' i s
   omega
  refine ⟨t, _, rfl, SqT.of upd_same, rfl, _, _, rfl, _, _, rfl, rfl, _, rfl, .inl ⟨rfl, _, SqL.of hr3⟩, _, rfl, r, _, _, rfl, rfl, hr3, (by omega), ?_⟩
  refine ⟨_, rfl, .inl ⟨rfl, _, SqL.of upd_same⟩, _, rfl, r, _, _, rfl, rfl, upd_same, (by rw [lna]; simp; simp at hsz; omega), ?_⟩
  refine ⟨_, _, rfl, same_upd (same_upd (s2.trans s3) n1) n1, ?_⟩
  unfold LI
  rw [upd_same]
  unfold netsFlat
  rw [flat_snoc _ (st_at hi), <- List.cons_append, List.map_append, List.append_assoc]
  rfl
 ·rintro σ H' ⟨v1, v2, rfl, s2, hr'⟩
  rw [hll, hul, Nat.min_self, List.take_length] at hr'
  refine ⟨_, rfl, ?_⟩
  exact done DA k (list_is s) s2 n1 hr'
theorem negRev_at {ns : List Int} {i : Nat} {z : Int} (hi : i < ns.length) (h : ns[ns.length - 1 - i]? = some z) : (negRev ns)[i]? = some (-z) := by
 unfold negRev
 rw [List.getElem?_reverse (by rw [lnm]; exact hi), List.length_map, List.getElem?_map, h]
 rfl
theorem rev_row {K : PySem.W.Frag} {C d a dx : Addr} {fs : List (Str × V)} {f : Str} {σ : L2.St} {H : Hp} {Q : VK} {j : Nat} {ns : List Int} (h0 : σ[0]? = some (some (.ref d))) (hd : H d = some (.ins C dx fs)) (cl : Cls K C) (na : NoAttr K C f) (lk : fs.lookup f = some (.ref a)) (ha : LI H a ns) (hn : ns.length <= 1000)
  (hj : j < σ.length)
  (k : ∀ (H' : Hp) (p : Addr), Same H H' -> H p = Option.none -> LI H' p (negRev ns) -> Q (.ref p) H') :
  tLc (iRev K (tCons (tFld K (tVar 0) f) tNil)) (gName j) tYes (tUn (rU λ i => .int (-i)) (tVar j)) [j] σ H Q := by
 have hlen : (ns.map V.int).length = ns.length := List.length_map ..
 refine ⟨_, h0, d, C, dx, _, _, rfl, hd, cl, na, lk, a, _, rfl, SqL.of ha, λ D1 n1 => lc_rev (K := K) (a := a) (xs := ns.map V.int) (λ i H' => Same H H' /\ LI H' D1 ((negRev ns).take i)) ⟨same_new n1, upd_same⟩ (λ i H' _ ⟨s1, _⟩ => SqL.of (s1 _ _ ha)) ?_ ?_⟩
 ·rintro i x H' hi hx ⟨s1, hD⟩
  rw [hlen] at hi hx
  obtain ⟨z, hz, rfl⟩ := int_of hx
  refine ⟨?_, iteT (B := True) ⟨V.int z, ?_, z, rfl, _, hD, ?_, same_upd s1 n1, ?_⟩⟩
  ·show wipe ((wipe σ [j]).set j (some (V.int z))) [j] = wipe σ [j]
   show ((σ.set j Option.none).set j (some (V.int z))).set j Option.none = σ.set j Option.none
   rw [List.set_set, List.set_set]
  ·show ((σ.set j Option.none).set j (some (V.int z)))[j]? = some (some (V.int z))
   rw [List.getElem?_set_self (by rw [List.length_set]; exact hj)]
  ·rw [lnm, lnt, sizeLine_eq]
   unfold negRev
   rw [List.length_reverse, lnm]
   omega
  ·unfold LI
   rw [upd_same, take_one (negRev_at hi hz), List.map_append]
   rfl
 ·rintro H' ⟨s1, hD⟩
  refine k H' D1 s1 n1 ?_
  rw [hlen, List.take_of_length_le (by unfold negRev; rw [List.length_reverse, lnm]; exact Nat.le_refl _)] at hD
  exact hD
def spMirrorC (C : Addr) : Sp := CallSp C [] noRows .mirror
theorem sc_mirror : FnScope ["desk", "given", "pin"] ["desk", "given"] (defScope s_mirror) := ⟨rfl, rfl, rfl, by decide +kernel, rfl, by decide +kernel, by decide +kernel⟩
theorem ok_mirror {C : Addr} (D : Def K mg "mirror" s_mirror) (T : Txt mg) (TC : DeskC K C) : Cal P w K mg base "mirror" ["desk", "given"] 1 (spMirrorC C) := by
 refine D.cal sc_mirror (λ _ _ _ _ _ _ us hl => match us, hl with | [_, _], _ => rfl) (λ vs H Q E h => h.len) (λ f cdv A outer s H vs Q E hr h => ?_)
 obtain ⟨d, g, l, u, s, rs, rfl, DA, o, hg, _, _, _, k⟩ := h
 obtain ⟨dx, hd⟩ := DA.obj
 have hlen := o.len
 refine ⟨_, (pss_cons (ps_fld (pv 0) (pe_lc rfl sc_mirror.nd (pi_reversed rfl T.reversed (pa_cons (pe_fld (pv 0) rfl) pa_nil)) (blkOk_by (own := [("pin", 2)]) (by kernel_rfl)) (λ _ _ _ _ _ => (pg_name (i := 2) sc_mirror.nd rfl (.inl rfl))) (λ _ _ _ _ _ => pts_nil) (λ _ _ _ _ _ => (pe_un un_neg (pv 2)))) rfl)
   (pss_cons (ps_fld (pv 0) (pe_lc rfl sc_mirror.nd (pi_reversed rfl T.reversed (pa_cons (pe_fld (pv 0) rfl) pa_nil)) (blkOk_by (own := [("pin", 2)]) (by kernel_rfl)) (λ _ _ _ _ _ => (pg_name (i := 2) sc_mirror.nd rfl (.inl rfl))) (λ _ _ _ _ _ => pts_nil) (λ _ _ _ _ _ => (pe_un un_neg (pv 2)))) rfl)
   (pss_one (ps_ret (pe_lst (pa_cons pe_int pa_nil)))))), ?_⟩
 unfold tSeq sFld
 refine rev_row (C := C) (d := d) (a := l) (dx := dx) (ns := lows s) rfl hd TC.cl TC.nLo (deskF_lo l u) DA.lo (by rw [lows_len]; omega) ?_ (λ H1 p1 s1 n1 hp1 => ?_)
 ·exact Nat.le_refl 3
 refine ⟨_, rfl, d, C, dx, _, rfl, s1 _ _ hd, TC.cl, TC.nLo, deskF_len l u, ?_⟩
 rw [deskF_put_lo]
 have nd1 : ∀ b o, H1 b = some o -> b ≠ d -> upd H1 d (.ins C dx (deskF p1 u)) b = some o := λ b ob e ne => by rw [upd_ne ne]; exact e
 have hu1 : LI (upd H1 d (.ins C dx (deskF p1 u))) u (ups s) := nd1 _ _ (s1 _ _ DA.up) (ne_of DA.up hd (λ z => nomatch z))
 have hp1' : LI (upd H1 d (.ins C dx (deskF p1 u))) p1 (negRev (lows s)) := nd1 _ _ hp1 (ne_of hp1 (s1 _ _ hd) (λ z => nomatch z))
 dsimp only
 refine rev_row (C := C) (d := d) (a := u) (dx := dx) (ns := ups s) rfl upd_same TC.cl TC.nUp (deskF_up p1 u) hu1 (by rw [ups_len]; omega) ?_ (λ H2 p2 s2 n2 hp2 => ?_)
 ·exact Nat.le_refl 3
 refine ⟨_, rfl, d, C, dx, _, rfl, s2 _ _ upd_same, TC.cl, TC.nUp, deskF_len p1 u, ?_⟩
 rw [deskF_put_up]
 refine ⟨sz1, λ p hp => ?_⟩
 have hne : p1 ≠ p2 := ne_of_none hp1' n2
 have hd2 := s2 _ _ (upd_same (H := H1) (a := d) (o := .ins C dx (deskF p1 u)))
 have np1 : H p1 = Option.none := n1
 have np2 : H p2 = Option.none := free_upd s1 n2
 refine changed k (l' := p1) (u' := p2) rfl ⟨⟨⟨dx, upd_same⟩, ?_, ?_, hne⟩, λ b ob e h1 _ _ => ?_, .inr (.inr (.inl np1)), .inr (.inr (.inl np2))⟩ hp (λ z => ?_)
 ·show LI _ p1 (lows (Vbpcao.mirrored s))
  unfold LI
  rw [(mirror_rows s).1, upd_ne (ne_of (s2 _ _ hp1') hd2 (λ z => nomatch z))]
  exact s2 _ _ hp1'
 ·show LI _ p2 (ups (Vbpcao.mirrored s))
  unfold LI
  rw [(mirror_rows s).2, upd_ne (ne_of hp2 hd2 (λ z => nomatch z))]
  exact hp2
 ·rw [upd_ne h1]
  exact s2 _ _ (nd1 _ _ (s1 _ _ e) h1)
 ·by_cases e : p = d
  ·subst e; rw [upd_same] at z; cases z
  ·rw [upd_ne e] at z
   exact free_upd s1 (s2.free z)
def spWireC (C : Addr) : Sp := λ vs H Q E => ∃ i h : Int, CallSp C [i, h] noRows (.wire i h) vs H Q E
theorem wire_pts {s : State} (o : Ok s) (k i : Nat) : ((Vbpcao.wire s k i).map ofPt).length <= 132 := by
 rw [lnm]
 have := wire_len s k i
 have := o.len
 omega
theorem sc_wire : FnScope ["desk", "given", "net", "h", "refusal"] ["desk", "given"] (defScope s_wire) := ⟨rfl, rfl, rfl, by decide +kernel, rfl, by decide +kernel, by decide +kernel⟩
theorem ok_wire {C : Addr} (D : Def K mg "wire" s_wire) (T : Txt mg) (TC : DeskC K C) (c_has_net : Cal P w K mg base "has_net" ["desk", "net"] 1 (spHas C)) (c_width_refusal : Cal P w K mg base "width_refusal" ["desk", "h"] 2 (spRefuse C)) (c_wire_corners : Cal P w K mg base "wire_corners" ["lower", "upper", "net", "h"] 3 spCorners) (c_told_wire : Cal P w K mg base "told_wire" ["corners"] 1 spTold) : Cal P w K mg base "wire" ["desk", "given"] 4 (spWireC C) := by
 refine D.cal sc_wire (λ _ _ _ _ _ _ us hl => match us, hl with | [_, _], _ => rfl) (λ vs H Q E h => h.choose_spec.choose_spec.len) (λ f cdv A outer s H vs Q E hr h => ?_)
 obtain ⟨i, h, d, g, l, u, s, rs, rfl, DA, o, hg, _, _, _, k⟩ := h
 obtain ⟨dx, hd⟩ := DA.obj
 have hlen := o.len
 refine ⟨_, (pss_cons (ps_set (i := 2) sc_wire.nd rfl (.inl rfl) (pe_ix ix_list (pv 1) pe_int (λ _ _ => rfl)))
   (pss_cons (ps_set (i := 3) sc_wire.nd rfl (.inl rfl) (pe_ix ix_list (pv 1) pe_int (λ _ _ => rfl)))
   (pss_cons (ps_if (pt_not (pt_val (pe_cal c_has_net (up hr) rfl (pa_cons (pv 0) (pa_cons (pv 2) pa_nil))))) (pss_one (ps_ret (pe_lst (pa_cons (pe_gint T.NO_SUCH_NET rfl) pa_nil)))) pss_nil)
   (pss_cons (ps_set (i := 4) sc_wire.nd rfl (.inl rfl) (pe_cal c_width_refusal (up hr) rfl (pa_cons (pv 0) (pa_cons (pv 3) pa_nil))))
   (pss_cons (ps_if (pt_cmp (pc_notN (pv 4))) (pss_one (ps_ret (pe_lst (pa_cons (pv 4) pa_nil)))) pss_nil)
   (pss_one (ps_ret (pe_cal c_told_wire (up hr) rfl (pa_cons (pe_cal c_wire_corners (up hr) rfl (pa_cons (pe_fld (pv 0) rfl) (pa_cons (pe_fld (pv 0) rfl) (pa_cons (pv 2) (pa_cons (pv 3) pa_nil))))) pa_nil))))))))), ?_⟩
 refine ⟨_, rfl, g, _, _, _, rfl, rfl, SqL.of hg, at_of (j := 0) rfl rfl, _, rfl, g, _, _, _, rfl, rfl, SqL.of hg, at_of (j := 1) rfl rfl, _, rfl, _, rfl, d, l, u, s, i, rfl, DA, _, rfl, ?_⟩
 by_cases hi : 0 <= i /\ i < (s.length : Int)
 ·rw [decide_eq_true hi]
  refine iteF ?_
  refine ⟨_, rfl, _, rfl, d, l, u, s, h, rfl, DA, o, _, rfl, _, rfl, ?_⟩
  cases ew : Vbpcao.wide s h with
  | error e =>
   refine iteT ⟨_, rfl, sz1, λ p hp => ?_⟩
   exact done1 DA k (wire_err hi ew) (Same.refl H) hp
  | ok m =>
   refine iteF ?_
   have em : (m : Int) = h := by
    cases e : Vbpcao.within h 0 1000 with
    | false => rw [wide_no e] at ew; cases ew
    | true =>
     have eh := within_iff.mp e
     cases ef : Vbpcao.fits s h.toNat with
     | false => rw [wide_narrow e ef] at ew; cases ew
     | true =>
      rw [wide_yes e ef] at ew
      cases ew
      omega
   refine ⟨_, rfl, d, C, dx, _, _, rfl, hd, TC.cl, TC.nLo, deskF_lo l u, _, rfl, d, C, dx, _, _, rfl, hd, TC.cl, TC.nUp, deskF_up l u, _, rfl, _, rfl, l, u, s, i.toNat, m, by rw [show ((i.toNat : Nat) : Int) = i by omega, em]; rfl, DA.lo, DA.up, o.g, o.len, by omega, λ H1 q s1 n1 hq => ?_⟩
   refine ⟨q, _, rfl, hq, by have := wire_pts o m i.toNat; omega, λ H2 p s2 n2 hp => ?_⟩
   refine done DA k (wire_ok hi ew) (s1.trans s2) (s1.free n2) ?_
   rw [told_wire_eq]
   exact hp
 ·rw [decide_eq_false hi]
  refine iteT ⟨sz1, λ p hp => ?_⟩
  exact done1 DA k (wire_no hi) (Same.refl H) hp
theorem ref_of {as : List Addr} {i : Nat} {x : V} (h : (as.map V.ref)[i]? = some x) : ∃ a, as[i]? = some a /\ x = V.ref a := by
 rw [gem] at h
 cases e : as[i]? with
 | none => rw [e] at h; cases h
 | some a => rw [e] at h; exact ⟨a, rfl, (Option.some.inj h).symm⟩
theorem Tups.get {H : Hp} {as : List Addr} {ps : List (Int × Int)} (t : Tups H as ps) {j : Nat} {a : Addr} (h : as[j]? = some a) : ∃ p, ps[j]? = some p /\ H a = some (.tup [.int p.1, .int p.2]) := by
 have hj : j < ps.length := by rw [<- t.len]; exact (List.getElem?_eq_some_iff.mp h).1
 exact ⟨ps[j], List.getElem?_eq_getElem hj, t.at_ j a _ h (List.getElem?_eq_getElem hj)⟩
theorem cut1 (xs : List V) : cutV xs (some (1 : Int)) Option.none = xs.drop 1 := by
 rcases Nat.eq_zero_or_pos xs.length with e | e
 ·have : xs = [] := List.eq_nil_of_length_eq_zero e
  subst this
  rfl
 ·exact cut_from (c := 1) e
def spBetween : Sp := λ vs H Q _ => ∃ n a b : Int, vs = [.int n, .int a, .int b] /\ Q (.bl (btw n a b)) H
theorem sc_is_between : FnScope ["number", "one", "other"] ["number", "one", "other"] (defScope s_is_between) := ⟨rfl, rfl, rfl, by decide +kernel, rfl, by decide +kernel, by decide +kernel⟩
theorem ok_is_between (D : Def K mg "is_between" s_is_between) (T : Txt mg) : Cal P w K mg base "is_between" ["number", "one", "other"] 1 spBetween := by
 refine D.cal sc_is_between (λ _ _ _ _ _ _ us hl => match us, hl with | [_, _, _], _ => rfl) (λ vs H Q E h => ?_) (λ f cdv A outer s H vs Q E hr h => ?_)
 ·obtain ⟨n, a, b, rfl, _⟩ := h
  rfl
 ·obtain ⟨n, a, b, rfl, q⟩ := h
  refine ⟨_, (pss_one (ps_ret (pe_or (pe_chain op_le op_le (pv 1) (pv 0) (pv 2)) (pe_one (pe_chain op_le op_le (pv 2) (pv 0) (pv 1)))))), ?_⟩
  have two : ¬ (a <= n /\ n <= b) -> tChain (rI0 λ i j => .bl (decide (i <= j))) (rI0 λ i j => .bl (decide (i <= j))) (tVar 2) (tVar 0) (tVar 1) (L2.start ["number", "one", "other"] [.int n, .int a, .int b]) H Q := λ no => by
   refine ⟨_, rfl, _, rfl, _, _, rfl, rfl, _, rfl, ite2 (λ h1 => ⟨_, rfl, _, _, rfl, rfl, ?_⟩) (λ h1 => ?_)⟩
   ·rw [dte] at h1
    have e : btw n a b = decide (n <= a) := by
     unfold btw
     rw [decide_eq_decide]
     exact ⟨λ z => z.elim (λ z => absurd z no) λ z => z.2, λ z => .inr ⟨h1, z⟩⟩
    rw [e] at q
    exact q
   ·rw [dte] at h1
    have e : btw n a b = false := by
     unfold btw
     exact decide_eq_false λ z => z.elim no λ z => h1 z.1
    rw [e] at q
    exact q
  refine ⟨_, rfl, _, rfl, _, _, rfl, rfl, _, rfl, ite2 (λ h1 => ⟨_, rfl, _, _, rfl, rfl, _, rfl, ite2 (λ h2 => ?_) (λ h2 => ?_)⟩) (λ h1 => ⟨_, rfl, iteF (two ?_)⟩)⟩
  ·rw [dte] at h1 h2
   have e : btw n a b = true := by
    unfold btw
    exact decide_eq_true (.inl ⟨h1, h2⟩)
   rw [e] at q
   exact q
  ·rw [dte] at h1 h2
   exact two λ z => h2 z.2
  ·rw [dte] at h1
   exact λ z => h1 z.1
def spHasP : Sp := λ vs H Q _ => ∃ (c : Addr) (x y : Int) (ps : List (Int × Int)), vs = [.ref c, .int x, .int y] /\ PtsAt H c ps /\ ∀ H', Same H H' -> Q (.bl (hasP x y ps)) H'
theorem any_first {α : Type} {p : α -> Bool} {l : List α} {i : Nat} {x : α} (h : l[i]? = some x) (hp : p x = true) : l.any p = true := List.any_eq_true.mpr ⟨x, List.mem_of_getElem? h, hp⟩
theorem any_none {α : Type} {p : α -> Bool} {l : List α} (h : ∀ (j : Nat) (x : α), l[j]? = some x -> p x = false) : l.any p = false := by
 rw [List.any_eq_false]
 intro x hx
 obtain ⟨j, hj, e⟩ := List.getElem_of_mem hx
 rw [h j x (by rw [<- e]; exact List.getElem?_eq_getElem hj)]
 exact Bool.false_ne_true
theorem sc_has_point : FnScope ["corners", "x", "y", "one", "other"] ["corners", "x", "y"] (defScope s_has_point) := ⟨rfl, rfl, rfl, by decide +kernel, rfl, by decide +kernel, by decide +kernel⟩
theorem ok_has_point (D : Def K mg "has_point" s_has_point) (T : Txt mg) (c_is_between : Cal P w K mg base "is_between" ["number", "one", "other"] 1 spBetween) : Cal P w K mg base "has_point" ["corners", "x", "y"] 2 spHasP := by
 refine D.cal sc_has_point (λ _ _ _ _ _ _ us hl => match us, hl with | [_, _, _], _ => rfl) (λ vs H Q E h => ?_) (λ f cdv A outer s H vs Q E hr h => ?_)
 ·obtain ⟨c, x, y, ps, rfl, _⟩ := h
  rfl
 ·obtain ⟨c, x, y, ps, rfl, ⟨as, hc, t⟩, q⟩ := h
  refine ⟨_, (pss_cons (ps_for PassesOwn.never rfl (pi_zip rfl T.zip (pa_cons (pv 0) (pa_cons (pe_slice sl_list (pv 0) (po_some pe_int) po_none) pa_nil))) (pg_tup (n := 2) rfl (pgs_cons (pg_name (i := 3) sc_has_point.nd rfl (.inl rfl)) (pgs_cons (pg_name (i := 4) sc_has_point.nd rfl (.inl rfl)) pgs_nil))) (pss_one (ps_if (PW.pt (pw_and (pt_val (pe_cal c_is_between (up hr) rfl (pa_cons (pv 1) (pa_cons (pe_ix ix_tup (pv 3) pe_int (λ _ _ => rfl)) (pa_cons (pe_ix ix_tup (pv 4) pe_int (λ _ _ => rfl)) pa_nil))))) (pw_and1 (pt_val (pe_cal c_is_between (up hr) rfl (pa_cons (pv 2) (pa_cons (pe_ix ix_tup (pv 3) pe_int (λ _ _ => rfl)) (pa_cons (pe_ix ix_tup (pv 4) pe_int (λ _ _ => rfl)) pa_nil)))))))) (pss_one (ps_ret pe_bl)) pss_nil)))
   (pss_one (ps_ret pe_bl))), ?_⟩
  refine ⟨_, rfl, _, rfl, _, rfl, c, _, rfl, SqL.of hc, λ c2 n1 => ?_⟩
  rw [cut1]
  have s1 := same_new (o := .lst ((as.map V.ref).drop 1)) n1
  refine ⟨c, c2, _, _, rfl, SqL.of (s1 _ _ hc), SqL.of upd_same, for_zip (K := K) (xs := as.map V.ref) (ys := (as.map V.ref).drop 1)
   (λ i σ H' => ∃ v1 v2, σ = [some (.ref c), some (.int x), some (.int y), v1, v2] /\ Same H H' /\ H' c2 = some (.lst ((as.map V.ref).drop 1)) /\ ∀ (j : Nat) (u : (Int × Int) × (Int × Int)), j < i -> (nexts ps)[j]? = some u -> (btw x u.1.1 u.2.1 && btw y u.1.2 u.2.2) = false)
   ⟨_, _, rfl, s1, upd_same, λ j u hj => absurd hj (Nat.not_lt_zero _)⟩ (λ i σ H' ⟨_, _, _, s2, h2, _⟩ => ⟨SqL.of (s2 _ _ hc), SqL.of h2⟩) ?_ ?_⟩
  ·rintro i vx vy σ H' tt hx hy ⟨v1, v2, rfl, s2, h2, hf⟩ ht
   obtain ⟨a1, ha1, rfl⟩ := ref_of hx
   rw [List.getElem?_drop, Nat.add_comm] at hy
   obtain ⟨a2, ha2, rfl⟩ := ref_of hy
   obtain ⟨p1, hp1, e1⟩ := t.get ha1
   obtain ⟨p2, hp2, e2⟩ := t.get ha2
   have hnx := nexts_at hp1 hp2
   have s3 := same_new (o := .tup [.ref a1, .ref a2]) ht
   have s23 := s2.trans s3
   have e1' := s23 _ _ e1
   have e2' := s23 _ _ e2
   refine ⟨tt, _, rfl, SqT.of upd_same, rfl, _, _, rfl, _, _, rfl, rfl, ?_⟩
   refine ⟨_, rfl, _, rfl, a1, _, _, _, rfl, rfl, SqT.of e1', at_of (j := 0) rfl rfl, _, rfl, a2, _, _, _, rfl, rfl, SqT.of e2', at_of (j := 0) rfl rfl, x, p1.1, p2.1, rfl, _, rfl, ?_⟩
   cases b1 : btw x p1.1 p2.1 with
   | false =>
    refine iteF (iteF ?_)
    refine ⟨_, _, rfl, s23, s3 _ _ h2, λ j u hj hu => ?_⟩
    rcases Nat.lt_or_ge j i with z | z
    ·exact hf j u z hu
    ·have : j = i := by omega
     subst this
     rw [hnx] at hu
     cases hu
     rw [b1]
     rfl
   | true =>
    refine iteT ?_
    refine ⟨_, rfl, _, rfl, a1, _, _, _, rfl, rfl, SqT.of e1', at_of (j := 1) rfl rfl, _, rfl, a2, _, _, _, rfl, rfl, SqT.of e2', at_of (j := 1) rfl rfl, y, p1.2, p2.2, rfl, _, rfl, ?_⟩
    cases b2 : btw y p1.2 p2.2 with
    | false =>
     refine iteF ?_
     refine ⟨_, _, rfl, s23, s3 _ _ h2, λ j u hj hu => ?_⟩
     rcases Nat.lt_or_ge j i with z | z
     ·exact hf j u z hu
     ·have : j = i := by omega
      subst this
      rw [hnx] at hu
      cases hu
      rw [b1, b2]
      rfl
    | true =>
     refine iteT ?_
     have e : hasP x y ps = true := any_first hnx (by rw [b1, b2]; rfl)
     have := q _ s23
     rw [e] at this
     exact this
  ·rintro σ H' ⟨v1, v2, rfl, s2, h2, hf⟩
   have e : hasP x y ps = false := any_none λ j u hu => hf j u (by
    have := (List.getElem?_eq_some_iff.mp hu).1
    rw [nexts_len] at this
    rw [lnm, List.length_drop, lnm, t.len]
    omega) hu
   have := q _ s2
   rw [e] at this
   exact this
def spAlong : Sp := λ vs H Q _ => ∃ (c : Addr) (y : Int) (ps : List (Int × Int)), vs = [.ref c, .int y] /\ PtsAt H c ps /\ ps.length <= 1000 /\ ∀ (H' : Hp) (q : Addr), Same H H' -> H q = Option.none -> PtsAt H' q (alongP y ps) -> Q (.ref q) H'
theorem min_is (a b : Int) : (if b < a then b else a) = min a b := by
 rw [Int.min_def]
 split <;> split <;> omega
theorem max_is (a b : Int) : (if b > a then b else a) = max a b := by
 rw [Int.max_def]
 split <;> split <;> omega
theorem along_take {y : Int} {ps : List (Int × Int)} {i : Nat} {u : (Int × Int) × (Int × Int)} (h : (nexts ps)[i]? = some u) :
  ((nexts ps).take (i + 1)).filterMap (λ t => if t.1.2 = y /\ t.2.2 = y then some (min t.1.1 t.2.1, max t.1.1 t.2.1) else Option.none) = ((nexts ps).take i).filterMap (λ t => if t.1.2 = y /\ t.2.2 = y then some (min t.1.1 t.2.1, max t.1.1 t.2.1) else Option.none) ++ (if u.1.2 = y /\ u.2.2 = y then [(min u.1.1 u.2.1, max u.1.1 u.2.1)] else []) := by
 rw [take_one h, filterMap_snoc]
 by_cases e : u.1.2 = y /\ u.2.2 = y
 ·simp only [if_pos e]
 ·simp only [if_neg e, List.append_nil]
def alongN (y : Int) (ps : List (Int × Int)) (i : Nat) : List (Int × Int) := ((nexts ps).take i).filterMap (λ t => if t.1.2 = y /\ t.2.2 = y then some (min t.1.1 t.2.1, max t.1.1 t.2.1) else Option.none)
theorem alongN_len (y : Int) (ps : List (Int × Int)) (i : Nat) : (alongN y ps i).length <= ps.length := by
 unfold alongN
 have h1 := List.length_filterMap_le (λ t : (Int × Int) × (Int × Int) => if t.1.2 = y /\ t.2.2 = y then some (min t.1.1 t.2.1, max t.1.1 t.2.1) else Option.none) ((nexts ps).take i)
 have h2 := List.length_take_le' i (nexts ps)
 have h3 := nexts_len ps
 omega
theorem sc_pieces_along : FnScope ["corners", "y", "pieces", "one", "other"] ["corners", "y"] (defScope s_pieces_along) := ⟨rfl, rfl, rfl, by decide +kernel, rfl, by decide +kernel, by decide +kernel⟩
theorem ok_pieces_along (D : Def K mg "pieces_along" s_pieces_along) (T : Txt mg) : Cal P w K mg base "pieces_along" ["corners", "y"] 1 spAlong := by
 refine D.cal sc_pieces_along (λ _ _ _ _ _ _ us hl => match us, hl with | [_, _], _ => rfl) (λ vs H Q E h => ?_) (λ f cdv A outer s H vs Q E hr h => ?_)
 ·obtain ⟨c, y, ps, rfl, _⟩ := h
  rfl
 ·obtain ⟨c, y, ps, rfl, ⟨as, hc, t⟩, hn, q⟩ := h
  refine ⟨_, (pss_cons (ps_set (i := 2) sc_pieces_along.nd rfl (.inl rfl) (pe_lst pa_nil))
   (pss_cons (ps_for PassesOwn.never rfl (pi_zip rfl T.zip (pa_cons (pv 0) (pa_cons (pe_slice sl_list (pv 0) (po_some pe_int) po_none) pa_nil))) (pg_tup (n := 2) rfl (pgs_cons (pg_name (i := 3) sc_pieces_along.nd rfl (.inl rfl)) (pgs_cons (pg_name (i := 4) sc_pieces_along.nd rfl (.inl rfl)) pgs_nil))) (pss_one (ps_if (PW.pt (pw_and (pt_cmpR op_eq (pe_ix ix_tup (pv 3) pe_int (λ _ _ => rfl)) (pv 1) (nomark _)) (pw_and1 (pt_cmpR op_eq (pe_ix ix_tup (pv 4) pe_int (λ _ _ => rfl)) (pv 1) (nomark _))))) (pss_one (ps_expr (pe_bm PySem.F.plainAttrs_list PySem.F.slot_list_append PySem.F.type_list_append mt_append (pv 2) (pa_cons (pe_tup (pa_cons (pe_callB (call_min2 rfl) (by rfl) T.min boot_min (pa_cons (pe_ix ix_tup (pv 3) pe_int (λ _ _ => rfl)) (pa_cons (pe_ix ix_tup (pv 4) pe_int (λ _ _ => rfl)) pa_nil))) (pa_cons (pe_callB (call_max2 rfl) (by rfl) T.max boot_max (pa_cons (pe_ix ix_tup (pv 3) pe_int (λ _ _ => rfl)) (pa_cons (pe_ix ix_tup (pv 4) pe_int (λ _ _ => rfl)) pa_nil))) pa_nil))) pa_nil)))) pss_nil)))
   (pss_one (ps_ret (pv 2))))), ?_⟩
  refine ⟨Nat.zero_le _, λ r n0 => ?_⟩
  have s0 := same_new (o := .lst []) n0
  refine ⟨_, rfl, _, rfl, _, rfl, c, _, rfl, SqL.of (s0 _ _ hc), λ c2 n1 => ?_⟩
  rw [cut1]
  have s1 := same_new (o := .lst ((as.map V.ref).drop 1)) n1
  have s01 := s0.trans s1
  have nr2 : c2 ≠ r := λ e => by rw [e, upd_same] at n1; cases n1
  refine ⟨c, c2, _, _, rfl, SqL.of (s01 _ _ hc), SqL.of upd_same, for_zip (K := K) (xs := as.map V.ref) (ys := (as.map V.ref).drop 1)
   (λ i σ H' => ∃ v1 v2 bs, σ = [some (.ref c), some (.int y), some (.ref r), v1, v2] /\ Same H H' /\ H' c2 = some (.lst ((as.map V.ref).drop 1)) /\ H' r = some (.lst (bs.map V.ref)) /\ Tups H' bs (alongN y ps i))
   ⟨_, _, [], rfl, s01, upd_same, s1 _ _ upd_same, tups_nil _⟩ (λ i σ H' ⟨_, _, _, _, s2, h2, _⟩ => ⟨SqL.of (s2 _ _ hc), SqL.of h2⟩) ?_ ?_⟩
  ·rintro i vx vy σ H' tt hx hy ⟨v1, v2, bs, rfl, s2, h2, hr', tb⟩ ht
   obtain ⟨a1, ha1, rfl⟩ := ref_of hx
   rw [List.getElem?_drop, Nat.add_comm] at hy
   obtain ⟨a2, ha2, rfl⟩ := ref_of hy
   obtain ⟨p1, hp1, e1⟩ := t.get ha1
   obtain ⟨p2, hp2, e2⟩ := t.get ha2
   have hnx := nexts_at hp1 hp2
   have s3 := same_new (o := .tup [.ref a1, .ref a2]) ht
   have s23 := s2.trans s3
   have e1' := s23 _ _ e1
   have e2' := s23 _ _ e2
   have stay : ¬ (p1.2 = y /\ p2.2 = y) -> alongN y ps (i + 1) = alongN y ps i := λ no => by
    unfold alongN
    rw [along_take hnx, if_neg no, List.append_nil]
   refine ⟨tt, _, rfl, SqT.of upd_same, rfl, _, _, rfl, _, _, rfl, rfl, ?_⟩
   refine ⟨_, rfl, a1, _, _, _, rfl, rfl, SqT.of e1', at_of (j := 1) rfl rfl, _, rfl, rfl, _, rfl, ite2 (λ h1 => ?_) (λ h1 => iteF ?_)⟩
   ·rw [dte] at h1
    have h1 : p1.2 = y := V.int.inj h1
    refine ⟨_, rfl, a2, _, _, _, rfl, rfl, SqT.of e2', at_of (j := 1) rfl rfl, _, rfl, rfl, _, rfl, ite2 (λ h2' => ?_) (λ h2' => ?_)⟩
    ·rw [dte] at h2'
     have h2' : p2.2 = y := V.int.inj h2'
     have hbl : bs.length < sizeLine := by
      rw [tb.len, sizeLine_eq]
      have := alongN_len y ps i
      omega
     refine ⟨_, rfl, .inl ⟨rfl, _, SqL.of (s3 _ _ hr')⟩, _, rfl, a1, _, _, _, rfl, rfl, SqT.of e1', at_of (j := 0) rfl rfl, _, rfl, a2, _, _, _, rfl, rfl, SqT.of e2', at_of (j := 0) rfl rfl, _, _, rfl,
      _, rfl, a1, _, _, _, rfl, rfl, SqT.of e1', at_of (j := 0) rfl rfl, _, rfl, a2, _, _, _, rfl, rfl, SqT.of e2', at_of (j := 0) rfl rfl, _, _, rfl, sz1, λ p4 n4 => ?_⟩
     have hr3 := s3 _ _ hr'
     have tb3 := tb.same s3
     have n4r : H p4 = Option.none := s23.free n4
     refine ⟨r, _, _, rfl, rfl, by rw [upd_ne (ne_of_none hr3 n4)]; exact hr3, by rw [lnm]; exact hbl, ?_⟩
     obtain ⟨bs', hb', tb'⟩ := pts_app (x := min p1.1 p2.1) (y := max p1.1 p2.1) hr3 tb3 n4
     rw [min_is, max_is]
     refine ⟨_, _, bs', rfl, λ b ob e => ?_, ?_, hb', ?_⟩
     ·have nb : b ≠ r := ne_of_none e n0
      rw [upd_ne nb, upd_ne (ne_of_none (s23 _ _ e) n4)]
      exact s23 _ _ e
     ·rw [upd_ne nr2, upd_ne (ne_of_none (s3 _ _ h2) n4)]
      exact s3 _ _ h2
     ·unfold alongN
      rw [along_take hnx, if_pos ⟨h1, h2'⟩]
      exact tb'
    ·rw [dte] at h2'
     refine ⟨_, _, bs, rfl, s23, s3 _ _ h2, s3 _ _ hr', ?_⟩
     rw [stay λ z => h2' (congrArg V.int z.2)]
     exact tb.same s3
   ·rw [dte] at h1
    refine ⟨_, _, bs, rfl, s23, s3 _ _ h2, s3 _ _ hr', ?_⟩
    rw [stay λ z => h1 (congrArg V.int z.1)]
    exact tb.same s3
  ·rintro σ H' ⟨v1, v2, bs, rfl, s2, h2, hr', tb⟩
   refine ⟨_, rfl, q H' r s2 n0 ⟨bs, hr', ?_⟩⟩
   have e : alongN y ps (min (as.map V.ref).length ((as.map V.ref).drop 1).length) = alongP y ps := by
    unfold alongN alongP
    rw [List.take_of_length_le]
    rw [nexts_len, List.length_drop, lnm, t.len]
    omega
   rw [e] at tb
   exact tb
structure WiresAt (F : Addr -> Prop) (H : Hp) (q : Addr) (wss : List (List (Int × Int))) : Prop where
 ex : ∃ as : List Addr, H q = some (.lst (as.map V.ref)) /\ as.length = wss.length /\ (∀ (j : Nat) (a : Addr) (ps : List (Int × Int)), as[j]? = some a -> wss[j]? = some ps -> PtsAt H a ps) /\ ∀ a ∈ as, F a
def wiresP (s : State) (k : Nat) : List (List (Int × Int)) := (List.range s.length).map λ i => (Vbpcao.wire s k i).map ofPt
theorem wiresP_len (s : State) (k : Nat) : (wiresP s k).length = s.length := by unfold wiresP; rw [lnm, lnr]
theorem wiresP_at {s : State} {k i : Nat} (h : i < s.length) : (wiresP s k)[i]? = some ((Vbpcao.wire s k i).map ofPt) := by
 unfold wiresP
 rw [gem, List.getElem?_range h]
 rfl
def spAllW : Sp := λ vs H Q _ => ∃ (l u : Addr) (s : State) (k : Nat), vs = [.ref l, .ref u, .int k] /\ LI H l (lows s) /\ LI H u (ups s) /\ Ok s /\ ∀ (H' : Hp) (q : Addr), Same H H' -> H q = Option.none -> WiresAt (λ a => H a = Option.none) H' q (wiresP s k) -> Q (.ref q) H'
theorem sc_all_wires : FnScope ["lower", "upper", "h", "net"] ["lower", "upper", "h"] (defScope s_all_wires) := ⟨rfl, rfl, rfl, by decide +kernel, rfl, by decide +kernel, by decide +kernel⟩
theorem ok_all_wires (D : Def K mg "all_wires" s_all_wires) (T : Txt mg) (c_wire_corners : Cal P w K mg base "wire_corners" ["lower", "upper", "net", "h"] 3 spCorners) : Cal P w K mg base "all_wires" ["lower", "upper", "h"] 4 spAllW := by
 refine D.cal sc_all_wires (λ _ _ _ _ _ _ us hl => match us, hl with | [_, _, _], _ => rfl) (λ vs H Q E h => ?_) (λ f cdv A outer s H vs Q E hr h => ?_)
 ·obtain ⟨l, u, s, k, rfl, _⟩ := h
  rfl
 ·obtain ⟨l, u, s, k, rfl, hl, hu, o, q⟩ := h
  have hll : ((lows s).map V.int).length = s.length := by rw [lnm, lows_len]
  have hlen := o.len
  refine ⟨_, (pss_one (ps_ret (pe_lc rfl sc_all_wires.nd (pi_range1 rfl T.range (pa_cons (pe_callB call_len_seq (by rfl) T.len PySem.boot_len (pa_cons (pv 0) pa_nil)) pa_nil)) (blkOk_by (own := [("net", 3)]) (by kernel_rfl)) (λ _ _ _ _ _ => (pg_name (i := 3) sc_all_wires.nd rfl (.inl rfl))) (λ _ _ _ _ _ => pts_nil) (λ _ _ _ _ _ => (pe_cal c_wire_corners (up hr) rfl (pa_cons (pv 0) (pa_cons (pv 1) (pa_cons (pv 3) (pa_cons (pv 2) pa_nil))))))))), ?_⟩
  refine ⟨_, rfl, l, _, rfl, .inl (SqL.of hl), _, rfl, by rw [hll]; omega, by rw [hll]; omega, λ D1 n1 => lc_range (λ i H' => Same H H' /\ ∃ as : List Addr, H' D1 = some (.lst (as.map V.ref)) /\ as.length = i /\ (∀ (j : Nat) (a : Addr), as[j]? = some a -> PtsAt H' a ((Vbpcao.wire s k j).map ofPt)) /\ ∀ a ∈ as, H a = Option.none) ⟨same_new n1, [], upd_same, rfl, λ j a h => by simp at h, λ a h => by simp at h⟩ ?_ ?_⟩
  ·rintro i H' hi ⟨s1, as, hD, hal, hat, hfr⟩
   rw [hll] at hi
   refine ⟨rfl, iteT (B := True) ⟨_, rfl, _, rfl, _, rfl, _, rfl, l, u, s, i, k, by rw [Int.zero_add]; rfl, s1 _ _ hl, s1 _ _ hu, o.g, o.len, by omega, λ H2 q2 s2 n2 hq2 => ?_⟩⟩
   have hD2 := s2 _ _ hD
   refine ⟨_, hD2, by rw [lnm, hal, sizeLine_eq]; omega, same_upd (s1.trans s2) n1, as ++ [q2], by rw [upd_same, List.map_append]; rfl, by rw [lna, hal]; rfl, λ j a hj => ?_, λ a ha => (List.mem_append.mp ha).elim (hfr a) λ e => by rw [List.mem_singleton.mp e]; exact s1.free n2⟩
   have wr : ∀ {a : Addr} {ps : List (Int × Int)}, a ≠ D1 -> PtsAt H2 a ps -> PtsAt (upd H2 D1 (.lst (as.map V.ref ++ [V.ref q2]))) a ps := λ {a ps} ne ⟨bs, e1, e2⟩ => ⟨bs, by rw [upd_ne ne]; exact e1, e2.write hD2⟩
   by_cases hjl : j < as.length
   ·rw [List.getElem?_append_left hjl] at hj
    refine wr (λ e => ?_) ((hat j a hj).same s2)
    subst e
    obtain ⟨bs, e1, e2⟩ := hat j a hj
    rw [hD] at e1
    have e3 : as.map V.ref = bs.map V.ref := by injection (Option.some.inj e1)
    have hjb : bs[j]? = some a := by
     have h1 : (as.map V.ref)[j]? = some (V.ref a) := by rw [gem, hj]; rfl
     rw [e3] at h1
     obtain ⟨a', h2, h3⟩ := ref_of h1
     cases h3
     exact h2
    obtain ⟨p, hp, e4⟩ := e2.get hjb
    rw [hD] at e4
    cases e4
   ·rw [List.getElem?_append_right (by omega)] at hj
    have ej : j = i := by
     have := (List.getElem?_eq_some_iff.mp hj).1
     simp at this
     omega
    subst ej
    rw [hal, Nat.sub_self] at hj
    have ea : q2 = a := Option.some.inj hj
    subst ea
    refine wr (λ e => ?_) hq2
    subst e
    rw [hD] at n2
    cases n2
  ·rintro H' ⟨s1, as, hD, hal, hat, hfr⟩
   rw [hll, Int.toNat_natCast] at hal
   refine q H' D1 s1 n1 ⟨as, hD, by rw [hal, wiresP_len], λ j a ps h1 h2 => ?_, hfr⟩
   have hj : j < s.length := by
    have := (List.getElem?_eq_some_iff.mp h1).1
    omega
   rw [wiresP_at hj] at h2
   cases h2
   exact hat j a h1
theorem seq_cut {a b : TS} {D : Ends} {σ : L2.St} {H : Hp} (J : L2.St -> Hp -> Prop) (h1 : ∀ N : L2.St -> Hp -> Prop, (∀ σ' H', J σ' H' -> N σ' H') -> a { D with nx := N } σ H) (h2 : ∀ σ' H', J σ' H' -> b D σ' H') : tSeq a b D σ H := h1 _ h2
theorem wide_is {s : State} {h : Int} {m : Nat} (ew : Vbpcao.wide s h = .ok m) : (m : Int) = h /\ Vbpcao.fits s m = true /\ m <= 1000 := by
 cases e : Vbpcao.within h 0 1000 with
 | false => rw [wide_no e] at ew; cases ew
 | true =>
  have eh := within_iff.mp e
  cases ef : Vbpcao.fits s h.toNat with
  | false => rw [wide_narrow e ef] at ew; cases ew
  | true =>
   rw [wide_yes e ef] at ew
   cases ew
   exact ⟨by omega, ef, by omega⟩
def spRoomB : Sp := λ vs H Q _ => ∃ (l u : Addr) (s : State) (i k : Nat), vs = [.ref l, .ref u, .int i, .int k, .int 1000000000] /\ LI H l (lows s) /\ LI H u (ups s) /\ s.length <= 64 /\ i < s.length /\ k <= 1000 /\
 ∀ (H' : Hp) (p : Addr), Same H H' -> H' p = some (.tup [.int (Vbpcao.room s k i).1, .int (Vbpcao.room s k i).2]) -> Q (.ref p) H'
theorem sc_room_bounds : FnScope ["lower", "upper", "net", "h", "greatest_pin", "floors", "ceilings"] ["lower", "upper", "net", "h", "greatest_pin"] (defScope s_room_bounds) := ⟨rfl, rfl, rfl, by decide +kernel, rfl, by decide +kernel, by decide +kernel⟩
theorem ok_room_bounds (D : Def K mg "room_bounds" s_room_bounds) (T : Txt mg) : Cal P w K mg base "room_bounds" ["lower", "upper", "net", "h", "greatest_pin"] 1 spRoomB := by
 refine D.cal sc_room_bounds (λ _ _ _ _ _ _ us hl => match us, hl with | [_, _, _, _, _], _ => rfl) (λ vs H Q E h => ?_) (λ f cdv A outer s H vs Q E hr h => ?_)
 ·obtain ⟨l, u, s, i, k, rfl, _⟩ := h
  rfl
 ·obtain ⟨l, u, s, i, k, rfl, hl, hu, h64, hi, hk, q⟩ := h
  have lenL : ((lows s).map V.int).length = s.length := by rw [lnm, lows_len]
  have lenU : ((ups s).map V.int).length = s.length := by rw [lnm, ups_len]
  refine ⟨_, (pss_cons (ps_set (i := 5) sc_room_bounds.nd rfl (.inl rfl) (pe_lst (pa_cons (pe_un un_neg (pv 4)) pa_nil)))
   (pss_cons (ps_set (i := 6) sc_room_bounds.nd rfl (.inl rfl) (pe_lst (pa_cons (pv 4) pa_nil)))
   (pss_cons (ps_if (pt_cmpR op_gt (pv 2) pe_int (nomark _)) (pss_one (ps_expr (pe_bm PySem.F.plainAttrs_list PySem.F.slot_list_append PySem.F.type_list_append mt_append (pv 5) (pa_cons (pe_op op_add (pe_ix ix_list (pv 1) (pe_op op_sub (pv 2) pe_int) (λ _ _ => rfl)) pe_int) pa_nil)))) pss_nil)
   (pss_cons (ps_if (pt_cmpR op_lt (pe_op op_add (pv 2) pe_int) (pe_callB call_len_seq (by rfl) T.len PySem.boot_len (pa_cons (pv 1) pa_nil)) (nomark _)) (pss_one (ps_expr (pe_bm PySem.F.plainAttrs_list PySem.F.slot_list_append PySem.F.type_list_append mt_append (pv 6) (pa_cons (pe_op op_sub (pe_ix ix_list (pv 1) (pe_op op_add (pv 2) pe_int) (λ _ _ => rfl)) pe_int) pa_nil)))) pss_nil)
   (pss_cons (ps_if (pt_cmpR op_ge (pv 2) (pv 3) (nomark _)) (pss_one (ps_expr (pe_bm PySem.F.plainAttrs_list PySem.F.slot_list_append PySem.F.type_list_append mt_append (pv 5) (pa_cons (pe_op op_add (pe_ix ix_list (pv 0) (pe_op op_sub (pv 2) (pv 3)) (λ _ _ => rfl)) (pv 3)) pa_nil)))) pss_nil)
   (pss_cons (ps_if (pt_cmpR op_lt (pe_op op_add (pv 2) (pv 3)) (pe_callB call_len_seq (by rfl) T.len PySem.boot_len (pa_cons (pv 0) pa_nil)) (nomark _)) (pss_one (ps_expr (pe_bm PySem.F.plainAttrs_list PySem.F.slot_list_append PySem.F.type_list_append mt_append (pv 6) (pa_cons (pe_op op_sub (pe_ix ix_list (pv 0) (pe_op op_add (pv 2) (pv 3)) (λ _ _ => rfl)) (pv 3)) pa_nil)))) pss_nil)
   (pss_one (ps_ret (pe_tup (pa_cons (pe_callB (cr_max rfl) (by rfl) T.max boot_max (pa_cons (pv 5) pa_nil)) (pa_cons (pe_callB (cr_min rfl) (by rfl) T.min boot_min (pa_cons (pv 6) pa_nil)) pa_nil))))))))))), ?_⟩
  refine ⟨_, rfl, _, rfl, sz1, λ fl n1 => ?_⟩
  refine ⟨_, rfl, sz1, λ ce n2 => ?_⟩
  have s1 := same_new (o := .lst [.int (-1000000000)]) n1
  have nc : H ce = Option.none := s1.free n2
  have nfc : fl ≠ ce := λ e => by rw [<- e, upd_same] at n2; cases n2
  let J : List Int -> List Int -> L2.St -> Hp -> Prop := λ xs ys σ H' => σ = [some (.ref l), some (.ref u), some (.int i), some (.int k), some (.int 1000000000), some (.ref fl), some (.ref ce)] /\ Same H H' /\ LI H' fl xs /\ LI H' ce ys
  have putF : ∀ {xs ys : List Int} {H' : Hp} (x : Int), J xs ys [some (.ref l), some (.ref u), some (.int i), some (.int k), some (.int 1000000000), some (.ref fl), some (.ref ce)] H' -> J (xs ++ [x]) ys [some (.ref l), some (.ref u), some (.int i), some (.int k), some (.int 1000000000), some (.ref fl), some (.ref ce)] (upd H' fl (.lst (xs.map V.int ++ [V.int x]))) := λ x ⟨_, z1, z2, z3⟩ =>
   ⟨rfl, same_upd z1 n1, LI.app x, by unfold LI; rw [upd_ne (Ne.symm nfc)]; exact z3⟩
  have putC : ∀ {xs ys : List Int} {H' : Hp} (x : Int), J xs ys [some (.ref l), some (.ref u), some (.int i), some (.int k), some (.int 1000000000), some (.ref fl), some (.ref ce)] H' -> J xs (ys ++ [x]) [some (.ref l), some (.ref u), some (.int i), some (.int k), some (.int 1000000000), some (.ref fl), some (.ref ce)] (upd H' ce (.lst (ys.map V.int ++ [V.int x]))) := λ x ⟨_, z1, z2, z3⟩ =>
   ⟨rfl, same_upd z1 nc, by unfold LI; rw [upd_ne nfc]; exact z2, LI.app x⟩
  have f1 : ∀ b : Prop, [Decidable b] -> ∀ x : Int, ((([-1000000000] : List Int) ++ (if b then [x] else [])).map V.int).length < sizeLine := λ b _ x => by
   rw [sizeLine_eq]; split <;> simp
  have f2 : ∀ b : Prop, [Decidable b] -> ∀ x : Int, ((([1000000000] : List Int) ++ (if b then [x] else [])).map V.int).length < sizeLine := λ b _ x => by
   rw [sizeLine_eq]; split <;> simp
  dsimp only [gName]
  refine seq_cut (J ([-1000000000] ++ (if 1 <= i then [aAt s (i - 1) + 1] else [])) [1000000000]) (λ N hN => ?_) ?_
  ·have j0 : J [-1000000000] [1000000000] [some (.ref l), some (.ref u), some (.int i), some (.int k), some (.int 1000000000), some (.ref fl), some (.ref ce)] (upd (upd H fl (.lst [.int (-1000000000)])) ce (.lst [.int 1000000000])) := ⟨rfl, same_upd s1 nc, by unfold LI; rw [upd_ne nfc, upd_same]; rfl, upd_same⟩
   refine ⟨_, rfl, _, _, rfl, rfl, _, rfl, ite2 (λ h1 => ?_) (λ h1 => ?_)⟩
   ·rw [dte] at h1
    rw [if_pos (by omega : 1 <= i)] at hN
    obtain ⟨_, z1, z2, z3⟩ := id j0
    refine ⟨_, rfl, .inl ⟨rfl, _, SqL.of z2⟩, _, rfl, _, rfl, _, _, rfl, rfl, u, _, _, _, rfl, rfl, SqL.of (z1 _ _ hu), at_of (j := i - 1) (by omega) (up_at (by omega)), _, _, rfl, rfl, fl, _, _, rfl, rfl, z2, (by show 1 < sizeLine; decide), ?_⟩
    exact hN _ _ (putF _ j0)
   ·rw [dte] at h1
    rw [if_neg (by omega : ¬ 1 <= i)] at hN
    exact hN _ _ j0
  rintro σ H1 j1
  obtain ⟨rfl, z1, z2, z3⟩ := id j1
  refine seq_cut (J ([-1000000000] ++ (if 1 <= i then [aAt s (i - 1) + 1] else [])) ([1000000000] ++ (if i + 1 < s.length then [aAt s (i + 1) - 1] else []))) (λ N hN => ?_) ?_
  ·refine ⟨_, rfl, _, _, rfl, rfl, _, rfl, u, _, rfl, .inl (SqL.of (z1 _ _ hu)), _, _, rfl, rfl, _, rfl, ite2 (λ h1 => ?_) (λ h1 => ?_)⟩
   ·rw [dte, lenU] at h1
    rw [if_pos (by omega : i + 1 < s.length)] at hN
    refine ⟨_, rfl, .inl ⟨rfl, _, SqL.of z3⟩, _, rfl, _, rfl, _, _, rfl, rfl, u, _, _, _, rfl, rfl, SqL.of (z1 _ _ hu), at_of (j := i + 1) (by omega) (up_at (by omega)), _, _, rfl, rfl, ce, _, _, rfl, rfl, z3, (by show 1 < sizeLine; decide), ?_⟩
    exact hN _ _ (putC _ j1)
   ·rw [dte, lenU] at h1
    rw [if_neg (by omega : ¬ i + 1 < s.length)] at hN
    exact hN _ _ j1
  rintro σ H2 j2
  obtain ⟨rfl, z1, z2, z3⟩ := id j2
  refine seq_cut (J (floorsOf s k i) ([1000000000] ++ (if i + 1 < s.length then [aAt s (i + 1) - 1] else []))) (λ N hN => ?_) ?_
  ·refine ⟨_, rfl, _, rfl, _, _, rfl, rfl, _, rfl, ite2 (λ h1 => ?_) (λ h1 => ?_)⟩
   ·rw [dte] at h1
    have e : floorsOf s k i = ([-1000000000] ++ (if 1 <= i then [aAt s (i - 1) + 1] else [])) ++ [bAt s (i - k) + (k : Int)] := by
     unfold floorsOf
     rw [if_pos (by omega : k <= i), List.append_assoc]
    rw [e] at hN
    refine ⟨_, rfl, .inl ⟨rfl, _, SqL.of z2⟩, _, rfl, _, rfl, _, rfl, _, _, rfl, rfl, l, _, _, _, rfl, rfl, SqL.of (z1 _ _ hl), at_of (j := i - k) (by omega) (lo_at (by omega)), _, rfl, _, _, rfl, rfl, fl, _, _, rfl, rfl, z2, f1 _ _, ?_⟩
    exact hN _ _ (putF _ j2)
   ·rw [dte] at h1
    have e : floorsOf s k i = ([-1000000000] ++ (if 1 <= i then [aAt s (i - 1) + 1] else [])) := by
     unfold floorsOf
     rw [if_neg (by omega : ¬ k <= i), List.append_nil]
    rw [e] at hN
    exact hN _ _ j2
  rintro σ H3 j3
  obtain ⟨rfl, z1, z2, z3⟩ := id j3
  refine seq_cut (J (floorsOf s k i) (ceilsOf s k i)) (λ N hN => ?_) ?_
  ·refine ⟨_, rfl, _, rfl, _, _, rfl, rfl, _, rfl, l, _, rfl, .inl (SqL.of (z1 _ _ hl)), _, _, rfl, rfl, _, rfl, ite2 (λ h1 => ?_) (λ h1 => ?_)⟩
   ·rw [dte, lenL] at h1
    have e : ceilsOf s k i = ([1000000000] ++ (if i + 1 < s.length then [aAt s (i + 1) - 1] else [])) ++ [bAt s (i + k) - (k : Int)] := by
     unfold ceilsOf
     rw [if_pos (by omega : i + k < s.length), List.append_assoc]
    rw [e] at hN
    refine ⟨_, rfl, .inl ⟨rfl, _, SqL.of z3⟩, _, rfl, _, rfl, _, rfl, _, _, rfl, rfl, l, _, _, _, rfl, rfl, SqL.of (z1 _ _ hl), at_of (j := i + k) (by omega) (lo_at (by omega)), _, rfl, _, _, rfl, rfl, ce, _, _, rfl, rfl, z3, f2 _ _, ?_⟩
    exact hN _ _ (putC _ j3)
   ·rw [dte, lenL] at h1
    have e : ceilsOf s k i = ([1000000000] ++ (if i + 1 < s.length then [aAt s (i + 1) - 1] else [])) := by
     unfold ceilsOf
     rw [if_neg (by omega : ¬ i + k < s.length), List.append_nil]
    rw [e] at hN
    exact hN _ _ j3
  rintro σ H4 ⟨rfl, z1, z2, z3⟩
  refine ⟨_, rfl, fl, floorsOf s k i, rfl, SqL.of z2, by unfold floorsOf; rw [lna]; simp; omega, λ lo m1 m2 => ?_⟩
  refine ⟨_, rfl, ce, ceilsOf s k i, rfl, SqL.of z3, by unfold ceilsOf; rw [lna]; simp; omega, λ hi' m3 m4 => ?_⟩
  refine ⟨sz1, λ p hp => ?_⟩
  refine q _ p (same_upd z1 (z1.free hp)) ?_
  rw [room_is hi m1 m2 m3 m4, upd_same]
def spRoomC (C : Addr) : Sp := λ vs H Q E => ∃ i h : Int, CallSp C [i, h] noRows (.room i h) vs H Q E
theorem sc_room : FnScope ["desk", "given", "net", "h", "bounds"] ["desk", "given"] (defScope s_room) := ⟨rfl, rfl, rfl, by decide +kernel, rfl, by decide +kernel, by decide +kernel⟩
theorem ok_room {C : Addr} (D : Def K mg "room" s_room) (T : Txt mg) (TC : DeskC K C) (c_has_net : Cal P w K mg base "has_net" ["desk", "net"] 1 (spHas C)) (c_is_width : Cal P w K mg base "is_width" ["h"] 1 spWidth) (c_room_bounds : Cal P w K mg base "room_bounds" ["lower", "upper", "net", "h", "greatest_pin"] 1 spRoomB) : Cal P w K mg base "room" ["desk", "given"] 2 (spRoomC C) := by
 refine D.cal sc_room (λ _ _ _ _ _ _ us hl => match us, hl with | [_, _], _ => rfl) (λ vs H Q E h => h.choose_spec.choose_spec.len) (λ f cdv A outer s H vs Q E hr h => ?_)
 obtain ⟨i, h, d, g, l, u, s, rs, rfl, DA, o, hg, _, _, _, k⟩ := h
 obtain ⟨dx, hd⟩ := DA.obj
 refine ⟨_, (pss_cons (ps_set (i := 2) sc_room.nd rfl (.inl rfl) (pe_ix ix_list (pv 1) pe_int (λ _ _ => rfl)))
   (pss_cons (ps_set (i := 3) sc_room.nd rfl (.inl rfl) (pe_ix ix_list (pv 1) pe_int (λ _ _ => rfl)))
   (pss_cons (ps_if (pt_not (pt_val (pe_cal c_has_net (up hr) rfl (pa_cons (pv 0) (pa_cons (pv 2) pa_nil))))) (pss_one (ps_ret (pe_lst (pa_cons (pe_gint T.NO_SUCH_NET rfl) pa_nil)))) pss_nil)
   (pss_cons (ps_if (pt_not (pt_val (pe_cal c_is_width (up hr) rfl (pa_cons (pv 3) pa_nil)))) (pss_one (ps_ret (pe_lst (pa_cons (pe_gint T.OUT_OF_RANGE rfl) pa_nil)))) pss_nil)
   (pss_cons (ps_set (i := 4) sc_room.nd rfl (.inl rfl) (pe_cal c_room_bounds (up hr) rfl (pa_cons (pe_fld (pv 0) rfl) (pa_cons (pe_fld (pv 0) rfl) (pa_cons (pv 2) (pa_cons (pv 3) (pa_cons (pe_gint T.GREATEST_PIN rfl) pa_nil)))))))
   (pss_one (ps_ret (pe_ifExp (pt_cmpR op_le (pe_ix ix_tup (pv 4) pe_int (λ _ _ => rfl)) (pe_ix ix_tup (pv 4) pe_int (λ _ _ => rfl)) (nomark _)) (pe_lst (pa_cons pe_int (pa_cons (pe_ix ix_tup (pv 4) pe_int (λ _ _ => rfl)) (pa_cons (pe_ix ix_tup (pv 4) pe_int (λ _ _ => rfl)) pa_nil)))) (pe_lst (pa_cons pe_int pa_nil)))))))))), ?_⟩
 refine ⟨_, rfl, g, _, _, _, rfl, rfl, SqL.of hg, at_of (j := 0) rfl rfl, _, rfl, g, _, _, _, rfl, rfl, SqL.of hg, at_of (j := 1) rfl rfl, _, rfl, _, rfl, d, l, u, s, i, rfl, DA, _, rfl, ?_⟩
 by_cases hi : 0 <= i /\ i < (s.length : Int)
 ·rw [decide_eq_true hi]
  refine iteF ?_
  refine ⟨_, rfl, h, rfl, _, rfl, ?_⟩
  cases e : Vbpcao.within h 0 1000 with
  | false =>
   refine iteT ⟨sz1, λ p hp => ?_⟩
   exact done1 DA k (room_err hi e) (Same.refl H) hp
  | true =>
   refine iteF ?_
   have eh := within_iff.mp e
   refine ⟨_, rfl, d, C, dx, _, _, rfl, hd, TC.cl, TC.nLo, deskF_lo l u, _, rfl, d, C, dx, _, _, rfl, hd, TC.cl, TC.nUp, deskF_up l u, _, rfl, _, rfl, l, u, s, i.toNat, h.toNat, by rw [show ((i.toNat : Nat) : Int) = i by omega, show ((h.toNat : Nat) : Int) = h by omega]; rfl, DA.lo, DA.up, o.len, by omega, by omega, λ H1 p s1 hp => ?_⟩
   have ro := room_ok hi e
   refine ⟨_, rfl, p, _, _, _, rfl, rfl, SqT.of hp, at_of (j := 0) rfl rfl, _, rfl, p, _, _, _, rfl, rfl, SqT.of hp, at_of (j := 1) rfl rfl, _, _, rfl, rfl, _, rfl, ite2 (λ h1 => ?_) (λ h1 => ?_)⟩
   ·rw [dte] at h1
    rw [if_pos h1] at ro
    refine ⟨_, rfl, p, _, _, _, rfl, rfl, SqT.of hp, at_of (j := 0) rfl rfl, _, rfl, p, _, _, _, rfl, rfl, SqT.of hp, at_of (j := 1) rfl rfl, sz1, λ p2 hp2 => ?_⟩
    exact done1 DA k ro s1 hp2
   ·rw [dte] at h1
    rw [if_neg h1] at ro
    refine ⟨sz1, λ p2 hp2 => ?_⟩
    exact done1 DA k ro s1 hp2
 ·rw [decide_eq_false hi]
  refine iteT ⟨sz1, λ p hp => ?_⟩
  exact done1 DA k (room_no hi) (Same.refl H) hp
def spAtC (C : Addr) : Sp := λ vs H Q E => ∃ h x y : Int, CallSp C [h, x, y] noRows (.at_ h x y) vs H Q E
theorem sc_at : FnScope ["desk", "given", "h", "refusal", "net", "corners"] ["desk", "given"] (defScope s_at) := ⟨rfl, rfl, rfl, by decide +kernel, rfl, by decide +kernel, by decide +kernel⟩
theorem ok_at {C : Addr} (D : Def K mg "at" s_at) (T : Txt mg) (TC : DeskC K C) (c_width_refusal : Cal P w K mg base "width_refusal" ["desk", "h"] 2 (spRefuse C)) (c_all_wires : Cal P w K mg base "all_wires" ["lower", "upper", "h"] 4 spAllW) (c_has_point : Cal P w K mg base "has_point" ["corners", "x", "y"] 2 spHasP) : Cal P w K mg base "at" ["desk", "given"] 5 (spAtC C) := by
 refine D.cal sc_at (λ _ _ _ _ _ _ us hl => match us, hl with | [_, _], _ => rfl) (λ vs H Q E h => h.choose_spec.choose_spec.choose_spec.len) (λ f cdv A outer s H vs Q E hr h => ?_)
 obtain ⟨h, x, y, d, g, l, u, s, rs, rfl, DA, o, hg, _, _, _, k⟩ := h
 obtain ⟨dx, hd⟩ := DA.obj
 refine ⟨_, (pss_cons (ps_set (i := 2) sc_at.nd rfl (.inl rfl) (pe_ix ix_list (pv 1) pe_int (λ _ _ => rfl)))
   (pss_cons (ps_set (i := 3) sc_at.nd rfl (.inl rfl) (pe_cal c_width_refusal (up hr) rfl (pa_cons (pv 0) (pa_cons (pv 2) pa_nil))))
   (pss_cons (ps_if (pt_cmp (pc_notN (pv 3))) (pss_one (ps_ret (pe_lst (pa_cons (pv 3) pa_nil)))) pss_nil)
   (pss_cons (ps_for PassesOwn.never rfl (pi_enum rfl T.enumerate (pa_cons (pe_cal c_all_wires (up hr) rfl (pa_cons (pe_fld (pv 0) rfl) (pa_cons (pe_fld (pv 0) rfl) (pa_cons (pv 2) pa_nil)))) pa_nil)) (pg_tup (n := 2) rfl (pgs_cons (pg_name (i := 4) sc_at.nd rfl (.inl rfl)) (pgs_cons (pg_name (i := 5) sc_at.nd rfl (.inl rfl)) pgs_nil))) (pss_one (ps_if (pt_val (pe_cal c_has_point (up hr) rfl (pa_cons (pv 5) (pa_cons (pe_ix ix_list (pv 1) pe_int (λ _ _ => rfl)) (pa_cons (pe_ix ix_list (pv 1) pe_int (λ _ _ => rfl)) pa_nil))))) (pss_one (ps_ret (pe_lst (pa_cons pe_int (pa_cons (pv 4) pa_nil))))) pss_nil)))
   (pss_one (ps_ret (pe_lst (pa_cons pe_int pa_nil)))))))), ?_⟩
 refine ⟨_, rfl, g, _, _, _, rfl, rfl, SqL.of hg, at_of (j := 0) rfl rfl, _, rfl, _, rfl, d, l, u, s, h, rfl, DA, o, _, rfl, _, rfl, ?_⟩
 cases ew : Vbpcao.wide s h with
 | error e =>
  refine iteT ⟨_, rfl, sz1, λ p hp => ?_⟩
  exact done1 DA k (at_err ew) (Same.refl H) hp
 | ok m =>
  refine iteF ?_
  obtain ⟨em, _, _⟩ := wide_is ew
  refine ⟨_, rfl, d, C, dx, _, _, rfl, hd, TC.cl, TC.nLo, deskF_lo l u, _, rfl, d, C, dx, _, _, rfl, hd, TC.cl, TC.nUp, deskF_up l u, _, rfl, l, u, s, m, by rw [em]; rfl, DA.lo, DA.up, o, λ H1 q s1 n1 hq => ?_⟩
  obtain ⟨as, hq1, hal, hat, _⟩ := hq.ex
  rw [wiresP_len] at hal
  refine ⟨q, _, rfl, SqL.of hq1, for_enum (K := K) (a := q) (xs := as.map V.ref) (λ i σ H' => ∃ v1 v2, σ = [some (.ref d), some (.ref g), some (.int h), some .non, v1, v2] /\ Same H1 H' /\ ∀ j, j < i -> hasP x y ((Vbpcao.wire s m j).map ofPt) = false)
   ⟨_, _, rfl, Same.refl _, λ j hj => absurd hj (Nat.not_lt_zero _)⟩ (λ i σ H' _ ⟨_, _, _, s2, _⟩ => SqL.of (s2 _ _ hq1)) ?_ ?_⟩
  ·rintro i vx σ H' tt hx ⟨v1, v2, rfl, s2, hf⟩ ht
   obtain ⟨a, ha, rfl⟩ := ref_of hx
   have hi : i < s.length := by
    have := (List.getElem?_eq_some_iff.mp ha).1
    omega
   have s3 := same_new (o := .tup [.int (i : Int), .ref a]) ht
   have s23 := s2.trans s3
   have s123 := s1.trans s23
   have hpa := (hat i a _ ha (wiresP_at hi)).same s23
   refine ⟨tt, _, rfl, SqT.of upd_same, rfl, _, _, rfl, _, _, rfl, rfl, ?_⟩
   refine ⟨_, rfl, _, rfl, g, _, _, _, rfl, rfl, SqL.of (s123 _ _ hg), at_of (j := 1) rfl rfl, _, rfl, g, _, _, _, rfl, rfl, SqL.of (s123 _ _ hg), at_of (j := 2) rfl rfl, a, x, y, _, rfl, hpa, λ H3 s4 => ⟨_, rfl, ?_⟩⟩
   cases eb : hasP x y ((Vbpcao.wire s m i).map ofPt) with
   | true =>
    refine iteT ⟨_, rfl, sz1, λ p hp => ?_⟩
    exact done1 DA k (at_some ew (at_first hi eb hf)) (s123.trans s4) hp
   | false =>
    refine iteF ?_
    refine ⟨_, _, rfl, s23.trans s4, λ j hj => ?_⟩
    by_cases e : j = i
    ·rw [e]; exact eb
    ·exact hf j (by omega)
  ·rintro σ H' ⟨v1, v2, rfl, s2, hf⟩
   rw [lnm, hal] at hf
   refine ⟨sz1, λ p hp => ?_⟩
   exact done1 DA k (at_none ew (at_no hf)) (s1.trans s2) hp
structure Recs (H : Hp) (as : List Addr) (vss : List (List V)) : Prop where
 len : as.length = vss.length
 at_ : ∀ (j : Nat) (ad : Addr) (vs : List V), as[j]? = some ad -> vss[j]? = some vs -> H ad = some (.tup vs)
theorem Recs.same {H H' : Hp} {as : List Addr} {vss : List (List V)} (t : Recs H as vss) (s : Same H H') : Recs H' as vss := ⟨t.len, λ j ad p h1 h2 => s _ _ (t.at_ j ad p h1 h2)⟩
theorem recs_nil (H : Hp) : Recs H [] [] := ⟨rfl, λ j ad p h => by simp at h⟩
theorem Recs.write {H : Hp} {as : List Addr} {vss : List (List V)} (t : Recs H as vss) {q : Addr} {xs : List V} {o : HO} (hq : H q = some (.lst xs)) : Recs (upd H q o) as vss := ⟨t.len, λ j ad p h1 h2 => by
 have e := t.at_ j ad p h1 h2
 rw [upd_ne (ne_of e hq (λ z => nomatch z))]
 exact e⟩
theorem Recs.snoc {H : Hp} {as : List Addr} {vss : List (List V)} (t : Recs H as vss) {p : Addr} {vs : List V} (hp : H p = some (.tup vs)) : Recs H (as ++ [p]) (vss ++ [vs]) := by
 refine ⟨by rw [lna, lna, t.len]; rfl, λ j ad z h1 h2 => ?_⟩
 by_cases hj : j < as.length
 ·rw [List.getElem?_append_left hj] at h1
  rw [List.getElem?_append_left (by rw [<- t.len]; exact hj)] at h2
  exact t.at_ j ad z h1 h2
 ·have e : j = as.length := by
   have := (List.getElem?_eq_some_iff.mp h1).1
   simp at this
   omega
  subst e
  rw [List.getElem?_append_right (Nat.le_refl _), Nat.sub_self] at h1
  rw [t.len, List.getElem?_append_right (Nat.le_refl _), Nat.sub_self] at h2
  have h1 : p = ad := Option.some.inj h1
  have h2 : vs = z := Option.some.inj h2
  subst h1
  subst h2
  exact hp
theorem Recs.get {H : Hp} {as : List Addr} {vss : List (List V)} (t : Recs H as vss) {j : Nat} {a : Addr} (h : as[j]? = some a) : ∃ vs, vss[j]? = some vs /\ H a = some (.tup vs) := by
 have hj : j < vss.length := by rw [<- t.len]; exact (List.getElem?_eq_some_iff.mp h).1
 exact ⟨vss[j], List.getElem?_eq_getElem hj, t.at_ j a _ h (List.getElem?_eq_getElem hj)⟩
theorem recs_app {H : Hp} {q p : Addr} {as : List Addr} {vss : List (List V)} {vs : List V} (hq : H q = some (.lst (as.map V.ref))) (t : Recs H as vss) (hp : H p = Option.none) :
  (upd (upd H p (.tup vs)) q (.lst (as.map V.ref ++ [V.ref p]))) q = some (.lst ((as ++ [p]).map V.ref)) /\ Recs (upd (upd H p (.tup vs)) q (.lst (as.map V.ref ++ [V.ref p]))) (as ++ [p]) (vss ++ [vs]) := by
 have hqp : q ≠ p := ne_of_none hq hp
 have hq1 : upd H p (.tup vs) q = some (.lst (as.map V.ref)) := by rw [upd_ne hqp]; exact hq
 exact ⟨by rw [upd_same, List.map_append]; rfl, ((t.same (same_new hp)).snoc upd_same).write hq1⟩
def hole (H : Hp) (r : Addr) : Hp := λ b => if b = r then Option.none else H b
theorem hole_self {H : Hp} {r : Addr} : hole H r r = Option.none := if_pos rfl
theorem hole_ne {H : Hp} {r b : Addr} (h : b ≠ r) : hole H r b = H b := if_neg h
theorem same_hole {H H' : Hp} {r : Addr} (s : Same H H') (h : H r = Option.none) : Same H (hole H' r) := λ b o e => by
 rw [hole_ne (ne_of_none e h)]
 exact s b o e
theorem hole_same {H : Hp} {r : Addr} : Same (hole H r) H := λ b o e => by
 unfold hole at e
 split at e
 ·cases e
 ·exact e
theorem hole_free {H : Hp} {r b : Addr} (h : H b = Option.none) : hole H r b = Option.none := by
 unfold hole
 split
 ·rfl
 ·exact h
theorem PtsAt.hole {H : Hp} {a r : Addr} {ps : List (Int × Int)} {xs : List V} (h : PtsAt H a ps) (ne : a ≠ r) (hr : H r = some (.lst xs)) : PtsAt (hole H r) a ps := by
 obtain ⟨as, h1, t⟩ := h
 refine ⟨as, by rw [hole_ne ne]; exact h1, t.len, λ j ad p e1 e2 => ?_⟩
 have e := t.at_ j ad p e1 e2
 rw [hole_ne (ne_of e hr (λ z => nomatch z))]
 exact e
def routeN (s : State) (m i : Nat) : List Int := ((List.range s.length).take i).flatMap λ j => Vbpcao.wireNums (Vbpcao.wire s m j)
theorem routeN_len {s : State} (o : Ok s) (m i : Nat) : (routeN s m i).length <= 265 * 64 := by
 unfold routeN
 have h1 := flat_len (λ j => Vbpcao.wireNums (Vbpcao.wire s m j)) 265 ((List.range s.length).take i) (λ j _ => wireNums_len o m j)
 have h2 : ((List.range s.length).take i).length <= s.length := by
  rw [lnt, lnr]
  omega
 have := o.len
 have : 265 * ((List.range s.length).take i).length <= 265 * 64 := Nat.mul_le_mul_left _ (by omega)
 omega
theorem routeN_all (s : State) (m : Nat) : (s.length : Int) :: routeN s m s.length = Vbpcao.counted Vbpcao.wireNums (Vbpcao.route s m) := by
 unfold routeN Vbpcao.counted Vbpcao.route
 rw [List.take_of_length_le (by rw [lnr]; exact Nat.le_refl _), List.length_map, List.length_range, List.flatMap_map]
def spRouteC (C : Addr) : Sp := λ vs H Q E => ∃ h : Int, CallSp C [h] noRows (.route h) vs H Q E
theorem sc_route : FnScope ["desk", "given", "h", "refusal", "answer", "corners"] ["desk", "given"] (defScope s_route) := ⟨rfl, rfl, rfl, by decide +kernel, rfl, by decide +kernel, by decide +kernel⟩
theorem ok_route {C : Addr} (D : Def K mg "route" s_route) (T : Txt mg) (TC : DeskC K C) (c_width_refusal : Cal P w K mg base "width_refusal" ["desk", "h"] 2 (spRefuse C)) (c_all_wires : Cal P w K mg base "all_wires" ["lower", "upper", "h"] 4 spAllW) (c_told_wire : Cal P w K mg base "told_wire" ["corners"] 1 spTold) : Cal P w K mg base "route" ["desk", "given"] 5 (spRouteC C) := by
 refine D.cal sc_route (λ _ _ _ _ _ _ us hl => match us, hl with | [_, _], _ => rfl) (λ vs H Q E h => h.choose_spec.len) (λ f cdv A outer s H vs Q E hr h => ?_)
 obtain ⟨h, d, g, l, u, s, rs, rfl, DA, o, hg, _, _, _, k⟩ := h
 obtain ⟨dx, hd⟩ := DA.obj
 have hlen := o.len
 have hll : ((lows s).map V.int).length = s.length := by rw [lnm, lows_len]
 refine ⟨_, (pss_cons (ps_set (i := 2) sc_route.nd rfl (.inl rfl) (pe_ix ix_list (pv 1) pe_int (λ _ _ => rfl)))
   (pss_cons (ps_set (i := 3) sc_route.nd rfl (.inl rfl) (pe_cal c_width_refusal (up hr) rfl (pa_cons (pv 0) (pa_cons (pv 2) pa_nil))))
   (pss_cons (ps_if (pt_cmp (pc_notN (pv 3))) (pss_one (ps_ret (pe_lst (pa_cons (pv 3) pa_nil)))) pss_nil)
   (pss_cons (ps_set (i := 4) sc_route.nd rfl (.inl rfl) (pe_lst (pa_cons (pe_callB call_len_seq (by rfl) T.len PySem.boot_len (pa_cons (pe_fld (pv 0) rfl) pa_nil)) pa_nil)))
   (pss_cons (ps_for PassesOwn.never rfl (pi_list (pe_cal c_all_wires (up hr) rfl (pa_cons (pe_fld (pv 0) rfl) (pa_cons (pe_fld (pv 0) rfl) (pa_cons (pv 2) pa_nil))))) (pg_name (i := 5) sc_route.nd rfl (.inl rfl)) (pss_one (ps_expr (pe_bm PySem.F.plainAttrs_list PySem.F.slot_list_extend PySem.F.type_list_extend mt_extend (pv 4) (pa_cons (pe_cal c_told_wire (up hr) rfl (pa_cons (pv 5) pa_nil)) pa_nil)))))
   (pss_one (ps_ret (pv 4)))))))), ?_⟩
 refine ⟨_, rfl, g, _, _, _, rfl, rfl, SqL.of hg, at_of (j := 0) rfl rfl, _, rfl, _, rfl, d, l, u, s, h, rfl, DA, o, _, rfl, _, rfl, ?_⟩
 cases ew : Vbpcao.wide s h with
 | error e =>
  refine iteT ⟨_, rfl, sz1, λ p hp => ?_⟩
  exact done1 DA k (route_err ew) (Same.refl H) hp
 | ok m =>
  refine iteF ?_
  obtain ⟨em, _, _⟩ := wide_is ew
  refine ⟨_, rfl, d, C, dx, _, _, rfl, hd, TC.cl, TC.nLo, deskF_lo l u, l, _, rfl, .inl (SqL.of DA.lo), sz1, λ r n0 => ?_⟩
  have s0 := same_new (o := .lst [.int ((((lows s).map V.int).length : Nat) : Int)]) n0
  have DA0 := DA.same s0
  refine ⟨_, rfl, d, C, dx, _, _, rfl, s0 _ _ hd, TC.cl, TC.nLo, deskF_lo l u, _, rfl, d, C, dx, _, _, rfl, s0 _ _ hd, TC.cl, TC.nUp, deskF_up l u, _, rfl, l, u, s, m, by rw [em]; rfl, DA0.lo, DA0.up, o, λ H1 q s1 n1 hq => ?_⟩
  obtain ⟨as, hq1, hal, hat, hfr⟩ := hq.ex
  rw [wiresP_len] at hal
  have hr1 : H1 r = some (.lst [.int ((((lows s).map V.int).length : Nat) : Int)]) := s1 _ _ upd_same
  have nqr : q ≠ r := λ e => by rw [e, upd_same] at n1; cases n1
  have sH : Same H (hole H1 r) := same_hole (s0.trans s1) n0
  refine ⟨q, rfl, ⟨_, SqL.of hq1⟩, for_list (K := K) (a := q) (xs := as.map V.ref) (λ i σ H' => ∃ v1, σ = [some (.ref d), some (.ref g), some (.int h), some .non, some (.ref r), v1] /\ Same (hole H1 r) H' /\ LI H' r ((s.length : Int) :: routeN s m i))
   ⟨_, rfl, hole_same, by unfold LI; rw [hr1, hll]; rfl⟩ (λ i σ H' _ ⟨_, _, s2, _⟩ => SqL.of (s2 _ _ (by rw [hole_ne nqr]; exact hq1))) ?_ ?_⟩
  ·rintro i vx σ H' hx ⟨v1, rfl, s2, hr'⟩
   obtain ⟨a, ha, rfl⟩ := ref_of hx
   have hi : i < s.length := by
    have := (List.getElem?_eq_some_iff.mp ha).1
    omega
   have nar : a ≠ r := λ e => by
    have := hfr a (List.mem_of_getElem? ha)
    rw [e, upd_same] at this
    cases this
   have hpa := ((hat i a _ ha (wiresP_at hi)).hole nar hr1).same s2
   refine ⟨_, rfl, .inl ⟨rfl, _, SqL.of hr'⟩, _, rfl, a, _, rfl, hpa, by have := wire_pts o m i; omega, λ H2 p s3 n3 hp => ?_⟩
   rw [<- told_wire_eq] at hp
   have hw := wireNums_len o m i
   have hn := routeN_len o m i
   refine ⟨r, p, _, _, rfl, rfl, s3 _ _ hr', hp, by rw [lnm, lnm, lnc, sizeLine_eq]; omega, ?_⟩
   refine ⟨_, rfl, same_upd (s2.trans s3) hole_self, ?_⟩
   unfold LI
   rw [upd_same]
   have e : routeN s m (i + 1) = routeN s m i ++ Vbpcao.wireNums (Vbpcao.wire s m i) := by
    unfold routeN
    exact flat_snoc _ (List.getElem?_range hi)
   rw [e, <- List.map_append, List.cons_append]
  ·rintro σ H' ⟨v1, rfl, s2, hr'⟩
   refine ⟨_, rfl, ?_⟩
   rw [lnm, hal, routeN_all] at hr'
   exact done DA k (route_ok ew) (sH.trans s2) n0 hr'
def spLengthC (C : Addr) : Sp := λ vs H Q E => ∃ h : Int, CallSp C [h] noRows (.length h) vs H Q E
theorem sc_length : FnScope ["desk", "given", "h", "refusal", "b", "a"] ["desk", "given"] (defScope s_length) := ⟨rfl, rfl, rfl, by decide +kernel, rfl, by decide +kernel, by decide +kernel⟩
theorem ok_length {C : Addr} (D : Def K mg "length" s_length) (T : Txt mg) (TC : DeskC K C) (c_width_refusal : Cal P w K mg base "width_refusal" ["desk", "h"] 2 (spRefuse C)) : Cal P w K mg base "length" ["desk", "given"] 3 (spLengthC C) := by
 refine D.cal sc_length (λ _ _ _ _ _ _ us hl => match us, hl with | [_, _], _ => rfl) (λ vs H Q E h => h.choose_spec.len) (λ f cdv A outer s H vs Q E hr h => ?_)
 obtain ⟨h, d, g, l, u, s, rs, rfl, DA, o, hg, _, _, _, k⟩ := h
 obtain ⟨dx, hd⟩ := DA.obj
 have hlen := o.len
 have hll : ((lows s).map V.int).length = s.length := by rw [lnm, lows_len]
 have hul : ((ups s).map V.int).length = s.length := by rw [lnm, ups_len]
 refine ⟨_, (pss_cons (ps_set (i := 2) sc_length.nd rfl (by first|exact .inl rfl|exact .inr rfl) (pe_ix ix_list (pv 1) pe_int (λ _ _ => rfl)))
   (pss_cons (ps_set (i := 3) sc_length.nd rfl (by first|exact .inl rfl|exact .inr rfl) (pe_cal c_width_refusal (up hr) rfl (pa_cons (pv 0) (pa_cons (pv 2) pa_nil))))
   (pss_cons (ps_if (pt_cmp (pc_notN (pv 3))) (pss_one (ps_ret (pe_lst (pa_cons (pv 3) pa_nil)))) pss_nil)
   (pss_one (ps_ret (pe_lst (pa_cons (pe_callB (cr_sum rfl) (by rfl) T.sum boot_sum (pa_cons (pe_lc rfl sc_length.nd (pi_zip rfl T.zip (pa_cons (pe_fld (pv 0) rfl) (pa_cons (pe_fld (pv 0) rfl) pa_nil))) (blkOk_by (own := [("b", 4), ("a", 5)]) (by kernel_rfl)) (λ _ _ _ _ _ => (pg_tupK (K := K) (n := 2) rfl (pg_tup (n := 2) rfl (pgs_cons (pg_name (i := 4) sc_length.nd rfl (by first|exact .inl rfl|exact .inr rfl)) (pgs_cons (pg_name (i := 5) sc_length.nd rfl (by first|exact .inl rfl|exact .inr rfl)) pgs_nil))))) (λ _ _ _ _ _ => pts_nil) (λ _ _ _ _ _ => (pe_op op_add (pe_op op_add (pe_callB call_abs (by rfl) T.abs boot_abs (pa_cons (pe_op op_sub (pv 5) (pv 4)) pa_nil)) (pv 2)) pe_int))) pa_nil)) pa_nil))))))), ?_⟩
 refine ⟨_, rfl, g, _, _, _, rfl, rfl, SqL.of hg, at_of (j := 0) rfl rfl, _, rfl, _, rfl, d, l, u, s, h, rfl, DA, o, _, rfl, _, rfl, ?_⟩
 cases ew : Vbpcao.wide s h with
 | error e =>
  refine iteT ⟨_, rfl, sz1, λ p hp => ?_⟩
  exact done1 DA k (length_err ew) (Same.refl H) hp
 | ok m =>
  refine iteF ?_
  obtain ⟨em, ef, _⟩ := wide_is ew
  have hlo := length_ok ew
  rw [len_all o.g ef] at hlo
  have lensL : (lens s m).length = s.length := by unfold lens; rw [lnm, lnr]
  refine ⟨_, rfl, d, C, dx, _, _, rfl, hd, TC.cl, TC.nLo, deskF_lo l u, _, rfl, d, C, dx, _, _, rfl, hd, TC.cl, TC.nUp, deskF_up l u, l, u, _, _, rfl, SqL.of DA.lo, SqL.of DA.up, λ D1 n1 =>
   lc_zip (K := K) (a := l) (b := u) (xs := (lows s).map V.int) (ys := (ups s).map V.int) (λ i H' => Same H H' /\ LI H' D1 ((lens s m).take i)) ⟨same_new n1, upd_same⟩ (λ i H' ⟨s1, _⟩ => ⟨SqL.of (s1 _ _ DA.lo), SqL.of (s1 _ _ DA.up)⟩) ?_ ?_⟩
  ·rintro i x y H' tt hx hy ⟨s1, hD⟩ ht
   obtain ⟨b, hb, rfl⟩ := int_of hx
   obtain ⟨a, ha, rfl⟩ := int_of hy
   have hi : i < s.length := by
    have := (List.getElem?_eq_some_iff.mp hb).1
    rw [lows_len] at this
    exact this
   rw [lows_at hi] at hb
   rw [ups_at hi] at ha
   cases hb
   cases ha
   have s3 := same_new (o := .tup [.int (bAt s i), .int (aAt s i)]) ht
   refine ⟨tt, _, rfl, SqT.of upd_same, rfl, _, _, rfl, _, _, rfl, rfl, rfl, iteT (B := True) ⟨_, rfl, _, rfl, _, _, rfl, rfl, _, rfl, _, rfl, _, _, rfl, rfl, _, _, rfl, rfl, _, s3 _ _ hD, ?_, same_upd (s1.trans s3) n1, ?_⟩⟩
   ·rw [lnm, lnt, sizeLine_eq]
    omega
   ·unfold LI
    have e : (lens s m)[i]? = some ((if aAt s i - bAt s i < 0 then -(aAt s i - bAt s i) else aAt s i - bAt s i) + (m : Int) + 1) := by
     unfold lens
     rw [gem, List.getElem?_range hi]
     rfl
    rw [upd_same, take_one e, List.map_append, em]
    rfl
  ·rintro H' ⟨s1, hD⟩
   rw [hll, hul, Nat.min_self, List.take_of_length_le (by omega)] at hD
   refine ⟨D1, lens s m, rfl, SqL.of hD, sz1, λ p hp => ?_⟩
   exact done1 DA k hlo s1 hp
theorem flat_snocA {α β : Type} (f : α -> List β) {l : List α} {i : Nat} {x : α} (h : l[i]? = some x) : (l.take (i + 1)).flatMap f = (l.take i).flatMap f ++ f x := by
 rw [take_one h, List.flatMap_append, List.flatMap_cons, List.flatMap_nil, List.append_nil]
abbrev Tr := Nat × Int × Int
def trV (t : Tr) : List V := [.int (t.1 : Int), .int t.2.1, .int t.2.2]
def trN (t : Tr) : List Int := [(t.1 : Int), t.2.1, t.2.2]
def piecesAt (s : State) (m : Nat) (y : Int) (i : Nat) : List Tr := (alongP y ((Vbpcao.wire s m i).map ofPt)).map λ q => (i, q.1, q.2)
def trk (s : State) (m : Nat) (y : Int) (i : Nat) : List Tr := ((List.range s.length).take i).flatMap (piecesAt s m y)
theorem trk_all (s : State) (m : Nat) (y : Int) : trk s m y s.length = Vbpcao.onTrack s m y := by
 rw [onTrack_is]
 unfold trk
 rw [List.take_of_length_le (by rw [lnr]; exact Nat.le_refl _)]
 rfl
theorem trk_next {s : State} {m i : Nat} {y : Int} (h : i < s.length) : trk s m y (i + 1) = trk s m y i ++ piecesAt s m y i := by
 unfold trk
 exact flat_snocA _ (List.getElem?_range h)
theorem along_len (y : Int) (ps : List (Int × Int)) : (alongP y ps).length <= ps.length := by
 unfold alongP
 have h1 := List.length_filterMap_le (λ t : (Int × Int) × (Int × Int) => if t.1.2 = y /\ t.2.2 = y then some (min t.1.1 t.2.1, max t.1.1 t.2.1) else Option.none) (nexts ps)
 have h3 := nexts_len ps
 omega
theorem flatA_len {α β : Type} (f : α -> List β) (m : Nat) : ∀ (l : List α), (∀ x ∈ l, (f x).length <= m) -> (l.flatMap f).length <= m * l.length
 | [], _ => by simp
 | x :: l, h => by
  rw [List.flatMap_cons, lna, lnc]
  have h1 := h x (List.mem_cons_self ..)
  have h2 := flatA_len f m l λ z hz => h z (List.mem_cons_of_mem _ hz)
  rw [Nat.mul_add]
  omega
theorem trk_len {s : State} (o : Ok s) (m : Nat) (y : Int) (i : Nat) : (trk s m y i).length <= 132 * 64 := by
 unfold trk
 have h1 := flatA_len (piecesAt s m y) 132 ((List.range s.length).take i) (λ j _ => by
  unfold piecesAt
  rw [lnm]
  have := along_len y ((Vbpcao.wire s m j).map ofPt)
  have := wire_pts o m j
  omega)
 have h2 : ((List.range s.length).take i).length <= s.length := by
  rw [lnt, lnr]
  omega
 have := o.len
 have : 132 * ((List.range s.length).take i).length <= 132 * 64 := Nat.mul_le_mul_left _ (by omega)
 omega
def spTrackC (C : Addr) : Sp := λ vs H Q E => ∃ h y : Int, CallSp C [h, y] noRows (.track h y) vs H Q E
theorem sc_track : FnScope ["desk", "given", "h", "y", "refusal", "pieces", "net", "corners", "left", "right", "answer", "piece"] ["desk", "given"] (defScope s_track) := ⟨rfl, rfl, rfl, by decide +kernel, rfl, by decide +kernel, by decide +kernel⟩
theorem ok_track {C : Addr} (D : Def K mg "track" s_track) (T : Txt mg) (TC : DeskC K C) (c_width_refusal : Cal P w K mg base "width_refusal" ["desk", "h"] 2 (spRefuse C)) (c_all_wires : Cal P w K mg base "all_wires" ["lower", "upper", "h"] 4 spAllW) (c_pieces_along : Cal P w K mg base "pieces_along" ["corners", "y"] 1 spAlong) : Cal P w K mg base "track" ["desk", "given"] 5 (spTrackC C) := by
 refine D.cal sc_track (λ _ _ _ _ _ _ us hl => match us, hl with | [_, _], _ => rfl) (λ vs H Q E h => h.choose_spec.choose_spec.len) (λ f cdv A outer s H vs Q E hr h => ?_)
 obtain ⟨h, y, d, g, l, u, s, rs, rfl, DA, o, hg, _, _, _, k⟩ := h
 obtain ⟨dx, hd⟩ := DA.obj
 have hlen := o.len
 refine ⟨_, (pss_cons (ps_set (i := 2) sc_track.nd rfl (.inl rfl) (pe_ix ix_list (pv 1) pe_int (λ _ _ => rfl)))
   (pss_cons (ps_set (i := 3) sc_track.nd rfl (.inl rfl) (pe_ix ix_list (pv 1) pe_int (λ _ _ => rfl)))
   (pss_cons (ps_set (i := 4) sc_track.nd rfl (.inl rfl) (pe_cal c_width_refusal (up hr) rfl (pa_cons (pv 0) (pa_cons (pv 2) pa_nil))))
   (pss_cons (ps_if (pt_cmp (pc_notN (pv 4))) (pss_one (ps_ret (pe_lst (pa_cons (pv 4) pa_nil)))) pss_nil)
   (pss_cons (ps_if (pt_not (pt_chain op_le op_le pe_int (pv 3) (pv 2))) (pss_one (ps_ret (pe_lst (pa_cons (pe_gint T.OUT_OF_RANGE rfl) pa_nil)))) pss_nil)
   (pss_cons (ps_set (i := 5) sc_track.nd rfl (.inl rfl) (pe_lst pa_nil))
   (pss_cons (ps_for PassesOwn.never rfl (pi_enum rfl T.enumerate (pa_cons (pe_cal c_all_wires (up hr) rfl (pa_cons (pe_fld (pv 0) rfl) (pa_cons (pe_fld (pv 0) rfl) (pa_cons (pv 2) pa_nil)))) pa_nil)) (pg_tup (n := 2) rfl (pgs_cons (pg_name (i := 6) sc_track.nd rfl (.inl rfl)) (pgs_cons (pg_name (i := 7) sc_track.nd rfl (.inl rfl)) pgs_nil))) (pss_one (ps_for PassesOwn.never rfl (pi_list (pe_cal c_pieces_along (up hr) rfl (pa_cons (pv 7) (pa_cons (pv 3) pa_nil)))) (pg_tup (n := 2) rfl (pgs_cons (pg_name (i := 8) sc_track.nd rfl (.inl rfl)) (pgs_cons (pg_name (i := 9) sc_track.nd rfl (.inl rfl)) pgs_nil))) (pss_one (ps_expr (pe_bm PySem.F.plainAttrs_list PySem.F.slot_list_append PySem.F.type_list_append mt_append (pv 5) (pa_cons (pe_tup (pa_cons (pv 6) (pa_cons (pv 8) (pa_cons (pv 9) pa_nil)))) pa_nil)))))))
   (pss_cons (ps_set (i := 10) sc_track.nd rfl (.inl rfl) (pe_lst (pa_cons (pe_callB call_len_seq (by rfl) T.len PySem.boot_len (pa_cons (pv 5) pa_nil)) pa_nil)))
   (pss_cons (ps_for PassesOwn.never rfl (pi_list (pv 5)) (pg_name (i := 11) sc_track.nd rfl (.inl rfl)) (pss_one (ps_expr (pe_bm PySem.F.plainAttrs_list PySem.F.slot_list_extend PySem.F.type_list_extend mt_extendT (pv 10) (pa_cons (pv 11) pa_nil)))))
   (pss_one (ps_ret (pv 10)))))))))))), ?_⟩
 refine ⟨_, rfl, g, _, _, _, rfl, rfl, SqL.of hg, at_of (j := 0) rfl rfl, _, rfl, g, _, _, _, rfl, rfl, SqL.of hg, at_of (j := 1) rfl rfl, _, rfl, _, rfl, d, l, u, s, h, rfl, DA, o, _, rfl, _, rfl, ?_⟩
 cases ew : Vbpcao.wide s h with
 | error e =>
  refine iteT ⟨_, rfl, sz1, λ p hp => ?_⟩
  exact done1 DA k (track_err ew) (Same.refl H) hp
 | ok m =>
  refine iteF ?_
  obtain ⟨em, _, _⟩ := wide_is ew
  have no : ¬ (1 <= y /\ y <= h) -> Vbpcao.within y 1 (m : Int) = false := λ z => by
   rw [em]
   exact decide_eq_false z
  have out : ¬ (1 <= y /\ y <= h) -> ∀ p, H p = Option.none -> Q (.ref p) (upd H p (.lst (([-2] : List Int).map V.int))) := λ z p hp => done1 DA k (track_no ew (no z)) (Same.refl H) hp
  refine ⟨_, rfl, _, _, rfl, rfl, _, rfl, ite2 (λ h1 => ?_) (λ h1 => ?_)⟩
  case refine_2 =>
   rw [dte] at h1
   refine ⟨_, rfl, iteT ⟨sz1, λ p hp => out (λ z => h1 z.1) p hp⟩⟩
  refine ⟨_, rfl, _, _, rfl, rfl, _, rfl, ite2 (λ h2 => ?_) (λ h2 => ?_)⟩
  case refine_1 =>
   rw [Bool.not_eq_true', decide_eq_false_iff_not] at h2
   exact ⟨sz1, λ p hp => out (λ z => h2 z.2) p hp⟩
  rw [Bool.not_eq_true', decide_eq_false_iff_not, Decidable.not_not] at h2
  rw [dte] at h1
  have yes : Vbpcao.within y 1 (m : Int) = true := by
   rw [em]
   exact decide_eq_true ⟨h1, h2⟩
  refine ⟨Nat.zero_le _, λ r n0 => ?_⟩
  have s0 := same_new (o := .lst []) n0
  have DA0 := DA.same s0
  refine ⟨_, rfl, d, C, dx, _, _, rfl, s0 _ _ hd, TC.cl, TC.nLo, deskF_lo l u, _, rfl, d, C, dx, _, _, rfl, s0 _ _ hd, TC.cl, TC.nUp, deskF_up l u, _, rfl, l, u, s, m, by rw [em]; rfl, DA0.lo, DA0.up, o, λ H1 q s1 n1 hq => ?_⟩
  obtain ⟨as, hq1, hal, hat, hfr⟩ := hq.ex
  rw [wiresP_len] at hal
  have hr1 : H1 r = some (.lst []) := s1 _ _ upd_same
  have nqr : q ≠ r := λ e => by rw [e, upd_same] at n1; cases n1
  have sH : Same H (hole H1 r) := same_hole (s0.trans s1) n0
  refine ⟨q, _, rfl, SqL.of hq1, for_enum (K := K) (a := q) (xs := as.map V.ref) (λ i σ H' => ∃ v1 v2 v3 v4 bs, σ = [some (.ref d), some (.ref g), some (.int h), some (.int y), some .non, some (.ref r), v1, v2, v3, v4, Option.none, Option.none] /\ Same (hole H1 r) H' /\ H' r = some (.lst (bs.map V.ref)) /\ Recs H' bs ((trk s m y i).map trV))
   ⟨_, _, _, _, [], rfl, hole_same, hr1, recs_nil _⟩ (λ i σ H' _ ⟨_, _, _, _, _, _, s2, _⟩ => SqL.of (s2 _ _ (by rw [hole_ne nqr]; exact hq1))) ?_ ?_⟩
  ·rintro i vx σ H' tt hx ⟨v1, v2, v3, v4, bs, rfl, s2, hr', tb⟩ ht
   obtain ⟨a, ha, rfl⟩ := ref_of hx
   have hi : i < s.length := by
    have := (List.getElem?_eq_some_iff.mp ha).1
    omega
   have nar : a ≠ r := λ e => by
    have := hfr a (List.mem_of_getElem? ha)
    rw [e, upd_same] at this
    cases this
   have s3 := same_new (o := .tup [.int (i : Int), .ref a]) ht
   have hpa := ((hat i a _ ha (wiresP_at hi)).hole nar hr1).same (s2.trans s3)
   refine ⟨tt, _, rfl, SqT.of upd_same, rfl, _, _, rfl, _, _, rfl, rfl, ?_⟩
   refine ⟨_, rfl, _, rfl, a, y, _, rfl, hpa, by have := wire_pts o m i; omega, λ H2 q2 s4 n4 hq2 => ?_⟩
   have hr2 : H2 r = some (.lst (bs.map V.ref)) := s4 _ _ (s3 _ _ hr')
   have tb2 := (tb.same s3).same s4
   have nq2 : q2 ≠ r := λ e => by rw [e, s3 _ _ hr'] at n4; cases n4
   have hq2h := hq2.hole nq2 hr2
   obtain ⟨cs, hc1, tc⟩ := hq2
   have sH2 : Same (hole H1 r) (hole H2 r) := same_hole ((s2.trans s3).trans s4) hole_self
   have e0 : piecesAt s m y i = (alongP y ((Vbpcao.wire s m i).map ofPt)).map λ q => (i, q.1, q.2) := rfl
   refine ⟨q2, rfl, ⟨_, SqL.of hc1⟩, for_list (K := K) (a := q2) (xs := cs.map V.ref) (λ j σ H' => ∃ v3 v4 bs, σ = [some (.ref d), some (.ref g), some (.int h), some (.int y), some .non, some (.ref r), some (.int i), some (.ref a), v3, v4, Option.none, Option.none] /\ Same (hole H2 r) H' /\ H' r = some (.lst (bs.map V.ref)) /\ Recs H' bs ((trk s m y i ++ (piecesAt s m y i).take j).map trV))
    ⟨_, _, bs, rfl, hole_same, hr2, by rw [List.take_zero, List.append_nil]; exact tb2⟩ (λ j σ H' _ ⟨_, _, _, _, s5, _⟩ => SqL.of (s5 _ _ (by rw [hole_ne nq2]; exact hc1))) ?_ ?_⟩
   ·rintro j vz σ H3 hz ⟨v3, v4, bs3, rfl, s5, hr3, tb3⟩
    obtain ⟨c, hc, rfl⟩ := ref_of hz
    obtain ⟨p, hp, ep⟩ := tc.get hc
    have ep' : hole H2 r c = some (.tup [.int p.1, .int p.2]) := by
     rw [hole_ne (ne_of ep hr2 (λ z => nomatch z))]
     exact ep
    have epi : (piecesAt s m y i)[j]? = some (i, p.1, p.2) := by rw [e0, gem, hp]; rfl
    refine ⟨c, _, rfl, SqT.of (s5 _ _ ep'), rfl, _, _, rfl, _, _, rfl, rfl, ?_⟩
    have hbl : (bs3.map V.ref).length < sizeLine := by
     rw [lnm, tb3.len, lnm, lna, sizeLine_eq]
     have h1 := trk_len o m y i
     have h2 : ((piecesAt s m y i).take j).length <= 132 := by
      have := List.length_take_le' j (piecesAt s m y i)
      have h3 : (piecesAt s m y i).length <= 132 := by
       rw [e0, lnm]
       have := along_len y ((Vbpcao.wire s m i).map ofPt)
       have := wire_pts o m i
       omega
      omega
     omega
    refine ⟨_, rfl, .inl ⟨rfl, _, SqL.of hr3⟩, _, rfl, _, rfl, _, rfl, sz1, λ p4 n4 => ?_⟩
    refine ⟨r, _, _, rfl, rfl, by rw [upd_ne (ne_of_none hr3 n4)]; exact hr3, hbl, ?_⟩
    obtain ⟨hb', tb'⟩ := recs_app (vs := trV (i, p.1, p.2)) hr3 tb3 n4
    refine ⟨_, _, bs3 ++ [p4], rfl, same_upd (same_upd s5 (s5.free n4)) hole_self, hb', ?_⟩
    rw [take_one epi, <- List.append_assoc, List.map_append]
    exact tb'
   ·rintro σ H3 ⟨v3, v4, bs3, rfl, s5, hr3, tb3⟩
    refine ⟨_, _, _, _, bs3, rfl, sH2.trans s5, hr3, ?_⟩
    rw [List.take_of_length_le (by rw [lnm, tc.len, e0, lnm]; exact Nat.le_refl _), <- trk_next hi] at tb3
    exact tb3
  ·rintro σ H2 ⟨v1, v2, v3, v4, bs, rfl, s2, hr2, tb⟩
   rw [lnm, hal, trk_all] at tb
   have hot := onTrack_len s m y hlen
   have hbl : bs.length = (Vbpcao.onTrack s m y).length := by rw [tb.len, lnm]
   refine ⟨_, rfl, r, _, rfl, .inl (SqL.of hr2), sz1, λ r2 n2 => ?_⟩
   have s3 := same_new (o := .lst [.int (((bs.map V.ref).length : Nat) : Int)]) n2
   refine ⟨_, rfl, r, rfl, ⟨_, SqL.of (s3 _ _ hr2)⟩, for_list (K := K) (a := r) (xs := bs.map V.ref) (λ j σ H' => ∃ v1 v2 v3 v4 v5, σ = [some (.ref d), some (.ref g), some (.int h), some (.int y), some .non, some (.ref r), v1, v2, v3, v4, some (.ref r2), v5] /\ Same H2 H' /\ LI H' r2 (((Vbpcao.onTrack s m y).length : Int) :: ((Vbpcao.onTrack s m y).take j).flatMap trN))
    ⟨_, _, _, _, _, rfl, s3, by unfold LI; rw [upd_same, lnm, hbl]; rfl⟩ (λ j σ H' _ ⟨_, _, _, _, _, _, s4, _⟩ => SqL.of (s4 _ _ hr2)) ?_ ?_⟩
   ·rintro j vz σ H3 hz ⟨v1, v2, v3, v4, v5, rfl, s4, hr3⟩
    obtain ⟨c, hc, rfl⟩ := ref_of hz
    obtain ⟨vs, hvs, ec⟩ := tb.get hc
    rw [gem] at hvs
    cases et : (Vbpcao.onTrack s m y)[j]? with
    | none => rw [et] at hvs; cases hvs
    | some t =>
     rw [et] at hvs
     have ev : trV t = vs := Option.some.inj hvs
     subst ev
     refine ⟨_, rfl, .inl ⟨rfl, _, SqL.of hr3⟩, _, rfl, r2, c, _, _, rfl, rfl, hr3, SqT.of (s4 _ _ ec), ?_, ?_⟩
     ·have h1 := flatA_len trN 3 ((Vbpcao.onTrack s m y).take j) (λ x _ => Nat.le_refl 3)
      have h2 := List.length_take_le' j (Vbpcao.onTrack s m y)
      rw [lnm, lnc, sizeLine_eq]
      show _ + 3 <= _
      omega
     ·refine ⟨_, _, _, _, _, rfl, same_upd s4 n2, ?_⟩
      unfold LI
      rw [upd_same, flat_snocA _ et, <- List.cons_append, List.map_append]
      rfl
   ·rintro σ H3 ⟨v1, v2, v3, v4, v5, rfl, s4, hr3⟩
    refine ⟨_, rfl, ?_⟩
    rw [lnm, hbl, List.take_length] at hr3
    exact done DA k (track_ok ew yes) ((sH.trans s2).trans s4) ((sH.trans s2).free n2) hr3
theorem RgC.up {i j c n : Nat} (hc : 0 < c) (hcs : c < 1073741824) (hi : i < 1000000000) (hj : j < 1000000000) (hn : (if i < j then (j - i - 1) / c + 1 else 0) = n) : RgC (i : Int) (j : Int) (c : Int) n := by
 have e : Builtin.Range.rangeSize (i : Int) (j : Int) (c : Int) = (n : Int) := by
  unfold Builtin.Range.rangeSize
  rw [if_pos (by omega : (c : Int) > 0)]
  by_cases h : i < j
  ·rw [if_pos h] at hn
   rw [if_pos (by omega : (i : Int) < (j : Int)), <- hn]
   have : ((j : Int) - (i : Int) - 1) = ((j - i - 1 : Nat) : Int) := by omega
   rw [this]
   rfl
  ·rw [if_neg h] at hn
   rw [if_neg (by omega : ¬ (i : Int) < (j : Int)), <- hn]
   rfl
 have hn2 : n <= 1000000000 := by
  rw [<- hn]
  split
  ·have := Nat.div_le_self (j - i - 1) c
   omega
  ·omega
 refine ⟨by omega, by omega, ?_, e⟩
 unfold Builtin.Range.small
 rw [e]
 simp only [Builtin.Range.rangeFitsLong, Bool.and_eq_true, Bool.or_eq_true, decide_eq_true_eq, beq_iff_eq]
 have : (c : Int) > 0 := by omega
 simp only [this, if_true, Bool.and_eq_true, decide_eq_true_eq]
 omega
def tokP (p : Int × Int) : List V := [.tok p.1, .tok p.2]
def TPts (H : Hp) (q : Addr) (ps : List (Int × Int)) : Prop := ∃ as : List Addr, H q = some (.lst (as.map V.ref)) /\ Recs H as (ps.map tokP)
theorem TPts.same {H H' : Hp} {q : Addr} {ps : List (Int × Int)} (t : TPts H q ps) (s : Same H H') : TPts H' q ps := let ⟨as, h1, h2⟩ := t; ⟨as, s _ _ h1, h2.same s⟩
theorem TPts.write {H : Hp} {a r : Addr} {ps : List (Int × Int)} {xs : List V} {o : HO} (t : TPts H a ps) (ne : a ≠ r) (hr : H r = some (.lst xs)) : TPts (upd H r o) a ps := let ⟨as, h1, h2⟩ := t; ⟨as, by rw [upd_ne ne]; exact h1, h2.write hr⟩
def TWires (H : Hp) (q : Addr) (wss : List (List (Int × Int))) : Prop := ∃ as : List Addr, H q = some (.lst (as.map V.ref)) /\ as.length = wss.length /\ ∀ (j : Nat) (a : Addr) (ps : List (Int × Int)), as[j]? = some a -> wss[j]? = some ps -> TPts H a ps
theorem TWires.same {H H' : Hp} {q : Addr} {wss : List (List (Int × Int))} (x : TWires H q wss) (s : Same H H') : TWires H' q wss :=
 let ⟨as, h1, h2, h3⟩ := x
 ⟨as, s _ _ h1, h2, λ j a ps e1 e2 => (h3 j a ps e1 e2).same s⟩
theorem tw_ne {H : Hp} {r a : Addr} {as : List Addr} {ps : List (Int × Int)} {j : Nat} (hr : H r = some (.lst (as.map V.ref))) (hj : as[j]? = some a) (t : TPts H a ps) : a ≠ r := by
 rintro rfl
 obtain ⟨bs, e1, e2⟩ := t
 rw [hr] at e1
 have e3 : as.map V.ref = bs.map V.ref := by injection (Option.some.inj e1)
 have hjb : bs[j]? = some a := by
  have h1 : (as.map V.ref)[j]? = some (V.ref a) := by rw [gem, hj]; rfl
  rw [e3] at h1
  obtain ⟨a', h2, h3⟩ := ref_of h1
  cases h3
  exact h2
 obtain ⟨p, hp, e4⟩ := e2.get hjb
 rw [hr] at e4
 cases e4
theorem tw_app {H : Hp} {r q : Addr} {as : List Addr} {wss : List (List (Int × Int))} {ps : List (Int × Int)} (hr : H r = some (.lst (as.map V.ref))) (hl : as.length = wss.length) (hat : ∀ (j : Nat) (a : Addr) (ps : List (Int × Int)), as[j]? = some a -> wss[j]? = some ps -> TPts H a ps) (hq : TPts H q ps) (nq : q ≠ r) :
  TWires (upd H r (.lst (as.map V.ref ++ [V.ref q]))) r (wss ++ [ps]) := by
 refine ⟨as ++ [q], by rw [upd_same, List.map_append]; rfl, by rw [lna, lna, hl]; rfl, λ j a z h1 h2 => ?_⟩
 by_cases hj : j < as.length
 ·rw [List.getElem?_append_left hj] at h1
  rw [List.getElem?_append_left (by omega)] at h2
  have t := hat j a z h1 h2
  exact t.write (tw_ne hr h1 t) hr
 ·have e : j = as.length := by
   have := (List.getElem?_eq_some_iff.mp h1).1
   simp at this
   omega
  subst e
  rw [List.getElem?_append_right (Nat.le_refl _), Nat.sub_self] at h1
  rw [hl, List.getElem?_append_right (Nat.le_refl _), Nat.sub_self] at h2
  have h1 : q = a := Option.some.inj h1
  have h2 : ps = z := Option.some.inj h2
  subst h1
  subst h2
  exact hq.write nq hr
theorem corners_snoc (row : List Int) (p i : Nat) : cornersAt row p (i + 1) = cornersAt row p i ++ [(row.getD (p + 2 * i) 0, row.getD (p + 2 * i + 1) 0)] := by
 unfold cornersAt
 rw [List.range_succ, List.map_append]
 rfl
theorem corners_len (row : List Int) (p n : Nat) : (cornersAt row p n).length = n := by unfold cornersAt; rw [lnm, lnr]
theorem tok_at {row : List Int} {j : Nat} (h : j < row.length) : (row.map V.tok)[j]? = some (V.tok (row.getD j 0)) := by
 rw [gem, getD_at h]
 rfl
def spRead : Sp := λ vs H Q _ => ∃ (c : Addr) (row : List Int), vs = [.ref c] /\ H c = some (.lst (row.map V.tok)) /\ row.length <= 100000 /\
 match Vbpcao.wiresOf (row.length + 1) row with
 | Option.none => ∀ H', Same H H' -> Q .non H'
 | some ws => ∀ (H' : Hp) (q : Addr), Same H H' -> TWires H' q (ws.map λ l => l.map ofPt) -> Q (.ref q) H'
theorem sc_read_wires : FnScope ["row", "wires", "place", "count", "end", "k"] ["row"] (defScope s_read_wires) := ⟨rfl, rfl, rfl, by decide +kernel, rfl, by decide +kernel, by decide +kernel⟩
theorem ok_read_wires (D : Def K mg "read_wires" s_read_wires) (T : Txt mg) : Cal P w K mg base "read_wires" ["row"] 1 spRead := by
 refine D.cal sc_read_wires (λ _ _ _ _ _ _ us hl => match us, hl with | [_], _ => rfl) (λ vs H Q E h => ?_) (λ f cdv A outer s H vs Q E hr h => ?_)
 ·obtain ⟨c, row, rfl, _⟩ := h
  rfl
 ·obtain ⟨c, row, rfl, hc, hn, q⟩ := h
  have len : (row.map V.tok).length = row.length := List.length_map ..
  refine ⟨_, (pss_cons (ps_set (i := 1) sc_read_wires.nd rfl (.inl rfl) (pe_lst pa_nil))
   (pss_cons (ps_set (i := 2) sc_read_wires.nd rfl (.inl rfl) pe_int)
   (pss_cons (ps_while PassesOwn.never (pt_cmpR op_lt (pv 2) (pe_callB call_len_seq (by rfl) T.len PySem.boot_len (pa_cons (pv 0) pa_nil)) (nomark _)) (pss_cons (ps_set (i := 3) sc_read_wires.nd rfl (.inl rfl) (pe_weak (pe_ix ix_list (pv 0) (pv 2) (λ _ _ => rfl))))
   (pss_cons (ps_set (i := 4) sc_read_wires.nd rfl (.inl rfl) (pe_op op_add (pe_op op_add (pv 2) pe_int) (pe_op op_mul pe_int (pv 3))))
   (pss_cons (ps_if (PW.pt (pw_or (pt_cmpR op_lt (pv 3) pe_int (nomark _)) (pw_or1 (pt_cmpR op_gt (pv 4) (pe_callB call_len_seq (by rfl) T.len PySem.boot_len (pa_cons (pv 0) pa_nil)) (nomark _))))) (pss_one (ps_ret pe_non)) pss_nil)
   (pss_cons (ps_expr (pe_bm PySem.F.plainAttrs_list PySem.F.slot_list_append PySem.F.type_list_append mt_append (pv 1) (pa_cons (pe_lc rfl sc_read_wires.nd (pi_range3 rfl T.range (pa_cons (pe_op op_add (pv 2) pe_int) (pa_cons (pv 4) (pa_cons pe_int pa_nil)))) (blkOk_by (own := [("k", 5)]) (by kernel_rfl)) (λ _ _ _ _ _ => (pg_name (i := 5) sc_read_wires.nd rfl (.inl rfl))) (λ _ _ _ _ _ => pts_nil) (λ _ _ _ _ _ => (pe_tup (pa_cons (pe_ix (ix_listK (K := K) rfl) (pv 0) (pv 5) (λ _ _ => rfl)) (pa_cons (pe_ix (ix_listK (K := K) rfl) (pv 0) (pe_op op_add (pv 5) pe_int) (λ _ _ => rfl)) pa_nil))))) pa_nil)))
   (pss_one (ps_set (i := 2) sc_read_wires.nd rfl (.inl rfl) (pv 4))))))))
   (pss_one (ps_ret (pv 1)))))), ?_⟩
  refine ⟨Nat.zero_le _, λ r n0 => ?_⟩
  have s0 := same_new (o := .lst []) n0
  refine ⟨λ m σ H' => ∃ (place f : Nat) (v3 v4 v5 : Option V) (as : List Addr) (wss : List (List (Int × Int))), m = row.length - place /\ place <= row.length /\ row.length <= f + place /\ σ = [some (.ref c), some (.ref r), some (.int place), v3, v4, v5] /\ Same H H' /\ H' r = some (.lst (as.map V.ref)) /\ as.length = wss.length /\ as.length <= place /\ (∀ (j : Nat) (a : Addr) (ps : List (Int × Int)), as[j]? = some a -> wss[j]? = some ps -> TPts H' a ps) /\
    Vbpcao.wiresOf (row.length + 1) row = (Vbpcao.wiresOf (f + 1) (row.drop place)).map λ ws => (wss.map λ l => l.map toPt) ++ ws,
   ⟨_, 0, row.length, _, _, _, [], [], rfl, Nat.zero_le _, Nat.le_refl _, rfl, s0, upd_same, rfl, Nat.le_refl _, λ j a ps h => by simp at h, by rw [List.drop_zero]; cases Vbpcao.wiresOf (row.length + 1) row <;> rfl⟩, ?_⟩
  rintro m σ H' ⟨place, fu, v3, v4, v5, as, wss, rfl, hp, hf, rfl, s1, hr', hal, hap, hat, hw⟩
  refine ⟨_, rfl, _, rfl, c, _, rfl, .inl (SqL.of (s1 _ _ hc)), _, _, rfl, rfl, _, rfl, ite2 (λ h1 => ?_) (λ h1 => ?_)⟩
  ·rw [dte, len] at h1
   have hpl : place < row.length := by omega
   have hrow := getD_at hpl
   have hstep := wires_step (f := fu) hrow
   generalize row.getD place 0 = n at hrow hstep
   rw [hstep] at hw
   refine ⟨_, λ _ _ h => h, _, rfl, _, rfl, c, _, _, _, rfl, rfl, SqL.of (s1 _ _ hc), at_of (j := place) rfl (by rw [gem, hrow]; rfl), ?_⟩
   refine ⟨_, rfl, _, _, rfl, rfl, _, rfl, _, _, rfl, rfl, .inl ⟨by decide, by decide⟩, _, _, rfl, rfl, ?_⟩
   have bad : (n < 0 ∨ (row.length : Int) < (place : Int) + 1 + 2 * n) -> Q .non H' := λ z => by
    rw [if_pos z] at hw
    rw [hw] at q
    exact q H' s1
   refine ⟨_, rfl, _, _, rfl, rfl, _, rfl, ite2 (λ h2 => ?_) (λ h2 => ?_)⟩
   ·rw [dte] at h2
    exact iteT (bad (.inl h2))
   ·rw [dte] at h2
    refine ⟨_, rfl, _, rfl, c, _, rfl, .inl (SqL.of (s1 _ _ hc)), _, _, rfl, rfl, _, rfl, ite2 (λ h3 => ?_) (λ h3 => ?_)⟩
    ·rw [dte, len] at h3
     exact bad (.inr (by omega))
    ·rw [dte, len] at h3
     have good : ¬ (n < 0 ∨ (row.length : Int) < (place : Int) + 1 + 2 * n) := by omega
     rw [if_neg good] at hw
     have en : ((n.toNat : Nat) : Int) = n := by omega
     refine ⟨_, rfl, .inl ⟨rfl, _, SqL.of hr'⟩, _, rfl, _, _, rfl, rfl, _, rfl, _, _, _, n.toNat, rfl, ?_, λ D1 n1 => lc_rangeC (λ i H2 => Same H' H2 /\ ∃ bs : List Addr, H2 D1 = some (.lst (bs.map V.ref)) /\ Recs H2 bs ((cornersAt row (place + 1) i).map tokP)) ⟨same_new n1, [], upd_same, recs_nil _⟩ ?_ ?_⟩
     ·have := RgC.up (i := place + 1) (j := place + 1 + 2 * n.toNat) (c := 2) (n := n.toNat) (by omega) (by omega) (by omega) (by omega) (by split <;> omega)
      have e1 : ((place + 1 : Nat) : Int) = (place : Int) + 1 := rfl
      have e2 : ((place + 1 + 2 * n.toNat : Nat) : Int) = (place : Int) + 1 + 2 * n := by omega
      rw [e1, e2] at this
      exact this
     ·rintro i H2 hi ⟨s2, bs, hD, tb⟩
      have hc2 := s2 _ _ (s1 _ _ hc)
      refine ⟨rfl, iteT (B := True) ⟨_, rfl, _, rfl, c, _, _, _, rfl, rfl, SqL.of hc2, at_of (j := place + 1 + 2 * i) (by omega) (tok_at (by omega)), _, rfl, _, rfl, _, _, rfl, rfl, c, _, _, _, rfl, rfl, SqL.of hc2, at_of (j := place + 1 + 2 * i + 1) (by omega) (tok_at (by omega)), sz1, λ p4 n4 => ?_⟩⟩
      obtain ⟨hb', tb'⟩ := recs_app (vs := tokP (row.getD (place + 1 + 2 * i) 0, row.getD (place + 1 + 2 * i + 1) 0)) hD tb n4
      refine ⟨_, by rw [upd_ne (ne_of_none hD n4)]; exact hD, ?_, same_upd (same_upd s2 (s2.free n4)) n1, bs ++ [p4], hb', ?_⟩
      ·rw [lnm, tb.len, lnm, corners_len, sizeLine_eq]
       omega
      ·rw [corners_snoc, List.map_append]
       exact tb'
     ·rintro H2 ⟨s2, bs, hD, tb⟩
      have hr2 := s2 _ _ hr'
      have nD : D1 ≠ r := λ e => by rw [e, hr'] at n1; cases n1
      refine ⟨r, _, _, rfl, rfl, hr2, by rw [lnm, sizeLine_eq]; omega, ?_⟩
      obtain ⟨as', ha1, ha2, ha3⟩ := tw_app (ps := cornersAt row (place + 1) n.toNat) hr2 hal (λ j a ps e1 e2 => (hat j a ps e1 e2).same s2) ⟨bs, hD, tb⟩ nD
      have hal' : as'.length = as.length + 1 := by rw [ha2, lna, <- hal]; rfl
      obtain ⟨f', rfl⟩ : ∃ f', fu = f' + 1 := ⟨fu - 1, by omega⟩
      refine ⟨_, rfl, row.length - (place + 1 + 2 * n.toNat), by omega, place + 1 + 2 * n.toNat, f', some (.int n), some (.int ((place : Int) + 1 + 2 * n)), v5, as', wss ++ [cornersAt row (place + 1) n.toNat], rfl, by omega, by omega, ?_, same_upd (s1.trans s2) n0, ha1, ha2, by omega, ha3, ?_⟩
      ·have e2 : ((place + 1 + 2 * n.toNat : Nat) : Int) = (place : Int) + 1 + 2 * n := by omega
       rw [e2]
       rfl
      ·rw [hw, Option.map_map]
       congr 1
       funext ws
       show (wss.map λ l => l.map toPt) ++ ((cornersAt row (place + 1) n.toNat).map toPt :: ws) = _
       rw [List.map_append, List.append_assoc]
       rfl
  ·rw [dte, len] at h1
   rw [wires_end (by omega)] at hw
   refine ⟨_, rfl, ?_⟩
   rw [hw] at q
   refine q H' r s1 ⟨as, hr', ?_, ?_⟩
   ·dsimp only
    rw [List.append_nil, lnm, lnm, hal]
   ·dsimp only
    rw [List.append_nil, List.map_map]
    have : ((λ l : List Vbpcao.Pt => l.map ofPt) ∘ λ l : List (Int × Int) => l.map toPt) = id := by
     funext l
     exact of_to l
    rw [this, List.map_id]
    exact hat
theorem eqv_pair (x y a b : Int) : PyData.eqv (.tuple [.int x, .int y]) (.tuple [.int a, .int b]) = decide ((x, y) = (a, b)) := by
 show (x == a && (y == b && true)) = _
 rw [Bool.eq_iff_iff, Bool.and_true, Bool.and_eq_true, beq_iff_eq, beq_iff_eq, dte, Prod.mk.injEq]
theorem at_last {xs : List V} {v : V} (h : 0 < xs.length) (hv : xs[xs.length - 1]? = some v) : atI xs (-1) = some v := by
 unfold atI ixN
 rw [if_neg (by omega), if_pos (by omega)]
 show xs[(-1 + (xs.length : Int)).toNat]? = _
 rw [show (-1 + (xs.length : Int)).toNat = xs.length - 1 by omega]
 exact hv
theorem tok_pts {ps : List (Int × Int)} {j : Nat} {vs : List V} (h : (ps.map tokP)[j]? = some vs) : ∃ p, ps[j]? = some p /\ vs = tokP p := by
 rw [gem] at h
 cases e : ps[j]? with
 | none => rw [e] at h; cases h
 | some p => rw [e] at h; exact ⟨p, rfl, (Option.some.inj h).symm⟩
theorem Recs.pt {H : Hp} {as : List Addr} {ps : List (Int × Int)} (t : Recs H as (ps.map tokP)) {j : Nat} {a : Addr} (h : as[j]? = some a) : ∃ p, ps[j]? = some p /\ H a = some (.tup [.tok p.1, .tok p.2]) := by
 obtain ⟨vs, h1, h2⟩ := t.get h
 obtain ⟨p, h3, rfl⟩ := tok_pts h1
 exact ⟨p, h3, h2⟩
theorem Recs.plen {H : Hp} {as : List Addr} {ps : List (Int × Int)} (t : Recs H as (ps.map tokP)) : as.length = ps.length := by rw [t.len, lnm]
def spStraight : Sp := λ vs H Q _ => ∃ (a b : Addr) (p q : Int × Int), vs = [.ref a, .ref b] /\ H a = some (.tup [.tok p.1, .tok p.2]) /\ H b = some (.tup [.tok q.1, .tok q.2]) /\ Q (.bl (decide (p.1 = q.1) != decide (p.2 = q.2))) H
theorem dec_int' (a b : Int) : decide (V.int a = V.int b) = decide (a = b) := by
 rw [decide_eq_decide]
 exact ⟨V.int.inj, congrArg _⟩
theorem sc_is_straight : FnScope ["one", "other"] ["one", "other"] (defScope s_is_straight) := ⟨rfl, rfl, rfl, by decide +kernel, rfl, by decide +kernel, by decide +kernel⟩
theorem ok_is_straight (D : Def K mg "is_straight" s_is_straight) (T : Txt mg) : Cal P w K mg base "is_straight" ["one", "other"] 1 spStraight := by
 refine D.cal sc_is_straight (λ _ _ _ _ _ _ us hl => match us, hl with | [_, _], _ => rfl) (λ vs H Q E h => ?_) (λ f cdv A outer s H vs Q E hr h => ?_)
 ·obtain ⟨a, b, p, q, rfl, _⟩ := h
  rfl
 ·obtain ⟨a, b, p, q, rfl, ha, hb, k⟩ := h
  refine ⟨_, (pss_one (ps_ret (pe_cmpR op_ne (pe_cmpR op_eq (pe_weak (pe_ix ix_tup (pv 0) pe_int (λ _ _ => rfl))) (pe_weak (pe_ix ix_tup (pv 1) pe_int (λ _ _ => rfl))) (nomark _)) (pe_cmpR op_eq (pe_weak (pe_ix ix_tup (pv 0) pe_int (λ _ _ => rfl))) (pe_weak (pe_ix ix_tup (pv 1) pe_int (λ _ _ => rfl))) (nomark _)) (nomark _)))), ?_⟩
  refine ⟨_, rfl, a, _, _, _, rfl, rfl, SqT.of ha, at_of (j := 0) rfl rfl, _, rfl, b, _, _, _, rfl, rfl, SqT.of hb, at_of (j := 0) rfl rfl, rfl, _, rfl, a, _, _, _, rfl, rfl, SqT.of ha, at_of (j := 1) rfl rfl, _, rfl, b, _, _, _, rfl, rfl, SqT.of hb, at_of (j := 1) rfl rfl, rfl, rfl, ?_⟩
  have e : (!decide (V.bl (decide (V.int p.1 = V.int q.1)) = V.bl (decide (V.int p.2 = V.int q.2)))) = (decide (p.1 = q.1) != decide (p.2 = q.2)) := by
   rw [dec_int', dec_int']
   cases decide (p.1 = q.1) <;> cases decide (p.2 = q.2) <;> rfl
  rw [<- e] at k
  exact k
def spJoins : Sp := λ vs H Q _ => ∃ (c p1 p2 : Addr) (ps : List (Int × Int)) (b a top : Int), vs = [.ref c, .ref p1, .ref p2] /\ TPts H c ps /\ ps.length <= 100000 /\ H p1 = some (.tup [.int b, .int 0]) /\ H p2 = some (.tup [.int a, .int top]) /\ ∀ H', Same H H' -> Q (.bl (joinsP b a top ps)) H'
def strB (ps : List (Int × Int)) : List Bool := (nexts ps).map λ t => decide (t.1.1 = t.2.1) != decide (t.1.2 = t.2.2)
theorem strB_all (ps : List (Int × Int)) : (strB ps).all id = (nexts ps).all λ t => decide (t.1.1 = t.2.1) != decide (t.1.2 = t.2.2) := by
 unfold strB
 rw [List.all_map]
 rfl
theorem sc_joins : FnScope ["corners", "lower_pin", "upper_pin", "one", "other"] ["corners", "lower_pin", "upper_pin"] (defScope s_joins) := ⟨rfl, rfl, rfl, by decide +kernel, rfl, by decide +kernel, by decide +kernel⟩
theorem ok_joins (D : Def K mg "joins" s_joins) (T : Txt mg) (c_is_straight : Cal P w K mg base "is_straight" ["one", "other"] 1 spStraight) : Cal P w K mg base "joins" ["corners", "lower_pin", "upper_pin"] 2 spJoins := by
 refine D.cal sc_joins (λ _ _ _ _ _ _ us hl => match us, hl with | [_, _, _], _ => rfl) (λ vs H Q E h => ?_) (λ f cdv A outer s H vs Q E hr h => ?_)
 ·obtain ⟨c, p1, p2, ps, b, a, top, rfl, _⟩ := h
  rfl
 ·obtain ⟨c, p1, p2, ps, b, a, top, rfl, ⟨as, hc, t⟩, hn, hp1, hp2, k⟩ := h
  have hal := t.plen
  have len : (as.map V.ref).length = ps.length := by rw [lnm, hal]
  have no : joinsP b a top ps = false -> Q (.bl false) H := λ e => by
   have := k H (Same.refl H)
   rw [e] at this
   exact this
  refine ⟨_, (pss_cons (ps_if (PW.pt (pw_or (pt_cmpR op_lt (pe_callB call_len_seq (by rfl) T.len PySem.boot_len (pa_cons (pv 0) pa_nil)) pe_int (nomark _)) (pw_or (pt_cmpR (op_neD hr.units) (pe_ix ix_list (pv 0) pe_int (λ _ _ => rfl)) (pv 1) (nomark _)) (pw_or1 (pt_cmpR (op_neD hr.units) (pe_ix ix_list (pv 0) (pe_un un_neg pe_int) (λ _ _ => rfl)) (pv 2) (nomark _)))))) (pss_one (ps_ret pe_bl)) pss_nil)
   (pss_one (ps_ret (pe_callB (cr_all rfl) (by rfl) T.all boot_all (pa_cons (pe_lc rfl sc_joins.nd (pi_zip rfl T.zip (pa_cons (pv 0) (pa_cons (pe_slice sl_list (pv 0) (po_some pe_int) po_none) pa_nil))) (blkOk_by (own := [("one", 3), ("other", 4)]) (by kernel_rfl)) (λ _ _ _ _ _ => (pg_tupK (K := K) (n := 2) rfl (pg_tup (n := 2) rfl (pgs_cons (pg_name (i := 3) sc_joins.nd rfl (.inl rfl)) (pgs_cons (pg_name (i := 4) sc_joins.nd rfl (.inl rfl)) pgs_nil))))) (λ _ _ _ _ _ => pts_nil) (λ _ _ _ _ _ => (pe_cal c_is_straight (up hr) rfl (pa_cons (pv 3) (pa_cons (pv 4) pa_nil))))) pa_nil))))), ?_⟩
  refine ⟨_, rfl, c, _, rfl, .inl (SqL.of hc), _, _, rfl, rfl, _, rfl, ite2 (λ h1 => ?_) (λ h1 => ?_)⟩
  ·rw [dte, len] at h1
   refine iteT (no ?_)
   unfold joinsP
   rw [decide_eq_false (by omega)]
   rfl
  ·rw [dte, len] at h1
   have h2 : 2 <= ps.length := by omega
   obtain ⟨a0, ha0⟩ : ∃ a0, as[0]? = some a0 := ⟨as[0]'(by omega), List.getElem?_eq_getElem _⟩
   obtain ⟨a1, ha1⟩ : ∃ a1, as[ps.length - 1]? = some a1 := ⟨as[ps.length - 1]'(by omega), List.getElem?_eq_getElem _⟩
   obtain ⟨x0, hx0, e0⟩ := t.pt ha0
   obtain ⟨x1, hx1, e1⟩ := t.pt ha1
   have hh : ps.head? = some x0 := by rw [List.head?_eq_getElem?]; exact hx0
   have hl : ps.getLast? = some x1 := by rw [List.getLast?_eq_getElem?]; exact hx1
   have ej : joinsP b a top ps = (decide ((x0.1, x0.2) = (b, (0 : Int))) && (decide ((x1.1, x1.2) = (a, top)) && (strB ps).all id)) := by
    unfold joinsP
    rw [decide_eq_true h2, hh, hl, strB_all, Bool.true_and]
    congr 1
    ·rw [decide_eq_decide, Option.some_inj]
    ·congr 1
     rw [decide_eq_decide, Option.some_inj]
   refine ⟨_, rfl, c, _, _, _, rfl, rfl, SqL.of hc, at_of (j := 0) rfl (by rw [gem, ha0]; rfl), _, rfl, .tuple [.int x0.1, .int x0.2], .tuple [.int b, .int 0], .tup (SqT.of e0) (.cons (.tok _) (.cons (.tok _) .nil)), .tup (SqT.of hp1) (.cons (.int _) (.cons (.int _) .nil)), rfl, rfl, _, rfl, ?_⟩
   rw [eqv_pair]
   cases d0 : decide ((x0.1, x0.2) = (b, (0 : Int))) with
   | false =>
    refine iteT (iteT (no ?_))
    rw [ej, d0]
    rfl
   | true =>
    refine iteF ?_
    refine ⟨_, rfl, _, rfl, c, _, _, _, rfl, rfl, SqL.of hc, at_last (v := V.ref a1) (by rw [len]; omega) (by rw [gem, len, ha1]; rfl), _, rfl, .tuple [.int x1.1, .int x1.2], .tuple [.int a, .int top], .tup (SqT.of e1) (.cons (.tok _) (.cons (.tok _) .nil)), .tup (SqT.of hp2) (.cons (.int _) (.cons (.int _) .nil)), rfl, rfl, _, rfl, ?_⟩
    rw [eqv_pair]
    cases d1 : decide ((x1.1, x1.2) = (a, top)) with
    | false =>
     refine iteT (no ?_)
     rw [ej, d0, d1]
     rfl
    | true =>
     refine iteF ?_
     have ej' : joinsP b a top ps = (strB ps).all id := by rw [ej, d0, d1]; rfl
     refine ⟨_, rfl, _, rfl, _, rfl, c, _, rfl, SqL.of hc, λ c2 n2 => ?_⟩
     rw [cut1]
     have s2 := same_new (o := .lst ((as.map V.ref).drop 1)) n2
     refine ⟨c, c2, _, _, rfl, SqL.of (s2 _ _ hc), SqL.of upd_same, λ D1 n1 =>
      lc_zip (K := K) (a := c) (b := c2) (xs := as.map V.ref) (ys := (as.map V.ref).drop 1) (λ i H' => Same (upd H c2 (.lst ((as.map V.ref).drop 1))) H' /\ H' D1 = some (.lst (((strB ps).take i).map V.bl))) ⟨same_new n1, upd_same⟩ (λ i H' ⟨s3, _⟩ => ⟨SqL.of (s3 _ _ (s2 _ _ hc)), SqL.of (s3 _ _ upd_same)⟩) ?_ ?_⟩
     ·rintro i x y H' tt hx hy ⟨s3, hD⟩ ht
      obtain ⟨b1, hb1, rfl⟩ := ref_of hx
      rw [List.getElem?_drop, Nat.add_comm] at hy
      obtain ⟨b2, hb2, rfl⟩ := ref_of hy
      obtain ⟨q1, hq1, f1⟩ := t.pt hb1
      obtain ⟨q2, hq2, f2⟩ := t.pt hb2
      have hnx := nexts_at hq1 hq2
      have s4 := same_new (o := .tup [.ref b1, .ref b2]) ht
      have sA := (s2.trans s3).trans s4
      refine ⟨tt, _, rfl, SqT.of upd_same, rfl, _, _, rfl, _, _, rfl, rfl, rfl, iteT (B := True) ⟨_, rfl, _, rfl, b1, b2, q1, q2, rfl, sA _ _ f1, sA _ _ f2, _, s4 _ _ hD, ?_, same_upd (s3.trans s4) n1, ?_⟩⟩
      ·rw [lnm, lnt, sizeLine_eq]
       unfold strB
       rw [lnm, nexts_len]
       omega
      ·have e : (strB ps)[i]? = some (decide (q1.1 = q2.1) != decide (q1.2 = q2.2)) := by
        unfold strB
        rw [gem, hnx]
        rfl
       rw [upd_same, take_one e, List.map_append]
       rfl
     ·rintro H' ⟨s3, hD⟩
      rw [List.take_of_length_le (by unfold strB; rw [lnm, nexts_len, List.length_drop, len]; omega)] at hD
      refine ⟨D1, strB ps, rfl, SqL.of hD, ?_⟩
      have := k H' (s2.trans s3)
      rw [ej'] at this
      exact this
def spKeeps : Sp := λ vs H Q _ => ∃ (c : Addr) (ps : List (Int × Int)) (h : Int), vs = [.ref c, .int h] /\ TPts H c ps /\ ps.length <= 100000 /\ ∀ H', Same H H' -> Q (.bl (tracksP h ps)) H'
def trkB (h : Int) (ps : List (Int × Int)) : List Bool := (ps.drop 1).dropLast.map λ p => decide (1 <= p.2 /\ p.2 <= h)
theorem trkB_all (h : Int) (ps : List (Int × Int)) : (trkB h ps).all id = tracksP h ps := by
 unfold trkB tracksP
 rw [List.all_map]
 rfl
theorem cut_mid (xs : List V) : cutV xs (some (1 : Int)) (some (-1)) = (xs.drop 1).dropLast := by
 unfold cutV
 rw [show (some (1 : Int)) = some ((1 : Nat) : Int) from rfl, HT.sIx_nat]
 have e : HT.sIx xs.length xs.length (some (-1)) = xs.length - 1 := by
  unfold HT.sIx
  simp
  omega
 rw [e, List.dropLast_eq_take, List.length_drop]
 rcases Nat.eq_zero_or_pos xs.length with z | z
 ·rw [List.eq_nil_of_length_eq_zero z]
  rfl
 ·rw [Nat.min_eq_left (by omega)]
theorem sc_keeps_to_tracks : FnScope ["corners", "h", "x", "y"] ["corners", "h"] (defScope s_keeps_to_tracks) := ⟨rfl, rfl, rfl, by decide +kernel, rfl, by decide +kernel, by decide +kernel⟩
theorem ok_keeps_to_tracks (D : Def K mg "keeps_to_tracks" s_keeps_to_tracks) (T : Txt mg) : Cal P w K mg base "keeps_to_tracks" ["corners", "h"] 1 spKeeps := by
 refine D.cal sc_keeps_to_tracks (λ _ _ _ _ _ _ us hl => match us, hl with | [_, _], _ => rfl) (λ vs H Q E h => ?_) (λ f cdv A outer s H vs Q E hr h => ?_)
 ·obtain ⟨c, ps, h, rfl, _⟩ := h
  rfl
 ·obtain ⟨c, ps, h, rfl, ⟨as, hc, t⟩, hn, k⟩ := h
  have hal := t.plen
  refine ⟨_, (pss_one (ps_ret (pe_callB (cr_all rfl) (by rfl) T.all boot_all (pa_cons (pe_lc rfl sc_keeps_to_tracks.nd (pi_list (pe_slice sl_list (pv 0) (po_some pe_int) (po_some (pe_un un_neg pe_int)))) (blkOk_by (own := [("x", 2), ("y", 3)]) (by kernel_rfl)) (λ _ _ _ _ _ => (pg_tupK (K := K) (n := 2) rfl (pg_tup (n := 2) rfl (pgs_cons (pg_name (i := 2) sc_keeps_to_tracks.nd rfl (.inl rfl)) (pgs_cons (pg_name (i := 3) sc_keeps_to_tracks.nd rfl (.inl rfl)) pgs_nil))))) (λ _ _ _ _ _ => pts_nil) (λ _ _ _ _ _ => (pe_chain op_le op_le pe_int (pe_weak (pv 3)) (pv 1)))) pa_nil)))), ?_⟩
  refine ⟨_, rfl, _, rfl, _, rfl, _, rfl, c, _, rfl, SqL.of hc, λ c2 n2 => ?_⟩
  rw [show cutV (as.map V.ref) (some (1 : Int)) (some (-1)) = ((as.map V.ref).drop 1).dropLast from cut_mid _]
  have s2 := same_new (o := .lst ((as.map V.ref).drop 1).dropLast) n2
  have ec : ((as.map V.ref).drop 1).dropLast = ((as.drop 1).dropLast).map V.ref := by rw [<- List.map_drop, <- List.map_dropLast]
  refine ⟨c2, rfl, ⟨_, SqL.of upd_same⟩, λ D1 n1 => lc_list (K := K) (a := c2) (xs := ((as.map V.ref).drop 1).dropLast) (λ i H' => Same (upd H c2 (.lst ((as.map V.ref).drop 1).dropLast)) H' /\ H' D1 = some (.lst (((trkB h ps).take i).map V.bl))) ⟨same_new n1, upd_same⟩ (λ i H' _ ⟨s3, _⟩ => SqL.of (s3 _ _ upd_same)) ?_ ?_⟩
  ·rintro i x H' hx ⟨s3, hD⟩
   rw [ec] at hx
   obtain ⟨b1, hb1, rfl⟩ := ref_of hx
   have hi : i < (as.drop 1).dropLast.length := (List.getElem?_eq_some_iff.mp hb1).1
   have hb2 : as[i + 1]? = some b1 := by
    rw [List.getElem?_dropLast, if_pos (by rw [List.length_dropLast] at hi; exact hi), List.getElem?_drop, Nat.add_comm] at hb1
    exact hb1
   obtain ⟨q1, hq1, f1⟩ := t.pt hb2
   have e : (trkB h ps)[i]? = some (decide (1 <= q1.2 /\ q1.2 <= h)) := by
    unfold trkB
    rw [List.getElem?_map, List.getElem?_dropLast, List.length_drop, if_pos (by rw [List.length_dropLast, List.length_drop] at hi; omega), List.getElem?_drop, Nat.add_comm, hq1]
    rfl
   have fin : ∀ bb, bb = decide (1 <= q1.2 /\ q1.2 <= h) -> ∃ acc, H' D1 = some (.lst acc) /\ acc.length < sizeLine /\ (Same (upd H c2 (.lst ((as.map V.ref).drop 1).dropLast)) (upd H' D1 (.lst (acc ++ [V.bl bb]))) /\ (upd H' D1 (.lst (acc ++ [V.bl bb]))) D1 = some (.lst (((trkB h ps).take (i + 1)).map V.bl))) := λ bb eb => by
    refine ⟨_, hD, ?_, same_upd s3 n1, ?_⟩
    ·rw [lnm, lnt, sizeLine_eq]
     unfold trkB
     rw [lnm, List.length_dropLast, List.length_drop]
     omega
    ·rw [upd_same, take_one e, List.map_append, eb]
     rfl
   refine ⟨b1, _, rfl, SqT.of (s3 _ _ (s2 _ _ f1)), rfl, _, _, rfl, _, _, rfl, rfl, rfl, iteT (B := True) ⟨_, rfl, _, _, rfl, rfl, _, rfl, ite2 (λ h1 => ⟨_, rfl, _, _, rfl, rfl, ?_⟩) (λ h1 => ?_)⟩⟩
   ·rw [dte] at h1
    exact fin _ (by rw [decide_eq_decide]; exact ⟨λ z => ⟨h1, z⟩, λ z => z.2⟩)
   ·rw [dte] at h1
    exact fin _ (decide_eq_false λ z => h1 z.1).symm
  ·rintro H' ⟨s3, hD⟩
   rw [List.take_of_length_le (by unfold trkB; rw [lnm, List.length_dropLast, List.length_drop, List.length_dropLast, List.length_drop, lnm]; omega)] at hD
   refine ⟨D1, trkB h ps, rfl, SqL.of hD, ?_⟩
   have := k H' (s2.trans s3)
   rw [<- trkB_all] at this
   exact this
def spCornersAll : Sp := λ vs H Q _ => ∃ (q : Addr) (wss : List (List (Int × Int))), vs = [.ref q] /\ TWires H q wss /\ wss.flatten.length <= 100000 /\ ∀ (H' : Hp) (c : Addr), Same H H' -> H c = Option.none -> TPts H' c wss.flatten -> Q (.ref c) H'
theorem flatten_snoc {α : Type} {l : List (List α)} {i : Nat} {x : List α} (h : l[i]? = some x) : (l.take (i + 1)).flatten = (l.take i).flatten ++ x := by
 rw [take_one h, List.flatten_append, List.flatten_cons, List.flatten_nil, List.append_nil]
theorem flatten_take_len {α : Type} (l : List (List α)) (i : Nat) : (l.take i).flatten.length <= l.flatten.length := by
 conv => rhs; rw [<- List.take_append_drop i l, List.flatten_append, lna]
 omega
theorem Recs.append {H : Hp} {as bs : List Addr} {us vs : List (List V)} (t : Recs H as us) (u : Recs H bs vs) : Recs H (as ++ bs) (us ++ vs) := by
 refine ⟨by rw [lna, lna, t.len, u.len], λ j a z h1 h2 => ?_⟩
 by_cases hj : j < as.length
 ·rw [List.getElem?_append_left hj] at h1
  rw [List.getElem?_append_left (by rw [<- t.len]; exact hj)] at h2
  exact t.at_ j a z h1 h2
 ·rw [List.getElem?_append_right (by omega)] at h1
  rw [List.getElem?_append_right (by rw [<- t.len]; omega), <- t.len] at h2
  exact u.at_ _ a z h1 h2
theorem sc_all_corners : FnScope ["wires", "corners", "wire"] ["wires"] (defScope s_all_corners) := ⟨rfl, rfl, rfl, by decide +kernel, rfl, by decide +kernel, by decide +kernel⟩
theorem ok_all_corners (D : Def K mg "all_corners" s_all_corners) (T : Txt mg) : Cal P w K mg base "all_corners" ["wires"] 1 spCornersAll := by
 refine D.cal sc_all_corners (λ _ _ _ _ _ _ us hl => match us, hl with | [_], _ => rfl) (λ vs H Q E h => ?_) (λ f cdv A outer s H vs Q E hr h => ?_)
 ·obtain ⟨q, wss, rfl, _⟩ := h
  rfl
 ·obtain ⟨q, wss, rfl, ⟨as, hq, hal, hat⟩, hn, k⟩ := h
  refine ⟨_, (pss_cons (ps_set (i := 1) sc_all_corners.nd rfl (.inl rfl) (pe_lst pa_nil))
   (pss_cons (ps_for PassesOwn.never rfl (pi_list (pv 0)) (pg_name (i := 2) sc_all_corners.nd rfl (.inl rfl)) (pss_one (ps_expr (pe_bm PySem.F.plainAttrs_list PySem.F.slot_list_extend PySem.F.type_list_extend mt_extend (pv 1) (pa_cons (pv 2) pa_nil)))))
   (pss_one (ps_ret (pv 1))))), ?_⟩
  refine ⟨Nat.zero_le _, λ r n0 => ?_⟩
  have s0 := same_new (o := .lst []) n0
  refine ⟨_, rfl, q, rfl, ⟨_, SqL.of (s0 _ _ hq)⟩, for_list (K := K) (a := q) (xs := as.map V.ref) (λ i σ H' => ∃ v1 bs, σ = [some (.ref q), some (.ref r), v1] /\ Same H H' /\ H' r = some (.lst (bs.map V.ref)) /\ Recs H' bs ((wss.take i).flatten.map tokP))
   ⟨_, [], rfl, s0, upd_same, recs_nil _⟩ (λ i σ H' _ ⟨_, _, _, s2, _⟩ => SqL.of (s2 _ _ hq)) ?_ ?_⟩
  ·rintro i vx σ H' hx ⟨v1, bs, rfl, s2, hr', tb⟩
   obtain ⟨a, ha, rfl⟩ := ref_of hx
   have hi : i < wss.length := by
    have := (List.getElem?_eq_some_iff.mp ha).1
    omega
   have hw := List.getElem?_eq_getElem hi
   generalize wss[i] = ps at hw
   obtain ⟨cs, hc1, tc⟩ := (hat i a ps ha hw).same s2
   have e := flatten_snoc hw
   have hfl := flatten_take_len wss (i + 1)
   rw [e, lna] at hfl
   refine ⟨_, rfl, .inl ⟨rfl, _, SqL.of hr'⟩, _, rfl, r, a, _, _, rfl, rfl, hr', hc1, ?_, ?_⟩
   ·have h1 := tb.plen
    have h2 := tc.plen
    rw [lnm, lnm, sizeLine_eq]
    omega
   ·refine ⟨_, bs ++ cs, rfl, same_upd s2 n0, by rw [upd_same, List.map_append], ?_⟩
    rw [e, List.map_append]
    exact (tb.append tc).write hr'
  ·rintro σ H' ⟨v1, bs, rfl, s2, hr', tb⟩
   refine ⟨_, rfl, k H' r s2 n0 ⟨bs, hr', ?_⟩⟩
   rw [List.take_of_length_le (by rw [lnm, hal]; exact Nat.le_refl _)] at tb
   exact tb
theorem for_rangeC {lo c : Int} {n : Nat} {g : TG} {tb : TS} {D : Ends} {σ : L2.St} {H : Hp} (Pv : Nat -> L2.St -> Hp -> Prop) (h0 : Pv 0 σ H)
  (hs : ∀ (i : Nat) (σ : L2.St) (H : Hp), i < n -> Pv i σ H -> g (.int (lo + (i : Nat) * c)) σ H λ σ2 H2 => tb { D with nx := Pv (i + 1), ct := Pv (i + 1), bk := D.nx } σ2 H2) (hd : ∀ σ H, Pv n σ H -> D.nx σ H) :
  ∃ W : Nat -> Nat -> L2.St -> Hp -> Prop, (∃ m, W 0 m σ H) /\ ∀ i m σ H, W i m σ H ->
   ((Itc lo c n).stop i H /\ D.nx σ H) ∨ ((Itc lo c n).go i H /\ ∃ N : L2.St -> Hp -> Prop, (∀ σ' H', N σ' H' -> ∃ m', m' < m /\ W (i + 1) m' σ' H') /\ ∀ x H', (Itc lo c n).yld i H x H' -> g x σ H' λ σ2 H2 => tb { D with nx := N, ct := N, bk := D.nx } σ2 H2) := by
 refine ⟨λ i m σ H => m = n - i /\ i <= n /\ Pv i σ H, ⟨n, by simp, Nat.zero_le _, h0⟩, ?_⟩
 rintro i m σ H ⟨rfl, hi, p⟩
 by_cases hlt : i < n
 ·refine .inr ⟨hlt, Pv (i + 1), λ σ' H' p' => ⟨n - (i + 1), by omega, rfl, hlt, p'⟩, λ x H' y => ?_⟩
  obtain ⟨rfl, rfl⟩ := y
  exact hs i σ _ hlt p
 ·have e : i = n := by omega
  subst e
  exact .inl ⟨Nat.le_refl _, hd σ H p⟩
structure RankD (H : Hp) (d : Addr) (vs : List Int) : Prop where
 ex : ∃ kvs : List (Key × V), H d = some (.dK kvs) /\ kvs.length = vs.length /\ ∀ x ∈ vs, valV kvs (.inl x) = some (.int (rk vs x : Nat))
theorem RankD.same {H H' : Hp} {d : Addr} {vs : List Int} (r : RankD H d vs) (s : Same H H') : RankD H' d vs := let ⟨kvs, h1, h2, h3⟩ := r.ex; ⟨kvs, s _ _ h1, h2, h3⟩
theorem put_new {kvs : List (Key × V)} {k : Key} {v : V} (h : valV kvs k = Option.none) : putK kvs k v = kvs ++ [(k, v)] := by
 unfold putK
 rw [valV_any, h]
 rfl
theorem not_take {ns : List Int} (hp : ns.Pairwise (· < ·)) {i : Nat} {x : Int} (h : ns[i]? = some x) : x ∉ ns.take i := by
 intro hx
 obtain ⟨j, hj, e⟩ := List.getElem_of_mem hx
 obtain ⟨hi, e2⟩ := List.getElem?_eq_some_iff.mp h
 rw [lnt] at hj
 rw [List.getElem_take] at e
 have := (List.pairwise_iff_getElem.mp hp) j i (by omega) hi (by omega)
 omega
theorem rk_at {ns : List Int} (hp : ns.Pairwise (· < ·)) {i : Nat} {x : Int} (h : ns[i]? = some x) : rk ns x = i := by
 have hx : x ∈ ns := List.mem_of_getElem? h
 have h1 := rk_get hx
 have h2 := rk_lt hx
 obtain ⟨hi, e2⟩ := List.getElem?_eq_some_iff.mp h
 obtain ⟨hj, e1⟩ := List.getElem?_eq_some_iff.mp h1
 rcases Nat.lt_trichotomy (rk ns x) i with z | z | z
 ·have := (List.pairwise_iff_getElem.mp hp) _ i hj hi z
  omega
 ·exact z
 ·have := (List.pairwise_iff_getElem.mp hp) i _ hi hj z
  omega
def spRanks : Sp := λ vs H Q _ => ∃ (c : Addr) (ns : List Int), vs = [.ref c] /\ H c = some (.lst (ns.map V.tok)) /\ ns.length <= 5000 /\
 ∀ (H' : Hp) (d : Addr) (ks : List Int), Same H H' -> H d = Option.none -> ks.Pairwise (· < ·) -> (∀ x, x ∈ ks ↔ x ∈ ns) -> RankD H' d ks -> Q (.ref d) H'
theorem sorted_len {ks ns : List Int} (hp : ks.Pairwise (· < ·)) (hm : ∀ x, x ∈ ks ↔ x ∈ ns) : ks.length <= ns.length := by
 have nd : ks.Nodup := hp.imp λ h => by omega
 exact nd.length_le_of_subset λ x hx => (hm x).mp hx
theorem sc_ranks : FnScope ["numbers", "ranked", "number"] ["numbers"] (defScope s_ranks) := ⟨rfl, rfl, rfl, by decide +kernel, rfl, by decide +kernel, by decide +kernel⟩
theorem ok_ranks (D : Def K mg "ranks" s_ranks) (T : Txt mg) : Cal P w K mg base "ranks" ["numbers"] 1 spRanks := by
 refine D.cal sc_ranks (λ _ _ _ _ _ _ us hl => match us, hl with | [_], _ => rfl) (λ vs H Q E h => ?_) (λ f cdv A outer s H vs Q E hr h => ?_)
 ·obtain ⟨c, ns, rfl, _⟩ := h
  rfl
 ·obtain ⟨c, ns, rfl, hc, hn, k⟩ := h
  have hu := hu_of hr
  refine ⟨_, (pss_cons (ps_set (i := 1) sc_ranks.nd rfl (.inl rfl) pe_dnewK)
   (pss_cons (ps_for PassesOwn.never rfl (pi_list (pe_callB (cr_sortSet rfl) (by rfl) T.sorted boot_sorted (pa_cons (pe_callTy (cr_set rfl) (by rfl) T.set boot_set (pa_cons (pv 0) pa_nil)) pa_nil))) (pg_name (i := 2) sc_ranks.nd rfl (.inl rfl)) (pss_one (ps_dput hu (pv 1) (pv 2) (pe_callB call_lenD (by rfl) T.len PySem.boot_len (pa_cons (pv 1) pa_nil)) rfl)))
   (pss_one (ps_ret (pv 1))))), ?_⟩
  refine λ r n0 => ?_
  have s0 := same_new (o := .dK []) n0
  refine ⟨_, rfl, c, ns, rfl, SqL.of (s0 _ _ hc), hn, λ p np => ⟨p, ns, rfl, upd_same, hn, λ ks l hpw hmem nl => ?_⟩⟩
  have s1 := same_new (o := setHO w p ns) np
  have s2 := same_new (o := .lst (ks.map V.int)) nl
  have s12 := s1.trans s2
  have hkl := sorted_len hpw hmem
  refine ⟨l, rfl, ⟨_, SqL.of upd_same⟩, for_list (K := K) (a := l) (xs := ks.map V.int) (λ i σ H' => ∃ v1 kvs, σ = [some (.ref c), some (.ref r), v1] /\ Same H H' /\ H' l = some (.lst (ks.map V.int)) /\ H' r = some (.dK kvs) /\ kvs.length = i /\ ∀ y, valV kvs (.inl y) = if y ∈ ks.take i then some (.int (rk ks y : Nat)) else Option.none)
   ⟨_, [], rfl, s0.trans s12, upd_same, s12 _ _ upd_same, rfl, λ y => by rw [valV_nil]; simp⟩ (λ i σ H' _ ⟨_, _, _, _, h2, _⟩ => SqL.of h2) ?_ ?_⟩
  ·rintro i vx σ H' hx ⟨v1, kvs, rfl, s3, hl, hr', hkv, hv⟩
   obtain ⟨x, hx', rfl⟩ := int_of hx
   have nx : valV kvs (.inl x) = Option.none := by rw [hv x, if_neg (not_take hpw hx')]
   have hi : i < ks.length := (List.getElem?_eq_some_iff.mp hx').1
   have nlr : l ≠ r := λ e => by rw [e, hr'] at hl; cases hl
   refine ⟨_, rfl, r, kvs, rfl, hr', _, rfl, _, rfl, r, _, rfl, DPut.k (k := .inl x) hr' (by rw [sizeLine_eq]; omega), ?_⟩
   refine ⟨_, _, rfl, same_upd s3 n0, by rw [upd_ne nlr]; exact hl, upd_same, by rw [put_new nx, lna, hkv]; rfl, λ y => ?_⟩
   rw [valV_put, take_one hx']
   by_cases e : (Sum.inl y : Key) = Sum.inl x
   ·have e' : y = x := Sum.inl.inj e
    subst e'
    rw [if_pos rfl, if_pos (List.mem_append.mpr (.inr (List.mem_singleton.mpr rfl))), hkv, rk_at hpw hx']
   ·have e' : y ≠ x := λ z => e (congrArg _ z)
    rw [if_neg e, hv y]
    have : (y ∈ ks.take i ++ [x]) ↔ y ∈ ks.take i := by
     rw [List.mem_append, List.mem_singleton]
     exact ⟨λ z => z.elim id λ z => absurd z e', .inl⟩
    simp only [this]
  ·rintro σ H' ⟨v1, kvs, rfl, s3, hl, hr', hkv, hv⟩
   rw [lnm] at hkv hv
   refine ⟨_, rfl, k H' r ks s3 n0 hpw hmem ⟨kvs, hr', hkv, λ x hx => ?_⟩⟩
   rw [hv x, List.take_length, if_pos hx]
def holdV : Option Nat -> V
 | Option.none => .non
 | some m => .int (m : Nat)
def metV (n m : Nat) : V := if m < n then .int (m : Nat) else .non
def spHold : Sp := λ vs H Q _ => ∃ (hs pl : Addr) (wd n : Nat) (ho : List (Option Nat)) (ps : List Nat), vs = [.ref hs, .int (wd : Nat), .ref pl, .int (n : Nat)] /\ H hs = some (.lst (ho.map holdV)) /\ H pl = some (.lst (ps.map λ p => V.int (p : Nat))) /\ hs ≠ pl /\ 0 < wd /\ wd <= 5000 /\ ho.length <= 100000000 /\ (∀ c ∈ wireCells wd ps, c < ho.length) /\ (∀ p ∈ ps, p < ho.length) /\
 ∀ H' : Hp, Same (hole H hs) H' -> H' hs = some (.lst ((hold n (ho, n) (wireCells wd ps)).1.map holdV)) -> Q (metV n (hold n (ho, n) (wireCells wd ps)).2) H'
theorem nat_of {ns : List Nat} {i : Nat} {x : V} (h : (ns.map λ p => V.int (p : Nat))[i]? = some x) : ∃ z, ns[i]? = some z /\ x = V.int (z : Nat) := by
 rw [gem] at h
 cases e : ns[i]? with
 | none => rw [e] at h; cases h
 | some z => rw [e] at h; exact ⟨z, rfl, (Option.some.inj h).symm⟩
theorem minN (u v : Nat) : (if (v : Int) < (u : Int) then (v : Int) else (u : Int)) = ((min u v : Nat) : Int) := by
 rw [Nat.min_def]
 split <;> split <;> omega
theorem maxN (u v : Nat) : (if (v : Int) > (u : Int) then (v : Int) else (u : Int)) = ((max u v : Nat) : Int) := by
 rw [Nat.max_def]
 split <;> split <;> omega
theorem cells_len (w u v : Nat) : (cellsOf w u v).length = (max u v - min u v) / stepOf w u v + 1 := by unfold cellsOf; rw [lnm, lnr]
theorem cells_at {w u v t : Nat} (h : t < (max u v - min u v) / stepOf w u v + 1) : (cellsOf w u v)[t]? = some (min u v + t * stepOf w u v) := by
 unfold cellsOf
 rw [gem, List.getElem?_range h]
 rfl
theorem cell_at_hold {ho : List (Option Nat)} {c : Nat} (h : c < ho.length) : (ho.map holdV)[c]? = some (holdV (ho.getD c Option.none)) := by
 rw [gem, List.getElem?_eq_getElem h, List.getD_eq_getElem?_getD, List.getElem?_eq_getElem h]
 rfl
theorem cells_snoc {w : Nat} {ps : List Nat} {i : Nat} {t : Nat × Nat} (h : (nexts ps)[i]? = some t) : ((nexts ps).take (i + 1)).flatMap (λ t => cellsOf w t.1 t.2) = ((nexts ps).take i).flatMap (λ t => cellsOf w t.1 t.2) ++ cellsOf w t.1 t.2 := flat_snocA _ h
theorem sc_hold_places : FnScope ["holders", "width", "places", "number", "met", "one", "other", "step", "place"] ["holders", "width", "places", "number"] (defScope s_hold_places) := ⟨rfl, rfl, rfl, by decide +kernel, rfl, by decide +kernel, by decide +kernel⟩
theorem ok_hold_places (D : Def K mg "hold_places" s_hold_places) (T : Txt mg) : Cal P w K mg base "hold_places" ["holders", "width", "places", "number"] 1 spHold := by
 refine D.cal sc_hold_places (λ _ _ _ _ _ _ us hl => match us, hl with | [_, _, _, _], _ => rfl) (λ vs H Q E h => ?_) (λ f cdv A outer s H vs Q E hr h => ?_)
 ·obtain ⟨hs, pl, wd, n, ho, ps, rfl, _⟩ := h
  rfl
 ·obtain ⟨hs, pl, wd, n, ho, ps, rfl, hhs, hpl, nhp, hw0, hw1, hsz, hcl, hps, k⟩ := h
  have len : (ps.map λ p => V.int (p : Nat)).length = ps.length := List.length_map ..
  refine ⟨_, (pss_cons (ps_set (i := 4) sc_hold_places.nd rfl (.inl rfl) (pv 3))
   (pss_cons (ps_for PassesOwn.never rfl (pi_zip rfl T.zip (pa_cons (pv 2) (pa_cons (pe_slice sl_list (pv 2) (po_some pe_int) po_none) pa_nil))) (pg_tup (n := 2) rfl (pgs_cons (pg_name (i := 5) sc_hold_places.nd rfl (.inl rfl)) (pgs_cons (pg_name (i := 6) sc_hold_places.nd rfl (.inl rfl)) pgs_nil))) (pss_cons (ps_set (i := 7) sc_hold_places.nd rfl (.inl rfl) (pe_ifExp (pt_cmpR op_eq (pe_op op_fdiv (pv 5) (pv 1)) (pe_op op_fdiv (pv 6) (pv 1)) (nomark _)) pe_int (pv 1)))
   (pss_one (ps_for PassesOwn.never rfl (pi_range3 rfl T.range (pa_cons (pe_callB (call_min2 rfl) (by rfl) T.min boot_min (pa_cons (pv 5) (pa_cons (pv 6) pa_nil))) (pa_cons (pe_op op_add (pe_callB (call_max2 rfl) (by rfl) T.max boot_max (pa_cons (pv 5) (pa_cons (pv 6) pa_nil))) pe_int) (pa_cons (pv 7) pa_nil)))) (pg_name (i := 8) sc_hold_places.nd rfl (.inl rfl)) (pss_one (ps_if (pt_cmp (pc_isN (pe_ix ix_list (pv 0) (pv 8) (λ _ _ => rfl)))) (pss_one (ps_asg (pv 3) (pg_sub (pv 0) (pv 8) set_list))) (pss_one (ps_if (pt_cmpR op_lt (pe_ix ix_list (pv 0) (pv 8) (λ _ _ => rfl)) (pv 4) (nomark _)) (pss_one (ps_set (i := 4) sc_hold_places.nd rfl (.inl rfl) (pe_ix ix_list (pv 0) (pv 8) (λ _ _ => rfl)))) pss_nil))))))))
   (pss_one (ps_ret (pe_ifExp (pt_cmpR op_lt (pv 4) (pv 3) (nomark _)) (pv 4) pe_non))))), ?_⟩
  refine ⟨_, rfl, _, rfl, _, rfl, _, rfl, pl, _, rfl, SqL.of hpl, λ c2 n2 => ?_⟩
  rw [cut1]
  generalize ex : (ps.map λ p => V.int (p : Nat)) = pv
  rw [ex] at hpl len
  have s2 := same_new (o := .lst (pv.drop 1)) n2
  have nc2 : c2 ≠ hs := λ e => by rw [e, hhs] at n2; cases n2
  have sH : Same (hole H hs) (hole (upd H c2 (.lst (pv.drop 1))) hs) := same_hole (hole_same.trans s2) hole_self
  have cs : ∀ i, ∀ c ∈ ((nexts ps).take i).flatMap (λ t => cellsOf wd t.1 t.2), c < ho.length := λ i c hc => hcl c (by
   unfold wireCells
   rw [List.mem_flatMap] at hc ⊢
   obtain ⟨t, h1, h2⟩ := hc
   exact ⟨t, List.mem_of_mem_take h1, h2⟩)
  refine ⟨pl, c2, _, _, rfl, SqL.of (s2 _ _ hpl), SqL.of upd_same, for_zip (K := K) (a := pl) (b := c2) (xs := pv) (ys := pv.drop 1)
   (λ i σ H' => ∃ v1 v2 v3 v4, σ = [some (.ref hs), some (.int (wd : Nat)), some (.ref pl), some (.int (n : Nat)), some (.int ((hold n (ho, n) (((nexts ps).take i).flatMap λ t => cellsOf wd t.1 t.2)).2 : Nat)), v1, v2, v3, v4] /\ Same (hole (upd H c2 (.lst (pv.drop 1))) hs) H' /\ H' hs = some (.lst ((hold n (ho, n) (((nexts ps).take i).flatMap λ t => cellsOf wd t.1 t.2)).1.map holdV)))
   ⟨_, _, _, _, rfl, hole_same, s2 _ _ hhs⟩ (λ i σ H' ⟨_, _, _, _, _, s3, _⟩ => ⟨SqL.of (s3 _ _ (by rw [hole_ne (Ne.symm nhp)]; exact s2 _ _ hpl)), SqL.of (s3 _ _ (by rw [hole_ne nc2]; exact upd_same))⟩) ?_ ?_⟩
  ·rintro i vx vy σ H' tt hx hy ⟨v1, v2, v3, v4, rfl, s3, hh⟩ ht
   rw [<- ex] at hx hy
   obtain ⟨u, hu, rfl⟩ := nat_of hx
   rw [List.getElem?_drop, Nat.add_comm] at hy
   obtain ⟨v, hv, rfl⟩ := nat_of hy
   have hnx := nexts_at hu hv
   have hul := hps u (List.mem_of_getElem? hu)
   have hvl := hps v (List.mem_of_getElem? hv)
   have s4 := same_new (o := .tup [.int (u : Nat), .int (v : Nat)]) ht
   have hh4 := s4 _ _ hh
   have s34 := s3.trans s4
   generalize epre : (((nexts ps).take i).flatMap λ t => cellsOf wd t.1 t.2) = pre at hh hh4
   have hpre : ∀ c ∈ pre, c < ho.length := by rw [<- epre]; exact cs i
   have hcur : ∀ c ∈ cellsOf wd u v, c < ho.length := λ c hc => cs (i + 1) c (by rw [cells_snoc hnx]; exact List.mem_append.mpr (.inr hc))
   refine ⟨tt, _, rfl, SqT.of upd_same, rfl, _, _, rfl, _, _, rfl, rfl, ?_⟩
   refine seq_cut (λ σ H2 => σ = [some (.ref hs), some (.int (wd : Nat)), some (.ref pl), some (.int (n : Nat)), some (.int ((hold n (ho, n) pre).2 : Nat)), some (.int (u : Nat)), some (.int (v : Nat)), some (.int (stepOf wd u v : Nat)), v4] /\ H2 = upd H' tt (.tup [.int (u : Nat), .int (v : Nat)])) (λ N hN => ?_) ?_
   ·have cd : ∀ z : Nat, CDiv (z : Int) (wd : Int) := λ z => ⟨by omega, by omega⟩
    refine ⟨_, rfl, _, rfl, _, _, rfl, rfl, cd u, _, rfl, _, rfl, _, _, rfl, rfl, cd v, rfl, _, rfl, ite2 (λ h1 => ?_) (λ h1 => ?_)⟩
    ·rw [dte] at h1
     have h1 : ((u : Int) / (wd : Int)) = ((v : Int) / (wd : Int)) := V.int.inj h1
     refine hN _ _ ⟨?_, rfl⟩
     unfold stepOf
     rw [if_pos (by omega)]
     rfl
    ·rw [dte] at h1
     have h1 : ¬ ((u : Int) / (wd : Int)) = ((v : Int) / (wd : Int)) := λ z => h1 (congrArg V.int z)
     refine ⟨_, rfl, hN _ _ ⟨?_, rfl⟩⟩
     unfold stepOf
     rw [if_neg (by omega)]
     rfl
   rintro σ H2 ⟨rfl, rfl⟩
   have st0 : 0 < stepOf wd u v := by unfold stepOf; split <;> omega
   have st1 : stepOf wd u v <= 5000 := by unfold stepOf; split <;> omega
   refine ⟨_, rfl, _, rfl, _, _, rfl, _, rfl, _, rfl, _, _, rfl, _, _, rfl, rfl, _, rfl, _, _, _, (max u v - min u v) / stepOf wd u v + 1, rfl, ?_, ?_⟩
   ·rw [minN, maxN]
    have := RgC.up (i := min u v) (j := max u v + 1) (c := stepOf wd u v) (n := (max u v - min u v) / stepOf wd u v + 1) st0 (by omega) (by omega) (by omega) (by
     rw [if_pos (by omega)]
     congr 2
     omega)
    exact this
   rw [minN]
   refine for_rangeC (λ t σ H3 => ∃ v4, σ = [some (.ref hs), some (.int (wd : Nat)), some (.ref pl), some (.int (n : Nat)), some (.int ((hold n (ho, n) (pre ++ (cellsOf wd u v).take t)).2 : Nat)), some (.int (u : Nat)), some (.int (v : Nat)), some (.int (stepOf wd u v : Nat)), v4] /\ Same (hole (upd H' tt (.tup [.int (u : Nat), .int (v : Nat)])) hs) H3 /\ H3 hs = some (.lst ((hold n (ho, n) (pre ++ (cellsOf wd u v).take t)).1.map holdV)))
    ⟨_, by rw [List.take_zero, List.append_nil], hole_same, by rw [List.take_zero, List.append_nil]; exact hh4⟩ ?_ ?_
   ·rintro t σ H3 htl ⟨v5, rfl, s5, hh5⟩
    have hct := cells_at (w := wd) (u := u) (v := v) htl
    have hcl' := hcur _ (List.mem_of_getElem? hct)
    have ec : ((min u v : Nat) : Int) + ((t : Nat) : Int) * ((stepOf wd u v : Nat) : Int) = ((min u v + t * stepOf wd u v : Nat) : Int) := by rw [Int.natCast_add, Int.natCast_mul]
    rw [ec]
    have eh : hold n (ho, n) (pre ++ (cellsOf wd u v).take (t + 1)) = holdStep n (hold n (ho, n) (pre ++ (cellsOf wd u v).take t)) (min u v + t * stepOf wd u v) := by
     rw [take_one hct, <- List.append_assoc, hold_snoc]
    rw [eh]
    generalize min u v + t * stepOf wd u v = cc at hct hcl' eh
    have hhl := hold_len n (pre ++ (cellsOf wd u v).take t) (ho, n)
    generalize hold n (ho, n) (pre ++ (cellsOf wd u v).take t) = st at hh5 hhl eh
    have hcs : cc < st.1.length := by rw [hhl]; exact hcl'
    have hget := cell_at_hold hcs
    refine ⟨_, rfl, _, rfl, hs, _, _, _, rfl, rfl, SqL.of hh5, at_of (j := cc) rfl hget, _, rfl, ?_⟩
    cases eg : st.1.getD cc Option.none with
    | none =>
     have e1 : holdStep n st cc = (st.1.set cc (some n), st.2) := by unfold holdStep; rw [eg]
     refine iteT ⟨_, rfl, _, rfl, _, rfl, hs, _, _, cc, rfl, rfl, hh5, ?_, ?_⟩
     ·unfold ixN
      rw [if_pos (by omega), if_pos (by rw [lnm]; omega), Int.toNat_natCast]
     ·rw [e1]
      refine ⟨_, rfl, same_upd s5 hole_self, ?_⟩
      rw [upd_same]
      show some (HO.lst ((st.1.map holdV).set cc (holdV (some n)))) = _
      rw [<- List.map_set]
    | some m =>
     have e1 : holdStep n st cc = (st.1, if m < st.2 then m else st.2) := by unfold holdStep; rw [eg]
     rw [eg] at hget
     refine iteF ⟨_, rfl, _, rfl, hs, _, _, _, rfl, rfl, SqL.of hh5, at_of (j := cc) rfl hget, _, rfl, _, _, rfl, rfl, _, rfl, ite2 (λ h1 => ?_) (λ h1 => ?_)⟩
     ·rw [dte] at h1
      rw [e1, if_pos (by omega : m < st.2)]
      exact ⟨_, rfl, _, rfl, hs, _, _, _, rfl, rfl, SqL.of hh5, at_of (j := cc) rfl hget, _, rfl, s5, hh5⟩
     ·rw [dte] at h1
      rw [e1, if_neg (by omega : ¬ m < st.2)]
      exact ⟨_, rfl, s5, hh5⟩
   ·rintro σ H3 ⟨v5, rfl, s5, hh5⟩
    have e2 : (((nexts ps).take (i + 1)).flatMap λ t => cellsOf wd t.1 t.2) = pre ++ (cellsOf wd u v).take ((max u v - min u v) / stepOf wd u v + 1) := by
     rw [cells_snoc hnx, epre]
     congr 1
     exact (List.take_of_length_le (by rw [cells_len]; exact Nat.le_refl _)).symm
    exact ⟨some (.int (u : Nat)), some (.int (v : Nat)), some (.int (stepOf wd u v : Nat)), v5, by rw [e2], (same_hole s34 hole_self).trans s5, by rw [e2]; exact hh5⟩
  ·rintro σ H' ⟨v1, v2, v3, v4, rfl, s3, hh⟩
   have e : (((nexts ps).take (min pv.length (pv.drop 1).length)).flatMap λ t => cellsOf wd t.1 t.2) = wireCells wd ps := by
    unfold wireCells
    rw [List.take_of_length_le]
    rw [nexts_len, List.length_drop, len]
    omega
   rw [e] at hh ⊢
   have q := k H' (sH.trans s3) hh
   unfold metV at q
   refine ⟨_, rfl, _, rfl, _, _, rfl, rfl, _, rfl, ite2 (λ h1 => ?_) (λ h1 => ?_)⟩
   ·rw [dte] at h1
    rw [if_pos (by omega)] at q
    exact ⟨_, rfl, q⟩
   ·rw [dte] at h1
    rw [if_neg (by omega)] at q
    exact q
theorem rep1 {α : Type} (x : α) : ∀ k : Nat, (List.replicate k [x]).flatten = List.replicate k x
 | 0 => rfl
 | k + 1 => by rw [List.replicate_succ, List.flatten_cons, rep1 x k]; rfl
theorem flat_mem_len {α : Type} {l : List (List α)} {x : List α} (h : x ∈ l) : x.length <= l.flatten.length := by
 obtain ⟨s, t, rfl⟩ := List.append_of_mem h
 rw [List.flatten_append, List.flatten_cons, lna, lna]
 omega
def Straight (ps : List (Int × Int)) : Prop := ∀ t ∈ nexts ps, (decide (t.1.1 = t.2.1) != decide (t.1.2 = t.2.2)) = true
theorem cover1 : ∀ {ps : List (Int × Int)}, Straight ps -> ∃ X Y : List Int, (∀ p ∈ ps, p.1 ∈ X /\ p.2 ∈ Y) /\ X.length + Y.length <= ps.length + 1
 | [], _ => ⟨[], [], λ p h => by simp at h, by simp⟩
 | [p], _ => ⟨[p.1], [p.2], λ q h => by rw [List.mem_singleton.mp h]; exact ⟨List.mem_singleton.mpr rfl, List.mem_singleton.mpr rfl⟩, by simp⟩
 | p :: q :: r, h => by
  have en : nexts (p :: q :: r) = (p, q) :: nexts (q :: r) := by
   unfold nexts
   simp
  obtain ⟨X, Y, h1, h2⟩ := cover1 (ps := q :: r) λ t ht => h t (by rw [en]; exact List.mem_cons_of_mem _ ht)
  have hs := h (p, q) (by rw [en]; exact List.mem_cons_self ..)
  have hq := h1 q (List.mem_cons_self ..)
  by_cases e : p.1 = q.1
  ·refine ⟨X, p.2 :: Y, λ z hz => ?_, by simp only [List.length_cons] at h2 ⊢; omega⟩
   rcases List.mem_cons.mp hz with rfl | hz
   ·exact ⟨by rw [e]; exact hq.1, List.mem_cons_self ..⟩
   ·exact ⟨(h1 z hz).1, List.mem_cons_of_mem _ (h1 z hz).2⟩
  ·have e2 : p.2 = q.2 := by
    rw [decide_eq_false e] at hs
    by_cases e2 : p.2 = q.2
    ·exact e2
    ·rw [decide_eq_false e2] at hs
     cases hs
   refine ⟨p.1 :: X, Y, λ z hz => ?_, by simp only [List.length_cons] at h2 ⊢; omega⟩
   rcases List.mem_cons.mp hz with rfl | hz
   ·exact ⟨List.mem_cons_self .., by rw [e2]; exact hq.2⟩
   ·exact ⟨List.mem_cons_of_mem _ (h1 z hz).1, (h1 z hz).2⟩
theorem cover : ∀ {wss : List (List (Int × Int))}, (∀ ps ∈ wss, Straight ps) -> ∃ X Y : List Int, (∀ p ∈ wss.flatten, p.1 ∈ X /\ p.2 ∈ Y) /\ X.length + Y.length <= wss.flatten.length + wss.length
 | [], _ => ⟨[], [], λ p h => by simp at h, by simp⟩
 | ps :: r, h => by
  obtain ⟨X, Y, h1, h2⟩ := cover1 (h ps (List.mem_cons_self ..))
  obtain ⟨X', Y', h3, h4⟩ := cover (wss := r) λ z hz => h z (List.mem_cons_of_mem _ hz)
  refine ⟨X ++ X', Y ++ Y', λ p hp => ?_, by rw [List.flatten_cons, lna, lna, lna, lnc]; omega⟩
  rw [List.flatten_cons] at hp
  rcases List.mem_append.mp hp with z | z
  ·exact ⟨List.mem_append.mpr (.inl (h1 p z).1), List.mem_append.mpr (.inl (h1 p z).2)⟩
  ·exact ⟨List.mem_append.mpr (.inr (h3 p z).1), List.mem_append.mpr (.inr (h3 p z).2)⟩
theorem sorted_sub {ks X : List Int} (hp : ks.Pairwise (· < ·)) (hm : ∀ x, x ∈ ks -> x ∈ X) : ks.length <= X.length := by
 have nd : ks.Nodup := hp.imp λ h => by omega
 exact nd.length_le_of_subset λ x hx => hm x hx
theorem mul_half {a b : Nat} (h : a + b <= 8192) : a * b <= 16777216 := by
 rcases Nat.le_total a 4096 with z | z
 ·obtain ⟨d, hd⟩ : ∃ d, a + d = 4096 := ⟨4096 - a, by omega⟩
  have h1 : a * b <= a * (4096 + d) := Nat.mul_le_mul_left _ (by omega)
  have h2 : a * (4096 + d) = a * 4096 + a * d := Nat.mul_add ..
  have h3 : a * d <= 4096 * d := Nat.mul_le_mul_right _ z
  have h4 : 4096 * 4096 = a * 4096 + d * 4096 := by rw [<- Nat.add_mul, hd]
  omega
 ·obtain ⟨d, hd⟩ : ∃ d, b + d = 4096 := ⟨4096 - b, by omega⟩
  have h1 : a * b <= (4096 + d) * b := Nat.mul_le_mul_right _ (by omega)
  have h2 : (4096 + d) * b = 4096 * b + d * b := Nat.add_mul ..
  have h3 : d * b <= d * 4096 := Nat.mul_le_mul_left _ (by omega)
  have h4 : 4096 * 4096 = 4096 * b + 4096 * d := by rw [<- Nat.mul_add, hd]
  omega
def PairV (H : Hp) (v : V) : Option (Nat × Nat) -> Prop
 | Option.none => v = .non
 | some (i, j) => ∃ t, v = .ref t /\ H t = some (.tup [.int (i : Nat), .int (j : Nat)])
theorem PairV.same {H H' : Hp} {v : V} {o : Option (Nat × Nat)} (p : PairV H v o) (s : Same H H') : PairV H' v o := by
 cases o with
 | none => exact p
 | some q => obtain ⟨t, h1, h2⟩ := p; exact ⟨t, h1, s _ _ h2⟩
theorem PairV.hole {H : Hp} {v : V} {o : Option (Nat × Nat)} {r : Addr} {xs : List V} (p : PairV H v o) (hr : H r = some (.lst xs)) : PairV (hole H r) v o := by
 cases o with
 | none => exact p
 | some q =>
  obtain ⟨t, h1, h2⟩ := p
  exact ⟨t, h1, by rw [hole_ne (ne_of h2 hr (λ z => nomatch z))]; exact h2⟩
def Meets (wss : List (List (Int × Int))) (i j : Nat) : Prop := ∃ ps qs, wss[i]? = some ps /\ wss[j]? = some qs /\ Vbpcao.wiresMeet (ps.map toPt) (qs.map toPt) = true
def Cell (xs ys : List Int) (wss : List (List (Int × Int))) (m c : Nat) : Prop := ∃ ps, wss[m]? = some ps /\ c ∈ wireCells xs.length (ps.map (plc xs ys))
theorem meets_cells {xs ys : List Int} (hx : xs.Pairwise (· < ·)) (hy : ys.Pairwise (· < ·)) {wss : List (List (Int × Int))} (hW : ∀ ps ∈ wss, WireG xs ys ps) (i j : Nat) : Meets wss i j ↔ ∃ c, Cell xs ys wss i c /\ Cell xs ys wss j c := by
 constructor
 ·rintro ⟨ps, qs, h1, h2, h3⟩
  obtain ⟨z, z1, z2⟩ := (meet_cells hx hy (hW ps (List.mem_of_getElem? h1)) (hW qs (List.mem_of_getElem? h2))).mp h3
  exact ⟨z, ⟨ps, h1, z1⟩, ⟨qs, h2, z2⟩⟩
 ·rintro ⟨z, ⟨ps, h1, z1⟩, ⟨qs, h2, z2⟩⟩
  exact ⟨ps, qs, h1, h2, (meet_cells hx hy (hW ps (List.mem_of_getElem? h1)) (hW qs (List.mem_of_getElem? h2))).mpr ⟨z, z1, z2⟩⟩
theorem held_nil (C : Nat -> Nat -> Prop) (k : Nat) : Held C 0 (List.replicate k Option.none) :=
 ⟨λ c _ m hm => absurd hm (Nat.not_lt_zero _), λ c m h => by
  rw [List.getElem?_replicate] at h
  split at h <;> cases h⟩
theorem cell_lt {xs ys : List Int} (hx : xs.Pairwise (· < ·)) (hy : ys.Pairwise (· < ·)) {ps : List (Int × Int)} (W : WireG xs ys ps) {z : Nat} (h : z ∈ wireCells xs.length (ps.map (plc xs ys))) : z < xs.length * ys.length := by
 obtain ⟨t, _, u, hu, _, _, rfl⟩ := (wire_cells hx hy W z).mp h
 exact plc_lt hu
def spMeet : Sp := λ vs H Q _ => ∃ (q : Addr) (wss : List (List (Int × Int))), vs = [.ref q] /\ TWires H q wss /\ wss.flatten.length <= 5000 /\ wss.length <= 64 /\ (∀ ps ∈ wss, 2 <= ps.length) /\ (∀ ps ∈ wss, ∀ t ∈ nexts ps, (decide (t.1.1 = t.2.1) != decide (t.1.2 = t.2.2)) = true) /\
 ∀ (H' : Hp) (v : V) (o : Option (Nat × Nat)), Same H H' -> IsFirst (Meets wss) wss.length o -> PairV H' v o -> Q v H'
theorem sc_first_meeting : FnScope ["wires", "columns", "rows", "width", "holders", "pair", "number", "corners", "places", "met", "x", "y"] ["wires"] (defScope s_first_meeting) := ⟨rfl, rfl, rfl, by decide +kernel, rfl, by decide +kernel, by decide +kernel⟩
theorem ok_first_meeting (D : Def K mg "first_meeting" s_first_meeting) (T : Txt mg) (c_all_corners : Cal P w K mg base "all_corners" ["wires"] 1 spCornersAll) (c_ranks : Cal P w K mg base "ranks" ["numbers"] 1 spRanks) (c_hold_places : Cal P w K mg base "hold_places" ["holders", "width", "places", "number"] 1 spHold) : Cal P w K mg base "first_meeting" ["wires"] 2 spMeet := by
 refine D.cal sc_first_meeting (λ _ _ _ _ _ _ us hl => match us, hl with | [_], _ => rfl) (λ vs H Q E h => ?_) (λ f cdv A outer s H vs Q E hr h => ?_)
 ·obtain ⟨q, wss, rfl, _⟩ := h
  rfl
 ·obtain ⟨q, wss, rfl, hTW, hfl, hwl, h2, hst, k⟩ := h
  have hu := hu_of hr
  refine ⟨_, (pss_cons (ps_set (i := 1) sc_first_meeting.nd rfl (by first|exact .inl rfl|exact .inr rfl) (pe_cal c_ranks (up hr) rfl (pa_cons (pe_lc rfl sc_first_meeting.nd (pi_list (pe_cal c_all_corners (up hr) rfl (pa_cons (pv 0) pa_nil))) (blkOk_by (own := [("x", 10), ("y", 11)]) (by kernel_rfl)) (λ _ _ _ _ _ => (pg_tupK (K := K) (n := 2) rfl (pg_tup (n := 2) rfl (pgs_cons (pg_name (i := 10) sc_first_meeting.nd rfl (by first|exact .inl rfl|exact .inr rfl)) (pgs_cons (pg_name (i := 11) sc_first_meeting.nd rfl (by first|exact .inl rfl|exact .inr rfl)) pgs_nil))))) (λ _ _ _ _ _ => pts_nil) (λ _ _ _ _ _ => (pv 10))) pa_nil)))
   (pss_cons (ps_set (i := 2) sc_first_meeting.nd rfl (by first|exact .inl rfl|exact .inr rfl) (pe_cal c_ranks (up hr) rfl (pa_cons (pe_lc rfl sc_first_meeting.nd (pi_list (pe_cal c_all_corners (up hr) rfl (pa_cons (pv 0) pa_nil))) (blkOk_by (own := [("x", 10), ("y", 11)]) (by kernel_rfl)) (λ _ _ _ _ _ => (pg_tupK (K := K) (n := 2) rfl (pg_tup (n := 2) rfl (pgs_cons (pg_name (i := 10) sc_first_meeting.nd rfl (by first|exact .inl rfl|exact .inr rfl)) (pgs_cons (pg_name (i := 11) sc_first_meeting.nd rfl (by first|exact .inl rfl|exact .inr rfl)) pgs_nil))))) (λ _ _ _ _ _ => pts_nil) (λ _ _ _ _ _ => (pv 11))) pa_nil)))
   (pss_cons (ps_set (i := 3) sc_first_meeting.nd rfl (by first|exact .inl rfl|exact .inr rfl) (pe_callB call_lenD (by rfl) T.len PySem.boot_len (pa_cons (pv 1) pa_nil)))
   (pss_cons (ps_set (i := 4) sc_first_meeting.nd rfl (by first|exact .inl rfl|exact .inr rfl) (pe_op op_rep (pe_lst (pa_cons pe_non pa_nil)) (pe_op op_mul (pv 3) (pe_callB call_lenD (by rfl) T.len PySem.boot_len (pa_cons (pv 2) pa_nil)))))
   (pss_cons (ps_set (i := 5) sc_first_meeting.nd rfl (by first|exact .inl rfl|exact .inr rfl) pe_non)
   (pss_cons (ps_for PassesOwn.never rfl (pi_enum rfl T.enumerate (pa_cons (pv 0) pa_nil)) (pg_tup (n := 2) rfl (pgs_cons (pg_name (i := 6) sc_first_meeting.nd rfl (by first|exact .inl rfl|exact .inr rfl)) (pgs_cons (pg_name (i := 7) sc_first_meeting.nd rfl (by first|exact .inl rfl|exact .inr rfl)) pgs_nil))) (pss_cons (ps_setLc (i := 8) rfl sc_first_meeting.nd rfl rfl (sw_true rfl rfl rfl (by decide +kernel)) (pi_list (pv 7)) (blkOk_by (own := [("x", 10), ("y", 11)]) (by kernel_rfl)) (λ _ _ _ _ _ => (pg_tupK (K := K) (n := 2) rfl (pg_tup (n := 2) rfl (pgs_cons (pg_name (i := 10) sc_first_meeting.nd rfl (by first|exact .inl rfl|exact .inr rfl)) (pgs_cons (pg_name (i := 11) sc_first_meeting.nd rfl (by first|exact .inl rfl|exact .inr rfl)) pgs_nil))))) (λ _ _ _ _ _ => pts_nil) (λ _ _ _ _ _ => (pe_op op_add (pe_op op_mul (pe_dget hu (pv 2) (pe_weak (pv 11)) (λ _ _ => rfl)) (pv 3)) (pe_dget hu (pv 1) (pe_weak (pv 10)) (λ _ _ => rfl)))))
   (pss_cons (ps_set (i := 9) sc_first_meeting.nd rfl (by first|exact .inl rfl|exact .inr rfl) (pe_cal c_hold_places (up hr) rfl (pa_cons (pv 4) (pa_cons (pv 3) (pa_cons (pv 8) (pa_cons (pv 6) pa_nil))))))
   (pss_one (ps_if (PW.pt (pw_and (pt_cmp (pc_notN (pv 9))) (pw_and1 (PW.pt (pw_or (pt_cmp (pc_isN (pv 5))) (pw_or1 (pt_cmpR op_lt (pv 9) (pe_ix ix_tup (pv 5) pe_int (λ _ _ => rfl)) (nomark _)))))))) (pss_one (ps_set (i := 5) sc_first_meeting.nd rfl (by first|exact .inl rfl|exact .inr rfl) (pe_tup (pa_cons (pv 9) (pa_cons (pv 6) pa_nil))))) pss_nil)))))
   (pss_one (ps_ret (pv 5))))))))), ?_⟩
  refine ⟨_, rfl, q, wss, rfl, hTW, by omega, λ H1 c s1 n1 hT => ?_⟩
  obtain ⟨as, hc, t⟩ := hT
  refine ⟨c, rfl, ⟨_, SqL.of hc⟩, λ D1 nD => lc_list (K := K) (a := c) (xs := as.map V.ref) (λ i H' => Same H1 H' /\ H' D1 = some (.lst (((wss.flatten.map (·.1)).take i).map V.tok))) ⟨same_new nD, upd_same⟩ (λ i H' _ ⟨s2, _⟩ => SqL.of (s2 _ _ hc)) ?_ ?_⟩
  ·rintro i x H' hx ⟨s2, hD⟩
   obtain ⟨ad, had, rfl⟩ := ref_of hx
   obtain ⟨p, hp, ep⟩ := t.pt had
   have hi : i < wss.flatten.length := (List.getElem?_eq_some_iff.mp hp).1
   have e : (wss.flatten.map (·.1))[i]? = some p.1 := by rw [gem, hp]; rfl
   refine ⟨ad, _, rfl, SqT.of (s2 _ _ ep), rfl, _, _, rfl, _, _, rfl, rfl, rfl, iteT (B := True) ⟨_, rfl, _, hD, ?_, same_upd s2 nD, ?_⟩⟩
   ·rw [lnm, lnt, sizeLine_eq]
    omega
   ·rw [upd_same, take_one e, List.map_append]
    rfl
  rintro H2 ⟨s2, hD⟩
  have hal := t.plen
  rw [List.length_map, hal, List.take_of_length_le (by rw [lnm]; exact Nat.le_refl _)] at hD
  refine ⟨D1, _, rfl, hD, by rw [lnm]; exact hfl, λ H3 d1 xs s3 nd1 hxp hxm hRx => ?_⟩
  have s13 := (s1.trans s2).trans s3
  refine ⟨_, rfl, q, wss, rfl, hTW.same s13, by omega, λ H4 c' s4 n4 hT' => ?_⟩
  obtain ⟨as', hc', t'⟩ := hT'
  refine ⟨c', rfl, ⟨_, SqL.of hc'⟩, λ D2 nD2 => lc_list (K := K) (a := c') (xs := as'.map V.ref) (λ i H' => Same H4 H' /\ H' D2 = some (.lst (((wss.flatten.map (·.2)).take i).map V.tok))) ⟨same_new nD2, upd_same⟩ (λ i H' _ ⟨s5, _⟩ => SqL.of (s5 _ _ hc')) ?_ ?_⟩
  ·rintro i x H' hx ⟨s5, hD2⟩
   obtain ⟨ad, had, rfl⟩ := ref_of hx
   obtain ⟨p, hp, ep⟩ := t'.pt had
   have hi : i < wss.flatten.length := (List.getElem?_eq_some_iff.mp hp).1
   have e : (wss.flatten.map (·.2))[i]? = some p.2 := by rw [gem, hp]; rfl
   refine ⟨ad, _, rfl, SqT.of (s5 _ _ ep), rfl, _, _, rfl, _, _, rfl, rfl, rfl, iteT (B := True) ⟨_, rfl, _, hD2, ?_, same_upd s5 nD2, ?_⟩⟩
   ·rw [lnm, lnt, sizeLine_eq]
    omega
   ·rw [upd_same, take_one e, List.map_append]
    rfl
  rintro H5 ⟨s5, hD2⟩
  have hal' := t'.plen
  rw [List.length_map, hal', List.take_of_length_le (by rw [lnm]; exact Nat.le_refl _)] at hD2
  refine ⟨D2, _, rfl, hD2, by rw [lnm]; exact hfl, λ H6 d2 ys s6 nd2 hyp hym hRy => ?_⟩
  have s46 := (s4.trans s5).trans s6
  have hRx6 := hRx.same s46
  obtain ⟨kx, hkx, hkxl, hkxv⟩ := hRx6.ex
  obtain ⟨ky, hky, hkyl, hkyv⟩ := hRy.ex
  have hxl : xs.length <= 5000 := by
   have := sorted_len hxp hxm
   rw [lnm] at this
   omega
  have hyl : ys.length <= 5000 := by
   have := sorted_len hyp hym
   rw [lnm] at this
   omega
  have hmul : xs.length * ys.length <= 16777216 := by
   obtain ⟨X, Y, c1, c2⟩ := cover (wss := wss) hst
   have h1 := sorted_sub (X := X) hxp λ x hx => by
    obtain ⟨p, hp, rfl⟩ := List.mem_map.mp ((hxm x).mp hx)
    exact (c1 p hp).1
   have h2 := sorted_sub (X := Y) hyp λ x hx => by
    obtain ⟨p, hp, rfl⟩ := List.mem_map.mp ((hym x).mp hx)
    exact (c1 p hp).2
   exact mul_half (by omega)
  have inG : ∀ ps ∈ wss, ∀ p ∈ ps, InG xs ys p := λ ps hps p hp => ⟨(hxm _).mpr (List.mem_map.mpr ⟨p, List.mem_flatten.mpr ⟨ps, hps, hp⟩, rfl⟩), (hym _).mpr (List.mem_map.mpr ⟨p, List.mem_flatten.mpr ⟨ps, hps, hp⟩, rfl⟩)⟩
  have hW : ∀ ps ∈ wss, WireG xs ys ps := λ ps hps => ⟨inG ps hps, hst ps hps⟩
  refine ⟨_, rfl, d1, kx, rfl, hkx, ?_⟩
  rw [hkxl]
  refine ⟨sz1, λ L nL => ⟨_, rfl, _, rfl, d2, ky, rfl, (by rw [upd_ne (ne_of_none hky nL)]; exact hky), _, _, rfl, rfl, .inl ⟨by omega, by omega⟩, L, ((xs.length * ys.length : Nat) : Int), [.non], rfl, by rw [hkyl, Int.natCast_mul], upd_same, by omega, by omega, by rw [Int.toNat_natCast, sizeLine_eq]; show 1 * _ <= _; omega, λ hs nh => ?_⟩⟩
  rw [Int.toNat_natCast, rep1]
  have s7 := same_new (o := .lst [.non]) nL
  have s8 := same_new (o := .lst (List.replicate (xs.length * ys.length) V.non)) nh
  have s68 := s7.trans s8
  have n6h : H6 hs = Option.none := s7.free nh
  have e8 : List.replicate (xs.length * ys.length) V.non = (List.replicate (xs.length * ys.length) Option.none).map holdV := by rw [List.map_replicate]; rfl
  generalize eH8 : upd (upd H6 L (.lst [.non])) hs (.lst (List.replicate (xs.length * ys.length) V.non)) = H8 at s8 s68
  have hh8 : H8 hs = some (.lst ((List.replicate (xs.length * ys.length) Option.none).map holdV)) := by rw [<- eH8, upd_same, e8]
  have s06 : Same H H6 := s13.trans s46
  have s6h : Same H6 (hole H8 hs) := same_hole s68 n6h
  obtain ⟨ws, hq, hwsl, hwat⟩ := hTW
  refine ⟨_, rfl, q, _, rfl, SqL.of (s68 _ _ (s06 _ _ hq)), for_enum (K := K) (a := q) (xs := ws.map V.ref)
   (λ i σ H' => ∃ v v6 v7 v8 v9 ho o, σ = [some (.ref q), some (.ref d1), some (.ref d2), some (.int (xs.length : Nat)), some (.ref hs), some v, v6, v7, v8, v9, Option.none, Option.none] /\ Same (hole H8 hs) H' /\ H' hs = some (.lst (ho.map holdV)) /\ ho.length = xs.length * ys.length /\ Held (Cell xs ys wss) i ho /\ IsFirst (Meets wss) i o /\ PairV H' v o)
   ⟨.non, _, _, _, _, _, Option.none, rfl, hole_same, hh8, List.length_replicate .., held_nil _ _, λ i j _ hj => absurd hj (Nat.not_lt_zero _), rfl⟩
   (λ i σ H' _ ⟨_, _, _, _, _, _, _, _, s9, _⟩ => SqL.of (s9 _ _ (s6h _ _ (s06 _ _ hq)))) ?_ ?_⟩
  ·rintro i vx σ H9 tt hx ⟨v, v6, v7, v8, v9, ho, o, rfl, s9, hh9, hol, hheld, hfirst, hpair⟩ ht
   obtain ⟨a, ha, rfl⟩ := ref_of hx
   have hi : i < wss.length := by
    have := (List.getElem?_eq_some_iff.mp ha).1
    omega
   have hw := List.getElem?_eq_getElem hi
   generalize wss[i] = ps at hw
   have hps : ps ∈ wss := List.mem_of_getElem? hw
   have s10 := same_new (o := .tup [.int (i : Nat), .ref a]) ht
   have s6x := (s6h.trans s9).trans s10
   have s0x := s06.trans s6x
   obtain ⟨bs, hb, tb⟩ := (hwat i a ps ha hw).same s0x
   have hbl := tb.plen
   have hpl : ps.length <= 5000 := by
    have := flat_mem_len hps
    omega
   generalize eH10 : upd H9 tt (.tup [.int (i : Nat), .ref a]) = H10 at *
   refine ⟨tt, _, rfl, SqT.of (by rw [<- eH10]; exact upd_same), rfl, _, _, rfl, _, _, rfl, rfl, ?_⟩
   refine ⟨_, rfl, a, rfl, ⟨_, SqL.of hb⟩, λ D3 nD3 => lc_list (K := K) (a := a) (xs := bs.map V.ref) (λ j H' => Same H10 H' /\ H' D3 = some (.lst (((ps.map (plc xs ys)).take j).map λ p => V.int (p : Nat)))) ⟨same_new nD3, upd_same⟩ (λ j H' _ ⟨s11, _⟩ => SqL.of (s11 _ _ hb)) ?_ ?_⟩
   ·rintro j x H' hx ⟨s11, hD3⟩
    obtain ⟨ad, had, rfl⟩ := ref_of hx
    obtain ⟨p, hp, ep⟩ := tb.pt had
    have hj : j < ps.length := (List.getElem?_eq_some_iff.mp hp).1
    have g := inG ps hps p (List.mem_of_getElem? hp)
    have e : (ps.map (plc xs ys))[j]? = some (plc xs ys p) := by rw [gem, hp]; rfl
    have hdy : DGet H' d2 (.int p.2) (some (.int (rk ys p.2 : Nat))) := by
     have := DGet.k (k := .inl p.2) (s11 _ _ (s6x _ _ hky))
     rw [hkyv _ g.y] at this
     exact this
    have hdx : DGet H' d1 (.int p.1) (some (.int (rk xs p.1 : Nat))) := by
     have := DGet.k (k := .inl p.1) (s11 _ _ (s6x _ _ hkx))
     rw [hkxv _ g.x] at this
     exact this
    have hry := rk_lt g.y
    refine ⟨ad, _, rfl, SqT.of (s11 _ _ ep), rfl, _, _, rfl, _, _, rfl, rfl, rfl, iteT (B := True) ⟨_, rfl, _, rfl, d2, _, rfl, hdy, _, rfl, _, _, rfl, rfl, .inl ⟨by omega, by omega⟩, _, rfl, _, rfl, d1, _, rfl, hdx, _, _, rfl, rfl, _, hD3, ?_, same_upd s11 nD3, ?_⟩⟩
    ·rw [lnm, lnt, sizeLine_eq, lnm]
     omega
    ·rw [upd_same, take_one e, List.map_append]
     show _ = some (HO.lst (_ ++ [V.int ((rk ys p.2 * xs.length + rk xs p.1 : Nat) : Int)]))
     rw [Int.natCast_add, Int.natCast_mul]
   rintro H11 ⟨s11, hD3⟩
   rw [List.length_map, hbl, List.take_of_length_le (by rw [lnm]; exact Nat.le_refl _)] at hD3
   have hh11 : H11 hs = some (.lst (ho.map holdV)) := s11 _ _ (s10 _ _ hh9)
   have nhD : hs ≠ D3 := λ e => by rw [<- e, s10 _ _ hh9] at nD3; cases nD3
   have hcells : ∀ c ∈ wireCells xs.length (ps.map (plc xs ys)), c < ho.length := λ c hc => by rw [hol]; exact cell_lt hxp hyp (hW ps hps) hc
   have hxpos : 0 < xs.length := by
    obtain ⟨p, hp⟩ : ∃ p, ps[0]? = some p := ⟨ps[0]'(by have := h2 ps hps; omega), List.getElem?_eq_getElem _⟩
    exact List.length_pos_of_mem (inG ps hps p (List.mem_of_getElem? hp)).x
   refine ⟨_, rfl, _, rfl, _, rfl, _, rfl, hs, D3, xs.length, i, ho, ps.map (plc xs ys), rfl, hh11, hD3, nhD, hxpos, hxl, by omega, hcells, ?_, λ H12 s12 hh12 => ?_⟩
   ·intro p hp
    obtain ⟨p', hp', rfl⟩ := List.mem_map.mp hp
    rw [hol]
    exact plc_lt (inG ps hps p' hp')
   have hM := mid_all (wireCells xs.length (ps.map (plc xs ys))) [] (ho, i) (mid_nil hheld) hcells
   rw [List.nil_append] at hM
   have hhl := hold_len i (wireCells xs.length (ps.map (plc xs ys))) (ho, i)
   generalize hold i (ho, i) (wireCells xs.length (ps.map (plc xs ys))) = st at hM hhl hh12
   have hCi : ∀ c, Cell xs ys wss i c ↔ c ∈ wireCells xs.length (ps.map (plc xs ys)) := λ c => by
    constructor
    ·rintro ⟨ps', e1, e2⟩
     rw [hw] at e1
     cases e1
     exact e2
    ·exact λ e => ⟨ps, hw, e⟩
   have hheld' := held_next hM hCi
   have hfirst' := first_step hfirst (met := st.2) hM.le (λ z => by
     obtain ⟨c, c1, c2⟩ := hM.wit z
     exact (meets_cells hxp hyp hW _ _).mpr ⟨c, c2, (hCi c).mpr c1⟩) (λ m hm hT => by
     obtain ⟨c, c1, c2⟩ := (meets_cells hxp hyp hW _ _).mp hT
     exact hM.least c ((hCi c).mp c2) m hm c1)
   have sA : Same (hole H8 hs) (hole H11 hs) := same_hole ((s9.trans s10).trans s11) hole_self
   have sB := sA.trans s12
   have hol' : st.1.length = xs.length * ys.length := by rw [hhl, hol]
   have hpair12 : PairV H12 v o := (((hpair.same s10).same s11).hole hh11).same s12
   have stay : (¬ (st.2 < i /\ ∀ p, o = some p -> st.2 < p.1)) -> IsFirst (Meets wss) (i + 1) o := λ no => by
    rw [if_neg no] at hfirst'
    exact hfirst'
   have fin : (st.2 < i /\ ∀ p, o = some p -> st.2 < p.1) -> ∀ p5, H12 p5 = Option.none -> ∃ v v6 v7 v8 v9 ho o, ([some (.ref q), some (.ref d1), some (.ref d2), some (.int (xs.length : Nat)), some (.ref hs), some (.ref p5), some (.int (i : Nat)), some (.ref a), some (.ref D3), some (.int (st.2 : Nat)), Option.none, Option.none] : L2.St) = [some (.ref q), some (.ref d1), some (.ref d2), some (.int (xs.length : Nat)), some (.ref hs), some v, v6, v7, v8, v9, Option.none, Option.none] /\ Same (hole H8 hs) (upd H12 p5 (.tup [.int (st.2 : Nat), .int (i : Nat)])) /\ (upd H12 p5 (.tup [.int (st.2 : Nat), .int (i : Nat)])) hs = some (.lst (ho.map holdV)) /\ ho.length = xs.length * ys.length /\ Held (Cell xs ys wss) (i + 1) ho /\ IsFirst (Meets wss) (i + 1) o /\ PairV (upd H12 p5 (.tup [.int (st.2 : Nat), .int (i : Nat)])) v o := λ yes p5 n5 => by
    rw [if_pos yes] at hfirst'
    exact ⟨_, _, _, _, _, st.1, _, rfl, sB.trans (same_new n5), same_new n5 _ _ hh12, hol', hheld', hfirst', p5, rfl, upd_same⟩
   unfold metV
   by_cases hlt : st.2 < i
   ·rw [if_pos hlt]
    refine ⟨_, rfl, _, rfl, iteT ?_⟩
    refine ⟨_, rfl, _, rfl, ?_⟩
    cases o with
    | none =>
     have ev : v = .non := hpair
     subst ev
     refine iteT (iteT ⟨_, rfl, _, rfl, sz1, λ p5 n5 => ?_⟩)
     exact fin ⟨hlt, λ p e => nomatch e⟩ p5 n5
    | some pr =>
     obtain ⟨pi, pj⟩ := pr
     obtain ⟨tp, rfl, htp⟩ := hpair12
     refine iteF ⟨_, rfl, _, rfl, tp, _, _, _, rfl, rfl, SqT.of htp, at_of (j := 0) rfl rfl, _, _, rfl, rfl, _, rfl, ite2 (λ h1 => ?_) (λ h1 => ?_)⟩
     ·rw [dte] at h1
      refine ⟨_, rfl, _, rfl, sz1, λ p5 n5 => ?_⟩
      exact fin ⟨hlt, λ p e => by cases e; show st.2 < pi; omega⟩ p5 n5
     ·rw [dte] at h1
      exact ⟨_, _, _, _, _, st.1, some (pi, pj), rfl, sB, hh12, hol', hheld', stay λ z => h1 (by have : st.2 < pi := z.2 (pi, pj) rfl; omega), ⟨tp, rfl, htp⟩⟩
   ·rw [if_neg hlt]
    refine ⟨_, rfl, _, rfl, iteF (iteF ?_)⟩
    exact ⟨_, _, _, _, _, st.1, o, rfl, sB, hh12, hol', hheld', stay λ z => hlt z.1, hpair12⟩
  ·rintro σ H9 ⟨v, v6, v7, v8, v9, ho, o, rfl, s9, hh9, hol, hheld, hfirst, hpair⟩
   rw [lnm, hwsl] at hfirst
   exact ⟨_, rfl, k H9 v o ((s06.trans s6h).trans s9) hfirst hpair⟩
def asW (wss : List (List (Int × Int))) : List (List Vbpcao.Pt) := wss.map λ l => l.map toPt
theorem asW_len (wss : List (List (Int × Int))) : (asW wss).length = wss.length := List.length_map ..
theorem asW_at {wss : List (List (Int × Int))} {i : Nat} {ps : List (Int × Int)} (h : wss[i]? = some ps) : (asW wss)[i]? = some (ps.map toPt) := by
 unfold asW
 rw [gem, h]
 rfl
theorem of_asW {wss : List (List (Int × Int))} {i : Nat} {z : List Vbpcao.Pt} (h : (asW wss)[i]? = some z) : ∃ ps, wss[i]? = some ps /\ z = ps.map toPt := by
 unfold asW at h
 rw [gem] at h
 cases e : wss[i]? with
 | none => rw [e] at h; cases h
 | some ps => rw [e] at h; exact ⟨ps, rfl, (Option.some.inj h).symm⟩
theorem zip_at {s : State} {wss : List (List (Int × Int))} {i : Nat} {ps : List (Int × Int)} (hi : i < s.length) (h : wss[i]? = some ps) : (s.zip (asW wss))[i]? = some (⟨bAt s i, aAt s i⟩, ps.map toPt) := by
 rw [List.getElem?_zip_eq_some]
 exact ⟨st_at hi, asW_at h⟩
theorem of_zip {s : State} {wss : List (List (Int × Int))} {i : Nat} {z : Vbpcao.Net × List Vbpcao.Pt} (h : (s.zip (asW wss))[i]? = some z) : ∃ ps, wss[i]? = some ps /\ i < s.length /\ z = (⟨bAt s i, aAt s i⟩, ps.map toPt) := by
 rw [List.getElem?_zip_eq_some] at h
 obtain ⟨ps, h1, h2⟩ := of_asW h.2
 have hi : i < s.length := (List.getElem?_eq_some_iff.mp h.1).1
 have h3 := h.1
 rw [st_at hi] at h3
 exact ⟨ps, h1, hi, Prod.ext (Option.some.inj h3).symm h2⟩
theorem zip_len {s : State} {wss : List (List (Int × Int))} (hl : wss.length = s.length) : (s.zip (asW wss)).length = s.length := by
 rw [List.length_zip, asW_len, hl, Nat.min_self]
theorem wrong_len {s : State} {k : Nat} {wss : List (List (Int × Int))} (h : wss.length ≠ s.length) : Vbpcao.wrong s k (asW wss) = [1] := by
 unfold Vbpcao.wrong
 rw [if_pos (by rw [asW_len]; exact h)]
def JoinsTo (s : State) (k : Nat) (wss : List (List (Int × Int))) (i : Nat) : Prop := ∀ (j : Nat) (ps : List (Int × Int)), j < i -> wss[j]? = some ps -> joinsP (bAt s j) (aAt s j) ((k : Int) + 1) ps = true
def TracksTo (k : Nat) (wss : List (List (Int × Int))) (i : Nat) : Prop := ∀ (j : Nat) (ps : List (Int × Int)), j < i -> wss[j]? = some ps -> tracksP (k : Int) ps = true
theorem wrong_join {s : State} {k i : Nat} {wss : List (List (Int × Int))} {ps : List (Int × Int)} (hl : wss.length = s.length) (hi : i < s.length) (hw : wss[i]? = some ps) (hj : joinsP (bAt s i) (aAt s i) ((k : Int) + 1) ps = false) (hb : JoinsTo s k wss i) : Vbpcao.wrong s k (asW wss) = [2, (i : Int)] := by
 unfold Vbpcao.wrong
 rw [if_neg (by rw [asW_len, hl]; exact λ z => z rfl)]
 have e := find_zip_some (n := s.length) (p := λ t : Nat × (Vbpcao.Net × List Vbpcao.Pt) => !Vbpcao.joinsPins t.2.1 k t.2.2) (zip_len hl) (zip_at hi hw) (by
  show (!Vbpcao.joinsPins _ k (ps.map toPt)) = true
  rw [joins_is]
  show (!joinsP (bAt s i) (aAt s i) ((k : Int) + 1) ps) = true
  rw [hj]
  rfl) (λ j z hji hz => by
  obtain ⟨qs, h1, h2, rfl⟩ := of_zip hz
  show (!Vbpcao.joinsPins _ k (qs.map toPt)) = false
  rw [joins_is]
  show (!joinsP (bAt s j) (aAt s j) ((k : Int) + 1) qs) = false
  rw [hb j qs hji h1]
  rfl)
 dsimp only
 rw [e]
theorem no_join {s : State} {k : Nat} {wss : List (List (Int × Int))} (hl : wss.length = s.length) (hb : JoinsTo s k wss s.length) : ((List.range s.length).zip (s.zip (asW wss))).find? (λ t => !Vbpcao.joinsPins t.2.1 k t.2.2) = Option.none :=
 find_zip_none λ j z hz => by
  obtain ⟨qs, h1, h2, rfl⟩ := of_zip hz
  show (!Vbpcao.joinsPins _ k (qs.map toPt)) = false
  rw [joins_is]
  show (!joinsP (bAt s j) (aAt s j) ((k : Int) + 1) qs) = false
  rw [hb j qs h2 h1]
  rfl
theorem wrong_track {s : State} {k i : Nat} {wss : List (List (Int × Int))} {ps : List (Int × Int)} (hl : wss.length = s.length) (hi : i < s.length) (hJ : JoinsTo s k wss s.length) (hw : wss[i]? = some ps) (hj : tracksP (k : Int) ps = false) (hb : TracksTo k wss i) : Vbpcao.wrong s k (asW wss) = [3, (i : Int)] := by
 unfold Vbpcao.wrong
 rw [if_neg (by rw [asW_len, hl]; exact λ z => z rfl)]
 have e := find_zip_some (n := s.length) (p := λ t : Nat × (Vbpcao.Net × List Vbpcao.Pt) => !Vbpcao.onTracks k t.2.2) (zip_len hl) (zip_at hi hw) (by
  show (!Vbpcao.onTracks k (ps.map toPt)) = true
  rw [tracks_is, hj]
  rfl) (λ j z hji hz => by
  obtain ⟨qs, h1, h2, rfl⟩ := of_zip hz
  show (!Vbpcao.onTracks k (qs.map toPt)) = false
  rw [tracks_is, hb j qs hji h1]
  rfl)
 dsimp only
 rw [no_join hl hJ, e]
theorem no_track {s : State} {k : Nat} {wss : List (List (Int × Int))} (hb : TracksTo k wss s.length) : ((List.range s.length).zip (s.zip (asW wss))).find? (λ t => !Vbpcao.onTracks k t.2.2) = Option.none :=
 find_zip_none λ j z hz => by
  obtain ⟨qs, h1, h2, rfl⟩ := of_zip hz
  show (!Vbpcao.onTracks k (qs.map toPt)) = false
  rw [tracks_is, hb j qs h2 h1]
  rfl
def pairNums : Option (Nat × Nat) -> List Int
 | Option.none => [0]
 | some (i, j) => [4, (i : Int), (j : Int)]
theorem rz_at {wss : List (List (Int × Int))} {i : Nat} {ps : List (Int × Int)} (h : wss[i]? = some ps) : ((List.range (asW wss).length).zip (asW wss))[i]? = some (i, ps.map toPt) := by
 rw [List.getElem?_zip_eq_some]
 exact ⟨List.getElem?_range (by rw [asW_len]; exact (List.getElem?_eq_some_iff.mp h).1), asW_at h⟩
theorem of_rz {wss : List (List (Int × Int))} {i : Nat} {z : Nat × List Vbpcao.Pt} (h : ((List.range (asW wss).length).zip (asW wss))[i]? = some z) : ∃ ps, wss[i]? = some ps /\ z = (i, ps.map toPt) := by
 have h' := h
 rw [List.getElem?_zip_eq_some] at h
 obtain ⟨ps, h1, h2⟩ := of_asW h.2
 rw [rz_at h1] at h'
 exact ⟨ps, h1, (Option.some.inj h').symm⟩
theorem wrong_pairs {s : State} {k : Nat} {wss : List (List (Int × Int))} {o : Option (Nat × Nat)} (hl : wss.length = s.length) (hJ : JoinsTo s k wss s.length) (hT : TracksTo k wss s.length) (hf : IsFirst (Meets wss) wss.length o) : Vbpcao.wrong s k (asW wss) = pairNums o := by
 unfold Vbpcao.wrong
 rw [if_neg (by rw [asW_len, hl]; exact λ z => z rfl)]
 dsimp only
 rw [no_join hl hJ, no_track hT]
 dsimp only
 have no : ∀ {i j : Nat} {x y : Nat × List Vbpcao.Pt}, ((List.range (asW wss).length).zip (asW wss))[i]? = some x -> ((List.range (asW wss).length).zip (asW wss))[j]? = some y -> ¬ Meets wss i j -> Vbpcao.wiresMeet x.2 y.2 = false := λ {i j x y} h1 h2 h3 => by
  obtain ⟨ps, p1, rfl⟩ := of_rz h1
  obtain ⟨qs, q1, rfl⟩ := of_rz h2
  cases e : Vbpcao.wiresMeet (ps.map toPt) (qs.map toPt) with
  | false => rfl
  | true => exact absurd ⟨ps, qs, p1, q1, e⟩ h3
 cases o with
 | none =>
  rw [pairs_none (P := λ x y : Nat × List Vbpcao.Pt => Vbpcao.wiresMeet x.2 y.2) (λ i j x y h1 h2 hij => no h1 h2 (hf i j hij (by
   have := (List.getElem?_eq_some_iff.mp h2).1
   rw [List.length_zip, lnr, asW_len] at this
   omega)))]
  rfl
 | some pr =>
  obtain ⟨i, j⟩ := pr
  obtain ⟨hij, hjn, ⟨ps, qs, p1, q1, e⟩, hmin⟩ := hf
  rw [pairs_some (P := λ x y : Nat × List Vbpcao.Pt => Vbpcao.wiresMeet x.2 y.2) (rz_at p1) (rz_at q1) hij e (λ i' j' x' y' h1 h2 hij' hlt => no h1 h2 (hmin i' j' hij' (by
   have := (List.getElem?_eq_some_iff.mp h2).1
   rw [List.length_zip, lnr, asW_len] at this
   omega) hlt))]
  rfl
theorem joins_two {b a top : Int} {ps : List (Int × Int)} (h : joinsP b a top ps = true) : 2 <= ps.length /\ ∀ t ∈ nexts ps, (decide (t.1.1 = t.2.1) != decide (t.1.2 = t.2.2)) = true := by
 unfold joinsP at h
 rw [Bool.and_eq_true, Bool.and_eq_true, Bool.and_eq_true, dte] at h
 exact ⟨h.1, List.all_eq_true.mp h.2.2.2⟩
def spWrong : Sp := λ vs H Q _ => ∃ (l u q : Addr) (s : State) (k : Nat) (wss : List (List (Int × Int))), vs = [.ref l, .ref u, .int (k : Nat), .ref q] /\ LI H l (lows s) /\ LI H u (ups s) /\ s.length <= 64 /\ TWires H q wss /\ wss.flatten.length <= 5000 /\
 ∀ (H' : Hp) (p : Addr), Same H H' -> H p = Option.none -> LI H' p (Vbpcao.wrong s k (asW wss)) -> Q (.ref p) H'
theorem sc_what_is_wrong : FnScope ["lower", "upper", "h", "wires", "net", "corners", "pair"] ["lower", "upper", "h", "wires"] (defScope s_what_is_wrong) := ⟨rfl, rfl, rfl, by decide +kernel, rfl, by decide +kernel, by decide +kernel⟩
theorem ok_what_is_wrong (D : Def K mg "what_is_wrong" s_what_is_wrong) (T : Txt mg) (c_joins : Cal P w K mg base "joins" ["corners", "lower_pin", "upper_pin"] 2 spJoins) (c_keeps_to_tracks : Cal P w K mg base "keeps_to_tracks" ["corners", "h"] 1 spKeeps) (c_first_meeting : Cal P w K mg base "first_meeting" ["wires"] 2 spMeet) : Cal P w K mg base "what_is_wrong" ["lower", "upper", "h", "wires"] 3 spWrong := by
 refine D.cal sc_what_is_wrong (λ _ _ _ _ _ _ us hl => match us, hl with | [_, _, _, _], _ => rfl) (λ vs H Q E h => ?_) (λ f cdv A outer s H vs Q E hr h => ?_)
 ·obtain ⟨l, u, q, s, k, wss, rfl, _⟩ := h
  rfl
 ·obtain ⟨l, u, q, s, k, wss, rfl, hl, hu, h64, hTW, hfl, kk⟩ := h
  have hTW0 := hTW
  obtain ⟨ws, hq, hwl, hwat⟩ := hTW
  have len : ((lows s).map V.int).length = s.length := by rw [lnm, lows_len]
  have lenw : (ws.map V.ref).length = wss.length := by rw [lnm, hwl]
  have fin : ∀ {H1 : Hp} {p : Addr} {ans : List Int}, Vbpcao.wrong s k (asW wss) = ans -> Same H H1 -> H1 p = Option.none -> Q (.ref p) (upd H1 p (.lst (ans.map V.int))) := λ {H1 p ans} e s1 hp => by
   refine kk _ p (same_upd s1 (s1.free hp)) (s1.free hp) ?_
   rw [e]
   exact upd_same
  refine ⟨_, (pss_cons (ps_if (pt_cmpR op_ne (pe_callB call_len_seq (by rfl) T.len PySem.boot_len (pa_cons (pv 3) pa_nil)) (pe_callB call_len_seq (by rfl) T.len PySem.boot_len (pa_cons (pv 0) pa_nil)) (nomark _)) (pss_one (ps_ret (pe_lst (pa_cons pe_int pa_nil)))) pss_nil)
   (pss_cons (ps_for PassesOwn.never rfl (pi_enum rfl T.enumerate (pa_cons (pv 3) pa_nil)) (pg_tup (n := 2) rfl (pgs_cons (pg_name (i := 4) sc_what_is_wrong.nd rfl (.inl rfl)) (pgs_cons (pg_name (i := 5) sc_what_is_wrong.nd rfl (.inl rfl)) pgs_nil))) (pss_one (ps_if (pt_not (pt_val (pe_cal c_joins (up hr) rfl (pa_cons (pv 5) (pa_cons (pe_tup (pa_cons (pe_ix ix_list (pv 0) (pv 4) (λ _ _ => rfl)) (pa_cons pe_int pa_nil))) (pa_cons (pe_tup (pa_cons (pe_ix ix_list (pv 1) (pv 4) (λ _ _ => rfl)) (pa_cons (pe_op op_add (pv 2) pe_int) pa_nil))) pa_nil)))))) (pss_one (ps_ret (pe_lst (pa_cons pe_int (pa_cons (pv 4) pa_nil))))) pss_nil)))
   (pss_cons (ps_for PassesOwn.never rfl (pi_enum rfl T.enumerate (pa_cons (pv 3) pa_nil)) (pg_tup (n := 2) rfl (pgs_cons (pg_name (i := 4) sc_what_is_wrong.nd rfl (.inl rfl)) (pgs_cons (pg_name (i := 5) sc_what_is_wrong.nd rfl (.inl rfl)) pgs_nil))) (pss_one (ps_if (pt_not (pt_val (pe_cal c_keeps_to_tracks (up hr) rfl (pa_cons (pv 5) (pa_cons (pv 2) pa_nil))))) (pss_one (ps_ret (pe_lst (pa_cons pe_int (pa_cons (pv 4) pa_nil))))) pss_nil)))
   (pss_cons (ps_set (i := 6) sc_what_is_wrong.nd rfl (.inl rfl) (pe_cal c_first_meeting (up hr) rfl (pa_cons (pv 3) pa_nil)))
   (pss_one (ps_ret (pe_ifExp (pt_cmp (pc_isN (pv 6))) (pe_lst (pa_cons pe_int pa_nil)) (pe_lst (pa_cons pe_int (pa_cons (pe_ix ix_tup (pv 6) pe_int (λ _ _ => rfl)) (pa_cons (pe_ix ix_tup (pv 6) pe_int (λ _ _ => rfl)) pa_nil))))))))))), ?_⟩
  refine ⟨_, rfl, q, _, rfl, .inl (SqL.of hq), _, rfl, l, _, rfl, .inl (SqL.of hl), rfl, _, rfl, ite2 (λ h1 => ?_) (λ h1 => ?_)⟩
  ·rw [lenw, len, dec_int', Bool.not_eq_true', decide_eq_false_iff_not] at h1
   refine ⟨sz1, λ p hp => ?_⟩
   exact fin (wrong_len (λ z => h1 (by rw [z]))) (Same.refl H) hp
  rw [lenw, len, dec_int', Bool.not_eq_true', decide_eq_false_iff_not, Decidable.not_not] at h1
  have hlen : wss.length = s.length := by omega
  have plen : ∀ {i : Nat} {ps : List (Int × Int)}, wss[i]? = some ps -> ps.length <= 100000 := λ {i ps} e => by
   have := flat_mem_len (List.mem_of_getElem? e)
   omega
  refine ⟨_, rfl, q, _, rfl, SqL.of hq, for_enum (K := K) (a := q) (xs := ws.map V.ref) (λ i σ H' => ∃ v4 v5, σ = [some (.ref l), some (.ref u), some (.int (k : Nat)), some (.ref q), v4, v5, Option.none] /\ Same H H' /\ JoinsTo s k wss i)
   ⟨_, _, rfl, Same.refl _, λ j ps hj => absurd hj (Nat.not_lt_zero _)⟩ (λ i σ H' _ ⟨_, _, _, s2, _⟩ => SqL.of (s2 _ _ hq)) ?_ ?_⟩
  ·rintro i vx σ H' tt hx ⟨v4, v5, rfl, s2, hJ⟩ ht
   obtain ⟨a, ha, rfl⟩ := ref_of hx
   have hi : i < s.length := by
    have := (List.getElem?_eq_some_iff.mp ha).1
    omega
   have hw := List.getElem?_eq_getElem (show i < wss.length by omega)
   generalize wss[i] = ps at hw
   have s3 := same_new (o := .tup [.int (i : Int), .ref a]) ht
   have s23 := s2.trans s3
   refine ⟨tt, _, rfl, SqT.of upd_same, rfl, _, _, rfl, _, _, rfl, rfl, ?_⟩
   refine ⟨_, rfl, _, rfl, _, rfl, l, _, _, _, rfl, rfl, SqL.of (s23 _ _ hl), at_of (j := i) rfl (lo_at hi), sz1, λ p1 np1 => ?_⟩
   have s4 := same_new (o := .tup [.int (bAt s i), .int 0]) np1
   have s24 := s23.trans s4
   refine ⟨_, rfl, _, rfl, u, _, _, _, rfl, rfl, SqL.of (s24 _ _ hu), at_of (j := i) rfl (up_at hi), _, rfl, _, _, rfl, rfl, sz1, λ p2 np2 => ?_⟩
   have s5 := same_new (o := .tup [.int (aAt s i), .int ((k : Int) + 1)]) np2
   have s25 := s24.trans s5
   refine ⟨a, p1, p2, ps, bAt s i, aAt s i, (k : Int) + 1, rfl, (hwat i a ps ha hw).same s25, plen hw, s5 _ _ upd_same, upd_same, λ H6 s6 => ⟨_, rfl, ?_⟩⟩
   have s26 := s25.trans s6
   cases ej : joinsP (bAt s i) (aAt s i) ((k : Int) + 1) ps with
   | false =>
    refine iteT ⟨_, rfl, sz1, λ p hp => ?_⟩
    exact fin (wrong_join hlen hi hw ej hJ) s26 hp
   | true =>
    refine iteF ⟨_, _, rfl, s26, λ j qs hj hqs => ?_⟩
    by_cases e : j = i
    ·subst e
     rw [hw] at hqs
     cases hqs
     exact ej
    ·exact hJ j qs (by omega) hqs
  rintro σ H1 ⟨v4, v5, rfl, s1, hJ⟩
  rw [lenw, hlen] at hJ
  refine ⟨_, rfl, q, _, rfl, SqL.of (s1 _ _ hq), for_enum (K := K) (a := q) (xs := ws.map V.ref) (λ i σ H' => ∃ v4 v5, σ = [some (.ref l), some (.ref u), some (.int (k : Nat)), some (.ref q), v4, v5, Option.none] /\ Same H H' /\ TracksTo k wss i)
   ⟨_, _, rfl, s1, λ j ps hj => absurd hj (Nat.not_lt_zero _)⟩ (λ i σ H' _ ⟨_, _, _, s2, _⟩ => SqL.of (s2 _ _ hq)) ?_ ?_⟩
  ·rintro i vx σ H' tt hx ⟨v4, v5, rfl, s2, hT⟩ ht
   obtain ⟨a, ha, rfl⟩ := ref_of hx
   have hi : i < s.length := by
    have := (List.getElem?_eq_some_iff.mp ha).1
    omega
   have hw := List.getElem?_eq_getElem (show i < wss.length by omega)
   generalize wss[i] = ps at hw
   have s3 := same_new (o := .tup [.int (i : Int), .ref a]) ht
   have s23 := s2.trans s3
   refine ⟨tt, _, rfl, SqT.of upd_same, rfl, _, _, rfl, _, _, rfl, rfl, ?_⟩
   refine ⟨_, rfl, _, rfl, a, ps, (k : Int), rfl, (hwat i a ps ha hw).same s23, plen hw, λ H6 s6 => ⟨_, rfl, ?_⟩⟩
   have s26 := s23.trans s6
   cases ej : tracksP (k : Int) ps with
   | false =>
    refine iteT ⟨_, rfl, sz1, λ p hp => ?_⟩
    exact fin (wrong_track hlen hi hJ hw ej hT) s26 hp
   | true =>
    refine iteF ⟨_, _, rfl, s26, λ j qs hj hqs => ?_⟩
    by_cases e : j = i
    ·subst e
     rw [hw] at hqs
     cases hqs
     exact ej
    ·exact hT j qs (by omega) hqs
  rintro σ H2 ⟨v4, v5, rfl, s2, hT⟩
  rw [lenw, hlen] at hT
  have jj : ∀ ps ∈ wss, 2 <= ps.length /\ ∀ t ∈ nexts ps, (decide (t.1.1 = t.2.1) != decide (t.1.2 = t.2.2)) = true := λ ps hps => by
   obtain ⟨j, hj, e⟩ := List.getElem_of_mem hps
   exact joins_two (hJ j ps (by omega) (by rw [<- e]; exact List.getElem?_eq_getElem hj))
  refine ⟨_, rfl, q, wss, rfl, hTW0.same s2, hfl, by omega, λ ps hps => (jj ps hps).1, λ ps hps => (jj ps hps).2, λ H3 v o s3 hf hp => ⟨_, rfl, _, rfl, ?_⟩⟩
  have s03 := s2.trans s3
  have ew := wrong_pairs hlen hJ hT hf
  cases o with
  | none =>
   have ev : v = .non := hp
   subst ev
   refine iteT ⟨sz1, λ p np => ?_⟩
   exact fin ew s03 np
  | some pr =>
   obtain ⟨i, j⟩ := pr
   obtain ⟨t, rfl, ht⟩ := hp
   refine iteF ⟨_, rfl, t, _, _, _, rfl, rfl, SqT.of ht, at_of (j := 0) rfl rfl, _, rfl, t, _, _, _, rfl, rfl, SqT.of ht, at_of (j := 1) rfl rfl, sz1, λ p np => ?_⟩
   exact fin ew s03 np
def drawRow (row : List Int) : Hp -> List Addr -> Prop := λ H rs => ∃ r, rs = [r] /\ H r = some (.lst (row.map V.tok)) /\ row.length <= 10000
def spCheckC (C : Addr) : Sp := λ vs H Q E => ∃ (h : Int) (row : List Int), CallSp C [h] (drawRow row) (.check h row) vs H Q E
theorem wires_small : ∀ (f : Nat) (l : List Int) (ws : List (List Vbpcao.Pt)), Vbpcao.wiresOf f l = some ws -> 2 * (ws.map List.length).sum + ws.length <= l.length := by
 intro f
 induction f with
 | zero =>
  intro l ws h
  have h : (if l.isEmpty = true then some [] else Option.none) = some ws := h
  split at h
  ·cases h
   exact Nat.zero_le _
  ·cases h
 | succ f ih =>
  intro l ws h
  cases l with
  | nil => cases h; exact Nat.le_refl _
  | cons n r =>
   have hr : (n :: r)[0]? = some n := rfl
   have st := wires_step (f := f) hr
   rw [List.drop_zero] at st
   rw [st] at h
   split at h
   ·cases h
   ·rename_i good
    cases e : Vbpcao.wiresOf f ((n :: r).drop (0 + 1 + 2 * n.toNat)) with
    | none => rw [e] at h; cases h
    | some ws' =>
     rw [e] at h
     have h : ((cornersAt (n :: r) (0 + 1) n.toNat).map toPt :: ws') = ws := Option.some.inj h
     subst h
     have := ih _ _ e
     rw [List.length_drop] at this
     rw [List.map_cons, List.sum_cons, lnm, corners_len, lnc]
     omega
theorem sum_len {α β : Type} (f : α -> β) : ∀ ws : List (List α), (ws.map λ l => l.map f).flatten.length = (ws.map List.length).sum
 | [] => rfl
 | l :: r => by rw [List.map_cons, List.flatten_cons, lna, lnm, sum_len f r, List.map_cons, List.sum_cons]
theorem asW_of (ws : List (List Vbpcao.Pt)) : asW (ws.map λ l => l.map ofPt) = ws := by
 unfold asW
 rw [List.map_map]
 have : ((λ l : List (Int × Int) => l.map toPt) ∘ λ l : List Vbpcao.Pt => l.map ofPt) = id := by
  funext l
  exact to_of l
 rw [this, List.map_id]
theorem sc_check : FnScope ["desk", "given", "h", "wires"] ["desk", "given"] (defScope s_check) := ⟨rfl, rfl, rfl, by decide +kernel, rfl, by decide +kernel, by decide +kernel⟩
theorem ok_check {C : Addr} (D : Def K mg "check" s_check) (T : Txt mg) (TC : DeskC K C) (c_is_width : Cal P w K mg base "is_width" ["h"] 1 spWidth) (c_read_wires : Cal P w K mg base "read_wires" ["row"] 1 spRead) (c_what_is_wrong : Cal P w K mg base "what_is_wrong" ["lower", "upper", "h", "wires"] 3 spWrong) : Cal P w K mg base "check" ["desk", "given"] 4 (spCheckC C) := by
 refine D.cal sc_check (λ _ _ _ _ _ _ us hl => match us, hl with | [_, _], _ => rfl) (λ vs H Q E h => h.choose_spec.choose_spec.len) (λ f cdv A outer s H vs Q E hr h => ?_)
 obtain ⟨h, row, d, g, l, u, s, rs, rfl, DA, o, hg, _, _, ⟨r, rfl, hrow, hrl⟩, k⟩ := h
 obtain ⟨dx, hd⟩ := DA.obj
 refine ⟨_, (pss_cons (ps_set (i := 2) sc_check.nd rfl (.inl rfl) (pe_ix ix_list (pv 1) pe_int (λ _ _ => rfl)))
   (pss_cons (ps_if (pt_not (pt_val (pe_cal c_is_width (up hr) rfl (pa_cons (pv 2) pa_nil)))) (pss_one (ps_ret (pe_lst (pa_cons (pe_gint T.OUT_OF_RANGE rfl) pa_nil)))) pss_nil)
   (pss_cons (ps_set (i := 3) sc_check.nd rfl (.inl rfl) (pe_cal c_read_wires (up hr) rfl (pa_cons (pe_ix ix_list (pv 1) pe_int (λ _ _ => rfl)) pa_nil)))
   (pss_cons (ps_if (pt_cmp (pc_isN (pv 3))) (pss_one (ps_ret (pe_lst (pa_cons (pe_gint T.BAD_ROWS rfl) pa_nil)))) pss_nil)
   (pss_one (ps_ret (pe_cal c_what_is_wrong (up hr) rfl (pa_cons (pe_fld (pv 0) rfl) (pa_cons (pe_fld (pv 0) rfl) (pa_cons (pv 2) (pa_cons (pv 3) pa_nil))))))))))), ?_⟩
 refine ⟨_, rfl, g, _, _, _, rfl, rfl, SqL.of hg, at_of (j := 0) rfl rfl, _, rfl, h, rfl, _, rfl, ?_⟩
 cases e : Vbpcao.within h 0 1000 with
 | false =>
  refine iteT ⟨sz1, λ p hp => ?_⟩
  exact done1 DA k (check_no e) (Same.refl H) hp
 | true =>
  refine iteF ?_
  have eh := within_iff.mp e
  refine ⟨_, rfl, g, _, _, _, rfl, rfl, SqL.of hg, at_of (j := 1) rfl rfl, r, row, rfl, hrow, by omega, ?_⟩
  cases ew : Vbpcao.wiresOf (row.length + 1) row with
  | none =>
   intro H1 s1
   refine ⟨_, rfl, _, rfl, iteT ⟨sz1, λ p hp => ?_⟩⟩
   exact done1 DA k (check_bad e ew) s1 hp
  | some ws =>
   intro H1 q s1 hTW
   refine ⟨_, rfl, _, rfl, iteF ?_⟩
   have hsm := wires_small _ _ _ ew
   have DA1 := DA.same s1
   refine ⟨_, rfl, d, C, dx, _, _, rfl, s1 _ _ hd, TC.cl, TC.nLo, deskF_lo l u, _, rfl, d, C, dx, _, _, rfl, s1 _ _ hd, TC.cl, TC.nUp, deskF_up l u, _, rfl, _, rfl, l, u, q, s, h.toNat, _, by rw [show ((h.toNat : Nat) : Int) = h by omega]; rfl, DA1.lo, DA1.up, o.len, hTW, by rw [sum_len]; omega, λ H2 p s2 np hp => ?_⟩
   rw [asW_of] at hp
   exact done DA k (check_ok e ew) (s1.trans s2) (s1.free np) hp
def readF (c : Addr) (n : Nat) : List (Str × V) := putF "place" (.int (n : Nat)) (putF "calls" (.ref c) [])
theorem readF_calls (c : Addr) (n : Nat) : (readF c n).lookup ("calls" : Str) = some (.ref c) := by
 unfold readF
 rw [lookup_putF, lookup_putF]
 rfl
theorem readF_place (c : Addr) (n : Nat) : (readF c n).lookup ("place" : Str) = some (.int (n : Nat)) := by
 unfold readF
 rw [lookup_putF]
 rfl
theorem readF_len (c : Addr) (n : Nat) : (readF c n).length < 1000 := by show 2 < 1000; decide
structure ReadC (K : PySem.W.Frag) (C : Addr) : Prop where
 cl : Cls K C
 nC : NoAttr K C "calls"
 nP : NoAttr K C "place"
def reqV : List Int -> List V
 | [] => []
 | n :: r => .int n :: r.map V.tok
theorem reqV_len (L : List Int) : (reqV L).length = L.length := by
 cases L with
 | nil => rfl
 | cons n r => show (r.map V.tok).length + 1 = r.length + 1; rw [lnm]
theorem reqV_at {L : List Int} {i : Nat} {x : Int} (h : L[i]? = some x) : ∃ v, (reqV L)[i]? = some v /\ weakV v = .int x := by
 cases L with
 | nil => simp at h
 | cons n r =>
  cases i with
  | zero => cases h; exact ⟨_, rfl, rfl⟩
  | succ i =>
   rw [List.getElem?_cons_succ] at h
   refine ⟨.tok x, ?_, rfl⟩
   show (V.int n :: r.map V.tok)[i + 1]? = _
   rw [List.getElem?_cons_succ, gem, h]
   rfl
theorem reqV_drop (L : List Int) (i : Nat) : (reqV L).drop (i + 1) = (L.drop (i + 1)).map V.tok := by
 cases L with
 | nil => simp [reqV]
 | cons n r =>
  show (V.int n :: r.map V.tok).drop (i + 1) = _
  rw [List.drop_succ_cons, List.drop_succ_cons, List.map_drop]
theorem cut_row {xs : List V} {i j : Nat} (h1 : i <= j) (h2 : j <= xs.length) : cutV xs (some (i : Int)) (some (j : Int)) = (xs.drop i).take (j - i) := by
 unfold cutV
 rw [HT.sIx_nat, HT.sIx_nat, Nat.min_eq_left h2, Nat.min_eq_left (by omega)]
theorem rd_same {H H' : Hp} {a : Addr} {u : HO} (r : Rd H a u) (s : Same H H') : Rd H' a u := r.elim (λ h => .inl (s _ _ h)) λ ⟨o, h⟩ => .inr ⟨o, s _ _ h⟩
theorem rd_hole {H : Hp} {a r : Addr} {u : HO} (x : Rd H a u) (ne : a ≠ r) : Rd (hole H r) a u := by
 unfold Rd
 rw [hole_ne ne]
 exact x
theorem rd_ne_ins {H : Hp} {a r : Addr} {xs : List V} {C dx : Addr} {fs : List (Str × V)} (x : Rd H a (.lst xs)) (h : H r = some (.ins C dx fs)) : a ≠ r := by
 rintro rfl
 rcases x with e | ⟨o, e⟩
 ·rw [h] at e; cases e
 ·rw [h] at e; cases e
theorem hole_trans {H H1 H2 : Hp} {r : Addr} (s1 : Same (hole H r) H1) (s2 : Same (hole H1 r) H2) : Same (hole H r) H2 := (same_hole s1 hole_self).trans s2
theorem hole_upd {H H' : Hp} {r : Addr} {o : HO} (s : Same (hole H r) H') : Same (hole H r) (upd H' r o) := same_upd s hole_self
def spMore (CR : Addr) : Sp := λ vs H Q _ => ∃ (rd dx c : Addr) (place : Nat) (xs : List V), vs = [.ref rd] /\ H rd = some (.ins CR dx (readF c place)) /\ Rd H c (.lst xs) /\ Q (.bl (decide ((place : Int) < (xs.length : Int)))) H
theorem sc_Reader_has_more : FnScope ["self"] ["self"] (defScope s_Reader_has_more) := ⟨rfl, rfl, rfl, by decide +kernel, rfl, by decide +kernel, by decide +kernel⟩
theorem ok_has_more {CR : Addr} (D : MDef K CR "has_more" "Reader.has_more" s_Reader_has_more) (T : Txt mg) (R : ReadC K CR) : MCal P w K mg base CR "has_more" ["self"] 1 (spMore CR) := by
 refine D.cal sc_Reader_has_more (λ _ _ _ _ _ _ us hl => match us, hl with | [_], _ => rfl) (λ vs H Q E h => ?_) (λ f cdv A outer s H vs Q E hr h => ?_)
 ·obtain ⟨rd, dx, c, place, xs, rfl, _⟩ := h
  rfl
 ·obtain ⟨rd, dx, c, place, xs, rfl, hrd, hc, q⟩ := h
  refine ⟨_, (pss_one (ps_ret (pe_cmpR op_lt (pe_fld (pv 0) rfl) (pe_callB call_len_seq (by rfl) T.len PySem.boot_len (pa_cons (pe_fld (pv 0) rfl) pa_nil)) (nomark _)))), ?_⟩
  exact ⟨_, rfl, rd, CR, dx, _, _, rfl, hrd, R.cl, R.nP, readF_place c place, _, rfl, rd, CR, dx, _, _, rfl, hrd, R.cl, R.nC, readF_calls c place, c, _, rfl, .inl (.inl hc), _, _, rfl, rfl, q⟩
def spNum (CR : Addr) : Sp := λ vs H Q _ => ∃ (rd dx c : Addr) (place : Nat) (xs : List V) (v : V) (x : Int), vs = [.ref rd] /\ H rd = some (.ins CR dx (readF c place)) /\ Rd H c (.lst xs) /\ xs[place]? = some v /\ weakV v = .int x /\
 ∀ H', Same (hole H rd) H' -> H' rd = some (.ins CR dx (readF c (place + 1))) -> Q (.int x) H'
theorem sc_Reader_read_number : FnScope ["self", "number"] ["self"] (defScope s_Reader_read_number) := ⟨rfl, rfl, rfl, by decide +kernel, rfl, by decide +kernel, by decide +kernel⟩
theorem ok_read_number {CR : Addr} (D : MDef K CR "read_number" "Reader.read_number" s_Reader_read_number) (T : Txt mg) (R : ReadC K CR) : MCal P w K mg base CR "read_number" ["self"] 1 (spNum CR) := by
 refine D.cal sc_Reader_read_number (λ _ _ _ _ _ _ us hl => match us, hl with | [_], _ => rfl) (λ vs H Q E h => ?_) (λ f cdv A outer s H vs Q E hr h => ?_)
 ·obtain ⟨rd, dx, c, place, xs, v, x, rfl, _⟩ := h
  rfl
 ·obtain ⟨rd, dx, c, place, xs, v, x, rfl, hrd, hc, hv, hx, q⟩ := h
  refine ⟨_, (pss_cons (ps_set (i := 1) sc_Reader_read_number.nd rfl (.inl rfl) (pe_weak (pe_ix ix_list (pe_fld (pv 0) rfl) (pe_fld (pv 0) rfl) (λ _ _ => rfl))))
   (pss_cons (ps_fldaug (pv 0) pe_int in_add)
   (pss_one (ps_ret (pv 1))))), ?_⟩
  refine ⟨_, rfl, rd, CR, dx, _, _, rfl, hrd, R.cl, R.nC, readF_calls c place, _, rfl, rd, CR, dx, _, _, rfl, hrd, R.cl, R.nP, readF_place c place, c, _, _, _, rfl, rfl, .inl hc, at_of (j := place) rfl hv, ?_⟩
  dsimp only
  rw [hx]
  refine ⟨_, rfl, rd, CR, dx, _, _, rfl, hrd, R.cl, R.nP, readF_place c place, _, _, rfl, rfl, dx, _, hrd, readF_len c place, _, rfl, ?_⟩
  exact q _ (hole_upd hole_same) (by rw [upd_same]; rfl)
def spRow (CR : Addr) : Sp := λ vs H Q _ => ∃ (rd dx c : Addr) (place m : Nat) (L r : List Int), vs = [.ref rd] /\ H rd = some (.ins CR dx (readF c place)) /\ Rd H c (.lst (reqV L)) /\ L.drop place = (m : Int) :: r /\ m <= r.length /\
 ∀ (H' : Hp) (a : Addr), Same (hole H rd) H' -> H' rd = some (.ins CR dx (readF c (place + 1 + m))) -> H a = Option.none -> H' a = some (.lst ((r.take m).map V.tok)) -> Q (.ref a) H'
theorem drop_one {α : Type} {L : List α} {i : Nat} {x : α} {r : List α} (h : L.drop i = x :: r) : L[i]? = some x /\ L.drop (i + 1) = r /\ L.length = i + 1 + r.length := by
 have h1 : L.drop (i + 1) = r := by rw [<- List.drop_drop, h]; rfl
 refine ⟨?_, h1, ?_⟩
 ·have := congrArg (λ l => l[0]?) h
  simpa using this
 ·have := congrArg List.length h
  rw [List.length_drop, lnc] at this
  omega
theorem sc_Reader_read_row : FnScope ["self", "size", "row"] ["self"] (defScope s_Reader_read_row) := ⟨rfl, rfl, rfl, by decide +kernel, rfl, by decide +kernel, by decide +kernel⟩
theorem ok_read_row {CR : Addr} (D : MDef K CR "read_row" "Reader.read_row" s_Reader_read_row) (T : Txt mg) (R : ReadC K CR) (c_read_number : MCal P w K mg base CR "read_number" ["self"] 1 (spNum CR)) : MCal P w K mg base CR "read_row" ["self"] 2 (spRow CR) := by
 refine D.cal sc_Reader_read_row (λ _ _ _ _ _ _ us hl => match us, hl with | [_], _ => rfl) (λ vs H Q E h => ?_) (λ f cdv A outer s H vs Q E hr h => ?_)
 ·obtain ⟨rd, dx, c, place, m, L, r, rfl, _⟩ := h
  rfl
 ·obtain ⟨rd, dx, c, place, m, L, r, rfl, hrd, hc, hL, hm, q⟩ := h
  have cR := R.cl
  obtain ⟨hx, hdr, hlen⟩ := drop_one hL
  obtain ⟨v, hv, hw⟩ := reqV_at hx
  have ncr := rd_ne_ins hc hrd
  refine ⟨_, (pss_cons (ps_set (i := 1) sc_Reader_read_row.nd rfl (.inl rfl) (pe_met0 c_read_number cR (up hr) (pv 0)))
   (pss_cons (ps_set (i := 2) sc_Reader_read_row.nd rfl (.inl rfl) (pe_slice sl_list (pe_fld (pv 0) rfl) (po_some (pe_fld (pv 0) rfl)) (po_some (pe_op op_add (pe_fld (pv 0) rfl) (pv 1)))))
   (pss_cons (ps_fldaug (pv 0) (pv 1) in_add)
   (pss_one (ps_ret (pv 2)))))), ?_⟩
  refine ⟨_, rfl, rd, dx, _, rfl, hrd, rfl, rd, dx, c, place, _, v, _, rfl, hrd, hc, hv, hw, λ H1 s1 h1 => ?_⟩
  have hc1 : Rd H1 c (.lst (reqV L)) := rd_same (rd_hole hc ncr) s1
  refine ⟨_, rfl, rd, CR, dx, _, _, rfl, h1, R.cl, R.nC, readF_calls c _, _, rfl, rd, CR, dx, _, _, rfl, h1, R.cl, R.nP, readF_place c _, _, rfl, _, rfl, rd, CR, dx, _, _, rfl, h1, R.cl, R.nP, readF_place c _, _, rfl, _, _, rfl, rfl, _, rfl, c, _, rfl, .inl hc1, λ a na => ?_⟩
  have ec : cutV (reqV L) (some ((place + 1 : Nat) : Int)) (some (((place + 1 : Nat) : Int) + (m : Int))) = (r.take m).map V.tok := by
   rw [show ((place + 1 : Nat) : Int) + (m : Int) = ((place + 1 + m : Nat) : Int) by omega, cut_row (by omega) (by rw [reqV_len]; omega), reqV_drop, hdr, List.map_take, show place + 1 + m - (place + 1) = m by omega]
  rw [ec]
  have s2 := same_new (o := .lst ((r.take m).map V.tok)) na
  have h2 := s2 _ _ h1
  have nar : a ≠ rd := λ e => by rw [e, h1] at na; cases na
  refine ⟨_, rfl, rd, CR, dx, _, _, rfl, h2, R.cl, R.nP, readF_place c _, _, rfl, _, _, rfl, rfl, dx, _, h2, readF_len c _, _, rfl, ?_⟩
  refine q _ a (hole_upd (s1.trans s2)) (by rw [upd_same]; rfl) ?_ (by rw [upd_ne nar, upd_same])
  have := s1.free na
  rw [hole_ne nar] at this
  exact this
def spDesk0 (C : Addr) : Sp := λ vs H Q _ => ∃ x dx, vs = [.ref x] /\ H x = some (.ins C dx []) /\ ∀ (H' : Hp) (l u : Addr), Same (hole H x) H' -> H l = Option.none -> H u = Option.none -> DeskAt C H' x l u Vbpcao.start -> Q .non H'
theorem sc_Desk___init__ : FnScope ["self"] ["self"] (defScope s_Desk___init__) := ⟨rfl, rfl, rfl, by decide +kernel, rfl, by decide +kernel, by decide +kernel⟩
theorem ok_Desk {C : Addr} (D : IDef K C "Desk.__init__" s_Desk___init__) (TC : DeskC K C) : ICal P w K mg base C ["self"] 1 (spDesk0 C) := by
 refine D.cal sc_Desk___init__ (λ _ _ _ _ _ _ us hl => match us, hl with | [_], _ => rfl) (λ vs H Q E h => ?_) (λ f cdv A outer s H vs Q E hr h => ?_)
 ·obtain ⟨x, dx, rfl, _⟩ := h
  rfl
 ·obtain ⟨x, dx, rfl, hx, q⟩ := h
  refine ⟨_, (pss_cons (ps_fld (pv 0) (pe_lst pa_nil) rfl)
   (pss_one (ps_fld (pv 0) (pe_lst pa_nil) rfl))), ?_⟩
  refine ⟨Nat.zero_le _, λ l nl => ?_⟩
  have nlx : l ≠ x := λ e => by rw [e, hx] at nl; cases nl
  refine ⟨_, rfl, x, C, dx, _, rfl, by rw [upd_ne (Ne.symm nlx)]; exact hx, TC.cl, TC.nLo, by decide, ?_⟩
  refine ⟨Nat.zero_le _, λ u nu => ?_⟩
  have nux : u ≠ x := λ e => by rw [e, upd_same] at nu; cases nu
  rw [upd_ne nux] at nu
  have nul : u ≠ l := λ e => by rw [e, upd_same] at nu; cases nu
  rw [upd_ne nul] at nu
  refine ⟨_, rfl, x, C, dx, _, rfl, by rw [upd_ne (Ne.symm nux), upd_same], TC.cl, TC.nUp, by show 1 < 1000; decide, ?_⟩
  refine q _ l u (hole_upd (same_upd (hole_upd (same_upd hole_same (hole_free nl))) (hole_free nu))) nl nu ⟨⟨dx, by rw [upd_same]; rfl⟩, ?_, ?_, Ne.symm nul⟩
  ·unfold LI
   rw [upd_ne nlx, upd_ne (Ne.symm nul), upd_ne nlx, upd_same]
   rfl
  ·unfold LI
   rw [upd_ne nux, upd_same]
   rfl
def spRead0 (CR : Addr) : Sp := λ vs H Q _ => ∃ x dx c, vs = [.ref x, .ref c] /\ H x = some (.ins CR dx []) /\ ∀ H', Same (hole H x) H' -> H' x = some (.ins CR dx (readF c 0)) -> Q .non H'
theorem sc_Reader___init__ : FnScope ["self", "calls"] ["self", "calls"] (defScope s_Reader___init__) := ⟨rfl, rfl, rfl, by decide +kernel, rfl, by decide +kernel, by decide +kernel⟩
theorem ok_Reader {CR : Addr} (D : IDef K CR "Reader.__init__" s_Reader___init__) (R : ReadC K CR) : ICal P w K mg base CR ["self", "calls"] 1 (spRead0 CR) := by
 refine D.cal sc_Reader___init__ (λ _ _ _ _ _ _ us hl => match us, hl with | [_, _], _ => rfl) (λ vs H Q E h => ?_) (λ f cdv A outer s H vs Q E hr h => ?_)
 ·obtain ⟨x, dx, c, rfl, _⟩ := h
  rfl
 ·obtain ⟨x, dx, c, rfl, hx, q⟩ := h
  refine ⟨_, (pss_cons (ps_fld (pv 0) (pv 1) rfl)
   (pss_one (ps_fld (pv 0) pe_int rfl))), ?_⟩
  refine ⟨_, rfl, _, rfl, x, CR, dx, _, rfl, hx, R.cl, R.nC, by decide, ?_⟩
  refine ⟨_, rfl, x, CR, dx, _, rfl, upd_same, R.cl, R.nP, by show 1 < 1000; decide, ?_⟩
  exact q _ (hole_upd (hole_upd hole_same)) (by rw [upd_same]; rfl)
structure AfterR (C : Addr) (H : Hp) (d l u : Addr) (F : Addr -> Prop) (s' : State) (H' : Hp) (l' u' : Addr) : Prop where
 desk : DeskAt C H' d l' u' s'
 keep : ∀ b o, H b = some o -> b ≠ d -> b ≠ l -> b ≠ u -> ¬ F b -> H' b = some o
 nl : l' = l ∨ l' = u ∨ H l' = Option.none ∨ F l'
 nu : u' = l ∨ u' = u ∨ H u' = Option.none ∨ F u'
def RowsAt (H : Hp) (rs : List Addr) (rows : List (List Int)) : Prop := rs.length = rows.length /\ ∀ (j : Nat) (a : Addr) (row : List Int), rs[j]? = some a -> rows[j]? = some row -> H a = some (.lst (row.map V.tok))
def Carry (P : Program) (w : World) (K : PySem.W.Frag) (mg : Str -> Option Value) (base : Heap) (C : Addr) (x : Str) (p : Int) (n k : Nat) : Prop :=
 ∃ f fd ps sp, mg x = some (.ref f) /\ PySem.W.keepIn K (.ref f) = true /\ Binds K fd ps [] /\ FnOk P w K mg base CX0 5 f fd ps sp /\
  ∀ (nums : List Int) (rows : List (List Int)) (d g l u : Addr) (s : State) (rs : List Addr) (H : Hp) (Q : VK), nums.length = n -> rows.length = k -> VbpcaoNeutral.asked1 ((p :: nums) :: rows) = true -> DeskAt C H d l u s -> Ok s -> H g = some (.lst (nums.map V.int ++ rs.map V.ref)) -> g ≠ l -> g ≠ u -> rs.Nodup ->
   (∀ a ∈ rs, a ≠ l /\ a ≠ u /\ a ≠ g /\ a ≠ d) -> RowsAt H rs rows ->
   (∀ (H' : Hp) (a l' u' : Addr), AfterR C H d l u (λ b => b ∈ rs) (VbpcaoNeutral.step s ((p :: nums) :: rows)).1 H' l' u' -> H a = Option.none -> LI H' a (VbpcaoNeutral.step s ((p :: nums) :: rows)).2 -> Q (.ref a) H') ->
   ∃ H', WeakTo H H' /\ sp [.ref d, .ref g] H' Q E0
theorem carry_of {C : Addr} {x : Str} {kk : Nat} {sp : Sp} {p : Int} {n k : Nat} (c : Cal P w K mg base x ["desk", "given"] kk sp) (hk : kk <= 5)
  (hs : ∀ (nums : List Int) (rows : List (List Int)), nums.length = n -> rows.length = k -> VbpcaoNeutral.asked1 ((p :: nums) :: rows) = true -> ∃ (cc : Vbpcao.Call) (rP : Hp -> List Addr -> Prop), (∀ s, VbpcaoNeutral.step s ((p :: nums) :: rows) = Vbpcao.step s cc) /\
   (∀ vs H Q E, CallSp C nums rP cc vs H Q E -> sp vs H Q E) /\ ∀ (H : Hp) (rs : List Addr), rs.Nodup -> RowsAt H rs rows -> ∃ H', WeakTo H H' /\ (∀ b, b ∉ rs -> H' b = H b) /\ (∀ b, H' b = Option.none -> H b = Option.none) /\ rP H' rs) :
  Carry P w K mg base C x p n k := by
 obtain ⟨f, fd, h1, h2, h3, F⟩ := c.mono hk
 refine ⟨f, fd, _, sp, h1, h2, h3, F, λ nums rows d g l u s rs H Q hn hrl ha DA o hg ngl ngu nd hrs hR q => ?_⟩
 obtain ⟨cc, rP, e1, e2, e3⟩ := hs nums rows hn hrl ha
 obtain ⟨H', wk, k1, k2, k3⟩ := e3 H rs nd hR
 refine ⟨H', wk, e2 _ _ _ _ ?_⟩
 have nin : ∀ b, (b = l ∨ b = u ∨ b = g ∨ b = d) -> b ∉ rs := λ b hb z => by
  obtain ⟨z1, z2, z3, z4⟩ := hrs b z
  rcases hb with e | e | e | e
  ·exact z1 e
  ·exact z2 e
  ·exact z3 e
  ·exact z4 e
 have DA' : DeskAt C H' d l u s := by
  obtain ⟨dx, hd⟩ := DA.obj
  exact ⟨⟨dx, by rw [k1 d (nin d (.inr (.inr (.inr rfl))))]; exact hd⟩, by unfold LI; rw [k1 l (nin l (.inl rfl))]; exact DA.lo, by unfold LI; rw [k1 u (nin u (.inr (.inl rfl)))]; exact DA.up, DA.ne⟩
 refine ⟨d, g, l, u, s, rs, rfl, DA', o, by rw [k1 g (nin g (.inr (.inr (.inl rfl))))]; exact hg, ngl, ngu, k3, λ H2 a l' u' af na hL => ?_⟩
 rw [<- e1] at af hL
 exact q H2 a l' u' ⟨af.desk, λ b o' hb z1 z2 z3 z4 => af.keep b o' (by rw [k1 b z4]; exact hb) z1 z2 z3, af.nl.elim .inl λ z => .inr (z.elim .inl λ z => .inr (z.elim (λ z => .inl (k2 _ z)) .inr)), af.nu.elim .inl λ z => .inr (z.elim .inl λ z => .inr (z.elim (λ z => .inl (k2 _ z)) .inr))⟩ (k2 _ na) hL
theorem no_rows {H : Hp} {rs : List Addr} (h : RowsAt H rs []) : ∃ H', WeakTo H H' /\ (∀ b, b ∉ rs -> H' b = H b) /\ (∀ b, H' b = Option.none -> H b = Option.none) /\ noRows H' rs :=
 ⟨H, .refl H, λ _ _ => rfl, λ _ z => z, List.eq_nil_of_length_eq_zero h.1⟩
theorem carry_pins {C : Addr} (c : Cal P w K mg base "pins" ["desk", "given"] 3 (spPinsC C)) : Carry P w K mg base C "pins" 0 0 2 := carry_of c (by decide) λ nums rows h1 h2 ha => match nums, rows, h1, h2, ha with
 | [], [bs, as], _, _, ha => ⟨.pins bs as, pinRows bs as, λ _ => rfl, λ vs H Q E h => ⟨bs, as, h⟩, λ H rs nd hR => by
  have ha : ((bs.all (λ z => VbpcaoNeutral.whole32 z) && decide (bs.length <= 10000)) && (as.all (λ z => VbpcaoNeutral.whole32 z) && decide (as.length <= 10000))) = true := ha
  rw [Bool.and_eq_true, Bool.and_eq_true, Bool.and_eq_true, dte, dte] at ha
  obtain ⟨hl, hR⟩ := hR
  match rs, hl, nd with
  | [r1, r2], _, nd =>
   have ne : r1 ≠ r2 := λ e => by
    have := (List.nodup_cons.mp nd).1
    exact this (by rw [e]; exact List.mem_singleton.mpr rfl)
   have h1 := hR 0 r1 bs rfl rfl
   have h2 := hR 1 r2 as rfl rfl
   have h2' : upd H r1 (.lst (bs.map V.int)) r2 = some (.lst (as.map V.tok)) := by rw [upd_ne (Ne.symm ne)]; exact h2
   refine ⟨_, .step (.step (.refl H) h1) h2', λ b hb => ?_, λ b hb => ?_, r1, r2, rfl, ne, ?_, upd_same, ha.1.2, ha.2.2⟩
   ·rw [upd_ne (λ e => hb (by rw [e]; simp)), upd_ne (λ e => hb (by rw [e]; simp))]
   ·by_cases e2 : b = r2
    ·rw [e2, upd_same] at hb; cases hb
    ·rw [upd_ne e2] at hb
     by_cases e1 : b = r1
     ·rw [e1, upd_same] at hb; cases hb
     ·rw [upd_ne e1] at hb; exact hb
   ·unfold LI
    rw [upd_ne ne, upd_same]⟩
theorem carry_check {C : Addr} (c : Cal P w K mg base "check" ["desk", "given"] 4 (spCheckC C)) : Carry P w K mg base C "check" 14 1 1 := carry_of c (by decide) λ nums rows h1 h2 ha => match nums, rows, h1, h2, ha with
 | [h], [row], _, _, ha => ⟨.check h row, drawRow row, λ _ => rfl, λ vs H Q E z => ⟨h, row, z⟩, λ H rs nd hR => by
  have ha : (VbpcaoNeutral.whole32 h && (row.all (λ z => VbpcaoNeutral.whole32 z) && decide (row.length <= 10000))) = true := ha
  rw [Bool.and_eq_true, Bool.and_eq_true, dte] at ha
  obtain ⟨hl, hR⟩ := hR
  match rs, hl with
  | [r1], _ => exact ⟨H, .refl H, λ _ _ => rfl, λ _ z => z, r1, rfl, hR 0 r1 row rfl rfl, ha.2.2⟩⟩
theorem carry0 {C : Addr} {x : Str} {kk : Nat} {sp : Sp} {p : Int} {cc : Vbpcao.Call} (c : Cal P w K mg base x ["desk", "given"] kk sp) (hk : kk <= 5) (he : ∀ s, VbpcaoNeutral.step s [[p]] = Vbpcao.step s cc) (hs : ∀ vs H Q E, CallSp C [] noRows cc vs H Q E -> sp vs H Q E) : Carry P w K mg base C x p 0 0 :=
 carry_of c hk λ nums rows h1 h2 _ => match nums, rows, h1, h2 with
 | [], [], _, _ => ⟨cc, noRows, he, hs, λ H rs _ hR => no_rows hR⟩
theorem carry1 {C : Addr} {x : Str} {kk : Nat} {sp : Sp} {p : Int} {cc : Int -> Vbpcao.Call} (c : Cal P w K mg base x ["desk", "given"] kk sp) (hk : kk <= 5) (he : ∀ s a, VbpcaoNeutral.step s [[p, a]] = Vbpcao.step s (cc a)) (hs : ∀ a vs H Q E, CallSp C [a] noRows (cc a) vs H Q E -> sp vs H Q E) : Carry P w K mg base C x p 1 0 :=
 carry_of c hk λ nums rows h1 h2 _ => match nums, rows, h1, h2 with
 | [a], [], _, _ => ⟨cc a, noRows, λ s => he s a, hs a, λ H rs _ hR => no_rows hR⟩
theorem carry2 {C : Addr} {x : Str} {kk : Nat} {sp : Sp} {p : Int} {cc : Int -> Int -> Vbpcao.Call} (c : Cal P w K mg base x ["desk", "given"] kk sp) (hk : kk <= 5) (he : ∀ s a b, VbpcaoNeutral.step s [[p, a, b]] = Vbpcao.step s (cc a b)) (hs : ∀ a b vs H Q E, CallSp C [a, b] noRows (cc a b) vs H Q E -> sp vs H Q E) : Carry P w K mg base C x p 2 0 :=
 carry_of c hk λ nums rows h1 h2 _ => match nums, rows, h1, h2 with
 | [a, b], [], _, _ => ⟨cc a b, noRows, λ s => he s a b, hs a b, λ H rs _ hR => no_rows hR⟩
theorem carry3 {C : Addr} {x : Str} {kk : Nat} {sp : Sp} {p : Int} {cc : Int -> Int -> Int -> Vbpcao.Call} (c : Cal P w K mg base x ["desk", "given"] kk sp) (hk : kk <= 5) (he : ∀ s a b d, VbpcaoNeutral.step s [[p, a, b, d]] = Vbpcao.step s (cc a b d)) (hs : ∀ a b d vs H Q E, CallSp C [a, b, d] noRows (cc a b d) vs H Q E -> sp vs H Q E) : Carry P w K mg base C x p 3 0 :=
 carry_of c hk λ nums rows h1 h2 _ => match nums, rows, h1, h2 with
 | [a, b, d], [], _, _ => ⟨cc a b d, noRows, λ s => he s a b d, hs a b d, λ H rs _ hR => no_rows hR⟩
def Entry (P : Program) (w : World) (K : PySem.W.Frag) (mg : Str -> Option Value) (base : Heap) (C : Addr) (tb : List (Int × Addr)) (p : Int) (n k : Nat) : Prop :=
 ∃ (x : Str) (tp f : Addr), (p, tp) ∈ tb /\ mg x = some (.ref f) /\ (∀ H, SqT K H tp [.ref f, .int (n : Nat), .int (k : Nat)]) /\ Carry P w K mg base C x p n k
def Table (P : Program) (w : World) (K : PySem.W.Frag) (mg : Str -> Option Value) (base : Heap) (C Dc : Addr) : Prop :=
 ∃ tb, KDict K Dc tb /\ ∀ p n k, PyVbpcao.shape p = some (n, k) -> Entry P w K mg base C tb p n k
structure AfterA (C CR : Addr) (H : Hp) (d l u rd dx c : Addr) (place' : Nat) (s' : State) (H' : Hp) (l' u' : Addr) : Prop where
 desk : DeskAt C H' d l' u' s'
 keep : ∀ b o, H b = some o -> b ≠ d -> b ≠ l -> b ≠ u -> b ≠ rd -> H' b = some o
 rd : H' rd = some (.ins CR dx (readF c place'))
 nl : l' = l ∨ l' = u ∨ H l' = Option.none
 nu : u' = l ∨ u' = u ∨ H u' = Option.none
def spAns (C CR : Addr) : Sp := λ vs H Q _ => ∃ (d rd dx c l u : Addr) (s : State) (place : Nat) (L : List Int) (p : Int) (r : List Int) (n k : Nat) (xs : List (List Int)) (t : List Int), vs = [.ref d, .ref rd] /\ DeskAt C H d l u s /\ Ok s /\ H rd = some (.ins CR dx (readF c place)) /\ d ≠ rd /\ Rd H c (.lst (reqV L)) /\ c ≠ l /\ c ≠ u /\ L.length <= 31000 /\
 L.drop place = p :: r /\ PyVbpcao.shape p = some (n, k) /\ n <= r.length /\ PyFlat.rows k (r.drop n) = some (xs, t) /\ VbpcaoNeutral.asked1 ((p :: r.take n) :: xs) = true /\
 ∀ (H' : Hp) (a l' u' : Addr) (place' : Nat), L.drop place' = t -> AfterA C CR H d l u rd dx c place' (VbpcaoNeutral.step s ((p :: r.take n) :: xs)).1 H' l' u' -> H a = Option.none -> LI H' a (VbpcaoNeutral.step s ((p :: r.take n) :: xs)).2 -> Q (.ref a) H'
theorem drop_more {L : List Int} {i j : Nat} {r : List Int} (h : L.drop i = r) : L.drop (i + j) = r.drop j := by rw [<- h, List.drop_drop]
theorem shape_small {p : Int} {n k : Nat} (h : PyVbpcao.shape p = some (n, k)) : n <= 3 /\ k <= 2 :=
 shape_elim (M := λ _ n k => n <= 3 /\ k <= 2) ⟨by decide, by decide⟩ ⟨by decide, by decide⟩ ⟨by decide, by decide⟩ ⟨by decide, by decide⟩ ⟨by decide, by decide⟩ ⟨by decide, by decide⟩ ⟨by decide, by decide⟩ ⟨by decide, by decide⟩ ⟨by decide, by decide⟩ ⟨by decide, by decide⟩ ⟨by decide, by decide⟩ ⟨by decide, by decide⟩ ⟨by decide, by decide⟩ ⟨by decide, by decide⟩ ⟨by decide, by decide⟩ ⟨by decide, by decide⟩ ⟨by decide, by decide⟩ ⟨by decide, by decide⟩ ⟨by decide, by decide⟩ h
theorem sc_answer_call : FnScope ["desk", "reader", "call", "given", "k", "carry_out"] ["desk", "reader"] (defScope s_answer_call) := ⟨rfl, rfl, rfl, by decide +kernel, rfl, by decide +kernel, by decide +kernel⟩
theorem ok_answer_call {C CR Dc : Addr} (D : Def K mg "answer_call" s_answer_call) (T : Txt mg) (R : ReadC K CR) (hCALLS : mg "CALLS" = some (.ref Dc)) (tab : Table P w K mg base C Dc) (c_read_number : MCal P w K mg base CR "read_number" ["self"] 1 (spNum CR)) (c_read_row : MCal P w K mg base CR "read_row" ["self"] 2 (spRow CR)) : Cal P w K mg base "answer_call" ["desk", "reader"] 6 (spAns C CR) := by
 refine D.cal sc_answer_call (λ _ _ _ _ _ _ us hl => match us, hl with | [_, _], _ => rfl) (λ vs H Q E h => ?_) (λ f cdv A outer s H vs Q E hr h => ?_)
 ·obtain ⟨d, rd, dx, c, l, u, s, place, L, p, r, n, k, xs, t, rfl, _⟩ := h
  rfl
 obtain ⟨d, rd, dx, c, l, u, s, place, L, p, r, n, k, xs, t, rfl, DA, o, hrd, ndr, hc, ncl, ncu, hLl, hL, hsh, hn, hrows, hask, q⟩ := h
 have cR := R.cl
 obtain ⟨dxd, hd⟩ := DA.obj
 obtain ⟨tb, kd, ent⟩ := tab
 obtain ⟨x, tp, f', hmem, hmx, hsq, car⟩ := ent p n k hsh
 obtain ⟨fc, fd, ps, sp, hmx2, hkp, hbd, hok, hcar⟩ := car
 have ef : f' = fc := by
  rw [hmx] at hmx2
  injection (Option.some.inj hmx2)
 subst ef
 obtain ⟨hn3, hk2⟩ := shape_small hsh
 obtain ⟨hx0, hdr0, hlen0⟩ := drop_one hL
 obtain ⟨v0, hv0, hw0⟩ := reqV_at hx0
 have ncr := rd_ne_ins hc hrd
 have nlr : l ≠ rd := λ e => by have := DA.lo; unfold LI at this; rw [e, hrd] at this; cases this
 have nur : u ≠ rd := λ e => by have := DA.up; unfold LI at this; rw [e, hrd] at this; cases this
 refine ⟨_, (pss_cons (ps_set (i := 2) sc_answer_call.nd rfl (.inl rfl) (pe_kget (pe_gref hCALLS rfl) (pe_met0 c_read_number cR (up hr) (pv 1)) (λ _ _ => rfl)))
   (pss_cons (ps_set (i := 3) sc_answer_call.nd rfl (.inl rfl) (pe_lst pa_nil))
   (pss_cons (ps_for PassesOwn.never rfl (pi_range1 rfl T.range (pa_cons (pe_ix ix_tup (pv 2) pe_int (λ _ _ => rfl)) pa_nil)) (pg_name (i := 4) sc_answer_call.nd rfl (.inl rfl)) (pss_one (ps_expr (pe_bm PySem.F.plainAttrs_list PySem.F.slot_list_append PySem.F.type_list_append mt_append (pv 3) (pa_cons (pe_met0 c_read_number cR (up hr) (pv 1)) pa_nil)))))
   (pss_cons (ps_for PassesOwn.never rfl (pi_range1 rfl T.range (pa_cons (pe_ix ix_tup (pv 2) pe_int (λ _ _ => rfl)) pa_nil)) (pg_name (i := 4) sc_answer_call.nd rfl (.inl rfl)) (pss_one (ps_expr (pe_bm PySem.F.plainAttrs_list PySem.F.slot_list_append PySem.F.type_list_append mt_append (pv 3) (pa_cons (pe_met0 c_read_row cR (up hr) (pv 1)) pa_nil)))))
   (pss_cons (ps_set (i := 5) sc_answer_call.nd rfl (.inl rfl) (pe_ix ix_tup (pv 2) pe_int (λ _ _ => rfl)))
   (pss_one (ps_ret (pe_weakH (pe_callV (pv 5) (pa_cons (pv 0) (pa_cons (pv 3) pa_nil))))))))))), ?_⟩
 refine ⟨_, rfl, rd, dx, _, rfl, hrd, rfl, rd, dx, c, place, _, v0, p, rfl, hrd, hc, hv0, hw0, λ H1 s1 h1 => ⟨Dc, tb, p, tp, rfl, kd, rfl, hmem, ?_⟩⟩
 refine ⟨Nat.zero_le _, λ g ng => ?_⟩
 have s2 := same_new (o := .lst []) ng
 have hgH : hole H rd g = Option.none := s1.free ng
 have ngr : g ≠ rd := λ e => by rw [e, h1] at ng; cases ng
 have ngH : H g = Option.none := by rw [hole_ne ngr] at hgH; exact hgH
 have inH : ∀ {b : Addr} {ob : HO} {H' : Hp}, b ≠ rd -> H b = some ob -> Same (hole H rd) H' -> H' b = some ob := λ {b ob H'} nb e s' => s' _ _ (by rw [hole_ne nb]; exact e)
 have hcA : ∀ {H' : Hp}, Same (hole H rd) H' -> Rd H' c (.lst (reqV L)) := λ {H'} s' => rd_same (rd_hole hc ncr) s'
 refine ⟨_, rfl, tp, _, _, _, rfl, rfl, hsq _, at_of (j := 1) rfl rfl, (n : Int), rfl, by omega, by omega, for_range (λ i σ H' => ∃ v4, σ = [some (.ref d), some (.ref rd), some (.ref tp), some (.ref g), v4, Option.none] /\ Same (hole H rd) H' /\ H' rd = some (.ins CR dx (readF c (place + 1 + i))) /\ LI H' g (r.take i))
  ⟨_, rfl, s1.trans s2, s2 _ _ h1, upd_same⟩ ?_ ?_⟩
 ·rintro i σ H2 hi ⟨v4, rfl, s3, h3, hg3⟩
  rw [Int.toNat_natCast] at hi
  have hxi : L[place + 1 + i]? = some (r.getD i 0) := by
   have : (L.drop (place + 1))[i]? = some (r.getD i 0) := by rw [hdr0]; exact getD_at (by omega)
   rw [List.getElem?_drop] at this
   exact this
  obtain ⟨vi, hvi, hwi⟩ := reqV_at hxi
  refine ⟨_, rfl, .inl ⟨rfl, _, SqL.of hg3⟩, _, rfl, rd, dx, _, rfl, h3, rfl, rd, dx, c, place + 1 + i, _, vi, _, rfl, h3, hcA s3, hvi, hwi, λ H4 s4 h4 => ?_⟩
  have s34 := hole_trans s3 s4
  have hg4 : LI H4 g (r.take i) := s4 _ _ (by rw [hole_ne ngr]; exact hg3)
  refine ⟨g, _, _, rfl, rfl, hg4, by rw [lnm, lnt, sizeLine_eq]; omega, _, rfl, same_upd s34 hgH, by rw [upd_ne (Ne.symm ngr)]; exact h4, ?_⟩
  unfold LI
  rw [upd_same, take_one (getD_at (show i < r.length by omega)), List.map_append]
  rfl
 rintro σ H2 ⟨v4, rfl, s3, h3, hg3⟩
 rw [Int.toNat_natCast] at h3 hg3
 have hLr : L.drop (place + 1 + n) = r.drop n := drop_more hdr0
 have hxl := rows_len hrows
 refine ⟨_, rfl, tp, _, _, _, rfl, rfl, hsq _, at_of (j := 2) rfl rfl, (k : Int), rfl, by omega, by omega, for_range (λ i σ H' => ∃ (v4 : Option V) (rs : List Addr) (pl : Nat), σ = [some (.ref d), some (.ref rd), some (.ref tp), some (.ref g), v4, Option.none] /\ Same (hole H rd) H' /\ H' rd = some (.ins CR dx (readF c pl)) /\ H' g = some (.lst ((r.take n).map V.int ++ rs.map V.ref)) /\ rs.length = i /\ rs.Nodup /\ (∀ a ∈ rs, H a = Option.none /\ a ≠ g /\ a ≠ rd) /\ RowsAt H' rs (xs.take i) /\ PyFlat.rows (k - i) (L.drop pl) = some (xs.drop i, t))
  ⟨_, [], place + 1 + n, rfl, s3, h3, by rw [List.map_nil, List.append_nil]; exact hg3, rfl, List.nodup_nil, λ a h => by simp at h, ⟨rfl, λ j a row h => by simp at h⟩, by rw [hLr, Nat.sub_zero, List.drop_zero]; exact hrows⟩ ?_ ?_⟩
 ·rintro i σ H3 hi ⟨v4, rs, pl, rfl, s4, h4, hg4, hrl, hnd, hfr, hR, hrw⟩
  rw [Int.toNat_natCast] at hi
  rw [show k - i = (k - (i + 1)) + 1 by omega] at hrw
  obtain ⟨m, r', xs', er, hm, ex, hrw'⟩ := rows_cons hrw
  refine ⟨_, rfl, .inl ⟨rfl, _, SqL.of hg4⟩, _, rfl, rd, dx, _, rfl, h4, rfl, rd, dx, c, pl, m, L, r', rfl, h4, hcA s4, er, hm, λ H5 a s5 h5 na ha => ?_⟩
  have s45 := hole_trans s4 s5
  have hg5 : H5 g = some (.lst ((r.take n).map V.int ++ rs.map V.ref)) := s5 _ _ (by rw [hole_ne ngr]; exact hg4)
  have nag : a ≠ g := λ e => by rw [e, hg4] at na; cases na
  have nar : a ≠ rd := λ e => by rw [e, h4] at na; cases na
  have naH : H a = Option.none := by
   have := s4.free na
   rw [hole_ne nar] at this
   exact this
  have nin : a ∉ rs := λ z => by
   obtain ⟨j, hj, ej⟩ := List.getElem_of_mem z
   have hj2 : j < (xs.take i).length := by rw [<- hR.1]; exact hj
   have := hR.2 j a _ (by rw [<- ej]; exact List.getElem?_eq_getElem hj) (List.getElem?_eq_getElem hj2)
   rw [this] at na
   cases na
  have exi : xs[i]? = some (r'.take m) := by
   have : (xs.drop i)[0]? = some (r'.take m) := by rw [ex]; rfl
   rw [List.getElem?_drop] at this
   exact this
  have exd : xs.drop (i + 1) = xs' := by rw [<- List.drop_drop, ex]; rfl
  refine ⟨g, _, _, rfl, rfl, hg5, by rw [lna, lnm, lnm, lnt, sizeLine_eq]; omega, _, rs ++ [a], pl + 1 + m, rfl, same_upd s45 hgH, by rw [upd_ne (Ne.symm ngr)]; exact h5, by rw [upd_same, List.map_append, List.append_assoc]; rfl, by rw [lna, hrl]; rfl, ?_, ?_, ?_, ?_⟩
  ·rw [List.nodup_append]
   exact ⟨hnd, List.nodup_cons.mpr ⟨λ z => by simp at z, List.nodup_nil⟩, λ b hb b' hb' => by rw [List.mem_singleton.mp hb']; exact λ e => nin (e ▸ hb)⟩
  ·intro b hb
   rcases List.mem_append.mp hb with z | z
   ·exact hfr b z
   ·rw [List.mem_singleton.mp z]
    exact ⟨naH, nag, nar⟩
  ·refine ⟨by rw [take_one exi, lna, lna, hR.1]; rfl, λ j b row hj hrow => ?_⟩
   rw [take_one exi] at hrow
   have hli := hR.1
   by_cases hjl : j < rs.length
   ·rw [List.getElem?_append_left hjl] at hj
    rw [List.getElem?_append_left (by omega)] at hrow
    have hb := hfr b (List.mem_of_getElem? hj)
    have := hR.2 j b row hj hrow
    rw [upd_ne hb.2.1]
    exact s5 _ _ (by rw [hole_ne hb.2.2]; exact this)
   ·have ej : j = rs.length := by
     have := (List.getElem?_eq_some_iff.mp hj).1
     simp at this
     omega
    subst ej
    rw [List.getElem?_append_right (Nat.le_refl _), Nat.sub_self] at hj
    rw [hli, List.getElem?_append_right (Nat.le_refl _), Nat.sub_self] at hrow
    have e1 : a = b := Option.some.inj hj
    have e2 : r'.take m = row := Option.some.inj hrow
    subst e1
    subst e2
    rw [upd_ne nag]
    exact ha
  ·obtain ⟨_, e2, _⟩ := drop_one er
   rw [drop_more e2, exd]
   exact hrw'
 rintro σ H3 ⟨v4, rs, pl, rfl, s4, h4, hg4, hrl, hnd, hfr, hR, hrw⟩
 rw [Int.toNat_natCast] at hrw hR
 rw [List.take_of_length_le (by omega)] at hR
 rw [Nat.sub_self, show xs.drop k = [] from List.drop_of_length_le (by omega)] at hrw
 have hpl : L.drop pl = t := by
  have : some (([] : List (List Int)), L.drop pl) = some ([], t) := hrw
  injection this with this
  injection this
 have DA3 : DeskAt C H3 d l u s := ⟨⟨dxd, inH ndr hd s4⟩, inH nlr DA.lo s4, inH nur DA.up s4, DA.ne⟩
 have ngl : g ≠ l := λ e => by have := DA.lo; unfold LI at this; rw [<- e, ngH] at this; cases this
 have ngu : g ≠ u := λ e => by have := DA.up; unfold LI at this; rw [<- e, ngH] at this; cases this
 have hrs : ∀ a ∈ rs, a ≠ l /\ a ≠ u /\ a ≠ g /\ a ≠ d := λ a ha => by
  obtain ⟨z1, z2, z3⟩ := hfr a ha
  refine ⟨λ e => ?_, λ e => ?_, z2, λ e => ?_⟩
  ·have := DA.lo; unfold LI at this; rw [<- e, z1] at this; cases this
  ·have := DA.up; unfold LI at this; rw [<- e, z1] at this; cases this
  ·rw [<- e, z1] at hd; cases hd
 have ntl : (r.take n).length = n := by rw [lnt]; omega
 obtain ⟨H4, wk, hsp⟩ := hcar (r.take n) xs d g l u s rs H3 Q ntl hxl hask DA3 o hg4 ngl ngu hnd hrs hR (λ H5 a l' u' af na hLa => by
  have freeH : ∀ b, H3 b = Option.none -> H b = Option.none := λ b hb => by
   have nb : b ≠ rd := λ e => by rw [e, h4] at hb; cases hb
   have := s4.free hb
   rw [hole_ne nb] at this
   exact this
  have nrin : rd ∉ rs := λ z => (hfr rd z).2.2 rfl
  refine q H5 a l' u' pl hpl ⟨af.desk, λ b ob hb z1 z2 z3 z4 => ?_, ?_, ?_, ?_⟩ (freeH a na) hLa
  ·exact af.keep b ob (inH z4 hb s4) z1 z2 z3 λ z => by rw [(hfr b z).1] at hb; cases hb
  ·exact af.keep rd _ h4 (Ne.symm ndr) (Ne.symm nlr) (Ne.symm nur) nrin
  ·rcases af.nl with z | z | z | z
   ·exact .inl z
   ·exact .inr (.inl z)
   ·exact .inr (.inr (freeH _ z))
   ·exact .inr (.inr (hfr _ z).1)
  ·rcases af.nu with z | z | z | z
   ·exact .inl z
   ·exact .inr (.inl z)
   ·exact .inr (.inr (freeH _ z))
   ·exact .inr (.inr (hfr _ z).1))
 refine ⟨_, rfl, tp, _, _, _, rfl, rfl, hsq _, at_of (j := 0) rfl rfl, H4, wk, _, rfl, f', 5, fd, ps, sp, rfl, hkp, hbd, hok, hr, _, rfl, _, rfl, hsp⟩
theorem make_same {H H' : Hp} {x dx : Addr} {C : Addr} (nx : H x = Option.none) (ndx : H dx = Option.none) (s : Same (hole (upd (upd H dx (.own x)) x (.ins C dx [])) x) H') : Same H H' := λ b o e => by
 have n1 := ne_of_none e nx
 have n2 := ne_of_none e ndx
 exact s b o (by rw [hole_ne n1, upd_ne n1, upd_ne n2]; exact e)
theorem make_free {H : Hp} {x dx : Addr} {o1 o2 : HO} {b : Addr} (h : upd (upd H dx o1) x o2 b = Option.none) : H b = Option.none /\ b ≠ x := by
 have n1 : b ≠ x := λ e => by rw [e, upd_same] at h; cases h
 rw [upd_ne n1] at h
 have n2 : b ≠ dx := λ e => by rw [e, upd_same] at h; cases h
 rw [upd_ne n2] at h
 exact ⟨h, n1⟩
theorem rd_some {H : Hp} {a : Addr} {u : HO} (x : Rd H a u) : H a ≠ Option.none := by
 rcases x with e | ⟨o, e⟩ <;> rw [e] <;> exact λ z => nomatch z
structure Going (C CR : Addr) (H : Hp) (c d rd dx r : Addr) (L : List Int) (H' : Hp) (place : Nat) (l u : Addr) (s : State) (told : List Int) (cs : List (List (List Int))) : Prop where
 desk : DeskAt C H' d l u s
 ok : Ok s
 rd : H' rd = some (.ins CR dx (readF c place))
 req : Rd H' c (.lst (reqV L))
 tl : LI H' r told
 same : Same H H'
 nl : H l = Option.none
 nu : H u = Option.none
 ncl : c ≠ l
 ncu : c ≠ u
 nrl : r ≠ l
 nru : r ≠ u
 calls : ∃ f, PyFlat.calls PyVbpcao.shape f (L.drop place) = some cs
 sum : told ++ due s cs = PyVbpcao.answers L
 ask : ∀ cl ∈ cs, VbpcaoNeutral.asked1 cl = true
 len : told.length + 40001 * cs.length <= 16000400
def spAnswers : Sp := λ vs H Q _ => ∃ (c : Addr) (L : List Int) (cs : List (List (List Int))), vs = [.ref c] /\ Rd H c (.lst (reqV L)) /\ L.length <= 31000 /\ PyFlat.calls PyVbpcao.shape L.length L = some cs /\ cs.length <= 400 /\ (∀ cl ∈ cs, VbpcaoNeutral.asked1 cl = true) /\
 ∀ (H' : Hp) (r : Addr), Same H H' -> H r = Option.none -> LI H' r (PyVbpcao.answers L) -> Q (.ref r) H'
theorem sc_answers : FnScope ["calls", "desk", "reader", "told", "answer"] ["calls"] (defScope s_answers) := ⟨rfl, rfl, rfl, by decide +kernel, rfl, by decide +kernel, by decide +kernel⟩
theorem ok_answers {C CR : Addr} (D : Def K mg "answers" s_answers) (T : Txt mg) (R : ReadC K CR) (c_Desk : ICal P w K mg base C ["self"] 1 (spDesk0 C)) (m_Desk : mg "Desk" = some (.ref C)) (c_Reader : ICal P w K mg base CR ["self", "calls"] 1 (spRead0 CR)) (m_Reader : mg "Reader" = some (.ref CR)) (c_has_more : MCal P w K mg base CR "has_more" ["self"] 1 (spMore CR)) (c_answer_call : Cal P w K mg base "answer_call" ["desk", "reader"] 6 (spAns C CR)) : Cal P w K mg base "answers" ["calls"] 7 spAnswers := by
 refine D.cal sc_answers (λ _ _ _ _ _ _ us hl => match us, hl with | [_], _ => rfl) (λ vs H Q E h => ?_) (λ f cdv A outer s H vs Q E hr h => ?_)
 ·obtain ⟨c, L, cs, rfl, _⟩ := h
  rfl
 obtain ⟨c, L, cs, rfl, hc, hLl, hcalls, hcl, hask, q⟩ := h
 have cR := R.cl
 refine ⟨_, (pss_cons (ps_set (i := 1) sc_answers.nd rfl (.inl rfl) (pe_mk0 c_Desk (up hr) rfl m_Desk))
   (pss_cons (ps_set (i := 2) sc_answers.nd rfl (.inl rfl) (pe_mk c_Reader (up hr) rfl m_Reader (pa_cons (pv 0) pa_nil)))
   (pss_cons (ps_set (i := 3) sc_answers.nd rfl (.inl rfl) (pe_lst pa_nil))
   (pss_cons (ps_while PassesOwn.never (pt_val (pe_met0 c_has_more cR (up hr) (pv 2))) (pss_cons (ps_set (i := 4) sc_answers.nd rfl (.inl rfl) (pe_cal c_answer_call (up hr) rfl (pa_cons (pv 1) (pa_cons (pv 2) pa_nil))))
   (pss_cons (ps_expr (pe_bm PySem.F.plainAttrs_list PySem.F.slot_list_append PySem.F.type_list_append mt_append (pv 3) (pa_cons (pe_callB call_len_seq (by rfl) T.len PySem.boot_len (pa_cons (pv 4) pa_nil)) pa_nil)))
   (pss_one (ps_expr (pe_bm PySem.F.plainAttrs_list PySem.F.slot_list_extend PySem.F.type_list_extend mt_extend (pv 3) (pa_cons (pv 4) pa_nil)))))))
   (pss_one (ps_ret (pv 3))))))), ?_⟩
 refine λ d dxd nd ndd ne1 => ⟨d, dxd, rfl, upd_same, λ H1 l u s1 nl nu DA => ⟨rfl, ?_⟩⟩
 have sH1 : Same H H1 := make_same nd ndd s1
 obtain ⟨nl0, nld⟩ := make_free nl
 obtain ⟨nu0, nud⟩ := make_free nu
 obtain ⟨dx1, hd1⟩ := DA.obj
 refine ⟨_, rfl, λ rd dx nrd ndr ne2 => ⟨rd, dx, c, rfl, upd_same, λ H2 s2 h2 => ⟨rfl, ?_⟩⟩⟩
 have s12 : Same H1 H2 := make_same nrd ndr s2
 have ndrd : d ≠ rd := λ e => by rw [e, nrd] at hd1; cases hd1
 refine ⟨Nat.zero_le _, λ r nr => ?_⟩
 have s23 := same_new (o := .lst []) nr
 have s13 := s12.trans s23
 have sH3 := sH1.trans s13
 have nrH : H r = Option.none := (sH1.trans s12).free nr
 have nrdH : H rd = Option.none := sH1.free nrd
 have hcs := rd_some hc
 have DA3 := DA.same s13
 have ncl : c ≠ l := λ e => by rw [e] at hcs; exact hcs nl0
 have ncu : c ≠ u := λ e => by rw [e] at hcs; exact hcs nu0
 have ncr : c ≠ r := λ e => by rw [e] at hcs; exact hcs nrH
 have nrl : r ≠ l := λ e => by
  have := s12 _ _ DA.lo
  rw [<- e, nr] at this
  cases this
 have nru : r ≠ u := λ e => by
  have := s12 _ _ DA.up
  rw [<- e, nr] at this
  cases this
 have hdue := answers_due hcalls
 refine ⟨λ m σ H' => ∃ (place : Nat) (l u : Addr) (s : State) (told : List Int) (cs : List (List (List Int))) (v4 : Option V), m = cs.length /\ σ = [some (.ref c), some (.ref d), some (.ref rd), some (.ref r), v4] /\ Going C CR H c d rd dx r L H' place l u s told cs,
  ⟨_, 0, l, u, Vbpcao.start, [], cs, _, rfl, rfl, ⟨DA3, ok_start, s23 _ _ h2, rd_same hc sH3, upd_same, sH3, nl0, nu0, ncl, ncu, nrl, nru, ⟨L.length, by rw [List.drop_zero]; exact hcalls⟩, by rw [hdue]; rfl, hask, by show 0 + _ <= _; omega⟩⟩, ?_⟩
 clear DA DA3 nl0 nu0 nld nud ncl ncu nrl nru hd1 nl nu s1 s12 s23 s13 sH1 sH3 s2 h2 nr hask hcl hdue hcalls
 rintro m σ H' ⟨place, l, u, s, told, cs, v4, rfl, rfl, G⟩
 obtain ⟨fu, hcalls⟩ := G.calls
 refine ⟨_, rfl, rd, dx, _, rfl, G.rd, rfl, rd, dx, c, place, _, rfl, G.rd, G.req, _, rfl, ite2 (λ h1 => ?_) (λ h1 => ?_)⟩
 ·rw [dte, reqV_len] at h1
  have hpl : place < L.length := by omega
  obtain ⟨p, r0, hdrop⟩ : ∃ p r0, L.drop place = p :: r0 := ⟨_, _, List.drop_eq_getElem_cons hpl⟩
  rw [hdrop] at hcalls
  obtain ⟨n, k, xs, t, cs', f', hsh, hn, hrows, ecs, hcalls'⟩ := calls_cons hcalls
  have hdc := due_cons s ((p :: r0.take n) :: xs) cs'
  have hstep := nstep_ok G.ok ((p :: r0.take n) :: xs)
  have hslen := nstep_len G.ok ((p :: r0.take n) :: xs)
  have hlen := G.len
  rw [ecs, lnc] at hlen
  have hask1 := G.ask _ (by rw [ecs]; exact List.mem_cons_self ..)
  refine ⟨_, λ _ _ h => h, _, rfl, _, rfl, d, rd, dx, c, l, u, s, place, L, p, r0, n, k, xs, t, rfl, G.desk, G.ok, G.rd, ndrd, G.req, G.ncl, G.ncu, hLl, hdrop, hsh, hn, hrows, hask1, λ H2 a l' u' place' hpl' af na hLa => ?_⟩
  generalize hst : VbpcaoNeutral.step s ((p :: r0.take n) :: xs) = stp at af hLa hdc hstep hslen
  have hrs : H' r ≠ Option.none := by rw [show H' r = _ from G.tl]; exact λ z => nomatch z
  have nar : a ≠ r := λ e => by rw [e] at na; exact hrs na
  have nrd' : r ≠ d := λ e => by
   obtain ⟨z, hz⟩ := G.desk.obj
   have := G.tl
   unfold LI at this
   rw [e, hz] at this
   cases this
  have nrrd : r ≠ rd := λ e => by
   have := G.tl
   unfold LI at this
   rw [e, G.rd] at this
   cases this
  have hr2 : LI H2 r told := af.keep r _ G.tl nrd' G.nrl G.nru nrrd
  have ncH' : c ≠ r := ncr
  refine ⟨_, rfl, .inl ⟨rfl, _, SqL.of hr2⟩, _, rfl, a, _, rfl, .inl (SqL.of hLa), r, _, _, rfl, rfl, hr2, by rw [lnm, sizeLine_eq]; omega, ?_⟩
  have hLa3 : ∀ o, (upd H2 r o) a = some (.lst (stp.2.map V.int)) := λ o => by rw [upd_ne nar]; exact hLa
  refine ⟨_, rfl, .inl ⟨rfl, _, SqL.of upd_same⟩, _, rfl, r, a, _, _, rfl, rfl, upd_same, hLa3 _, by rw [lna, lnm, lnm, sizeLine_eq]; show _ + 1 + _ <= _; omega, ?_⟩
  have fresh : ∀ b, (b = l ∨ b = u ∨ H' b = Option.none) -> H b = Option.none /\ c ≠ b /\ r ≠ b := λ b hb => by
   rcases hb with e | e | e
   ·rw [e]; exact ⟨G.nl, G.ncl, G.nrl⟩
   ·rw [e]; exact ⟨G.nu, G.ncu, G.nru⟩
   ·refine ⟨G.same.free e, λ z => ?_, λ z => ?_⟩
    ·have := rd_some G.req
     rw [z] at this
     exact this e
    ·rw [z] at hrs
     exact hrs e
  obtain ⟨f1, f2, f3⟩ := fresh l' af.nl
  obtain ⟨g1, g2, g3⟩ := fresh u' af.nu
  obtain ⟨z2, hz2⟩ := af.desk.obj
  have ndH : H d = Option.none := nd
  have kp2 : ∀ (b : Addr) (o : HO), H b = some o -> H2 b = some o := λ b o e => af.keep b o (G.same b o e) (ne_of_none e ndH) (ne_of_none e G.nl) (ne_of_none e G.nu) (ne_of_none e nrdH)
  have kc : Rd H2 c (.lst (reqV L)) := rd_same hc kp2
  refine ⟨cs'.length, by rw [ecs, lnc]; omega, place', l', u', stp.1, told ++ ((stp.2.length : Int) :: stp.2), cs', _, rfl, rfl, ?_⟩
  refine ⟨⟨⟨z2, ?_⟩, ?_, ?_, af.desk.ne⟩, hstep, ?_, ?_, ?_, same_upd (same_upd kp2 nrH) nrH, f1, g1, f2, g2, f3, g3, ⟨f', by rw [hpl']; exact hcalls'⟩, ?_, λ cl hcl => G.ask cl (by rw [ecs]; exact List.mem_cons_of_mem _ hcl), ?_⟩
  ·rw [upd_ne (Ne.symm nrd'), upd_ne (Ne.symm nrd')]
   exact hz2
  ·unfold LI
   rw [upd_ne (Ne.symm f3), upd_ne (Ne.symm f3)]
   exact af.desk.lo
  ·unfold LI
   rw [upd_ne (Ne.symm g3), upd_ne (Ne.symm g3)]
   exact af.desk.up
  ·rw [upd_ne (Ne.symm nrrd), upd_ne (Ne.symm nrrd)]
   exact af.rd
  ·unfold Rd
   rw [upd_ne ncr, upd_ne ncr]
   exact kc
  ·unfold LI
   rw [upd_same, List.map_append, List.map_cons, lnm, List.append_assoc]
   rfl
  ·have := G.sum
   rw [ecs, hdc] at this
   rw [<- this, List.append_assoc]
  ·rw [lna, lnc]
   omega
 ·rw [dte, reqV_len] at h1
  rw [List.drop_of_length_le (by omega)] at hcalls
  have ecs := calls_nil hcalls
  refine ⟨_, rfl, q H' r G.same nrH ?_⟩
  have hd := G.sum
  rw [ecs] at hd
  have e0 : due s [] = [] := rfl
  rw [e0, List.append_nil] at hd
  rw [<- hd]
  exact G.tl
end Pc
end
section
namespace Pc
open PySem PySem.Spec PyProof.Rows L2
open Vbpcao (State)
section
variable {K : PySem.W.Frag} {h : Heap} {mg : Str -> Option Value}
theorem mg_none {n : Str} (X : K.In h) (G : h.Ns mainGlobals mg) (e : PySem.W.nsIn K mainGlobals n = some Option.none) : mg n = Option.none := by
 obtain ⟨o, es, ep, ho, hd, _, hf⟩ := G
 unfold PySem.W.nsIn at e
 split at e
 ·rename_i c d es' n' sl q
  have := X _ _ q
  rw [ho] at this
  cases this
  cases hd
  split at e
  ·cases e
  ·rename_i he
   rw [<- hf]
   unfold nsFind findBy
   rw [<- Array.find?_toList, he]
   rfl
 ·cases e
theorem def_mk {x : Str} {st : Stmt} {f : Addr} {oc : Value} {od an : Option Addr} {osl : Array (Option Value)} {kV doc pm cdv ct : Value} (X : K.In h) (G : h.Ns mainGlobals mg) (a : PySem.W.nsIn K mainGlobals x = some (some (.ref f)))
  (l : K.lookup f = some ⟨oc, od, .func (PySem.W.fnOf x x (defArgs st) (defBody st) (defScope st) .none kV doc pm an cdv ct), osl⟩) (c : PySem.W.codeIn K cdv x = true) (k : PySem.W.keepIn K (.ref f) = true) : Def K mg x st :=
 ⟨f, _, PySem.W.mg_of X G a, fun_mk l c k⟩
theorem mdef_mk {C : Addr} {m qual : Str} {st : Stmt} {f : Addr} {oc : Value} {od an : Option Addr} {osl : Array (Option Value)} {kV doc pm cdv ct : Value} (a : PySem.W.findIn K (.ref C) m = some (some (.ref f))) (i : PySem.W.isFn K (.ref f) = true)
  (l : K.lookup f = some ⟨oc, od, .func (PySem.W.fnOf m qual (defArgs st) (defBody st) (defScope st) .none kV doc pm an cdv ct), osl⟩) (c : PySem.W.codeIn K cdv qual = true) (k : PySem.W.keepIn K (.ref f) = true) : MDef K C m qual st :=
 ⟨f, _, ⟨a, i, k⟩, fun_mk l c k⟩
theorem idef_mk {C : Addr} {qual : Str} {st : Stmt} {f : Addr} {oc : Value} {od an : Option Addr} {osl : Array (Option Value)} {kV doc pm cdv ct : Value} (mk : PySem.W.makesIn K C = true) (kc : PySem.W.keepIn K (.ref C) = true) (a : PySem.W.findIn K (.ref C) "__init__" = some (some (.ref f))) (i : PySem.W.isFn K (.ref f) = true)
  (l : K.lookup f = some ⟨oc, od, .func (PySem.W.fnOf "__init__" qual (defArgs st) (defBody st) (defScope st) .none kV doc pm an cdv ct), osl⟩) (c : PySem.W.codeIn K cdv qual = true) (k : PySem.W.keepIn K (.ref f) = true) : IDef K C qual st :=
 ⟨f, _, ⟨mk, a, i, kc⟩, fun_mk l c k⟩
theorem cls_mk {C : Addr} (pg : PySem.W.plainGet K C Str.empty = true) (hd : PySem.W.hasDictIn K C = true) (po : PySem.W.plainOver K C = true) (sa : PySem.W.findIn K (.ref C) "__setattr__" = some (some (.builtin "object.__setattr__"))) : Cls K C := ⟨pg, hd, po, sa⟩
theorem int_mk {x : Str} {i : Int} {t : Tok} (X : K.In h) (G : h.Ns mainGlobals mg) (a : PySem.W.nsIn K mainGlobals x = some (some (.int i t))) : ∃ t, mg x = some (.int i t) := ⟨t, PySem.W.mg_of X G a⟩
end
def noLists (K : PySem.W.Frag) : Bool := K.all λ p => match p.2.cls with
 | .type n => !(n == "list")
 | _ => true
theorem noLists_at {K : PySem.W.Frag} (n : noLists K = true) {h : Heap} (X : K.In h) {a : Addr} {dt : Data} (e : h.get? a = some { cls := .type "list", data := dt }) : K.lookup a = Option.none := by
 cases q : K.lookup a with
 | none => rfl
 | some o =>
  have := X a o q
  rw [e] at this
  have this := Option.some.inj this
  subst this
  have hm : (a, ({ cls := .type "list", data := dt } : Obj)) ∈ K := by
   clear n X e
   induction K with
   | nil => cases q
   | cons p r ih =>
    obtain ⟨b, o⟩ := p
    rw [List.lookup_cons] at q
    by_cases z : (a == b) = true
    ·rw [z] at q
     cases q
     rw [beq_iff_eq.mp z]
     exact List.mem_cons_self ..
    ·rw [Bool.not_eq_true] at z
     rw [z] at q
     exact List.mem_cons_of_mem _ (ih q)
  have := List.all_eq_true.mp n _ hm
  exact absurd (show (!("list" == "list")) = true from this) (by decide)
section
variable {R : PySem.W.WRecords} {cl : Str -> Option Addr} {Pm : Params} {ord : List DictEntry -> List DictEntry}
theorem lay_toks : ∀ (L : List Int) (s : Shared) (vs : List Value) (s' : Shared), s.toks ≠ 0 -> PySem.W.layAllW R cl Pm ord (L.map PySem.W.WData.int) s = some (vs, s') -> Vals (L.map V.tok) vs
 | [], s, vs, s', _, h => by
  cases h
  exact .nil
 | n :: r, s, vs, s', ht, h => by
  have h : (match PySem.W.layAllW R cl Pm ord (r.map PySem.W.WData.int) { s with toks := s.toks + 1 } with
   | some z => some (Value.int n s.toks :: z.1, z.2)
   | Option.none => Option.none) = some (vs, s') := h
  cases e : PySem.W.layAllW R cl Pm ord (r.map PySem.W.WData.int) { s with toks := s.toks + 1 } with
  | none => rw [e] at h; cases h
  | some z =>
   rw [e] at h
   have h := Option.some.inj h
   have h1 : Value.int n s.toks :: z.1 = vs := congrArg Prod.fst h
   subst h1
   exact .cons ⟨s.toks, ht, rfl⟩ (lay_toks r _ z.1 z.2 (Nat.succ_ne_zero _) e)
theorem lay_req (L : List Int) (s : Shared) (vs : List Value) (s' : Shared) (h : PySem.W.layAllW R cl Pm ord (L.map PySem.W.WData.int) s = some (vs, s')) : Vals (reqV L) vs := by
 cases L with
 | nil => cases h; exact .nil
 | cons n r =>
  have h : (match PySem.W.layAllW R cl Pm ord (r.map PySem.W.WData.int) { s with toks := s.toks + 1 } with
   | some z => some (Value.int n s.toks :: z.1, z.2)
   | Option.none => Option.none) = some (vs, s') := h
  cases e : PySem.W.layAllW R cl Pm ord (r.map PySem.W.WData.int) { s with toks := s.toks + 1 } with
  | none => rw [e] at h; cases h
  | some z =>
   rw [e] at h
   have h := Option.some.inj h
   have h1 : Value.int n s.toks :: z.1 = vs := congrArg Prod.fst h
   subst h1
   exact .cons ⟨s.toks, rfl⟩ (lay_toks r _ z.1 z.2 (Nat.succ_ne_zero _) e)
theorem lay_one (L : List Int) (s : Shared) (vals : List Value) (s1 : Shared) (h : PySem.W.layAllW R cl Pm ord [PySem.W.WData.list (L.map PySem.W.WData.int)] s = some (vals, s1)) :
  ∃ (a : Addr) (vs : List Value), vals = [.ref a] /\ s1.heap.get? a = some { cls := .type "list", data := .seq vs.toArray } /\ Vals (reqV L) vs := by
 have h : (match (match PySem.W.layAllW R cl Pm ord (L.map PySem.W.WData.int) s with
   | some r => some (Value.ref r.2.heap.objs.size, { r.2 with heap := r.2.heap.push { cls := .type "list", data := .seq r.1.toArray } })
   | Option.none => (Option.none : Option (Value × Shared))) with
  | some z => some ([z.1], z.2)
  | Option.none => Option.none) = some (vals, s1) := h
 cases e : PySem.W.layAllW R cl Pm ord (L.map PySem.W.WData.int) s with
 | none => rw [e] at h; cases h
 | some z =>
  rw [e] at h
  have h := Option.some.inj h
  have h1 : [Value.ref z.2.heap.objs.size] = vals := congrArg Prod.fst h
  have h2 : ({ z.2 with heap := z.2.heap.push { cls := .type "list", data := .seq z.1.toArray } } : Shared) = s1 := congrArg Prod.snd h
  subst h1
  subst h2
  exact ⟨_, z.1, rfl, Heap.get?_push_size _ rfl, lay_req L s z.1 z.2 e⟩
end
theorem one_call {P : Program} {w : World} {K : PySem.W.Frag} {mg mb : Str -> Option Value} {k : Nat} {fa : Addr} {nm x : Str} {sp : Sp} {s1 : Shared} {a : Addr} {vs : List Value} {L : List Int} {R : PySem.W.WRecords} {cl : Str -> Option Addr} {d0 : PySem.W.WData}
  (KX : K.In s1.heap) (hns : s1.heap.Ns mainGlobals mg) (hb : s1.heap.Ns builtinsNs mb) (hbb : ∀ x : Str, x ≠ "__name__" -> mb x = bootBuiltins x) (hlim : s1.heap.NoLimit) (hg : s1.gens = #[])
  (ha : s1.heap.get? a = some { cls := .type "list", data := .seq vs.toArray }) (hk : K.lookup a = Option.none) (hv : Vals (reqV L) vs) (hL : L.length <= 31000) (hr : Room k callerA)
  (hfa : mg nm = some (.ref fa)) (F : ∀ base : Heap, Cal P w K mg base nm [x] k sp)
  (hsp : ∀ H : Hp, Rd H a (.lst (reqV L)) -> sp [.ref a] H (λ v H' => Dw K H' v d0) λ _ _ _ => False) :
  codeAny (model P w) callerA (.call (.ref fa) ⟨[.ref a], []⟩) (λ r s' => ∃ u as, r = .ok (.ret u) /\ PySem.W.ReadsW R cl s'.heap u d0 as /\ OldK s1.heap s'.heap /\ s'.os = s1.os /\ AllBare s'.gens) s1 := by
 let o : Obj := { cls := .type "list", data := .seq vs.toArray }
 let H : Hp := λ b => if b = a then some (.frz o (.lst (reqV L))) else Option.none
 have hH : ∀ {b u}, H b = some u -> b = a /\ u = .frz o (.lst (reqV L)) := λ {b u} e => by
  have e : (if b = a then some (HO.frz o (.lst (reqV L))) else Option.none) = some u := e
  split at e
  ·rename_i z; cases e; exact ⟨z, rfl⟩
  ·cases e
 have hHa : H a = some (.frz o (.lst (reqV L))) := if_pos rfl
 have hHn : ∀ {b}, b ≠ a -> H b = Option.none := λ z => if_neg z
 have hok : HOk P w H s1.heap := λ b u q => by
  obtain ⟨rfl, rfl⟩ := hH q
  exact ⟨ha, by rw [reqV_len, sizeLine_eq]; omega, vs, _, hv, ha⟩
 have noA : ∀ {b : Addr} {o' : Obj} {es : Array DictEntry} {ep : Nat}, s1.heap.get? b = some o' -> o'.data = .dict es ep -> H b = Option.none := λ {b o' es ep} e d => by
  by_cases z : b = a
  ·rw [z, ha] at e
   cases e
   cases d
  ·exact hHn z
 have nK : ∀ b o', K.lookup b = some o' -> H b = Option.none := λ b o' e => by
  by_cases z : b = a
  ·rw [z, hk] at e
   cases e
  ·exact hHn z
 have base_of : ∀ {b : Addr} {o' : Obj}, s1.heap.get? b = some o' -> H b = Option.none -> (hidT s1.heap H).get? b = some o' := λ e n => hidT_get e n
 have nsK : ∀ {b : Addr} {m : Str -> Option Value}, s1.heap.Ns b m -> (hidT s1.heap H).Ns b m := λ {b m} ⟨o', es, ep, e, d, r⟩ => ⟨o', es, ep, base_of e (noA e d), d, r⟩
 have hKb : K.In (hidT s1.heap H) := λ b o' e => base_of (KX b o' e) (nK b o' e)
 have hM : Mod K mg (hidT s1.heap H) := ⟨hKb, nsK hns, ⟨mb, nsK hb, hbb⟩, let ⟨mc, h1, h2⟩ := hlim; ⟨mc, nsK h1, h2⟩⟩
 have e0 : Env0 P w K mg (hidT s1.heap H) callerA [] s1 H := ⟨rfl, hM, λ b o' e => of_hidT e, Nat.le_of_eq (hidT_size _ _), trivial, λ b hb => absurd (show b ∈ ([] : List Addr) from hb) (by simp), hok, .of_eq hg⟩
 have hva : Vals [V.ref a] [Value.ref a] := .cons rfl .nil
 obtain ⟨f, fd, hf, _, hbd, hF⟩ := F (hidT s1.heap H)
 have ef : f = fa := by
  rw [hfa] at hf
  injection (Option.some.inj hf) with hf
  exact hf.symm
 subst ef
 refine codeAny_mono (hF.run callerA [] s1 H ⟨[.ref a], []⟩ [.ref a] [.ref a] _ _ hr e0 (hbd s1 [.ref a] KX rfl) hva (hsp H (.inr ⟨o, hHa⟩))) λ r s' z => ?_
 cases r with
 | error e => exact False.elim z
 | ok fl =>
  cases fl with
  | next => exact False.elim z
  | brk => exact False.elim z
  | cont => exact False.elim z
  | ret u =>
   obtain ⟨v, H', os, bare, un, hok', r', q⟩ := z
   have kept : ∀ b o', s1.heap.get? b = some o' -> s'.heap.get? b = some o' := λ b o' e => by
    by_cases z : b = a
    ·subst z
     have z2 := un.frzs b o _ hHa
     obtain ⟨e2, _⟩ := hok' b _ z2
     rw [ha] at e
     cases e
     exact e2
    ·exact un.keep b o' e (hHn z) (by intro z; exact absurd (show b ∈ ([] : List Addr) from z) (by simp)) (by simp)
   have KX' : K.In s'.heap := λ b o' e => kept b o' (KX b o' e)
   obtain ⟨as, hrd⟩ := Dw.reads (R := R) (cl := cl) hok' KX' d0 v u q r'
   exact ⟨u, as, rfl, hrd, OldK.of_keep kept, os, bare⟩
end Pc
end
section
namespace Pcx
open PySem PySem.W PySem.Calls PyProof.Rows
abbrev WalkL (q : Program) (loose : List Str) (XP : (Str -> Option Value) -> Heap -> Prop) (YP : World -> Heap -> Prop) (r : OpenSpec) (d : DefRec) : Prop :=
 ∀ (w : World) (s₀ s₁ : Shared) (mg mb : Str -> Option Value), Ground q loose [] XP w s₀ mg mb s₁.heap -> YP w s₁.heap -> ∀ a : Addr, mg d.name = some (.ref a) -> s₁.gens = #[] ->
  ∀ (args : List WData) (vals : List Value) (as : List Addr), r.pre args = true -> WData.layableAll args = true -> Laid [] w s₀ s₁ args vals as ->
   wpAny (model r.prog w) callerA (PySem.call (.ref a) vals) (λ v s' => GoodWG r.claim (classAt s₀.heap) (ExcName.means s₀.heap) args s₁ (.ok (.ret v)) s')
    (λ e s' => GoodWG r.claim (classAt s₀.heap) (ExcName.means s₀.heap) args s₁ (.error e) s') s₁
theorem PySem.W.holds_os {r : OpenSpec} {q : Program} {loose : List Str} {Xt : Shared -> Bool} {XP : (Str -> Option Value) -> Heap -> Prop} {α : Type} {Yf : Shared -> α} {Ya : World -> α} {YP : World -> Heap -> Prop} {d : DefRec} {kwd : List (Str × Expr)} {N : Nat}
  (left : LeftO r.prog q loose Xt Yf Ya N) (hY : ∀ w s, Yf s = Ya w -> YP w s.heap) (hYk : ∀ w h h', YP w h -> (∀ b o, h.get? b = some o -> h'.get? b = some o) -> YP w h')
  (hX : ∀ s, Xt s = true -> XP (s.heap.nsMap mainGlobals) s.heap) (hXk : ∀ mg h h', XP mg h -> (∀ b o, h.get? b = some o -> h'.get? b = some o) -> XP mg h')
  (hdef : defOf q r.name = some (d, kwd)) (hp : r.prog.theDef r.name = some (d.params, d.body, d.scope)) (hk : kwWritten? d.params.kwonlyargs d.params.kw_defaults = some kwd) (hRf : ∀ s, Xt s = true -> RecFacts [] s.heap) (hsh : ∀ as, r.pre as = true -> WShape.hasAll [] as (r.args.map Codec.shape) = true)
  (k1 : r.wellSaid = true) (ok : (chainsOk q && opensWell r.prog) = true) (hb : r.prog.bare) (hw : ∃ args, r.pre args = true /\ WData.layableAll args = true)
  (call : WalkL q loose XP YP r d) : r.Holds := by
 refine ⟨k1, open_specG (c := r.claim) (name := r.name) (shapes := r.args.map Codec.shape) (run := λ f vs => PySem.call f vs) left hY hYk hX hXk hRf rfl ok hb hsh rfl rfl (λ _ _ => rfl) rfl hw ?_ ?_ ?_⟩
 ·intro vs w s mg f Q E hg hf h
  refine wpAny_bind (wpAny_nsGet hg ?_)
  rw [hf]
  exact wpAny_bind (wpAny_mono h (λ _ _ x => wpAny_pure x) λ _ _ x => x)
 ·intro w s hg G n hn
  have e : n = r.name := by simpa using hn
  subst e
  exact pinned_of_view hg G hdef hp hk
 ·intro w s₀ s₁ mg mb G Y args vs as hpre hlay L _
  obtain ⟨a, _, _, _, _, _, _, hm, _⟩ := G.fn hdef
  exact ⟨.ref a, hm, call w s₀ s₁ mg mb G Y a (defOf_name hdef ▸ hm) L.gens args vs as hpre hlay L⟩
end Pcx
end
section
namespace Pc
open PySem PySem.W PySem.Calls PyProof.Rows L2
theorem walk_one {q : Program} {loose : List Str} {XP : (Str -> Option Value) -> Heap -> Prop} {YP : World -> Heap -> Prop} {d : DefRec} {K : Params -> Frag} (hn : d.name = ("answers" : Str))
  (hY : ∀ (w : World) (h : Heap), YP w h -> (K w.params).In h) (hl : ∀ w : World, noLists (K w.params) = true)
  (F : ∀ (w : World) (mg : Str -> Option Value) (h : Heap), (K w.params).In h -> h.Ns mainGlobals mg -> ∀ base : Heap, Cal PySem.Challenge.pw_pinchanneldesk_s01_answers w (K w.params) mg base "answers" ["calls"] 7 spAnswers) :
  Pcx.WalkL q loose XP YP PySem.Challenge.rw_pinchanneldesk_s01_answers d := by
 intro w s₀ s₁ mg mb G Y fa hmg hg args vals as hpre hlay L
 obtain ⟨a, e1, e2⟩ := os_pre_some hpre
 obtain ⟨e3, hwi⟩ := Codec.encAll_of_decAll _ args a e1
 subst e3
 obtain ⟨ord, hord, hlaid⟩ := L.laid
 have KX := hY w _ Y
 rw [hn] at hmg
 obtain ⟨ad, vs, rfl, hget, hv⟩ := lay_one a.1 s₀ vals s₁ hlaid
 have hk := noLists_at (hl w) KX hget
 have q1 : ((Codec.inLen 0 31000 a.1 && a.1.all (Codec.inInt (Int.negSucc 2147483647) (Int.ofNat 2147483647))) && true) = true := hwi
 rw [Bool.and_eq_true, Bool.and_eq_true] at q1
 have hlen : a.1.length <= 31000 := (Codec.inNat_iff.mp q1.1.1).2
 have hask : PyVbpcao.answers_asked a.1 = true := e2
 obtain ⟨cs, hcs, hcl, hcall⟩ : ∃ cs, PyFlat.calls PyVbpcao.shape a.1.length a.1 = some cs /\ cs.length <= 400 /\ ∀ c ∈ cs, VbpcaoNeutral.asked1 c = true := by
  unfold PyVbpcao.answers_asked at hask
  rw [calls_eq] at hask
  cases e : PyFlat.calls PyVbpcao.shape a.1.length a.1 with
  | none => rw [e] at hask; cases hask
  | some cs =>
   rw [e] at hask
   have hask : (PyFlat.atMost 400 cs && VbpcaoNeutral.asked cs) = true := hask
   rw [Bool.and_eq_true] at hask
   have h2 := hask.2
   unfold VbpcaoNeutral.asked at h2
   rw [Bool.and_eq_true] at h2
   exact ⟨cs, rfl, of_decide_eq_true hask.1, List.all_eq_true.mp h2.1⟩
 refine enter_call (codeAny_mono (one_call (R := []) (cl := classAt s₀.heap) (d0 := .list ((PyVbpcao.answers a.1).map WData.int)) (sp := spAnswers) (k := 7) KX G.T.g G.T.b G.T.builtins G.T.nolimit hg hget hk hv hlen ⟨rfl, by decide, by decide⟩ hmg (F w mg _ KX G.T.g) (λ H hH => ?_)) λ r' s' hq => ?_)
 ·exact ⟨ad, a.1, cs, rfl, hH, hlen, hcs, hcl, hcall, λ H' r _ _ hr => .lst (SqL.of hr) (dw_ints _)⟩
 ·obtain ⟨u, as', rfl, h1, h2, h3, h4⟩ := hq
  exact ⟨.inl ⟨u, _, as', rfl, λ _ => rfl, h1, (OpenSpec.post_iff (r := PySem.Challenge.rw_pinchanneldesk_s01_answers) (by decide +kernel) hwi _ _).mpr rfl, λ z => Bool.noConfusion (show false = true from z)⟩, h2, h3, h4⟩
end Pc
end
section
namespace Pc
open PySem PySem.Spec PyProof.Rows L2
def Tup (K : PySem.W.Frag) (mg : Str -> Option Value) (tb : List (Int × Addr)) (p : Int) (x : Str) (n k : Nat) : Prop := ∃ tp f, (p, tp) ∈ tb /\ mg x = some (.ref f) /\ ∀ H, SqT K H tp [.ref f, .int (n : Nat), .int (k : Nat)]
theorem tup_mk {K : PySem.W.Frag} {mg : Str -> Option Value} {h : Heap} {tb : List (Int × Addr)} {p : Int} {x : Str} {n k : Nat} {tp f : Addr} {od : Option Addr} {t1 t2 : Tok} {n0 : Nat} {sl : Array (Option Value)} (X : K.In h) (G : h.Ns mainGlobals mg) (hm : (p, tp) ∈ tb) (a : PySem.W.nsIn K mainGlobals x = some (some (.ref f)))
  (l : K.lookup tp = some ⟨.type "tuple", od, .seq #[.ref f, .int (n : Nat) t1, .int (k : Nat) t2] n0, sl⟩) : Tup K mg tb p x n k :=
 ⟨tp, f, hm, PySem.W.mg_of X G a, λ H => .inr ⟨_, _, _, l, rfl, rfl, by show 3 <= sizeLine; decide, .cons rfl (.cons ⟨t1, rfl⟩ (.cons ⟨t2, rfl⟩ .nil)), λ v hv => by
  rcases List.mem_cons.mp hv with rfl | hv
  ·rfl
  ·rcases List.mem_cons.mp hv with rfl | hv
   ·rfl
   ·rw [List.mem_singleton.mp hv]; rfl⟩⟩
theorem Tup.entry {P : Program} {w : World} {K : PySem.W.Frag} {mg : Str -> Option Value} {base : Heap} {C : Addr} {tb : List (Int × Addr)} {p : Int} {x : Str} {n k : Nat} (t : Tup K mg tb p x n k) (c : Carry P w K mg base C x p n k) : Entry P w K mg base C tb p n k :=
 let ⟨tp, f, h1, h2, h3⟩ := t
 ⟨x, tp, f, h1, h2, h3, c⟩
structure Facts (K : PySem.W.Frag) (mg : Str -> Option Value) (C CR Dc : Addr) : Prop where
 T : Txt mg
 TC : DeskC K C
 R : ReadC K CR
 m_Desk : mg "Desk" = some (.ref C)
 m_Reader : mg "Reader" = some (.ref CR)
 hCALLS : mg "CALLS" = some (.ref Dc)
 d_is_pin : Def K mg "is_pin" s_is_pin
 d_is_width : Def K mg "is_width" s_is_width
 d_has_net : Def K mg "has_net" s_has_net
 d_narrow_net : Def K mg "narrow_net" s_narrow_net
 d_least_width : Def K mg "least_width" s_least_width
 d_rises_strictly : Def K mg "rises_strictly" s_rises_strictly
 d_is_pin_row : Def K mg "is_pin_row" s_is_pin_row
 d_shift_bounds : Def K mg "shift_bounds" s_shift_bounds
 d_some_shift_does : Def K mg "some_shift_does" s_some_shift_does
 d_count_alike : Def K mg "count_alike" s_count_alike
 d_rising_corners : Def K mg "rising_corners" s_rising_corners
 d_wire_corners : Def K mg "wire_corners" s_wire_corners
 d_told_wire : Def K mg "told_wire" s_told_wire
 d_width_refusal : Def K mg "width_refusal" s_width_refusal
 d_least : Def K mg "least" s_least
 d_fits : Def K mg "fits" s_fits
 d_range_of : Def K mg "range_of" s_range_of
 d_best : Def K mg "best" s_best
 d_turn : Def K mg "turn" s_turn
 d_shift : Def K mg "shift" s_shift
 d_move : Def K mg "move" s_move
 d_pins : Def K mg "pins" s_pins
 d_add : Def K mg "add" s_add
 d_away : Def K mg "away" s_away
 d_list_nets : Def K mg "list_nets" s_list_nets
 d_mirror : Def K mg "mirror" s_mirror
 d_wire : Def K mg "wire" s_wire
 d_is_between : Def K mg "is_between" s_is_between
 d_has_point : Def K mg "has_point" s_has_point
 d_pieces_along : Def K mg "pieces_along" s_pieces_along
 d_all_wires : Def K mg "all_wires" s_all_wires
 d_room_bounds : Def K mg "room_bounds" s_room_bounds
 d_room : Def K mg "room" s_room
 d_at : Def K mg "at" s_at
 d_route : Def K mg "route" s_route
 d_length : Def K mg "length" s_length
 d_track : Def K mg "track" s_track
 d_read_wires : Def K mg "read_wires" s_read_wires
 d_is_straight : Def K mg "is_straight" s_is_straight
 d_joins : Def K mg "joins" s_joins
 d_keeps_to_tracks : Def K mg "keeps_to_tracks" s_keeps_to_tracks
 d_all_corners : Def K mg "all_corners" s_all_corners
 d_ranks : Def K mg "ranks" s_ranks
 d_hold_places : Def K mg "hold_places" s_hold_places
 d_first_meeting : Def K mg "first_meeting" s_first_meeting
 d_what_is_wrong : Def K mg "what_is_wrong" s_what_is_wrong
 d_check : Def K mg "check" s_check
 d_has_more : MDef K CR "has_more" "Reader.has_more" s_Reader_has_more
 d_read_number : MDef K CR "read_number" "Reader.read_number" s_Reader_read_number
 d_read_row : MDef K CR "read_row" "Reader.read_row" s_Reader_read_row
 d_Desk : IDef K C "Desk.__init__" s_Desk___init__
 d_Reader : IDef K CR "Reader.__init__" s_Reader___init__
 d_answer_call : Def K mg "answer_call" s_answer_call
 d_answers : Def K mg "answers" s_answers
 tab : ∃ tb, KDict K Dc tb /\ (Tup K mg tb 0 "pins" 0 2 /\ Tup K mg tb 1 "add" 2 0 /\ Tup K mg tb 2 "away" 1 0 /\ Tup K mg tb 3 "list_nets" 0 0 /\ Tup K mg tb 4 "least" 0 0 /\ Tup K mg tb 5 "fits" 1 0 /\ Tup K mg tb 6 "range_of" 1 0 /\ Tup K mg tb 7 "best" 0 0 /\ Tup K mg tb 8 "shift" 1 0 /\ Tup K mg tb 9 "wire" 2 0 /\ Tup K mg tb 10 "route" 1 0 /\ Tup K mg tb 11 "length" 1 0 /\ Tup K mg tb 12 "track" 2 0 /\ Tup K mg tb 13 "at" 3 0 /\ Tup K mg tb 14 "check" 1 1 /\ Tup K mg tb 15 "room" 2 0 /\ Tup K mg tb 16 "move" 2 0 /\ Tup K mg tb 17 "turn" 0 0 /\ Tup K mg tb 18 "mirror" 0 0)
section
variable {P : Program} {w : World} {K : PySem.W.Frag} {mg : Str -> Option Value} {base : Heap} {C CR Dc : Addr}
theorem all_cal (F : Facts K mg C CR Dc) : Cal P w K mg base "answers" ["calls"] 7 spAnswers := by
 have c_is_pin := ok_is_pin (P := P) (w := w) (mg := mg) (base := base) F.d_is_pin F.T
 have c_is_width := ok_is_width (P := P) (w := w) (mg := mg) (base := base) F.d_is_width F.T
 have c_has_net := ok_has_net (P := P) (w := w) (mg := mg) (base := base) F.d_has_net F.T F.TC
 have c_narrow_net := ok_narrow_net (P := P) (w := w) (mg := mg) (base := base) F.d_narrow_net F.T
 have c_least_width := ok_least_width (P := P) (w := w) (mg := mg) (base := base) F.d_least_width F.T c_narrow_net
 have c_rises_strictly := ok_rises_strictly (P := P) (w := w) (mg := mg) (base := base) F.d_rises_strictly F.T
 have c_is_pin_row := ok_is_pin_row (P := P) (w := w) (mg := mg) (base := base) F.d_is_pin_row F.T c_is_pin c_rises_strictly
 have c_shift_bounds := ok_shift_bounds (P := P) (w := w) (mg := mg) (base := base) F.d_shift_bounds F.T
 have c_some_shift_does := ok_some_shift_does (P := P) (w := w) (mg := mg) (base := base) F.d_some_shift_does F.T
 have c_count_alike := ok_count_alike (P := P) (w := w) (mg := mg) (base := base) F.d_count_alike F.T
 have c_rising_corners := ok_rising_corners (P := P) (w := w) (mg := mg) (base := base) F.d_rising_corners F.T c_count_alike
 have c_wire_corners := ok_wire_corners (P := P) (w := w) (mg := mg) (base := base) F.d_wire_corners F.T c_rising_corners
 have c_told_wire := ok_told_wire (P := P) (w := w) (mg := mg) (base := base) F.d_told_wire F.T
 have c_width_refusal := ok_width_refusal (P := P) (w := w) (mg := mg) (base := base) F.d_width_refusal F.T F.TC c_is_width c_narrow_net
 have c_least := ok_least (P := P) (w := w) (mg := mg) (base := base) F.d_least F.T F.TC c_least_width
 have c_fits := ok_fits (P := P) (w := w) (mg := mg) (base := base) F.d_fits F.T F.TC c_is_width c_narrow_net
 have c_range_of := ok_range_of (P := P) (w := w) (mg := mg) (base := base) F.d_range_of F.T F.TC c_is_width c_shift_bounds c_some_shift_does
 have c_best := ok_best (P := P) (w := w) (mg := mg) (base := base) F.d_best F.T F.TC c_shift_bounds c_some_shift_does
 have c_turn := ok_turn (P := P) (w := w) (mg := mg) (base := base) F.d_turn F.T F.TC
 have c_shift := ok_shift (P := P) (w := w) (mg := mg) (base := base) F.d_shift F.T F.TC c_is_pin
 have c_move := ok_move (P := P) (w := w) (mg := mg) (base := base) F.d_move F.T F.TC c_has_net c_is_pin c_rises_strictly
 have c_pins := ok_pins (P := P) (w := w) (mg := mg) (base := base) F.d_pins F.T F.TC c_is_pin_row
 have c_add := ok_add (P := P) (w := w) (mg := mg) (base := base) F.d_add F.T F.TC c_is_pin c_rises_strictly
 have c_away := ok_away (P := P) (w := w) (mg := mg) (base := base) F.d_away F.T F.TC c_has_net
 have c_list_nets := ok_list_nets (P := P) (w := w) (mg := mg) (base := base) F.d_list_nets F.T F.TC
 have c_mirror := ok_mirror (P := P) (w := w) (mg := mg) (base := base) F.d_mirror F.T F.TC
 have c_wire := ok_wire (P := P) (w := w) (mg := mg) (base := base) F.d_wire F.T F.TC c_has_net c_width_refusal c_wire_corners c_told_wire
 have c_is_between := ok_is_between (P := P) (w := w) (mg := mg) (base := base) F.d_is_between F.T
 have c_has_point := ok_has_point (P := P) (w := w) (mg := mg) (base := base) F.d_has_point F.T c_is_between
 have c_pieces_along := ok_pieces_along (P := P) (w := w) (mg := mg) (base := base) F.d_pieces_along F.T
 have c_all_wires := ok_all_wires (P := P) (w := w) (mg := mg) (base := base) F.d_all_wires F.T c_wire_corners
 have c_room_bounds := ok_room_bounds (P := P) (w := w) (mg := mg) (base := base) F.d_room_bounds F.T
 have c_room := ok_room (P := P) (w := w) (mg := mg) (base := base) F.d_room F.T F.TC c_has_net c_is_width c_room_bounds
 have c_at := ok_at (P := P) (w := w) (mg := mg) (base := base) F.d_at F.T F.TC c_width_refusal c_all_wires c_has_point
 have c_route := ok_route (P := P) (w := w) (mg := mg) (base := base) F.d_route F.T F.TC c_width_refusal c_all_wires c_told_wire
 have c_length := ok_length (P := P) (w := w) (mg := mg) (base := base) F.d_length F.T F.TC c_width_refusal
 have c_track := ok_track (P := P) (w := w) (mg := mg) (base := base) F.d_track F.T F.TC c_width_refusal c_all_wires c_pieces_along
 have c_read_wires := ok_read_wires (P := P) (w := w) (mg := mg) (base := base) F.d_read_wires F.T
 have c_is_straight := ok_is_straight (P := P) (w := w) (mg := mg) (base := base) F.d_is_straight F.T
 have c_joins := ok_joins (P := P) (w := w) (mg := mg) (base := base) F.d_joins F.T c_is_straight
 have c_keeps_to_tracks := ok_keeps_to_tracks (P := P) (w := w) (mg := mg) (base := base) F.d_keeps_to_tracks F.T
 have c_all_corners := ok_all_corners (P := P) (w := w) (mg := mg) (base := base) F.d_all_corners F.T
 have c_ranks := ok_ranks (P := P) (w := w) (mg := mg) (base := base) F.d_ranks F.T
 have c_hold_places := ok_hold_places (P := P) (w := w) (mg := mg) (base := base) F.d_hold_places F.T
 have c_first_meeting := ok_first_meeting (P := P) (w := w) (mg := mg) (base := base) F.d_first_meeting F.T c_all_corners c_ranks c_hold_places
 have c_what_is_wrong := ok_what_is_wrong (P := P) (w := w) (mg := mg) (base := base) F.d_what_is_wrong F.T c_joins c_keeps_to_tracks c_first_meeting
 have c_check := ok_check (P := P) (w := w) (mg := mg) (base := base) F.d_check F.T F.TC c_is_width c_read_wires c_what_is_wrong
 have c_has_more := ok_has_more (P := P) (w := w) (mg := mg) (base := base) F.d_has_more F.T F.R
 have c_read_number := ok_read_number (P := P) (w := w) (mg := mg) (base := base) F.d_read_number F.T F.R
 have c_read_row := ok_read_row (P := P) (w := w) (mg := mg) (base := base) F.d_read_row F.T F.R c_read_number
 have c_Desk := ok_Desk (P := P) (w := w) (mg := mg) (base := base) F.d_Desk F.TC
 have c_Reader := ok_Reader (P := P) (w := w) (mg := mg) (base := base) F.d_Reader F.R
 obtain ⟨tb, kd, t0, t1, t2, t3, t4, t5, t6, t7, t8, t9, t10, t11, t12, t13, t14, t15, t16, t17, t18⟩ := F.tab
 have e0 := t0.entry (carry_pins c_pins)
 have e1 := t1.entry (carry2 (C := C) c_add (by decide) (λ _ _ _ => rfl) (λ a b vs H Q E h => ⟨a, b, h⟩))
 have e2 := t2.entry (carry1 (C := C) c_away (by decide) (λ _ _ => rfl) (λ a vs H Q E h => ⟨a, h⟩))
 have e3 := t3.entry (carry0 (C := C) c_list_nets (by decide) (λ _ => rfl) (λ vs H Q E h => h))
 have e4 := t4.entry (carry0 (C := C) c_least (by decide) (λ _ => rfl) (λ vs H Q E h => h))
 have e5 := t5.entry (carry1 (C := C) c_fits (by decide) (λ _ _ => rfl) (λ a vs H Q E h => ⟨a, h⟩))
 have e6 := t6.entry (carry1 (C := C) c_range_of (by decide) (λ _ _ => rfl) (λ a vs H Q E h => ⟨a, h⟩))
 have e7 := t7.entry (carry0 (C := C) c_best (by decide) (λ _ => rfl) (λ vs H Q E h => h))
 have e8 := t8.entry (carry1 (C := C) c_shift (by decide) (λ _ _ => rfl) (λ a vs H Q E h => ⟨a, h⟩))
 have e9 := t9.entry (carry2 (C := C) c_wire (by decide) (λ _ _ _ => rfl) (λ a b vs H Q E h => ⟨a, b, h⟩))
 have e10 := t10.entry (carry1 (C := C) c_route (by decide) (λ _ _ => rfl) (λ a vs H Q E h => ⟨a, h⟩))
 have e11 := t11.entry (carry1 (C := C) c_length (by decide) (λ _ _ => rfl) (λ a vs H Q E h => ⟨a, h⟩))
 have e12 := t12.entry (carry2 (C := C) c_track (by decide) (λ _ _ _ => rfl) (λ a b vs H Q E h => ⟨a, b, h⟩))
 have e13 := t13.entry (carry3 (C := C) c_at (by decide) (λ _ _ _ _ => rfl) (λ a b d vs H Q E h => ⟨a, b, d, h⟩))
 have e14 := t14.entry (carry_check c_check)
 have e15 := t15.entry (carry2 (C := C) c_room (by decide) (λ _ _ _ => rfl) (λ a b vs H Q E h => ⟨a, b, h⟩))
 have e16 := t16.entry (carry2 (C := C) c_move (by decide) (λ _ _ _ => rfl) (λ a b vs H Q E h => ⟨a, b, h⟩))
 have e17 := t17.entry (carry0 (C := C) c_turn (by decide) (λ _ => rfl) (λ vs H Q E h => h))
 have e18 := t18.entry (carry0 (C := C) c_mirror (by decide) (λ _ => rfl) (λ vs H Q E h => h))
 have tab : Table P w K mg base C Dc := ⟨tb, kd, λ p n k h => shape_elim (M := Entry P w K mg base C tb) e0 e1 e2 e3 e4 e5 e6 e7 e8 e9 e10 e11 e12 e13 e14 e15 e16 e17 e18 h⟩
 have c_answer_call := ok_answer_call (P := P) (w := w) (mg := mg) (base := base) F.d_answer_call F.T F.R F.hCALLS tab c_read_number c_read_row
 exact ok_answers F.d_answers F.T F.R c_Desk F.m_Desk c_Reader F.m_Reader c_has_more c_answer_call
end
end Pc
end
section
namespace Pc
open PySem PySem.Spec PyProof.Rows L2
section
variable {K : PySem.W.Frag} {mg : Str -> Option Value} {h : Heap}
theorem tab_mk {Dc p0 f0 p1 f1 p2 f2 p3 f3 p4 f4 p5 f5 p6 f6 p7 f7 p8 f8 p9 f9 p10 f10 p11 f11 p12 f12 p13 f13 p14 f14 p15 f15 p16 f16 p17 f17 p18 f18 : Addr} {h0 h1 h2 h3 h4 h5 h6 h7 h8 h9 h10 h11 h12 h13 h14 h15 h16 h17 h18 : Int} {t0 u0 v0 t1 u1 v1 t2 u2 v2 t3 u3 v3 t4 u4 v4 t5 u5 v5 t6 u6 v6 t7 u7 v7 t8 u8 v8 t9 u9 v9 t10 u10 v10 t11 u11 v11 t12 u12 v12 t13 u13 v13 t14 u14 v14 t15 u15 v15 t16 u16 v16 t17 u17 v17 t18 u18 v18 : Tok} {o0 o1 o2 o3 o4 o5 o6 o7 o8 o9 o10 o11 o12 o13 o14 o15 o16 o17 o18 : Option Addr} {s0 s1 s2 s3 s4 s5 s6 s7 s8 s9 s10 s11 s12 s13 s14 s15 s16 s17 s18 : Array (Option Value)} {ep n0 n1 n2 n3 n4 n5 n6 n7 n8 n9 n10 n11 n12 n13 n14 n15 n16 n17 n18 : Nat} (X : K.In h) (G : h.Ns mainGlobals mg)
  (ld : K.lookup Dc = some ⟨.type "dict", Option.none, .dict #[⟨h0, .int 0 t0, .ref p0⟩, ⟨h1, .int 1 t1, .ref p1⟩, ⟨h2, .int 2 t2, .ref p2⟩, ⟨h3, .int 3 t3, .ref p3⟩, ⟨h4, .int 4 t4, .ref p4⟩, ⟨h5, .int 5 t5, .ref p5⟩, ⟨h6, .int 6 t6, .ref p6⟩, ⟨h7, .int 7 t7, .ref p7⟩, ⟨h8, .int 8 t8, .ref p8⟩, ⟨h9, .int 9 t9, .ref p9⟩, ⟨h10, .int 10 t10, .ref p10⟩, ⟨h11, .int 11 t11, .ref p11⟩, ⟨h12, .int 12 t12, .ref p12⟩, ⟨h13, .int 13 t13, .ref p13⟩, ⟨h14, .int 14 t14, .ref p14⟩, ⟨h15, .int 15 t15, .ref p15⟩, ⟨h16, .int 16 t16, .ref p16⟩, ⟨h17, .int 17 t17, .ref p17⟩, ⟨h18, .int 18 t18, .ref p18⟩] ep, #[]⟩) (nm : (Dc == sysModules) = false)
  (q0 : h0 = hashInt 0) (q1 : h1 = hashInt 1) (q2 : h2 = hashInt 2) (q3 : h3 = hashInt 3) (q4 : h4 = hashInt 4) (q5 : h5 = hashInt 5) (q6 : h6 = hashInt 6) (q7 : h7 = hashInt 7) (q8 : h8 = hashInt 8) (q9 : h9 = hashInt 9) (q10 : h10 = hashInt 10) (q11 : h11 = hashInt 11) (q12 : h12 = hashInt 12) (q13 : h13 = hashInt 13) (q14 : h14 = hashInt 14) (q15 : h15 = hashInt 15) (q16 : h16 = hashInt 16) (q17 : h17 = hashInt 17) (q18 : h18 = hashInt 18)
  (a0 : PySem.W.nsIn K mainGlobals "pins" = some (some (.ref f0))) (l0 : K.lookup p0 = some ⟨.type "tuple", o0, .seq #[.ref f0, .int ((0 : Nat) : Int) u0, .int ((2 : Nat) : Int) v0] n0, s0⟩)
  (a1 : PySem.W.nsIn K mainGlobals "add" = some (some (.ref f1))) (l1 : K.lookup p1 = some ⟨.type "tuple", o1, .seq #[.ref f1, .int ((2 : Nat) : Int) u1, .int ((0 : Nat) : Int) v1] n1, s1⟩)
  (a2 : PySem.W.nsIn K mainGlobals "away" = some (some (.ref f2))) (l2 : K.lookup p2 = some ⟨.type "tuple", o2, .seq #[.ref f2, .int ((1 : Nat) : Int) u2, .int ((0 : Nat) : Int) v2] n2, s2⟩)
  (a3 : PySem.W.nsIn K mainGlobals "list_nets" = some (some (.ref f3))) (l3 : K.lookup p3 = some ⟨.type "tuple", o3, .seq #[.ref f3, .int ((0 : Nat) : Int) u3, .int ((0 : Nat) : Int) v3] n3, s3⟩)
  (a4 : PySem.W.nsIn K mainGlobals "least" = some (some (.ref f4))) (l4 : K.lookup p4 = some ⟨.type "tuple", o4, .seq #[.ref f4, .int ((0 : Nat) : Int) u4, .int ((0 : Nat) : Int) v4] n4, s4⟩)
  (a5 : PySem.W.nsIn K mainGlobals "fits" = some (some (.ref f5))) (l5 : K.lookup p5 = some ⟨.type "tuple", o5, .seq #[.ref f5, .int ((1 : Nat) : Int) u5, .int ((0 : Nat) : Int) v5] n5, s5⟩)
  (a6 : PySem.W.nsIn K mainGlobals "range_of" = some (some (.ref f6))) (l6 : K.lookup p6 = some ⟨.type "tuple", o6, .seq #[.ref f6, .int ((1 : Nat) : Int) u6, .int ((0 : Nat) : Int) v6] n6, s6⟩)
  (a7 : PySem.W.nsIn K mainGlobals "best" = some (some (.ref f7))) (l7 : K.lookup p7 = some ⟨.type "tuple", o7, .seq #[.ref f7, .int ((0 : Nat) : Int) u7, .int ((0 : Nat) : Int) v7] n7, s7⟩)
  (a8 : PySem.W.nsIn K mainGlobals "shift" = some (some (.ref f8))) (l8 : K.lookup p8 = some ⟨.type "tuple", o8, .seq #[.ref f8, .int ((1 : Nat) : Int) u8, .int ((0 : Nat) : Int) v8] n8, s8⟩)
  (a9 : PySem.W.nsIn K mainGlobals "wire" = some (some (.ref f9))) (l9 : K.lookup p9 = some ⟨.type "tuple", o9, .seq #[.ref f9, .int ((2 : Nat) : Int) u9, .int ((0 : Nat) : Int) v9] n9, s9⟩)
  (a10 : PySem.W.nsIn K mainGlobals "route" = some (some (.ref f10))) (l10 : K.lookup p10 = some ⟨.type "tuple", o10, .seq #[.ref f10, .int ((1 : Nat) : Int) u10, .int ((0 : Nat) : Int) v10] n10, s10⟩)
  (a11 : PySem.W.nsIn K mainGlobals "length" = some (some (.ref f11))) (l11 : K.lookup p11 = some ⟨.type "tuple", o11, .seq #[.ref f11, .int ((1 : Nat) : Int) u11, .int ((0 : Nat) : Int) v11] n11, s11⟩)
  (a12 : PySem.W.nsIn K mainGlobals "track" = some (some (.ref f12))) (l12 : K.lookup p12 = some ⟨.type "tuple", o12, .seq #[.ref f12, .int ((2 : Nat) : Int) u12, .int ((0 : Nat) : Int) v12] n12, s12⟩)
  (a13 : PySem.W.nsIn K mainGlobals "at" = some (some (.ref f13))) (l13 : K.lookup p13 = some ⟨.type "tuple", o13, .seq #[.ref f13, .int ((3 : Nat) : Int) u13, .int ((0 : Nat) : Int) v13] n13, s13⟩)
  (a14 : PySem.W.nsIn K mainGlobals "check" = some (some (.ref f14))) (l14 : K.lookup p14 = some ⟨.type "tuple", o14, .seq #[.ref f14, .int ((1 : Nat) : Int) u14, .int ((1 : Nat) : Int) v14] n14, s14⟩)
  (a15 : PySem.W.nsIn K mainGlobals "room" = some (some (.ref f15))) (l15 : K.lookup p15 = some ⟨.type "tuple", o15, .seq #[.ref f15, .int ((2 : Nat) : Int) u15, .int ((0 : Nat) : Int) v15] n15, s15⟩)
  (a16 : PySem.W.nsIn K mainGlobals "move" = some (some (.ref f16))) (l16 : K.lookup p16 = some ⟨.type "tuple", o16, .seq #[.ref f16, .int ((2 : Nat) : Int) u16, .int ((0 : Nat) : Int) v16] n16, s16⟩)
  (a17 : PySem.W.nsIn K mainGlobals "turn" = some (some (.ref f17))) (l17 : K.lookup p17 = some ⟨.type "tuple", o17, .seq #[.ref f17, .int ((0 : Nat) : Int) u17, .int ((0 : Nat) : Int) v17] n17, s17⟩)
  (a18 : PySem.W.nsIn K mainGlobals "mirror" = some (some (.ref f18))) (l18 : K.lookup p18 = some ⟨.type "tuple", o18, .seq #[.ref f18, .int ((0 : Nat) : Int) u18, .int ((0 : Nat) : Int) v18] n18, s18⟩)
  : ∃ tb, KDict K Dc tb /\ (Tup K mg tb 0 "pins" 0 2 /\ Tup K mg tb 1 "add" 2 0 /\ Tup K mg tb 2 "away" 1 0 /\ Tup K mg tb 3 "list_nets" 0 0 /\ Tup K mg tb 4 "least" 0 0 /\ Tup K mg tb 5 "fits" 1 0 /\ Tup K mg tb 6 "range_of" 1 0 /\ Tup K mg tb 7 "best" 0 0 /\ Tup K mg tb 8 "shift" 1 0 /\ Tup K mg tb 9 "wire" 2 0 /\ Tup K mg tb 10 "route" 1 0 /\ Tup K mg tb 11 "length" 1 0 /\ Tup K mg tb 12 "track" 2 0 /\ Tup K mg tb 13 "at" 3 0 /\ Tup K mg tb 14 "check" 1 1 /\ Tup K mg tb 15 "room" 2 0 /\ Tup K mg tb 16 "move" 2 0 /\ Tup K mg tb 17 "turn" 0 0 /\ Tup K mg tb 18 "mirror" 0 0) := by
 refine ⟨[(0, p0), (1, p1), (2, p2), (3, p3), (4, p4), (5, p5), (6, p6), (7, p7), (8, p8), (9, p9), (10, p10), (11, p11), (12, p12), (13, p13), (14, p14), (15, p15), (16, p16), (17, p17), (18, p18)], ⟨⟨_, _, _, ld, ⟨rfl, rfl, rfl⟩, rfl, ?_⟩, by show ([0, 1, 2, 3, 4, 5, 6, 7, 8, 9, 10, 11, 12, 13, 14, 15, 16, 17, 18] : List Int).Nodup; decide, nm⟩, tup_mk X G ?_ a0 l0, tup_mk X G ?_ a1 l1, tup_mk X G ?_ a2 l2, tup_mk X G ?_ a3 l3, tup_mk X G ?_ a4 l4, tup_mk X G ?_ a5 l5, tup_mk X G ?_ a6 l6, tup_mk X G ?_ a7 l7, tup_mk X G ?_ a8 l8, tup_mk X G ?_ a9 l9, tup_mk X G ?_ a10 l10, tup_mk X G ?_ a11 l11, tup_mk X G ?_ a12 l12, tup_mk X G ?_ a13 l13, tup_mk X G ?_ a14 l14, tup_mk X G ?_ a15 l15, tup_mk X G ?_ a16 l16, tup_mk X G ?_ a17 l17, tup_mk X G ?_ a18 l18⟩
 ·exact .cons ⟨rfl, q0, rfl⟩ (.cons ⟨rfl, q1, rfl⟩ (.cons ⟨rfl, q2, rfl⟩ (.cons ⟨rfl, q3, rfl⟩ (.cons ⟨rfl, q4, rfl⟩ (.cons ⟨rfl, q5, rfl⟩ (.cons ⟨rfl, q6, rfl⟩ (.cons ⟨rfl, q7, rfl⟩ (.cons ⟨rfl, q8, rfl⟩ (.cons ⟨rfl, q9, rfl⟩ (.cons ⟨rfl, q10, rfl⟩ (.cons ⟨rfl, q11, rfl⟩ (.cons ⟨rfl, q12, rfl⟩ (.cons ⟨rfl, q13, rfl⟩ (.cons ⟨rfl, q14, rfl⟩ (.cons ⟨rfl, q15, rfl⟩ (.cons ⟨rfl, q16, rfl⟩ (.cons ⟨rfl, q17, rfl⟩ (.cons ⟨rfl, q18, rfl⟩ (.nil)))))))))))))))))))
 all_goals simp
theorem facts_mk {P : Program} {w : World} {C CR Dc : Addr} (X : K.In h) (G : h.Ns mainGlobals mg) (T : Txt mg) (aC : PySem.W.nsIn K mainGlobals "Desk" = some (some (.ref C))) (aR : PySem.W.nsIn K mainGlobals "Reader" = some (some (.ref CR))) (aD : PySem.W.nsIn K mainGlobals "CALLS" = some (some (.ref Dc)))
  (TC : DeskC K C) (R : ReadC K CR)
  (d_is_pin : Def K mg "is_pin" s_is_pin)
  (d_is_width : Def K mg "is_width" s_is_width)
  (d_has_net : Def K mg "has_net" s_has_net)
  (d_narrow_net : Def K mg "narrow_net" s_narrow_net)
  (d_least_width : Def K mg "least_width" s_least_width)
  (d_rises_strictly : Def K mg "rises_strictly" s_rises_strictly)
  (d_is_pin_row : Def K mg "is_pin_row" s_is_pin_row)
  (d_shift_bounds : Def K mg "shift_bounds" s_shift_bounds)
  (d_some_shift_does : Def K mg "some_shift_does" s_some_shift_does)
  (d_count_alike : Def K mg "count_alike" s_count_alike)
  (d_rising_corners : Def K mg "rising_corners" s_rising_corners)
  (d_wire_corners : Def K mg "wire_corners" s_wire_corners)
  (d_told_wire : Def K mg "told_wire" s_told_wire)
  (d_width_refusal : Def K mg "width_refusal" s_width_refusal)
  (d_least : Def K mg "least" s_least)
  (d_fits : Def K mg "fits" s_fits)
  (d_range_of : Def K mg "range_of" s_range_of)
  (d_best : Def K mg "best" s_best)
  (d_turn : Def K mg "turn" s_turn)
  (d_shift : Def K mg "shift" s_shift)
  (d_move : Def K mg "move" s_move)
  (d_pins : Def K mg "pins" s_pins)
  (d_add : Def K mg "add" s_add)
  (d_away : Def K mg "away" s_away)
  (d_list_nets : Def K mg "list_nets" s_list_nets)
  (d_mirror : Def K mg "mirror" s_mirror)
  (d_wire : Def K mg "wire" s_wire)
  (d_is_between : Def K mg "is_between" s_is_between)
  (d_has_point : Def K mg "has_point" s_has_point)
  (d_pieces_along : Def K mg "pieces_along" s_pieces_along)
  (d_all_wires : Def K mg "all_wires" s_all_wires)
  (d_room_bounds : Def K mg "room_bounds" s_room_bounds)
  (d_room : Def K mg "room" s_room)
  (d_at : Def K mg "at" s_at)
  (d_route : Def K mg "route" s_route)
  (d_length : Def K mg "length" s_length)
  (d_track : Def K mg "track" s_track)
  (d_read_wires : Def K mg "read_wires" s_read_wires)
  (d_is_straight : Def K mg "is_straight" s_is_straight)
  (d_joins : Def K mg "joins" s_joins)
  (d_keeps_to_tracks : Def K mg "keeps_to_tracks" s_keeps_to_tracks)
  (d_all_corners : Def K mg "all_corners" s_all_corners)
  (d_ranks : Def K mg "ranks" s_ranks)
  (d_hold_places : Def K mg "hold_places" s_hold_places)
  (d_first_meeting : Def K mg "first_meeting" s_first_meeting)
  (d_what_is_wrong : Def K mg "what_is_wrong" s_what_is_wrong)
  (d_check : Def K mg "check" s_check)
  (d_has_more : MDef K CR "has_more" "Reader.has_more" s_Reader_has_more)
  (d_read_number : MDef K CR "read_number" "Reader.read_number" s_Reader_read_number)
  (d_read_row : MDef K CR "read_row" "Reader.read_row" s_Reader_read_row)
  (d_Desk : IDef K C "Desk.__init__" s_Desk___init__)
  (d_Reader : IDef K CR "Reader.__init__" s_Reader___init__)
  (d_answer_call : Def K mg "answer_call" s_answer_call)
  (d_answers : Def K mg "answers" s_answers)
  (tab : ∃ tb, KDict K Dc tb /\ (Tup K mg tb 0 "pins" 0 2 /\ Tup K mg tb 1 "add" 2 0 /\ Tup K mg tb 2 "away" 1 0 /\ Tup K mg tb 3 "list_nets" 0 0 /\ Tup K mg tb 4 "least" 0 0 /\ Tup K mg tb 5 "fits" 1 0 /\ Tup K mg tb 6 "range_of" 1 0 /\ Tup K mg tb 7 "best" 0 0 /\ Tup K mg tb 8 "shift" 1 0 /\ Tup K mg tb 9 "wire" 2 0 /\ Tup K mg tb 10 "route" 1 0 /\ Tup K mg tb 11 "length" 1 0 /\ Tup K mg tb 12 "track" 2 0 /\ Tup K mg tb 13 "at" 3 0 /\ Tup K mg tb 14 "check" 1 1 /\ Tup K mg tb 15 "room" 2 0 /\ Tup K mg tb 16 "move" 2 0 /\ Tup K mg tb 17 "turn" 0 0 /\ Tup K mg tb 18 "mirror" 0 0)) : ∀ base : Heap, Cal P w K mg base "answers" ["calls"] 7 spAnswers :=
 λ _ => all_cal (C := C) (CR := CR) (Dc := Dc) ⟨T, TC, R, PySem.W.mg_of X G aC, PySem.W.mg_of X G aR, PySem.W.mg_of X G aD, d_is_pin, d_is_width, d_has_net, d_narrow_net, d_least_width, d_rises_strictly, d_is_pin_row, d_shift_bounds, d_some_shift_does, d_count_alike, d_rising_corners, d_wire_corners, d_told_wire, d_width_refusal, d_least, d_fits, d_range_of, d_best, d_turn, d_shift, d_move, d_pins, d_add, d_away, d_list_nets, d_mirror, d_wire, d_is_between, d_has_point, d_pieces_along, d_all_wires, d_room_bounds, d_room, d_at, d_route, d_length, d_track, d_read_wires, d_is_straight, d_joins, d_keeps_to_tracks, d_all_corners, d_ranks, d_hold_places, d_first_meeting, d_what_is_wrong, d_check, d_has_more, d_read_number, d_read_row, d_Desk, d_Reader, d_answer_call, d_answers, tab⟩
end
end Pc
end
namespace PySem.W.Fast
def tw5951534777865178181 := 0
def tw12149278193409194620 := 0
def tw17915830316232445047 := 0
def tw9562817320902326556 := 0
def tw2250947728508257618 := 0
def tw1911609171634321473 := 0
def tw9356313464228950323 := 0
def tw16064563033915316989 := 0
def tw8666509372237716956 := 0
def tw11651567711375824342 := 0
def tw361139980036428575 := 0
def tw6242024747826902616 := 0
def tw5530655686086375311 := 0
def tw12061006462632553672 := 0
def tw4540584911763987286 := 0
def tw17653831448995303565 := 0
def tw3314136276629918459 := 0
def tw10702216716048000504 := 0
def tw3371724569702343411 := 0
def tw258089732294600615 := 0
def tw11851859356756795741 := 0
def tw17852823036253752783 := 0
def tw15204753721037918860 := 0
def tw18402167747997706915 := 0
def tw2046557215403996256 := 0
def tw5786893849635037228 := 0
def tw5611381414221447234 := 0
def tw14544426719278880183 := 0
def tw15481531015958547732 := 0
def tw9272305314298898784 := 0
def tw4684779638358427790 := 0
def tw17270933273849701750 := 0
def tw14543636316606796818 := 0
def tw11618675991830258925 := 0
def tw3558414169418515651 := 0
def tw14206907309506535639 := 0
def tw5716580302624389705 := 0
def tw12683774618518457925 := 0
def tw10674953450318169409 := 0
def tw16735341219168972566 := 0
def tw3910560571180377930 := 0
def tw17724831315700614487 := 0
def tw6238341751663195661 := 0
def tw3640108061102914338 := 0
def tw8662375847377245900 := 0
def tw12558313871833037340 := 0
def tw9042461020941372534 := 0
def tw13941060418367517203 := 0
def tw6370616132947677159 := 0
def tw18016978532717172128 := 0
def tw15398638623950431814 := 0
def tw9823323929730683560 := 0
def tw13039962796984036551 := 0
def tw18435842848639601813 := 0
end PySem.W.Fast
section
set_option maxHeartbeats 0
namespace Pcx
open _root_.PySem _root_.PySem.W PyProof.Rows
theorem main : PySem.Challenge.rw_pinchanneldesk_s01_answers.Holds := by
 w_on; k_headS; (case hw => exact ⟨[.list [.int 3]], by decide +kernel, by decide +kernel⟩)
 k_fillS
 refine Pc.walk_one rfl (λ w h Y => kIn_of Y) (λ w => by kernel_rfl) ?F
 case F =>
  intro w mg h KX G
  have T : Pc.Txt mg := by
   refine' ⟨Pc.mg_none KX G ?b0, Pc.mg_none KX G ?b1, Pc.mg_none KX G ?b2, Pc.mg_none KX G ?b3, Pc.mg_none KX G ?b4, Pc.mg_none KX G ?b5, Pc.mg_none KX G ?b6, Pc.mg_none KX G ?b7, Pc.mg_none KX G ?b8, Pc.mg_none KX G ?b9, Pc.mg_none KX G ?b10, Pc.mg_none KX G ?b11, Pc.int_mk KX G ?c0, Pc.int_mk KX G ?c1, Pc.int_mk KX G ?c2, Pc.int_mk KX G ?c3, Pc.int_mk KX G ?c4, Pc.int_mk KX G ?c5, Pc.int_mk KX G ?c6, Pc.int_mk KX G ?c7⟩
   (case b0 => k_is)
   (case b1 => k_is)
   (case b2 => k_is)
   (case b3 => k_is)
   (case b4 => k_is)
   (case b5 => k_is)
   (case b6 => k_is)
   (case b7 => k_is)
   (case b8 => k_is)
   (case b9 => k_is)
   (case b10 => k_is)
   (case b11 => k_is)
   (case c0 => k_is)
   (case c1 => k_is)
   (case c2 => k_is)
   (case c3 => k_is)
   (case c4 => k_is)
   (case c5 => k_is)
   (case c6 => k_is)
   (case c7 => k_is)
  have d_is_pin : Pc.Def _ mg "is_pin" Pc.s_is_pin := Pc.def_mk KX G (by k_is) (by k_is) (by k_is) (by k_is)
  have d_is_width : Pc.Def _ mg "is_width" Pc.s_is_width := Pc.def_mk KX G (by k_is) (by k_is) (by k_is) (by k_is)
  have d_has_net : Pc.Def _ mg "has_net" Pc.s_has_net := Pc.def_mk KX G (by k_is) (by k_is) (by k_is) (by k_is)
  have d_narrow_net : Pc.Def _ mg "narrow_net" Pc.s_narrow_net := Pc.def_mk KX G (by k_is) (by k_is) (by k_is) (by k_is)
  have d_least_width : Pc.Def _ mg "least_width" Pc.s_least_width := Pc.def_mk KX G (by k_is) (by k_is) (by k_is) (by k_is)
  have d_rises_strictly : Pc.Def _ mg "rises_strictly" Pc.s_rises_strictly := Pc.def_mk KX G (by k_is) (by k_is) (by k_is) (by k_is)
  have d_is_pin_row : Pc.Def _ mg "is_pin_row" Pc.s_is_pin_row := Pc.def_mk KX G (by k_is) (by k_is) (by k_is) (by k_is)
  have d_shift_bounds : Pc.Def _ mg "shift_bounds" Pc.s_shift_bounds := Pc.def_mk KX G (by k_is) (by k_is) (by k_is) (by k_is)
  have d_some_shift_does : Pc.Def _ mg "some_shift_does" Pc.s_some_shift_does := Pc.def_mk KX G (by k_is) (by k_is) (by k_is) (by k_is)
  have d_count_alike : Pc.Def _ mg "count_alike" Pc.s_count_alike := Pc.def_mk KX G (by k_is) (by k_is) (by k_is) (by k_is)
  have d_rising_corners : Pc.Def _ mg "rising_corners" Pc.s_rising_corners := Pc.def_mk KX G (by k_is) (by k_is) (by k_is) (by k_is)
  have d_wire_corners : Pc.Def _ mg "wire_corners" Pc.s_wire_corners := Pc.def_mk KX G (by k_is) (by k_is) (by k_is) (by k_is)
  have d_told_wire : Pc.Def _ mg "told_wire" Pc.s_told_wire := Pc.def_mk KX G (by k_is) (by k_is) (by k_is) (by k_is)
  have d_width_refusal : Pc.Def _ mg "width_refusal" Pc.s_width_refusal := Pc.def_mk KX G (by k_is) (by k_is) (by k_is) (by k_is)
  have d_least : Pc.Def _ mg "least" Pc.s_least := Pc.def_mk KX G (by k_is) (by k_is) (by k_is) (by k_is)
  have d_fits : Pc.Def _ mg "fits" Pc.s_fits := Pc.def_mk KX G (by k_is) (by k_is) (by k_is) (by k_is)
  have d_range_of : Pc.Def _ mg "range_of" Pc.s_range_of := Pc.def_mk KX G (by k_is) (by k_is) (by k_is) (by k_is)
  have d_best : Pc.Def _ mg "best" Pc.s_best := Pc.def_mk KX G (by k_is) (by k_is) (by k_is) (by k_is)
  have d_turn : Pc.Def _ mg "turn" Pc.s_turn := Pc.def_mk KX G (by k_is) (by k_is) (by k_is) (by k_is)
  have d_shift : Pc.Def _ mg "shift" Pc.s_shift := Pc.def_mk KX G (by k_is) (by k_is) (by k_is) (by k_is)
  have d_move : Pc.Def _ mg "move" Pc.s_move := Pc.def_mk KX G (by k_is) (by k_is) (by k_is) (by k_is)
  have d_pins : Pc.Def _ mg "pins" Pc.s_pins := Pc.def_mk KX G (by k_is) (by k_is) (by k_is) (by k_is)
  have d_add : Pc.Def _ mg "add" Pc.s_add := Pc.def_mk KX G (by k_is) (by k_is) (by k_is) (by k_is)
  have d_away : Pc.Def _ mg "away" Pc.s_away := Pc.def_mk KX G (by k_is) (by k_is) (by k_is) (by k_is)
  have d_list_nets : Pc.Def _ mg "list_nets" Pc.s_list_nets := Pc.def_mk KX G (by k_is) (by k_is) (by k_is) (by k_is)
  have d_mirror : Pc.Def _ mg "mirror" Pc.s_mirror := Pc.def_mk KX G (by k_is) (by k_is) (by k_is) (by k_is)
  have d_wire : Pc.Def _ mg "wire" Pc.s_wire := Pc.def_mk KX G (by k_is) (by k_is) (by k_is) (by k_is)
  have d_is_between : Pc.Def _ mg "is_between" Pc.s_is_between := Pc.def_mk KX G (by k_is) (by k_is) (by k_is) (by k_is)
  have d_has_point : Pc.Def _ mg "has_point" Pc.s_has_point := Pc.def_mk KX G (by k_is) (by k_is) (by k_is) (by k_is)
  have d_pieces_along : Pc.Def _ mg "pieces_along" Pc.s_pieces_along := Pc.def_mk KX G (by k_is) (by k_is) (by k_is) (by k_is)
  have d_all_wires : Pc.Def _ mg "all_wires" Pc.s_all_wires := Pc.def_mk KX G (by k_is) (by k_is) (by k_is) (by k_is)
  have d_room_bounds : Pc.Def _ mg "room_bounds" Pc.s_room_bounds := Pc.def_mk KX G (by k_is) (by k_is) (by k_is) (by k_is)
  have d_room : Pc.Def _ mg "room" Pc.s_room := Pc.def_mk KX G (by k_is) (by k_is) (by k_is) (by k_is)
  have d_at : Pc.Def _ mg "at" Pc.s_at := Pc.def_mk KX G (by k_is) (by k_is) (by k_is) (by k_is)
  have d_route : Pc.Def _ mg "route" Pc.s_route := Pc.def_mk KX G (by k_is) (by k_is) (by k_is) (by k_is)
  have d_length : Pc.Def _ mg "length" Pc.s_length := Pc.def_mk KX G (by k_is) (by k_is) (by k_is) (by k_is)
  have d_track : Pc.Def _ mg "track" Pc.s_track := Pc.def_mk KX G (by k_is) (by k_is) (by k_is) (by k_is)
  have d_read_wires : Pc.Def _ mg "read_wires" Pc.s_read_wires := Pc.def_mk KX G (by k_is) (by k_is) (by k_is) (by k_is)
  have d_is_straight : Pc.Def _ mg "is_straight" Pc.s_is_straight := Pc.def_mk KX G (by k_is) (by k_is) (by k_is) (by k_is)
  have d_joins : Pc.Def _ mg "joins" Pc.s_joins := Pc.def_mk KX G (by k_is) (by k_is) (by k_is) (by k_is)
  have d_keeps_to_tracks : Pc.Def _ mg "keeps_to_tracks" Pc.s_keeps_to_tracks := Pc.def_mk KX G (by k_is) (by k_is) (by k_is) (by k_is)
  have d_all_corners : Pc.Def _ mg "all_corners" Pc.s_all_corners := Pc.def_mk KX G (by k_is) (by k_is) (by k_is) (by k_is)
  have d_ranks : Pc.Def _ mg "ranks" Pc.s_ranks := Pc.def_mk KX G (by k_is) (by k_is) (by k_is) (by k_is)
  have d_hold_places : Pc.Def _ mg "hold_places" Pc.s_hold_places := Pc.def_mk KX G (by k_is) (by k_is) (by k_is) (by k_is)
  have d_first_meeting : Pc.Def _ mg "first_meeting" Pc.s_first_meeting := Pc.def_mk KX G (by k_is) (by k_is) (by k_is) (by k_is)
  have d_what_is_wrong : Pc.Def _ mg "what_is_wrong" Pc.s_what_is_wrong := Pc.def_mk KX G (by k_is) (by k_is) (by k_is) (by k_is)
  have d_check : Pc.Def _ mg "check" Pc.s_check := Pc.def_mk KX G (by k_is) (by k_is) (by k_is) (by k_is)
  have d_answer_call : Pc.Def _ mg "answer_call" Pc.s_answer_call := Pc.def_mk KX G (by k_is) (by k_is) (by k_is) (by k_is)
  have d_answers : Pc.Def _ mg "answers" Pc.s_answers := Pc.def_mk KX G (by k_is) (by k_is) (by k_is) (by k_is)
  refine' Pc.facts_mk KX G T ?aC ?aR ?aD ⟨Pc.cls_mk ?pg ?hd ?po ?sa, ?nLo, ?nUp⟩ ⟨Pc.cls_mk ?pg2 ?hd2 ?po2 ?sa2, ?nC, ?nP⟩ d_is_pin d_is_width d_has_net d_narrow_net d_least_width d_rises_strictly d_is_pin_row d_shift_bounds d_some_shift_does d_count_alike d_rising_corners d_wire_corners d_told_wire d_width_refusal d_least d_fits d_range_of d_best d_turn d_shift d_move d_pins d_add d_away d_list_nets d_mirror d_wire d_is_between d_has_point d_pieces_along d_all_wires d_room_bounds d_room d_at d_route d_length d_track d_read_wires d_is_straight d_joins d_keeps_to_tracks d_all_corners d_ranks d_hold_places d_first_meeting d_what_is_wrong d_check (Pc.mdef_mk ?a_has_more ?i_has_more ?l_has_more ?c_has_more ?k_has_more) (Pc.mdef_mk ?a_read_number ?i_read_number ?l_read_number ?c_read_number ?k_read_number) (Pc.mdef_mk ?a_read_row ?i_read_row ?l_read_row ?c_read_row ?k_read_row) (Pc.idef_mk ?m_Desk ?kc_Desk ?a_Desk ?i_Desk ?l_Desk ?c_Desk ?k_Desk) (Pc.idef_mk ?m_Reader ?kc_Reader ?a_Reader ?i_Reader ?l_Reader ?c_Reader ?k_Reader) d_answer_call d_answers (Pc.tab_mk KX G ?ld ?nm ?q0 ?q1 ?q2 ?q3 ?q4 ?q5 ?q6 ?q7 ?q8 ?q9 ?q10 ?q11 ?q12 ?q13 ?q14 ?q15 ?q16 ?q17 ?q18 ?ta0 ?tl0 ?ta1 ?tl1 ?ta2 ?tl2 ?ta3 ?tl3 ?ta4 ?tl4 ?ta5 ?tl5 ?ta6 ?tl6 ?ta7 ?tl7 ?ta8 ?tl8 ?ta9 ?tl9 ?ta10 ?tl10 ?ta11 ?tl11 ?ta12 ?tl12 ?ta13 ?tl13 ?ta14 ?tl14 ?ta15 ?tl15 ?ta16 ?tl16 ?ta17 ?tl17 ?ta18 ?tl18)
  (case aC => k_is)
  (case aR => k_is)
  (case aD => k_is)
  (case pg => k_is)
  (case hd => k_is)
  (case po => k_is)
  (case sa => k_is)
  (case nLo => unfold L2.NoAttr; k_is)
  (case nUp => unfold L2.NoAttr; k_is)
  (case pg2 => k_is)
  (case hd2 => k_is)
  (case po2 => k_is)
  (case sa2 => k_is)
  (case nC => unfold L2.NoAttr; k_is)
  (case nP => unfold L2.NoAttr; k_is)
  (case a_has_more => k_is)
  (case i_has_more => k_is)
  (case l_has_more => k_is)
  (case c_has_more => k_is)
  (case k_has_more => k_is)
  (case a_read_number => k_is)
  (case i_read_number => k_is)
  (case l_read_number => k_is)
  (case c_read_number => k_is)
  (case k_read_number => k_is)
  (case a_read_row => k_is)
  (case i_read_row => k_is)
  (case l_read_row => k_is)
  (case c_read_row => k_is)
  (case k_read_row => k_is)
  (case m_Desk => k_is)
  (case kc_Desk => k_is)
  (case a_Desk => k_is)
  (case i_Desk => k_is)
  (case l_Desk => k_is)
  (case c_Desk => k_is)
  (case k_Desk => k_is)
  (case m_Reader => k_is)
  (case kc_Reader => k_is)
  (case a_Reader => k_is)
  (case i_Reader => k_is)
  (case l_Reader => k_is)
  (case c_Reader => k_is)
  (case k_Reader => k_is)
  (case ld => k_is)
  (case nm => rfl)
  (case q0 => rfl)
  (case q1 => rfl)
  (case q2 => rfl)
  (case q3 => rfl)
  (case q4 => rfl)
  (case q5 => rfl)
  (case q6 => rfl)
  (case q7 => rfl)
  (case q8 => rfl)
  (case q9 => rfl)
  (case q10 => rfl)
  (case q11 => rfl)
  (case q12 => rfl)
  (case q13 => rfl)
  (case q14 => rfl)
  (case q15 => rfl)
  (case q16 => rfl)
  (case q17 => rfl)
  (case q18 => rfl)
  (case ta0 => k_is)
  (case tl0 => k_is)
  (case ta1 => k_is)
  (case tl1 => k_is)
  (case ta2 => k_is)
  (case tl2 => k_is)
  (case ta3 => k_is)
  (case tl3 => k_is)
  (case ta4 => k_is)
  (case tl4 => k_is)
  (case ta5 => k_is)
  (case tl5 => k_is)
  (case ta6 => k_is)
  (case tl6 => k_is)
  (case ta7 => k_is)
  (case tl7 => k_is)
  (case ta8 => k_is)
  (case tl8 => k_is)
  (case ta9 => k_is)
  (case tl9 => k_is)
  (case ta10 => k_is)
  (case tl10 => k_is)
  (case ta11 => k_is)
  (case tl11 => k_is)
  (case ta12 => k_is)
  (case tl12 => k_is)
  (case ta13 => k_is)
  (case tl13 => k_is)
  (case ta14 => k_is)
  (case tl14 => k_is)
  (case ta15 => k_is)
  (case tl15 => k_is)
  (case ta16 => k_is)
  (case tl16 => k_is)
  (case ta17 => k_is)
  (case tl17 => k_is)
  (case ta18 => k_is)
  (case tl18 => k_is)
end Pcx
end
theorem PySem.Challenge.cw_pinchanneldesk_s01_answers_holds : PySem.Challenge.rw_pinchanneldesk_s01_answers.Holds := by
 exact Pcx.main
