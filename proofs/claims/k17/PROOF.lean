import PyProof.Rows.All
import Wide.All
import OpenK.AllK
import Wide.FinOn
import PyProof.EqAt
import PyProof.EqKinds
import PyProof.TupleCall
import KE.BitLaws
import KE.KTryMore
import PyProof.NsDelKeeps
import KE.KNest
import PyProof.GenQ
import PyProof.GenArm
import KE.KSortTup
import PySem.SetOps
import PyProof.Rows.SetFrom
import KE.KSortTupG
import PyProof.DictCompW
import PyProof.SetRoads
import PySem.Challenge.RW_namelesshall_k17_the_same_but_for_number
set_option Elab.async false
set_option linter.all false
set_option maxRecDepth 100000
namespace L2
open PySem PySem.Spec PyProof.Rows
abbrev Key := Sum Int Str
def keyIs : Key → Value → Bool
  | .inl k, v => Value.isInt k v
  | .inr x, v => Value.isStrOf x v
def keyH (w : World) : Key → Int
  | .inl k => hashInt k
  | .inr x => hashStr w x
theorem keyIs_shape : ∀ {k : Key} {v : Value}, keyIs k v = true → (∃ i t, k = Sum.inl i ∧ v = Value.int i t) ∨ (∃ x t, k = Sum.inr x ∧ v = Value.str x t)
  | .inl i, v, h => by
    obtain ⟨t, e⟩ := Value.isInt_shape (k := i) (v := v) h
    exact .inl ⟨i, t, rfl, e⟩
  | .inr x, v, h => by
    obtain ⟨t, e⟩ := Value.isStrOf_shape (x := x) (v := v) h
    exact .inr ⟨x, t, rfl, e⟩
theorem keyIs_int (i : Int) (t : Tok) : keyIs (.inl i) (.int i t) = true := by simp [keyIs, Value.isInt]
theorem keyIs_str (x : Str) (t : Tok) : keyIs (.inr x) (.str x t) = true := by simp [keyIs, Value.isStrOf]
theorem key_ll (a b : Int) : decide ((Sum.inl a : Key) = Sum.inl b) = (a == b) := by
  by_cases e : a = b
  · subst e; simp
  · have h : ¬ (Sum.inl a : Key) = Sum.inl b := fun q => e (Sum.inl.inj q)
    rw [decide_eq_false h]
    exact (beq_eq_false_iff_ne.mpr e).symm
theorem key_rr (a b : Str) : decide ((Sum.inr a : Key) = Sum.inr b) = decide (a = b) := by
  by_cases e : a = b
  · subst e; simp
  · have h : ¬ (Sum.inr a : Key) = Sum.inr b := fun q => e (Sum.inr.inj q)
    rw [decide_eq_false h, decide_eq_false e]
theorem key_lr (a : Int) (b : Str) : decide ((Sum.inl a : Key) = Sum.inr b) = false := decide_eq_false (fun q => nomatch q)
theorem key_rl (a : Str) (b : Int) : decide ((Sum.inr a : Key) = Sum.inl b) = false := decide_eq_false (fun q => nomatch q)
def mixKind (prog : Program) (w : World) : PySem.KeyKind prog w Key where
  is := keyIs
  hash := keyH w
  inj := fun v a b ha hb => by
    rcases keyIs_shape ha with ⟨i, t, rfl, rfl⟩ | ⟨x, t, rfl, rfl⟩
    · rcases keyIs_shape hb with ⟨j, u, rfl, e⟩ | ⟨y, u, rfl, e⟩
      · injection e with e1 _; rw [e1]
      · exact nomatch e
    · rcases keyIs_shape hb with ⟨j, u, rfl, e⟩ | ⟨y, u, rfl, e⟩
      · exact nomatch e
      · injection e with e1 _; rw [e1]
  byValue := fun k v h => by
    rcases keyIs_shape h with ⟨i, t, rfl, rfl⟩ | ⟨x, t, rfl, rfl⟩ <;> rfl
  pyHash := fun hv h => by
    rcases keyIs_shape hv with ⟨i, t, rfl, rfl⟩ | ⟨x, t, rfl, rfl⟩
    · exact wpAny_pyHash_int h
    · exact wpAny_pyHash_str h
  eqBool := fun hu hv h => by
    rcases keyIs_shape hu with ⟨i, t, rfl, rfl⟩ | ⟨x, t, rfl, rfl⟩
    · rcases keyIs_shape hv with ⟨j, u, rfl, rfl⟩ | ⟨y, u, rfl, rfl⟩
      · rw [key_ll] at h; exact wpAny_eqBool_int h
      · rw [key_lr] at h; exact SeqAt.EqAt.int_str i t y u _ _ _ _ h
    · rcases keyIs_shape hv with ⟨j, u, rfl, rfl⟩ | ⟨y, u, rfl, rfl⟩
      · rw [key_rl] at h; exact SeqAt.EqAt.str_int x t j u _ _ _ _ h
      · rw [key_rr] at h; exact wpAny_eqBool_str h
  «strs» := fun k x t v h => by
    rcases keyIs_shape h with ⟨i, u, rfl, e⟩ | ⟨y, u, rfl, e⟩
    · exact nomatch e
    · injection e with e1 _
      subst e1
      cases v <;> rfl
theorem mixKind_int (prog : Program) (w : World) (i : Int) (t : Tok) : (mixKind prog w).is (.inl i) (.int i t) = true := keyIs_int i t
theorem mixKind_str (prog : Program) (w : World) (x : Str) (t : Tok) : (mixKind prog w).is (.inr x) (.str x t) = true := keyIs_str x t
end L2
namespace L2
open PySem PySem.Spec PyProof.Rows
inductive V where
  | non | bl (b : Bool) | int (i : Int) | str (x : Str) | byt (b : Array UInt8) | flt (b : UInt64) | ref (a : Addr) | ty (n : String)
  deriving DecidableEq
def RelV : V → Value → Prop
  | .non, u => u = Value.none
  | .bl b, u => u = Value.bool b
  | .int i, u => ∃ t, u = Value.int i t
  | .str x, u => ∃ t, u = Value.str x t
  | .byt b, u => ∃ t, u = Value.bytes b t
  | .flt b, u => ∃ t, u = Value.float b t
  | .ref a, u => u = Value.ref a
  | .ty n, u => u = Value.type n
abbrev Vals : List V → List Value → Prop := Paired RelV
theorem Vals.length {xs : List V} {us : List Value} (r : Vals xs us) : xs.length = us.length := Paired.length r
theorem Vals.get : ∀ {xs : List V} {us : List Value} {i : Nat} {x : V}, Vals xs us → xs[i]? = some x → ∃ u, us[i]? = some u ∧ RelV x u
  | _, _, _, _, .nil, e => by simp at e
  | _, _, 0, _, .cons r _, e => by simp at e; subst e; exact ⟨_, rfl, r⟩
  | _, _, i + 1, x, .cons _ t, e => by
    obtain ⟨u, h1, h2⟩ := Vals.get (i := i) (x := x) t (by simpa using e)
    exact ⟨u, by simpa using h1, h2⟩
theorem Vals.set {x : V} {u : Value} (r : RelV x u) : ∀ {xs : List V} {us : List Value} (i : Nat), Vals xs us → Vals (xs.set i x) (us.set i u)
  | _, _, _, .nil => .nil
  | _, _, 0, .cons _ t => .cons r t
  | _, _, i + 1, .cons q t => .cons q (Vals.set r i t)
theorem Vals.append : ∀ {xs ys : List V} {us ws : List Value}, Vals xs us → Vals ys ws → Vals (xs ++ ys) (us ++ ws)
  | _, _, _, _, .nil, s => s
  | _, _, _, _, .cons r t, s => .cons r (Vals.append t s)
theorem Vals.take : ∀ {xs : List V} {us : List Value} (n : Nat), Vals xs us → Vals (xs.take n) (us.take n)
  | _, _, 0, _ => .nil
  | _, _, _ + 1, .nil => .nil
  | _, _, n + 1, .cons r t => .cons r (Vals.take n t)
theorem Vals.drop : ∀ {xs : List V} {us : List Value} (n : Nat), Vals xs us → Vals (xs.drop n) (us.drop n)
  | _, _, 0, r => r
  | _, _, _ + 1, .nil => .nil
  | _, _, n + 1, .cons _ t => Vals.drop n t
def RelO : Option V → Option Value → Prop
  | some v, some u => RelV v u
  | none, none => True
  | _, _ => False
def KV {κ : Type} : List (κ × V) → List (κ × Value) → Prop := Paired fun (p : κ × V) (q : κ × Value) => p.1 = q.1 ∧ RelV p.2 q.2
def kV : Key → V
  | .inl i => .int i
  | .inr x => .str x
inductive HO where
  /-- a list -/
  | lst (xs : List V)
  /-- a tuple (never changes) -/
  | tup (xs : List V)
  /-- a dict whose keys are ints and texts; one whose keys are tuples of ints and texts (the empty one is both) -/
  | dK (kvs : List (Key × V)) | dT (kvs : List (List Key × V))
  /-- a set of ints: its members, its size -/
  | set (S : Int → Bool) (n : Nat)
  /-- an instance of the class at C, its dict at dx, its attributes -/
  | ins (C dx : Addr) (fs : List (Str × V))
  /-- the dict of the instance at x -/
  | own (x : Addr)
  /-- the dict of an exception -/
  | xd (fs : List (Str × V))
  /-- a bound method, f of x -/
  | met (f x : Addr)
  /-- a range object lo, lo + 1, .. below hi -/
  | rng (lo hi : Int)
  /-- a thing that is known to the object (the script; a dict while a loop walks it): read, never written while it is so -/
  | frz (o : Obj) (u : HO)
  /-- a code object's table -/
  | tbl (ps : Array Value)
  /-- any other thing, by what is true of its one object (a def of one's own: SetO a S n := HO.ext fun h => ..) -/
  | ext (φ : Heap → Prop)
abbrev Hp := Addr → Option HO
def upd (H : Hp) (a : Addr) (o : HO) : Hp := fun b => if b = a then some o else H b
theorem upd_same {H : Hp} {a : Addr} {o : HO} : upd H a o a = some o := by unfold upd; rw [if_pos rfl]
theorem upd_ne {H : Hp} {a b : Addr} {o : HO} (h : b ≠ a) : upd H a o b = H b := by unfold upd; rw [if_neg h]
theorem ne_of {H : Hp} {a b : Addr} {o u : HO} (h : H a = some o) (h' : H b = some u) (d : o ≠ u) : a ≠ b := by
  intro e; subst e; rw [h] at h'; exact d (Option.some.inj h')
theorem ne_of_none {H : Hp} {a b : Addr} {o : HO} (h : H a = some o) (h' : H b = none) : a ≠ b := by
  intro e; subst e; rw [h] at h'; cases h'
section
variable (P : Program) (w : World)
def ObjOk (H : Hp) (h : Heap) (a : Addr) : HO → Prop
  | .lst xs => xs.length ≤ sizeLine ∧ ∃ (its : List Value) (n : Nat), Vals xs its ∧ h.get? a = some { cls := .type "list", data := .seq its.toArray n }
  | .tup xs => xs.length ≤ sizeLine ∧ ∃ its : List Value, Vals xs its ∧ IsTup h a its.toArray
  | .dK kvs => kvs.length ≤ sizeLine ∧ (a == sysModules) = false ∧ ∃ vs, KV kvs vs ∧ h.DictOf (mixKind P w) a vs
  | .dT kvs => kvs.length ≤ sizeLine ∧ (a == sysModules) = false ∧ ∃ xs : List (List Key × Addr × Value),
      Paired (fun (p : List Key × V) (q : List Key × Addr × Value) => p.1 = q.1 ∧ H q.2.1 = some (.tup (p.1.map kV)) ∧ RelV p.2 q.2.2) kvs xs ∧
      ∃ o es ep, h.get? a = some o ∧ o.ExactDict ∧ o.data = .dict es ep ∧ es.toList = xs.map (entryOfKey (tupleKind (mixKind P w))) ∧ (xs.map (·.1)).Nodup
  | .set S n => h.SetOf (intKind P w) a S n
  | .ins C dx fs => H dx = some (.own a) ∧ fs.length ≤ 1000 ∧ dx ≠ a ∧ h.get? a = some (PySem.W.instObj C dx) ∧
      ∃ mA, h.Ns1 dx mA ∧ (∀ f, RelO (fs.lookup f) (mA f)) ∧ PySem.Within mA (fs.map (·.1))
  | .own _ => ∃ o, h.get? a = some o
  | .xd fs => ∃ mA, h.Ns1 a mA ∧ (∀ f, RelO (fs.lookup f) (mA f)) ∧ PySem.Within mA (fs.map (·.1)) ∧ fs.length ≤ 1000
  | .rng lo hi => ∃ t u v, h.get? a = some { cls := .type "range", data := .fields #[.int lo t, .int hi u, .int 1 v] }
  | .frz o u => h.get? a = some o ∧ ObjOk H h a u
  | .tbl ps => h.get? a = some { cls := .none, data := .fields ps }
  | .met f x => h.get? a = some (PySem.W.methodObj (.ref f) (.ref x))
  | .ext φ => φ h ∧ (∃ o, h.get? a = some o) ∧ ∀ h1 h2 : Heap, φ h1 → (∀ o, h1.get? a = some o → h2.get? a = some o) → φ h2
def HOk (H : Hp) (h : Heap) : Prop := ∀ a o, H a = some o → ObjOk P w H h a o
end
section
variable {P : Program} {w : World} {H H' : Hp} {h h' : Heap} {a : Addr} {o : HO}
theorem ObjOk.lt (x : ObjOk P w H h a o) : a < h.objs.size := by
  cases o with
  | lst xs => obtain ⟨_, _, _, _, e⟩ := x; exact Heap.lt_size e
  | tup xs => obtain ⟨_, _, _, p⟩ := x; exact p.lt
  | dK kvs => obtain ⟨_, _, _, _, o, _, _, e, _⟩ := x; exact Heap.lt_size e
  | dT kvs => obtain ⟨_, _, _, _, o, _, _, e, _⟩ := x; exact Heap.lt_size e
  | set S n => obtain ⟨o, _, _, _, e, _⟩ := x; exact Heap.lt_size e
  | ins C dx fs => obtain ⟨_, _, _, e, _⟩ := x; exact Heap.lt_size e
  | own y => obtain ⟨_, e⟩ := x; exact Heap.lt_size e
  | xd fs => obtain ⟨_, ⟨_, _, _, e, _⟩, _⟩ := x; exact Heap.lt_size e
  | rng lo hi => obtain ⟨_, _, _, e⟩ := x; exact Heap.lt_size e
  | frz ob u => obtain ⟨e, _⟩ := x; exact Heap.lt_size e
  | tbl ps => exact Heap.lt_size (show h.get? a = some _ from x)
  | met f y => exact Heap.lt_size (show h.get? a = some _ from x)
  | ext φ => obtain ⟨_, ⟨_, e⟩, _⟩ := x; exact Heap.lt_size e
theorem Paired.mapP {α β : Type} {F G : α → β → Prop} : ∀ {l₁ : List α} {l₂ : List β}, Paired F l₁ l₂ → (∀ a b, F a b → G a b) → Paired G l₁ l₂
  | _, _, .nil, _ => .nil
  | _, _, .cons r t, f => .cons (f _ _ r) (Paired.mapP t f)
theorem ObjOk.stay (x : ObjOk P w H h a o) (k : ∀ b u, (b = a ∨ H b = some (.own a)) → h.get? b = some u → h'.get? b = some u)
    (ho : ∀ b, H b = some (.own a) → H' b = some (.own a)) (ht : ∀ b xs, H b = some (.tup xs) → H' b = some (.tup xs)) : ObjOk P w H' h' a o := by
  induction o with
  | lst xs => obtain ⟨z, its, n, r, e⟩ := x; exact ⟨z, its, n, r, k _ _ (.inl rfl) e⟩
  | tup xs => obtain ⟨z, its, r, ob, e, c⟩ := x; exact ⟨z, its, r, ob, k _ _ (.inl rfl) e, c⟩
  | dK kvs => obtain ⟨z, y, vs, r, ob, es, ep, e, c⟩ := x; exact ⟨z, y, vs, r, ob, es, ep, k _ _ (.inl rfl) e, c⟩
  | dT kvs =>
    obtain ⟨z, y, xs, r, ob, es, ep, e, c⟩ := x
    exact ⟨z, y, xs, Paired.mapP r fun p q z => ⟨z.1, ht _ _ z.2.1, z.2.2⟩, ob, es, ep, k _ _ (.inl rfl) e, c⟩
  | set S n => obtain ⟨ob, es, ep, t, e, c⟩ := x; exact ⟨ob, es, ep, t, k _ _ (.inl rfl) e, c⟩
  | ins C dx fs =>
    obtain ⟨d, z, ne, e, mA, ⟨od, es, ep, e2, c⟩, r⟩ := x
    exact ⟨ho _ d, z, ne, k _ _ (.inl rfl) e, mA, ⟨od, es, ep, k _ _ (.inr d) e2, c⟩, r⟩
  | own y => obtain ⟨ob, e⟩ := x; exact ⟨ob, k _ _ (.inl rfl) e⟩
  | xd fs => obtain ⟨mA, ⟨od, es, ep, e, c⟩, r⟩ := x; exact ⟨mA, ⟨od, es, ep, k _ _ (.inl rfl) e, c⟩, r⟩
  | rng lo hi => obtain ⟨t, u, v, e⟩ := x; exact ⟨t, u, v, k _ _ (.inl rfl) e⟩
  | frz ob u ih => obtain ⟨e, q⟩ := x; exact ⟨k _ _ (.inl rfl) e, ih q⟩
  | tbl ps =>
    have e : h.get? a = some { cls := .none, data := .fields ps } := x
    show h'.get? a = some { cls := .none, data := .fields ps }
    exact k a _ (.inl rfl) e
  | met f y =>
    have e : h.get? a = some (PySem.W.methodObj (.ref f) (.ref y)) := x
    show h'.get? a = some (PySem.W.methodObj (.ref f) (.ref y))
    exact k a _ (.inl rfl) e
  | ext φ => obtain ⟨p, ⟨o, e⟩, st⟩ := x; exact ⟨st _ _ p fun o q => k _ _ (.inl rfl) q, ⟨o, k _ _ (.inl rfl) e⟩, st⟩
theorem HOk.lt (x : HOk P w H h) (e : H a = some o) : a < h.objs.size := (x a o e).lt
theorem HOk.fresh (x : HOk P w H h) (e : h.objs.size ≤ a) : H a = none := by
  cases q : H a with
  | none => rfl
  | some u => exact absurd (Nat.lt_of_lt_of_le (x.lt q) e) (Nat.lt_irrefl _)
theorem HOk.kept (x : HOk P w H h) (k : ∀ b u, h.get? b = some u → h'.get? b = some u) : HOk P w H h' := fun a o e =>
  (x a o e).stay (fun b u _ q => k b u q) (fun _ q => q) fun _ _ q => q
theorem HOk.laid (x : HOk P w H h) (k : ∀ b u, h.get? b = some u → h'.get? b = some u) (hp : h.objs.size ≤ a) (new : ObjOk P w (upd H a o) h' a o) : HOk P w (upd H a o) h' := fun b u e => by
  have hn := x.fresh hp
  by_cases hb : b = a
  · subst hb; rw [upd_same] at e; cases e; exact new
  · rw [upd_ne hb] at e
    exact (x b u e).stay (fun c v _ q => k c v q) (fun c q => by rw [upd_ne (ne_of_none q hn)]; exact q) fun c xs q => by rw [upd_ne (ne_of_none q hn)]; exact q
end
def Rd (H : Hp) (a : Addr) (u : HO) : Prop := H a = some u ∨ ∃ o, H a = some (.frz o u)
theorem Rd.ok {P : Program} {w : World} {H : Hp} {h : Heap} {a : Addr} {u : HO} (r : Rd H a u) (x : HOk P w H h) : ObjOk P w H h a u := by
  rcases r with r | ⟨o, r⟩
  · exact x a u r
  · obtain ⟨_, q⟩ := x a _ r
    exact q
def Mut : Option HO → Prop
  | some (.lst _) => True
  | some (.dK _) => True
  | some (.dT _) => True
  | some (.set _ _) => True
  | some (.ins _ _ _) => True
  | some (.xd _) => True
  | some (.ext _) => True
  | _ => False
section
variable {P : Program} {w : World} {H : Hp} {h h' : Heap} {x e : Addr} {o' : HO}
theorem HOk.write (ok : HOk P w H h) (mu : Mut (H x)) (he : e = x ∨ H e = some (.own x)) (k : ∀ b u, b ≠ e → h.get? b = some u → h'.get? b = some u) (heo : ∃ u, h'.get? e = some u)
    (new : ObjOk P w (upd H x o') h' x o') : HOk P w (upd H x o') h' := fun b u q => by
  have nown : ∀ c y, H c = some (.own y) → c ≠ x := fun c y r z => by subst z; rw [r] at mu; exact mu
  have ntup : ∀ c xs, H c = some (.tup xs) → c ≠ x := fun c xs r z => by subst z; rw [r] at mu; exact mu
  by_cases hb : b = x
  · subst hb; rw [upd_same] at q; cases q; exact new
  · rw [upd_ne hb] at q
    by_cases hbe : b = e
    · have q' : H b = some (.own x) := by
        rcases he with z | z
        · exact absurd (hbe.trans z) hb
        · rw [hbe]; exact z
      rw [q] at q'; cases q'
      obtain ⟨v, hv⟩ := heo
      exact ⟨v, by rw [hbe]; exact hv⟩
    · refine (ok b u q).stay (fun c v hc r => k c v ?_ r) (fun c r => by rw [upd_ne (nown c b r)]; exact r) fun c xs r => by rw [upd_ne (ntup c xs r)]; exact r
      rcases hc with rfl | hc
      · exact hbe
      · rintro rfl
        rcases he with z | z
        · exact nown c b hc z
        · rw [hc] at z; cases z; exact hb rfl
end
structure Un (fs ex : List Addr) (H H' : Hp) (h h' : Heap) : Prop where
  keep : ∀ b o, h.get? b = some o → H b = none → b ∉ fs → b ∉ ex → h'.get? b = some o
  slot : ∀ b o, h.get? b = some o → H b = none → b ∈ fs → b ∉ ex → ∃ sl, h'.get? b = some { o with slots := sl }
  free : ∀ b o, h.get? b = some o → H b = none → b ∉ ex → H' b = none
  there : ∀ b o, h.get? b = some o → b ∉ ex → ∃ o', h'.get? b = some o'
  tups : ∀ b xs, H b = some (.tup xs) → H' b = some (.tup xs)
  frzs : ∀ b o u, H b = some (.frz o u) → H' b = some (.frz o u)
  tbls : ∀ b ps, H b = some (.tbl ps) → ∃ more, H' b = some (.tbl (ps ++ more))
section
variable {fs fs' ex ex' : List Addr} {H H1 H2 : Hp} {h h1 h2 h' : Heap} {a x e : Addr} {o : HO}
theorem Un.any (u : Un fs ex H H1 h h1) {b : Addr} {ob : Obj} (q : h.get? b = some ob) (n : H b = none) (hx : b ∉ ex) : ∃ sl, h1.get? b = some { ob with slots := sl } := by
  by_cases hb : b ∈ fs
  · exact u.slot b ob q n hb hx
  · exact ⟨ob.slots, u.keep b ob q n hb hx⟩
theorem Un.kept (k : ∀ b u, h.get? b = some u → h'.get? b = some u) : Un fs ex H H h h' :=
  ⟨fun b ob q _ _ _ => k b ob q, fun b ob q _ _ _ => ⟨ob.slots, k b ob q⟩, fun _ _ _ n _ => n, fun b ob q _ => ⟨ob, k b ob q⟩, fun _ _ q => q, fun _ _ _ q => q, fun _ ps q => ⟨#[], by rw [q]; simp⟩⟩
theorem Un.refl : Un fs ex H H h h := Un.kept fun _ _ q => q
theorem Un.laid (k : ∀ b u, h.get? b = some u → h'.get? b = some u) (hp : h.objs.size ≤ a) (hn : H a = none) : Un fs ex H (upd H a o) h h' where
  keep := fun b u q _ _ _ => k b u q
  slot := fun b u q _ _ _ => ⟨u.slots, k b u q⟩
  free := fun b u q n _ => by rw [upd_ne (Nat.ne_of_lt (Nat.lt_of_lt_of_le (Heap.lt_size q) hp))]; exact n
  there := fun b u q _ => ⟨u, k b u q⟩
  tups := fun b xs q => by rw [upd_ne (ne_of_none q hn)]; exact q
  frzs := fun b u xs q => by rw [upd_ne (ne_of_none q hn)]; exact q
  tbls := fun b ps q => ⟨#[], by rw [upd_ne (ne_of_none q hn), q]; simp⟩
theorem Un.write (mu : Mut (H x)) (he : e = x ∨ H e = some (.own x)) (k : ∀ b u, b ≠ e → h.get? b = some u → h'.get? b = some u) (heo : ∃ u, h'.get? e = some u) : Un fs ex H (upd H x o) h h' := by
  have hx : ∀ b, H b = none → b ≠ x := fun b n z => by subst z; rw [n] at mu; exact mu
  have hb : ∀ b, H b = none → b ≠ e := fun b n z => by
    subst z
    rcases he with r | r
    · exact hx b n r
    · rw [n] at r; cases r
  have hm : ∀ b u, H b = some u → ¬ Mut (some u) → b ≠ x := fun b u q nm z => by subst z; rw [q] at mu; exact nm mu
  refine ⟨fun b u q n _ _ => k b u (hb b n) q, fun b u q n _ _ => ⟨u.slots, k b u (hb b n) q⟩, fun b u q n _ => by rw [upd_ne (hx b n)]; exact n, fun b u q _ => ?_,
    fun b xs q => by rw [upd_ne (hm b _ q fun z => z)]; exact q, fun b u xs q => by rw [upd_ne (hm b _ q fun z => z)]; exact q, fun b ps q => ⟨#[], by rw [upd_ne (hm b _ q fun z => z), q]; simp⟩⟩
  by_cases hbe : b = e
  · subst hbe; exact heo
  · exact ⟨u, k b u hbe q⟩
end
def trk (h : Heap) (H : Hp) : List Addr := (List.range h.objs.size).filter fun a => (H a).isSome
def hidT (h : Heap) (H : Hp) : Heap := PySem.W.hideAll h (trk h H)
theorem hidT_size (h : Heap) (H : Hp) : (hidT h H).objs.size = h.objs.size := PySem.W.hideAll_size _ _
theorem hidT_get {h : Heap} {H : Hp} {b : Addr} {o : Obj} (e : h.get? b = some o) (n : H b = none) : (hidT h H).get? b = some o :=
  PySem.W.hideAll_get _ e fun hm => by
    have q : (H b).isSome = true := (List.mem_filter.mp hm).2
    rw [n] at q; simp at q
theorem of_hidT {h : Heap} {H : Hp} {b : Addr} {o : Obj} (e : (hidT h H).get? b = some o) : h.get? b = some o ∧ H b = none := by
  have e' : h.get? b = some o := PySem.W.of_hideAll (trk h H) e
  refine ⟨e', ?_⟩
  cases q : H b with
  | none => rfl
  | some x =>
    have hm : b ∈ trk h H := List.mem_filter.mpr ⟨List.mem_range.mpr (Heap.lt_size e'), by simp [q]⟩
    have z : (hidT h H).get? b = none := PySem.W.hideAll_none (trk h H) hm
    rw [z] at e; cases e
end L2
namespace L2
open PySem PySem.Spec PyProof.Rows
structure Mod (K : PySem.W.Frag) (mg : Str → Option Value) (base : Heap) : Prop where
  kin : K.In base
  glob : base.Ns mainGlobals mg
  blt : ∃ mb, base.Ns builtinsNs mb ∧ ∀ x : Str, x ≠ "__name__" → mb x = bootBuiltins x
  nolimit : base.NoLimit
structure Cx where
  prog : Program
  w : World
  K : PySem.W.Frag
  mg : Str → Option Value
  base : Heap
  A : Around
  N : List Str
  s_0 : Shared
  H_0 : Hp
  env : Env
  outer : List Env
  stack : List Env
  ex : List Addr
  fn : Str → Bool
  calm : Bool
  pn : List (Addr × Obj)
  xe : Value → Shared → Prop
def frs (l : List Env) : List Addr := l.filterMap (·.frame)
abbrev Cx.fs (X : Cx) : List Addr := frs X.outer
def Vis (sc : Scope) (x : Str) : Prop := sc.names.lookup x = some .local ∨ sc.names.lookup x = some .cell ∨ sc.names.lookup x = some .free
def Loc (sc : Scope) (x : Str) : Prop := sc.names.lookup x = some .local ∨ sc.names.lookup x = some .cell
def Look (env : Env) (h : Heap) (m : Str → Option Value) (x : Str) (u : Value) : Prop :=
  (env.kindOf x = some .local ∧ m x = some u) ∨ ((env.kindOf x = some .cell ∨ env.kindOf x = some .free) ∧ ∃ c, env.cells.lookup x = some c ∧ h.IsCell c (some u))
structure Cx.Ok (X : Cx) : Prop where
  mod : Mod X.K X.mg X.base
  kind : X.env.scope.kind = .function
  glob : X.env.globals = mainGlobals
  blt : X.env.builtins = builtinsNs
  above : X.s_0.heap.objs.size ≤ X.env.locals
  inj : ∀ x y c, X.env.cells.lookup x = some c → X.env.cells.lookup y = some c → x = y
  has : ∀ x, (X.env.kindOf x = some .cell ∨ X.env.kindOf x = some .free) → ∃ c, X.env.cells.lookup x = some c
  cab : ∀ x c, X.fn x = true → X.env.cells.lookup x = some c → X.s_0.heap.objs.size ≤ c
  hd : X.calm = true → X.A.handled = none
  frames : X.A.frames = some X.stack
  stk : X.stack = X.outer ∨ (X.stack = X.env :: X.outer ∧ X.env.frame = some X.env.locals)
  exf : ∀ b ∈ X.ex, b ≠ X.env.locals ∧ ∀ x c, X.env.cells.lookup x = some c → c ≠ b
  bs : ∀ b o, X.base.get? b = some o → X.s_0.heap.get? b = some o ∧ X.H_0 b = none
  bsz : X.base.objs.size ≤ X.s_0.heap.objs.size
  noex : ∀ b o, X.base.get? b = some o → b ∉ X.ex
  exfs : ∀ b ∈ X.ex, b ∉ X.fs
  funs : X.s_0.heap.FunFrames X.base X.outer
  frf : ∀ b ∈ X.fs, X.H_0 b = none
structure Inv (X : Cx) (pins : List (Addr × Obj)) (σ : List (Option V)) (H : Hp) (s : Shared) : Prop where
  ok : X.Ok
  os : s.os = X.s_0.os
  bare : AllBare s.gens
  base : Un X.fs X.ex X.H_0 H X.s_0.heap s.heap
  loc : ∃ m, s.heap.Ns X.env.locals m ∧ ∀ (i : Nat) (x : Str) (v : V), X.N[i]? = some x → σ[i]? = some (some v) → Vis X.env.scope x → ∃ u, RelV v u ∧ Look X.env s.heap m x u
  cell : ∀ x c, X.env.cells.lookup x = some c → ∃ v, s.heap.IsCell c v
  free : H X.env.locals = none
  freeC : ∀ x c, X.env.cells.lookup x = some c → H c = none
  pin : ∀ p ∈ X.pn ++ pins, s.heap.get? p.1 = some p.2 ∧ H p.1 = none ∧ p.1 ≠ X.env.locals ∧ p.1 ∉ X.fs ∧ ∀ v, p.2.data ≠ .cell v
  hok : HOk X.prog X.w H s.heap
  len : σ.length = X.N.length
section
variable {X : Cx} {pins : List (Addr × Obj)} {σ : List (Option V)} {H H' : Hp} {s : Shared} {h' : Heap}
theorem Cx.Ok.nofr (ok : X.Ok) {b : Addr} {o : Obj} (e : X.base.get? b = some o) : b ∉ X.fs := fun hb => by
  have := (ok.funs.mem hb).1
  rw [e] at this; cases this
theorem Inv.bs (I : Inv X pins σ H s) : ∀ b o, X.base.get? b = some o → s.heap.get? b = some o ∧ H b = none := fun b o e =>
  ⟨I.base.keep b o (I.ok.bs b o e).1 (I.ok.bs b o e).2 (I.ok.nofr e) (I.ok.noex b o e), I.base.free b o (I.ok.bs b o e).1 (I.ok.bs b o e).2 (I.ok.noex b o e)⟩
theorem Inv.bk (I : Inv X pins σ H s) : ∀ b o, X.base.get? b = some o → s.heap.get? b = some o := fun b o e => (I.bs b o e).1
theorem Inv.mod (I : Inv X pins σ H s) : Mod X.K X.mg X.base := I.ok.mod
theorem Inv.kIn (I : Inv X pins σ H s) : X.K.In s.heap := I.ok.mod.kin.keeps I.bk
theorem Inv.nolimit (I : Inv X pins σ H s) : s.heap.NoLimit := I.ok.mod.nolimit.keeps I.bk
theorem Inv.lt (I : Inv X pins σ H s) : X.env.locals < s.heap.objs.size := let ⟨_, hn, _⟩ := I.loc; hn.lt
theorem Inv.sz (I : Inv X pins σ H s) : X.s_0.heap.objs.size ≤ s.heap.objs.size := Nat.le_trans I.ok.above (Nat.le_of_lt I.lt)
theorem Inv.nofs (I : Inv X pins σ H s) {a : Addr} (h : s.heap.objs.size ≤ a) : a ∉ X.fs := fun hb => by
  obtain ⟨_, o, ho, _⟩ := I.ok.funs.mem hb
  exact absurd (Nat.lt_of_lt_of_le (Heap.lt_size ho) (Nat.le_trans I.sz h)) (Nat.lt_irrefl _)
theorem Inv.cne (I : Inv X pins σ H s) : ∀ x c, X.env.cells.lookup x = some c → c ≠ X.env.locals := fun x c e z => by
  obtain ⟨v, o, ho, hd⟩ := I.cell x c e
  obtain ⟨m, ⟨o', es, ep, ho', hd', _⟩, _⟩ := I.loc
  rw [z, ho'] at ho; cases ho; rw [hd'] at hd; cases hd
theorem Inv.funs (I : Inv X pins σ H s) : s.heap.FunFrames X.base X.outer := by
  have all : ∀ (l : List Env), (∀ b ∈ frs l, b ∈ X.fs) → X.s_0.heap.FunFrames X.base l → s.heap.FunFrames X.base l := by
    intro l
    induction l with
    | nil => intro _ _; trivial
    | cons env r ih =>
      intro hs hl
      obtain ⟨hk, ⟨L, o, hf, hn, ho, hd⟩, hr⟩ := hl
      have hL : L ∈ X.fs := hs L (by unfold frs; rw [List.filterMap_cons, hf]; exact List.mem_cons_self)
      obtain ⟨sl, e⟩ := I.base.slot L o ho (I.ok.frf L hL) hL fun z => I.ok.exfs L z hL
      exact ⟨hk, ⟨L, _, hf, hn, e, hd⟩, ih (fun b hb => hs b (by unfold frs; rw [List.filterMap_cons, hf]; exact List.mem_cons_of_mem _ hb)) hr⟩
  exact all X.outer (fun _ hb => hb) I.ok.funs
theorem Inv.stack (I : Inv X pins σ H s) : s.heap.FunFrames X.base X.stack := by
  rcases I.ok.stk with e | ⟨e, hf⟩
  · rw [e]; exact I.funs
  · rw [e]
    obtain ⟨m, hn, _⟩ := I.loc
    refine .cons (by rw [I.ok.kind]; decide) hf hn ?_ I.funs
    exact Heap.get?_none_of_le (Nat.le_trans I.ok.bsz I.ok.above)
theorem Inv.stkSub (I : Inv X pins σ H s) : ∀ b ∈ frs X.stack, b ∈ X.env.locals :: X.fs := fun b hb => by
  rcases I.ok.stk with e | ⟨e, hf⟩
  · rw [e] at hb; exact List.mem_cons_of_mem _ hb
  · rw [e] at hb
    unfold frs at hb
    rw [List.filterMap_cons, hf] at hb
    exact hb
theorem Inv.stkFree (I : Inv X pins σ H s) : ∀ b ∈ frs X.stack, H b = none := fun b hb => by
  rcases List.mem_cons.mp (I.stkSub b hb) with e | hb
  · rw [e]; exact I.free
  · obtain ⟨_, o, ho, _⟩ := I.ok.funs.mem hb
    exact I.base.free b o ho (I.ok.frf b hb) fun z => I.ok.exfs b z hb
theorem Inv.step {g' : Array GenState} {t' : Nat} {d' : Drawn} {ch : List Addr} (I : Inv X pins σ H s)
    (hch : ∀ b ∈ ch, (b ∈ X.ex ∨ X.s_0.heap.objs.size ≤ b) ∧ b ≠ X.env.locals ∧ (∀ x c, X.env.cells.lookup x = some c → c ≠ b) ∧ ∀ p ∈ X.pn ++ pins, p.1 ≠ b)
    (keep : ∀ b o, b ≠ X.env.locals → b ∉ X.fs → b ∉ ch → s.heap.get? b = some o → H b = none → h'.get? b = some o)
    (slot : ∀ b o, b ≠ X.env.locals → b ∈ X.fs → b ∉ ch → s.heap.get? b = some o → H b = none → ∃ sl, h'.get? b = some { o with slots := sl }) (free : ∀ b o, b ∉ ch → s.heap.get? b = some o → H b = none → H' b = none)
    (there : ∀ b o, b ∉ ch → s.heap.get? b = some o → ∃ o', h'.get? b = some o')
    (tups : ∀ b xs, H b = some (.tup xs) → H' b = some (.tup xs)) (frzs : ∀ b o u, H b = some (.frz o u) → H' b = some (.frz o u)) (tbls : ∀ b ps, H b = some (.tbl ps) → ∃ more, H' b = some (.tbl (ps ++ more)))
    (ns : ∀ m, s.heap.Ns X.env.locals m → h'.Ns X.env.locals m) (hok : HOk X.prog X.w H' h') (hg : AllBare g') :
    Inv X pins σ H' { s with heap := h', gens := g', drawn := d', toks := t' } := by
  have neL : ∀ b o, X.s_0.heap.get? b = some o → b ≠ X.env.locals := fun b o e => Nat.ne_of_lt (Nat.lt_of_lt_of_le (Heap.lt_size e) I.ok.above)
  have neC : ∀ b o, X.s_0.heap.get? b = some o → b ∉ X.ex → b ∉ ch := fun b o e hx hb => by
    rcases (hch b hb).1 with z | z
    · exact hx z
    · exact absurd (Nat.lt_of_lt_of_le (Heap.lt_size e) z) (Nat.lt_irrefl _)
  have cellK : ∀ x c, X.env.cells.lookup x = some c → ∀ v, s.heap.IsCell c v → h'.IsCell c v := fun x c e v ⟨o, ho, hd⟩ => by
    have nch : c ∉ ch := fun z => (hch c z).2.2.1 x c e rfl
    by_cases hc : c ∈ X.fs
    · obtain ⟨sl, q⟩ := slot c o (I.cne x c e) hc nch ho (I.freeC x c e)
      exact ⟨_, q, hd⟩
    · exact ⟨o, keep c o (I.cne x c e) hc nch ho (I.freeC x c e), hd⟩
  refine ⟨I.ok, I.os, hg, ⟨fun b o e n hb hx => ?_, fun b o e n hb hx => ?_, fun b o e n hx => ?_, fun b o e hx => ?_, fun b xs e => tups b xs (I.base.tups b xs e), fun b o xs e => frzs b o xs (I.base.frzs b o xs e), fun b ps e => ?_⟩, ?_, fun x c e => ?_, ?_, fun x c e => ?_, fun p hp => ?_, hok, I.len⟩
  · exact keep b o (neL b o e) hb (neC b o e hx) (I.base.keep b o e n hb hx) (I.base.free b o e n hx)
  · obtain ⟨sl, e1⟩ := I.base.slot b o e n hb hx
    obtain ⟨sl', e2⟩ := slot b _ (neL b o e) hb (neC b o e hx) e1 (I.base.free b o e n hx)
    exact ⟨sl', e2⟩
  · obtain ⟨o', e1⟩ := I.base.there b o e hx
    exact free b o' (neC b o e hx) e1 (I.base.free b o e n hx)
  · obtain ⟨o', e1⟩ := I.base.there b o e hx
    exact there b o' (neC b o e hx) e1
  · obtain ⟨m1, e1⟩ := I.base.tbls b ps e
    obtain ⟨m2, e2⟩ := tbls b _ e1
    exact ⟨m1 ++ m2, by rw [e2, Array.append_assoc]⟩
  · obtain ⟨m, hn, hl⟩ := I.loc
    refine ⟨m, ns m hn, fun i x v e1 e2 e3 => ?_⟩
    obtain ⟨u, r, l⟩ := hl i x v e1 e2 e3
    refine ⟨u, r, ?_⟩
    rcases l with l | ⟨k, c, e, z⟩
    · exact .inl l
    · exact .inr ⟨k, c, e, cellK x c e _ z⟩
  · obtain ⟨v, z⟩ := I.cell x c e
    exact ⟨v, cellK x c e v z⟩
  · obtain ⟨m, ⟨o, _, _, ho, _⟩, _⟩ := I.loc
    exact free _ o (fun z => (hch _ z).2.1 rfl) ho I.free
  · obtain ⟨v, o, ho, hd⟩ := I.cell x c e
    exact free c o (fun z => (hch c z).2.2.1 x c e rfl) ho (I.freeC x c e)
  · obtain ⟨e, n, ne, nf, d⟩ := I.pin p hp
    have nch : p.1 ∉ ch := fun z => (hch p.1 z).2.2.2 p hp rfl
    exact ⟨keep p.1 p.2 ne nf nch e n, free p.1 p.2 nch e n, ne, nf, d⟩
theorem Inv.un {t' : Nat} (I : Inv X pins σ H s) (u : Un X.fs [] H H' s.heap h') (hok : HOk X.prog X.w H' h') : Inv X pins σ H' { s with heap := h', toks := t' } := by
  obtain ⟨m, ⟨o, es, ep, ho, r⟩, _⟩ := id I.loc
  obtain ⟨sl, hL⟩ := u.any ho I.free (by simp)
  exact I.step (g' := s.gens) (d' := s.drawn) (ch := []) (fun _ z => nomatch z) (fun b o _ hb _ e n => u.keep b o e n hb (by simp)) (fun b o _ hb _ e n => u.slot b o e n hb (by simp)) (fun b o _ e n => u.free b o e n (by simp)) (fun b o _ e => u.there b o e (by simp)) u.tups u.frzs u.tbls (fun m' hm => by
    obtain ⟨o', es', ep', ho', r'⟩ := hm
    rw [ho] at ho'; cases ho'
    exact ⟨_, es', ep', hL, r'⟩) hok I.bare
theorem Inv.call {g' : Array GenState} {t' : Nat} {d' : Drawn} {ch : List Addr} (I : Inv X pins σ H s) (u : Un (frs X.stack) ch H H' s.heap h') (hok : HOk X.prog X.w H' h') (hg : AllBare g')
    (hch : ∀ b ∈ ch, (b ∈ X.ex ∨ X.s_0.heap.objs.size ≤ b) ∧ b ≠ X.env.locals ∧ (∀ x c, X.env.cells.lookup x = some c → c ≠ b) ∧ ∀ p ∈ X.pn ++ pins, p.1 ≠ b) :
    Inv X pins σ H' { s with heap := h', gens := g', drawn := d', toks := t' } := by
  obtain ⟨m, ⟨o, es, ep, ho, r⟩, _⟩ := id I.loc
  obtain ⟨sl, hL⟩ := u.any ho I.free fun z => (hch _ z).2.1 rfl
  exact I.step (ch := ch) hch (fun b o hL hb hc e n => u.keep b o e n (fun z => (List.mem_cons.mp (I.stkSub b z)).elim hL hb) hc) (fun b o _ _ hc e n => u.any e n hc) (fun b o hc e n => u.free b o e n hc) (fun b o hc e => u.there b o e hc) u.tups u.frzs u.tbls (fun m' hm => by
    obtain ⟨o', es', ep', ho', r'⟩ := hm
    rw [ho] at ho'; cases ho'
    exact ⟨_, es', ep', hL, r'⟩) hok hg
theorem Inv.turned {t' : Nat} {it : Addr} (I : Inv X pins σ H s) (k : ∀ b o, b ≠ it → s.heap.get? b = some o → h'.get? b = some o) (hn : H it = none) (hL : it ≠ X.env.locals)
    (h1 : it ∈ X.ex ∨ X.s_0.heap.objs.size ≤ it) (h2 : ∀ x c, X.env.cells.lookup x = some c → c ≠ it) (h3 : ∀ p ∈ X.pn ++ pins, p.1 ≠ it) : Inv X pins σ H { s with heap := h', toks := t' } := by
  have nit : ∀ b u, H b = some u → b ≠ it := fun b u e z => by rw [z, hn] at e; cases e
  refine I.step (g' := s.gens) (d' := s.drawn) (ch := [it]) (fun b hb => ?_) (fun b o _ _ hc e _ => k b o (fun z => hc (by simp [z])) e) (fun b o _ _ hc e _ => ⟨o.slots, k b o (fun z => hc (by simp [z])) e⟩) (fun _ _ _ _ n => n)
    (fun b o hc e => ⟨o, k b o (fun z => hc (by simp [z])) e⟩) (fun _ _ e => e) (fun _ _ _ e => e) (fun b ps e => ⟨#[], by rw [e]; simp⟩) (fun m hm => ?_) (fun b u e => ?_) I.bare
  · have e : b = it := by simpa using hb
    subst e
    exact ⟨h1, hL, h2, h3⟩
  · obtain ⟨o, es, ep, ho, r⟩ := hm
    exact ⟨o, es, ep, k _ o (Ne.symm hL) ho, r⟩
  · refine (I.hok b u e).stay (fun c v hc q => k c v ?_ q) (fun _ q => q) fun _ _ q => q
    rcases hc with z | z
    · rw [z]; exact nit b u e
    · exact nit c _ z
theorem Inv.tok (I : Inv X pins σ H s) (t : Nat) : Inv X pins σ H { s with toks := t } := I.un (h' := s.heap) (t' := t) Un.refl I.hok
theorem Inv.kept {t' : Nat} (I : Inv X pins σ H s) (k : ∀ b u, s.heap.get? b = some u → h'.get? b = some u) : Inv X pins σ H { s with heap := h', toks := t' } := I.un (Un.kept k) (I.hok.kept k)
theorem Inv.laid {a : Addr} {o : HO} {t' : Nat} (I : Inv X pins σ H s) (k : ∀ b u, s.heap.get? b = some u → h'.get? b = some u) (hp : s.heap.objs.size ≤ a) (new : ObjOk X.prog X.w (upd H a o) h' a o) :
    Inv X pins σ (upd H a o) { s with heap := h', toks := t' } := I.un (Un.laid k hp (I.hok.fresh hp)) (I.hok.laid k hp new)
theorem Inv.write {x e : Addr} {o : HO} {t' : Nat} (I : Inv X pins σ H s) (mu : Mut (H x)) (he : e = x ∨ H e = some (.own x)) (k : ∀ b u, b ≠ e → s.heap.get? b = some u → h'.get? b = some u) (heo : ∃ u, h'.get? e = some u)
    (new : ObjOk X.prog X.w (upd H x o) h' x o) : Inv X pins σ (upd H x o) { s with heap := h', toks := t' } := I.un (Un.write mu he k heo) (I.hok.write mu he k heo new)
theorem Inv.weak {σ' : List (Option V)} (I : Inv X pins σ H s) (hl : σ'.length = σ.length) (w : ∀ (i : Nat) v, σ'[i]? = some (some v) → σ[i]? = some (some v)) : Inv X pins σ' H s :=
  ⟨I.ok, I.os, I.bare, I.base, let ⟨m, hn, hl'⟩ := I.loc; ⟨m, hn, fun i x v e1 e2 e3 => hl' i x v e1 (w i v e2) e3⟩, I.cell, I.free, I.freeC, I.pin, I.hok, hl.trans I.len⟩
theorem Inv.pins_of {pins' : List (Addr × Obj)} (I : Inv X pins σ H s) (h : ∀ p ∈ pins', s.heap.get? p.1 = some p.2 ∧ H p.1 = none ∧ p.1 ≠ X.env.locals ∧ p.1 ∉ X.fs ∧ ∀ v, p.2.data ≠ .cell v) : Inv X pins' σ H s :=
  ⟨I.ok, I.os, I.bare, I.base, I.loc, I.cell, I.free, I.freeC, fun p hp => (List.mem_append.mp hp).elim (fun z => I.pin p (List.mem_append_left _ z)) (h p), I.hok, I.len⟩
theorem nodup_ix {N : List Str} (hN : N.Nodup) {i j : Nat} {x : Str} (a : N[i]? = some x) (b : N[j]? = some x) : i = j := by
  obtain ⟨h1, e1⟩ := List.getElem?_eq_some_iff.mp a
  obtain ⟨h2, e2⟩ := List.getElem?_eq_some_iff.mp b
  exact (List.getElem_inj hN).mp (e1.trans e2.symm)
theorem store_ok2 {M : Model} {A : Around} {E : Value → Shared → Prop} {i : Nat} {x : Str} {v : V} {u : Value} {Q : Unit → Shared → Prop} (I : Inv X pins σ H s) (hN : X.N.Nodup) (hi : X.N[i]? = some x) (hx : Loc X.env.scope x) (r : RelV v u)
    (h : ∀ s', Inv X pins (σ.set i (some v)) H s' → (∃ a, Heap.SameBut a s.heap s'.heap ∧ (a = X.env.locals ∨ X.env.cells.lookup x = some a)) → Q () s') (hf : X.fn x = true ∨ X.env.scope.names.lookup x = some .local := by first | exact .inl rfl | exact .inr rfl | assumption) : wpAny M A (storeName X.env x u) Q E s := by
  obtain ⟨m, hn, hl⟩ := id I.loc
  have hcls : (X.env.scope.kind == .class || (X.env.scope.kind == .module && X.env.locals != X.env.globals)) = false := by rw [I.ok.kind]; rfl
  have hiσ : i < σ.length := by rw [I.len]; exact (List.getElem?_eq_some_iff.mp hi).1
  have cne := I.cne
  have tracked : ∀ {a : Addr} {h' : Heap}, (∃ o, s.heap.get? a = some o ∧ H a = none) → Heap.SameBut a s.heap h' → HOk X.prog X.w H h' := fun {a h'} ha hs b ob e => by
    obtain ⟨_, _, hfree⟩ := ha
    refine (I.hok b ob e).stay (fun c w' hc q => (hs.2 c ?_).trans q) (fun _ q => q) fun _ _ q => q
    rintro rfl
    rcases hc with rfl | hc
    · rw [hfree] at e; cases e
    · rw [hfree] at hc; cases hc
  rcases hx with hk | hk
  · refine wpAny_storeName_local hk hn (fun h' hn' hs => ?_) hcls
    obtain ⟨oL, _, _, hoL, _⟩ := id hn
    refine h _ ⟨I.ok, I.os, I.bare, ⟨fun b o e n hb hx => ?_, fun b o e n hb hx => ?_, I.base.free, fun b o e hx => ?_, I.base.tups, I.base.frzs, I.base.tbls⟩, ⟨_, hn', fun j y v' e1 e2 e3 => ?_⟩, fun y c e => ?_, I.free, I.freeC, fun p hp => ?_, tracked ⟨oL, hoL, I.free⟩ hs, by simpa using I.len⟩ ⟨_, hs, .inl rfl⟩
    · exact (hs.2 b (Nat.ne_of_lt (Nat.lt_of_lt_of_le (Heap.lt_size e) I.ok.above))).trans (I.base.keep b o e n hb hx)
    · obtain ⟨sl, e1⟩ := I.base.slot b o e n hb hx
      exact ⟨sl, (hs.2 b (Nat.ne_of_lt (Nat.lt_of_lt_of_le (Heap.lt_size e) I.ok.above))).trans e1⟩
    · obtain ⟨o', e1⟩ := I.base.there b o e hx
      exact ⟨o', (hs.2 b (Nat.ne_of_lt (Nat.lt_of_lt_of_le (Heap.lt_size e) I.ok.above))).trans e1⟩
    · by_cases hj : j = i
      · subst hj
        rw [hi] at e1; cases e1
        rw [List.getElem?_set_self hiσ] at e2
        cases e2
        exact ⟨u, r, .inl ⟨hk, by simp⟩⟩
      · rw [List.getElem?_set_ne (Ne.symm hj)] at e2
        obtain ⟨u', r', q⟩ := hl j y v' e1 e2 e3
        refine ⟨u', r', ?_⟩
        rcases q with ⟨k, e⟩ | ⟨k, c, e, z⟩
        · refine .inl ⟨k, ?_⟩
          have : y ≠ x := fun e => hj (nodup_ix hN e1 (e ▸ hi))
          simp [this, e]
        · exact .inr ⟨k, c, e, z.sameBut hs (cne y c e)⟩
    · obtain ⟨w', z⟩ := I.cell y c e
      exact ⟨w', z.sameBut hs (cne y c e)⟩
    · obtain ⟨e, n, ne, nf, d⟩ := I.pin p hp
      exact ⟨(hs.2 p.1 ne).trans e, n, ne, nf, d⟩
  · have hfn : X.fn x = true := by
      rcases hf with z | z
      · exact z
      · rw [z] at hk; cases hk
    obtain ⟨c, hc⟩ := I.ok.has x (.inl hk)
    obtain ⟨w', z⟩ := I.cell x c hc
    refine wpAny_storeName_cell I.ok.kind hk hc z (fun h' hc' hs => ?_)
    obtain ⟨oc, hoc, hocd⟩ := id z
    refine h { s with heap := h' } ⟨I.ok, I.os, I.bare, ⟨fun b o e n hb hx => ?_, fun b o e n hb hx => ?_, I.base.free, fun b o e hx => ?_, I.base.tups, I.base.frzs, I.base.tbls⟩, ⟨m, hn.sameBut hs (Ne.symm (cne x c hc)), fun j y v' e1 e2 e3 => ?_⟩, fun y c' e => ?_, I.free, I.freeC, fun p hp => ?_, tracked ⟨oc, hoc, I.freeC x c hc⟩ hs, by simpa using I.len⟩ ⟨c, hs, .inr hc⟩
    · exact (hs.2 b (Nat.ne_of_lt (Nat.lt_of_lt_of_le (Heap.lt_size e) (I.ok.cab x c hfn hc)))).trans (I.base.keep b o e n hb hx)
    · obtain ⟨sl, e1⟩ := I.base.slot b o e n hb hx
      exact ⟨sl, (hs.2 b (Nat.ne_of_lt (Nat.lt_of_lt_of_le (Heap.lt_size e) (I.ok.cab x c hfn hc)))).trans e1⟩
    · obtain ⟨o', e1⟩ := I.base.there b o e hx
      exact ⟨o', (hs.2 b (Nat.ne_of_lt (Nat.lt_of_lt_of_le (Heap.lt_size e) (I.ok.cab x c hfn hc)))).trans e1⟩
    · by_cases hj : j = i
      · subst hj
        rw [hi] at e1; cases e1
        rw [List.getElem?_set_self hiσ] at e2
        cases e2
        exact ⟨u, r, .inr ⟨.inl hk, c, hc, hc'⟩⟩
      · rw [List.getElem?_set_ne (Ne.symm hj)] at e2
        obtain ⟨u', r', q⟩ := hl j y v' e1 e2 e3
        refine ⟨u', r', ?_⟩
        rcases q with q | ⟨k, c', e, z'⟩
        · exact .inl q
        · refine .inr ⟨k, c', e, z'.sameBut hs ?_⟩
          rintro rfl
          exact hj (nodup_ix hN e1 (I.ok.inj _ _ _ e hc ▸ hi))
    · by_cases hcc : c' = c
      · subst hcc; exact ⟨_, hc'⟩
      · obtain ⟨w2, z2⟩ := I.cell y c' e
        exact ⟨w2, z2.sameBut hs hcc⟩
    · obtain ⟨e, n, ne, nf, d⟩ := I.pin p hp
      refine ⟨(hs.2 p.1 ?_).trans e, n, ne, nf, d⟩
      intro q
      rw [q, hoc] at e
      have q' : oc = p.2 := Option.some.inj e
      exact d w' (by rw [← q']; exact hocd)
theorem store_ok {M : Model} {A : Around} {E : Value → Shared → Prop} {i : Nat} {x : Str} {v : V} {u : Value} {Q : Unit → Shared → Prop} (I : Inv X pins σ H s) (hN : X.N.Nodup) (hi : X.N[i]? = some x) (hx : Loc X.env.scope x) (r : RelV v u)
    (h : ∀ s', Inv X pins (σ.set i (some v)) H s' → Q () s') (hf : X.fn x = true ∨ X.env.scope.names.lookup x = some .local := by first | exact .inl rfl | exact .inr rfl | assumption) : wpAny M A (storeName X.env x u) Q E s :=
  store_ok2 I hN hi hx r (fun s' I' _ => h s' I') hf
theorem Inv.call' {s' : Shared} {ch : List Addr} (I : Inv X pins σ H s) (ho : s'.os = s.os) (u : Un (frs X.stack) ch H H' s.heap s'.heap) (hok : HOk X.prog X.w H' s'.heap) (hg : AllBare s'.gens)
    (hch : ∀ b ∈ ch, (b ∈ X.ex ∨ X.s_0.heap.objs.size ≤ b) ∧ b ≠ X.env.locals ∧ (∀ x c, X.env.cells.lookup x = some c → c ≠ b) ∧ ∀ p ∈ X.pn ++ pins, p.1 ≠ b) : Inv X pins σ H' s' := by
  obtain ⟨h', g', d', t', o'⟩ := s'
  have e : o' = s.os := ho
  subst e
  exact I.call (g' := g') (t' := t') (d' := d') u hok hg hch
end
abbrev XK := Value → Option Addr → Hp → Prop
abbrev St := List (Option V)
abbrev VK := V → Hp → Prop
abbrev TE := St → Hp → VK → Prop
abbrev TT := St → Hp → (Bool → Hp → Prop) → Prop
abbrev TA := St → Hp → (List V → Hp → Prop) → Prop
structure Ends where
  nx : St → Hp → Prop
  rt : VK
  bk : St → Hp → Prop := fun _ _ => False
  ct : St → Hp → Prop := fun _ _ => False
abbrev TS := Ends → St → Hp → Prop
def EP (X : Cx) (pins : List (Addr × Obj)) (σ : St) (Q : VK) (u : Value) (s' : Shared) : Prop := ∃ v H', Inv X pins σ H' s' ∧ RelV v u ∧ Q v H'
def TP (X : Cx) (pins : List (Addr × Obj)) (σ : St) (Q : Bool → Hp → Prop) (b : Bool) (s' : Shared) : Prop := ∃ H', Inv X pins σ H' s' ∧ Q b H'
def AP (X : Cx) (pins : List (Addr × Obj)) (σ : St) (Q : List V → Hp → Prop) (us : List Value) (s' : Shared) : Prop := ∃ vs H', Inv X pins σ H' s' ∧ Vals vs us ∧ Q vs H'
def SP (X : Cx) (pins : List (Addr × Obj)) (D : Ends) (f : Flow) (s' : Shared) : Prop :=
  match f with
  | .next => ∃ σ' H', Inv X pins σ' H' s' ∧ D.nx σ' H'
  | .brk => ∃ σ' H', Inv X pins σ' H' s' ∧ D.bk σ' H'
  | .cont => ∃ σ' H', Inv X pins σ' H' s' ∧ D.ct σ' H'
  | .ret u => ∃ v σ' H', Inv X pins σ' H' s' ∧ RelV v u ∧ D.rt v H'
def PE (X : Cx) (e : Expr) (t : TE) : Prop :=
  ∀ (pins : List (Addr × Obj)) (s : Shared) (σ : St) (H : Hp) (Q : VK), Inv X pins σ H s → t σ H Q → wpAny (model X.prog X.w) X.A (eval e X.env) (EP X pins σ Q) X.xe s
def PT (X : Cx) (e : Expr) (t : TT) : Prop :=
  ∀ (pins : List (Addr × Obj)) (s : Shared) (σ : St) (H : Hp) (Q : Bool → Hp → Prop), Inv X pins σ H s → t σ H Q → wpAny (model X.prog X.w) X.A (isTrue e X.env (eval e X.env)) (TP X pins σ Q) X.xe s
def PW (X : Cx) (e : Expr) (t : TT) : Prop :=
  ∀ (whole : Sem Value) (pins : List (Addr × Obj)) (s : Shared) (σ : St) (H : Hp) (Q : Bool → Hp → Prop), Inv X pins σ H s → t σ H Q → wpAny (model X.prog X.w) X.A (isTrue e X.env whole) (TP X pins σ Q) X.xe s
theorem PW.pt {X : Cx} {e : Expr} {t : TT} (h : PW X e t) : PT X e t := h _
def PA (X : Cx) (es : List Expr) (t : TA) : Prop :=
  ∀ (pos : Pos) (pins : List (Addr × Obj)) (s : Shared) (σ : St) (H : Hp) (Q : List V → Hp → Prop), Inv X pins σ H s → t σ H Q → wpAny (model X.prog X.w) X.A (spliced (backTo pos (starEach es X.env))) (AP X pins σ Q) X.xe s
def PS (X : Cx) (st : Stmt) (t : TS) : Prop :=
  ∀ (pins : List (Addr × Obj)) (s : Shared) (σ : St) (H : Hp) (D : Ends), Inv X pins σ H s → t D σ H → wpAny (model X.prog X.w) X.A (exec st X.env) (SP X pins D) X.xe s
def PSs (X : Cx) (st : List Stmt) (t : TS) : Prop :=
  ∀ (pins : List (Addr × Obj)) (s : Shared) (σ : St) (H : Hp) (D : Ends), Inv X pins σ H s → t D σ H → wpAny (model X.prog X.w) X.A (execs st X.env) (SP X pins D) X.xe s
theorem thn {α : Type} {t : Sem α} {Q Q' : α → Shared → Prop} {M : Model} {A : Around} {E : Value → Shared → Prop} {s : Shared} (h : wpAny M A t Q E s) (hQ : ∀ a s, Q a s → Q' a s) : wpAny M A t Q' E s := wpAny_mono h hQ fun _ _ x => x
end L2
namespace L2
open PySem PySem.Spec PyProof.Rows
section
variable {X : Cx}
def tVar (i : Nat) : TE := fun σ H Q => ∃ v, σ[i]? = some (some v) ∧ Q v H
def tC (v : V) : TE := fun _ H Q => Q v H
theorem pe_var {i : Nat} {x : Str} {pos : Pos} (hN : X.N[i]? = some x) (hv : Vis X.env.scope x) (hd : (x == ("__debug__" : Str)) = false := by decide) (hcd : (x == ("__classdict__" : Str)) = false := by decide) : PE X (.Name x pos) (tVar i) := by
  intro pins s σ H Q I h
  obtain ⟨v, e, h⟩ := h
  obtain ⟨m, hn, hl⟩ := I.loc
  obtain ⟨u, r, l⟩ := hl i x v hN e hv
  have fin : EP X pins σ Q u s := ⟨v, H, I, r, h⟩
  rcases l with ⟨hk, hm⟩ | ⟨hk, c, hc, hcell⟩
  · exact wpAny_Name (wpAny_loadName_local I.ok.kind hk hn hm fin) hd
  · rcases hk with hk | hk
    · exact wpAny_Name (wpAny_loadName_cell I.ok.kind hk hc hcell fin) hd
    · exact wpAny_Name (wpAny_loadName_free I.ok.kind hk hc hcell fin hcd) hd
theorem pe_int {i j pos} : PE X (.Constant (.int i) j pos) (tC (.int i)) := fun _ _ _ H _ I h => wpAny_Constant_int ⟨.int i, H, I.tok _, ⟨_, rfl⟩, h⟩
theorem pe_bl {b j pos} : PE X (.Constant (.bool b) j pos) (tC (.bl b)) := fun _ _ _ H _ I h => Constant_bool ⟨.bl b, H, I, rfl, h⟩
theorem pe_non {j pos} : PE X (.Constant .none j pos) (tC .non) := fun _ _ _ H _ I h => Constant_none ⟨.non, H, I, rfl, h⟩
def Gl (X : Cx) (x : Str) : Prop := X.env.kindOf x = some .globalImplicit
theorem ld_glob {E : Value → Shared → Prop} {pins : List (Addr × Obj)} {s : Shared} {σ : St} {H : Hp} {x : Str} {u : Value} {pos : Pos} {Q : Value → Shared → Prop} (I : Inv X pins σ H s) (hg : Gl X x) (hm : X.mg x = some u) (h : Q u s)
    (hd : (x == ("__debug__" : Str)) = false := by decide) : wpAny (model X.prog X.w) X.A (eval (.Name x pos) X.env) Q E s :=
  Calls.Name_function_global I.ok.kind hg (Calls.loadGlobal_global (by rw [I.ok.glob]; exact I.mod.glob.keeps I.bk) hm h) hd
theorem ld_blt {E : Value → Shared → Prop} {pins : List (Addr × Obj)} {s : Shared} {σ : St} {H : Hp} {x : Str} {u : Value} {pos : Pos} {Q : Value → Shared → Prop} (I : Inv X pins σ H s) (hg : Gl X x) (hm : X.mg x = none) (hv : bootBuiltins x = some u) (h : Q u s)
    (hn : x ≠ "__name__" := by decide) (hd : (x == ("__debug__" : Str)) = false := by decide) : wpAny (model X.prog X.w) X.A (eval (.Name x pos) X.env) Q E s := by
  obtain ⟨mb, h1, h2⟩ := I.mod.blt
  exact Calls.Name_function_global I.ok.kind hg (Calls.loadGlobal_builtin (by rw [I.ok.glob]; exact I.mod.glob.keeps I.bk) hm (by rw [I.ok.blt]; exact h1.keeps I.bk) ((h2 x hn).trans hv) h) hd
theorem pe_bltn {x : Str} {v : V} {u : Value} {pos : Pos} (hg : Gl X x) (hm : X.mg x = none) (hv : bootBuiltins x = some u) (r : RelV v u) (hn : x ≠ "__name__" := by decide) (hd : (x == ("__debug__" : Str)) = false := by decide) : PE X (.Name x pos) (tC v) :=
  fun _ _ _ H _ I h => ld_blt I hg hm hv ⟨v, H, I, r, h⟩ hn hd
variable {a b : Expr} {ta tb : TE} {pos : Pos}
def PC (X : Cx) (op : CmpOp) (a b : Expr) (t : TE) : Prop :=
  ∀ (pins : List (Addr × Obj)) (s : Shared) (σ : St) (H : Hp) (Q : VK), Inv X pins σ H s → t σ H Q →
    wpAny (model X.prog X.w) X.A (eval a X.env) (fun v s₁ => wpAny (model X.prog X.w) X.A (eval b X.env) (fun u s₂ => wpAny (model X.prog X.w) X.A (compareOp op v u) (EP X pins σ Q) X.xe s₂) X.xe s₁) X.xe s
def tB (t : TE) : TT := fun σ H Q => t σ H fun x H1 => ∃ c, x = .bl c ∧ Q c H1
theorem pt_cmp {op : CmpOp} {t : TE} (h : PC X op a b t) (h1 : behindInMarks op b = false := by first | exact nobehind _ (by decide) (by decide) | rfl) : PT X (.Compare a [op] [b] pos) (tB t) := by
  intro pins s σ H Q I hw
  refine wpAny_isTrue_Compare1 (thn (h pins s σ H _ I hw) fun v s1 h1 => thn h1 fun u s2 h2 => thn h2 fun c s3 ⟨x, H1, I1, r1, q1⟩ => ?_) h1
  obtain ⟨d, rfl, q⟩ := q1
  cases r1
  exact wpAny_truthy_bool ⟨H1, I1, q⟩
theorem pt_val {e : Expr} {t : TE} (h : PE X e t) (he : ∀ whole, isTrue e X.env whole = (do let v ← whole; standAt e.pos; holding [v] (truthy v)) := by intro _; rfl) : PT X e (tB t) := by
  intro pins s σ H Q I hw
  refine isTrue_plain (thn (h pins s σ H _ I hw) fun v s1 ⟨x, H1, I1, r1, q1⟩ => ?_) (he _)
  obtain ⟨d, rfl, q⟩ := q1
  cases r1
  exact wpAny_truthy_bool ⟨H1, I1, q⟩
variable {tA tB' : TT} {rest : List Expr}
def tAnd (t u : TT) : TT := fun σ H Q => t σ H fun c H1 => if c = true then u σ H1 Q else Q false H1
def tOr (t u : TT) : TT := fun σ H Q => t σ H fun c H1 => if c = true then Q true H1 else u σ H1 Q
def tNot (t : TT) : TT := fun σ H Q => t σ H fun c H1 => Q (!c) H1
theorem pw_and1 (ha : PT X a tA) : PW X (.BoolOp .And [a] pos) tA := by
  intro wh pins s σ H Q I h
  refine isTrue_and (thn (ha pins s σ H Q I h) fun c s1 e => ?_)
  cases c with
  | true => exact isTrue_and_nil e
  | false => exact e
theorem pw_or1 (ha : PT X a tA) : PW X (.BoolOp .Or [a] pos) tA := by
  intro wh pins s σ H Q I h
  refine isTrue_or (thn (ha pins s σ H Q I h) fun c s1 e => ?_)
  cases c with
  | false => exact isTrue_or_nil e
  | true => exact e
theorem pw_and (ha : PT X a tA) (hb : PW X (.BoolOp .And (b :: rest) pos) tB') : PW X (.BoolOp .And (a :: b :: rest) pos) (tAnd tA tB') := by
  intro wh pins s σ H Q I h
  refine isTrue_and (thn (ha pins s σ H _ I h) fun c s1 ⟨H1, I1, q1⟩ => ?_)
  cases c with
  | true => exact hb wh pins s1 σ H1 Q I1 q1
  | false => exact ⟨H1, I1, q1⟩
theorem pw_or (ha : PT X a tA) (hb : PW X (.BoolOp .Or (b :: rest) pos) tB') : PW X (.BoolOp .Or (a :: b :: rest) pos) (tOr tA tB') := by
  intro wh pins s σ H Q I h
  refine isTrue_or (thn (ha pins s σ H _ I h) fun c s1 ⟨H1, I1, q1⟩ => ?_)
  cases c with
  | true => exact ⟨H1, I1, q1⟩
  | false => exact hb wh pins s1 σ H1 Q I1 q1
theorem pt_not (ha : PT X a tA) : PT X (.UnaryOp .Not a pos) (tNot tA) := by
  intro pins s σ H Q I h
  exact isTrue_not (ha pins s σ H (fun c H1 => Q (!c) H1) I h)
def tAndV (ta tb : TE) : TE := fun σ H Q => ta σ H fun x H1 => ∃ c, x = .bl c ∧ if c = true then tb σ H1 Q else Q (.bl false) H1
def tOrV (ta tb : TE) : TE := fun σ H Q => ta σ H fun x H1 => ∃ c, x = .bl c ∧ if c = true then Q (.bl true) H1 else tb σ H1 Q
theorem pe_one {op} {t : TE} (h : PE X a t) : PE X (.BoolOp op [a] pos) t := fun pins s σ H Q I hw => BoolOp_one (h pins s σ H Q I hw)
theorem pe_and (ha : PE X a ta) (hb : PE X (.BoolOp .And (b :: rest) pos) tb) : PE X (.BoolOp .And (a :: b :: rest) pos) (tAndV ta tb) := by
  intro pins s σ H Q I h
  refine BoolOp_and (thn (ha pins s σ H _ I h) fun v s1 ⟨x, H1, I1, r1, q1⟩ => ?_)
  obtain ⟨c, rfl, q1⟩ := q1
  cases r1
  refine wpAny_truthy_bool ?_
  cases c with
  | true => exact hb pins s1 σ H1 Q I1 q1
  | false => exact ⟨.bl false, H1, I1, rfl, q1⟩
theorem pe_or (ha : PE X a ta) (hb : PE X (.BoolOp .Or (b :: rest) pos) tb) : PE X (.BoolOp .Or (a :: b :: rest) pos) (tOrV ta tb) := by
  intro pins s σ H Q I h
  refine BoolOp_or (thn (ha pins s σ H _ I h) fun v s1 ⟨x, H1, I1, r1, q1⟩ => ?_)
  obtain ⟨c, rfl, q1⟩ := q1
  cases r1
  refine wpAny_truthy_bool ?_
  cases c with
  | false => exact hb pins s1 σ H1 Q I1 q1
  | true => exact ⟨.bl true, H1, I1, rfl, q1⟩
end
end L2
namespace L2
open PySem PySem.Spec PyProof.Rows
def SqL (K : PySem.W.Frag) (H : Hp) (a : Addr) (xs : List V) : Prop :=
  Rd H a (.lst xs) ∨
    ∃ (o : Obj) (its : Array Value) (n : Nat), K.lookup a = some o ∧ o.cls = .type "list" ∧ o.dict = none ∧ o.data = .seq its n ∧ its.size ≤ sizeLine ∧ Vals xs its.toList
def SqT (K : PySem.W.Frag) (H : Hp) (a : Addr) (xs : List V) : Prop :=
  Rd H a (.tup xs) ∨
    ∃ (o : Obj) (its : Array Value) (n : Nat), K.lookup a = some o ∧ o.cls = .type "tuple" ∧ o.data = .seq its n ∧ its.size ≤ sizeLine ∧ Vals xs its.toList
def absV : Value → Option V
  | .none => some .non
  | .bool b => some (.bl b)
  | .int i _ => some (.int i)
  | .str x _ => some (.str x)
  | .bytes b _ => some (.byt b)
  | .float b _ => some (.flt b)
  | .ref a => some (.ref a)
  | .type n => some (.ty n)
  | _ => none
theorem RelV.abs {x : V} {u : Value} (r : RelV x u) : absV u = some x := by
  cases x with
  | non => cases r; rfl
  | bl _ => cases r; rfl
  | int _ => obtain ⟨t, rfl⟩ := r; rfl
  | str _ => obtain ⟨t, rfl⟩ := r; rfl
  | byt _ => obtain ⟨t, rfl⟩ := r; rfl
  | flt _ => obtain ⟨t, rfl⟩ := r; rfl
  | ref _ => cases r; rfl
  | ty _ => cases r; rfl
theorem RelV.inj {x y : V} {u : Value} (r : RelV x u) (q : RelV y u) : x = y := Option.some.inj (r.abs.symm.trans q.abs)
theorem Vals.inj : ∀ {xs ys : List V} {us : List Value}, Vals xs us → Vals ys us → xs = ys
  | _, _, _, .nil, .nil => rfl
  | _, _, _, .cons r t, .cons r' t' => by rw [r.inj r', Vals.inj t t']
section
variable {X : Cx} {pins : List (Addr × Obj)} {σ : St} {H : Hp} {s : Shared} {a : Addr} {xs ys : List V}
theorem SqL.of {K : PySem.W.Frag} (h : H a = some (.lst xs)) : SqL K H a xs := .inl (.inl h)
theorem SqT.of {K : PySem.W.Frag} (h : H a = some (.tup xs)) : SqT K H a xs := .inl (.inl h)
theorem Inv.list (I : Inv X pins σ H s) (h : SqL X.K H a xs) : ∃ its : List Value, Vals xs its ∧ PlainL s.heap a its.toArray ∧ xs.length ≤ sizeLine := by
  rcases h with h | ⟨o, its, n, hk, hc, hd, hs, hz, r⟩
  · obtain ⟨z, its, n, r, e⟩ := h.ok I.hok
    exact ⟨its, r, ⟨_, n, e, rfl, rfl, rfl⟩, z⟩
  · refine ⟨its.toList, r, ⟨o, n, I.kIn a o hk, hc, hd, by simpa using hs⟩, ?_⟩
    have e := r.length
    simp only [Array.length_toList] at e
    omega
theorem Inv.tuple (I : Inv X pins σ H s) (h : SqT X.K H a xs) : ∃ its : List Value, Vals xs its ∧ IsTup s.heap a its.toArray ∧ xs.length ≤ sizeLine := by
  rcases h with h | ⟨o, its, n, hk, hc, hs, hz, r⟩
  · obtain ⟨z, its, r, p⟩ := h.ok I.hok
    exact ⟨its, r, p, z⟩
  · refine ⟨its.toList, r, ⟨o, I.kIn a o hk, hc, n, by simpa using hs⟩, ?_⟩
    have e := r.length
    simp only [Array.length_toList] at e
    omega
theorem Inv.list_inj (I : Inv X pins σ H s) (h : SqL X.K H a xs) (h' : SqL X.K H a ys) : xs = ys := by
  obtain ⟨its, r, ⟨o, n, e, _, _, d⟩, _⟩ := I.list h
  obtain ⟨its', r', ⟨o', n', e', _, _, d'⟩, _⟩ := I.list h'
  rw [e] at e'; cases e'
  rw [d] at d'
  injection d' with d1 _
  have : its = its' := by simpa using congrArg Array.toList d1
  subst this
  exact r.inj r'
theorem Inv.tuple_inj (I : Inv X pins σ H s) (h : SqT X.K H a xs) (h' : SqT X.K H a ys) : xs = ys := by
  obtain ⟨its, r, ⟨o, e, _, n, d⟩, _⟩ := I.tuple h
  obtain ⟨its', r', ⟨o', e', _, n', d'⟩, _⟩ := I.tuple h'
  rw [e] at e'; cases e'
  rw [d] at d'
  injection d' with d1 _
  have : its = its' := by simpa using congrArg Array.toList d1
  subst this
  exact r.inj r'
end
abbrev Cx.wish (X : Cx) (E : Value → Shared → Prop) : Cx := { X with xe := E }
abbrev Cx.nox (X : Cx) : Cx := X.wish fun _ _ => False
theorem Cx.Ok.wish {X : Cx} (ok : X.Ok) (E : Value → Shared → Prop) : (X.wish E).Ok :=
  ⟨ok.mod, ok.kind, ok.glob, ok.blt, ok.above, ok.inj, ok.has, ok.cab, ok.hd, ok.frames, ok.stk, ok.exf, ok.bs, ok.bsz, ok.noex, ok.exfs, ok.funs, ok.frf⟩
theorem Cx.Ok.unwish {X : Cx} {E : Value → Shared → Prop} (ok : (X.wish E).Ok) : X.Ok :=
  ⟨ok.mod, ok.kind, ok.glob, ok.blt, ok.above, ok.inj, ok.has, ok.cab, ok.hd, ok.frames, ok.stk, ok.exf, ok.bs, ok.bsz, ok.noex, ok.exfs, ok.funs, ok.frf⟩
section
variable {X : Cx} {pins : List (Addr × Obj)} {σ : St} {H : Hp} {s : Shared} {E : Value → Shared → Prop}
theorem Inv.wish (I : Inv X pins σ H s) (E : Value → Shared → Prop) : Inv (X.wish E) pins σ H s := ⟨I.ok.wish E, I.os, I.bare, I.base, I.loc, I.cell, I.free, I.freeC, I.pin, I.hok, I.len⟩
theorem Inv.unwish (I : Inv (X.wish E) pins σ H s) : Inv X pins σ H s := ⟨I.ok.unwish, I.os, I.bare, I.base, I.loc, I.cell, I.free, I.freeC, I.pin, I.hok, I.len⟩
theorem SP.unwish {D : Ends} {f : Flow} {s' : Shared} (h : SP (X.wish E) pins D f s') : SP X pins D f s' := by
  cases f with
  | next => obtain ⟨σ', H', I, q⟩ := h; exact ⟨σ', H', I.unwish, q⟩
  | brk => obtain ⟨σ', H', I, q⟩ := h; exact ⟨σ', H', I.unwish, q⟩
  | cont => obtain ⟨σ', H', I, q⟩ := h; exact ⟨σ', H', I.unwish, q⟩
  | ret u => obtain ⟨v, σ', H', I, r, q⟩ := h; exact ⟨v, σ', H', I.unwish, r, q⟩
theorem PSs.nox {st : List Stmt} {t : TS} (h : PSs X.nox st t) : PSs X st t := fun pins s σ H D I hw =>
  wpAny_mono (h pins s σ H D (I.wish _) hw) (fun _ _ q => q.unwish) fun _ _ z => False.elim z
end
section
variable {X : Cx} {st : Stmt} {rest : List Stmt} {t u : TS} {e : Expr} {te : TE} {pos : Pos}
def tNext : TS := fun D σ H => D.nx σ H
def tSeq (t u : TS) : TS := fun D σ H => t { D with nx := u D } σ H
theorem pss_nil : PSs X [] tNext := fun _ _ σ H _ I h => wpAny_execs_nil ⟨σ, H, I, h⟩
theorem pss_cons (h1 : PS X st t) (h2 : PSs X rest u) : PSs X (st :: rest) (tSeq t u) := by
  intro pins s σ H D I h
  refine wpAny_execs_cons (thn (h1 pins s σ H { D with nx := u D } I h) fun f s1 q => ?_)
  cases f with
  | next =>
    obtain ⟨σ', H', I', q⟩ := q
    exact h2 pins s1 σ' H' D I' q
  | ret v => exact q
  | brk => exact q
  | cont => exact q
theorem pss_one (h1 : PS X st t) : PSs X [st] t := by
  intro pins s σ H D I h
  refine wpAny_execs_cons (thn (h1 pins s σ H D I h) fun f s1 q => ?_)
  cases f with
  | next => exact wpAny_execs_nil q
  | ret v => exact q
  | brk => exact q
  | cont => exact q
theorem Inv.quiet {pins : List (Addr × Obj)} {σ : St} {H : Hp} {s : Shared} (I : Inv X pins σ H s) : interactive X.env = false := by simp [interactive, I.ok.kind]
def tDrop (te : TE) : TS := fun D σ H => te σ H fun _ H1 => D.nx σ H1
theorem ps_expr (he : PE X e te) (hs : swapsWith e none pos.line X.env = pure false := by rfl) : PS X (.Expr e pos) (tDrop te) := by
  intro pins s σ H D I h
  exact wpAny_Expr_any (thn (he pins s σ H _ I h) fun v s1 ⟨x, H1, I1, r1, q1⟩ => ⟨σ, H1, I1, q1⟩) I.quiet hs
def tRet (te : TE) : TS := fun D σ H => te σ H D.rt
theorem ps_ret (he : PE X e te) : PS X (.Return (some e) pos) (tRet te) := by
  intro pins s σ H D I h
  exact wpAny_Return_some (thn (he pins s σ H _ I h) fun v s1 ⟨x, H1, I1, r1, q1⟩ => ⟨x, σ, H1, I1, r1, q1⟩)
def tIfS (c : TT) (t u : TS) : TS := fun D σ H => c σ H fun b H1 => if b = true then t D σ H1 else u D σ H1
theorem ps_if {c : Expr} {a b : List Stmt} {tc : TT} (hc : PT X c tc) (ha : PSs X a t) (hb : PSs X b u) : PS X (.If c a b pos) (tIfS tc t u) := by
  intro pins s σ H D I h
  refine wpAny_If (thn (hc pins s σ H _ I h) fun d s1 ⟨H1, I1, q1⟩ => ?_)
  cases d with
  | true => exact ha pins s1 σ H1 D I1 q1
  | false => exact hb pins s1 σ H1 D I1 q1
end
abbrev TG := V → St → Hp → (St → Hp → Prop) → Prop
abbrev TGs := List V → St → Hp → (St → Hp → Prop) → Prop
def PG (X : Cx) (target : Expr) (t : TG) : Prop :=
  ∀ (pins : List (Addr × Obj)) (s : Shared) (σ : St) (H : Hp) (v : V) (u : Value) (Q : St → Hp → Prop), Inv X pins σ H s → RelV v u → t v σ H Q →
    wpAny (model X.prog X.w) X.A (assign target X.env u) (fun _ s' => ∃ σ' H', Inv X pins σ' H' s' ∧ Q σ' H') X.xe s
def PGs (X : Cx) (ts : List Expr) (t : TGs) : Prop :=
  ∀ (pins : List (Addr × Obj)) (s : Shared) (σ : St) (H : Hp) (vs : List V) (us : List Value) (Q : St → Hp → Prop), Inv X pins σ H s → Vals vs us → t vs σ H Q →
    wpAny (model X.prog X.w) X.A (assignInOrder ((assignEach ts X.env).map (·.2)) us) (fun _ s' => ∃ σ' H', Inv X pins σ' H' s' ∧ Q σ' H') X.xe s
abbrev TSet := V → V → V → Hp → (Hp → Prop) → Prop
def PSet (X : Cx) (t : TSet) : Prop :=
  ∀ (pins : List (Addr × Obj)) (s : Shared) (σ : St) (H : Hp) (o i v : V) (ov iv u : Value) (Q : Hp → Prop), Inv X pins σ H s → RelV o ov → RelV i iv → RelV v u → t o i v H Q →
    wpAny (model X.prog X.w) X.A (setItem ov iv u) (fun _ s' => ∃ H', Inv X pins σ H' s' ∧ Q H') X.xe s
section
variable {X : Cx} {pos : Pos}
def gName (i : Nat) : TG := fun v σ H Q => Q (σ.set i (some v)) H
theorem pg_name {i : Nat} {x : Str} (hN : X.N.Nodup) (hi : X.N[i]? = some x) (hx : Loc X.env.scope x) (hf : X.fn x = true ∨ X.env.scope.names.lookup x = some .local := by first | exact .inl rfl | exact .inr rfl | assumption) : PG X (.Name x pos) (gName i) := by
  intro pins s σ H v u Q I r h
  exact wpAny_assign_Name (store_ok I hN hi hx r (fun s' I' => ⟨_, H, I', h⟩) hf)
def gNil : TGs := fun vs σ H Q => vs = [] ∧ Q σ H
def gCons (t : TG) (u : TGs) : TGs := fun vs σ H Q => ∃ v r, vs = v :: r ∧ t v σ H fun σ' H' => u r σ' H' Q
theorem pgs_nil : PGs X [] gNil := by
  intro pins s σ H vs us Q I r h
  obtain ⟨e, h⟩ := h
  subst e
  cases r
  exact assignInOrder_nil ⟨σ, H, I, h⟩
theorem pgs_cons {e : Expr} {es : List Expr} {t : TG} {u : TGs} (h1 : PG X e t) (h2 : PGs X es u)
    (hs : (assignEach (e :: es) X.env).map (·.2) = assign e X.env :: (assignEach es X.env).map (·.2) := by rfl) : PGs X (e :: es) (gCons t u) := by
  intro pins s σ H vs us Q I r h
  obtain ⟨v, vr, e1, h⟩ := h
  subst e1
  cases r with
  | cons r rr =>
    rw [hs]
    refine assignInOrder_cons (thn (h1 pins s σ H _ _ _ I r h) fun _ s1 ⟨σ1, H1, I1, q1⟩ => ?_)
    exact h2 pins s1 σ1 H1 _ _ Q I1 rr q1
def gTup (K : PySem.W.Frag) (n : Nat) (t : TGs) : TG := fun v σ H Q => ∃ a xs, v = .ref a ∧ SqT K H a xs ∧ xs.length = n ∧ t xs σ H Q
theorem pg_tup {es : List Expr} {k : Nat} {t : TGs} {n : Nat} (hc : X.calm = true) (h : PGs X es t)
    (hn : (assignEach es X.env).length = n := by rfl) (hst : (assignEach es X.env).findIdx? (·.1) = none := by rfl) : PG X (.Tuple es k pos) (gTup X.K n t) := by
  intro pins s σ H v u Q I r hw
  obtain ⟨a, xs, e1, hq, hl, hw⟩ := hw
  subst e1
  cases r
  obtain ⟨its, rv, ht, hz⟩ := I.tuple hq
  refine assign_Tuple_tuple (I.ok.hd hc) ht (by simp [hn, ← hl, rv.length]) hst fun h' hx => ?_
  have I1 : Inv X pins σ H { s with heap := h' } := I.kept (t' := s.toks) fun b o e => hx b o (Nat.ne_of_lt (Heap.lt_size e)) e
  exact h pins _ σ H xs _ Q I1 (by simpa using rv) hw
def gSub (to ti : TE) (t : TSet) : TG := fun v σ H Q => to σ H fun o H1 => ti σ H1 fun i H2 => t o i v H2 fun H3 => Q σ H3
theorem pg_sub {o i : Expr} {to ti : TE} {t : TSet} (ho : PE X o to) (hi : PE X i ti) (hs : PSet X t)
    (ha : ∀ v, assign (.Subscript o i pos) X.env v = (do
      let ov ← holding [v] (eval o X.env)
      let iv ← holding [v, ov] (eval i X.env)
      standAt pos
      holding [v, ov, iv] (setItem ov iv v)
      release [v, ov, iv] []) := by intro _; rfl) : PG X (.Subscript o i pos) (gSub to ti t) := by
  intro pins s σ H v u Q I r h
  rw [ha]
  refine wpAny_bind (wpAny_holding (thn (ho pins s σ H _ I h) fun ov s1 ⟨x, H1, I1, r1, q1⟩ => ?_))
  refine wpAny_bind (wpAny_holding (thn (hi pins s1 σ H1 _ I1 q1) fun iv s2 ⟨y, H2, I2, r2, q2⟩ => ?_))
  refine wpAny_bind (wpAny_standAt (wpAny_bind (wpAny_holding (thn (hs pins s2 σ H2 x y v ov iv u _ I2 r1 r2 r q2) fun _ s3 ⟨H3, I3, q3⟩ => ?_))))
  exact wpAny_release ⟨σ, H3, I3, q3⟩
def tAsg (te : TE) (g : TG) : TS := fun D σ H => te σ H fun x H1 => g x σ H1 D.nx
theorem ps_asg {tg e : Expr} {te : TE} {g : TG} (he : PE X e te) (hg : PG X tg g) (hs : swapsWithSole [tg] e pos.line X.env = pure false := by rfl) (hw : swappedStores [tg] e X.env = pure none := by rfl)
    (h1 : (assignEach [tg] X.env).map (·.2) = [assign tg X.env] := by rfl) : PS X (.Assign [tg] e pos) (tAsg te g) := by
  intro pins s σ H D I h
  refine wpAny_Assign_stores (thn (he pins s σ H _ I h) fun v s1 ⟨x, H1, I1, r1, q1⟩ => ?_) hs hw
  rw [h1]
  exact thn (hg pins s1 σ H1 x v _ I1 r1 q1) fun _ s2 q => q
theorem ps_set {i : Nat} {x : Str} {e : Expr} {te : TE} {pos' : Pos} (hN : X.N.Nodup) (hi : X.N[i]? = some x) (hx : Loc X.env.scope x) (he : PE X e te) (hs : swapsWith e (some (.Name x pos')) pos.line X.env = pure false := by rfl) (hf : X.fn x = true ∨ X.env.scope.names.lookup x = some .local := by first | exact .inl rfl | exact .inr rfl | assumption) :
    PS X (.Assign [.Name x pos'] e pos) (tAsg te (gName i)) := by
  intro pins s σ H D I h
  refine wpAny_Assign_Name (thn (he pins s σ H _ I h) fun v s1 ⟨y, H1, I1, r1, q1⟩ => ?_) hs
  exact store_ok I1 hN hi hx r1 (fun s2 I2 => ⟨_, H1, I2, q1⟩) hf
def tPar (i j : Nat) (ta : TA) : TS := fun D σ H => ta σ H fun vs H1 => ∃ v w, vs = [v, w] ∧ D.nx ((σ.set i (some v)).set j (some w)) H1
theorem ps_par {i j : Nat} {x y : Str} {a b : Expr} {ta : TA} {px py pt : Pos} {kt k2 pt2} (hc : X.calm = true) (hN : X.N.Nodup) (hi : X.N[i]? = some x) (hj : X.N[j]? = some y) (hij : i ≠ j)
    (hx : X.env.scope.names.lookup x = some .local) (hy : X.env.scope.names.lookup y = some .local) (ha : PA X [a, b] ta)
    (hw : swappedStores [.Tuple [.Name x px, .Name y py] kt pt] (.Tuple [a, b] k2 pt2) X.env = pure (some [x, y]))
    (hs : swapsWithSole [.Tuple [.Name x px, .Name y py] kt pt] (.Tuple [a, b] k2 pt2) pos.line X.env = pure false := by rfl) :
    PS X (.Assign [.Tuple [.Name x px, .Name y py] kt pt] (.Tuple [a, b] k2 pt2) pos) (tPar i j ta) := by
  intro pins s σ H D I h
  rw [exec_Assign_arm]
  refine wpAny_bind (wpAny_standAt ?_)
  rw [hs]
  refine wpAny_bind (wpAny_pure ?_)
  rw [if_neg (by decide)]
  refine wpAny_bind (Tuple_ (thn (ha _ pins s σ H _ I h) fun us s1 ⟨vs, H1, I1, r1, q1⟩ => ?_))
  obtain ⟨v, w, e1, q1⟩ := q1
  subst e1
  obtain ⟨u1, u2, rfl, rv, rw'⟩ : ∃ u1 u2, us = [u1, u2] ∧ RelV v u1 ∧ RelV w u2 := by
    cases r1 with
    | cons p q =>
      cases q with
      | cons p' q' =>
        cases q'
        exact ⟨_, _, rfl, p, p'⟩
  refine wpAny_newObj_type ?_ (by show 2 ≤ sizeLine; decide)
  have I2 : Inv X pins σ H1 { s1 with heap := s1.heap.push { cls := .type "tuple", data := .seq [u1, u2].toArray } } := I1.kept (t' := s1.toks) fun b o e => Heap.get?_push_of_some _ e
  rw [hw]
  refine wpAny_bind (wpAny_pure ?_)
  show wpAny (model X.prog X.w) X.A (do rule "assign.swapped-stores"; let items ← unpackItems (.ref s1.heap.objs.size) 2 none; assignInOrder [fun v => bindName X.env y v, fun v => bindName X.env x v] items.reverse; pure Flow.next) _ _ _
  refine wpAny_bind (wpAny_rule (wpAny_bind (unpackItems_tuple (items := #[u1, u2]) (I.ok.hd hc) (IsTup.new s1.heap _) fun h' hx' => ?_)))
  have I3 := I2.kept (h' := h') (t' := s1.toks) fun b o e => hx' b o (Nat.ne_of_lt (Heap.lt_size e)) e
  show wpAny _ _ (assignInOrder [fun v => bindName X.env y v, fun v => bindName X.env x v] [u2, u1] >>= fun _ => pure Flow.next) _ _ _
  refine wpAny_bind (assignInOrder_cons (wpAny_bindName (store_ok I3 hN hj (.inl hy) rw' (fun s2 I4 => ?_) (.inr hy))))
  refine assignInOrder_cons (wpAny_bindName (store_ok I4 hN hi (.inl hx) rv (fun s3 I5 => assignInOrder_nil (wpAny_pure ?_)) (.inr hx)))
  rw [List.set_comm _ _ (Ne.symm hij)] at I5
  exact ⟨_, H1, I5, q1⟩
end
section
variable {X : Cx} {pos : Pos}
def tWhile (c : TT) (tb : TS) : TS := fun D σ H => ∃ W : Nat → St → Hp → Prop, (∃ m, W m σ H) ∧ ∀ m σ H, W m σ H →
  c σ H fun b H1 => if b = true then ∃ N : St → Hp → Prop, (∀ σ' H', N σ' H' → ∃ m', m' < m ∧ W m' σ' H') ∧ tb { D with nx := N, ct := N, bk := D.nx } σ H1 else D.nx σ H1
theorem ps_while {c : Expr} {body : List Stmt} {tc : TT} {tb : TS} (hp : PassesOwn (model X.prog X.w) X.A X.env X.xe) (hc : PT X c tc) (hb : PSs X body tb) : PS X (.While c body [] pos) (tWhile tc tb) := by
  intro pins s σ H D I h
  obtain ⟨W, ⟨m0, w0⟩, turn⟩ := h
  refine wpAny_While (codeAny_whileLoop (fun n s' => ∃ σ' H', Inv X pins σ' H' s' ∧ W n σ' H') ?_ m0 ⟨σ, H, I, w0⟩)
  rintro n s1 ⟨σ1, H1, I1, w1⟩
  refine wpAny_passesOwn hp (thn (hc pins s1 σ1 H1 _ I1 (turn n σ1 H1 w1)) fun b s2 ⟨H2, I2, q2⟩ => ?_)
  cases b with
  | true =>
    obtain ⟨N, hN, q2⟩ := q2
    rw [if_pos rfl]
    refine wpAny_passesOwn hp (thn (hb pins s2 σ1 H2 _ I2 q2) fun f s3 q3 => ?_)
    cases f with
    | next =>
      obtain ⟨σ3, H3, I3, n3⟩ := q3
      obtain ⟨m', hm, w3⟩ := hN σ3 H3 n3
      exact ⟨m', hm, σ3, H3, I3, w3⟩
    | cont =>
      obtain ⟨σ3, H3, I3, n3⟩ := q3
      obtain ⟨m', hm, w3⟩ := hN σ3 H3 n3
      exact ⟨m', hm, σ3, H3, I3, w3⟩
    | brk => exact q3
    | ret v => exact q3
  | false =>
    rw [if_neg Bool.false_ne_true]
    exact wpAny_execs_nil ⟨σ1, H2, I2, q2⟩
end
structure It where
  go : Nat → Hp → Prop
  yld : Nat → Hp → V → Hp → Prop
  stop : Nat → Hp → Prop
def FpOk (X : Cx) (pins : List (Addr × Obj)) (H : Hp) (b : Addr) : Prop :=
  H b = none ∧ b ≠ X.env.locals ∧ b ∉ X.fs ∧ (b ∈ X.ex ∨ X.s_0.heap.objs.size ≤ b) ∧ (∀ x c, X.env.cells.lookup x = some c → c ≠ b) ∧ ∀ p ∈ X.pn ++ pins, p.1 ≠ b
theorem Inv.fpOk {X : Cx} {pins : List (Addr × Obj)} {σ : St} {H H' : Hp} {s : Shared} {b : Addr} (I : Inv X pins σ H s) (hb : s.heap.objs.size ≤ b) (hn : H' b = none) : FpOk X pins H' b := by
  refine ⟨hn, Nat.ne_of_gt (Nat.lt_of_lt_of_le I.lt hb), I.nofs hb, .inr (Nat.le_trans I.sz hb), fun x c e z => ?_, fun p hp z => ?_⟩
  · obtain ⟨v, q⟩ := I.cell x c e
    exact absurd (Nat.lt_of_lt_of_le q.lt (by rw [z]; exact hb)) (Nat.lt_irrefl _)
  · exact absurd (Nat.lt_of_lt_of_le (Heap.lt_size (I.pin p hp).1) (by rw [z]; exact hb)) (Nat.lt_irrefl _)
structure Turn (P : Program) (w : World) (K : PySem.W.Frag) (tg : Expr) (J : It) (fp : List Addr) (it : Addr) (tn : Nat → Heap → Prop) : Prop where
  mem : it ∈ fp
  obj : ∀ i h, tn i h → ∀ b ∈ fp, ∃ o, h.get? b = some o ∧ ∀ v, o.data ≠ .cell v
  keep : ∀ i h h', tn i h → (∀ b ∈ fp, ∀ o, h.get? b = some o → h'.get? b = some o) → tn i h'
  item : ∀ (X : Cx), X.prog = P → X.w = w → X.K = K → X.calm = true → ∀ (i : Nat) (pins : List (Addr × Obj)) (s : Shared) (σ : St) (H : Hp) (E : Value → Shared → Prop), Inv X pins σ H s → (∀ b ∈ fp, FpOk X pins H b) → tn i s.heap → J.go i H →
    wpAny (model P w) X.A (pyNext (.ref it)) (fun r s1 => ∃ u, r = some u ∧
      wpAny (model P w) X.A (letOwnedTupleGo tg (.ref it) u) (fun _ s2 => ∃ x H', Inv X pins σ H' s2 ∧ RelV x u ∧ J.yld i H x H' ∧ tn (i + 1) s2.heap ∧ ∀ b ∈ fp, H' b = none) E s1) E s
  done : ∀ (X : Cx), X.prog = P → X.w = w → X.K = K → X.calm = true → ∀ (i : Nat) (pins : List (Addr × Obj)) (s : Shared) (σ : St) (H : Hp) (E : Value → Shared → Prop), Inv X pins σ H s → (∀ b ∈ fp, FpOk X pins H b) → tn i s.heap → J.stop i H →
    wpAny (model P w) X.A (pyNext (.ref it)) (fun r s1 => r = none ∧ Inv X pins σ H s1) E s
  self : ∀ (A : Around) (i : Nat) (s : Shared) (Q : Value → Shared → Prop) (E : Value → Shared → Prop), tn i s.heap → Q (.ref it) s → wpAny (model P w) A (pyIter (.ref it)) Q E s
abbrev TI := St → Hp → (It → Hp → Prop) → Prop
def PIE (X : Cx) (pins : List (Addr × Obj)) (σ : St) (tg : Expr) (R : It → Hp → Prop) (itv : Value) (s2 : Shared) : Prop :=
  ∃ (it : Addr) (fp : List Addr) (tn : Nat → Heap → Prop) (J : It) (H' : Hp), itv = .ref it ∧ Inv X pins σ H' s2 ∧ Turn X.prog X.w X.K tg J fp it tn ∧ tn 0 s2.heap ∧ (∀ b ∈ fp, FpOk X pins H' b) ∧ R J H'
def PI (X : Cx) (tg iter : Expr) (wi : TI) : Prop :=
  ∀ (pins : List (Addr × Obj)) (s : Shared) (σ : St) (H : Hp) (R : It → Hp → Prop), Inv X pins σ H s → wi σ H R →
    wpAny (model X.prog X.w) X.A (eval iter X.env) (fun v s1 => wpAny (model X.prog X.w) X.A (pyIter v) (PIE X pins σ tg R) X.xe s1) X.xe s
theorem go_of {M : Model} {A : Around} {E : Value → Shared → Prop} {s : Shared} {tg : Expr} {it : Addr} {u : Value} {o : Obj} {n : String} {vs : Array Value} {Q : Unit → Shared → Prop} (ho : s.heap.get? it = some o) (hc : o.cls = .type n) (hd : o.data = .fields vs)
    (hn : ["enumerate", "zip", "dict_itemiterator", "dict_reverseitemiterator", "odict_iterator", "itertools.zip_longest", "itertools.pairwise"].contains n = false) (hQ : Q () s) : wpAny M A (letOwnedTupleGo tg (.ref it) u) Q E s := by
  unfold letOwnedTupleGo
  cases tg <;> first
    | exact wpAny_pure hQ
    | (cases u <;> first
        | exact wpAny_pure hQ
        | (refine wpAny_bind (wpAny_load ho ?_)
           rw [hc, hd]
           show wpAny M A (if (["enumerate", "zip", "dict_itemiterator", "dict_reverseitemiterator", "odict_iterator", "itertools.zip_longest", "itertools.pairwise"].contains n && vs[0]? == some (rawInt _)) = true then _ else _) Q E s
           rw [if_neg (by intro h; rw [hn, Bool.false_and] at h; cases h)]
           exact wpAny_pure hQ))
def Itl (K : PySem.W.Frag) (a : Addr) : It :=
  ⟨fun i H => ∃ xs x, SqL K H a xs ∧ xs[i]? = some x, fun i H x H' => H' = H ∧ ∀ xs, SqL K H a xs → xs[i]? = some x, fun i H => ∃ xs, SqL K H a xs ∧ xs.length ≤ i⟩
def Itt (K : PySem.W.Frag) (a : Addr) : It :=
  ⟨fun i H => ∃ xs x, SqT K H a xs ∧ xs[i]? = some x, fun i H x H' => H' = H ∧ ∀ xs, SqT K H a xs → xs[i]? = some x, fun i H => ∃ xs, SqT K H a xs ∧ xs.length ≤ i⟩
def Itr (lo : Int) (n : Nat) : It := ⟨fun i _ => i < n, fun i H x H' => H' = H ∧ x = .int (lo + i), fun i _ => n ≤ i⟩
theorem turn_list {P : Program} {w : World} {K : PySem.W.Frag} {tg : Expr} (a it : Addr) : Turn P w K tg (Itl K a) [it] it (fun i h => h.IsListIter it a i) where
  mem := by simp
  obj := fun i h st b hb => by
    have e : b = it := by simpa using hb
    subst e
    obtain ⟨o, e, c, d⟩ := st
    exact ⟨o, e, fun v z => by rw [d] at z; cases z⟩
  keep := fun i h h' st k => st.at fun o e => k it (by simp) o e
  item := by
    intro X hP hw hK hc i pins s σ H E I hf st hg
    subst hP hw hK
    obtain ⟨xs, x, hq, hx⟩ := hg
    obtain ⟨its, rv, p, hz⟩ := I.list hq
    obtain ⟨u, hu, ru⟩ := rv.get hx
    obtain ⟨f0, f1, f2, f3, f4, f5⟩ := hf it (by simp)
    refine wpAny_pyNext_list_item st p.isList (x := u) (by simpa using hu) fun h' st' sb => ?_
    have I1 : Inv X pins σ H { s with heap := h' } := I.turned (t' := s.toks) (fun b o hb e => (sb.2 b hb).trans e) f0 f1 f3 f4 f5
    obtain ⟨o, e, c, d⟩ := id st'
    exact ⟨u, rfl, go_of (s := { s with heap := h' }) e c d (by decide) ⟨x, H, I1, ru, ⟨rfl, fun ys hy => by rw [I.list_inj hy hq]; exact hx⟩, st', fun b hb => (hf b hb).1⟩⟩
  done := by
    intro X hP hw hK hc i pins s σ H E I hf st hg
    subst hP hw hK
    obtain ⟨xs, hq, hx⟩ := hg
    obtain ⟨its, rv, p, hz⟩ := I.list hq
    obtain ⟨f0, f1, f2, f3, f4, f5⟩ := hf it (by simp)
    have hl := rv.length
    exact wpAny_pyNext_list_end (I.ok.hd hc) st p.isList (by simp; omega) fun h' eb => ⟨rfl, I.turned (t' := s.toks) (fun b o hb e => eb b o hb e) f0 f1 f3 f4 f5⟩
  self := fun _ _ _ _ _ st h => wpAny_pyIter_listiter st h
theorem turn_tuple {P : Program} {w : World} {K : PySem.W.Frag} {tg : Expr} (a it : Addr) : Turn P w K tg (Itt K a) [it] it (fun i h => h.IsTupleIter it a i) where
  mem := by simp
  obj := fun i h st b hb => by
    have e : b = it := by simpa using hb
    subst e
    obtain ⟨o, e, c, d⟩ := st
    exact ⟨o, e, fun v z => by rw [d] at z; cases z⟩
  keep := fun i h h' st k => st.at fun o e => k it (by simp) o e
  item := by
    intro X hP hw hK hc i pins s σ H E I hf st hg
    subst hP hw hK
    obtain ⟨xs, x, hq, hx⟩ := hg
    obtain ⟨its, rv, p, hz⟩ := I.tuple hq
    obtain ⟨u, hu, ru⟩ := rv.get hx
    obtain ⟨f0, f1, f2, f3, f4, f5⟩ := hf it (by simp)
    refine wpAny_pyNext_tuple_item st (show s.heap.IsTuple a its.toArray from p) (x := u) (by simpa using hu) fun h' st' sb => ?_
    have I1 : Inv X pins σ H { s with heap := h' } := I.turned (t' := s.toks) (fun b o hb e => (sb.2 b hb).trans e) f0 f1 f3 f4 f5
    obtain ⟨o, e, c, d⟩ := id st'
    exact ⟨u, rfl, go_of (s := { s with heap := h' }) e c d (by decide) ⟨x, H, I1, ru, ⟨rfl, fun ys hy => by rw [I.tuple_inj hy hq]; exact hx⟩, st', fun b hb => (hf b hb).1⟩⟩
  done := by
    intro X hP hw hK hc i pins s σ H E I hf st hg
    subst hP hw hK
    obtain ⟨xs, hq, hx⟩ := hg
    obtain ⟨its, rv, p, hz⟩ := I.tuple hq
    obtain ⟨f0, f1, f2, f3, f4, f5⟩ := hf it (by simp)
    have hl := rv.length
    exact wpAny_pyNext_tuple_end (I.ok.hd hc) st (show s.heap.IsTuple a its.toArray from p) (by simp; omega) fun h' eb => ⟨rfl, I.turned (t' := s.toks) (fun b o hb e => eb b o hb e) f0 f1 f3 f4 f5⟩
  self := fun _ _ _ _ _ st h => wpAny_pyIter_tupleiter st h
theorem turn_range {P : Program} {w : World} {K : PySem.W.Frag} {tg : Expr} (it : Addr) (lo : Int) (n : Nat) : Turn P w K tg (Itr lo n) [it] it (fun i h => IsRangeIter h it (lo + (i : Nat) * 1) ((n : Int) - (i : Nat)) 1) where
  mem := by simp
  obj := fun i h st b hb => by
    have e : b = it := by simpa using hb
    subst e
    exact ⟨_, st, fun v z => by
      have z' : Data.fields _ = Data.cell v := z
      cases z'⟩
  keep := fun i h h' st k => k it (by simp) _ st
  item := by
    intro X hP hw hK hc i pins s σ H E I hf st hg
    subst hP hw hK
    obtain ⟨f0, f1, f2, f3, f4, f5⟩ := hf it (by simp)
    have W := Walks.range (prog := X.prog) (w := X.w) (I.ok.hd hc) it lo 1 n
    refine W.item i s _ _ hg st fun v h' tk hv st' kk => ?_
    obtain ⟨t, rfl⟩ := hv
    have I1 : Inv X pins σ H { s with heap := h', toks := tk } := I.turned (fun b o hb e => kk b o (by simpa using hb) e) f0 f1 f3 f4 f5
    refine ⟨_, rfl, go_of (s := { s with heap := h', toks := tk }) (n := "range_iterator") st' rfl rfl (by decide) ⟨.int (lo + i), H, I1, ⟨t, ?_⟩, ⟨rfl, rfl⟩, st', fun b hb => (hf b hb).1⟩⟩
    rw [Int.mul_one]
  done := by
    intro X hP hw hK hc i pins s σ H E I hf st hg
    subst hP hw hK
    obtain ⟨f0, f1, f2, f3, f4, f5⟩ := hf it (by simp)
    exact wpAny_pyNext_range_end (I.ok.hd hc) st (by have : n ≤ i := hg; omega) fun h' eb => ⟨rfl, I.turned (t' := s.toks) (fun b o hb e => eb b o hb e) f0 f1 f3 f4 f5⟩
  self := fun _ _ _ _ _ st h => wpAny_pyIter_rangeiter st h
end L2
namespace L2
open PySem PySem.Spec PyProof.Rows
section
variable {X : Cx} {tg : Expr}
def iList (K : PySem.W.Frag) (tl : TE) : TI := fun σ H R => tl σ H fun x H1 => ∃ a, x = .ref a ∧ (∃ xs, SqL K H1 a xs) ∧ R (Itl K a) H1
def iTup (K : PySem.W.Frag) (tl : TE) : TI := fun σ H R => tl σ H fun x H1 => ∃ a, x = .ref a ∧ (∃ xs, SqT K H1 a xs) ∧ R (Itt K a) H1
theorem pi_list {l : Expr} {tl : TE} (hl : PE X l tl) : PI X tg l (iList X.K tl) := by
  intro pins s σ H R I h
  refine thn (hl pins s σ H _ I h) fun v s1 ⟨x, H1, I1, r1, q1⟩ => ?_
  obtain ⟨a, e, ⟨xs, hq⟩, q⟩ := q1
  subst e
  cases r1
  obtain ⟨its, rv, p, hz⟩ := I1.list hq
  refine wpAny_pyIter_list p.isList ?_
  refine ⟨s1.heap.objs.size, [s1.heap.objs.size], _, _, H1, rfl, I1.kept (t' := s1.toks) fun b o e => Heap.get?_push_of_some _ e, turn_list a _, ⟨_, Heap.get?_push_size _ rfl, rfl, rfl⟩, fun b hb => ?_, q⟩
  have e : b = s1.heap.objs.size := by simpa using hb
  subst e
  exact I1.fpOk (Nat.le_refl _) (I1.hok.fresh (Nat.le_refl _))
theorem pi_tup {l : Expr} {tl : TE} (hl : PE X l tl) : PI X tg l (iTup X.K tl) := by
  intro pins s σ H R I h
  refine thn (hl pins s σ H _ I h) fun v s1 ⟨x, H1, I1, r1, q1⟩ => ?_
  obtain ⟨a, e, ⟨xs, hq⟩, q⟩ := q1
  subst e
  cases r1
  obtain ⟨its, rv, p, hz⟩ := I1.tuple hq
  refine wpAny_pyIter_tuple (show s1.heap.IsTuple a its.toArray from p) ?_
  refine ⟨s1.heap.objs.size, [s1.heap.objs.size], _, _, H1, rfl, I1.kept (t' := s1.toks) fun b o e => Heap.get?_push_of_some _ e, turn_tuple a _, ⟨_, Heap.get?_push_size _ rfl, rfl, rfl⟩, fun b hb => ?_, q⟩
  have e : b = s1.heap.objs.size := by simpa using hb
  subst e
  exact I1.fpOk (Nat.le_refl _) (I1.hok.fresh (Nat.le_refl _))
theorem range_it {pins : List (Addr × Obj)} {σ : St} {H : Hp} {s : Shared} {R : It → Hp → Prop} {E : Value → Shared → Prop} {lo hi : Int} {t u v : Tok} {tk : Nat} (I : Inv X pins σ H s) (h1 : -(2 ^ 62) ≤ lo) (h2 : lo < 2 ^ 62) (h3 : -(2 ^ 62) ≤ hi) (h4 : hi < 2 ^ 62)
    (q : R (Itr lo (hi - lo).toNat) H) : wpAny (model X.prog X.w) X.A (pyIter (.ref s.heap.objs.size)) (PIE X pins σ tg R) E { s with heap := s.heap.push { cls := .type "range", data := .fields #[.int lo t, .int hi u, .int 1 v] }, toks := tk } := by
  refine wpAny_pyIter_range (IsRange.new ..) (small_one h1 h2 h3 h4) ?_
  have I1 : Inv X pins σ H { s with heap := s.heap.push { cls := .type "range", data := .fields #[.int lo t, .int hi u, .int 1 v] }, toks := tk } := I.kept fun b o e => Heap.get?_push_of_some _ e
  refine ⟨(s.heap.push { cls := .type "range", data := .fields #[.int lo t, .int hi u, .int 1 v] }).objs.size, [(s.heap.push { cls := .type "range", data := .fields #[.int lo t, .int hi u, .int 1 v] }).objs.size], _, _, H, rfl,
    I1.kept (t' := tk) fun b o e => Heap.get?_push_of_some _ e, turn_range _ lo (hi - lo).toNat, ?_, fun b hb => ?_, q⟩
  · have e1 : lo + ((0 : Nat) : Int) * 1 = lo := by simp
    have e2 : (((hi - lo).toNat : Nat) : Int) - ((0 : Nat) : Int) = Builtin.Range.rangeSize lo hi 1 := by rw [rangeSize_one]; split <;> omega
    show IsRangeIter _ _ (lo + ((0 : Nat) : Int) * 1) ((((hi - lo).toNat : Nat) : Int) - ((0 : Nat) : Int)) 1
    rw [e1, e2]
    exact Heap.get?_push_size _ rfl
  · have e : b = (s.heap.push { cls := .type "range", data := .fields #[.int lo t, .int hi u, .int 1 v] }).objs.size := by simpa using hb
    subst e
    exact I1.fpOk (Nat.le_refl _) (I1.hok.fresh (Nat.le_refl _))
def iRng1 (ta : TA) : TI := fun σ H R => ta σ H fun vs H1 => ∃ j : Int, vs = [.int j] ∧ -(2 ^ 62) ≤ j ∧ j < 2 ^ 62 ∧ R (Itr 0 j.toNat) H1
def iRng2 (ta : TA) : TI := fun σ H R => ta σ H fun vs H1 => ∃ i j : Int, vs = [.int i, .int j] ∧ (-(2 ^ 62) ≤ i ∧ i < 2 ^ 62 ∧ -(2 ^ 62) ≤ j ∧ j < 2 ^ 62) ∧ R (Itr i (j - i).toNat) H1
theorem pi_range1 {a : Expr} {ta : TA} {p pos : Pos} (hg : Gl X "range") (hm : X.mg "range" = none) (ha : PA X [a] ta) (hs : starEach [a] X.env = [(false, eval a X.env)] := by rfl) : PI X tg (.Call (.Name "range" p) [a] [] pos) (iRng1 ta) := by
  intro pins s σ H R I h
  refine Call_ (ld_blt I hg hm boot_range (PyProof.Rows.callWith_type1 (thn (ha pos pins s σ H _ I h) fun us s1 ⟨vs, H1, I1, r1, q1⟩ => ?_) hs rfl))
  obtain ⟨j, e, q1, q2, q⟩ := q1
  subst e
  cases r1 with
  | cons r rr =>
    cases rr
    obtain ⟨t, rfl⟩ := r
    exact call_range_1 (range_it I1 (by omega) (by omega) q1 q2 (by simpa using q))
theorem pi_range2 {a b : Expr} {ta : TA} {p pos : Pos} (hg : Gl X "range") (hm : X.mg "range" = none) (ha : PA X [a, b] ta) (hs : starEach [a, b] X.env = [(false, eval a X.env), (false, eval b X.env)] := by rfl) (hs2 : starEach [b] X.env = [(false, eval b X.env)] := by rfl) :
    PI X tg (.Call (.Name "range" p) [a, b] [] pos) (iRng2 ta) := by
  intro pins s σ H R I h
  refine Call_ (ld_blt I hg hm boot_range (PyProof.Rows.callWith_type1 (thn (ha pos pins s σ H _ I h) fun us s1 ⟨vs, H1, I1, r1, q1⟩ => ?_) (by rw [hs, hs2]) (by rw [hs2]; rfl)))
  obtain ⟨i, j, e, ⟨q1, q2, q3, q4⟩, q⟩ := q1
  subst e
  cases r1 with
  | cons r rr =>
    cases rr with
    | cons r' rr =>
      cases rr
      obtain ⟨t, rfl⟩ := r
      obtain ⟨t', rfl⟩ := r'
      exact call_range_2 (range_it I1 q1 q2 q3 q4 q)
def tFor (wi : TI) (g : TG) (tb : TS) : TS := fun D σ H => wi σ H fun J H1 => ∃ W : Nat → Nat → St → Hp → Prop, (∃ m, W 0 m σ H1) ∧ ∀ i m σ H, W i m σ H →
  (J.stop i H ∧ D.nx σ H) ∨ (J.go i H ∧ ∃ N : St → Hp → Prop, (∀ σ' H', N σ' H' → ∃ m', m' < m ∧ W (i + 1) m' σ' H') ∧ ∀ x H', J.yld i H x H' → g x σ H' fun σ2 H2 => tb { D with nx := N, ct := N, bk := D.nx } σ2 H2)
def pinsAt (fp : List Addr) (h : Heap) : List (Addr × Obj) := fp.filterMap fun b => (h.get? b).map fun o => (b, o)
theorem mem_pinsAt {fp : List Addr} {h : Heap} {b : Addr} {o : Obj} (hb : b ∈ fp) (e : h.get? b = some o) : (b, o) ∈ pinsAt fp h := List.mem_filterMap.mpr ⟨b, hb, by rw [e]; rfl⟩
theorem of_pinsAt {fp : List Addr} {h : Heap} {p : Addr × Obj} (hp : p ∈ pinsAt fp h) : p.1 ∈ fp ∧ h.get? p.1 = some p.2 := by
  obtain ⟨b, hb, e⟩ := List.mem_filterMap.mp hp
  cases q : h.get? b with
  | none => rw [q] at e; cases e
  | some o =>
    rw [q] at e
    have e' : (b, o) = p := Option.some.inj e
    subst e'
    exact ⟨hb, q⟩
theorem Inv.pinned {pins : List (Addr × Obj)} {σ : St} {H : Hp} {s : Shared} {fp : List Addr} (I : Inv X pins σ H s) (hf : ∀ b ∈ fp, FpOk X pins H b) (ho : ∀ b ∈ fp, ∃ o, s.heap.get? b = some o ∧ ∀ v, o.data ≠ .cell v) : Inv X (pins ++ pinsAt fp s.heap) σ H s :=
  I.pins_of fun p hp => (List.mem_append.mp hp).elim (fun z => I.pin p (List.mem_append_right _ z)) fun z => by
    obtain ⟨hb, e⟩ := of_pinsAt z
    obtain ⟨f0, f1, f2, _⟩ := hf p.1 hb
    obtain ⟨o, e', d⟩ := ho p.1 hb
    rw [e] at e'; cases e'
    exact ⟨e, f0, f1, f2, d⟩
theorem Inv.unpinned {pins pl : List (Addr × Obj)} {σ : St} {H : Hp} {s : Shared} (I : Inv X (pins ++ pl) σ H s) : Inv X pins σ H s := I.pins_of fun p hp => I.pin p (List.mem_append_right _ (List.mem_append_left _ hp))
theorem ps_for {iter : Expr} {body : List Stmt} {wi : TI} {g : TG} {tb : TS} {pos : Pos} (hp : PassesOwn (model X.prog X.w) X.A X.env X.xe) (hc : X.calm = true) (hi : PI X tg iter wi) (hg : PG X tg g) (hb : PSs X body tb)
    (hs : ∀ x, foldedSetIterable iter X.env x = pure x := by intro _; rfl) : PS X (.For tg iter body [] pos) (tFor wi g tb) := by
  intro pins s σ H D I h
  refine wpAny_For (thn (hi pins s σ H _ I h) fun v s1 h1 => thn h1 fun itv s2 h2 => ?_) hs
  obtain ⟨it, fp, tn, J, H2, e, I2, T, st2, f2, W, ⟨m0, w0⟩, turn⟩ := h2
  subst e
  -- what stays true of the iterator's objects through the loop
  have stat : ∀ {H' : Hp}, (∀ b ∈ fp, H' b = none) → ∀ b ∈ fp, FpOk X pins H' b := fun hn b hb => ⟨hn b hb, (f2 b hb).2⟩
  refine codeAny_forLoop_any (fun n s' => ∃ i σ' H', Inv X pins σ' H' s' ∧ tn i s'.heap ∧ (∀ b ∈ fp, H' b = none) ∧ W i n σ' H') ?_ m0 ⟨0, σ, H2, I2, st2, fun b hb => (f2 b hb).1, w0⟩
  rintro n s3 ⟨i, σ3, H3, I3, st3, fr3, w3⟩
  rcases turn i n σ3 H3 w3 with ⟨stop, qn⟩ | ⟨go, N, hN, step⟩
  · refine wpAny_passesOwn hp (thn (T.done X rfl rfl rfl hc i pins s3 σ3 H3 X.xe I3 (stat fr3) st3 stop) fun r s4 ⟨hr, I4⟩ => ?_)
    subst hr
    exact wpAny_execs_nil ⟨σ3, H3, I4, qn⟩
  · refine wpAny_passesOwn hp (thn (T.item X rfl rfl rfl hc i pins s3 σ3 H3 X.xe I3 (stat fr3) st3 go) fun r s4 ⟨u, hr, h4⟩ => ?_)
    subst hr
    refine wpAny_passesOwn hp (thn h4 fun _ s5 ⟨x, H5, I5, r5, y5, st5, fr5⟩ => ?_)
    have I5' := I5.pinned (stat fr5) (T.obj _ _ st5)
    refine wpAny_passesOwn hp (thn (hg _ s5 σ3 H5 x u _ I5' r5 (step x H5 y5)) fun _ s6 ⟨σ6, H6, I6, q6⟩ => ?_)
    refine wpAny_passesOwn hp (thn (hb _ s6 σ6 H6 _ I6 q6) fun f s7 q7 => ?_)
    have again : ∀ {σ7 : St} {H7 : Hp}, Inv X (pins ++ pinsAt fp s5.heap) σ7 H7 s7 → N σ7 H7 → ∃ m, m < n ∧ ∃ i σ' H', Inv X pins σ' H' s7 ∧ tn i s7.heap ∧ (∀ b ∈ fp, H' b = none) ∧ W i m σ' H' := fun {σ7 H7} I7 n7 => by
      obtain ⟨m', hm, w7⟩ := hN σ7 H7 n7
      refine ⟨m', hm, i + 1, σ7, H7, I7.unpinned, T.keep _ _ _ st5 fun b hb o e => (I7.pin (b, o) (List.mem_append_right _ (List.mem_append_right _ (mem_pinsAt hb e)))).1, fun b hb => ?_, w7⟩
      obtain ⟨o, e, d⟩ := T.obj _ _ st5 b hb
      exact (I7.pin (b, o) (List.mem_append_right _ (List.mem_append_right _ (mem_pinsAt hb e)))).2.1
    cases f with
    | next => obtain ⟨σ7, H7, I7, n7⟩ := q7; exact again I7 n7
    | cont => obtain ⟨σ7, H7, I7, n7⟩ := q7; exact again I7 n7
    | brk => obtain ⟨σ7, H7, I7, q7⟩ := q7; exact ⟨σ7, H7, I7.unpinned, q7⟩
    | ret v => obtain ⟨x7, σ7, H7, I7, r7, q7⟩ := q7; exact ⟨x7, σ7, H7, I7.unpinned, r7, q7⟩
end
theorem for_list {K : PySem.W.Frag} {a : Addr} {xs : List V} {g : TG} {tb : TS} {D : Ends} {σ : St} {H : Hp} (Pv : Nat → St → Hp → Prop) (h0 : Pv 0 σ H) (hl : ∀ i σ H, i ≤ xs.length → Pv i σ H → SqL K H a xs)
    (hs : ∀ i x σ H, xs[i]? = some x → Pv i σ H → g x σ H fun σ2 H2 => tb { D with nx := Pv (i + 1), ct := Pv (i + 1), bk := D.nx } σ2 H2) (hd : ∀ σ H, Pv xs.length σ H → D.nx σ H) :
    ∃ W : Nat → Nat → St → Hp → Prop, (∃ m, W 0 m σ H) ∧ ∀ i m σ H, W i m σ H →
      ((Itl K a).stop i H ∧ D.nx σ H) ∨ ((Itl K a).go i H ∧ ∃ N : St → Hp → Prop, (∀ σ' H', N σ' H' → ∃ m', m' < m ∧ W (i + 1) m' σ' H') ∧ ∀ x H', (Itl K a).yld i H x H' → g x σ H' fun σ2 H2 => tb { D with nx := N, ct := N, bk := D.nx } σ2 H2) := by
  refine ⟨fun i m σ H => m = xs.length - i ∧ i ≤ xs.length ∧ Pv i σ H, ⟨xs.length, by simp, Nat.zero_le _, h0⟩, ?_⟩
  rintro i m σ H ⟨rfl, hi, p⟩
  have q := hl i σ H hi p
  by_cases hlt : i < xs.length
  · refine .inr ⟨⟨xs, xs[i], q, by simp [hlt]⟩, Pv (i + 1), fun σ' H' p' => ⟨xs.length - (i + 1), by omega, rfl, hlt, p'⟩, fun x H' y => ?_⟩
    obtain ⟨e, y⟩ := y
    subst e
    exact hs i x σ _ (y xs q) p
  · have e : i = xs.length := by omega
    subst e
    exact .inl ⟨⟨xs, q, Nat.le_refl _⟩, hd σ H p⟩
theorem for_tup {K : PySem.W.Frag} {a : Addr} {xs : List V} {g : TG} {tb : TS} {D : Ends} {σ : St} {H : Hp} (Pv : Nat → St → Hp → Prop) (h0 : Pv 0 σ H) (hl : ∀ i σ H, i ≤ xs.length → Pv i σ H → SqT K H a xs)
    (hs : ∀ i x σ H, xs[i]? = some x → Pv i σ H → g x σ H fun σ2 H2 => tb { D with nx := Pv (i + 1), ct := Pv (i + 1), bk := D.nx } σ2 H2) (hd : ∀ σ H, Pv xs.length σ H → D.nx σ H) :
    ∃ W : Nat → Nat → St → Hp → Prop, (∃ m, W 0 m σ H) ∧ ∀ i m σ H, W i m σ H →
      ((Itt K a).stop i H ∧ D.nx σ H) ∨ ((Itt K a).go i H ∧ ∃ N : St → Hp → Prop, (∀ σ' H', N σ' H' → ∃ m', m' < m ∧ W (i + 1) m' σ' H') ∧ ∀ x H', (Itt K a).yld i H x H' → g x σ H' fun σ2 H2 => tb { D with nx := N, ct := N, bk := D.nx } σ2 H2) := by
  refine ⟨fun i m σ H => m = xs.length - i ∧ i ≤ xs.length ∧ Pv i σ H, ⟨xs.length, by simp, Nat.zero_le _, h0⟩, ?_⟩
  rintro i m σ H ⟨rfl, hi, p⟩
  have q := hl i σ H hi p
  by_cases hlt : i < xs.length
  · refine .inr ⟨⟨xs, xs[i], q, by simp [hlt]⟩, Pv (i + 1), fun σ' H' p' => ⟨xs.length - (i + 1), by omega, rfl, hlt, p'⟩, fun x H' y => ?_⟩
    obtain ⟨e, y⟩ := y
    subst e
    exact hs i x σ _ (y xs q) p
  · have e : i = xs.length := by omega
    subst e
    exact .inl ⟨⟨xs, q, Nat.le_refl _⟩, hd σ H p⟩
theorem for_range {lo : Int} {n : Nat} {g : TG} {tb : TS} {D : Ends} {σ : St} {H : Hp} (Pv : Nat → St → Hp → Prop) (h0 : Pv 0 σ H)
    (hs : ∀ i σ H, i < n → Pv i σ H → g (.int (lo + i)) σ H fun σ2 H2 => tb { D with nx := Pv (i + 1), ct := Pv (i + 1), bk := D.nx } σ2 H2) (hd : ∀ σ H, Pv n σ H → D.nx σ H) :
    ∃ W : Nat → Nat → St → Hp → Prop, (∃ m, W 0 m σ H) ∧ ∀ i m σ H, W i m σ H →
      ((Itr lo n).stop i H ∧ D.nx σ H) ∨ ((Itr lo n).go i H ∧ ∃ N : St → Hp → Prop, (∀ σ' H', N σ' H' → ∃ m', m' < m ∧ W (i + 1) m' σ' H') ∧ ∀ x H', (Itr lo n).yld i H x H' → g x σ H' fun σ2 H2 => tb { D with nx := N, ct := N, bk := D.nx } σ2 H2) := by
  refine ⟨fun i m σ H => m = n - i ∧ i ≤ n ∧ Pv i σ H, ⟨n, by simp, Nat.zero_le _, h0⟩, ?_⟩
  rintro i m σ H ⟨rfl, hi, p⟩
  by_cases hlt : i < n
  · refine .inr ⟨hlt, Pv (i + 1), fun σ' H' p' => ⟨n - (i + 1), by omega, rfl, hlt, p'⟩, fun x H' y => ?_⟩
    obtain ⟨e, y⟩ := y
    subst e y
    exact hs i σ _ hlt p
  · have e : i = n := by omega
    subst e
    exact .inl ⟨Nat.le_refl _, hd σ H p⟩
end L2
namespace L2
open PySem PySem.Spec PyProof.Rows
abbrev R2 := V → V → Hp → VK → Prop
def OpR (X : Cx) (f : Value → Value → Sem Value) (r : R2) : Prop :=
  ∀ (pins : List (Addr × Obj)) (s : Shared) (σ : St) (H : Hp) (x y : V) (v u : Value) (Q : VK), Inv X pins σ H s → RelV x v → RelV y u → r x y H Q →
    wpAny (model X.prog X.w) X.A (f v u) (EP X pins σ Q) X.xe s
def CallR (X : Cx) (f : Value) (r : List V → Hp → VK → Prop) : Prop :=
  ∀ (pins : List (Addr × Obj)) (s : Shared) (σ : St) (H : Hp) (xs : List V) (us : List Value) (Q : VK), Inv X pins σ H s → Vals xs us → r xs H Q →
    wpAny (model X.prog X.w) X.A (call f us) (EP X pins σ Q) X.xe s
def TruR (X : Cx) (r : V → Hp → (Bool → Hp → Prop) → Prop) : Prop :=
  ∀ (pins : List (Addr × Obj)) (s : Shared) (σ : St) (H : Hp) (x : V) (v : Value) (Q : Bool → Hp → Prop), Inv X pins σ H s → RelV x v → r x H Q →
    wpAny (model X.prog X.w) X.A (truthy v) (TP X pins σ Q) X.xe s
def tOp (r : R2) (ta tb : TE) : TE := fun σ H Q => ta σ H fun x H1 => tb σ H1 fun y H2 => r x y H2 Q
def rI (C : Int → Int → Prop) (g : Int → Int → V) : R2 := fun x y H Q => ∃ i j, x = .int i ∧ y = .int j ∧ C i j ∧ Q (g i j) H
def rI0 (g : Int → Int → V) : R2 := fun x y H Q => ∃ i j, x = .int i ∧ y = .int j ∧ Q (g i j) H
section
variable {X : Cx} {a b c : Expr} {ta tb tc : TE} {pos : Pos}
theorem binT (ha : PE X a ta) (hb : PE X b tb) {pins : List (Addr × Obj)} {s : Shared} {σ : St} {H : Hp} {R : V → V → Hp → Prop} (I : Inv X pins σ H s)
    (h : ta σ H fun x H1 => tb σ H1 fun y H2 => R x y H2) {Q : Value → Shared → Prop} {f : Value → Value → Sem Value}
    (hf : ∀ v u s2 x y H2, Inv X pins σ H2 s2 → RelV x v → RelV y u → R x y H2 → wpAny (model X.prog X.w) X.A (f v u) Q X.xe s2) :
    wpAny (model X.prog X.w) X.A (eval a X.env) (fun v s₁ => wpAny (model X.prog X.w) X.A (eval b X.env) (fun u s₂ => wpAny (model X.prog X.w) X.A (f v u) Q X.xe s₂) X.xe s₁) X.xe s := by
  refine thn (ha pins s σ H _ I h) fun v s1 ⟨x, H1, I1, r1, q1⟩ => ?_
  refine thn (hb pins s1 σ H1 _ I1 q1) fun u s2 ⟨y, H2, I2, r2, q2⟩ => ?_
  exact hf v u s2 x y H2 I2 r1 r2 q2
theorem pe_op {op : Operator} {r : R2} (ho : OpR X (binaryOp op) r) (ha : PE X a ta) (hb : PE X b tb) : PE X (.BinOp a op b pos) (tOp r ta tb) := by
  intro pins s σ H Q I h
  exact wpAny_BinOp (binT ha hb I h fun v u s2 x y H2 I2 rx ry q => ho pins s2 σ H2 x y v u Q I2 rx ry q)
theorem opI {f : Value → Value → Sem Value} {C : Int → Int → Prop} {g : Int → Int → Int}
    (rule : ∀ (i j : Int) (t u : Tok) (s : Shared) (Q : Value → Shared → Prop) (E : Value → Shared → Prop), C i j → Q (.int (g i j) s.toks) { s with toks := s.toks + 1 } → wpAny (model X.prog X.w) X.A (f (.int i t) (.int j u)) Q E s) :
    OpR X f (rI C fun i j => .int (g i j)) := by
  intro pins s σ H x y v u Q I rx ry h
  obtain ⟨i, j, rfl, rfl, hc, q⟩ := h
  obtain ⟨t, rfl⟩ := rx
  obtain ⟨t', rfl⟩ := ry
  exact rule i j t t' s _ _ hc ⟨.int (g i j), H, I.tok _, ⟨_, rfl⟩, q⟩
theorem opI0 {f : Value → Value → Sem Value} {g : Int → Int → Int}
    (rule : ∀ (i j : Int) (t u : Tok) (s : Shared) (Q : Value → Shared → Prop) (E : Value → Shared → Prop), Q (.int (g i j) s.toks) { s with toks := s.toks + 1 } → wpAny (model X.prog X.w) X.A (f (.int i t) (.int j u)) Q E s) :
    OpR X f (rI0 fun i j => .int (g i j)) := by
  intro pins s σ H x y v u Q I rx ry h
  obtain ⟨i, j, rfl, rfl, q⟩ := h
  obtain ⟨t, rfl⟩ := rx
  obtain ⟨t', rfl⟩ := ry
  exact rule i j t t' s _ _ ⟨.int (g i j), H, I.tok _, ⟨_, rfl⟩, q⟩
theorem opB0 {f : Value → Value → Sem Value} {g : Int → Int → Bool}
    (rule : ∀ (i j : Int) (t u : Tok) (s : Shared) (Q : Value → Shared → Prop) (E : Value → Shared → Prop), Q (.bool (g i j)) s → wpAny (model X.prog X.w) X.A (f (.int i t) (.int j u)) Q E s) :
    OpR X f (rI0 fun i j => .bl (g i j)) := by
  intro pins s σ H x y v u Q I rx ry h
  obtain ⟨i, j, rfl, rfl, q⟩ := h
  obtain ⟨t, rfl⟩ := rx
  obtain ⟨t', rfl⟩ := ry
  exact rule i j t t' s _ _ ⟨.bl (g i j), H, I, rfl, q⟩
def CDiv (i j : Int) : Prop := 0 < j ∧ j < 1073741824
def CPow (i j : Int) : Prop := 0 ≤ j ∧ j ≤ 1000000 ∧ i.natAbs < 2 ^ 64
def CMul (i j : Int) : Prop := (-(2 ^ 64) < i ∧ i < 2 ^ 64) ∨ (-(2 ^ 64) < j ∧ j < 2 ^ 64)
theorem CMul.ok {i j : Int} (h : CMul i j) : IntMulOk i j := by
  rcases h with ⟨h1, h2⟩ | ⟨h1, h2⟩
  · exact .of_left (intBits_le_64 h1 h2)
  · exact .of_right (intBits_le_64 h1 h2)
theorem op_add : OpR X (binaryOp .Add) (rI0 fun i j => .int (i + j)) := opI0 fun _ _ _ _ _ _ _ q => add_int q
theorem op_sub : OpR X (binaryOp .Sub) (rI0 fun i j => .int (i - j)) := opI0 fun _ _ _ _ _ _ _ q => sub_int q
theorem op_mul : OpR X (binaryOp .Mult) (rI CMul fun i j => .int (i * j)) := opI fun _ _ _ _ _ _ _ hc q => mul_int q hc.ok
theorem op_fdiv : OpR X (binaryOp .FloorDiv) (rI CDiv fun i j => .int (i / j)) := opI fun i j _ _ _ _ _ hc q => by
  have h1 : (0 : Int) < j := hc.1
  have h2 : j < 1073741824 := hc.2
  exact floordiv_int (by omega) (by rw [Int.fdiv_eq_ediv_of_nonneg i (by omega)]; exact q) (.inl (PyProof.noPylong_small (by omega)))
theorem op_mod : OpR X (binaryOp .Mod) (rI (fun _ j => 0 < j) fun i j => .int (i % j)) := opI fun i j _ _ _ _ _ hc q => by
  have h1 : (0 : Int) < j := hc
  exact mod_int' (by omega) (by rw [Int.fmod_eq_emod_of_nonneg i (by omega)]; exact q)
theorem op_pow : OpR X (binaryOp .Pow) (rI CPow fun i j => .int (i ^ j.toNat)) := opI fun _ _ _ _ _ _ _ hc q => pow_int_small hc.1 hc.2.1 hc.2.2 q
end
def scal : V → V → Bool
  | .non, .non => true | .non, .int _ => true | .int _, .non => true | .non, .bl _ => true | .bl _, .non => true | .non, .str _ => true | .str _, .non => true
  | .int _, .int _ => true | .bl _, .bl _ => true | .str _, .str _ => true | .byt _, .byt _ => true
  | .int _, .str _ => true | .str _, .int _ => true | .bl _, .str _ => true | .str _, .bl _ => true
  | _, _ => false
def rEq : R2 := fun x y H Q => scal x y = true ∧ Q (.bl (decide (x = y))) H
def rNe : R2 := fun x y H Q => scal x y = true ∧ Q (.bl (!decide (x = y))) H
theorem dec_int {i j : Int} : decide (V.int i = V.int j) = (i == j) := by
  rw [Bool.eq_iff_iff]
  simp
theorem dec_bl {i j : Bool} : decide (V.bl i = V.bl j) = (i == j) := by
  rw [Bool.eq_iff_iff]
  simp
theorem dec_str {i j : Str} : decide (V.str i = V.str j) = (i == j) := by
  rw [Bool.eq_iff_iff]
  simp
theorem dec_byt {i j : Array UInt8} : decide (V.byt i = V.byt j) = (i.toList == j.toList) := by
  rw [Bool.eq_iff_iff]
  cases i
  cases j
  simp
section
variable {X : Cx} {a b c : Expr} {ta tb tc : TE} {pos : Pos}
theorem fin_bl {pins : List (Addr × Obj)} {σ : St} {H : Hp} {s : Shared} {Q : VK} {k k' : Bool} (I : Inv X pins σ H s) (q : Q (.bl k) H) (e : k = k') : EP X pins σ Q (.bool k') s := by
  subst e
  exact ⟨.bl k, H, I, rfl, q⟩
theorem op_eq : OpR X (compareOp .Eq) rEq := by
  intro pins s σ H x y v u Q I rx ry h
  obtain ⟨hs, q⟩ := h
  cases x with
  | non =>
    cases rx
    cases y with
    | non => cases ry; exact PySem.EqNone.eq_none_none (fin_bl I q (by simp))
    | bl j => cases ry; exact PySem.EqNone.eq_none_bool (fin_bl I q (by simp))
    | int j => obtain ⟨t', rfl⟩ := ry; exact PySem.EqNone.eq_none_int (fin_bl I q (by simp))
    | str j => obtain ⟨t', rfl⟩ := ry; exact PySem.EqNone.eq_none_str (fin_bl I q (by simp))
    | _ => exact absurd (show false = true from hs) Bool.false_ne_true
  | bl i =>
    cases rx
    cases y with
    | non => cases ry; exact PySem.EqNone.eq_bool_none (fin_bl I q (by simp))
    | bl j => cases ry; exact eq_bool (fin_bl I q dec_bl)
    | str j => obtain ⟨t', rfl⟩ := ry; exact PySem.EqMixed.eq_bool_str (fin_bl I q (by simp))
    | _ => exact absurd (show false = true from hs) Bool.false_ne_true
  | int i =>
    obtain ⟨t, rfl⟩ := rx
    cases y with
    | non => cases ry; exact PySem.EqNone.eq_int_none (fin_bl I q (by simp))
    | int j => obtain ⟨t', rfl⟩ := ry; exact eq_int (fin_bl I q dec_int)
    | str j => obtain ⟨t', rfl⟩ := ry; exact PySem.EqMixed.eq_int_str (fin_bl I q (by simp))
    | _ => exact absurd (show false = true from hs) Bool.false_ne_true
  | str i =>
    obtain ⟨t, rfl⟩ := rx
    cases y with
    | non => cases ry; exact PySem.EqNone.eq_str_none (fin_bl I q (by simp))
    | bl j => cases ry; exact PySem.EqMixed.eq_str_bool (fin_bl I q (by simp))
    | int j => obtain ⟨t', rfl⟩ := ry; exact PySem.EqMixed.eq_str_int (fin_bl I q (by simp))
    | str j => obtain ⟨t', rfl⟩ := ry; exact eq_str (fin_bl I q dec_str)
    | _ => exact absurd (show false = true from hs) Bool.false_ne_true
  | byt i =>
    obtain ⟨t, rfl⟩ := rx
    cases y with
    | byt j => obtain ⟨t', rfl⟩ := ry; exact PySem.W.eq_bytes (fin_bl I q dec_byt)
    | _ => exact absurd (show false = true from hs) Bool.false_ne_true
  | _ => cases y <;> exact absurd (show false = true from hs) Bool.false_ne_true
theorem op_ne : OpR X (compareOp .NotEq) rNe := by
  intro pins s σ H x y v u Q I rx ry h
  obtain ⟨hs, q⟩ := h
  cases x with
  | non =>
    cases rx
    cases y with
    | non => cases ry; exact PySem.EqNone.ne_none_none (fin_bl I q (by simp))
    | bl j => cases ry; exact PySem.EqNone.ne_none_bool (fin_bl I q (by simp))
    | int j => obtain ⟨t', rfl⟩ := ry; exact PySem.EqNone.ne_none_int (fin_bl I q (by simp))
    | str j => obtain ⟨t', rfl⟩ := ry; exact PySem.EqNone.ne_none_str (fin_bl I q (by simp))
    | _ => exact absurd (show false = true from hs) Bool.false_ne_true
  | bl i =>
    cases rx
    cases y with
    | non => cases ry; exact PySem.EqNone.ne_bool_none (fin_bl I q (by simp))
    | bl j => cases ry; exact ne_bool (fin_bl I q (congrArg not dec_bl))
    | str j => obtain ⟨t', rfl⟩ := ry; exact PySem.EqMixed.ne_bool_str (fin_bl I q (by simp))
    | _ => exact absurd (show false = true from hs) Bool.false_ne_true
  | int i =>
    obtain ⟨t, rfl⟩ := rx
    cases y with
    | non => cases ry; exact PySem.EqNone.ne_int_none (fin_bl I q (by simp))
    | int j => obtain ⟨t', rfl⟩ := ry; exact ne_int (fin_bl I q (congrArg not dec_int))
    | str j => obtain ⟨t', rfl⟩ := ry; exact PySem.EqMixed.ne_int_str (fin_bl I q (by simp))
    | _ => exact absurd (show false = true from hs) Bool.false_ne_true
  | str i =>
    obtain ⟨t, rfl⟩ := rx
    cases y with
    | non => cases ry; exact PySem.EqNone.ne_str_none (fin_bl I q (by simp))
    | bl j => cases ry; exact PySem.EqMixed.ne_str_bool (fin_bl I q (by simp))
    | int j => obtain ⟨t', rfl⟩ := ry; exact PySem.EqMixed.ne_str_int (fin_bl I q (by simp))
    | str j => obtain ⟨t', rfl⟩ := ry; exact ne_str (fin_bl I q (congrArg not dec_str))
    | _ => exact absurd (show false = true from hs) Bool.false_ne_true
  | byt i =>
    obtain ⟨t, rfl⟩ := rx
    cases y with
    | byt j => obtain ⟨t', rfl⟩ := ry; exact PySem.W.ne_bytes (fin_bl I q (congrArg not dec_byt))
    | _ => exact absurd (show false = true from hs) Bool.false_ne_true
  | _ => cases y <;> exact absurd (show false = true from hs) Bool.false_ne_true
theorem op_lt : OpR X (compareOp .Lt) (rI0 fun i j => .bl (decide (i < j))) := opB0 fun _ _ _ _ _ _ _ q => lt_int q
theorem op_gt : OpR X (compareOp .Gt) (rI0 fun i j => .bl (decide (j < i))) := opB0 fun _ _ _ _ _ _ _ q => gt_int q
theorem op_ge : OpR X (compareOp .GtE) (rI0 fun i j => .bl (decide (j ≤ i))) := opB0 fun _ _ _ _ _ _ _ q => ge_int q
theorem op_isN : OpR X (compareOp .Is) (fun x y H Q => y = .non ∧ Q (.bl (decide (x = .non))) H) := by
  intro pins s σ H x y v u Q I rx ry h
  obtain ⟨rfl, q⟩ := h
  cases ry
  refine is_none_gen (fin_bl I q ?_)
  cases x <;> first
    | (cases rx; rfl)
    | (obtain ⟨t, rfl⟩ := rx; rfl)
theorem op_notN : OpR X (compareOp .IsNot) (fun x y H Q => y = .non ∧ Q (.bl (!decide (x = .non))) H) := by
  intro pins s σ H x y v u Q I rx ry h
  obtain ⟨rfl, q⟩ := h
  cases ry
  refine isnot_none_gen (fin_bl I q ?_)
  cases x <;> first
    | (cases rx; rfl)
    | (obtain ⟨t, rfl⟩ := rx; rfl)
theorem nomark (b : Expr) {op : CmpOp} (h : op ≠ .In := by decide) (h2 : op ≠ .NotIn := by decide) : behindInMarks op b = false := by
  have e1 : (op == CmpOp.In) = false := by cases op <;> first | rfl | exact absurd rfl h
  have e2 : (op == CmpOp.NotIn) = false := by cases op <;> first | rfl | exact absurd rfl h2
  cases b <;> simp [behindInMarks, e1, e2]
theorem pe_cmpR {op : CmpOp} {r : R2} (ho : OpR X (compareOp op) r) (ha : PE X a ta) (hb : PE X b tb) (hm : behindInMarks op b = false) : PE X (.Compare a [op] [b] pos) (tOp r ta tb) := by
  intro pins s σ H Q I h
  exact wpAny_Compare1 (binT ha hb I h fun v u s2 x y H2 I2 rx ry q => ho pins s2 σ H2 x y v u Q I2 rx ry q) hm
def tTest (t : TE) : TT := fun σ H Q => t σ H fun x H' => ∃ k, x = .bl k ∧ Q k H'
theorem pt_cmpR {op : CmpOp} {r : R2} (ho : OpR X (compareOp op) r) (ha : PE X a ta) (hb : PE X b tb) (hm : behindInMarks op b = false) : PT X (.Compare a [op] [b] pos) (tTest (tOp r ta tb)) := by
  intro pins s σ H Q I h
  refine wpAny_isTrue_Compare1 (thn (ha pins s σ H _ I h) fun v s1 ⟨x, H1, I1, r1, q1⟩ => thn (hb pins s1 σ H1 _ I1 q1) fun u s2 ⟨y, H2, I2, r2, q2⟩ =>
    thn (ho pins s2 σ H2 x y v u _ I2 r1 r2 q2) fun c s3 ⟨z, H3, I3, r3, k, e, q3⟩ => ?_) hm
  subst e
  cases r3
  exact wpAny_truthy_bool ⟨H3, I3, q3⟩
def TruV (K : PySem.W.Frag) (x : V) (H : Hp) (k : Bool) : Prop :=
  match x with
  | .non => k = false
  | .bl b => k = b
  | .int i => k = (i != 0)
  | .str y => y.length ≤ sizeLine ∧ k = ((y.length : Int) != 0)
  | .byt y => y.size ≤ sizeLine ∧ k = ((y.size : Int) != 0)
  | .ref p => (∃ xs, SqL K H p xs ∧ k = !xs.isEmpty) ∨ (∃ xs, SqT K H p xs ∧ k = !xs.isEmpty) ∨ ∃ kvs, H p = some (.dK kvs) ∧ k = !kvs.isEmpty
  | _ => False
theorem isEmpty_kv {κ : Type} {kvs : List (κ × V)} {vs : List (κ × Value)} (r : KV kvs vs) : (!vs.isEmpty) = !kvs.isEmpty := by
  cases r <;> rfl
theorem isEmpty_of {xs : List V} {its : List Value} (r : Vals xs its) : (!its.toArray.isEmpty) = !xs.isEmpty := by
  cases r <;> simp
theorem line63 : (sizeLine : Nat) < 2 ^ 63 := by rw [sizeLine_eq]; decide
theorem tru_ok : TruR X (fun x H Q => ∃ k, TruV X.K x H k ∧ Q k H) := by
  intro pins s σ H x v Q I rx h
  obtain ⟨k, e, q⟩ := h
  have hl := line63
  have hs : sizeLine = 16777216 := sizeLine_eq
  cases x with
  | non =>
    cases rx
    have e' : k = false := e
    subst e'
    exact truthy_none ⟨H, I, q⟩
  | bl b =>
    cases rx
    have e' : k = b := e
    subst e'
    exact wpAny_truthy_bool ⟨H, I, q⟩
  | int i =>
    obtain ⟨t, rfl⟩ := rx
    have e' : k = (i != 0) := e
    subst e'
    exact PySem.P.truthy_int ⟨H, I, q⟩
  | str y =>
    obtain ⟨t, rfl⟩ := rx
    obtain ⟨hy, e'⟩ : y.length ≤ sizeLine ∧ k = ((y.length : Int) != 0) := e
    subst e'
    exact PySem.P.truthy_str (by omega) ⟨H, I.tok _, q⟩
  | byt y =>
    obtain ⟨t, rfl⟩ := rx
    obtain ⟨hy, e'⟩ : y.size ≤ sizeLine ∧ k = ((y.size : Int) != 0) := e
    subst e'
    exact PySem.W.truthy_bytes (by omega) ⟨H, I.tok _, q⟩
  | ref p =>
    cases rx
    have e' : (∃ xs, SqL X.K H p xs ∧ k = !xs.isEmpty) ∨ (∃ xs, SqT X.K H p xs ∧ k = !xs.isEmpty) ∨ ∃ kvs, H p = some (.dK kvs) ∧ k = !kvs.isEmpty := e
    rcases e' with ⟨xs, hx, e'⟩ | ⟨xs, hx, e'⟩ | ⟨kvs, hx, e'⟩
    · subst e'
      obtain ⟨its, r, pl, hz⟩ := I.list hx
      have hlen := r.length
      exact wpAny_truthy_list pl.isList (by simp only [List.size_toArray]; omega) ⟨H, I.tok _, by rw [isEmpty_of r]; exact q⟩
    · subst e'
      obtain ⟨its, r, pl, hz⟩ := I.tuple hx
      have hlen := r.length
      exact truthy_tuple pl (by simp only [List.size_toArray]; omega) ⟨H, I.tok _, by rw [isEmpty_of r]; exact q⟩
    · subst e'
      obtain ⟨hz, hS, vs, r, m⟩ : kvs.length ≤ sizeLine ∧ (p == sysModules) = false ∧ ∃ vs, KV kvs vs ∧ s.heap.DictOf (mixKind X.prog X.w) p vs := I.hok p _ hx
      have hlen : kvs.length = vs.length := Paired.length r
      exact wpAny_truthy_dict hS m (by omega) ⟨H, I.tok _, by rw [isEmpty_kv r]; exact q⟩
  | _ => exact (show False from e).elim
theorem pt_truth (ha : PE X a ta) (he : ∀ whole, isTrue a X.env whole = (do let v ← whole; standAt a.pos; holding [v] (truthy v))) :
    PT X a (fun σ H Q => ta σ H fun x H' => ∃ k, TruV X.K x H' k ∧ Q k H') := by
  intro pins s σ H Q I h
  exact isTrue_plain (thn (ha pins s σ H _ I h) fun v s1 ⟨x, H1, I1, r1, q1⟩ => tru_ok pins s1 σ H1 x v Q I1 r1 q1) (he _)
theorem vals1 {x : V} {us : List Value} (r : Vals [x] us) : ∃ u, us = [u] ∧ RelV x u := by
  cases r with
  | cons r1 r2 => cases r2; exact ⟨_, rfl, r1⟩
theorem vals2 {x y : V} {us : List Value} (r : Vals [x, y] us) : ∃ u w', us = [u, w'] ∧ RelV x u ∧ RelV y w' := by
  cases r with
  | cons r1 r2 =>
    cases r2 with
    | cons r3 r4 => cases r4; exact ⟨_, _, rfl, r1, r3⟩
theorem call_max2 (hc : X.calm = true) : CallR X (.builtin "max") (fun xs H Q => ∃ i j, xs = [.int i, .int j] ∧ Q (.int (if j > i then j else i)) H) := by
  intro pins s σ H xs us Q I r h
  obtain ⟨i, j, rfl, q⟩ := h
  obtain ⟨u, w', rfl, ⟨t, rfl⟩, ⟨t', rfl⟩⟩ := vals2 r
  refine max_two_ints (I.ok.hd hc) fun h' tk k => ⟨_, H, I.kept k, ?_, q⟩
  by_cases hj : j > i
  · rw [if_pos hj, if_pos hj]; exact ⟨_, rfl⟩
  · rw [if_neg hj, if_neg hj]; exact ⟨_, rfl⟩
theorem call_min2 (hc : X.calm = true) : CallR X (.builtin "min") (fun xs H Q => ∃ i j, xs = [.int i, .int j] ∧ Q (.int (if j < i then j else i)) H) := by
  intro pins s σ H xs us Q I r h
  obtain ⟨i, j, rfl, q⟩ := h
  obtain ⟨u, w', rfl, ⟨t, rfl⟩, ⟨t', rfl⟩⟩ := vals2 r
  refine min_two_ints (I.ok.hd hc) fun h' tk k => ⟨_, H, I.kept k, ?_, q⟩
  by_cases hj : j < i
  · rw [if_pos hj, if_pos hj]; exact ⟨_, rfl⟩
  · rw [if_neg hj, if_neg hj]; exact ⟨_, rfl⟩
theorem call_int1 : CallR X (.type "int") (fun xs H Q => (∃ i, xs = [.int i] ∧ Q (.int i) H) ∨ ∃ k, xs = [.bl k] ∧ Q (.int (if k then 1 else 0)) H) := by
  intro pins s σ H xs us Q I r h
  rcases h with ⟨i, rfl, q⟩ | ⟨k, rfl, q⟩
  · obtain ⟨u, rfl, t, rfl⟩ := vals1 r
    exact call_int_int ⟨.int i, H, I, ⟨_, rfl⟩, q⟩
  · obtain ⟨u, rfl, r1⟩ := vals1 r
    cases r1
    exact call_int_bool ⟨.int (if k then 1 else 0), H, I.tok _, ⟨_, rfl⟩, q⟩
end
end L2
namespace L2
open PySem PySem.Spec PyProof.Rows
structure ObjM (h : Heap) (x dx C : Addr) (mA : Str → Option Value) : Prop where
  obj : h.get? x = some (PySem.W.instObj C dx)
  ns : h.Ns1 dx mA
  ne : dx ≠ x
theorem lookIn_ns {h : Heap} {dx : Addr} {mA : Str → Option Value} (n : h.Ns1 dx mA) : ∃ od, h.get? dx = some od ∧ ∀ name, PySem.W.lookIn name od = some (mA name) := by
  obtain ⟨o, es, ep, ho, hd, hk, _, hm⟩ := n
  refine ⟨o, ho, fun name => ?_⟩
  have e := hm name
  unfold nsFind findBy at e
  rw [← Array.find?_toList] at e
  unfold PySem.W.lookIn
  rw [hd]
  dsimp only
  split
  · rename_i y q
    rw [q] at e
    exact congrArg some e
  · rename_i q
    rw [q] at e
    have a : es.toList.any (·.refKey) = false := by
      rw [List.any_eq_false]
      intro y hy
      obtain ⟨z, t, hkey⟩ := hk y (Array.mem_toList_iff.mp hy)
      simp [DictEntry.refKey, hkey]
    have a' : ¬ es.toList.any (·.refKey) = true := by rw [a]; exact Bool.false_ne_true
    rw [if_neg a']
    exact congrArg some e
theorem ObjM.look {h : Heap} {x dx C : Addr} {mA : Str → Option Value} (I : ObjM h x dx C mA) : ∃ od, PySem.W.InstAt h x (PySem.W.instObj C dx) C (some od) ∧ ∀ name, PySem.W.lookIn name od = some (mA name) :=
  let ⟨od, ho, hl⟩ := lookIn_ns I.ns
  ⟨od, ⟨I.obj, rfl, rfl, ho⟩, hl⟩
theorem RelO.some_of {v : V} {o : Option Value} (r : RelO (some v) o) : ∃ u, o = some u ∧ RelV v u := by
  cases o with
  | none => exact (show False from r).elim
  | some u => exact ⟨u, rfl, r⟩
section
variable {P : Program} {w : World} {H H' : Hp} {h h' : Heap} {a C dx : Addr} {fs fs' : List (Str × V)}
theorem ins_get (hok : HOk P w H h) (e : H a = some (.ins C dx fs)) : ∃ mA, ObjM h a dx C mA ∧ (∀ f, RelO (fs.lookup f) (mA f)) ∧ PySem.Within mA (fs.map (·.1)) ∧ fs.length ≤ 1000 ∧ H dx = some (.own a) := by
  obtain ⟨d, z, ne, ob, mA, n, r, q⟩ := (show ObjOk P w H h a (.ins C dx fs) from hok a _ e)
  exact ⟨mA, ⟨ob, n, ne⟩, r, q, z, d⟩
end
structure Cls (K : PySem.W.Frag) (C : Addr) : Prop where
  pg : PySem.W.plainGet K C Str.empty = true
  hd : PySem.W.hasDictIn K C = true
  po : PySem.W.plainOver K C = true
  sa : PySem.W.findIn K (.ref C) "__setattr__" = some (some (.builtin "object.__setattr__"))
theorem Cls.get {K : PySem.W.Frag} {C : Addr} (c : Cls K C) (f : Str) : PySem.W.plainGet K C f = true := c.pg
section
variable {X : Cx} {pins : List (Addr × Obj)} {σ : St} {H : Hp} {s : Shared} {A : Around} {E : Value → Shared → Prop} {Q : Value → Shared → Prop} {c : Value} {b : Bool}
inductive TyOf (K : PySem.W.Frag) (H : Hp) : V → Value → Prop where
  | non : TyOf K H .non (.type "NoneType")
  | bl (x : Bool) : TyOf K H (.bl x) (.type "bool")
  | int (i : Int) : TyOf K H (.int i) (.type "int")
  | str (x : Str) : TyOf K H (.str x) (.type "str")
  | flt (x : UInt64) : TyOf K H (.flt x) (.type "float")
  | lst {a : Addr} {xs : List V} (e : H a = some (.lst xs)) : TyOf K H (.ref a) (.type "list")
  | frz {a : Addr} {o : Obj} {xs : List V} (e : H a = some (.frz o (.lst xs))) : TyOf K H (.ref a) (.type "list")
  | tup {a : Addr} {xs : List V} (e : H a = some (.tup xs)) : TyOf K H (.ref a) (.type "tuple")
  | dK {a : Addr} {kvs : List (Key × V)} (e : H a = some (.dK kvs)) : TyOf K H (.ref a) (.type "dict")
  | dT {a : Addr} {kvs : List (List Key × V)} (e : H a = some (.dT kvs)) : TyOf K H (.ref a) (.type "dict")
  | ins {a C dx : Addr} {fs : List (Str × V)} (e : H a = some (.ins C dx fs)) (cl : Cls K C) (ha : PySem.W.findIn K (.ref C) "__class__" = some (some (.builtin "object.__class__")))
      (hn : PySem.W.specialIn K (.builtin "object.__class__") "__get__" = some (some (.builtin "getset_descriptor.__get__"))) (htk : PySem.W.takesIn K (.builtin "object.__class__") = some true)
      (hm : PySem.W.mroIn K C (.type "object") = some true) : TyOf K H (.ref a) (.ref C)
end
end L2
namespace L2
open PySem PySem.Spec PyProof.Rows
structure Room (k : Nat) (A : Around) : Prop where
  gd : A.guards = some []
  hd : A.handled = none
  dp : A.depth + 3 * k + 5 < recursionLimit
  un : A.units + 16 * k + 200 < cLine
theorem Room.mono {j k : Nat} {A : Around} (r : Room k A) (h : j ≤ k) : Room j A := ⟨r.gd, r.hd, by have := r.dp; omega, by have := r.un; omega⟩
theorem Room.deeper {k : Nat} {A : Around} (r : Room (k + 1) A) (env : Env) : Room k (A.deeper env) :=
  ⟨r.gd, r.hd, by have := r.dp; show A.depth + 1 + 3 * k + 5 < _; omega, by have := r.un; show A.units + 3 + 16 * k + 200 < _; omega⟩
theorem Room.in1 {k : Nat} {A : Around} (r : Room (k + 1) A) : Room k A.in1 :=
  ⟨r.gd, r.hd, by have := r.dp; show A.depth + 3 * k + 5 < _; omega, by have := r.un; show A.units + 1 + 16 * k + 200 < _; omega⟩
theorem Room.depth {k : Nat} {A : Around} (r : Room k A) : A.depth < recursionLimit := by have := r.dp; omega
theorem Room.units {k : Nat} {A : Around} (r : Room k A) : A.units + 64 < cLine := by have := r.un; omega
theorem Room.units0 {k : Nat} {A : Around} (r : Room k A) : A.units < cLine := by have := r.un; omega
def tNil : TA := fun _ H Q => Q [] H
def tCons (ta : TE) (tr : TA) : TA := fun σ H Q => ta σ H fun x H1 => tr σ H1 fun xs H2 => Q (x :: xs) H2
section
variable {X : Cx} {e : Expr} {es : List Expr} {te : TE} {t : TA} {pos : Pos}
theorem pa_nil : PA X [] tNil := fun _ _ _ _ H Q I h => Calls.spliced_nil ⟨[], H, I, .nil, h⟩
theorem pa_cons (ha : PE X e te) (hr : PA X es t) (hs : starEach (e :: es) X.env = (false, eval e X.env) :: starEach es X.env := by rfl) : PA X (e :: es) (tCons te t) := by
  intro pos pins s σ H Q I h
  rw [hs]
  show wpAny _ _ (spliced ((false, eval e X.env) :: backTo pos (starEach es X.env))) _ _ s
  refine Calls.spliced_cons (thn (ha pins s σ H _ I h) fun u s1 ⟨x, H1, I1, r1, q1⟩ => ?_)
  exact thn (hr pos pins s1 σ H1 _ I1 q1) fun us s2 ⟨xs, H2, I2, r2, q2⟩ => ⟨x :: xs, H2, I2, .cons r1 r2, q2⟩
def tTup (t : TA) : TE := fun σ H Q => t σ H fun xs H1 => xs.length ≤ sizeLine ∧ ∀ p, H1 p = none → Q (.ref p) (upd H1 p (.tup xs))
def tLst (t : TA) : TE := fun σ H Q => t σ H fun xs H1 => xs.length ≤ sizeLine ∧ ∀ p, H1 p = none → Q (.ref p) (upd H1 p (.lst xs))
theorem pe_tup {x1} (h : PA X es t) : PE X (.Tuple es x1 pos) (tTup t) := by
  intro pins s σ H Q I hq
  refine wpAny_Tuple_spliced (thn (h pos pins s σ H _ I hq) fun us s1 ⟨xs, H1, I1, r, z, q⟩ => ⟨by rw [← r.length]; exact z, ?_⟩)
  have hf : H1 s1.heap.objs.size = none := I1.hok.fresh (Nat.le_refl _)
  refine ⟨.ref s1.heap.objs.size, upd H1 s1.heap.objs.size (.tup xs), I1.laid (t' := s1.toks) (fun b u e => Heap.get?_push_of_some _ e) (Nat.le_refl _) ?_, rfl, q _ hf⟩
  exact ⟨z, us, r, ⟨_, Heap.get?_push_size _ rfl, rfl, _, rfl⟩⟩
theorem pe_lst (h : PA X es t) : PE X (.List es pos) (tLst t) := by
  intro pins s σ H Q I hq
  refine wpAny_List_spliced (thn (h pos pins s σ H _ I hq) fun us s1 ⟨xs, H1, I1, r, z, q⟩ => ⟨by rw [← r.length]; exact z, ?_⟩)
  have hf : H1 s1.heap.objs.size = none := I1.hok.fresh (Nat.le_refl _)
  refine ⟨.ref s1.heap.objs.size, upd H1 s1.heap.objs.size (.lst xs), I1.laid (t' := s1.toks) (fun b u e => Heap.get?_push_of_some _ e) (Nat.le_refl _) ?_, rfl, q _ hf⟩
  exact ⟨z, us, 0, r, Heap.get?_push_size _ rfl⟩
end
abbrev Sp := List V → Hp → VK → XK → Prop
abbrev CXT := List Env → Hp → Shared → XK → Value → Shared → Prop
structure Env0 (P : Program) (w : World) (K : PySem.W.Frag) (mg : Str → Option Value) (base : Heap) (A : Around) (outer : List Env) (s : Shared) (H : Hp) : Prop where
  frames : A.frames = some outer
  mod : Mod K mg base
  bs : ∀ b o, base.get? b = some o → s.heap.get? b = some o ∧ H b = none
  bsz : base.objs.size ≤ s.heap.objs.size
  funs : s.heap.FunFrames base outer
  frf : ∀ b ∈ frs outer, H b = none
  hok : HOk P w H s.heap
  bare : AllBare s.gens
def CE (outer : List Env) (P : Program) (w : World) (H : Hp) (s : Shared) (Q : VK) (u : Value) (s' : Shared) : Prop :=
  ∃ v H', s'.os = s.os ∧ AllBare s'.gens ∧ Un (frs outer) [] H H' s.heap s'.heap ∧ HOk P w H' s'.heap ∧ RelV v u ∧ Q v H'
def CR (CX : CXT) (outer : List Env) (P : Program) (w : World) (H : Hp) (s : Shared) (Q : VK) (E : XK) (r : Result) (s' : Shared) : Prop :=
  match r with
  | .ok (.ret u) => CE outer P w H s Q u s'
  | .ok _ => False
  | .error e => CX outer H s E e s'
structure FnOk (P : Program) (w : World) (K : PySem.W.Frag) (mg : Str → Option Value) (base : Heap) (CX : CXT) (k : Nat) (f : Addr) (fd : FuncData) (ps : List Str) (sp : Sp) : Prop where
  len : ∀ vs H Q E, sp vs H Q E → vs.length = ps.length
  run : ∀ (A : Around) (outer : List Env) (s : Shared) (H : Hp) (args : Args) (us : List Value) (vs : List V) (Q : VK) (E : XK), Room k A → Env0 P w K mg base A outer s H → BindsTo s fd args (ps.zip us) → Vals vs us → sp vs H Q E →
    codeAny (model P w) A (.call (.ref f) args) (CR CX outer P w H s Q E) s
section
variable {X : Cx} {pins : List (Addr × Obj)} {σ : St} {H : Hp} {s s' : Shared}
theorem Inv.env0 (I : Inv X pins σ H s) : Env0 X.prog X.w X.K X.mg X.base X.A X.stack s H :=
  ⟨I.ok.frames, I.ok.mod, I.bs, Nat.le_trans I.ok.bsz I.sz, I.stack, I.stkFree, I.hok, I.bare⟩
theorem Inv.after {Q : VK} {u : Value} (I : Inv X pins σ H s) (h : CE X.stack X.prog X.w H s Q u s') : EP X pins σ Q u s' := by
  obtain ⟨v, H', os, bare, un, hok, r, q⟩ := h
  obtain ⟨hh, g, d, t, os'⟩ := s'
  obtain rfl : os' = s.os := os
  exact ⟨v, H', I.call (h' := hh) (g' := g) (d' := d) (t' := t) (ch := []) un hok bare (fun b z => absurd z (by simp)), r, q⟩
end
def tCall (sp : Sp) (dvs : List V) (E : XK) (t : TA) : TE := fun σ H Q => t σ H fun vs H1 => sp (vs ++ dvs) H1 Q E
def Binds (K : PySem.W.Frag) (fd : FuncData) (ps : List Str) (ds : List Value) : Prop :=
  ∀ (s : Shared) (us : List Value), K.In s.heap → (us ++ ds).length = ps.length → BindsTo s fd ⟨us, []⟩ (ps.zip (us ++ ds))
theorem Binds.all {K : PySem.W.Frag} {fd : FuncData} {ps : List Str} (h : ∀ us : List Value, us.length = ps.length → bindArgs fd ⟨us, []⟩ = pure (ps.zip us)) : Binds K fd ps [] := fun s us _ hl => by
  rw [List.append_nil] at hl ⊢
  exact .of_eq (h us hl)
def Passes (CX : CXT) (X : Cx) (E : XK) : Prop := ∀ (pins : List (Addr × Obj)) (σ : St) (H : Hp) (s : Shared) (e : Value) (s' : Shared), Inv X pins σ H s → CX X.stack H s E e s' → X.xe e s'
section
variable {X : Cx} {CX : CXT} {k : Nat} {f C : Addr} {fd : FuncData} {ps : List Str} {sp : Sp} {dvs : List V} {ds : List Value} {E : XK} {x m : Str} {p pos apos : Pos} {e o : Expr} {es : List Expr} {ta : TE} {t : TA}
theorem run_fn {pins : List (Addr × Obj)} {σ : St} {H : Hp} {s : Shared} {Q : VK} {us : List Value} {vs : List V} (F : FnOk X.prog X.w X.K X.mg X.base CX k f fd ps sp) (hr : Room k X.A) (hb : Binds X.K fd ps ds) (hd : Vals dvs ds) (hx : Passes CX X E)
    (I : Inv X pins σ H s) (r : Vals vs us) (h : sp (vs ++ dvs) H Q E) : wpAny (model X.prog X.w) X.A (call (.ref f) us) (EP X pins σ Q) X.xe s := by
  have r2 : Vals (vs ++ dvs) (us ++ ds) := r.append hd
  have hl : (us ++ ds).length = ps.length := by rw [← r2.length]; exact F.len _ _ _ _ h
  refine wpAny_call (codeAny_mono (F.run X.A X.stack s H ⟨us, []⟩ (us ++ ds) (vs ++ dvs) Q E hr I.env0 (hb s us I.kIn hl) r2 h) fun r s' hq => ?_)
  cases r with
  | error e => exact hx pins σ H s e s' I hq
  | ok fl =>
    cases fl with
    | ret u => exact I.after hq
    | next => exact False.elim hq
    | brk => exact False.elim hq
    | cont => exact False.elim hq
theorem pe_call (F : FnOk X.prog X.w X.K X.mg X.base CX k f fd ps sp) (hr : Room k X.A) (hg : Gl X x) (hm : X.mg x = some (.ref f)) (hk : PySem.W.keepIn X.K (.ref f) = true) (hb : Binds X.K fd ps ds) (hd : Vals dvs ds) (hx : Passes CX X E)
    (ha : PA X (e :: es) t) (hdb : (x == ("__debug__" : Str)) = false := by decide) (he : starEach (e :: es) X.env = (false, eval e X.env) :: starEach es X.env := by rfl) (hpl : (backTo pos (starEach es X.env)).any (·.1) = false := by rfl) :
    PE X (.Call (.Name x p) (e :: es) [] pos) (tCall sp dvs E t) := by
  intro pins s σ H Q I h
  refine wpAny_Call_Name_kw (ld_glob I hg hm ?_ hdb)
  refine PySem.W.callWith_K (h₀ := X.base) I.ok.mod.kin hk (thn (ha pos pins s σ H _ I h) fun us s1 ⟨vs, H1, I1, r, q⟩ => ⟨I1.kIn, ?_⟩) he hpl
  exact run_fn F hr hb hd hx I1 r q
end
structure FnScope (N P : List Str) (sc : Scope) : Prop where
  kind : sc.kind = .function
  co : sc.isCoroutine = false
  gen : sc.isGenerator = false
  nd : N.Nodup
  pre : N.take P.length = P
  par : ∀ x ∈ P, sc.names.lookup x = some .local ∨ sc.names.lookup x = some .cell
  nofree : ∀ y ∈ sc.names, y.2 ≠ .free
theorem bindL_out {kindOf : Str → Option NameKind} {x : Str} : ∀ {binds : List (Str × Value)} {m : Str → Option Value}, (∀ v, (x, v) ∉ binds) → bindL kindOf binds m x = m x
  | [], _, _ => rfl
  | (n, v) :: r, m, h => by
    unfold bindL
    rw [bindL_out fun w hw => h w (List.mem_cons_of_mem _ hw)]
    split
    · have : x ≠ n := by rintro rfl; exact h v List.mem_cons_self
      simp [this]
    · rfl
theorem bindC_out {kindOf : Str → Option NameKind} {x : Str} : ∀ {binds : List (Str × Value)} {m : Str → Option Value}, (∀ v, (x, v) ∉ binds) → bindC kindOf binds m x = m x
  | [], _, _ => rfl
  | (n, v) :: r, m, h => by
    unfold bindC
    rw [bindC_out fun w hw => h w (List.mem_cons_of_mem _ hw)]
    split
    · rfl
    · have : x ≠ n := by rintro rfl; exact h v List.mem_cons_self
      simp [this]
theorem bindL_get {kindOf : Str → Option NameKind} {x : Str} {v : Value} : ∀ {P : List Str} {vs : List Value} {i : Nat} {m : Str → Option Value}, P.Nodup → P[i]? = some x → vs[i]? = some v → kindOf x = some .local →
    bindL kindOf (P.zip vs) m x = some v
  | [], _, _, _, _, h, _, _ => by simp at h
  | _ :: _, [], _, _, _, _, h, _ => by simp at h
  | p :: P, w :: vs, 0, m, nd, h1, h2, hk => by
    simp at h1 h2; subst h1; subst h2
    show bindL kindOf ((p, w) :: P.zip vs) m p = _
    unfold bindL
    rw [bindL_out fun v hv => (List.nodup_cons.mp nd).1 (List.of_mem_zip hv).1, if_pos hk]
    simp
  | p :: P, w :: vs, i + 1, m, nd, h1, h2, hk => by
    show bindL kindOf ((p, w) :: P.zip vs) m x = _
    unfold bindL
    exact bindL_get (i := i) (List.nodup_cons.mp nd).2 (by simpa using h1) (by simpa using h2) hk
theorem bindC_get {kindOf : Str → Option NameKind} {x : Str} {v : Value} : ∀ {P : List Str} {vs : List Value} {i : Nat} {m : Str → Option Value}, P.Nodup → P[i]? = some x → vs[i]? = some v → kindOf x ≠ some .local →
    bindC kindOf (P.zip vs) m x = some v
  | [], _, _, _, _, h, _, _ => by simp at h
  | _ :: _, [], _, _, _, _, h, _ => by simp at h
  | p :: P, w :: vs, 0, m, nd, h1, h2, hk => by
    simp at h1 h2; subst h1; subst h2
    show bindC kindOf ((p, w) :: P.zip vs) m p = _
    unfold bindC
    rw [bindC_out fun v hv => (List.nodup_cons.mp nd).1 (List.of_mem_zip hv).1, if_neg hk]
    simp
  | p :: P, w :: vs, i + 1, m, nd, h1, h2, hk => by
    show bindC kindOf ((p, w) :: P.zip vs) m x = _
    unfold bindC
    exact bindC_get (i := i) (List.nodup_cons.mp nd).2 (by simpa using h1) (by simpa using h2) hk
def start (N : List Str) (vs : List V) : St := vs.map some ++ List.replicate (N.length - vs.length) none
def cxOf (CX : CXT) (P : Program) (w : World) (K : PySem.W.Frag) (mg : Str → Option Value) (base : Heap) (N : List Str) (qual : Str) (scope : Scope) (f : Addr) (cd : Value) (A : Around) (outer : List Env) (s : Shared) (H : Hp) (E : XK) : Cx where
  prog := P
  w := w
  K := K
  mg := mg
  base := base
  A := A.deeper (envOfC qual scope s.heap.objs.size f cd)
  N := N
  s_0 := s
  H_0 := H
  env := envOfC qual scope s.heap.objs.size f cd
  outer := outer
  stack := envOfC qual scope s.heap.objs.size f cd :: outer
  ex := []
  calm := true
  fn := fun _ => true
  pn := []
  xe := fun e s' => wpAny (model P w) (A.deeper (envOfC qual scope s.heap.objs.size f cd)) (leaving (envOfC qual scope s.heap.objs.size f cd) e) (fun _ s'' => CX outer H s E e s'') (fun e' s'' => CX outer H s E e' s'') s'
theorem cell_has {sc : Scope} {n : Nat} {x : Str} (h : sc.names.lookup x = some .cell) : ∃ c, (cellsFrom n sc.names []).lookup x = some c := by
  have q := PySem.W.cellsFrom_some sc.names n [] (.inl h)
  exact Option.isSome_iff_exists.mp q
theorem inv_start {CX : CXT} {P : Program} {w : World} {K : PySem.W.Frag} {mg : Str → Option Value} {base : Heap} {N ps : List Str} {qual : Str} {scope : Scope} {f : Addr} {cd : Value} {A : Around} {outer : List Env} {s s1 : Shared} {H : Hp} {E : XK} {us : List Value} {vs : List V}
    (S : FnScope N ps scope) (hd : A.handled = none) (e0 : Env0 P w K mg base A outer s H) (hl : vs.length = ps.length) (r : Vals vs us)
    (x : InCallC s s.heap.objs.size (bindL (envOfC qual scope s.heap.objs.size f cd).kindOf (ps.zip us) fun _ => none) (cellsFrom (s.heap.objs.size + 1) scope.names []) (bindC (envOfC qual scope s.heap.objs.size f cd).kindOf (ps.zip us) fun _ => none) s1) :
    Inv (cxOf CX P w K mg base N qual scope f cd A outer s H E) [] (start N vs) H s1 := by
  have hpl : ps.length ≤ N.length := by have := congrArg List.length S.pre; rw [List.length_take] at this; omega
  obtain ⟨h1, tk, rfl, hk⟩ := x.done
  have noA : ∀ b : Addr, b ∉ (cxOf CX P w K mg base N qual scope f cd A outer s H E).ex := fun b z => absurd (show b ∈ ([] : List Addr) from z) (by simp)
  refine ⟨⟨e0.mod, S.kind, rfl, rfl, Nat.le_refl _, fun y z c h1 h2 => ?_, fun y hy => ?_, fun y c _ h => ?_, fun _ => hd, Around.frames_deeper e0.frames, .inr ⟨rfl, rfl⟩, fun b z => absurd z (noA b), e0.bs, e0.bsz, fun b _ _ => noA b, fun b z => absurd z (noA b), e0.funs, e0.frf⟩,
    rfl, e0.bare, Un.kept hk, ⟨_, x.toInCall.ns, fun i y v h1 h2 h3 => ?_⟩, fun y c h => ⟨_, x.cell y c h⟩, e0.hok.fresh (Nat.le_refl _), fun y c h => ?_, fun p hp => absurd (show p ∈ ([] : List (Addr × Obj)) from hp) (by simp), e0.hok.kept hk, ?_⟩
  · exact name_of_addr x.apart (PySem.mem_of_lookup h1) (PySem.mem_of_lookup h2)
  · have hy : scope.names.lookup y = some .cell ∨ scope.names.lookup y = some .free := hy
    rcases hy with hy | hy
    · exact cell_has hy
    · exact absurd rfl (S.nofree _ (PySem.mem_of_lookup hy))
  · exact Nat.le_of_lt (x.above y c (PySem.mem_of_lookup h))
  · have hi : i < vs.length := by
      unfold start at h2
      by_cases hi : i < vs.length
      · exact hi
      · rw [List.getElem?_append_right (by simpa using hi)] at h2
        rw [List.getElem?_replicate] at h2
        split at h2 <;> cases h2
    have ha : vs[i]? = some v := by
      unfold start at h2
      rw [List.getElem?_append_left (by simpa using hi), List.getElem?_map] at h2
      cases e : vs[i]? with
      | none => rw [e] at h2; cases h2
      | some a => rw [e] at h2; cases h2; rfl
    obtain ⟨u, hu, rv⟩ := r.get ha
    have hp : ps[i]? = some y := by
      rw [← S.pre, List.getElem?_take_of_lt (by omega)]; exact h1
    have ndP : ps.Nodup := by rw [← S.pre]; exact S.nd.sublist (List.take_sublist _ _)
    refine ⟨u, rv, ?_⟩
    rcases S.par y (List.mem_of_getElem? hp) with k | k
    · exact .inl ⟨k, bindL_get ndP hp hu k⟩
    · obtain ⟨c, e⟩ := cell_has (n := s.heap.objs.size + 1) k
      refine .inr ⟨.inl k, c, e, ?_⟩
      have q := x.cell y c e
      rw [bindC_get ndP hp hu (by show scope.names.lookup y ≠ _; rw [k]; decide)] at q
      exact q
  · exact e0.hok.fresh (Nat.le_of_lt (x.above y c (PySem.mem_of_lookup h)))
  · unfold start
    show _ = N.length
    rw [List.length_append, List.length_map, List.length_replicate]
    omega
theorem fn_of {CX : CXT} {P : Program} {w : World} {K : PySem.W.Frag} {mg : Str → Option Value} {base : Heap} {k : Nat} {f : Addr} {name qual : Str} {params : Arguments} {body : List Stmt} {scope : Scope} {dV kV doc pm cdv ct oc : Value} {an od : Option Addr}
    {osl : Array (Option Value)} {N ps : List Str} {sp : Sp} (lk : K.lookup f = some ⟨oc, od, .func (PySem.W.fnOf name qual params body scope dV kV doc pm an cdv ct), osl⟩) (hcd : PySem.W.codeIn K cdv qual = true) (S : FnScope N ps scope)
    (len : ∀ vs H Q E, sp vs H Q E → vs.length = ps.length)
    (hbody : ∀ (A : Around) (outer : List Env) (s : Shared) (H : Hp) (vs : List V) (Q : VK) (E : XK), Room k (A.deeper (envOfC qual scope s.heap.objs.size f cdv)) → sp vs H Q E →
      ∃ t, PSs (cxOf CX P w K mg base N qual scope f cdv A outer s H E) body t ∧ t { nx := fun _ H' => Q .non H', rt := Q } (start N vs) H) :
    FnOk P w K mg base CX (k + 1) f (PySem.W.fnOf name qual params body scope dV kV doc pm an cdv ct) ps sp := by
  refine ⟨len, fun A outer s H args us vs Q E hr e0 hb r hsp => ?_⟩
  have hl := len _ _ _ _ hsp
  have KX : K.In s.heap := e0.mod.kin.keeps fun b o e => (e0.bs b o e).1
  have lim : s.heap.NoLimit := e0.mod.nolimit.keeps fun b o e => (e0.bs b o e).1
  have hkind : ∀ y ∈ ps.zip us, scope.names.lookup y.1 = some .local ∨ (scope.names.lookup y.1 = some .cell ∧ ((cellsFrom (s.heap.objs.size + 1) scope.names []).lookup y.1).isSome = true) := fun ⟨n, v⟩ hy => by
    rcases S.par n (List.of_mem_zip hy).1 with q | q
    · exact .inl q
    · exact .inr ⟨q, PySem.W.cellsFrom_some _ _ _ (.inl q)⟩
  refine codeAny_call_function hr.depth (KX _ _ lk) rfl S.co S.gen rfl (PySem.W.codeRec_of KX hcd) (hb _ _ _ _ ?_)
  refine wpAny_newFunctionEnv_cells S.kind hkind fun env he s1 x => ?_
  subst he
  refine ⟨lim.keeps x.toInCall.keep, codeAny_func ?_⟩
  obtain ⟨t, ht, hq⟩ := hbody A outer s H vs Q E (hr.deeper _) hsp
  have I : Inv (cxOf CX P w K mg base N qual scope f cdv A outer s H E) [] (start N vs) H s1 := inv_start S hr.hd e0 hl r x
  refine wpAny_mono (ht [] s1 (start N vs) H _ I hq) (fun fl s' hs => ?_) fun e s' hs => hs
  have fin : ∀ {σ' : St} {H' : Hp} {v : V} {u : Value}, Inv (cxOf CX P w K mg base N qual scope f cdv A outer s H E) [] σ' H' s' → RelV v u → Q v H' → CE outer P w H s Q u s' :=
    fun {σ' H' v u} J rv q => ⟨v, H', J.os, J.bare, J.base, J.hok, rv, q⟩
  cases fl with
  | ret u =>
    obtain ⟨v, σ', H', J, rv, q⟩ := hs
    exact fin J rv q
  | next =>
    obtain ⟨σ', H', J, q⟩ := hs
    exact fin (v := V.non) (u := Value.none) J rfl q
  | brk =>
    obtain ⟨_, _, _, q⟩ := hs
    exact False.elim q
  | cont =>
    obtain ⟨_, _, _, q⟩ := hs
    exact False.elim q
end L2
namespace L2
open PySem PySem.Spec PyProof.Rows
section
variable {X : Cx} {x : Str} {p pos : Pos} {e : Expr} {es : List Expr} {t : TA} {id T : String} {r : List V → Hp → VK → Prop}
def tCB (r : List V → Hp → VK → Prop) (t : TA) : TE := fun σ H Q => t σ H fun vs H1 => r vs H1 Q
theorem pe_callB (hc : CallR X (.builtin id) r) (hg : Gl X x) (hm : X.mg x = none) (hv : bootBuiltins x = some (.builtin id)) (ha : PA X (e :: es) t) (hn : x ≠ "__name__" := by decide) (hdb : (x == ("__debug__" : Str)) = false := by decide)
    (he : starEach (e :: es) X.env = (false, eval e X.env) :: starEach es X.env := by rfl) (hpl : (backTo pos (starEach es X.env)).any (·.1) = false := by rfl) : PE X (.Call (.Name x p) (e :: es) [] pos) (tCB r t) := by
  intro pins s σ H Q I h
  refine wpAny_Call_Name_kw (ld_blt I hg hm hv ?_ hn hdb)
  exact PyProof.Rows.callWith_builtin1 (thn (ha pos pins s σ H _ I h) fun us s1 ⟨vs, H1, I1, r1, q1⟩ => hc pins s1 σ H1 vs us Q I1 r1 q1) he hpl
theorem pe_callTy (hc : CallR X (.type T) r) (hg : Gl X x) (hm : X.mg x = none) (hv : bootBuiltins x = some (.type T)) (ha : PA X (e :: es) t) (hn : x ≠ "__name__" := by decide) (hdb : (x == ("__debug__" : Str)) = false := by decide)
    (he : starEach (e :: es) X.env = (false, eval e X.env) :: starEach es X.env := by rfl) (hpl : (backTo pos (starEach es X.env)).any (·.1) = false := by rfl) : PE X (.Call (.Name x p) (e :: es) [] pos) (tCB r t) := by
  intro pins s σ H Q I h
  refine wpAny_Call_Name_kw (ld_blt I hg hm hv ?_ hn hdb)
  exact PyProof.Rows.callWith_type1 (thn (ha pos pins s σ H _ I h) fun us s1 ⟨vs, H1, I1, r1, q1⟩ => hc pins s1 σ H1 vs us Q I1 r1 q1) he hpl
end
end L2
namespace HT
open PySem PyProof.Rows
def lexLt : List Int → List Int → Bool
  | [], [] => false
  | [], _ :: _ => true
  | _ :: _, [] => false
  | x :: xs, y :: ys => if x = y then lexLt xs ys else decide (x < y)
theorem lexLt_cons (x y : Int) (xs ys : List Int) : lexLt (x :: xs) (y :: ys) = if x = y then lexLt xs ys else decide (x < y) := rfl
theorem lexLt_nil_nil : lexLt [] [] = false := rfl
theorem lexLt_nil_cons (y : Int) (ys : List Int) : lexLt [] (y :: ys) = true := rfl
theorem lexLt_cons_nil (x : Int) (xs : List Int) : lexLt (x :: xs) [] = false := rfl
theorem eqAt_int (A : Around) (s : Shared) (a : Int) (t : Tok) (c : Int) (u : Tok) : ∃ e, SeqAt.EqAt A s (.int a t) (.int c u) e ∧ (e = true ↔ a = c) :=
  ⟨(a == c), SeqAt.EqAt.int_int a t c u, by simp⟩
theorem rcLt_int (A : Around) (s : Shared) (a : Int) (t : Tok) (c : Int) (u : Tok) (prog : Program) (w : World) (E : Value → Shared → Prop) (Q : Value → Shared → Prop) (h : Q (.bool (decide (a < c))) s) :
    wpAny (model prog w) A (richCompare .Lt (.int a t) (.int c u)) Q E s :=
  (PyProof.Rows.lt_int h : wpAny (model prog w) A (compareOp .Lt (.int a t) (.int c u)) Q E s)
section
open PySem.SeqAt
open PySem.AutoSeq1 (wpAny_loadPart')
open PySem.MeetsSeq PySem.MeetsSeq2 PySem.MeetsSeq3
theorem tuple_lt_ints (l b : Addr) (items items2 : Array Value) (n n2 : Nat) (dd dd2 : Option Addr) (sl sl2 : Array (Option Value)) (ns ms : List Int) (hi : IntsAre items.toList ns) (hj : IntsAre items2.toList ms) :
    Meets (Builtin.«tuple.__lt__» ⟨[.ref l, .ref b], []⟩)
      (fun _ R s => s.heap.get? l = some { cls := .type "tuple", dict := dd, data := .seq items n, slots := sl } ∧ s.heap.get? b = some { cls := .type "tuple", dict := dd2, data := .seq items2 n2, slots := sl2 } ∧
        R (.ok (.ret (.bool (lexLt ns ms)))) s) :=
  .of_wp fun prog w A R s h => by
    obtain ⟨hp, g, d, tk, os⟩ := s; obtain ⟨hl, hb, h⟩ := h
    have f2 := AutoSeq1.sub_tuple_tuple
    have z1 : items.size = ns.length := by rw [← hi.length]; simp
    have z2 : items2.size = ms.length := by rw [← hj.length]; simp
    wp_walk using wpAny_loadPart' hl, wpAny_loadPart' hb, wpAny_forIn_list _ (fun rest b s' => b.1 = none ∧ s' = ⟨hp, g, d, tk, os⟩ ∧ ∃ (vs ws : List Value) (ns' ms' : List Int), rest = vs.zip ws ∧
      IntsAre vs ns' ∧ IntsAre ws ms' ∧ ns'.length + items2.size = ms'.length + items.size ∧ R (.ok (.ret (.bool (lexLt ns' ms')))) ⟨hp, g, d, tk, os⟩) _
    case turn =>
      rintro ⟨y, x⟩ rest b s' ⟨hb', rfl, vs, ws, ns', ms', hz, hvi, hwi, hlen, hR⟩
      cases hvi with
      | nil => rw [List.zip_nil_left] at hz; cases hz
      | cons a t hvi' =>
        cases hwi with
        | nil => rw [List.zip_nil_right] at hz; cases hz
        | cons c u hwi' =>
          rw [List.zip_cons_cons] at hz
          injection hz with hyx hrest
          injection hyx with hy hx
          subst hy hx
          rw [lexLt_cons] at hR
          simp only [List.length_cons] at hlen
          obtain ⟨e, he, hiff⟩ := eqAt_int A.in1 ⟨hp, g, d, tk, os⟩ a t c u
          refine wpAny_bind (he prog w _ _ ?_)
          cases e with
          | true =>
            rw [if_pos (hiff.mp rfl)] at hR
            wp_walk
            exact ⟨rfl, rfl, _, _, _, _, hrest, hvi', hwi', by omega, hR⟩
          | false =>
            rw [if_neg (fun q => absurd (hiff.mpr q) Bool.false_ne_true)] at hR
            have hri := rcLt_int A.in1 ⟨hp, g, d, tk, os⟩ a t c u prog w
            wp_walk using hri
            exact ⟨_, rfl, by simpa using hR⟩
    case fin =>
      rintro ⟨b1, b2⟩ s' ⟨hb', rfl, vs, ws, ns', ms', hz, hvi, hwi, hlen, hR⟩
      simp only at hb'
      subst hb'
      have hv : lexLt ns' ms' = decide (items.size < items2.size) := by
        cases hvi with
        | nil =>
          cases hwi with
          | nil =>
            simp only [List.length_nil] at hlen
            rw [lexLt_nil_nil]
            exact (decide_eq_false (by omega)).symm
          | cons c u hw =>
            simp only [List.length_nil, List.length_cons] at hlen
            rw [lexLt_nil_cons]
            exact (decide_eq_true (by omega)).symm
        | cons a t hv =>
          cases hwi with
          | nil =>
            simp only [List.length_nil, List.length_cons] at hlen
            rw [lexLt_cons_nil]
            exact (decide_eq_false (by omega)).symm
          | cons c u hw =>
            rw [List.zip_cons_cons] at hz
            cases hz
      rw [hv] at hR
      wp_walk
      exact ⟨_, rfl, by simpa [Builtin.Tuple.tupleCompareSizes] using hR⟩
    case h =>
      exact ⟨rfl, rfl, items.toList, items2.toList, ns, ms, rfl, hi, hj, by omega, h⟩
end
section
variable {prog : Program} {w : World} {A : Around} {E : Value → Shared → Prop} {s : Shared}
theorem lt_tupInts {l b : Addr} {items items2 : Array Value} {ns ms : List Int} {Q : Value → Shared → Prop} (hl : IsTup s.heap l items) (hb : IsTup s.heap b items2) (hi : IntsAre items.toList ns) (hj : IntsAre items2.toList ms)
    (hu : A.units < cLine) (h : Q (.bool (lexLt ns ms)) s) : wpAny (model prog w) A (compareOp .Lt (.ref l) (.ref b)) Q E s := by
  obtain ⟨⟨cls, dd, data, sl⟩, ho, hc, n, hd⟩ := id hl
  obtain ⟨⟨cls2, dd2, data2, sl2⟩, ho2, hc2, n2, hd2⟩ := id hb
  simp only at hc hd hc2 hd2
  subst hc hd hc2 hd2
  exact richCompare_meets_room (op := .Lt) ⟨_, ho, rfl⟩ ⟨_, ho2, rfl⟩ PySem.F.slot_tuple_lt PySem.F.entry_tuple_lt (PySem.F.args_tuple_lt_2 _ _) (tuple_lt_ints l b items items2 n n2 dd dd2 sl sl2 ns ms hi hj)
    ⟨ho, ho2, show Value.bool (lexLt ns ms) ≠ Value.notImplemented ∧ Q (.bool (lexLt ns ms)) s from ⟨(fun x => nomatch x), h⟩⟩ hu
theorem cat_tup {t b : Addr} {vs ws : List Value} {Q : Value → Shared → Prop} (ht : IsTup s.heap t vs.toArray) (hb : IsTup s.heap b ws.toArray) (hv : vs ≠ [])
    (h1 : ws = [] → Q (.ref t) s) (h2 : ws ≠ [] → Q (.ref s.heap.objs.size) { s with heap := s.heap.push { cls := .type "tuple", data := .seq (vs ++ ws).toArray } })
    (hsz : vs.length + ws.length ≤ sizeLine) : wpAny (model prog w) A (binaryOp .Add (.ref t) (.ref b)) Q E s := by
  obtain ⟨⟨cls, dd, data, sl⟩, ho, hc, n, hd⟩ := id ht
  obtain ⟨⟨cls2, dd2, data2, sl2⟩, ho2, hc2, n2, hd2⟩ := id hb
  simp only at hc hd hc2 hd2
  subst hc hd hc2 hd2
  have e : vs.toArray ++ ws.toArray = (vs ++ ws).toArray := by simp
  by_cases hw : ws = []
  · exact concat_meets ⟨_, ho, rfl⟩ ⟨_, ho2, rfl⟩ noFill_tuple_add seq_tuple_add PySem.F.slot_tuple_add PySem.F.entry_tuple_add (PySem.F.args_tuple_add_2 _ _)
      (tuple_addW1 t b vs.toArray ws.toArray n n2 dd dd2 sl sl2 (by simpa using hv) (by simp [hw])) ⟨ho, ho2, h1 hw⟩
  · refine concat_meets ⟨_, ho, rfl⟩ ⟨_, ho2, rfl⟩ noFill_tuple_add seq_tuple_add PySem.F.slot_tuple_add PySem.F.entry_tuple_add (PySem.F.args_tuple_add_2 _ _)
      (tuple_addW2 t b vs.toArray ws.toArray n n2 dd dd2 sl sl2 (by simpa using hv) (by simpa using hw) (by rw [List.size_toArray, List.size_toArray]; exact hsz)) ⟨ho, ho2, ?_⟩
    rw [e]
    exact h2 hw
def sIx (n d : Nat) : Option Int → Nat
  | none => d
  | some v => if v < 0 then (v + (n : Int)).toNat else min v.toNat n
theorem sIx_nat (n d k : Nat) : sIx n d (some (k : Int)) = min k n := by
  show (if (k : Int) < 0 then ((k : Int) + (n : Int)).toNat else min (k : Int).toNat n) = min k n
  rw [if_neg (by omega), Int.toNat_natCast]
theorem sIx_le (n d : Nat) (hd : d ≤ n) (o : Option Int) : sIx n d o ≤ n := by
  cases o with
  | none => exact hd
  | some v =>
    show (if v < 0 then (v + (n : Int)).toNat else min v.toNat n) ≤ n
    by_cases hv : v < 0
    · rw [if_pos hv]; omega
    · rw [if_neg hv]; exact Nat.min_le_right _ _
theorem clip_eq (v : Int) (n d : Nat) : (if v < 0 then max (v + (n : Int)) 0 else min v (n : Int)) = ((sIx n d (some v) : Nat) : Int) := by
  show (if v < 0 then max (v + (n : Int)) 0 else min v (n : Int)) = (((if v < 0 then (v + (n : Int)).toNat else min v.toNat n) : Nat) : Int)
  by_cases hv : v < 0
  · simp only [if_pos hv]; omega
  · simp only [if_neg hv]; omega
theorem adjust_gen (lo hi : Option Int) (n : Nat) : Builtin.Slice.sliceAdjust lo hi 1 (n : Int) = (((sIx n 0 lo : Nat) : Int), ((sIx n n hi : Nat) : Int)) := by
  have h1 : ¬ ((1 : Int) < 0) := by omega
  unfold Builtin.Slice.sliceAdjust
  simp only [h1, if_false]
  refine Prod.ext ?_ ?_
  · cases lo with
    | none => rfl
    | some v => exact clip_eq v n 0
  · cases hi with
    | none => rfl
    | some v => exact clip_eq v n n
theorem places_gen (i j : Nat) : Builtin.Slice.slicePlaces (i : Int) (j : Int) 1 = j - i := by
  unfold Builtin.Slice.slicePlaces
  have h1 : (1 : Int) > 0 := by omega
  simp only [h1, if_true, Int.ediv_one]
  split <;> omega
theorem slicePart_ {v : Value} {o : Option Int} {Q : Option Int → Shared → Prop} (p : IsPart v o) (h : Q o s) : wpAny (model prog w) A (Builtin.Slice.slicePartIndex v) Q E s := by
  cases p with
  | none => exact slicePart_none h
  | int i t => exact slicePart_int h
theorem sliceApplied_gen {sl : Addr} {vl vu : Value} {lo hi : Option Int} {n : Nat} {Q : Int × Int × Nat → Shared → Prop} (hs : s.heap.IsSliceOf sl vl vu .none) (pl : IsPart vl lo) (pu : IsPart vu hi)
    (h : Q (((sIx n 0 lo : Nat) : Int), 1, sIx n n hi - sIx n 0 lo) s) : wpAny (model prog w) A (Builtin.Slice.sliceApplied (.ref sl) (pure (n : Int))) Q E s := by
  obtain ⟨os, hos, hcs, hds⟩ := id hs
  unfold Builtin.Slice.sliceApplied Builtin.Slice.sliceFields
  refine wpAny_bind (wpAny_bind (wpAny_field hos hds (x := vl) rfl (wpAny_bind (wpAny_field hos hds (x := vu) rfl (wpAny_bind (wpAny_field hos hds (x := .none) rfl (wpAny_pure ?_)))))))
  refine wpAny_bind (slicePart_none ?_)
  show wpAny _ _ (if ((1 : Int) == 0) = true then _ else _) _ _ s
  rw [if_neg (by decide)]
  refine wpAny_bind (slicePart_ pl (wpAny_bind (slicePart_ pu (wpAny_bind (wpAny_pure ?_)))))
  show wpAny _ _ (match Builtin.Slice.sliceAdjust lo hi 1 (n : Int) with | (lo, hi) => pure (lo, (1 : Int), Builtin.Slice.slicePlaces lo hi 1)) _ _ s
  rw [adjust_gen lo hi n]
  show wpAny _ _ (pure (((sIx n 0 lo : Nat) : Int), (1 : Int), Builtin.Slice.slicePlaces ((sIx n 0 lo : Nat) : Int) ((sIx n n hi : Nat) : Int) 1)) _ _ s
  rw [places_gen]
  exact wpAny_pure h
theorem pick_gen (xs : Array Value) (i k : Nat) : ((List.range k).filterMap fun (m : Nat) => xs[((i : Int) + (m : Int) * 1).toNat]?).toArray = ((xs.toList.drop i).take k).toArray := by
  have e : (fun (m : Nat) => xs[((i : Int) + (m : Int) * 1).toNat]?) = fun m => xs[i + m]? := by
    funext m
    have : ((i : Int) + (m : Int) * 1).toNat = i + m := by omega
    rw [this]
  rw [e]
  have := pick_run xs i k
  rw [List.filterMap_map] at this
  have e2 : ((fun x => xs[x]?) ∘ fun x => i + x) = fun m => xs[i + m]? := rfl
  rw [e2] at this
  rw [this]
theorem getItem_tuple_cut {t sl : Addr} {items : Array Value} {vl vu : Value} {lo hi : Option Int} {Q : Value → Shared → Prop} (ht : IsTup s.heap t items) (hs : s.heap.IsSliceOf sl vl vu .none) (pl : IsPart vl lo) (pu : IsPart vu hi)
    (hw : ¬ (sIx items.size 0 lo = 0 ∧ sIx items.size items.size hi = items.size))
    (h : Q (.ref s.heap.objs.size) { s with heap := s.heap.push { cls := .type "tuple", data := .seq ((items.toList.drop (sIx items.size 0 lo)).take (sIx items.size items.size hi - sIx items.size 0 lo)).toArray } })
    (hsz : items.size ≤ sizeLine) : wpAny (model prog w) A (getItem (.ref t) (.ref sl)) Q E s := by
  have htake : sizeOk (.seq ((items.toList.drop (sIx items.size 0 lo)).take (sIx items.size items.size hi - sIx items.size 0 lo)).toArray) := by
    show ((items.toList.drop (sIx items.size 0 lo)).take (sIx items.size items.size hi - sIx items.size 0 lo)).toArray.size ≤ sizeLine
    rw [List.size_toArray, List.length_take, List.length_drop, Array.length_toList]
    omega
  have hj : sIx items.size items.size hi ≤ items.size := sIx_le _ _ (Nat.le_refl _) hi
  obtain ⟨os, hos, hcs, hds⟩ := id hs
  have hTs : s.TypeIs (.ref sl) "slice" := ⟨os, hos, hcs⟩
  unfold getItem
  try with_reducible refine wpAny_holding ?_
  first | refine wpAny_bind (wpAny_pure ?_) | skip
  refine wpAny_bind (wpAny_sequenceKey ht.typeIs (by decide) ?_)
  refine wpAny_bind (wpAny_callSpecial?_slot (name := Str.ofString "__getitem__") ht.typeIs PyProof.Rows.slot_tuple_getitem
    (wpAny_call_entry PyProof.Rows.slot_tuple_getitem ht.typeIs entry_tuple_getitem ?_ (args_tuple_getitem _ _)))
  show wpAny _ _ (Builtin.Tuple.tupleItemsOf (.ref t) >>= _) _ _ s
  refine wpAny_bind (tupleItemsOf_ ht ?_)
  refine wpAny_bind (wpAny_typeOf hTs ?_)
  rw [if_pos (by decide)]
  refine wpAny_bind (sliceApplied_gen hs pl pu ?_)
  have hno : ¬ ((((sIx items.size 0 lo : Nat) : Int) == 0 && (1 : Int) == 1 && (sIx items.size items.size hi - sIx items.size 0 lo) == items.size) = true) := by
    intro q
    rw [Bool.and_eq_true, Bool.and_eq_true] at q
    have q1 : ((sIx items.size 0 lo : Nat) : Int) = 0 := eq_of_beq q.1.1
    have q2 : sIx items.size items.size hi - sIx items.size 0 lo = items.size := eq_of_beq q.2
    exact hw ⟨by omega, by omega⟩
  show wpAny _ _ (if (((sIx items.size 0 lo : Nat) : Int) == 0 && (1 : Int) == 1 && (sIx items.size items.size hi - sIx items.size 0 lo) == items.size) = true then _ else _) _ _ s
  rw [if_neg hno, pick_gen]
  first
    | exact wpAny_bind (m := Builtin.Tuple.tupleExact _) (wpAny_newObj_type (wpAny_pure ⟨_, rfl, wpAny_pure h⟩) htake)
    | exact wpAny_bind (m := Builtin.Tuple.tupleExact _) (wpAny_newObj_type (wpAny_bind (wpAny_pure (wpAny_pure ⟨_, rfl, wpAny_pure h⟩))) htake)
    | exact wpAny_bind (wpAny_bind (m := Builtin.Tuple.tupleExact _) (wpAny_newObj_type (wpAny_pure (wpAny_pure ⟨_, rfl, wpAny_pure h⟩)) htake))
    | exact wpAny_bind (wpAny_bind (m := Builtin.Tuple.tupleExact _) (wpAny_newObj_type (wpAny_pure ⟨_, rfl, wpAny_pure h⟩) htake))
end
end HT
namespace L2
open PySem PySem.Spec PyProof.Rows
abbrev TO := St → Hp → (Option Int → Hp → Prop) → Prop
def PO (X : Cx) (e : Option Expr) (t : TO) : Prop :=
  ∀ (pins : List (Addr × Obj)) (s : Shared) (σ : St) (H : Hp) (Q : Option Int → Hp → Prop), Inv X pins σ H s → t σ H Q →
    wpAny (model X.prog X.w) X.A (evalPart e X.env) (fun u s' => ∃ o H', Inv X pins σ H' s' ∧ IsPart u o ∧ Q o H') X.xe s
def tNoPart : TO := fun _ H Q => Q none H
def tPart (t : TE) : TO := fun σ H Q => t σ H fun x H1 => ∃ i, x = .int i ∧ Q (some i) H1
theorem intsAre_of {ns : List Int} : ∀ {us : List Value}, Vals (ns.map V.int) us → IntsAre us ns := by
  induction ns with
  | nil => intro us r; rw [List.map_nil] at r; cases r; exact .nil
  | cons n ns ih =>
    intro us r
    rw [List.map_cons] at r
    cases r with
    | cons r1 r2 =>
      obtain ⟨t, e⟩ := r1
      subst e
      exact .cons n t (ih r2)
section
variable {X : Cx} {e : Expr} {te : TE} {lo hi : Option Expr} {tl th : TO} {pos p2 : Pos}
theorem po_none : PO X none tNoPart := by
  intro pins s σ H Q I h
  rw [evalPart_none]
  exact wpAny_pure ⟨none, H, I, .none, h⟩
theorem po_some (h : PE X e te) : PO X (some e) (tPart te) := by
  intro pins s σ H Q I hw
  rw [evalPart_some]
  refine thn (h pins s σ H _ I hw) fun u s1 ⟨x, H1, I1, r1, q1⟩ => ?_
  obtain ⟨i, rfl, q⟩ := q1
  obtain ⟨t, rfl⟩ := r1
  exact ⟨some i, H1, I1, .int i t, q⟩
def SlR (X : Cx) (r : V → Option Int → Option Int → Hp → VK → Prop) : Prop :=
  ∀ (pins : List (Addr × Obj)) (s : Shared) (σ : St) (H : Hp) (x : V) (v vl vu : Value) (lo hi : Option Int) (sl : Addr) (Q : VK), Inv X pins σ H s → RelV x v → s.heap.IsSliceOf sl vl vu .none → IsPart vl lo → IsPart vu hi → r x lo hi H Q →
    ∃ T id, typeLookup (.type T) "__getitem__" = pure (some (.builtin id)) ∧ s.TypeIs v T ∧ wpAny (model X.prog X.w) X.A (getItem v (.ref sl)) (EP X pins σ Q) X.xe s
def tSl (r : V → Option Int → Option Int → Hp → VK → Prop) (te : TE) (tl th : TO) : TE := fun σ H Q => te σ H fun x H1 => tl σ H1 fun l H2 => th σ H2 fun u H3 => r x l u H3 Q
theorem pe_slice {r : V → Option Int → Option Int → Hp → VK → Prop} (hr : SlR X r) (he : PE X e te) (hl : PO X lo tl) (hu : PO X hi th) : PE X (.Subscript e (.Slice lo hi none p2) pos) (tSl r te tl th) := by
  intro pins s σ H Q I h
  refine Subscript_ (thn (he pins s σ H _ I h) fun v s1 ⟨x, H1, I1, r1, q1⟩ => ?_)
  refine wpAny_Slice (thn (hl pins s1 σ H1 _ I1 q1) fun vl s2 ⟨l, H2, I2, pl, q2⟩ => thn (hu pins s2 σ H2 _ I2 q2) fun vu s3 ⟨u, H3, I3, pu, q3⟩ => ?_)
  rw [evalPart_none]
  refine wpAny_pure ?_
  have I4 : Inv X pins σ H3 { s3 with heap := s3.heap.push { cls := .type "slice", data := .fields #[vl, vu, .none] } } := I3.kept (t' := s3.toks) fun b ob q => Heap.get?_push_of_some _ q
  obtain ⟨T, id, hT, ht, hg⟩ := hr pins { s3 with heap := s3.heap.push { cls := .type "slice", data := .fields #[vl, vu, .none] } } σ H3 x v vl vu l u s3.heap.objs.size Q I4 r1 (Heap.IsSliceOf.new ..) pl pu q3
  show wpAny (model X.prog X.w) X.A (subscriptTail e (.Slice lo hi none p2) v (.ref s3.heap.objs.size)) (EP X pins σ Q) X.xe { s3 with heap := s3.heap.push { cls := .type "slice", data := .fields #[vl, vu, .none] } }
  exact tail_any (ops := [.ref s3.heap.objs.size, v]) ht hT hg (by with_unfolding_all rfl)
def cutV (xs : List V) (lo hi : Option Int) : List V := (xs.drop (HT.sIx xs.length 0 lo)).take (HT.sIx xs.length xs.length hi - HT.sIx xs.length 0 lo)
theorem cutV_length (xs : List V) (lo hi : Option Int) : (cutV xs lo hi).length ≤ xs.length := by
  unfold cutV
  rw [List.length_take, List.length_drop]
  omega
def rSlT (K : PySem.W.Frag) : V → Option Int → Option Int → Hp → VK → Prop := fun x lo hi H Q => ∃ a xs, x = .ref a ∧ SqT K H a xs ∧
  ¬ (HT.sIx xs.length 0 lo = 0 ∧ HT.sIx xs.length xs.length hi = xs.length) ∧ ∀ p, H p = none → Q (.ref p) (upd H p (.tup (cutV xs lo hi)))
theorem sl_tup : SlR X (rSlT X.K) := by
  intro pins s σ H x v vl vu lo hi sl Q I rx hs pl pu h
  obtain ⟨a, xs, rfl, hx, hw, q⟩ := h
  cases rx
  obtain ⟨its, r, ht, hz⟩ := I.tuple hx
  have hlen : its.toArray.size = xs.length := by rw [List.size_toArray]; exact r.length.symm
  refine ⟨"tuple", _, PyProof.Rows.slot_tuple_getitem.lookup, ht.typeIs, ?_⟩
  refine HT.getItem_tuple_cut ht hs pl pu (by rw [hlen]; exact hw) ?_ (by rw [hlen]; exact hz)
  rw [hlen]
  refine ⟨.ref s.heap.objs.size, _, I.laid (t' := s.toks) (o := .tup (cutV xs lo hi)) (fun b ob q => Heap.get?_push_of_some _ q) (Nat.le_refl _) ?_, rfl, q _ (I.hok.fresh (Nat.le_refl _))⟩
  exact ⟨Nat.le_trans (cutV_length xs lo hi) hz, _, (r.drop (HT.sIx xs.length 0 lo)).take (HT.sIx xs.length xs.length hi - HT.sIx xs.length 0 lo), IsTup.new _ _⟩
def rLtT (K : PySem.W.Frag) : R2 := fun x y H Q => ∃ a b ns ms, x = .ref a ∧ y = .ref b ∧ SqT K H a (ns.map V.int) ∧ SqT K H b (ms.map V.int) ∧ Q (.bl (HT.lexLt ns ms)) H
theorem op_ltT (hu : X.A.units < cLine) : OpR X (compareOp .Lt) (rLtT X.K) := by
  intro pins s σ H x y v u Q I rx ry h
  obtain ⟨a, b, ns, ms, rfl, rfl, ha, hb, q⟩ := h
  cases rx
  cases ry
  obtain ⟨its, r1, p1, _⟩ := I.tuple ha
  obtain ⟨its2, r2, p2, _⟩ := I.tuple hb
  have i1 : IntsAre its.toArray.toList ns := intsAre_of r1
  have i2 : IntsAre its2.toArray.toList ms := intsAre_of r2
  exact HT.lt_tupInts p1 p2 i1 i2 hu ⟨.bl (HT.lexLt ns ms), H, I, rfl, q⟩
def rCatT (K : PySem.W.Frag) : R2 := fun x y H Q => ∃ a b xs ys, x = .ref a ∧ y = .ref b ∧ SqT K H a xs ∧ SqT K H b ys ∧ xs ≠ [] ∧ xs.length + ys.length ≤ sizeLine ∧
  (ys = [] → Q (.ref a) H) ∧ (ys ≠ [] → ∀ p, H p = none → Q (.ref p) (upd H p (.tup (xs ++ ys))))
theorem Vals.nil_iff {xs : List V} {us : List Value} (r : Vals xs us) : us = [] ↔ xs = [] := by
  cases r with
  | nil => simp
  | cons _ _ => simp
theorem op_catT : OpR X (binaryOp .Add) (rCatT X.K) := by
  intro pins s σ H x y v u Q I rx ry h
  obtain ⟨a, b, xs, ys, rfl, rfl, ha, hb, hx, hz, q1, q2⟩ := h
  cases rx
  cases ry
  obtain ⟨its, r1, p1, _⟩ := I.tuple ha
  obtain ⟨its2, r2, p2, _⟩ := I.tuple hb
  refine HT.cat_tup p1 p2 (fun z => hx (r1.nil_iff.mp z)) (fun z => ⟨.ref a, H, I, rfl, q1 (r2.nil_iff.mp z)⟩) (fun z => ?_) (by rw [← r1.length, ← r2.length]; exact hz)
  refine ⟨.ref s.heap.objs.size, _, I.laid (t' := s.toks) (o := .tup (xs ++ ys)) (fun b ob q => Heap.get?_push_of_some _ q) (Nat.le_refl _) ?_, rfl, q2 (fun w => z (r2.nil_iff.mpr w)) _ (I.hok.fresh (Nat.le_refl _))⟩
  exact ⟨by rw [List.length_append]; exact hz, _, r1.append r2, IsTup.new _ _⟩
end
end L2
namespace L2
open PySem PySem.Spec PyProof.Rows
def ixN (n : Nat) (i : Int) : Option Nat := if 0 ≤ i then (if i < n then some i.toNat else none) else if -(n : Int) ≤ i then some (i + n).toNat else none
def atI {α : Type} (xs : List α) (i : Int) : Option α := (ixN xs.length i).bind fun j => xs[j]?
theorem ixN_seq {n : Nat} {i : Int} {j : Nat} (h : ixN n i = some j) : seqIndex? i n = some j ∧ j < n ∧ -(n : Int) ≤ i ∧ i < n := by
  unfold ixN at h
  by_cases h0 : 0 ≤ i
  · rw [if_pos h0] at h
    by_cases h1 : i < n
    · rw [if_pos h1] at h
      have e : i.toNat = j := Option.some.inj h
      exact ⟨by rw [seqIndex_of h0 h1, e], by omega, by omega, h1⟩
    · rw [if_neg h1] at h; cases h
  · rw [if_neg h0] at h
    by_cases h1 : -(n : Int) ≤ i
    · rw [if_pos h1] at h
      have e : (i + n).toNat = j := Option.some.inj h
      exact ⟨by rw [seqIndex_neg (by omega) h1, e], by omega, h1, by omega⟩
    · rw [if_neg h1] at h; cases h
theorem atI_get {α : Type} {xs : List α} {i : Int} {v : α} (h : atI xs i = some v) : ∃ j, seqIndex? i xs.length = some j ∧ xs[j]? = some v ∧ j < xs.length ∧ -(xs.length : Int) ≤ i ∧ i < xs.length := by
  unfold atI at h
  cases e : ixN xs.length i with
  | none => rw [e] at h; cases h
  | some j =>
    rw [e] at h
    obtain ⟨h1, h2, h3, h4⟩ := ixN_seq e
    exact ⟨j, h1, h, h2, h3, h4⟩
theorem atI_nat {α : Type} {xs : List α} {j : Nat} {v : α} (h : xs[j]? = some v) : atI xs (j : Int) = some v := by
  have hj : j < xs.length := (List.getElem?_eq_some_iff.mp h).1
  have e : ixN xs.length (j : Int) = some j := by
    unfold ixN
    rw [if_pos (by omega), if_pos (by omega)]; simp
  unfold atI; rw [e]; exact h
def PlainIx (b : Expr) : Prop := ∀ o i, subscripted b false o i = operate [o, i] (getItem o i)
def IxR (X : Cx) (r : R2) : Prop :=
  ∀ (value slice : Expr) (pins : List (Addr × Obj)) (s : Shared) (σ : St) (H : Hp) (x y : V) (v u : Value) (Q : VK), Inv X pins σ H s → RelV x v → RelV y u → r x y H Q →
    subscripted slice false v u = operate [v, u] (getItem v u) → wpAny (model X.prog X.w) X.A (subscriptTail value slice v u) (EP X pins σ Q) X.xe s
def MtR (X : Cx) (id : String) (r : V → List V → Hp → VK → Prop) : Prop :=
  ∀ (pins : List (Addr × Obj)) (s : Shared) (σ : St) (H : Hp) (x : V) (xs : List V) (v : Value) (us : List Value) (Q : VK), Inv X pins σ H s → RelV x v → Vals xs us → r x xs H Q →
    wpAny (model X.prog X.w) X.A (call (.builtin id) (v :: us)) (EP X pins σ Q) X.xe s
section
variable {X : Cx} {a b : Expr} {ta tb : TE} {pos : Pos}
theorem IxR.or {r r' : R2} (h : IxR X r) (h' : IxR X r') : IxR X (fun x y H Q => r x y H Q ∨ r' x y H Q) := by
  intro value slice pins s σ H x y v u Q I rx ry q hs
  rcases q with q | q
  · exact h value slice pins s σ H x y v u Q I rx ry q hs
  · exact h' value slice pins s σ H x y v u Q I rx ry q hs
theorem pe_ix {r : R2} (hr : IxR X r) (ha : PE X a ta) (hb : PE X b tb) (hs : PlainIx b) : PE X (.Subscript a b pos) (tOp r ta tb) := by
  intro pins s σ H Q I h
  exact Subscript_ (binT ha hb I h fun v u s2 x y H2 I2 rx ry q => hr a b pins s2 σ H2 x y v u Q I2 rx ry q (hs _ _))
def rIxL (K : PySem.W.Frag) : R2 := fun x y H Q => ∃ p xs i v, x = .ref p ∧ y = .int i ∧ SqL K H p xs ∧ atI xs i = some v ∧ Q v H
def rIxT (K : PySem.W.Frag) : R2 := fun x y H Q => ∃ p xs i v, x = .ref p ∧ y = .int i ∧ SqT K H p xs ∧ atI xs i = some v ∧ Q v H
def rIxS : R2 := fun x y H Q => ∃ z i c, x = .str z ∧ y = .int i ∧ z.length ≤ sizeLine ∧ atI z.cps.toList i = some c ∧ Q (.str ⟨#[c]⟩) H
theorem ix_list : IxR X (rIxL X.K) := by
  intro value slice pins s σ H x y v u Q I rx ry h hs
  obtain ⟨p, xs, i, z, rfl, rfl, hq, he, q⟩ := h
  cases rx
  obtain ⟨t, rfl⟩ := ry
  obtain ⟨its, r, pl, hz⟩ := I.list hq
  obtain ⟨j, h1, h2, h3, h4, h5⟩ := atI_get he
  obtain ⟨w, ew, rw'⟩ := r.get h2
  have hl := r.length
  have hn := line63
  have fin : EP X pins σ Q w s := ⟨z, H, I, rw', q⟩
  by_cases h0 : 0 ≤ i
  · have hj : i.toNat = j := by
      rw [seqIndex_of h0 h5] at h1
      exact Option.some.inj h1
    exact item_listR pl.isList h0 (by omega) (by rw [hj]; simpa using ew) fin hs
  · have hj : (i + (its.toArray.size : Int)).toNat = j := by
      rw [seqIndex_neg (by omega) h4] at h1
      rw [List.size_toArray, ← hl]
      exact Option.some.inj h1
    exact subscriptTail_builtinR (x := w) pl.isList.typeIs slot_list_getitem.lookup
      (wpAny_getItem_list_neg (Q := fun r s' => r = w ∧ EP X pins σ Q r s') pl.isList (by omega) (by rw [List.size_toArray] <;> omega) (by omega) (by rw [hj]; simpa using ew) ⟨rfl, fin⟩) hs
theorem ix_tup : IxR X (rIxT X.K) := by
  intro value slice pins s σ H x y v u Q I rx ry h hs
  obtain ⟨p, xs, i, z, rfl, rfl, hq, he, q⟩ := h
  cases rx
  obtain ⟨t, rfl⟩ := ry
  obtain ⟨its, r, pl, hz⟩ := I.tuple hq
  obtain ⟨j, h1, h2, h3, h4, h5⟩ := atI_get he
  obtain ⟨w, ew, rw'⟩ := r.get h2
  have hl := r.length
  have hn := line63
  have fin : EP X pins σ Q w s := ⟨z, H, I, rw', q⟩
  exact subscriptTail_builtinR (x := w) pl.typeIs slot_tuple_getitem.lookup
    (getItem_tuple (j := j) (Q := fun r s' => r = w ∧ EP X pins σ Q r s') pl (by omega) (by omega) (by rw [List.size_toArray, ← hl]; exact h1) (by simpa using ew) ⟨rfl, fin⟩) hs
theorem ix_str : IxR X rIxS := by
  intro value slice pins s σ H x y v u Q I rx ry h hs
  obtain ⟨z, i, c, rfl, rfl, hz, he, q⟩ := h
  obtain ⟨t, rfl⟩ := rx
  obtain ⟨t', rfl⟩ := ry
  obtain ⟨j, h1, h2, h3, h4, h5⟩ := atI_get he
  have hl : z.cps.toList.length = z.length := by simp [Str.length]
  rw [hl] at h1 h4 h5
  have hn := line63
  exact tail_any (typeIs_str s z t) slot_str_getitem.lookup (getItem_str (c := c) (by
    have e1 : decide (i < -(2 ^ 63 : Int)) = false := decide_eq_false (by omega)
    have e2 : decide (i ≥ 2 ^ 63) = false := decide_eq_false (by omega)
    rw [e1, e2, Bool.or_false]) (by rw [h1]; simpa using h2) ⟨.str ⟨#[c]⟩, H, I.tok _, ⟨_, rfl⟩, q⟩) hs
def rIx (K : PySem.W.Frag) : R2 := fun x y H Q => rIxL K x y H Q ∨ rIxT K x y H Q ∨ rIxS x y H Q
theorem ix_seq : IxR X (rIx X.K) := ix_list.or (ix_tup.or ix_str)
theorem mapSeq_set (its : List Value) (n j : Nat) (u : Value) : Obj.mapSeq (·.setIfInBounds j u) { cls := .type "list", data := .seq its.toArray n } = { cls := .type "list", data := .seq (its.set j u).toArray n } := by
  simp [Obj.mapSeq]
theorem Inv.lst {pins : List (Addr × Obj)} {σ : St} {H : Hp} {s : Shared} {p : Addr} {xs : List V} (I : Inv X pins σ H s) (h : H p = some (.lst xs)) :
    ∃ (its : List Value) (n : Nat), Vals xs its ∧ s.heap.get? p = some { cls := .type "list", data := .seq its.toArray n } ∧ xs.length ≤ sizeLine := by
  obtain ⟨z, its, n, r, e⟩ := I.hok p _ h
  exact ⟨its, n, r, e, z⟩
theorem Inv.lstUpd {pins : List (Addr × Obj)} {σ : St} {H : Hp} {s : Shared} {p : Addr} {xs ys : List V} {its its' : List Value} {n n' : Nat} {f : Obj → Obj} (I : Inv X pins σ H s) (h : H p = some (.lst xs))
    (ho : s.heap.get? p = some { cls := .type "list", data := .seq its.toArray n }) (hf : f { cls := .type "list", data := .seq its.toArray n } = { cls := .type "list", data := .seq its'.toArray n' }) (r : Vals ys its') (hz : ys.length ≤ sizeLine) (t : Nat) :
    Inv X pins σ (upd H p (.lst ys)) { s with heap := s.heap.update p f, toks := t } := by
  have e : (s.heap.update p f).get? p = some { cls := .type "list", data := .seq its'.toArray n' } := by
    rw [Heap.get?_update_self f ho (by rw [hf] <;> rfl), hf]
  refine I.write (x := p) (e := p) (by rw [h]; trivial) (.inl rfl) (fun b u hb q => (Heap.get?_update_other _ _ (Ne.symm hb)).trans q) ⟨_, e⟩ ?_
  exact ⟨hz, its', n', r, e⟩
def rSetL : V → V → V → Hp → (Hp → Prop) → Prop := fun o i v H Q => ∃ p xs k j, o = .ref p ∧ i = .int k ∧ H p = some (.lst xs) ∧ ixN xs.length k = some j ∧ Q (upd H p (.lst (xs.set j v)))
theorem set_list : PSet X rSetL := by
  intro pins s σ H o i v ov iv u Q I ro ri rv h
  obtain ⟨p, xs, k, j, rfl, rfl, hp, hj, q⟩ := h
  cases ro
  obtain ⟨t, rfl⟩ := ri
  obtain ⟨its, n, r, ho, hz⟩ := I.lst hp
  obtain ⟨h1, h2, h3, h4⟩ := ixN_seq hj
  have hl := r.length
  have hn := line63
  have I' : Inv X pins σ (upd H p (.lst (xs.set j v))) { s with heap := s.heap.update p (Obj.mapSeq (·.setIfInBounds j u)) } :=
    I.lstUpd hp ho (mapSeq_set its n j u) (r.set rv j) (by rw [List.length_set]; exact hz) s.toks
  by_cases h0 : 0 ≤ k
  · have hk : k.toNat = j := by
      rw [seqIndex_of h0 h4] at h1
      exact Option.some.inj h1
    exact PySem.W.ki_setAt ho h0 (by omega) (by rw [List.size_toArray, ← hl]; exact h4) (by rw [hk]; exact ⟨_, I', q⟩)
  · have hk : (k + (its.toArray.size : Int)).toNat = j := by
      rw [seqIndex_neg (by omega) h3] at h1
      rw [List.size_toArray, ← hl]
      exact Option.some.inj h1
    exact PySem.W.ki_setBack ho (by omega) (by rw [List.size_toArray, ← hl]; exact h3) (by omega) (by rw [hk]; exact ⟨_, I', q⟩)
theorem slice_bounds (lo hi : Option Int) (n : Nat) : (sliceBounds lo hi none n).1 = ((HT.sIx n 0 lo : Nat) : Int) ∧ (sliceBounds lo hi none n).2.1 = ((HT.sIx n n hi : Nat) : Int) ∧ (sliceBounds lo hi none n).2.2 = 1 := by
  refine ⟨?_, ?_, rfl⟩
  · cases lo with
    | none => simp [sliceBounds, HT.sIx]
    | some i =>
      simp only [sliceBounds, HT.sIx, Option.getD_none, show (1 : Int) > 0 by decide, if_true]
      by_cases h : i < 0
      · simp only [h, if_true] <;> omega
      · simp only [h, if_false] <;> omega
  · cases hi with
    | none => simp [sliceBounds, HT.sIx]
    | some i =>
      simp only [sliceBounds, HT.sIx, Option.getD_none, show (1 : Int) > 0 by decide, if_true]
      by_cases h : i < 0
      · simp only [h, if_true] <;> omega
      · simp only [h, if_false] <;> omega
theorem slicePick_cut (its : List Value) (lo hi : Option Int) : slicePick its.toArray lo hi none = ((its.drop (HT.sIx its.length 0 lo)).take (HT.sIx its.length its.length hi - HT.sIx its.length 0 lo)).toArray := by
  obtain ⟨h1, h2, h3⟩ := slice_bounds lo hi its.toArray.size
  unfold slicePick
  rw [h1, h2, h3]
  simp only [sliceRange_one, pick_run, List.size_toArray] <;> rfl
def rSlL (K : PySem.W.Frag) : V → Option Int → Option Int → Hp → VK → Prop := fun x lo hi H Q => ∃ a xs, x = .ref a ∧ SqL K H a xs ∧ ∀ p, H p = none → Q (.ref p) (upd H p (.lst (cutV xs lo hi)))
theorem sl_list : SlR X (rSlL X.K) := by
  intro pins s σ H x v vl vu lo hi sl Q I rx hs pl pu h
  obtain ⟨a, xs, rfl, hx, q⟩ := h
  cases rx
  obtain ⟨its, r, ht, hz⟩ := I.list hx
  have hlen := r.length
  refine ⟨"list", _, slot_list_getitem.lookup, ht.isList.typeIs, ?_⟩
  refine wpAny_getItem_list_slice ht.isList hs pl pu .none (by simp) ?_ (by rw [List.size_toArray] <;> omega)
  rw [slicePick_cut, ← hlen]
  refine ⟨.ref s.heap.objs.size, _, I.laid (t' := s.toks) (o := .lst (cutV xs lo hi)) (fun b ob q => Heap.get?_push_of_some _ q) (Nat.le_refl _) ?_, rfl, q _ (I.hok.fresh (Nat.le_refl _))⟩
  exact ⟨Nat.le_trans (cutV_length xs lo hi) hz, _, 0, (r.drop (HT.sIx xs.length 0 lo)).take (HT.sIx xs.length xs.length hi - HT.sIx xs.length 0 lo), Heap.get?_push_size _ rfl⟩
def flatV : V → Bool
  | .non => true
  | .bl _ => true
  | .int _ => true
  | .str _ => true
  | _ => false
def eqV : V → V → Bool
  | .non, .non => true
  | .bl a, .bl b => a == b
  | .bl a, .int b => (if a then 1 else 0) == b
  | .int a, .bl b => a == (if b then 1 else 0)
  | .int a, .int b => a == b
  | .str a, .str b => a == b
  | _, _ => false
theorem eqAt_V {A : Around} {s : Shared} {y x : V} {u v : Value} (ry : RelV y u) (rx : RelV x v) (fy : flatV y = true) (fx : flatV x = true) : SeqAt.EqAt A s u v (eqV y x) := by
  cases y with
  | non =>
    cases ry
    cases x with
    | non => cases rx; exact SeqAt.EqAt.same _
    | bl b => cases rx; exact SeqAt.EqAt.none_bool b
    | int b => obtain ⟨t, rfl⟩ := rx; exact SeqAt.EqAt.none_int b t
    | str b => obtain ⟨t, rfl⟩ := rx; exact SeqAt.EqAt.none_str b t
    | _ => exact absurd (show false = true from fx) Bool.false_ne_true
  | bl a =>
    cases ry
    cases x with
    | non => cases rx; exact SeqAt.EqAt.bool_none a
    | bl b => cases rx; exact SeqAt.EqAt.bool_bool a b
    | int b => obtain ⟨t, rfl⟩ := rx; exact SeqAt.EqAt.bool_int a b t
    | str b => obtain ⟨t, rfl⟩ := rx; exact SeqAt.EqAt.bool_str a b t
    | _ => exact absurd (show false = true from fx) Bool.false_ne_true
  | int a =>
    obtain ⟨t', rfl⟩ := ry
    cases x with
    | non => cases rx; exact SeqAt.EqAt.int_none a t'
    | bl b => cases rx; exact SeqAt.EqAt.int_bool a t' b
    | int b => obtain ⟨t, rfl⟩ := rx; exact SeqAt.EqAt.int_int a t' b t
    | str b => obtain ⟨t, rfl⟩ := rx; exact SeqAt.EqAt.int_str a t' b t
    | _ => exact absurd (show false = true from fx) Bool.false_ne_true
  | str a =>
    obtain ⟨t', rfl⟩ := ry
    cases x with
    | non => cases rx; exact SeqAt.EqAt.str_none a t'
    | bl b => cases rx; exact SeqAt.EqAt.str_bool a t' b
    | int b => obtain ⟨t, rfl⟩ := rx; exact SeqAt.EqAt.str_int a t' b t
    | str b => obtain ⟨t, rfl⟩ := rx; exact SeqAt.EqAt.str_str a t' b t
    | _ => exact absurd (show false = true from fx) Bool.false_ne_true
  | _ => exact absurd (show false = true from fy) Bool.false_ne_true
def eqU (x : V) (u : Value) : Bool := match u with
  | .none => eqV .non x
  | .bool b => eqV (.bl b) x
  | .int i _ => eqV (.int i) x
  | .str z _ => eqV (.str z) x
  | _ => false
theorem eqU_of {x y : V} {u : Value} (r : RelV y u) (f : flatV y = true) : eqU x u = eqV y x := by
  cases y with
  | non => cases r; rfl
  | bl b => cases r; rfl
  | int i => obtain ⟨t, rfl⟩ := r; rfl
  | str z => obtain ⟨t, rfl⟩ := r; rfl
  | _ => exact absurd (show false = true from f) Bool.false_ne_true
theorem any_eqU {x : V} : ∀ {xs : List V} {us : List Value}, Vals xs us → xs.all flatV = true → us.any (eqU x) = xs.any fun y => eqV y x
  | _, _, .nil, _ => rfl
  | y :: xs, u :: us, .cons r t, f => by
    rw [List.all_cons, Bool.and_eq_true] at f
    rw [List.any_cons, List.any_cons, eqU_of r f.1, any_eqU t f.2]
theorem mem_eqAt {A : Around} {s : Shared} {x : V} {v : Value} (rx : RelV x v) (fx : flatV x = true) : ∀ {xs : List V} {us : List Value}, Vals xs us → xs.all flatV = true → ∀ u ∈ us, SeqAt.EqAt A s u v (eqU x u)
  | _, _, .nil, _ => fun u hu => by cases hu
  | y :: xs, u :: us, .cons r t, f => fun u' hu => by
    rw [List.all_cons, Bool.and_eq_true] at f
    rcases List.mem_cons.mp hu with rfl | hu
    · rw [eqU_of r f.1]; exact eqAt_V r rx f.1 fx
    · exact mem_eqAt rx fx t f.2 u' hu
def inV (x : V) (xs : List V) : Bool := xs.any fun y => eqV y x
def rIn (K : PySem.W.Frag) (neg : Bool) : R2 := fun x y H Q => ∃ p xs, y = .ref p ∧ (SqL K H p xs ∨ SqT K H p xs) ∧ flatV x = true ∧ xs.all flatV = true ∧ Q (.bl (if neg then !inV x xs else inV x xs)) H
theorem op_notIn_seq : OpR X (compareOp .NotIn) (rIn X.K true) := by
  intro pins s σ H x y v u Q I rx ry h
  obtain ⟨p, xs, rfl, hq, fx, fs, q⟩ := h
  cases ry
  rcases hq with hq | hq
  · obtain ⟨its, r, pl, hz⟩ := I.list hq
    refine SeqAt.notIn_listAt (eqU x) pl.isList (fun w hw => mem_eqAt rx fx r fs w (by simpa using hw)) ⟨.bl _, H, I, rfl, ?_⟩
    rw [show its.toArray.any (eqU x) = its.any (eqU x) by simp, any_eqU r fs]
    exact q
  · obtain ⟨its, r, pl, hz⟩ := I.tuple hq
    refine SeqAt.notIn_tupleAt (eqU x) pl (fun w hw => mem_eqAt rx fx r fs w (by simpa using hw)) ⟨.bl _, H, I, rfl, ?_⟩
    rw [show its.toArray.any (eqU x) = its.any (eqU x) by simp, any_eqU r fs]
    exact q
theorem call_len_seq : CallR X (.builtin "len") (fun xs H Q => ∃ p ys, xs = [.ref p] ∧ (SqL X.K H p ys ∨ SqT X.K H p ys) ∧ Q (.int ys.length) H) := by
  intro pins s σ H xs us Q I r h
  obtain ⟨p, ys, rfl, hq, q⟩ := h
  obtain ⟨u, rfl, rx⟩ := vals1 r
  cases rx
  have hn := line63
  rcases hq with hq | hq
  · obtain ⟨its, r', pl, hz⟩ := I.list hq
    have hlen := r'.length
    exact Calls.call_len_list pl.isList (by simp only [List.size_toArray] <;> omega) ⟨.int ys.length, H, I.tok _, ⟨s.toks + 1, by rw [List.size_toArray, hlen]⟩, q⟩
  · obtain ⟨its, r', pl, hz⟩ := I.tuple hq
    have hlen := r'.length
    exact len_tuple pl (by simp only [List.size_toArray] <;> omega) ⟨.int ys.length, H, I.tok _, ⟨s.toks + 1, by rw [List.size_toArray, hlen]⟩, q⟩
theorem call_list_of : CallR X (.type "list") (fun xs H Q => ∃ p ys, xs = [.ref p] ∧ (SqL X.K H p ys ∨ SqT X.K H p ys) ∧ ∀ l, H l = none → Q (.ref l) (upd H l (.lst ys))) := by
  intro pins s σ H xs us Q I r h
  obtain ⟨p, ys, rfl, hq, q⟩ := h
  obtain ⟨u, rfl, rx⟩ := vals1 r
  cases rx
  have fin : ∀ (its : List Value), Vals ys its → ys.length ≤ sizeLine → ∀ (h' : Heap) (c' : Nat), (∀ b o', s.heap.get? b = some o' → h'.get? b = some o') →
      h'.get? s.heap.objs.size = some { cls := .type "list", dict := none, data := .seq its.toArray c', slots := #[] } → EP X pins σ Q (.ref s.heap.objs.size) { s with heap := h' } := fun its r' hz h' c' kp e =>
    ⟨.ref s.heap.objs.size, _, I.laid (t' := s.toks) kp (Nat.le_refl _) (show ObjOk X.prog X.w _ h' _ (.lst ys) from ⟨hz, its, c', r', e⟩), rfl, q _ (I.hok.fresh (Nat.le_refl _))⟩
  rcases hq with hq | hq
  · obtain ⟨its, r', pl, hz⟩ := I.list hq
    have hlen := r'.length
    obtain ⟨o, ho, hc, n, hd⟩ := pl.isList
    exact call_list_seq p (.inl rfl) ho hc hd (fun h' c' kp e => fin its r' hz h' c' kp e) (by simp only [List.size_toArray] <;> omega)
  · obtain ⟨its, r', pl, hz⟩ := I.tuple hq
    have hlen := r'.length
    obtain ⟨o, ho, hc, n, hd⟩ := pl
    exact call_list_seq p (.inr rfl) ho hc hd (fun h' c' kp e => fin its r' hz h' c' kp e) (by simp only [List.size_toArray] <;> omega)
theorem call_tuple_of : CallR X (.type "tuple") (fun xs H Q => ∃ p ys, xs = [.ref p] ∧ ((SqL X.K H p ys ∧ ∀ l, H l = none → Q (.ref l) (upd H l (.tup ys))) ∨ (SqT X.K H p ys ∧ Q (.ref p) H))) := by
  intro pins s σ H xs us Q I r h
  obtain ⟨p, ys, rfl, h⟩ := h
  obtain ⟨u, rfl, rx⟩ := vals1 r
  cases rx
  rcases h with ⟨hq, q⟩ | ⟨hq, q⟩
  · obtain ⟨its, r', pl, hz⟩ := I.list hq
    have hlen := r'.length
    refine call_tuple_list pl.isList (fun h' kp => ?_) (by simp only [List.size_toArray] <;> omega)
    have I1 : Inv X pins σ H { s with heap := h' } := I.kept (t' := s.toks) kp
    have I2 : Inv X pins σ (upd H h'.objs.size (.tup ys)) { s with heap := h'.push { cls := .type "tuple", data := .seq its.toArray } } :=
      I1.laid (t' := s.toks) (fun b o e => Heap.get?_push_of_some _ e) (Nat.le_refl _) (show ObjOk X.prog X.w _ _ _ (.tup ys) from ⟨hz, its, r', IsTup.new _ _⟩)
    exact ⟨.ref h'.objs.size, _, I2, rfl, q _ (I1.hok.fresh (Nat.le_refl _))⟩
  · obtain ⟨its, r', pl, hz⟩ := I.tuple hq
    exact call_tuple_same pl ⟨.ref p, H, I, rfl, q⟩
def tyV (K : PySem.W.Frag) (T : String) (x : V) (H : Hp) : Prop := match x with
  | .str _ => T = "str"
  | .int _ => T = "int"
  | .ref p => (T = "list" ∧ ∃ xs, SqL K H p xs) ∨ (T = "tuple" ∧ ∃ o, K.lookup p = some o ∧ o.cls = .type "tuple" ∧ o.dict = none) ∨
      (T = "dict" ∧ ((∃ kvs, H p = some (.dK kvs)) ∨ ∃ kvs, H p = some (.dT kvs))) ∨ (T = "set" ∧ ∃ S n, H p = some (.set S n))
  | _ => False
theorem tyV_is {pins : List (Addr × Obj)} {σ : St} {H : Hp} {s : Shared} {T : String} {x : V} {v : Value} (I : Inv X pins σ H s) (r : RelV x v) (ty : tyV X.K T x H) :
    s.TypeIs v T ∧ ∀ a, v = .ref a → ∃ ob, s.heap.get? a = some ob ∧ ob.dict = none := by
  cases x with
  | str z =>
    obtain ⟨t, rfl⟩ := r
    cases (show T = "str" from ty)
    exact ⟨typeIs_str s z t, fun _ e => nomatch e⟩
  | int i =>
    obtain ⟨t, rfl⟩ := r
    cases (show T = "int" from ty)
    exact ⟨typeIs_int s i t, fun _ e => nomatch e⟩
  | ref p =>
    cases r
    rcases ty with ⟨rfl, xs, hq⟩ | ⟨rfl, o, hk, hc, hd⟩ | ⟨rfl, hk⟩ | ⟨rfl, S, n, hk⟩
    · obtain ⟨its, _, pl, _⟩ := I.list hq
      refine ⟨pl.isList.typeIs, fun a e => ?_⟩
      cases e
      obtain ⟨o, n, e, c, hd, _⟩ := pl
      exact ⟨o, e, hd⟩
    · refine ⟨⟨o, I.kIn p o hk, hc⟩, fun a e => ?_⟩
      cases e
      exact ⟨o, I.kIn _ o hk, hd⟩
    · have z : ∃ o, s.heap.get? p = some o ∧ o.ExactDict := by
        rcases hk with ⟨kvs, hk⟩ | ⟨kvs, hk⟩
        · obtain ⟨_, _, _, _, o, _, _, e, ex, _⟩ := I.hok p _ hk
          exact ⟨o, e, ex⟩
        · obtain ⟨_, _, _, _, o, _, _, e, ex, _⟩ := I.hok p _ hk
          exact ⟨o, e, ex⟩
      obtain ⟨o, e, ex⟩ := z
      refine ⟨⟨o, e, ex.1⟩, fun a e2 => ?_⟩
      cases e2
      exact ⟨o, e, ex.2.1⟩
    · obtain ⟨o, _, _, _, e, ex, _⟩ := I.hok p _ hk
      refine ⟨⟨o, e, ex.1⟩, fun a e2 => ?_⟩
      cases e2
      exact ⟨o, e, ex.2.1⟩
  | _ => exact False.elim ty
def tBM0 (K : PySem.W.Frag) (T : String) (r : V → List V → Hp → VK → Prop) (to : TE) : TE := fun σ H Q => to σ H fun x H1 => tyV K T x H1 ∧ r x [] H1 Q
def tBM (K : PySem.W.Frag) (T : String) (r : V → List V → Hp → VK → Prop) (to : TE) (t : TA) : TE := fun σ H Q => to σ H fun x H1 => tyV K T x H1 ∧ t σ H1 fun xs H2 => r x xs H2 Q
variable {o e : Expr} {es : List Expr} {to : TE} {t : TA} {name : Str} {apos cpos : Pos} {T id : String} {r : V → List V → Hp → VK → Prop}
theorem pe_bm0 (pa : PlainAttrs T) (slot : Slot T name id) (hty : typeOf (.builtin id) = pure (.type "method_descriptor")) (hm : MtR X id r) (ho : PE X o to)
    (hbase : attributeBase o name X.env (eval o X.env) = eval o X.env := by rfl) (hline : (apos.endLine == cpos.line) = true := by rfl) : PE X (.Call (.Attribute o name apos) [] [] cpos) (tBM0 X.K T r to) := by
  intro pins s σ H Q I h
  refine wpAny_Call_method0_late hbase hline (thn (ho pins s σ H _ I h) fun v s1 ⟨x, H1, I1, r1, ty, q1⟩ => ?_)
  obtain ⟨h1, h2⟩ := tyV_is I1 r1 ty
  exact ⟨T, id, pa, slot, hty, h1, h2, Calls.callWith_builtin rfl (PySem.evalArgs_none (hm pins s1 σ H1 x [] v [] Q I1 r1 .nil q1))⟩
theorem pe_bm (pa : PlainAttrs T) (slot : Slot T name id) (hty : typeOf (.builtin id) = pure (.type "method_descriptor")) (hm : MtR X id r) (ho : PE X o to) (ha : PA X (e :: es) t)
    (hbase : attributeBase o name X.env (eval o X.env) = eval o X.env := by rfl)
    (hfew : ((backTo cpos (starEach (e :: es) X.env)).all (fun x => !x.1) && (backToKw cpos (keywordEach [] X.env)).all (fun x => x.1.isSome)
      && decide ((e :: es).length + ([] : List Keyword).length + (if ([] : List Keyword).isEmpty then 0 else 1) < 30)) = true := by rfl)
    (hline : (apos.endLine == cpos.line) = true := by rfl) (hs : starEach (e :: es) X.env = (false, eval e X.env) :: starEach es X.env := by rfl) (hplain : (backTo cpos (starEach es X.env)).any (·.1) = false := by rfl) :
    PE X (.Call (.Attribute o name apos) (e :: es) [] cpos) (tBM X.K T r to t) := by
  intro pins s σ H Q I h
  refine wpAny_Call_method_late hbase hfew hline rfl (thn (ho pins s σ H _ I h) fun v s1 ⟨x, H1, I1, r1, ty, q1⟩ => ?_)
  obtain ⟨h1, h2⟩ := tyV_is I1 r1 ty
  refine ⟨T, id, pa, slot, hty, h1, h2, ?_⟩
  have hA := ha cpos pins s1 σ H1 _ I1 q1
  rw [hs] at hA ⊢
  refine Calls.callWith_builtin (by show (false || (backTo cpos (starEach es X.env)).any (·.1)) = false; rw [hplain] <;> rfl) (Calls.evalArgs_plain ?_)
  exact thn hA fun us s2 ⟨vs, H2, I2, r2, q2⟩ => hm pins s2 σ H2 x vs v us Q I2 r1 r2 q2
end
end L2
namespace L2
open PySem PySem.Spec PyProof.Rows
def MtM (X : Cx) (id : String) (r : V → List V → Hp → VK → Prop) : Prop :=
  ∀ (pins : List (Addr × Obj)) (s : Shared) (σ : St) (H : Hp) (x : V) (xs : List V) (v : Value) (us : List Value) (Q : VK), Inv X pins σ H s → RelV x v → Vals xs us → r x xs H Q →
    wpAny (model X.prog X.w) X.A (call (.builtin id) (v :: us)) (EP X pins σ Q) X.xe s
theorem Vals.one : ∀ {x : V} {us : List Value}, Vals [x] us → ∃ u, us = [u] ∧ RelV x u
  | _, _, .cons r .nil => ⟨_, rfl, r⟩
theorem Vals.zero : ∀ {us : List Value}, Vals [] us → us = []
  | _, .nil => rfl
theorem Vals.dropLast {xs : List V} {us : List Value} (h : Vals xs us) : Vals xs.dropLast us.dropLast := by
  induction h with
  | nil => exact .nil
  | cons r t ih =>
    cases t with
    | nil => exact .nil
    | cons q t' => exact .cons r ih
theorem Vals.eraseIdx : ∀ {xs : List V} {us : List Value} (i : Nat), Vals xs us → Vals (xs.eraseIdx i) (us.eraseIdx i)
  | _, _, _, .nil => .nil
  | _, _, 0, .cons _ t => t
  | _, _, i + 1, .cons r t => .cons r (Vals.eraseIdx i t)
theorem Vals.rep {xs : List V} {us : List Value} (h : Vals xs us) : ∀ k : Nat, Vals (List.replicate k xs).flatten (List.replicate k us).flatten
  | 0 => .nil
  | k + 1 => by
    rw [List.replicate_succ, List.replicate_succ, List.flatten_cons, List.flatten_cons]
    exact Vals.append h (Vals.rep h k)
theorem erase_last {α : Type} (l : List α) : l.eraseIdx (l.length - 1) = l.dropLast := by
  induction l with
  | nil => rfl
  | cons a r ih =>
    cases r with
    | nil => rfl
    | cons b r =>
      have e : (a :: b :: r).length - 1 = ((b :: r).length - 1) + 1 := by
        have h1 : (a :: b :: r).length = r.length + 2 := rfl
        have h2 : (b :: r).length = r.length + 1 := rfl
        omega
      rw [e, List.eraseIdx_cons_succ, ih]
      all_goals rfl
theorem len_erase {α : Type} : ∀ (l : List α) (i : Nat), (l.eraseIdx i).length ≤ l.length
  | [], _ => Nat.le_refl _
  | _ :: _, 0 => Nat.le_succ _
  | _ :: r, i + 1 => Nat.succ_le_succ (len_erase r i)
theorem foldl_rep (its : List Value) : ∀ (k : Nat) (acc : List Value),
    List.foldl (fun x1 x2 => x1 ++ x2) acc.toArray (List.replicate k its.toArray) = (acc ++ (List.replicate k its).flatten).toArray
  | 0, acc => by simp
  | k + 1, acc => by
    have e : acc.toArray ++ its.toArray = (acc ++ its).toArray := by simp
    have e2 : (acc ++ its) ++ (List.replicate k its).flatten = acc ++ (List.replicate (k + 1) its).flatten := by
      rw [List.replicate_succ, List.flatten_cons, List.append_assoc]
    rw [← e2, ← foldl_rep its k (acc ++ its), ← e, List.replicate_succ, List.foldl_cons]
section
variable {X : Cx} {pins : List (Addr × Obj)} {σ : St} {H : Hp} {s : Shared} {l b : Addr} {xs ys zs : List V}
theorem Inv.lset {its its' : List Value} {n : Nat} {f : Array Value → Array Value} {t' : Nat} (I : Inv X pins σ H s) (hH : H l = some (.lst xs))
    (e : s.heap.get? l = some { cls := .type "list", data := .seq its.toArray n }) (hf : f its.toArray = its'.toArray) (hv : Vals ys its') (hz : ys.length ≤ sizeLine) :
    Inv X pins σ (upd H l (.lst ys)) { s with heap := s.heap.update l (Obj.mapSeq f), toks := t' } := by
  have q := PySem.IsL.update e f
  rw [hf] at q
  refine I.write (x := l) (e := l) (by rw [hH]; exact trivial) (.inl rfl) (fun b' u hb hu => (Heap.get?_update_other s.heap (Obj.mapSeq f) (Ne.symm hb)).trans hu) ⟨_, q⟩ ?_
  exact ⟨hz, its', _, hv, q⟩
theorem Inv.lnew {its : List Value} {t' : Nat} (I : Inv X pins σ H s) (hv : Vals ys its) (hz : ys.length ≤ sizeLine) :
    Inv X pins σ (upd H s.heap.objs.size (.lst ys)) { s with heap := s.heap.push { cls := .type "list", data := .seq its.toArray }, toks := t' } :=
  I.laid (fun _ _ q => Heap.get?_push_of_some _ q) (Nat.le_refl _) ⟨hz, its, 0, hv, Heap.get?_push_size _ rfl⟩
theorem Inv.fresh (I : Inv X pins σ H s) : H s.heap.objs.size = none := I.hok.fresh (Nat.le_refl _)
theorem Inv.lstM (I : Inv X pins σ H s) (hH : H l = some (.lst xs)) : xs.length ≤ sizeLine ∧ ∃ (its : List Value) (n : Nat), Vals xs its ∧ xs.length = its.length ∧ s.heap.get? l = some { cls := .type "list", data := .seq its.toArray n } := by
  obtain ⟨z, its, n, r, e⟩ := I.hok l _ hH
  exact ⟨z, its, n, r, r.length, e⟩
theorem notLongL {n : Nat} (h : n ≤ sizeLine) : Builtin.List.listTooLong n = false := by
  unfold Builtin.List.listTooLong
  exact decide_eq_false (by omega)
end
section
variable {X : Cx}
def rAppend : V → List V → Hp → VK → Prop := fun x vs H Q => ∃ l xs y, x = .ref l ∧ vs = [y] ∧ H l = some (.lst xs) ∧ xs.length < sizeLine ∧ Q .non (upd H l (.lst (xs ++ [y])))
theorem mt_append : MtM X "list.append" rAppend := by
  intro pins s σ H x vs v us Q I rx rv h
  obtain ⟨l, xs, y, rfl, rfl, hH, hz, q⟩ := h
  cases rx
  obtain ⟨u, rfl, ru⟩ := rv.one
  obtain ⟨z, its, n, r, hl, e⟩ := I.lstM hH
  refine call_meets F.slot_list_append ⟨_, e, rfl⟩ F.entry_list_append (F.args_list_append_2 _ _) (PySem.list_append l its.toArray n u (by rw [List.size_toArray]; omega)) ⟨e, ?_⟩
  refine ⟨.non, _, I.lset (its' := its ++ [u]) hH e (by simp) (r.append (.cons ru .nil)) ?_, rfl, q⟩
  rw [List.length_append, List.length_singleton]
  omega
def rExtend : V → List V → Hp → VK → Prop := fun x vs H Q => ∃ l b xs zs, x = .ref l ∧ vs = [.ref b] ∧ H l = some (.lst xs) ∧ H b = some (.lst zs) ∧ xs.length + zs.length ≤ sizeLine ∧ Q .non (upd H l (.lst (xs ++ zs)))
theorem mt_extend : MtM X "list.extend" rExtend := by
  intro pins s σ H x vs v us Q I rx rv h
  obtain ⟨l, b, xs, zs, rfl, rfl, hH, hB, hz, q⟩ := h
  cases rx
  obtain ⟨u, rfl, ru⟩ := rv.one
  cases ru
  obtain ⟨z, its, n, r, hl, e⟩ := I.lstM hH
  obtain ⟨z2, its2, n2, r2, hl2, e2⟩ := I.lstM hB
  have hsz : its.toArray.size + its2.toArray.size ≤ sizeLine := by rw [List.size_toArray, List.size_toArray]; omega
  have hlong : ¬ (!its.toArray.isEmpty && Builtin.List.listTooLong (its.toArray.size + its2.toArray.size)) = true := by
    rw [notLongL hsz, Bool.and_false]
    exact Bool.false_ne_true
  refine call_meets F.slot_list_extend ⟨_, e, rfl⟩ F.entry_list_extend (F.args_list_extend_2 _ _)
    (AutoSeq1.list_extend_list_list_0 l its.toArray n b its2.toArray n2 hlong (by rw [List.size_toArray]; omega) (by omega)) ⟨e, e2, ?_⟩
  refine ⟨.non, _, I.lset (its' := its ++ its2) hH e (by simp) (r.append r2) ?_, rfl, q⟩
  rw [List.length_append]
  omega
def rPop : V → List V → Hp → VK → Prop := fun x vs H Q => ∃ l xs y, x = .ref l ∧ vs = [] ∧ H l = some (.lst xs) ∧ xs[xs.length - 1]? = some y ∧ Q y (upd H l (.lst xs.dropLast))
theorem mt_pop : MtM X "list.pop" rPop := by
  intro pins s σ H x vs v us Q I rx rv h
  obtain ⟨l, xs, y, rfl, rfl, hH, hy, q⟩ := h
  cases rx
  have hus := rv.zero
  subst hus
  obtain ⟨z, its, n, r, hl, e⟩ := I.lstM hH
  obtain ⟨u, hu, ru⟩ := r.get hy
  have hy' : its.toArray[its.toArray.size - 1]? = some u := by
    show its.toArray[its.length - 1]? = some u
    rw [← Array.getElem?_toList, ← hl]
    exact hu
  refine call_meets F.slot_list_pop ⟨_, e, rfl⟩ F.entry_list_pop (F.args_list_pop_1 _) (MeetsSeq.list_pop_last l its.toArray n u hy' (by rw [List.size_toArray]; omega)) ⟨e, ?_⟩
  refine ⟨y, _, I.lset (its' := its.dropLast) hH e ?_ r.dropLast ?_, ru, q⟩
  · show its.toArray.eraseIdxIfInBounds (its.toArray.size - 1) = its.dropLast.toArray
    rw [List.size_toArray, List.eraseIdxIfInBounds_toArray, erase_last]
  · rw [List.length_dropLast]
    omega
def rPopAt : V → List V → Hp → VK → Prop := fun x vs H Q => ∃ l xs i k y, x = .ref l ∧ vs = [.int i] ∧ H l = some (.lst xs) ∧ -(2 ^ 63) ≤ i ∧ i < 2 ^ 63 ∧ seqIndex? i xs.length = some k ∧ xs[k]? = some y ∧ Q y (upd H l (.lst (xs.eraseIdx k)))
theorem mt_popAt : MtM X "list.pop" rPopAt := by
  intro pins s σ H x vs v us Q I rx rv h
  obtain ⟨l, xs, i, k, y, rfl, rfl, hH, h1, h2, hk, hy, q⟩ := h
  cases rx
  obtain ⟨u, rfl, ru⟩ := rv.one
  obtain ⟨t, rfl⟩ := ru
  obtain ⟨z, its, n, r, hl, e⟩ := I.lstM hH
  obtain ⟨w, hw, rw'⟩ := r.get hy
  refine call_meets F.slot_list_pop ⟨_, e, rfl⟩ F.entry_list_pop (F.args_list_pop_2 _ _)
    (MeetsSeq.list_pop_at l its.toArray n i t k w (fitsIndex_both h1 h2) (by rw [List.size_toArray, ← hl]; exact hk) (by rw [← Array.getElem?_toList]; exact hw) (by rw [List.size_toArray]; omega)) ⟨e, ?_⟩
  refine ⟨y, _, I.lset (its' := its.eraseIdx k) hH e ?_ (r.eraseIdx k) ?_, rw', q⟩
  · show its.toArray.eraseIdxIfInBounds k = (its.eraseIdx k).toArray
    rw [List.eraseIdxIfInBounds_toArray]
  · have := len_erase xs k
    omega
def rCat : R2 := fun x y H Q => ∃ l b xs zs, x = .ref l ∧ y = .ref b ∧ H l = some (.lst xs) ∧ H b = some (.lst zs) ∧ xs.length + zs.length ≤ sizeLine ∧ ∀ p, H p = none → Q (.ref p) (upd H p (.lst (xs ++ zs)))
theorem op_cat : OpR X (binaryOp .Add) rCat := by
  intro pins s σ H x y v u Q I rx ry h
  obtain ⟨l, b, xs, zs, rfl, rfl, hH, hB, hz, q⟩ := h
  cases rx
  cases ry
  obtain ⟨z, its, n, r, hl, e⟩ := I.lstM hH
  obtain ⟨z2, its2, n2, r2, hl2, e2⟩ := I.lstM hB
  refine PySem.P.add_list e e2 ?_ (by rw [List.size_toArray, List.size_toArray]; omega)
  have ea : its.toArray ++ its2.toArray = (its ++ its2).toArray := by simp
  rw [ea]
  exact ⟨.ref _, _, I.lnew (t' := s.toks) (r.append r2) (by rw [List.length_append]; omega), rfl, q _ I.fresh⟩
def rRep : R2 := fun x y H Q => ∃ l k xs, x = .ref l ∧ y = .int k ∧ H l = some (.lst xs) ∧ -(2 ^ 63) ≤ k ∧ k < 2 ^ 63 ∧ xs.length * k.toNat ≤ sizeLine ∧
  ∀ p, H p = none → Q (.ref p) (upd H p (.lst (List.replicate k.toNat xs).flatten))
theorem len_rep {α : Type} (xs : List α) (k : Nat) : (List.replicate k xs).flatten.length = k * xs.length := by
  induction k with
  | zero => simp
  | succ k ih => rw [List.replicate_succ, List.flatten_cons, List.length_append, ih, Nat.succ_mul, Nat.add_comm]
theorem op_rep : OpR X (binaryOp .Mult) rRep := by
  intro pins s σ H x y v u Q I rx ry h
  obtain ⟨l, k, xs, rfl, rfl, hH, h1, h2, hz, q⟩ := h
  cases rx
  obtain ⟨t, rfl⟩ := ry
  obtain ⟨z, its, n, r, hl, e⟩ := I.lstM hH
  have hlen : its.toArray.size * k.toNat ≤ sizeLine := by rw [List.size_toArray, ← hl]; exact hz
  have hcap : ¬ its.toArray.size * k.toNat > (2 ^ 63 - 1) / 8 := by
    have : (sizeLine : Nat) ≤ (2 ^ 63 - 1) / 8 := by decide
    omega
  have hfit : ¬ (!Builtin.List.listFitsIndex k) = true := by
    rw [fitsIndex_both h1 h2]
    exact Bool.false_ne_true
  have hlong : ¬ Builtin.List.listTooLong (its.toArray.size * k.toNat) = true := by
    rw [notLongL hlen]
    exact Bool.false_ne_true
  have hnew : List.foldl (fun x1 x2 => x1 ++ x2) #[] (List.replicate (if its.toArray.isEmpty = true then 0 else k.toNat) its.toArray) = (List.replicate k.toNat its).flatten.toArray := by
    have f0 : ∀ m : Nat, List.foldl (fun x1 x2 => x1 ++ x2) #[] (List.replicate m its.toArray) = (List.replicate m its).flatten.toArray := fun m => by
      have := foldl_rep its m []
      rw [List.nil_append] at this
      exact this
    rw [f0]
    cases its with
    | nil => simp
    | cons a r' => rw [if_neg (by simp)]
  refine wpAny_binaryOp_repeat_ref (T := "list") (U := "int") (by decide) ⟨_, e, rfl⟩ (fun s' => typeIs_int s' k t) noFill_list_mul F.fills_int_mul F.slot_int_rmul repeat_list F.slot_int_index.lookup
    (call_meets F.slot_int_rmul (typeIs_int s k t) F.entry_int_rmul (F.args_int_rmul_2 _ _) (int___rmul___int_list k t l its.toArray n)
      ⟨e, rfl, ⟨_, e, rfl⟩, call_meets F.slot_list_mul ⟨_, e, rfl⟩ F.entry_list_mul (F.args_list_mul_2 _ _) (AutoListH.list___mul___list_int_3 l its.toArray n k t hfit hcap hlong) ⟨e, ?_⟩⟩)
  rw [hnew]
  exact ⟨.ref _, _, I.lnew (t' := s.toks) (r.rep k.toNat) (by rw [len_rep, Nat.mul_comm]; exact hz), rfl, q _ I.fresh⟩
end
end L2
namespace L2
open PySem PySem.Spec PyProof.Rows
theorem Vals.bls : ∀ {bs : List Bool} {us : List Value}, Vals (bs.map V.bl) us → us = bs.map Value.bool
  | [], us, h => by
    rw [List.map_nil] at h
    cases h
    rfl
  | b :: bs, us, h => by
    rw [List.map_cons] at h
    cases h with
    | cons r t =>
      cases r
      rw [Vals.bls t, List.map_cons]
theorem Vals.ref1 {a : Addr} {us : List Value} (r : Vals [V.ref a] us) : us = [Value.ref a] := by
  cases r with
  | cons r t =>
    cases t
    cases r
    rfl
section
variable {X : Cx}
def rIndex (K : PySem.W.Frag) : V → List V → Hp → VK → Prop := fun x xs H Q => ∃ (a : Addr) (ys : List V) (y : V) (j : Nat) (z : V), x = V.ref a ∧ xs = [y] ∧ SqL K H a ys ∧ flatV y = true ∧ ys.all flatV = true ∧ ys[j]? = some z ∧ eqV z y = true ∧
  (∀ (m : Nat) (z' : V), m < j → ys[m]? = some z' → eqV z' y = false) ∧ Q (.int (j : Nat)) H
theorem flat_at {ys : List V} (f : ys.all flatV = true) {j : Nat} {z : V} (h : ys[j]? = some z) : flatV z = true := List.all_eq_true.mp f z (List.mem_of_getElem? h)
theorem mt_index : MtR X "list.index" (rIndex X.K) := by
  intro pins s σ H x xs v us Q I rx rxs h
  obtain ⟨a, ys, y, j, z, rfl, rfl, hs, fy, fys, hz, hzj, hno, q⟩ := h
  cases rx
  cases rxs with
  | cons ry rt =>
    rename_i uy ut
    cases rt
    obtain ⟨its, rv, ⟨⟨cls, dd, data, sl⟩, n, ho, hc, hdn, hd⟩, hlen⟩ := I.list hs
    simp only at hc hd
    subst hc hd
    obtain ⟨u, hu, ru⟩ := rv.get hz
    obtain ⟨hjl, hje⟩ := List.getElem?_eq_some_iff.mp hu
    have hvl := rv.length
    have hj : j < its.toArray.size := by simpa using hjl
    have hsl := sizeLine_eq
    refine call_meets PySem.F.slot_list_index ⟨_, ho, rfl⟩ PySem.F.entry_list_index (PySem.F.args_list_index_2 _ _)
      (SeqAt.list_indexAt a its.toArray n dd sl uy (eqU y) j hj (by omega) ?_ ?_) ⟨ho, fun u' hu' => mem_eqAt ry fy rv fys u' (by simpa using hu'), ?_⟩
    · have e1 : its.toArray[j] = u := by simpa using hje
      rw [e1, eqU_of ru (flat_at fys hz)]
      exact hzj
    · intro m hm hmj
      have hml : m < its.length := by simpa using hm
      have hmy : m < ys.length := by omega
      have hy' : ys[m]? = some ys[m] := List.getElem?_eq_getElem hmy
      obtain ⟨u2, hu2, ru2⟩ := rv.get hy'
      obtain ⟨_, hme⟩ := List.getElem?_eq_some_iff.mp hu2
      have e1 : its.toArray[m] = u2 := by simpa using hme
      rw [e1, eqU_of ru2 (flat_at fys hy')]
      exact hno m _ hmj hy'
    · exact ⟨.int (j : Nat), H, I.tok _, ⟨_, rfl⟩, q⟩
end
theorem iter_any {prog : Program} {w : World} {A : Around} {E : Value → Shared → Prop} {s : Shared} {l : Addr} {items : Array Value} {Q : Value → Shared → Prop} (hl : s.heap.IsList l items)
    (h : ∀ s₂ : Shared, s₂ = { s with heap := s.heap.push { cls := .type "list_iterator", data := .fields #[.ref l, .int 0 0] } } →
      (s₂.heap.IsListIter s.heap.objs.size l 0 ∧ s₂.heap.IsList l items) → l ≠ s.heap.objs.size → Q (.ref s.heap.objs.size) s₂) : wpAny (model prog w) A (pyIter (.ref l)) Q E s := by
  have hlt : l < s.heap.objs.size := by obtain ⟨_, e, _⟩ := hl; exact Heap.lt_size e
  exact wpAny_pyIter_list hl (h _ rfl ⟨⟨_, Heap.get?_push_size _ rfl, rfl, rfl⟩, hl.push _⟩ (Nat.ne_of_lt hlt))
theorem truth_bools {prog : Program} {w : World} {A : Around} {bs : List Bool} {its : List Value} (e : its = bs.map Value.bool) :
    TruthOf prog w A (fun i v => its.toArray[i]? = some v) (fun i => bs.getD i false) := fun i v s Q E hv hq => by
  have hv' : its[i]? = some v := by simpa using hv
  rw [e, List.getElem?_map] at hv'
  obtain ⟨b, hb, rfl⟩ := Option.map_eq_some_iff.mp hv'
  have hg : bs.getD i false = b := by rw [List.getD_eq_getElem?_getD, hb] <;> rfl
  have hq' : Q (bs.getD i false) s := hq
  rw [hg] at hq'
  exact wpAny_truthy_bool hq'
theorem all_range : ∀ bs : List Bool, (List.range bs.length).all (fun i => bs.getD i false) = bs.all id
  | [] => rfl
  | b :: bs => by
    rw [List.length_cons, List.range_succ_eq_map, List.all_cons, List.all_map, List.all_cons, ← all_range bs]
    all_goals rfl
section
variable {X : Cx}
def rAll (K : PySem.W.Frag) : List V → Hp → VK → Prop := fun vs H Q => ∃ (a : Addr) (bs : List Bool), vs = [V.ref a] ∧ SqL K H a (bs.map V.bl) ∧ Q (.bl (bs.all id)) H
theorem cr_all (hc : X.calm = true) : CallR X (.builtin "all") (rAll X.K) := by
  intro pins s σ H vs us Q I r h
  obtain ⟨a, bs, rfl, hs, q⟩ := h
  obtain ⟨its, rv, hl, _⟩ := I.list hs
  rw [Vals.ref1 r]
  have hb := rv.bls
  refine call_all_walk (iter_any hl.isList fun s₂ e2 st hne => ?_)
  subst e2
  refine ⟨_, _, _, _, _, _, _, rfl, Walks.list (A := X.A.in1) (I.ok.hd hc) _ a hne its.toArray, st, truth_bools hb, fun h' tk hk => ?_⟩
  refine ⟨.bl _, H, I.kept fun b o eo => hk b o (fun hmem => ?_) (Heap.get?_push_of_some _ eo), ?_, q⟩
  · rcases List.mem_cons.mp hmem with e1 | hmem
    · exact absurd (e1 ▸ Heap.lt_size eo) (Nat.lt_irrefl _)
    · cases hmem
  · show Value.bool _ = Value.bool _
    rw [← all_range, hb, List.size_toArray, List.length_map]
end
mutual
inductive Dp (K : PySem.W.Frag) (H : Hp) : V → PyData → Prop
  | non : Dp K H .non .none
  | bl (b : Bool) : Dp K H (.bl b) (.bool b)
  | int (i : Int) : Dp K H (.int i) (.int i)
  | str (x : Str) : Dp K H (.str x) (.str x)
  | lst {a : Addr} {xs : List V} {ds : List PyData} : SqL K H a xs → DpAll K H xs ds → Dp K H (.ref a) (.list ds)
  | tup {a : Addr} {xs : List V} {ds : List PyData} : SqT K H a xs → DpAll K H xs ds → Dp K H (.ref a) (.tuple ds)
inductive DpAll (K : PySem.W.Frag) (H : Hp) : List V → List PyData → Prop
  | nil : DpAll K H [] []
  | cons {v : V} {vs : List V} {d : PyData} {ds : List PyData} : Dp K H v d → DpAll K H vs ds → DpAll K H (v :: vs) (d :: ds)
end
section
variable {X : Cx} {pins : List (Addr × Obj)} {σ : St} {H : Hp} {s : Shared}
mutual
theorem Dp.reads (I : Inv X pins σ H s) : ∀ (d : PyData) (v : V) (u : Value), Dp X.K H v d → RelV v u → ∃ as, Reads s.heap u d as
  | .none, _, _, h, r => by
    cases h
    cases r
    exact ⟨_, Reads.none⟩
  | .bool b, _, _, h, r => by
    cases h
    cases r
    exact ⟨_, Reads.bool b⟩
  | .int i, _, _, h, r => by
    cases h
    obtain ⟨t, rfl⟩ := r
    exact ⟨_, Reads.int i t⟩
  | .str x, _, _, h, r => by
    cases h
    obtain ⟨t, rfl⟩ := r
    exact ⟨_, Reads.str x t⟩
  | .list ds, _, _, h, r => by
    cases h with
    | lst hs ha =>
      cases r
      obtain ⟨its, rv, ⟨o, n, ho, hc, _, hd⟩, _⟩ := I.list hs
      obtain ⟨as, hr⟩ := Dp.readsAll I ds _ its ha rv
      exact ⟨_, Reads.list ho hc hd hr⟩
  | .tuple ds, _, _, h, r => by
    cases h with
    | tup hs ha =>
      cases r
      obtain ⟨its, rv, ⟨o, ho, hc, n, hd⟩, _⟩ := I.tuple hs
      obtain ⟨as, hr⟩ := Dp.readsAll I ds _ its ha rv
      exact ⟨_, Reads.tuple ho hc hd hr⟩
  | .dict _, _, _, h, _ => by cases h
theorem Dp.readsAll (I : Inv X pins σ H s) : ∀ (ds : List PyData) (vs : List V) (us : List Value), DpAll X.K H vs ds → Vals vs us → ∃ as, ReadsAll s.heap us ds as
  | [], _, _, h, r => by
    cases h
    cases r
    exact ⟨_, ReadsAll.nil⟩
  | d :: ds, _, _, h, r => by
    cases h with
    | cons h1 h2 =>
      cases r with
      | cons r1 r2 =>
        obtain ⟨as, q1⟩ := Dp.reads I d _ _ h1 r1
        obtain ⟨bs, q2⟩ := Dp.readsAll I ds _ _ h2 r2
        exact ⟨_, ReadsAll.cons q1 q2⟩
end
end
section
variable {X : Cx}
def rEqD (K : PySem.W.Frag) : R2 := fun x y H Q => ∃ d e, Dp K H x d ∧ Dp K H y e ∧ SeqAt.shaped d = true ∧ SeqAt.shaped e = true ∧ Q (.bl (PyData.eqv d e)) H
def rNeD (K : PySem.W.Frag) : R2 := fun x y H Q => ∃ d e, Dp K H x d ∧ Dp K H y e ∧ SeqAt.shaped d = true ∧ SeqAt.shaped e = true ∧ Q (.bl (!PyData.eqv d e)) H
theorem op_eqD (hu : X.A.units + 64 < cLine) : OpR X (compareOp .Eq) (rEqD X.K) := by
  intro pins s σ H x y v u Q I rx ry h
  obtain ⟨d, e, hd, he, sd, se, q⟩ := h
  obtain ⟨as, r1⟩ := Dp.reads I d x v hd rx
  obtain ⟨bs, r2⟩ := Dp.reads I e y u he ry
  exact SeqAt.compareEq_shaped r1 r2 sd se hu ⟨.bl _, H, I, rfl, q⟩
theorem op_neD (hu : X.A.units + 64 < cLine) : OpR X (compareOp .NotEq) (rNeD X.K) := by
  intro pins s σ H x y v u Q I rx ry h
  obtain ⟨d, e, hd, he, sd, se, q⟩ := h
  obtain ⟨as, r1⟩ := Dp.reads I d x v hd rx
  obtain ⟨bs, r2⟩ := Dp.reads I e y u he ry
  exact SeqAt.compareNe_shaped r1 r2 sd se hu ⟨.bl _, H, I, rfl, q⟩
end
end L2
namespace L2
open PySem PySem.Spec PyProof.Rows
abbrev CellAt (h : Heap) (c : Addr) (v : Option Value) : Prop := h.IsCell c v
def relS (scope sc : Scope) : Scope :=
  { scope with names := scope.names.map fun (n, k) => if (k == .free && sc.kind == .function && sc.names.lookup n == some .cell) then (n, .cell) else (n, k) }
def cloFrom (cells : List (Str × Addr)) : List (Str × NameKind) → List (Str × Addr) → List (Str × Addr)
  | [], acc => acc
  | (n, k) :: r, acc => if k == .free then cloFrom cells r ((n, (cells.lookup n).getD 0) :: acc) else cloFrom cells r acc
theorem closure_loop (env : Env) (f : Str × NameKind → List (Str × Addr) → Sem (ForInStep (List (Str × Addr))))
    (hf : ∀ n k c, f (n, k) c = if k == .free then (do let a ← cellOf env n; pure (.yield ((n, a) :: c))) else pure (.yield c)) :
    ∀ (names : List (Str × NameKind)) (acc : List (Str × Addr)), (∀ y ∈ names, y.2 = .free → ∃ c, env.cells.lookup y.1 = some c) → forIn names acc f = pure (cloFrom env.cells names acc)
  | [], acc, _ => by rw [List.forIn_nil]; rfl
  | (n, k) :: r, acc, h => by
    rw [List.forIn_cons, hf]
    have ih := fun acc => closure_loop env f hf r acc fun y hy => h y (List.mem_cons_of_mem _ hy)
    unfold cloFrom
    by_cases hk : (k == NameKind.free) = true
    · rw [if_pos hk, if_pos hk]
      obtain ⟨c, hc⟩ := h (n, k) List.mem_cons_self (by simpa using hk)
      have e : cellOf env n = pure c := by unfold cellOf; rw [hc]
      rw [e]
      have e2 : (env.cells.lookup n).getD 0 = c := by rw [hc]; rfl
      rw [e2]
      exact ih _
    · rw [if_neg hk, if_neg hk]
      exact ih _
theorem closure_ok {scope : Scope} {env : Env} (h : ∀ y ∈ scope.names, y.2 = .free → ∃ c, env.cells.lookup y.1 = some c) : closureFor scope env = pure (cloFrom env.cells scope.names []) := by
  simp only [closureFor]
  rw [closure_loop env _ (fun n k c => rfl) scope.names [] h]
  rfl
theorem mem_lookup {α : Type} : ∀ {l : List (Str × α)} {n : Str} {c : α}, (n, c) ∈ l → ∃ c', l.lookup n = some c'
  | (k, v) :: r, n, c, h => by
    rw [List.lookup_cons]
    cases hb : n == k with
    | true => exact ⟨_, rfl⟩
    | false =>
      rcases List.mem_cons.mp h with e | h
      · cases e; simp at hb
      · exact mem_lookup h
theorem cloFrom_mem {cells : List (Str × Addr)} : ∀ {names : List (Str × NameKind)} {acc : List (Str × Addr)} {n : Str} {c : Addr}, (n, c) ∈ cloFrom cells names acc → (n, c) ∈ acc ∨ ((n, .free) ∈ names ∧ c = (cells.lookup n).getD 0)
  | [], _, _, _, h => .inl h
  | (m, k) :: r, acc, n, c, h => by
    unfold cloFrom at h
    split at h
    · rename_i hk
      have hk : k = .free := by simpa using hk
      rcases cloFrom_mem h with h | ⟨h1, h2⟩
      · rcases List.mem_cons.mp h with e | h
        · cases e; exact .inr ⟨hk ▸ List.mem_cons_self, rfl⟩
        · exact .inl h
      · exact .inr ⟨List.mem_cons_of_mem _ h1, h2⟩
    · rcases cloFrom_mem h with h | ⟨h1, h2⟩
      · exact .inl h
      · exact .inr ⟨List.mem_cons_of_mem _ h1, h2⟩
theorem cloFrom_acc {cells : List (Str × Addr)} : ∀ {names : List (Str × NameKind)} {acc : List (Str × Addr)} {p : Str × Addr}, p ∈ acc → p ∈ cloFrom cells names acc
  | [], _, _, h => h
  | (m, k) :: r, acc, p, h => by
    unfold cloFrom
    split
    · exact cloFrom_acc (List.mem_cons_of_mem _ h)
    · exact cloFrom_acc h
theorem cloFrom_has {cells : List (Str × Addr)} : ∀ {names : List (Str × NameKind)} {acc : List (Str × Addr)} {n : Str}, (n, .free) ∈ names → (n, (cells.lookup n).getD 0) ∈ cloFrom cells names acc
  | (m, k) :: r, acc, n, h => by
    unfold cloFrom
    rcases List.mem_cons.mp h with e | h
    · cases e
      exact cloFrom_acc List.mem_cons_self
    · split
      · exact cloFrom_has h
      · exact cloFrom_has h
theorem cells_mem : ∀ {names : List (Str × NameKind)} {h : Heap} {acc : List (Str × Addr)} {x : Str} {c : Addr}, (x, c) ∈ cellsFrom h.objs.size names acc →
    (x, c) ∈ acc ∨ ((x, .cell) ∈ names ∧ h.objs.size ≤ c ∧ CellAt (pushCells h names) c none)
  | [], _, _, _, _, h => .inl h
  | (n, k) :: r, h, acc, x, c, hm => by
    unfold cellsFrom at hm
    unfold pushCells
    split at hm
    · rename_i hk
      rw [if_pos hk]
      have hk : k = .cell := by simpa using hk
      rw [← Heap.size_push h { cls := .type "cell", data := .cell none }] at hm
      rcases cells_mem hm with hm | ⟨h1, h2, h3⟩
      · rcases List.mem_cons.mp hm with e | hm
        · cases e
          exact .inr ⟨hk ▸ List.mem_cons_self, Nat.le_refl _, _, pushCells_keeps r _ _ _ (Heap.get?_push_size _ rfl), rfl⟩
        · exact .inl hm
      · rw [Heap.size_push] at h2
        exact .inr ⟨List.mem_cons_of_mem _ h1, Nat.le_of_succ_le h2, h3⟩
    · rename_i hk
      rw [if_neg hk]
      rcases cells_mem hm with hm | ⟨h1, h2, h3⟩
      · exact .inl hm
      · exact .inr ⟨List.mem_cons_of_mem _ h1, h2, h3⟩
theorem cells_acc : ∀ {names : List (Str × NameKind)} {n : Nat} {acc : List (Str × Addr)} {p : Str × Addr}, p ∈ acc → p ∈ cellsFrom n names acc
  | [], _, _, _, h => h
  | (m, k) :: r, n, acc, p, h => by
    unfold cellsFrom
    split
    · exact cells_acc (List.mem_cons_of_mem _ h)
    · exact cells_acc h
theorem cells_has : ∀ {names : List (Str × NameKind)} {n : Nat} {acc : List (Str × Addr)} {x : Str}, (x, .cell) ∈ names → ∃ c, (x, c) ∈ cellsFrom n names acc
  | (m, k) :: r, n, acc, x, h => by
    unfold cellsFrom
    rcases List.mem_cons.mp h with e | h
    · cases e
      exact ⟨n, cells_acc List.mem_cons_self⟩
    · split
      · exact cells_has h
      · exact cells_has h
theorem cells_inj : ∀ {names : List (Str × NameKind)} {h : Heap} {acc : List (Str × Addr)} {x y : Str} {c : Addr}, (∀ p ∈ acc, p.2 < h.objs.size) → (∀ x y c, (x, c) ∈ acc → (y, c) ∈ acc → x = y) →
    (x, c) ∈ cellsFrom h.objs.size names acc → (y, c) ∈ cellsFrom h.objs.size names acc → x = y
  | [], _, _, _, _, _, _, hi, h1, h2 => hi _ _ _ h1 h2
  | (n, k) :: r, h, acc, x, y, c, hl, hi, h1, h2 => by
    unfold cellsFrom at h1 h2
    split at h1
    · rename_i hk
      rw [if_pos hk] at h2
      rw [← Heap.size_push h { cls := .type "cell", data := .cell none }] at h1 h2
      refine cells_inj (h := h.push _) (fun p hp => ?_) (fun x y c a b => ?_) h1 h2
      · rw [Heap.size_push]
        rcases List.mem_cons.mp hp with rfl | hp
        · exact Nat.lt_succ_self _
        · exact Nat.lt_succ_of_lt (hl p hp)
      · rcases List.mem_cons.mp a with e | a <;> rcases List.mem_cons.mp b with e' | b
        · cases e; cases e'; rfl
        · cases e; exact absurd (hl _ b) (Nat.lt_irrefl _)
        · cases e'; exact absurd (hl _ a) (Nat.lt_irrefl _)
        · exact hi _ _ _ a b
    · rename_i hk
      rw [if_neg hk] at h2
      exact cells_inj hl hi h1 h2
theorem newEnv_comp {M : Model} {A : Around} {E : Value → Shared → Prop} {s : Shared} {scope : Scope} {globals : Addr} {closure : List (Str × Addr)} {qual : Str} {func : Option Addr} {code : Value} {around : Env} {builtins : Addr} {Q : Env → Shared → Prop}
    (h : Q (newEnv scope s.heap.objs.size globals (cellsFrom (s.heap.objs.size + 1) scope.names closure) qual func code (some around) builtins)
      { s with heap := pushCells (s.heap.push { cls := .type "dict", data := .dict #[] }) scope.names }) :
    wpAny M A (newFunctionEnv scope globals closure [] qual func code (some around) builtins) Q E s := by
  simp only [newFunctionEnv, Option.isSome_some, if_true]
  refine wpAny_bind (wpAny_alloc ?_)
  refine wpAny_bind (wpAny_layCells _ (fun n k c => rfl) scope.names closure _ _ ?_)
  rw [show ({ s with heap := s.heap.push { cls := .type "dict", data := .dict #[] } } : Shared).heap.objs.size = s.heap.objs.size + 1 from Heap.size_push ..]
  rw [List.forIn_nil]
  exact wpAny_bind (wpAny_pure (wpAny_pure h))
theorem lookup_relS {sc : Scope} : ∀ {names : List (Str × NameKind)} {x : Str} {k : NameKind},
    (names.map fun (n, k) => if (k == NameKind.free && sc.kind == .function && sc.names.lookup n == some .cell) then (n, NameKind.cell) else (n, k)).lookup x = some k →
    ∃ k', names.lookup x = some k' ∧ (k = k' ∨ (k' = .free ∧ k = .cell))
  | [], _, _, h => by simp at h
  | (n, k₀) :: r, x, k, h => by
    have ih := @lookup_relS sc r x k
    have h' : List.lookup x ((if (k₀ == NameKind.free && sc.kind == .function && sc.names.lookup n == some .cell) = true then (n, NameKind.cell) else (n, k₀)) :: (r.map _)) = some k := h
    cases hx : x == n with
    | true =>
      simp only [List.lookup_cons, hx]
      by_cases hc : (k₀ == NameKind.free && sc.kind == .function && sc.names.lookup n == some .cell) = true
      · rw [if_pos hc] at h'
        simp only [List.lookup_cons, hx] at h'
        cases h'
        simp only [Bool.and_eq_true, beq_iff_eq] at hc
        exact ⟨k₀, rfl, .inr ⟨hc.1.1, rfl⟩⟩
      · rw [if_neg hc] at h'
        simp only [List.lookup_cons, hx] at h'
        cases h'
        exact ⟨_, rfl, .inl rfl⟩
    | false =>
      simp only [List.lookup_cons, hx]
      by_cases hc : (k₀ == NameKind.free && sc.kind == .function && sc.names.lookup n == some .cell) = true
      · rw [if_pos hc] at h'
        simp only [List.lookup_cons, hx] at h'
        exact ih h'
      · rw [if_neg hc] at h'
        simp only [List.lookup_cons, hx] at h'
        exact ih h'
structure BlkOk (N : List Str) (sc scope : Scope) (own : List (Str × Nat)) : Prop where
  kind : scope.kind = .function
  uniq : ∀ y ∈ scope.names, scope.names.lookup y.1 = some y.2
  ix : ∀ p ∈ own, N[p.2]? = some p.1
  free : ∀ y ∈ scope.names, y.2 = .free → sc.names.lookup y.1 = some .cell ∨ sc.names.lookup y.1 = some .free
  own : ∀ y ∈ scope.names, y.2 = .local ∨ y.2 = .cell → y.1 ∈ own.map (·.1) ∨ y.1 ∉ N
def wipe (σ : St) : List Nat → St
  | [] => σ
  | v :: vs => (wipe σ vs).set v none
theorem wipe_length (σ : St) : ∀ vs : List Nat, (wipe σ vs).length = σ.length
  | [] => rfl
  | v :: vs => by unfold wipe; rw [List.length_set, wipe_length σ vs]
theorem wipe_some {σ : St} {i : Nat} {x : V} : ∀ {vs : List Nat}, (wipe σ vs)[i]? = some (some x) → σ[i]? = some (some x) ∧ i ∉ vs
  | [], h => ⟨h, by simp⟩
  | v :: vs, h => by
    unfold wipe at h
    by_cases hi : v = i
    · subst hi
      by_cases hv : v < (wipe σ vs).length
      · rw [List.getElem?_set_self hv] at h; cases h
      · rw [List.getElem?_eq_none (by simpa using hv)] at h; cases h
    · rw [List.getElem?_set_ne hi] at h
      obtain ⟨h1, h2⟩ := wipe_some h
      exact ⟨h1, by simp only [List.mem_cons, not_or]; exact ⟨fun e => hi e.symm, h2⟩⟩
abbrev Cx.blk (X : Cx) (s : Shared) (H : Hp) (scope : Scope) (cenv : Env) (fp : List Addr) : Cx := { X with s_0 := s, H_0 := H, env := cenv, outer := X.stack, ex := fp, fn := fun x => scope.names.lookup x == some .cell, pn := [], xe := fun _ _ => False }
section
variable {X : Cx} {pins : List (Addr × Obj)} {σ : St} {H : Hp} {s : Shared}
theorem block_start {scope : Scope} {own : List (Str × Nat)} {fp : List Addr} (I : Inv X pins σ H s) (ok : BlkOk X.N X.env.scope scope own) (hN : X.N.Nodup) (hfp : ∀ b ∈ fp, FpOk X pins H b ∧ b < s.heap.objs.size) :
    Inv (X.blk s H scope (compEnvC scope (cellsFrom (s.heap.objs.size + 1) scope.names (cloFrom X.env.cells scope.names [])) s.heap.objs.size X.env) fp) [] (wipe σ (own.map (·.2))) H { s with heap := pushCells (s.heap.push { cls := .type "dict", data := .dict #[] }) scope.names } := by
  have hfree : ∀ y ∈ scope.names, y.2 = .free → ∃ c, X.env.cells.lookup y.1 = some c := fun y hy e => by
    rcases ok.free y hy e with k | k
    · exact I.ok.has _ (.inl k)
    · exact I.ok.has _ (.inr k)
  generalize hcenv : compEnvC scope (cellsFrom (s.heap.objs.size + 1) scope.names (cloFrom X.env.cells scope.names [])) s.heap.objs.size X.env = cenv
  have kp : ∀ b o, s.heap.get? b = some o → (pushCells (s.heap.push { cls := .type "dict", data := .dict #[] }) scope.names).get? b = some o := fun b o e => pushCells_keeps _ _ _ _ (Heap.get?_push_of_some _ e)
  have hL : cenv.locals = s.heap.objs.size := by rw [← hcenv]; rfl
  have hcl : cenv.cells = cellsFrom (s.heap.objs.size + 1) scope.names (cloFrom X.env.cells scope.names []) := by rw [← hcenv]; rfl
  have hsc : cenv.scope = relS scope X.env.scope := by rw [← hcenv]; rfl
  rw [← Heap.size_push s.heap { cls := .type "dict", data := .dict #[] }] at hcl
  have cm : ∀ {y c}, (y, c) ∈ cloFrom X.env.cells scope.names [] → X.env.cells.lookup y = some c ∧ c < s.heap.objs.size := fun {y c} hm => by
    rcases cloFrom_mem hm with hm | ⟨h1, rfl⟩
    · cases hm
    · obtain ⟨c, hc⟩ := hfree _ h1 rfl
      rw [hc]
      obtain ⟨w, z⟩ := I.cell _ _ hc
      exact ⟨rfl, z.lt⟩
  have mem : ∀ {y c}, cenv.cells.lookup y = some c → (X.env.cells.lookup y = some c ∧ c < s.heap.objs.size) ∨ (s.heap.objs.size + 1 ≤ c ∧ CellAt (pushCells (s.heap.push { cls := .type "dict", data := .dict #[] }) scope.names) c none) := fun {y c} e => by
    rw [hcl] at e
    rcases cells_mem (PySem.mem_of_lookup e) with hm | ⟨_, h2, h3⟩
    · exact .inl (cm hm)
    · rw [Heap.size_push] at h2; exact .inr ⟨h2, h3⟩
  have look : ∀ {y}, scope.names.lookup y = some .free → ∃ c, cenv.cells.lookup y = some c ∧ X.env.cells.lookup y = some c := fun {y} hl => by
    have hy : (y, NameKind.free) ∈ scope.names := PySem.mem_of_lookup hl
    obtain ⟨c', e'⟩ := mem_lookup (cells_acc (names := scope.names) (n := (s.heap.push { cls := .type "dict", data := .dict #[] }).objs.size) (cloFrom_has (cells := X.env.cells) (acc := []) hy))
    rw [← hcl] at e'
    refine ⟨c', e', ?_⟩
    rw [hcl] at e'
    rcases cells_mem (PySem.mem_of_lookup e') with hm | ⟨h1, _, _⟩
    · exact (cm hm).1
    · have := ok.uniq _ h1
      rw [hl] at this; cases this
  have okB : (X.blk s H scope cenv fp).Ok := by
    refine ⟨I.ok.mod, by show cenv.scope.kind = _; rw [hsc]; exact ok.kind, by show cenv.globals = _; rw [← hcenv]; exact I.ok.glob, by show cenv.builtins = _; rw [← hcenv]; exact I.ok.blt, by show s.heap.objs.size ≤ cenv.locals; rw [hL]; exact Nat.le_refl _,
      fun y z c e1 e2 => ?_, fun y hy => ?_, fun y c z e => ?_, I.ok.hd, I.ok.frames, .inl rfl, fun b hb => ⟨?_, fun y c e z => ?_⟩, I.bs, Nat.le_trans I.ok.bsz I.sz, fun b o e hb => ?_, fun b hb z => ?_, I.stack, I.stkFree⟩
    · have e1 : cenv.cells.lookup y = some c := e1
      have e2 : cenv.cells.lookup z = some c := e2
      rw [hcl] at e1 e2
      refine cells_inj (fun p hp => ?_) (fun y z c a b => I.ok.inj y z c (cm a).1 (cm b).1) (PySem.mem_of_lookup e1) (PySem.mem_of_lookup e2)
      rw [Heap.size_push]
      exact Nat.lt_succ_of_lt (cm (y := p.1) (c := p.2) hp).2
    · show ∃ c, cenv.cells.lookup y = some c
      have key : ∀ k, cenv.kindOf y = some k → (k = .cell ∨ k = .free) → ∃ c, cenv.cells.lookup y = some c := fun k hk hk' => by
        unfold Env.kindOf at hk
        rw [hsc] at hk
        obtain ⟨k', e, r⟩ := lookup_relS hk
        have : k' = .cell ∨ k' = .free := by
          rcases r with rfl | ⟨rfl, _⟩
          · exact hk'
          · exact .inr rfl
        rcases this with rfl | rfl
        · obtain ⟨c, hm⟩ := cells_has (n := (s.heap.push { cls := .type "dict", data := .dict #[] }).objs.size) (acc := cloFrom X.env.cells scope.names []) (PySem.mem_of_lookup e)
          obtain ⟨c', e'⟩ := mem_lookup hm
          exact ⟨c', by rw [hcl]; exact e'⟩
        · obtain ⟨c, h1, _⟩ := look e
          exact ⟨c, h1⟩
      rcases hy with hy | hy
      · exact key _ hy (.inl rfl)
      · exact key _ hy (.inr rfl)
    · have z : (scope.names.lookup y == some NameKind.cell) = true := z
      have z : scope.names.lookup y = some .cell := by simpa using z
      have e : cenv.cells.lookup y = some c := e
      rw [hcl] at e
      rcases cells_mem (PySem.mem_of_lookup e) with hm | ⟨_, h2, _⟩
      · rcases cloFrom_mem hm with hm | ⟨h1, _⟩
        · cases hm
        · have q := ok.uniq _ h1
          rw [z] at q; cases q
      · rw [Heap.size_push] at h2
        exact Nat.le_of_succ_le h2
    · show b ≠ cenv.locals
      rw [hL]; exact Nat.ne_of_lt (hfp b hb).2
    · have e : cenv.cells.lookup y = some c := e
      rcases mem e with ⟨h1, _⟩ | ⟨h1, _⟩
      · exact (hfp b hb).1.2.2.2.2.1 y c h1 z
      · have h2 : s.heap.objs.size + 1 ≤ b := by rw [← z]; exact h1
        exact absurd (Nat.lt_of_lt_of_le (hfp b hb).2 (Nat.le_of_succ_le h2)) (Nat.lt_irrefl _)
    · rcases (hfp b hb).1.2.2.2.1 with z | z
      · exact I.ok.noex b o e z
      · exact absurd (Nat.lt_of_lt_of_le (Heap.lt_size e) (Nat.le_trans I.ok.bsz z)) (Nat.lt_irrefl _)
    · rcases List.mem_cons.mp (I.stkSub b z) with z | z
      · exact (hfp b hb).1.2.1 z
      · exact (hfp b hb).1.2.2.1 z
  refine ⟨okB, rfl, I.bare, Un.kept kp, ⟨fun _ => none, ?_, fun i y av e1 e2 e3 => ?_⟩, fun y c e => ?_, ?_, fun y c e => ?_, fun p hp => ?_, I.hok.kept kp, by rw [wipe_length]; exact I.len⟩
  · show Heap.Ns _ cenv.locals _
    rw [hL]
    exact Heap.Ns.keeps (Heap.Ns.new ..) fun b o e => pushCells_keeps _ _ _ _ e
  · obtain ⟨e2, hne⟩ := wipe_some e2
    have hfr : scope.names.lookup y = some .free ∧ (cenv.kindOf y = some .cell ∨ cenv.kindOf y = some .free) := by
      have key : ∀ k, cenv.scope.names.lookup y = some k → k = .local ∨ k = .cell ∨ k = .free → scope.names.lookup y = some .free ∧ (cenv.kindOf y = some .cell ∨ cenv.kindOf y = some .free) := fun k hk hk' => by
        have hk0 := hk
        rw [hsc] at hk
        obtain ⟨k', e, r⟩ := lookup_relS hk
        have no : ¬ (k' = .local ∨ k' = .cell) := fun hh => by
          rcases ok.own _ (PySem.mem_of_lookup e) hh with e' | e'
          · obtain ⟨p, hp, hpy⟩ := List.mem_map.mp e'
            have e3 := ok.ix p hp
            have : p.1 = y := hpy
            rw [this] at e3
            exact hne (List.mem_map.mpr ⟨p, hp, nodup_ix hN e3 e1⟩)
          · exact e' (List.mem_of_getElem? e1)
        rcases r with rfl | ⟨rfl, rfl⟩
        · rcases hk' with rfl | rfl | rfl
          · exact absurd (.inl rfl) no
          · exact absurd (.inr rfl) no
          · exact ⟨e, .inr hk0⟩
        · exact ⟨e, .inl hk0⟩
      have e3 : Vis cenv.scope y := e3
      rcases e3 with e3 | e3 | e3
      · exact key _ e3 (.inl rfl)
      · exact key _ e3 (.inr (.inl rfl))
      · exact key _ e3 (.inr (.inr rfl))
    obtain ⟨m, hn, hl⟩ := I.loc
    have hvis : Vis X.env.scope y := (ok.free _ (PySem.mem_of_lookup hfr.1) rfl).elim (fun k => .inr (.inl k)) (fun k => .inr (.inr k))
    obtain ⟨w, r, q⟩ := hl i y av e1 e2 hvis
    refine ⟨w, r, .inr ⟨hfr.2, ?_⟩⟩
    obtain ⟨c, h1, h2⟩ := look hfr.1
    rcases q with ⟨k, _⟩ | ⟨_, c', e', z⟩
    · have k : X.env.scope.names.lookup y = some .local := k
      rcases ok.free _ (PySem.mem_of_lookup hfr.1) rfl with k' | k' <;> rw [show X.env.scope.names.lookup y = _ from k'] at k <;> cases k
    · rw [h2] at e'; cases e'
      exact ⟨c, h1, z.keeps kp⟩
  · have e : cenv.cells.lookup y = some c := e
    rcases mem e with ⟨h1, _⟩ | ⟨_, z⟩
    · obtain ⟨w, z⟩ := I.cell y c h1
      exact ⟨w, z.keeps kp⟩
    · exact ⟨_, z⟩
  · show H cenv.locals = none
    rw [hL]; exact I.hok.fresh (Nat.le_refl _)
  · have e : cenv.cells.lookup y = some c := e
    rcases mem e with ⟨h1, _⟩ | ⟨h1, _⟩
    · exact I.freeC y c h1
    · exact I.hok.fresh (Nat.le_of_succ_le h1)
  · exact absurd (show p ∈ ([] : List (Addr × Obj)) ++ [] from hp) (by simp)
theorem app_ok {E : Value → Shared → Prop} {D : Addr} {xs : List V} {y : V} {v : Value} {Q : Value → Shared → Prop} (I : Inv X pins σ H s) (hD : H D = some (.lst xs)) (hz : xs.length < sizeLine) (r : RelV y v)
    (h : ∀ s', Inv X pins σ (upd H D (.lst (xs ++ [y]))) s' → Q .none s') : wpAny (model X.prog X.w) X.A (call (.builtin "list.append") [.ref D, v]) Q E s := by
  obtain ⟨hz', its, n, ri, e⟩ := I.hok D _ hD
  have hl := ri.length
  refine append_at (hsz := by rw [List.size_toArray]; omega) e fun h' sb ho' => ?_
  refine h { s with heap := h' } (I.write (t' := s.toks) (by rw [hD]; trivial) (.inl rfl) (fun b u hb q => (sb.2 b hb).trans q) ⟨_, ho'⟩ ⟨by rw [List.length_append]; exact hz, its ++ [v], n + 1, ri.append (.cons r .nil), ?_⟩)
  rw [ho']
  simp
def PTs (X : Cx) (ifs : List Expr) (t : TT) : Prop :=
  ∀ (pins : List (Addr × Obj)) (s : Shared) (σ : St) (H : Hp) (Q : Bool → Hp → Prop), Inv X pins σ H s → t σ H Q →
    wpAny (model X.prog X.w) X.A (forIn ifs true fun c r => if r = true then do let ok ← isTrue c X.env (eval c X.env); pure (ForInStep.yield ok) else pure (ForInStep.yield r)) (TP X pins σ Q) X.xe s
def tYes : TT := fun _ H Q => Q true H
theorem pts_nil : PTs X [] tYes := fun _ _ _ H _ I h => wpAny_tests_nil ⟨H, I, h⟩
theorem pts_one {c : Expr} {t : TT} (h : PT X c t) : PTs X [c] t := fun pins s σ H Q I hw => wpAny_tests_one (h pins s σ H Q I hw)
end
theorem thnF {α : Type} {t : Sem α} {Q Q' : α → Shared → Prop} {M : Model} {A : Around} {E : Value → Shared → Prop} {s : Shared} (h : wpAny M A t Q (fun _ _ => False) s) (hQ : ∀ a s, Q a s → Q' a s) : wpAny M A t Q' E s := wpAny_mono h hQ fun _ _ z => False.elim z
theorem compLoop_any {prog : Program} {w : World} {A : Around} {R : Result → Shared → Prop} {s : Shared} {elt target iter : Expr} {ifs : List Expr} {scope : Scope} {pos : Pos} {it acc : Value} {env : Env} (I : Nat → Shared → Prop)
    (turn : ∀ n s, I n s → wpAny (model prog w) A (pyNext it) (fun r s₁ => match r with
      | none => R (.ok .next) s₁
      | some v => wpAny (model prog w) A (letOwnedTupleGo target it v) (fun _ s₁' => wpAny (model prog w) A (assign target env v) (fun _ s₂ =>
          wpAny (model prog w) A (forIn ifs true fun c r => if r = true then do let ok ← isTrue c env (eval c env); pure (ForInStep.yield ok) else pure (ForInStep.yield r)) (fun ok s₃ =>
            if ok = true then wpAny (model prog w) A (eval elt env) (fun x s₄ =>
              wpAny (model prog w) A (call (.builtin "list.append") [acc, x]) (fun _ s₅ => ∃ m, m < n ∧ I m s₅) (notedBy (model prog w) A env fun e s' => R (.error e) s') s₄) (notedBy (model prog w) A env fun e s' => R (.error e) s') s₃
            else ∃ m, m < n ∧ I m s₃) (notedBy (model prog w) A env fun e s' => R (.error e) s') s₂) (notedBy (model prog w) A env fun e s' => R (.error e) s') s₁') (notedBy (model prog w) A env fun e s' => R (.error e) s') s₁) (notedBy (model prog w) A env fun e s' => R (.error e) s') s)
    (n : Nat) (h : I n s) :
    codeAny (model prog w) A (.compLoop (.ListComp elt [⟨target, iter, ifs, 0⟩] scope pos) 0 it acc env) R s := by
  refine codeAny_loop rfl I (fun n s hI => ?_) n h
  show wpAny _ A ((compTurn (.ListComp elt [⟨target, iter, ifs, 0⟩] scope pos) 0 it acc env).onRaise (fun x => do noteFrame x env; theTreesLotGoes x)) _ _ s
  refine wpAny_noted ?_
  rw [compTurn_list]
  refine wpAny_bind (wpAny_standAt (wpAny_bind (wpAny_mono (turn n s hI) (fun r s₁ h₁ => ?_) fun _ _ h' => h')))
  cases r with
  | none => exact wpAny_pure h₁
  | some v =>
    refine wpAny_bind (wpAny_mono h₁ (fun _ s₁' h₁' => ?_) fun _ _ h' => h')
    refine wpAny_bind (wpAny_mono h₁' (fun _ s₂ h₂ => wpAny_bind (wpAny_mono h₂ (fun ok s₃ h₃ => ?_) fun _ _ h' => h')) fun _ _ h' => h')
    cases ok with
    | false => exact wpAny_pure ⟨rfl, h₃⟩
    | true =>
      exact wpAny_bind (wpAny_bind (wpAny_mono h₃ (fun x s₄ h₄ => wpAny_bind (wpAny_mono h₄ (fun _ s₅ h₅ => wpAny_pure (wpAny_pure ⟨rfl, h₅⟩)) fun _ _ h' => h')) fun _ _ h' => h'))
section
variable {X : Cx}
def tLc (wi : TI) (g : TG) (tt : TT) (te : TE) (vs : List Nat) : TE := fun σ H Q => wi σ H fun J H1 => ∀ D, H1 D = none → ∃ W : Nat → Nat → Hp → Prop, (∃ m, W 0 m (upd H1 D (.lst []))) ∧ ∀ i m H, W i m H →
  (J.stop i H ∧ Q (.ref D) H) ∨ (J.go i H ∧ ∃ Nx : Hp → Prop, (∀ H', Nx H' → ∃ m', m' < m ∧ W (i + 1) m' H') ∧ ∀ x H', J.yld i H x H' → g x (wipe σ vs) H' fun σ2 H2 => wipe σ2 vs = wipe σ vs ∧ tt σ2 H2 fun b H3 =>
    if b = true then te σ2 H3 fun y H4 => ∃ acc, H4 D = some (.lst acc) ∧ acc.length < sizeLine ∧ Nx (upd H4 D (.lst (acc ++ [y]))) else Nx H3)
theorem lc_core {pins : List (Addr × Obj)} {s : Shared} {σ : St} {H : Hp} {Q : VK} {elt tg iter : Expr} {ifs : List Expr} {scope : Scope} {own : List (Str × Nat)} {pos pos' : Pos} {wi : TI} {g : TG} {tt : TT} {te : TE} {use : Option (Value → Sem Unit)} {Qf : Value → Shared → Prop}
    (hc : X.calm = true) (hN : X.N.Nodup) (I : Inv X pins σ H s) (hi : PI X tg iter wi) (ok : BlkOk X.N X.env.scope scope own)
    (hg : ∀ (s : Shared) (H : Hp) (C : Addr) (cl : List (Str × Addr)) (fp : List Addr), PG (X.blk s H scope (compEnvC scope cl C X.env) fp) tg g) (ht : ∀ (s : Shared) (H : Hp) (C : Addr) (cl : List (Str × Addr)) (fp : List Addr), PTs (X.blk s H scope (compEnvC scope cl C X.env) fp) ifs tt)
    (he : ∀ (s : Shared) (H : Hp) (C : Addr) (cl : List (Str × Addr)) (fp : List Addr), PE (X.blk s H scope (compEnvC scope cl C X.env) fp) elt te) (hs : ∀ x, foldedSetIterable iter X.env x = pure x)
    (h : tLc wi g tt te (own.map (·.2)) σ H Q)
    (hRR : ∀ D C s' m H', Inv X pins σ H' s' → Q (.ref D) H' → s'.heap.Ns C m → FpOk X pins H' C → compPost (model X.prog X.w) X.A X.xe use Qf (.ref D) C (.ok .next) s') :
    wpAny (model X.prog X.w) X.A (comprehension (.ListComp elt [⟨tg, iter, ifs, 0⟩] scope pos) scope X.env pos' (newList []) false (eval iter X.env) use) Qf X.xe s := by
  have hfree : ∀ y ∈ scope.names, y.2 = .free → ∃ c, X.env.cells.lookup y.1 = some c := fun y hy e => by
    rcases ok.free y hy e with k | k
    · exact I.ok.has _ (.inl k)
    · exact I.ok.has _ (.inr k)
  refine wpAny_comprehension_free (use := use) rfl hs (closure_ok hfree) ok.kind (fun y hy e => by rw [ok.uniq y hy, e])
    (thn (hi pins s σ H _ I h) fun xv s1 hx => thn hx fun itv s2 h2 => ?_)
  obtain ⟨it, fp, tn, J, H2, e, I2, T, st2, f2, q⟩ := h2
  subst e
  refine wpAny_newObj_type (newEnv_comp ?_) (by show 0 ≤ sizeLine; decide)
  generalize hD : s2.heap.objs.size = D
  have hDn : H2 D = none := I2.hok.fresh (Nat.le_of_eq hD)
  obtain ⟨W, ⟨m0, w0⟩, turn⟩ := q D hDn
  -- the new list
  generalize hs3 : ({ s2 with heap := s2.heap.push { cls := .type "list", data := .seq ([] : List Value).toArray } } : Shared) = s3
  have I3 : Inv X pins σ (upd H2 D (.lst [])) s3 := by
    rw [← hs3]
    refine I2.laid (t' := s2.toks) (fun b o e => Heap.get?_push_of_some _ e) (Nat.le_of_eq hD) ⟨Nat.zero_le _, [], 0, .nil, ?_⟩
    rw [← hD]
    exact Heap.get?_push_size _ rfl
  have h3 : s3.heap = s2.heap.push { cls := .type "list", data := .seq ([] : List Value).toArray } := by rw [← hs3]
  have sz : ∀ b ∈ fp, b < s2.heap.objs.size := fun b hb => by
    obtain ⟨o, e, _⟩ := T.obj _ _ st2 b hb
    exact Heap.lt_size e
  have f3 : ∀ b ∈ fp, FpOk X pins (upd H2 D (.lst [])) b ∧ b < s3.heap.objs.size := fun b hb => by
    have hlt := sz b hb
    refine ⟨⟨?_, (f2 b hb).2⟩, by rw [h3, Heap.size_push]; exact Nat.lt_succ_of_lt hlt⟩
    rw [upd_ne (by rw [← hD]; exact Nat.ne_of_lt hlt)]
    exact (f2 b hb).1
  have st3 : tn 0 s3.heap := T.keep _ _ _ st2 fun b _ o e => by rw [h3]; exact Heap.get?_push_of_some _ e
  have I4 := block_start I3 ok hN f3
  have pg := hg s3 (upd H2 D (.lst [])) s3.heap.objs.size (cellsFrom (s3.heap.objs.size + 1) scope.names (cloFrom X.env.cells scope.names [])) fp
  have pt := ht s3 (upd H2 D (.lst [])) s3.heap.objs.size (cellsFrom (s3.heap.objs.size + 1) scope.names (cloFrom X.env.cells scope.names [])) fp
  have pe := he s3 (upd H2 D (.lst [])) s3.heap.objs.size (cellsFrom (s3.heap.objs.size + 1) scope.names (cloFrom X.env.cells scope.names [])) fp
  show codeAny _ _ (.compStart (.ListComp elt [⟨tg, iter, ifs, 0⟩] scope pos) 0 (.ref it) (.ref D) (compEnvC scope (cellsFrom (s3.heap.objs.size + 1) scope.names (cloFrom X.env.cells scope.names [])) s3.heap.objs.size X.env)) (compPost (model X.prog X.w) X.A X.xe use Qf (.ref D) s3.heap.objs.size) { s3 with heap := pushCells (s3.heap.push { cls := .type "dict", data := .dict #[] }) scope.names }
  have nfp : ∀ b ∈ fp, (upd H2 D (.lst [])) b = none := fun b hb => (f3 b hb).1.1
  generalize hce : compEnvC scope (cellsFrom (s3.heap.objs.size + 1) scope.names (cloFrom X.env.cells scope.names [])) s3.heap.objs.size X.env = ce at I4 pg pt pe ⊢
  have cL : ce.locals = s3.heap.objs.size := by subst hce; rfl
  generalize hH3 : upd H2 D (.lst []) = H3 at I3 I4 pg pt pe w0 nfp f3
  generalize hs4 : ({ s3 with heap := pushCells (s3.heap.push { cls := .type "dict", data := .dict #[] }) scope.names } : Shared) = s4 at I4 ⊢
  have st4 : tn 0 s4.heap := T.keep _ _ _ st3 fun b _ o e => by rw [← hs4]; exact pushCells_keeps _ _ _ _ (Heap.get?_push_of_some _ e)
  have stat : ∀ {σ' : St} {H' : Hp} {s' : Shared}, Inv (X.blk s3 H3 scope ce fp) [] σ' H' s' → (∀ b ∈ fp, H' b = none) → ∀ b ∈ fp, FpOk (X.blk s3 H3 scope ce fp) [] H' b := fun {σ' H' s'} I' hn b hb =>
    ⟨hn b hb, (I'.ok.exf b hb).1, I'.ok.exfs b hb, .inl hb, fun x c e => (I'.ok.exf b hb).2 x c e, fun p hp => absurd (show p ∈ ([] : List (Addr × Obj)) ++ [] from hp) (by simp)⟩
  have loop : codeAny (model X.prog X.w) X.A (.compLoop (.ListComp elt [⟨tg, iter, ifs, 0⟩] scope pos) 0 (.ref it) (.ref D) ce) (compPost (model X.prog X.w) X.A X.xe use Qf (.ref D) s3.heap.objs.size) s4 := by
    refine compLoop_any (fun n s' => ∃ i H', Inv (X.blk s3 H3 scope ce fp) [] (wipe σ (own.map (·.2))) H' s' ∧ tn i s'.heap ∧ (∀ b ∈ fp, H' b = none) ∧ W i n H') ?_ m0 ⟨0, H3, I4, st4, nfp, w0⟩
    rintro n s5 ⟨i, H5, I5, st5, n5, w5⟩
    rcases turn i n H5 w5 with ⟨stop, qq⟩ | ⟨go, Nx, hNx, step⟩
    · have td := T.done (X.blk s3 H3 scope ce fp) rfl rfl rfl hc i [] s5 _ H5 (fun _ _ => False) I5 (stat I5 n5) st5 stop
      refine thnF td fun r s6 ⟨hr, I6⟩ => ?_
      subst hr
      -- back in the def's context
      have I7 : Inv X pins σ H5 s6 := I3.call' (ch := fp) I6.os I6.base I6.hok I6.bare fun b hb => ⟨(f3 b hb).1.2.2.2.1, (f3 b hb).1.2.1, (f3 b hb).1.2.2.2.2.1, (f3 b hb).1.2.2.2.2.2⟩
      have nC : H5 s3.heap.objs.size = none := by
        have z : H5 ce.locals = none := I6.free
        rw [cL] at z
        exact z
      obtain ⟨m, hn, _⟩ := I6.loc
      have hn : s6.heap.Ns ce.locals m := hn
      rw [cL] at hn
      exact hRR D s3.heap.objs.size s6 m H5 I7 qq hn (I3.fpOk (Nat.le_refl _) nC)
    · have ti := T.item (X.blk s3 H3 scope ce fp) rfl rfl rfl hc i [] s5 _ H5 (fun _ _ => False) I5 (stat I5 n5) st5 go
      refine thnF ti fun r s6 ⟨u, hr, h6⟩ => ?_
      subst hr
      refine thnF h6 fun _ s7 ⟨x, H7, I7, r7, y7, st7, n7⟩ => ?_
      have I7' := I7.pinned (stat I7 n7) (T.obj _ _ st7)
      refine thnF (pg _ s7 _ H7 x u _ I7' r7 (step x H7 y7)) fun _ s8 ⟨σ8, H8, I8, hw8, q8⟩ => ?_
      refine thnF (pt _ s8 σ8 H8 _ I8 q8) fun b s9 ⟨H9, I9, q9⟩ => ?_
      -- the turn's end
      have fin : ∀ {s' : Shared} {H' : Hp}, Inv (X.blk s3 H3 scope ce fp) ([] ++ pinsAt fp s7.heap) σ8 H' s' → Nx H' → ∃ m, m < n ∧ ∃ i H', Inv (X.blk s3 H3 scope ce fp) [] (wipe σ (own.map (·.2))) H' s' ∧ tn i s'.heap ∧ (∀ b ∈ fp, H' b = none) ∧ W i m H' := fun {s' H'} I' nx => by
        obtain ⟨m', hm, w'⟩ := hNx H' nx
        have pin' : ∀ b ∈ fp, ∀ o, s7.heap.get? b = some o → s'.heap.get? b = some o ∧ H' b = none := fun b hb o e =>
          let z := I'.pin (b, o) (List.mem_append_right _ (List.mem_append_right _ (mem_pinsAt hb e)))
          ⟨z.1, z.2.1⟩
        have hl : (wipe σ (own.map (·.2))).length = σ8.length := by rw [← hw8, wipe_length]
        refine ⟨m', hm, i + 1, H', (I'.unpinned (pins := [])).weak hl (fun j v e => ?_), T.keep _ _ _ st7 fun b hb o e => (pin' b hb o e).1, fun b hb => ?_, w'⟩
        · rw [← hw8] at e
          exact (wipe_some e).1
        · obtain ⟨o, e, _⟩ := T.obj _ _ st7 b hb
          exact (pin' b hb o e).2
      cases b with
      | false =>
        simp only [Bool.false_eq_true, if_false] at q9 ⊢
        exact fin I9 q9
      | true =>
        simp only [if_true] at q9 ⊢
        refine thnF (pe _ s9 σ8 H9 _ I9 q9) fun z s10 ⟨yv, H10, I10, r10, acc, hD10, hz10, nx⟩ => ?_
        exact app_ok (X := X.blk s3 H3 scope ce fp) I10 hD10 hz10 r10 fun s11 I11 => fin I11 nx
  exact codeAny_compStart_list loop (T.self X.A 0 _ _ _ st4 loop)
theorem pe_lc {elt tg iter : Expr} {ifs : List Expr} {scope : Scope} {own : List (Str × Nat)} {pos : Pos} {wi : TI} {g : TG} {tt : TT} {te : TE} (hc : X.calm = true) (hN : X.N.Nodup) (hi : PI X tg iter wi) (ok : BlkOk X.N X.env.scope scope own)
    (hg : ∀ (s : Shared) (H : Hp) (C : Addr) (cl : List (Str × Addr)) (fp : List Addr), PG (X.blk s H scope (compEnvC scope cl C X.env) fp) tg g) (ht : ∀ (s : Shared) (H : Hp) (C : Addr) (cl : List (Str × Addr)) (fp : List Addr), PTs (X.blk s H scope (compEnvC scope cl C X.env) fp) ifs tt)
    (he : ∀ (s : Shared) (H : Hp) (C : Addr) (cl : List (Str × Addr)) (fp : List Addr), PE (X.blk s H scope (compEnvC scope cl C X.env) fp) elt te) (hs : ∀ x, foldedSetIterable iter X.env x = pure x := by intro _; rfl) :
    PE X (.ListComp elt [⟨tg, iter, ifs, 0⟩] scope pos) (tLc wi g tt te (own.map (·.2))) := by
  intro pins s σ H Q I h
  rw [eval_ListComp]
  refine lc_core hc hN I hi ok hg ht he hs h fun D C s' m H' I' q hn f => ⟨m, hn, fun h'' sb => ?_⟩
  obtain ⟨f0, f1, f2, f3, f4, f5⟩ := f
  exact ⟨.ref D, H', I'.turned (t' := s'.toks) (fun b o hb e => (sb.2 b hb).trans e) f0 f1 f3 f4 f5, rfl, q⟩
theorem ps_setLc {i : Nat} {y : Str} {py : Pos} {elt tg iter : Expr} {ifs : List Expr} {scope : Scope} {own : List (Str × Nat)} {pos spos : Pos} {wi : TI} {g : TG} {tt : TT} {te : TE} (hc : X.calm = true) (hN : X.N.Nodup) (hy : X.N[i]? = some y) (hyl : X.env.scope.names.lookup y = some .local)
    (hsw : swapsWith (.ListComp elt [⟨tg, iter, ifs, 0⟩] scope pos) (some (.Name y py)) spos.line X.env = pure true) (hi : PI X tg iter wi) (ok : BlkOk X.N X.env.scope scope own)
    (hg : ∀ (s : Shared) (H : Hp) (C : Addr) (cl : List (Str × Addr)) (fp : List Addr), PG (X.blk s H scope (compEnvC scope cl C X.env) fp) tg g) (ht : ∀ (s : Shared) (H : Hp) (C : Addr) (cl : List (Str × Addr)) (fp : List Addr), PTs (X.blk s H scope (compEnvC scope cl C X.env) fp) ifs tt)
    (he : ∀ (s : Shared) (H : Hp) (C : Addr) (cl : List (Str × Addr)) (fp : List Addr), PE (X.blk s H scope (compEnvC scope cl C X.env) fp) elt te) (hs : ∀ x, foldedSetIterable iter X.env x = pure x := by intro _; rfl) :
    PS X (.Assign [.Name y py] (.ListComp elt [⟨tg, iter, ifs, 0⟩] scope pos) spos) (tAsg (tLc wi g tt te (own.map (·.2))) (gName i)) := by
  intro pins s σ H D I h
  rw [exec_Assign_Name_used _ _ _ _ hsw]
  refine wpAny_bind (wpAny_standAt (wpAny_bind ?_))
  show wpAny _ X.A (do let _ ← comprehension (.ListComp elt [⟨tg, iter, ifs, 0⟩] scope pos) scope X.env (firstIterPos [⟨tg, iter, ifs, 0⟩] pos) (newList []) false (eval iter X.env) (some (assign (.Name y py) X.env))) _ _ s
  have h : tLc wi g tt te (own.map (·.2)) σ H (fun x H1 => gName i x σ H1 D.nx) := h
  refine wpAny_bind (thn (lc_core (Qf := fun _ s' => SP X pins D .next s') hc hN I hi ok hg ht he hs h fun L C s' m H' I' q hn f => ?_) fun _ s' hq => wpAny_pure (wpAny_pure hq))
  show wpAny _ _ (assign (.Name y py) X.env (.ref L)) _ _ _
  refine wpAny_assign_Name (store_ok2 (v := V.ref L) I' hN hy (.inl hyl) rfl (fun s2 I2 ⟨a, sb, ha⟩ => ?_) (.inr hyl))
  obtain ⟨f0, f1, f2, f3, f4, f5⟩ := f
  have haC : C ≠ a := by
    rcases ha with z | z
    · rw [z]; exact f1
    · exact fun e => f4 y a z e.symm
  refine ⟨m, hn.sameBut sb haC, fun h3 sb3 => ?_⟩
  exact ⟨_, H', I2.turned (t' := s2.toks) (fun b o hb e => (sb3.2 b hb).trans e) f0 f1 f3 f4 f5, q⟩
theorem sw_true {elt : Expr} {gs : List Comprehension} {scope : Scope} {pos py : Pos} {y : Str} {l : Nat} {env : Env} (hk : env.scope.kind = .function) (hy : env.scope.names.lookup y = some .local) (hl : (py.line == pos.line) = true)
    (ha : (scope.names.any fun (n, k) => n == y && (k == .local || k == .cell)) = false) : swapsWith (.ListComp elt gs scope pos) (some (.Name y py)) l env = pure true := by
  have ky : env.kindOf y = some .local := hy
  have hb : env.blockKind = .function := by unfold Env.blockKind; rw [hk]; rfl
  unfold swapsWith
  simp only [hb, ky, ha, Expr.pos, hl]
  rfl
end
theorem lc_range {lo : Int} {n : Nat} {g : TG} {tt : TT} {te : TE} {vs : List Nat} {σ : St} {H1 : Hp} {D : Addr} {Qd : Hp → Prop} (Pv : Nat → Hp → Prop) (h0 : Pv 0 (upd H1 D (.lst [])))
    (hs : ∀ i H, i < n → Pv i H → g (.int (lo + i)) (wipe σ vs) H fun σ2 H2 => wipe σ2 vs = wipe σ vs ∧ tt σ2 H2 fun b H3 =>
      if b = true then te σ2 H3 fun y H4 => ∃ acc, H4 D = some (.lst acc) ∧ acc.length < sizeLine ∧ Pv (i + 1) (upd H4 D (.lst (acc ++ [y]))) else Pv (i + 1) H3) (hd : ∀ H, Pv n H → Qd H) :
    ∃ W : Nat → Nat → Hp → Prop, (∃ m, W 0 m (upd H1 D (.lst []))) ∧ ∀ i m H, W i m H →
      ((Itr lo n).stop i H ∧ Qd H) ∨ ((Itr lo n).go i H ∧ ∃ Nx : Hp → Prop, (∀ H', Nx H' → ∃ m', m' < m ∧ W (i + 1) m' H') ∧ ∀ x H', (Itr lo n).yld i H x H' → g x (wipe σ vs) H' fun σ2 H2 => wipe σ2 vs = wipe σ vs ∧ tt σ2 H2 fun b H3 =>
        if b = true then te σ2 H3 fun y H4 => ∃ acc, H4 D = some (.lst acc) ∧ acc.length < sizeLine ∧ Nx (upd H4 D (.lst (acc ++ [y]))) else Nx H3) := by
  refine ⟨fun i m H => m = n - i ∧ i ≤ n ∧ Pv i H, ⟨n, by simp, Nat.zero_le _, h0⟩, ?_⟩
  rintro i m H ⟨rfl, hi, p⟩
  by_cases hlt : i < n
  · refine .inr ⟨hlt, Pv (i + 1), fun H' p' => ⟨n - (i + 1), by omega, rfl, hlt, p'⟩, fun x H' y => ?_⟩
    obtain ⟨e, y⟩ := y
    subst e y
    exact hs i _ hlt p
  · have e : i = n := by omega
    subst e
    exact .inl ⟨Nat.le_refl _, hd H p⟩
theorem lc_list {K : PySem.W.Frag} {a : Addr} {xs : List V} {g : TG} {tt : TT} {te : TE} {vs : List Nat} {σ : St} {H1 : Hp} {D : Addr} {Qd : Hp → Prop} (Pv : Nat → Hp → Prop) (h0 : Pv 0 (upd H1 D (.lst []))) (hl : ∀ i H, i ≤ xs.length → Pv i H → SqL K H a xs)
    (hs : ∀ i x H, xs[i]? = some x → Pv i H → g x (wipe σ vs) H fun σ2 H2 => wipe σ2 vs = wipe σ vs ∧ tt σ2 H2 fun b H3 =>
      if b = true then te σ2 H3 fun y H4 => ∃ acc, H4 D = some (.lst acc) ∧ acc.length < sizeLine ∧ Pv (i + 1) (upd H4 D (.lst (acc ++ [y]))) else Pv (i + 1) H3) (hd : ∀ H, Pv xs.length H → Qd H) :
    ∃ W : Nat → Nat → Hp → Prop, (∃ m, W 0 m (upd H1 D (.lst []))) ∧ ∀ i m H, W i m H →
      ((Itl K a).stop i H ∧ Qd H) ∨ ((Itl K a).go i H ∧ ∃ Nx : Hp → Prop, (∀ H', Nx H' → ∃ m', m' < m ∧ W (i + 1) m' H') ∧ ∀ x H', (Itl K a).yld i H x H' → g x (wipe σ vs) H' fun σ2 H2 => wipe σ2 vs = wipe σ vs ∧ tt σ2 H2 fun b H3 =>
        if b = true then te σ2 H3 fun y H4 => ∃ acc, H4 D = some (.lst acc) ∧ acc.length < sizeLine ∧ Nx (upd H4 D (.lst (acc ++ [y]))) else Nx H3) := by
  refine ⟨fun i m H => m = xs.length - i ∧ i ≤ xs.length ∧ Pv i H, ⟨xs.length, by simp, Nat.zero_le _, h0⟩, ?_⟩
  rintro i m H ⟨rfl, hi, p⟩
  have q := hl i H hi p
  by_cases hlt : i < xs.length
  · refine .inr ⟨⟨xs, xs[i], q, by simp [hlt]⟩, Pv (i + 1), fun H' p' => ⟨xs.length - (i + 1), by omega, rfl, hlt, p'⟩, fun x H' y => ?_⟩
    obtain ⟨e, y⟩ := y
    subst e
    exact hs i x _ (y xs q) p
  · have e : i = xs.length := by omega
    subst e
    exact .inl ⟨⟨xs, q, Nat.le_refl _⟩, hd H p⟩
theorem lc_tup {K : PySem.W.Frag} {a : Addr} {xs : List V} {g : TG} {tt : TT} {te : TE} {vs : List Nat} {σ : St} {H1 : Hp} {D : Addr} {Qd : Hp → Prop} (Pv : Nat → Hp → Prop) (h0 : Pv 0 (upd H1 D (.lst []))) (hl : ∀ i H, i ≤ xs.length → Pv i H → SqT K H a xs)
    (hs : ∀ i x H, xs[i]? = some x → Pv i H → g x (wipe σ vs) H fun σ2 H2 => wipe σ2 vs = wipe σ vs ∧ tt σ2 H2 fun b H3 =>
      if b = true then te σ2 H3 fun y H4 => ∃ acc, H4 D = some (.lst acc) ∧ acc.length < sizeLine ∧ Pv (i + 1) (upd H4 D (.lst (acc ++ [y]))) else Pv (i + 1) H3) (hd : ∀ H, Pv xs.length H → Qd H) :
    ∃ W : Nat → Nat → Hp → Prop, (∃ m, W 0 m (upd H1 D (.lst []))) ∧ ∀ i m H, W i m H →
      ((Itt K a).stop i H ∧ Qd H) ∨ ((Itt K a).go i H ∧ ∃ Nx : Hp → Prop, (∀ H', Nx H' → ∃ m', m' < m ∧ W (i + 1) m' H') ∧ ∀ x H', (Itt K a).yld i H x H' → g x (wipe σ vs) H' fun σ2 H2 => wipe σ2 vs = wipe σ vs ∧ tt σ2 H2 fun b H3 =>
        if b = true then te σ2 H3 fun y H4 => ∃ acc, H4 D = some (.lst acc) ∧ acc.length < sizeLine ∧ Nx (upd H4 D (.lst (acc ++ [y]))) else Nx H3) := by
  refine ⟨fun i m H => m = xs.length - i ∧ i ≤ xs.length ∧ Pv i H, ⟨xs.length, by simp, Nat.zero_le _, h0⟩, ?_⟩
  rintro i m H ⟨rfl, hi, p⟩
  have q := hl i H hi p
  by_cases hlt : i < xs.length
  · refine .inr ⟨⟨xs, xs[i], q, by simp [hlt]⟩, Pv (i + 1), fun H' p' => ⟨xs.length - (i + 1), by omega, rfl, hlt, p'⟩, fun x H' y => ?_⟩
    obtain ⟨e, y⟩ := y
    subst e
    exact hs i x _ (y xs q) p
  · have e : i = xs.length := by omega
    subst e
    exact .inl ⟨⟨xs, q, Nat.le_refl _⟩, hd H p⟩
def blkC (N : List Str) (sc scope : Scope) (own : List (Str × Nat)) : Bool :=
  (match scope.kind with | .function => true | _ => false) && (scope.names.all fun y => decide (scope.names.lookup y.1 = some y.2)) && (own.all fun p => decide (N[p.2]? = some p.1)) &&
    (scope.names.all fun y => match y.2 with
      | .free => (match sc.names.lookup y.1 with | some .cell => true | some .free => true | _ => false)
      | .local => decide (y.1 ∈ own.map (·.1)) || decide (y.1 ∉ N)
      | .cell => decide (y.1 ∈ own.map (·.1)) || decide (y.1 ∉ N)
      | _ => true)
theorem blkOk_by {N : List Str} {sc scope : Scope} {own : List (Str × Nat)} (h : blkC N sc scope own = true) : BlkOk N sc scope own := by
  unfold blkC at h
  simp only [Bool.and_eq_true, List.all_eq_true, decide_eq_true_eq] at h
  obtain ⟨⟨⟨h1, h2⟩, h3⟩, h4⟩ := h
  refine ⟨?_, h2, h3, fun y hy e => ?_, fun y hy e => ?_⟩
  · split at h1
    · assumption
    · cases h1
  · have q := h4 y hy
    simp only [e] at q
    split at q <;> first | exact .inl (by assumption) | exact .inr (by assumption) | cases q
  · have q := h4 y hy
    rcases e with e | e <;> (simp only [e, Bool.or_eq_true, decide_eq_true_eq] at q; exact q)
end L2
namespace L2
open PySem PySem.Spec PyProof.Rows
section
variable {κ : Type} [DecidableEq κ]
def valV (kvs : List (κ × V)) (k : κ) : Option V := (kvs.find? fun kv => decide (kv.1 = k)).map (·.2)
def putK (kvs : List (κ × V)) (k : κ) (v : V) : List (κ × V) :=
  if (kvs.any fun kv => decide (kv.1 = k)) = true then kvs.map (fun kv => if kv.1 = k then (kv.1, v) else kv) else kvs ++ [(k, v)]
theorem valV_pos {p : κ × V} {r : List (κ × V)} {k : κ} (e : p.1 = k) : valV (p :: r) k = some p.2 := by simp [valV, List.find?_cons, e]
theorem valV_neg {p : κ × V} {r : List (κ × V)} {k : κ} (e : ¬ p.1 = k) : valV (p :: r) k = valV r k := by simp [valV, List.find?_cons, e]
theorem valV_any (k : κ) : ∀ kvs : List (κ × V), (kvs.any fun kv => decide (kv.1 = k)) = (valV kvs k).isSome
  | [] => rfl
  | p :: r => by
    rw [List.any_cons]
    by_cases e : p.1 = k
    · simp only [valV_pos e, decide_eq_true e, Bool.true_or, Option.isSome_some]
    · rw [valV_neg e, decide_eq_false e, Bool.false_or]; exact valV_any k r
theorem valV_map (k j : κ) (y : V) : ∀ kvs : List (κ × V), valV (kvs.map fun kv => if kv.1 = k then (kv.1, y) else kv) j = (valV kvs j).map fun x => if j = k then y else x
  | [] => rfl
  | p :: r => by
    have ih := valV_map k j y r
    rw [List.map_cons]
    by_cases h : p.1 = k
    · rw [if_pos h]
      by_cases e : p.1 = j
      · rw [valV_pos (p := (p.1, y)) e, valV_pos e, Option.map_some, if_pos (e.symm.trans h)]
      · rw [valV_neg (p := (p.1, y)) e, valV_neg e, ih]
    · rw [if_neg h]
      by_cases e : p.1 = j
      · rw [valV_pos (p := p) e, valV_pos e, Option.map_some, if_neg (fun z => h (e.trans z))]
      · rw [valV_neg (p := p) e, valV_neg e, ih]
theorem valV_snoc (k j : κ) (y : V) : ∀ kvs : List (κ × V), valV kvs k = none → valV (kvs ++ [(k, y)]) j = if j = k then some y else valV kvs j
  | [], _ => by
    by_cases e : k = j
    · rw [if_pos e.symm]; exact valV_pos (p := (k, y)) e
    · rw [if_neg (fun z => e z.symm)]; exact valV_neg (p := (k, y)) e
  | p :: r, hn => by
    rw [List.cons_append]
    have hk : ¬ p.1 = k := fun z => by rw [valV_pos z] at hn; cases hn
    rw [valV_neg hk] at hn
    have ih := valV_snoc k j y r hn
    by_cases e : p.1 = j
    · rw [valV_pos e, valV_pos e, if_neg (fun z => hk (e.trans z))]
    · rw [valV_neg e, valV_neg e, ih]
theorem valV_put (kvs : List (κ × V)) (k j : κ) (y : V) : valV (putK kvs k y) j = if j = k then some y else valV kvs j := by
  unfold putK
  by_cases a : (kvs.any fun kv => decide (kv.1 = k)) = true
  · rw [if_pos a, valV_map]
    rw [valV_any] at a
    by_cases e : j = k
    · obtain ⟨x, hx⟩ := Option.isSome_iff_exists.mp a
      rw [if_pos e, e, hx, Option.map_some, if_pos rfl]
    · rw [if_neg e]
      cases valV kvs j with
      | none => rfl
      | some x => rw [Option.map_some, if_neg e]
  · rw [if_neg a]
    refine valV_snoc k j y kvs ?_
    rw [valV_any] at a
    cases q : valV kvs k with
    | none => rfl
    | some x => rw [q] at a; exact (a rfl).elim
theorem length_putK (kvs : List (κ × V)) (k : κ) (v : V) : (putK kvs k v).length ≤ kvs.length + 1 := by
  unfold putK
  split
  · rw [List.length_map]; omega
  · rw [List.length_append, List.length_cons, List.length_nil]; omega
theorem putK_new {kvs : List (κ × V)} {k : κ} (v : V) (h : valV kvs k = none) : putK kvs k v = kvs ++ [(k, v)] := by
  unfold putK
  rw [valV_any, h]
  exact if_neg (by decide)
theorem RelO.isSome_eq {o : Option V} {u : Option Value} (r : RelO o u) : o.isSome = u.isSome := by
  cases o with
  | none => cases u with
    | none => rfl
    | some _ => exact (show False from r).elim
  | some _ => cases u with
    | none => exact (show False from r).elim
    | some _ => rfl
theorem RelO.getD {o : Option V} {u : Option Value} {d : V} {d' : Value} (r : RelO o u) (rd : RelV d d') : RelV (o.getD d) (u.getD d') := by
  cases o with
  | none => cases u with
    | none => exact rd
    | some _ => exact (show False from r).elim
  | some _ => cases u with
    | none => exact (show False from r).elim
    | some _ => exact r
theorem KV.val {kvs : List (κ × V)} {vs : List (κ × Value)} (r : KV kvs vs) (k : κ) : RelO (valV kvs k) (valueAt vs k) := by
  unfold KV at r
  induction r with
  | nil => exact True.intro
  | @cons p q ps qs h t ih =>
    obtain ⟨h1, h2⟩ := h
    by_cases e : p.1 = k
    · have e' : q.1 = k := h1.symm.trans e
      have b : valueAt (q :: qs) k = some q.2 := by simp [valueAt, List.find?_cons, e']
      rw [valV_pos e, b]; exact h2
    · have e' : ¬ q.1 = k := fun z => e (h1.trans z)
      have b : valueAt (q :: qs) k = valueAt qs k := by simp [valueAt, List.find?_cons, e']
      rw [valV_neg e, b]; exact ih
theorem KV.any {kvs : List (κ × V)} {vs : List (κ × Value)} (r : KV kvs vs) (k : κ) : (kvs.any fun kv => decide (kv.1 = k)) = vs.any fun kv => decide (kv.1 = k) := by
  unfold KV at r
  induction r with
  | nil => rfl
  | cons h t ih => rw [List.any_cons, List.any_cons, ih, h.1]
theorem KV.repl {kvs : List (κ × V)} {vs : List (κ × Value)} (r : KV kvs vs) (k : κ) {y : V} {u : Value} (ry : RelV y u) :
    KV (kvs.map fun kv => if kv.1 = k then (kv.1, y) else kv) (vs.map fun kv => if kv.1 = k then (kv.1, u) else kv) := by
  unfold KV at r ⊢
  induction r with
  | nil => exact .nil
  | @cons p q ps qs h t ih =>
    rw [List.map_cons, List.map_cons]
    refine .cons ?_ ih
    obtain ⟨h1, h2⟩ := h
    by_cases e : p.1 = k
    · rw [if_pos e, if_pos (h1.symm.trans e)]; exact ⟨h1, ry⟩
    · rw [if_neg e, if_neg (fun z => e (h1.trans z))]; exact ⟨h1, h2⟩
theorem KV.put {kvs : List (κ × V)} {vs : List (κ × Value)} (r : KV kvs vs) (k : κ) {y : V} {u : Value} (ry : RelV y u) : KV (putK kvs k y) (stored vs k u) := by
  unfold putK stored
  rw [r.any k]
  by_cases e : (vs.any fun kv => decide (kv.1 = k)) = true
  · rw [if_pos e, if_pos e]; exact r.repl k ry
  · rw [if_neg e, if_neg e]; exact Paired.snoc r ⟨rfl, ry⟩
theorem KV.length {kvs : List (κ × V)} {vs : List (κ × Value)} (r : KV kvs vs) : kvs.length = vs.length := Paired.length r
end
theorem kV_is {P : Program} {w : World} {k : Key} {u : Value} (r : RelV (kV k) u) : (mixKind P w).is k u = true := by
  cases k with
  | inl i => obtain ⟨t, e⟩ := (show ∃ t, u = Value.int i t from r); subst e; exact mixKind_int P w i t
  | inr x => obtain ⟨t, e⟩ := (show ∃ t, u = Value.str x t from r); subst e; exact mixKind_str P w x t
theorem items_are {P : Program} {w : World} : ∀ {ks : List Key} {us : List Value}, Vals (ks.map kV) us → ItemsAre (mixKind P w) ks us
  | [], _, r => by rw [List.map_nil] at r; cases r; exact .nil
  | k :: ks, _, r => by
    rw [List.map_cons] at r
    cases r with
    | cons h t => exact .cons (kV_is h) (items_are t)
abbrev KT (H : Hp) : List (List Key × V) → List (List Key × Addr × Value) → Prop := Paired fun p q => p.1 = q.1 ∧ H q.2.1 = some (.tup (p.1.map kV)) ∧ RelV p.2 q.2.2
theorem KT.val {H : Hp} {kvs : List (List Key × V)} {xs : List (List Key × Addr × Value)} (r : KT H kvs xs) (k : List Key) : RelO (valV kvs k) ((atKey xs k).map (·.2)) := by
  induction r with
  | nil => exact True.intro
  | @cons p q ps qs h t ih =>
    obtain ⟨h1, _, h2⟩ := h
    by_cases e : p.1 = k
    · have e' : q.1 = k := h1.symm.trans e
      have b : atKey (q :: qs) k = some q.2 := by simp [atKey, List.find?_cons, e']
      rw [valV_pos e, b]; exact h2
    · have e' : ¬ q.1 = k := fun z => e (h1.trans z)
      have b : atKey (q :: qs) k = atKey qs k := by simp [atKey, List.find?_cons, e']
      rw [valV_neg e, b]; exact ih
theorem KT.repl {H : Hp} {kvs : List (List Key × V)} {xs : List (List Key × Addr × Value)} (r : KT H kvs xs) (k : List Key) {y : V} {u : Value} (ry : RelV y u) :
    KT H (kvs.map fun kv => if kv.1 = k then (kv.1, y) else kv) (xs.map (putAt k u)) := by
  induction r with
  | nil => exact .nil
  | @cons p q ps qs h t ih =>
    rw [List.map_cons, List.map_cons]
    refine .cons ?_ ih
    obtain ⟨h1, h2, h3⟩ := h
    unfold putAt
    by_cases e : p.1 = k
    · rw [if_pos e, if_pos (h1.symm.trans e)]; exact ⟨h1, h2, ry⟩
    · rw [if_neg e, if_neg (fun z => e (h1.trans z))]; exact ⟨h1, h2, h3⟩
theorem KT.put {H : Hp} {kvs : List (List Key × V)} {xs : List (List Key × Addr × Value)} (r : KT H kvs xs) (k : List Key) {b : Addr} {y : V} {u : Value} (hb : H b = some (.tup (k.map kV))) (ry : RelV y u) :
    KT H (putK kvs k y) (storedH xs k b u) := by
  have e : (kvs.any fun kv => decide (kv.1 = k)) = (atKey xs k).isSome := by
    rw [valV_any, (r.val k).isSome_eq, Option.isSome_map]
  unfold putK storedH
  rw [e]
  by_cases q : (atKey xs k).isSome = true
  · rw [if_pos q, if_pos q]; exact r.repl k ry
  · rw [if_neg q, if_neg q]; exact Paired.snoc r ⟨rfl, hb, ry⟩
theorem KT.keeps {H H' : Hp} {kvs : List (List Key × V)} {xs : List (List Key × Addr × Value)} (r : KT H kvs xs) (ht : ∀ b ys, H b = some (.tup ys) → H' b = some (.tup ys)) : KT H' kvs xs :=
  Paired.mapP r fun _ _ z => ⟨z.1, ht _ _ z.2.1, z.2.2⟩
section
variable {P : Program} {w : World} {H : Hp} {h : Heap} {a : Addr}
theorem rd_of {u : HO} (ok : HOk P w H h) (e : Rd H a u) : ObjOk P w H h a u := e.ok ok
theorem dk_rd {kvs : List (Key × V)} (ok : HOk P w H h) (e : Rd H a (.dK kvs)) : kvs.length ≤ sizeLine ∧ (a == sysModules) = false ∧ ∃ vs, KV kvs vs ∧ h.DictOf (mixKind P w) a vs :=
  show ObjOk P w H h a (.dK kvs) from rd_of ok e
theorem dk_of {kvs : List (Key × V)} (ok : HOk P w H h) (e : H a = some (.dK kvs)) : kvs.length ≤ sizeLine ∧ (a == sysModules) = false ∧ ∃ vs, KV kvs vs ∧ h.DictOf (mixKind P w) a vs := dk_rd ok (.inl e)
theorem key_of {ks : List Key} (ok : HOk P w H h) (e : H a = some (.tup (ks.map kV))) : (tupleKind (mixKind P w)).is h ks a := by
  obtain ⟨_, its, r, o, h1, h2, n, h3⟩ := (show ObjOk P w H h a (.tup (ks.map kV)) from ok a _ e)
  exact ⟨o, its.toArray, n, h1, h2, h3, by simpa using items_are r⟩
theorem dt_rd {kvs : List (List Key × V)} (ok : HOk P w H h) (e : Rd H a (.dT kvs)) : kvs.length ≤ sizeLine ∧ (a == sysModules) = false ∧
    ∃ xs, KT H kvs xs ∧ h.DictOfH (tupleKind (mixKind P w)) a xs := by
  obtain ⟨z, y, xs, r, o, es, ep, h1, h2, h3, h4, h5⟩ := (show ObjOk P w H h a (.dT kvs) from rd_of ok e)
  refine ⟨z, y, xs, r, o, es, ep, h1, h2, h3, h4, fun x hx => ?_, h5⟩
  have all : ∀ {l : List (List Key × V)} {m : List (List Key × Addr × Value)}, KT H l m → ∀ x ∈ m, (tupleKind (mixKind P w)).is h x.1 x.2.1 := by
    intro l m q
    induction q with
    | nil => intro x hx; exact nomatch hx
    | @cons p q ps qs hq t ih =>
      intro x hx
      rcases List.mem_cons.mp hx with e | hx
      · subst e
        exact key_of ok (by rw [← hq.1]; exact hq.2.1)
      · exact ih x hx
  exact all r x hx
theorem dt_of {kvs : List (List Key × V)} (ok : HOk P w H h) (e : H a = some (.dT kvs)) : kvs.length ≤ sizeLine ∧ (a == sysModules) = false ∧
    ∃ xs, KT H kvs xs ∧ h.DictOfH (tupleKind (mixKind P w)) a xs := dt_rd ok (.inl e)
end
def DGet (H : Hp) (a : Addr) (y : V) (r : Option V) : Prop :=
  (∃ kvs k, Rd H a (.dK kvs) ∧ y = kV k ∧ r = valV kvs k) ∨ ∃ kvs k b, Rd H a (.dT kvs) ∧ y = .ref b ∧ H b = some (.tup (k.map kV)) ∧ r = valV kvs k
def DPut (H : Hp) (a : Addr) (y v : V) (H' : Hp) : Prop :=
  (∃ kvs k, H a = some (.dK kvs) ∧ y = kV k ∧ kvs.length < sizeLine ∧ H' = upd H a (.dK (putK kvs k v))) ∨
  ∃ kvs k b, H a = some (.dT kvs) ∧ y = .ref b ∧ H b = some (.tup (k.map kV)) ∧ kvs.length < sizeLine ∧ H' = upd H a (.dT (putK kvs k v))
theorem DGet.k {H : Hp} {a : Addr} {kvs : List (Key × V)} {k : Key} (e : H a = some (.dK kvs)) : DGet H a (kV k) (valV kvs k) := .inl ⟨kvs, k, .inl e, rfl, rfl⟩
theorem DGet.t {H : Hp} {a b : Addr} {kvs : List (List Key × V)} {k : List Key} (e : H a = some (.dT kvs)) (eb : H b = some (.tup (k.map kV))) : DGet H a (.ref b) (valV kvs k) := .inr ⟨kvs, k, b, .inl e, rfl, eb, rfl⟩
theorem DPut.k {H : Hp} {a : Addr} {kvs : List (Key × V)} {k : Key} {v : V} (e : H a = some (.dK kvs)) (hl : kvs.length < sizeLine) : DPut H a (kV k) v (upd H a (.dK (putK kvs k v))) := .inl ⟨kvs, k, e, rfl, hl, rfl⟩
theorem DPut.t {H : Hp} {a b : Addr} {kvs : List (List Key × V)} {k : List Key} {v : V} (e : H a = some (.dT kvs)) (eb : H b = some (.tup (k.map kV))) (hl : kvs.length < sizeLine) :
    DPut H a (.ref b) v (upd H a (.dT (putK kvs k v))) := .inr ⟨kvs, k, b, e, rfl, eb, hl, rfl⟩
section
variable {X : Cx} {pins : List (Addr × Obj)} {σ : St} {H : Hp} {s : Shared} {a : Addr} {y v : V} {u r : Value} {o : Option V} {A : Around} {E : Value → Shared → Prop}
theorem Inv.big (I : Inv X pins σ H s) : sysModules < s.heap.objs.size := by
  have h : mainGlobals < s.heap.objs.size := (I.mod.glob.keeps I.bk).lt
  exact Nat.lt_trans (by decide) h
theorem d_getItem {Q : Value → Shared → Prop} (hu : A.units + 1 < cLine) (I : Inv X pins σ H s) (g : DGet H a y (some v)) (ry : RelV y u) (h : ∀ w' s', Inv X pins σ H s' → RelV v w' → Q w' s') :
    wpAny (model X.prog X.w) A (getItem (.ref a) u) Q E s := by
  rcases g with ⟨kvs, k, e, ey, l⟩ | ⟨kvs, k, b, e, ey, eb, l⟩
  · subst ey
    obtain ⟨z, hd, vs, rel, dd⟩ := dk_rd I.hok e
    obtain ⟨w', hw, rw'⟩ := RelO.some_of (v := v) (o := valueAt vs k) (by rw [l]; exact rel.val k)
    exact wpAny_getItem_of (kV_is ry) dd.mapOf hw (h w' _ (I.tok _) rw')
  · subst ey
    cases (show u = Value.ref b from ry)
    obtain ⟨z, hd, xs, rel, dd⟩ := dt_rd I.hok e
    obtain ⟨w', hw, rw'⟩ := RelO.some_of (v := v) (o := (atKey xs k).map (·.2)) (by rw [l]; exact rel.val k)
    obtain ⟨p, hp, hp2⟩ := Option.map_eq_some_iff.mp hw
    refine wpAny_getItem_heap (tupleKind_room_in1 hu) (key_of I.hok eb) dd hp ?_
    rw [hp2]
    exact h w' _ (I.tok _) rw'
theorem d_notIn {Q : Value → Shared → Prop} (hu : A.units + 1 < cLine) (I : Inv X pins σ H s) (g : DGet H a y o) (ry : RelV y u) (h : ∀ s', Inv X pins σ H s' → Q (.bool (!o.isSome)) s') :
    wpAny (model X.prog X.w) A (compareOp .NotIn u (.ref a)) Q E s := by
  rcases g with ⟨kvs, k, e, ey, l⟩ | ⟨kvs, k, b, e, ey, eb, l⟩
  · subst ey
    obtain ⟨z, hd, vs, rel, dd⟩ := dk_rd I.hok e
    refine wpAny_notIn_of (kV_is ry) hd dd.mapOf ?_
    rw [← (rel.val k).isSome_eq, ← l]
    exact h _ (I.tok _)
  · subst ey
    cases (show u = Value.ref b from ry)
    obtain ⟨z, hd, xs, rel, dd⟩ := dt_rd I.hok e
    refine wpAny_notIn_heap (tupleKind_room_in1 hu) (key_of I.hok eb) hd dd ?_
    have q := (rel.val k).isSome_eq
    rw [Option.isSome_map] at q
    rw [← q, ← l]
    exact h _ (I.tok _)
theorem d_write {h' : Heap} {t' : Nat} {ob : HO} (I : Inv X pins σ H s) (mu : Mut (H a)) (hs : Heap.SameBut a s.heap h') (he : ∃ q, h'.get? a = some q) (new : ObjOk X.prog X.w (upd H a ob) h' a ob) :
    Inv X pins σ (upd H a ob) { s with heap := h', toks := t' } :=
  I.write (x := a) (e := a) mu (.inl rfl) (fun b q hb z => (hs.2 b hb).trans z) he new
theorem dk_new {P : Program} {w : World} {H' : Hp} {h' : Heap} {kvs : List (Key × V)} {vs : List (Key × Value)} (z : kvs.length ≤ sizeLine) (hd : (a == sysModules) = false) (rel : KV kvs vs) (dd : h'.DictOf (mixKind P w) a vs) :
    ObjOk P w H' h' a (.dK kvs) := ⟨z, hd, vs, rel, dd⟩
theorem d_setItem {H' : Hp} {Q : Unit → Shared → Prop} (hu : A.units + 1 < cLine) (I : Inv X pins σ H s) (g : DPut H a y v H') (ry : RelV y u) (rv : RelV v r) (h : ∀ s', Inv X pins σ H' s' → Q () s') :
    wpAny (model X.prog X.w) A (setItem (.ref a) u r) Q E s := by
  rcases g with ⟨kvs, k, e, ey, l, eH⟩ | ⟨kvs, k, b, e, ey, eb, l, eH⟩
  · subst ey eH
    obtain ⟨z, hd, vs, rel, dd⟩ := dk_of I.hok e
    have hz : vs.length ≤ sizeLine := by rw [← rel.length]; exact z
    have hl : (putK kvs k v).length ≤ sizeLine := by have := length_putK kvs k v; omega
    refine wpAny_setItem_pairs (hsz := hz) (kV_is ry) dd fun h' dd' hs => h _ ?_
    have he : ∃ q, h'.get? a = some q := let ⟨q, _, _, hq, _⟩ := dd'; ⟨q, hq⟩
    exact d_write I (by rw [e]; exact True.intro) hs he (dk_new hl hd (rel.put k rv) dd')
  · subst ey eH
    cases (show u = Value.ref b from ry)
    obtain ⟨z, hd, xs, rel, dd⟩ := dt_of I.hok e
    have hz : xs.length ≤ sizeLine := by rw [← Paired.length rel]; exact z
    have hl : (putK kvs k v).length ≤ sizeLine := by have := length_putK kvs k v; omega
    refine wpAny_setItem_heap (hsz := hz) (tupleKind_room_in1 hu) (key_of I.hok eb) dd fun h' dd' hs => h _ ?_
    obtain ⟨q, es, ep, hq, h2, h3, h4, _, h5⟩ := dd'
    refine d_write I (by rw [e]; exact True.intro) hs ⟨q, hq⟩ ⟨hl, hd, _, (rel.put k eb rv).keeps fun c ys ec => ?_, q, es, ep, hq, h2, h3, h4, h5⟩
    rw [upd_ne (ne_of ec e (fun z => nomatch z))]
    exact ec
end
def NoSl (i : Expr) : Prop := ∀ ov iv, subscripted i false ov iv = operate [ov, iv] (getItem ov iv)
theorem subD_of {prog : Program} {w : World} {A : Around} {E : Value → Shared → Prop} {s : Shared} {env : Env} {value slice : Expr} {pos : Pos} {T id : String} {Q : Value → Shared → Prop}
    (hl : typeLookup (.type T) "__getitem__" = pure (some (.builtin id))) (hs : NoSl slice)
    (h : wpAny (model prog w) A (eval value env) (fun o s₁ => wpAny (model prog w) A (eval slice env) (fun i s₂ => s₂.TypeIs o T ∧ wpAny (model prog w) A (getItem o i) Q E s₂) E s₁) E s) :
    wpAny (model prog w) A (eval (.Subscript value slice pos) env) Q E s := by
  refine Subscript_ (wpAny_mono h (fun o s₁ h₁ => wpAny_mono h₁ (fun i s₂ h₂ => ?_) fun _ _ x => x) fun _ _ x => x)
  obtain ⟨hT, h₂⟩ := h₂
  unfold subscriptTail
  refine wpAny_bind ?_
  rw [getitemInPython_of_ne hT.not_modules]
  refine wpAny_bind (wpAny_specialOf hT hl ?_)
  have fin : wpAny (model prog w) A (subscripted slice false o i) (fun r s₃ => wpAny (model prog w) A (letTemporaryGo value o r >>= fun _ => pure r) Q E s₃) E s₂ := by
    rw [hs o i]
    exact wpAny_operating (wpAny_mono h₂ (fun r s₃ h₃ => wpAny_bind (wpAny_letTemporaryGo (wpAny_pure h₃))) fun _ _ x => x)
  first
    | exact wpAny_pure (wpAny_bind fin)
    | exact wpAny_bind (wpAny_pure (wpAny_bind fin))
    | exact wpAny_bind fin
theorem dict_typeIs {X : Cx} {pins : List (Addr × Obj)} {σ : St} {H : Hp} {s : Shared} {a : Addr} {y : V} {o : Option V} (I : Inv X pins σ H s) (g : DGet H a y o) : s.TypeIs (.ref a) "dict" := by
  rcases g with ⟨kvs, k, e, _, _⟩ | ⟨kvs, k, b, e, _, _, _⟩
  · obtain ⟨_, _, vs, _, dd⟩ := dk_rd I.hok e
    exact dd.typeIs
  · obtain ⟨_, _, xs, _, dd⟩ := dt_rd I.hok e
    exact dd.typeIs
def tDGet (td ty : TE) : TE := fun σ H Q => td σ H fun x H1 => ty σ H1 fun y H2 => ∃ a v, x = .ref a ∧ DGet H2 a y (some v) ∧ Q v H2
def tDNotIn (ty td : TE) : TE := fun σ H Q => ty σ H fun y H1 => td σ H1 fun x H2 => ∃ a o, x = .ref a ∧ DGet H2 a y o ∧ Q (.bl (!o.isSome)) H2
def sDPut (td ty tv : TE) : TS := fun D σ H => tv σ H fun v H1 => td σ H1 fun x H2 => ty σ H2 fun y H3 => ∃ a H4, x = .ref a ∧ DPut H3 a y v H4 ∧ D.nx σ H4
section
variable {X : Cx} {o i e value : Expr} {pos pos' tpos : Pos} {td ty tv : TE}
theorem pe_dget (hu : X.A.units + 1 < cLine) (ho : PE X o td) (hi : PE X i ty) (hs : NoSl i) : PE X (.Subscript o i pos) (tDGet td ty) := by
  intro pins s σ H Q I h
  refine subD_of PySem.F.slot_dict_getitem.lookup hs (thn (ho pins s σ H _ I h) fun u s1 ⟨x, H1, I1, rx, q1⟩ => thn (hi pins s1 σ H1 _ I1 q1) fun iv s2 ⟨y, H2, I2, ry, a, v, ex, g, q2⟩ => ?_)
  subst ex
  obtain rfl : u = Value.ref a := rx
  exact ⟨dict_typeIs I2 g, d_getItem hu I2 g ry fun w' s3 I3 rw' => ⟨v, H2, I3, rw', q2⟩⟩
theorem pc_dnotin (hu : X.A.units + 1 < cLine) (hi : PE X i ty) (ho : PE X o td) : PC X .NotIn i o (tDNotIn ty td) := by
  intro pins s σ H Q I h
  refine thn (hi pins s σ H _ I h) fun iv s1 ⟨y, H1, I1, ry, q1⟩ => thn (ho pins s1 σ H1 _ I1 q1) fun u s2 ⟨x, H2, I2, rx, a, ov, ex, g, q2⟩ => ?_
  subst ex
  obtain rfl : u = Value.ref a := rx
  exact d_notIn hu I2 g ry fun s3 I3 => ⟨.bl (!ov.isSome), H2, I3, rfl, q2⟩
theorem ps_dput (hu : X.A.units + 1 < cLine) (ho : PE X o td) (hi : PE X i ty) (hv : PE X value tv) (hs : swapsWith value (some (.Subscript o i pos')) pos.line X.env = pure false) :
    PS X (.Assign [.Subscript o i pos'] value pos) (sDPut td ty tv) := by
  intro pins s σ H D I h
  refine wpAny_Assign_Subscript (thn (hv pins s σ H _ I h) fun r s1 ⟨v, H1, I1, rv, q1⟩ => thn (ho pins s1 σ H1 _ I1 q1) fun u s2 ⟨x, H2, I2, rx, q2⟩ => thn (hi pins s2 σ H2 _ I2 q2) fun iv s3 ⟨y, H3, I3, ry, a, H4, ex, g, q3⟩ => ?_) hs
  subst ex
  obtain rfl : u = Value.ref a := rx
  exact d_setItem hu I3 g ry rv fun s4 I4 => ⟨σ, H4, I4, q3⟩
end
theorem dk_empty {P : Program} {w : World} {H : Hp} (h : Heap) (hb : sysModules < h.objs.size) : ObjOk P w H (h.push { cls := .type "dict", data := .dict #[] }) h.objs.size (.dK []) :=
  ⟨Nat.zero_le _, beq_eq_false_iff_ne.mpr (Ne.symm (Nat.ne_of_lt hb)), [], .nil, Heap.DictOf.new h⟩
theorem dt_empty {P : Program} {w : World} {H : Hp} (h : Heap) (hb : sysModules < h.objs.size) : ObjOk P w H (h.push { cls := .type "dict", data := .dict #[] }) h.objs.size (.dT []) :=
  ⟨Nat.zero_le _, beq_eq_false_iff_ne.mpr (Ne.symm (Nat.ne_of_lt hb)), [], .nil, _, #[], 0, Heap.get?_push_size _ rfl, ⟨rfl, rfl, rfl⟩, rfl, rfl, List.nodup_nil⟩
def tDNewT : TE := fun _ H Q => ∀ p, H p = none → Q (.ref p) (upd H p (.dT []))
section
variable {X : Cx} {pos : Pos}
theorem pe_dnewT : PE X (.Dict [] [] pos) tDNewT := fun pins s σ H Q I h =>
  wpAny_Dict_empty ⟨.ref s.heap.objs.size, _, I.laid (a := s.heap.objs.size) (o := .dT []) (t' := s.toks) (fun _ _ q => Heap.get?_push_of_some _ q) (Nat.le_refl _) (dt_empty s.heap I.big), rfl, h _ (I.hok.fresh (Nat.le_refl _))⟩
end
def tPairs : List (TE × TE) → St → Hp → (List (V × V) → Hp → Prop) → Prop
  | [], _, H, Q => Q [] H
  | (tk, tv) :: r, σ, H, Q => tk σ H fun x H1 => tv σ H1 fun y H2 => tPairs r σ H2 fun ps H3 => Q ((x, y) :: ps) H3
abbrev VV : List (V × V) → List (Value × Value) → Prop := Paired fun p q => RelV p.1 q.1 ∧ RelV p.2 q.2
def PPs (X : Cx) (pos : Pos) (keys : List (Option Expr)) (values : List Expr) (trs : List (TE × TE)) : Prop :=
  ∀ (pins : List (Addr × Obj)) (s : Shared) (σ : St) (H : Hp) (Q : List (V × V) → Hp → Prop), Inv X pins σ H s → tPairs trs σ H Q →
    wpAny (model X.prog X.w) X.A (evalPairs (pairTrees keys values X.env pos)) (fun vs s' => ∃ ps H', Inv X pins σ H' s' ∧ VV ps vs ∧ Q ps H') X.xe s
theorem pps_nil {X : Cx} {pos : Pos} : PPs X pos [] [] [] := fun pins s σ H Q I h => pairTrees_nil_walk ⟨[], H, I, .nil, h⟩
theorem pps_cons {X : Cx} {pos : Pos} {k v : Expr} {ks : List (Option Expr)} {vs : List Expr} {tk tv : TE} {trs : List (TE × TE)} (hk : PE X k tk) (hv : PE X v tv) (hr : PPs X pos ks vs trs) :
    PPs X pos (some k :: ks) (v :: vs) ((tk, tv) :: trs) := fun pins s σ H Q I h =>
  pairTrees_cons_walk (thn (hk pins s σ H _ I h) fun u s1 ⟨x, H1, I1, rx, q1⟩ => thn (hv pins s1 σ H1 _ I1 q1) fun w2 s2 ⟨y, H2, I2, ry, q2⟩ =>
    thn (hr pins s2 σ H2 _ I2 q2) fun ws s3 ⟨ps, H3, I3, rel, q3⟩ => ⟨(x, y) :: ps, H3, I3, .cons ⟨rx, ry⟩ rel, q3⟩)
def mergeK (kvs more : List (Key × V)) : List (Key × V) := more.foldl (fun acc kv => putK acc kv.1 kv.2) kvs
theorem KV.merge : ∀ {more : List (Key × V)} {rs : List (Key × Value)} {kvs : List (Key × V)} {vs : List (Key × Value)}, KV more rs → KV kvs vs → KV (mergeK kvs more) (merged vs rs) := by
  intro more rs kvs vs r
  unfold KV at r
  induction r generalizing kvs vs with
  | nil => intro q; exact q
  | @cons p q ps qs h t ih =>
    intro r0
    have e : KV (putK kvs p.1 p.2) (stored vs q.1 q.2) := by
      have := r0.put p.1 h.2
      rw [← h.1]; exact this
    exact ih e
theorem length_mergeK : ∀ (more kvs : List (Key × V)), (mergeK kvs more).length ≤ kvs.length + more.length
  | [], kvs => by show kvs.length ≤ kvs.length + 0; omega
  | p :: r, kvs => by
    have h1 := length_mergeK r (putK kvs p.1 p.2)
    have h2 := length_putK kvs p.1 p.2
    show (mergeK (putK kvs p.1 p.2) r).length ≤ _
    rw [List.length_cons]; omega
theorem carries_of {P : Program} {w : World} : ∀ {kvs : List (Key × V)} {ws : List (Value × Value)}, VV (kvs.map fun kv => (kV kv.1, kv.2)) ws → ∃ rs, Carries (mixKind P w) ws rs ∧ KV kvs rs
  | [], _, r => by rw [List.map_nil] at r; cases r; exact ⟨[], True.intro, .nil⟩
  | p :: kvs, _, r => by
    rw [List.map_cons] at r
    cases r with
    | @cons a b as bs h t =>
      obtain ⟨rs, c, q⟩ := carries_of (P := P) (w := w) t
      obtain ⟨b1, b2⟩ := b
      exact ⟨(p.1, b2) :: rs, ⟨kV_is h.1, rfl, c⟩, .cons ⟨rfl, h.2⟩ q⟩
def tDisp (trs : List (TE × TE)) : TE := fun σ H Q => ∀ p, H p = none → tPairs trs σ (upd H p (.dK [])) fun ps H2 => H2 p = some (.dK []) ∧ ∃ kvs : List (Key × V), ps = kvs.map (fun kv => (kV kv.1, kv.2)) ∧ kvs.length ≤ 15 ∧ Q (.ref p) (upd H2 p (.dK (mergeK [] kvs)))
theorem pe_disp {X : Cx} {pos : Pos} {keys : List (Option Expr)} {values : List Expr} {trs : List (TE × TE)} (h : PPs X pos keys values trs) (hall : keys.all (·.isSome) = true) (hl : keys.length = values.length) (h0 : keys ≠ [])
    (h15 : keys.length ≤ 15) : PE X (.Dict keys values pos) (tDisp trs) := by
  intro pins s σ H Q I q
  have hn := I.hok.fresh (Nat.le_refl s.heap.objs.size)
  have I1 := I.laid (a := s.heap.objs.size) (o := .dK []) (h' := s.heap.push { cls := .type "dict", data := .dict #[] }) (t' := s.toks) (fun _ _ q => Heap.get?_push_of_some _ q) (Nat.le_refl _) (dk_empty s.heap I.big)
  refine wpAny_Dict_walk (knd := mixKind X.prog X.w) hall hl h0 h15 (thn (h pins _ σ _ _ I1 (q _ hn)) fun ws s2 ⟨ps, H2, I2, rel, e, kvs, ep, lk, q2⟩ => ?_)
  subst ep
  obtain ⟨rs, c, rk⟩ := carries_of (P := X.prog) (w := X.w) rel
  obtain ⟨z, hd, vs0, r0, dd⟩ := dk_of I2.hok e
  cases r0
  refine ⟨rs, c, dd, fun h' dd' hs => ⟨.ref s.heap.objs.size, _, ?_, rfl, q2⟩⟩
  have hz : (mergeK [] kvs).length ≤ sizeLine := by
    have h1 := length_mergeK kvs []
    rw [List.length_nil] at h1
    rw [sizeLine_eq]; omega
  have he : ∃ q, h'.get? s.heap.objs.size = some q := let ⟨q, _, _, hq, _⟩ := dd'; ⟨q, hq⟩
  exact d_write I2 (by rw [e]; exact True.intro) hs he (dk_new hz hd (rk.merge .nil) dd')
structure M2 (X : Cx) (o : Expr) (m : Str) (apos : Pos) (e f : Expr) (cpos : Pos) : Prop where
  base : attributeBase o m X.env (eval o X.env) = eval o X.env
  few : ((backTo cpos (starEach [e, f] X.env)).all (fun x => !x.1) && (backToKw cpos (keywordEach [] X.env)).all (fun x => x.1.isSome)
    && decide (([e, f] : List Expr).length + ([] : List Keyword).length + (if ([] : List Keyword).isEmpty then 0 else 1) < 30)) = true
  line : (apos.endLine == cpos.line) = true
  trees : backTo cpos (starEach [e, f] X.env) = [(false, eval e X.env), (false, eval f X.env)]
def IsD (H : Hp) (a : Addr) : Prop := (∃ kvs, Rd H a (.dK kvs)) ∨ ∃ kvs, Rd H a (.dT kvs)
theorem isD_at {X : Cx} {pins : List (Addr × Obj)} {σ : St} {H : Hp} {s : Shared} {a : Addr} (I : Inv X pins σ H s) (d : IsD H a) :
    s.TypeIs (.ref a) "dict" ∧ (∀ b, Value.ref a = .ref b → ∃ ob, s.heap.get? b = some ob ∧ ob.dict = none) ∧ (a == sysModules) = false := by
  rcases d with ⟨kvs, e⟩ | ⟨kvs, e⟩
  · obtain ⟨_, hd, vs, _, dd⟩ := dk_rd I.hok e
    refine ⟨dd.typeIs, fun b q => ?_, hd⟩
    cases q
    obtain ⟨ob, _, _, h1, h2, _⟩ := dd
    exact ⟨ob, h1, h2.2.1⟩
  · obtain ⟨_, hd, xs, _, dd⟩ := dt_rd I.hok e
    refine ⟨dd.typeIs, fun b q => ?_, hd⟩
    cases q
    obtain ⟨ob, _, _, h1, h2, _⟩ := dd
    exact ⟨ob, h1, h2.2.1⟩
section
variable {X : Cx} {pins : List (Addr × Obj)} {σ : St} {H : Hp} {s : Shared} {a : Addr} {y d : V} {u r : Value} {o : Option V} {A : Around} {E : Value → Shared → Prop}
theorem d_get2 {Q : Value → Shared → Prop} (hu : A.units + 1 < cLine) (I : Inv X pins σ H s) (g : DGet H a y o) (ry : RelV y u) (rd : RelV d r) (h : ∀ w' s', Inv X pins σ H s' → RelV (o.getD d) w' → Q w' s') :
    wpAny (model X.prog X.w) A (call (.builtin "dict.get") [.ref a, u, r]) Q E s := by
  rcases g with ⟨kvs, k, e, ey, l⟩ | ⟨kvs, k, b, e, ey, eb, l⟩
  · subst ey
    obtain ⟨z, hd, vs, rel, dd⟩ := dk_rd I.hok e
    refine call_meetsIn PySem.F.slot_dict_get dd.typeIs PySem.F.entry_dict_get (PySem.F.args_dict_get_3 _ _ _) (meets_dict_get_default (mixKind X.prog X.w) a (kV_is ry) hd r) ⟨_, dd.mapOf, h _ _ (I.tok _) ?_⟩
    rw [l]
    exact (rel.val k).getD rd
  · subst ey
    cases (show u = Value.ref b from ry)
    obtain ⟨z, hd, xs, rel, dd⟩ := dt_rd I.hok e
    refine call_meetsIn PySem.F.slot_dict_get dd.typeIs PySem.F.entry_dict_get (PySem.F.args_dict_get_3 _ _ _) (meetsH_dict_get_default (tupleKind (mixKind X.prog X.w)) a b hd r) ⟨tupleKind_room_in1 hu, k, xs, key_of I.hok eb, dd, h _ _ (I.tok _) ?_⟩
    rw [l]
    exact (rel.val k).getD rd
end
def tDGet2 (td ty tx : TE) : TE := fun σ H Q => td σ H fun x H1 => ∃ a, x = .ref a ∧ IsD H1 a ∧ ty σ H1 fun y H2 => tx σ H2 fun z H3 => ∃ o, DGet H3 a y o ∧ Q (o.getD z) H3
section
variable {X : Cx} {o e f : Expr} {apos cpos : Pos} {td ty tx : TE}
theorem pe_dget2 (hu : X.A.units + 1 < cLine) (ho : PE X o td) (he : PE X e ty) (hf : PE X f tx) (m : M2 X o "get" apos e f cpos) : PE X (.Call (.Attribute o "get" apos) [e, f] [] cpos) (tDGet2 td ty tx) := by
  intro pins s σ H Q I h
  refine wpAny_Call_method m.base m.few m.line PySem.F.plainAttrs_dict PySem.F.slot_dict_get PySem.F.type_dict_get (thn (ho pins s σ H _ I h) fun u s1 ⟨x, H1, I1, rx, a, ex, d, q1⟩ => ?_)
  subst ex
  obtain rfl : u = Value.ref a := rx
  obtain ⟨t1, t2, _⟩ := isD_at I1 d
  refine ⟨t1, t2, ?_⟩
  rw [m.trees]
  refine Calls.callWith_builtin rfl (Calls.evalArgs_plain (Calls.spliced_cons (thn (he pins s1 σ H1 _ I1 q1) fun iv s2 ⟨y, H2, I2, ry, q2⟩ =>
    Calls.spliced_cons (thn (hf pins s2 σ H2 _ I2 q2) fun fv s3 ⟨z, H3, I3, rz, ov, g, q3⟩ => Calls.spliced_nil ?_))))
  exact d_get2 hu I3 g ry rz fun w' s4 I4 rw' => ⟨_, H3, I4, rw', q3⟩
end
end L2
namespace L2
open PySem PySem.Spec PyProof.Rows
section
variable {X : Cx} {pins : List (Addr × Obj)} {σ : St} {H : Hp} {s : Shared} {h' : Heap}
theorem Inv.turnedL {t' : Nat} {ch : List Addr} (I : Inv X pins σ H s) (k : ∀ b o, b ∉ ch → s.heap.get? b = some o → h'.get? b = some o) (hf : ∀ b ∈ ch, FpOk X pins H b) : Inv X pins σ H { s with heap := h', toks := t' } := by
  have nit : ∀ b u, H b = some u → b ∉ ch := fun b u e z => by
    have q := (hf b z).1
    rw [q] at e; cases e
  refine I.step (g' := s.gens) (d' := s.drawn) (ch := ch) (fun b hb => ⟨(hf b hb).2.2.2.1, (hf b hb).2.1, (hf b hb).2.2.2.2.1, (hf b hb).2.2.2.2.2⟩) (fun b o _ _ hc e _ => k b o hc e) (fun b o _ _ hc e _ => ⟨o.slots, k b o hc e⟩)
    (fun _ _ _ _ n => n) (fun b o hc e => ⟨o, k b o hc e⟩) (fun _ _ e => e) (fun _ _ _ e => e) (fun b ps e => ⟨#[], by rw [e]; simp⟩) (fun m hm => ?_) (fun b u e => ?_) I.bare
  · obtain ⟨o, es, ep, ho, r⟩ := hm
    exact ⟨o, es, ep, k _ o (fun z => (hf _ z).2.1 rfl) ho, r⟩
  · refine (I.hok b u e).stay (fun c v hc q => k c v ?_ q) (fun _ q => q) fun _ _ q => q
    rcases hc with z | z
    · rw [z]; exact nit b u e
    · exact nit c _ z
theorem Inv.turnedNew {t' : Nat} {ch : List Addr} {T : Addr} {ob : HO} (I : Inv X pins σ H s) (k : ∀ b o, b ∉ ch → s.heap.get? b = some o → h'.get? b = some o) (hf : ∀ b ∈ ch, FpOk X pins H b) (hT : s.heap.objs.size ≤ T)
    (new : ObjOk X.prog X.w (upd H T ob) h' T ob) : Inv X pins σ (upd H T ob) { s with heap := h', toks := t' } := by
  have hn : H T = none := I.hok.fresh hT
  have nit : ∀ b u, H b = some u → b ∉ ch := fun b u e z => by
    have q := (hf b z).1
    rw [q] at e; cases e
  refine I.step (g' := s.gens) (d' := s.drawn) (ch := ch) (fun b hb => ⟨(hf b hb).2.2.2.1, (hf b hb).2.1, (hf b hb).2.2.2.2.1, (hf b hb).2.2.2.2.2⟩) (fun b o _ _ hc e _ => k b o hc e) (fun b o _ _ hc e _ => ⟨o.slots, k b o hc e⟩)
    (fun b o _ e n => ?_) (fun b o hc e => ⟨o, k b o hc e⟩) (fun b xs e => ?_) (fun b o u e => ?_) (fun b ps e => ⟨#[], ?_⟩) (fun m hm => ?_) (fun b u e => ?_) I.bare
  · rw [upd_ne (Nat.ne_of_lt (Nat.lt_of_lt_of_le (Heap.lt_size e) hT))]; exact n
  · rw [upd_ne (ne_of_none e hn)]; exact e
  · rw [upd_ne (ne_of_none e hn)]; exact e
  · rw [upd_ne (ne_of_none e hn), e]; simp
  · obtain ⟨o, es, ep, ho, r⟩ := hm
    exact ⟨o, es, ep, k _ o (fun z => (hf _ z).2.1 rfl) ho, r⟩
  · by_cases hb : b = T
    · subst hb
      rw [upd_same] at e
      cases e
      exact new
    · rw [upd_ne hb] at e
      refine (I.hok b u e).stay (fun c v hc q => k c v ?_ q) (fun c q => by rw [upd_ne (ne_of_none q hn)]; exact q) fun c xs q => by rw [upd_ne (ne_of_none q hn)]; exact q
      rcases hc with z | z
      · rw [z]; exact nit b u e
      · exact nit c _ z
end
def Ite (K : PySem.W.Frag) (a : Addr) : It :=
  ⟨fun i H => ∃ (xs : List V) (x : V), SqL K H a xs ∧ xs[i]? = some x, fun i H v H' => ∃ T x, v = .ref T ∧ H T = none ∧ H' = upd H T (.tup [.int (i : Nat), x]) ∧ ∀ xs, SqL K H a xs → xs[i]? = some x, fun i H => ∃ xs : List V, SqL K H a xs ∧ xs.length ≤ i⟩
theorem turn_enum {P : Program} {w : World} {K : PySem.W.Frag} {elts : List Expr} {kk : Nat} {tpos : Pos} (a e it : Addr) :
    Turn P w K (.Tuple elts kk tpos) (Ite K a) [e, it] e (fun i h => (∃ old, IsEnum h e it ((i : Nat) : Int) old) ∧ h.IsListIter it a i ∧ e ≠ it) where
  mem := by simp
  obj := fun i h st b hb => by
    obtain ⟨⟨old, he⟩, ⟨o, ho, hc, hd⟩, _⟩ := st
    have e' : b = e ∨ b = it := by simpa using hb
    rcases e' with z | z
    · rw [z]; exact ⟨_, he, fun v q => nomatch q⟩
    · rw [z]; exact ⟨o, ho, fun v q => by rw [hd] at q; cases q⟩
  keep := fun i h h' st k => let ⟨⟨old, he⟩, hi, hne⟩ := st; ⟨⟨old, k e (by simp) _ he⟩, hi.at fun o q => k it (by simp) o q, hne⟩
  item := by
    intro X hP hw hK hc i pins s σ H E I hf st hg
    subst hP hw hK
    obtain ⟨⟨old, he⟩, hit, hne⟩ := st
    obtain ⟨xs, x, hq, hx⟩ := hg
    obtain ⟨its, rv, p, hz⟩ := I.list hq
    obtain ⟨u, hu, ru⟩ := rv.get hx
    have hel : e < s.heap.objs.size := Heap.lt_size he
    have hil : it < s.heap.objs.size := by obtain ⟨_, q, _⟩ := hit; exact Heap.lt_size q
    refine wpAny_pyNext_enum_item he hit p.isList (x := u) (by simpa using hu) hne fun h' ho hit' hT hsz hk => ?_
    refine ⟨_, rfl, wpAny_letOwnedTupleGo_enum (s := { s with heap := h', toks := s.toks + 1 }) ho fun h'' he' sb => ?_⟩
    have hT2 : h''.get? s.heap.objs.size = some { cls := .type "tuple", data := .seq #[.int i s.toks, u] } := (sb.2 _ (Nat.ne_of_gt hel)).trans hT
    have new : ObjOk X.prog X.w (upd H s.heap.objs.size (.tup [.int (i : Nat), x])) h'' s.heap.objs.size (.tup [.int (i : Nat), x]) :=
      ⟨by show 2 ≤ sizeLine; decide, [.int i s.toks, u], .cons ⟨_, rfl⟩ (.cons ru .nil), ⟨_, hT2, rfl, _, rfl⟩⟩
    have I1 : Inv X pins σ (upd H s.heap.objs.size (.tup [.int (i : Nat), x])) { s with heap := h'', toks := s.toks + 1 } :=
      I.turnedNew (ch := [e, it]) (fun b ob hb q => (sb.2 b (fun z => hb (by simp [z]))).trans (hk b ob (fun z => hb (by simp [z])) (fun z => hb (by simp [z])) q)) hf (Nat.le_refl _) new
    refine ⟨.ref s.heap.objs.size, _, I1, rfl, ⟨_, x, rfl, I.hok.fresh (Nat.le_refl _), rfl, fun ys hy => by rw [I.list_inj hy hq]; exact hx⟩, ⟨⟨u, ?_⟩, hit'.at fun o q => (sb.2 it (Ne.symm hne)).trans q, hne⟩, fun b hb => ?_⟩
    · have e1 : ((i + 1 : Nat) : Int) = (i : Int) + 1 := by omega
      rw [e1]; exact he'
    · have hb' : b < s.heap.objs.size := by
        have e' : b = e ∨ b = it := by simpa using hb
        rcases e' with z | z
        · rw [z]; exact hel
        · rw [z]; exact hil
      rw [upd_ne (Nat.ne_of_lt hb')]
      exact (hf b hb).1
  done := by
    intro X hP hw hK hc i pins s σ H E I hf st hg
    subst hP hw hK
    obtain ⟨⟨old, he⟩, hit, hne⟩ := st
    obtain ⟨xs, hq, hx⟩ := hg
    obtain ⟨its, rv, p, hz⟩ := I.list hq
    obtain ⟨f0, f1, f2, f3, f4, f5⟩ := hf it (by simp)
    have hl := rv.length
    exact wpAny_pyNext_enum_end (I.ok.hd hc) he hit p.isList (by simp; omega) fun h' eb => ⟨rfl, I.turned (t' := s.toks) (fun b o hb q => eb b o hb q) f0 f1 f3 f4 f5⟩
  self := fun A i s Q E st h => let ⟨⟨_, he⟩, _⟩ := st; wpAny_pyIter_enum he h
def iEnum (K : PySem.W.Frag) (ta : TA) : TI := fun σ H R => ta σ H fun vs H1 => ∃ a xs, vs = [.ref a] ∧ SqL K H1 a xs ∧ R (Ite K a) H1
theorem pi_enum {X : Cx} {e : Expr} {ta : TA} {p pos tpos : Pos} {elts : List Expr} {kk : Nat} (hg : Gl X "enumerate") (hm : X.mg "enumerate" = none) (ha : PA X [e] ta) (hs : starEach [e] X.env = [(false, eval e X.env)] := by rfl) :
    PI X (.Tuple elts kk tpos) (.Call (.Name "enumerate" p) [e] [] pos) (iEnum X.K ta) := by
  intro pins s σ H R I h
  refine Call_ (ld_blt I hg hm boot_enumerate (PyProof.Rows.callWith_type1 (thn (ha pos pins s σ H _ I h) fun us s1 ⟨vs, H1, I1, r1, q1⟩ => ?_) hs rfl))
  obtain ⟨a, xs, ex, hq, q⟩ := q1
  subst ex
  cases r1 with
  | cons r rr =>
    cases rr
    cases r
    obtain ⟨its, rv, p', hz⟩ := I1.list hq
    refine call_enumerate_list p'.isList fun h' he hit hsz hk => wpAny_pyIter_enum he ?_
    have I2 : Inv X pins σ H1 { s1 with heap := h' } := I1.kept (t' := s1.toks) hk
    refine ⟨s1.heap.objs.size + 1, [s1.heap.objs.size + 1, s1.heap.objs.size], _, _, H1, rfl, I2, turn_enum a (s1.heap.objs.size + 1) s1.heap.objs.size, ⟨⟨.none, he⟩, hit, Nat.succ_ne_self _⟩, fun b hb => ?_, q⟩
    have e' : b = s1.heap.objs.size + 1 ∨ b = s1.heap.objs.size := by simpa using hb
    have hle : s1.heap.objs.size ≤ b := by
      rcases e' with z | z
      · rw [z]; exact Nat.le_add_right _ _
      · rw [z]; exact Nat.le_refl _
    exact I1.fpOk hle (I1.hok.fresh hle)
theorem boot_zip5 : bootBuiltins "zip" = some (.type "zip") := by decide +kernel
def Itz (K : PySem.W.Frag) (a b : Addr) : It :=
  ⟨fun i H => ∃ (xs ys : List V) (x y : V), SqL K H a xs ∧ SqL K H b ys ∧ xs[i]? = some x ∧ ys[i]? = some y,
    fun i H v H' => ∃ T x y, v = .ref T ∧ H T = none ∧ H' = upd H T (.tup [x, y]) ∧ (∀ xs, SqL K H a xs → xs[i]? = some x) ∧ ∀ ys, SqL K H b ys → ys[i]? = some y,
    fun i H => ∃ xs ys : List V, SqL K H a xs ∧ SqL K H b ys ∧ (xs.length ≤ i ∨ ys.length ≤ i)⟩
theorem turn_zip {P : Program} {w : World} {K : PySem.W.Frag} {elts : List Expr} {kk : Nat} {tpos : Pos} {a b z TI TO i1 i2 : Addr} (D : ZipApart z TI TO i1 i2 a b) :
    Turn P w K (.Tuple elts kk tpos) (Itz K a b) [z, TI, TO, i1, i2] z (fun i h => IsZip h z TI TO .none ∧ IsPair h TI (.ref i1) (.ref i2) ∧ (∃ x y, IsPair h TO x y) ∧ h.IsListIter i1 a i ∧ h.IsListIter i2 b i) where
  mem := by simp
  obj := fun i h st c hc => by
    obtain ⟨hz, hTI, ⟨x, y, hTO⟩, ⟨o1, e1, _, d1⟩, ⟨o2, e2, _, d2⟩⟩ := st
    have e' : c = z ∨ c = TI ∨ c = TO ∨ c = i1 ∨ c = i2 := by simpa using hc
    rcases e' with q | q | q | q | q
    · rw [q]; exact ⟨_, hz, fun v q => nomatch q⟩
    · rw [q]; exact ⟨_, hTI, fun v q => nomatch q⟩
    · rw [q]; exact ⟨_, hTO, fun v q => nomatch q⟩
    · rw [q]; exact ⟨o1, e1, fun v q => by rw [d1] at q; cases q⟩
    · rw [q]; exact ⟨o2, e2, fun v q => by rw [d2] at q; cases q⟩
  keep := fun i h h' st k => by
    obtain ⟨hz, hTI, ⟨x, y, hTO⟩, h1, h2⟩ := st
    exact ⟨k z (by simp) _ hz, k TI (by simp) _ hTI, ⟨x, y, k TO (by simp) _ hTO⟩, h1.at fun o q => k i1 (by simp) o q, h2.at fun o q => k i2 (by simp) o q⟩
  item := by
    intro X hP hw hK hc i pins s σ H E I hf st hg
    subst hP hw hK
    obtain ⟨hz, hTI, ⟨x0, y0, hTO⟩, h1, h2⟩ := st
    obtain ⟨xs, ys, x, y, hqx, hqy, hx, hy⟩ := hg
    obtain ⟨its, rv, p, _⟩ := I.list hqx
    obtain ⟨its2, rv2, p2, _⟩ := I.list hqy
    obtain ⟨u, hu, ru⟩ := rv.get hx
    obtain ⟨u2, hu2, ru2⟩ := rv2.get hy
    have hzl : z < s.heap.objs.size := Heap.lt_size hz
    refine wpAny_pyNext_zip_item D hz hTI hTO h1 h2 p.isList p2.isList (x := u) (y := u2) (by simpa using hu) (by simpa using hu2) fun h' z' TO' h1' h2' hT hsz hk => ?_
    refine ⟨_, rfl, wpAny_letOwnedTupleGo_zip (s := { s with heap := h' }) z' fun h'' z'' sb => ?_⟩
    have hT2 : h''.get? s.heap.objs.size = some { cls := .type "tuple", data := .seq #[u, u2] } := (sb.2 _ (Nat.ne_of_gt hzl)).trans hT
    have new : ObjOk X.prog X.w (upd H s.heap.objs.size (.tup [x, y])) h'' s.heap.objs.size (.tup [x, y]) :=
      ⟨by show 2 ≤ sizeLine; decide, [u, u2], .cons ru (.cons ru2 .nil), ⟨_, hT2, rfl, _, rfl⟩⟩
    have I1 : Inv X pins σ (upd H s.heap.objs.size (.tup [x, y])) { s with heap := h'' } :=
      I.turnedNew (t' := s.toks) (ch := [z, TI, TO, i1, i2]) (fun c o hb q => (sb.2 c (fun q' => hb (by simp [q']))).trans (hk c o (fun q' => hb (by simp [q'])) (fun q' => hb (by simp [q'])) (fun q' => hb (by simp [q'])) (fun q' => hb (by simp [q'])) q)) hf (Nat.le_refl _) new
    refine ⟨.ref s.heap.objs.size, _, I1, rfl, ⟨_, x, y, rfl, I.hok.fresh (Nat.le_refl _), rfl, fun l hl => by rw [I.list_inj hl hqx]; exact hx, fun l hl => by rw [I.list_inj hl hqy]; exact hy⟩, ⟨z'', ?_, ⟨u, u2, ?_⟩, ?_, ?_⟩, fun c hcm => ?_⟩
    · exact (sb.2 _ D.TIz).trans (hk _ _ D.TIz D.TITO D.TIi1 D.TIi2 hTI)
    · exact (sb.2 _ D.TOz).trans TO'
    · exact h1'.at fun o q => (sb.2 _ D.i1z).trans q
    · exact h2'.at fun o q => (sb.2 _ D.i2z).trans q
    · have hlt : c < s.heap.objs.size := by
        have e' : c = z ∨ c = TI ∨ c = TO ∨ c = i1 ∨ c = i2 := by simpa using hcm
        rcases e' with q | q | q | q | q
        · rw [q]; exact hzl
        · rw [q]; exact Heap.lt_size hTI
        · rw [q]; exact Heap.lt_size hTO
        · rw [q]; obtain ⟨_, e1, _⟩ := h1; exact Heap.lt_size e1
        · rw [q]; obtain ⟨_, e2, _⟩ := h2; exact Heap.lt_size e2
      rw [upd_ne (Nat.ne_of_lt hlt)]
      exact (hf c hcm).1
  done := by
    intro X hP hw hK hc i pins s σ H E I hf st hg
    subst hP hw hK
    obtain ⟨hz, hTI, ⟨x0, y0, hTO⟩, h1, h2⟩ := st
    obtain ⟨xs, ys, hqx, hqy, hend⟩ := hg
    obtain ⟨its, rv, p, _⟩ := I.list hqx
    obtain ⟨its2, rv2, p2, _⟩ := I.list hqy
    have l1 := rv.length
    have l2 := rv2.length
    have he : its.toArray[i]? = none ∨ its2.toArray[i]? = none := by
      rcases hend with q | q
      · exact .inl (by simp; omega)
      · exact .inr (by simp; omega)
    exact wpAny_pyNext_zip_end (I.ok.hd hc) D hz hTI hTO h1 h2 p.isList p2.isList he fun h' hk => ⟨rfl, I.turnedL (t' := s.toks) (ch := [z, TI, TO, i1, i2]) (fun c o hb q =>
      hk c o (fun q' => hb (by simp [q'])) (fun q' => hb (by simp [q'])) (fun q' => hb (by simp [q'])) (fun q' => hb (by simp [q'])) q) hf⟩
  self := fun A i s Q E st h => wpAny_pyIter_zip st.1 h
def iZip (K : PySem.W.Frag) (ta : TA) : TI := fun σ H R => ta σ H fun vs H1 => ∃ a b xs ys, vs = [.ref a, .ref b] ∧ SqL K H1 a xs ∧ SqL K H1 b ys ∧ R (Itz K a b) H1
theorem pi_zip {X : Cx} {e e2 : Expr} {ta : TA} {p pos tpos : Pos} {elts : List Expr} {kk : Nat} (hg : Gl X "zip") (hm : X.mg "zip" = none) (ha : PA X [e, e2] ta)
    (hs : starEach [e, e2] X.env = (false, eval e X.env) :: starEach [e2] X.env := by rfl) (hpl : (backTo pos (starEach [e2] X.env)).any (·.1) = false := by rfl) :
    PI X (.Tuple elts kk tpos) (.Call (.Name "zip" p) [e, e2] [] pos) (iZip X.K ta) := by
  intro pins s σ H R I h
  refine Call_ (ld_blt I hg hm boot_zip5 (PyProof.Rows.callWith_type1 (thn (ha pos pins s σ H _ I h) fun us s1 ⟨vs, H1, I1, r1, q1⟩ => ?_) hs hpl))
  obtain ⟨a, b, xs, ys, ex, hqx, hqy, q⟩ := q1
  subst ex
  cases r1 with
  | cons r rr =>
    cases rr with
    | cons r' rr =>
      cases rr
      cases r
      cases r'
      obtain ⟨its, rv, p1, _⟩ := I1.list hqx
      obtain ⟨its2, rv2, p2, _⟩ := I1.list hqy
      have la : a < s1.heap.objs.size := p1.lt
      have lb : b < s1.heap.objs.size := p2.lt
      refine call_zip_2 p1.isList p2.isList fun h' hz hTI hTO h1 h2 hsz hk => wpAny_pyIter_zip hz ?_
      have I2 : Inv X pins σ H1 { s1 with heap := h' } := I1.kept (t' := s1.toks) hk
      refine ⟨s1.heap.objs.size + 4, [s1.heap.objs.size + 4, s1.heap.objs.size + 2, s1.heap.objs.size + 3, s1.heap.objs.size, s1.heap.objs.size + 1], _, _, H1, rfl, I2, turn_zip (PySem.W.ktu_apart s1.heap.objs.size a b la lb), ⟨hz, hTI, ⟨_, _, hTO⟩, h1, h2⟩, fun c hcm => ?_, q⟩
      have e' : c = s1.heap.objs.size + 4 ∨ c = s1.heap.objs.size + 2 ∨ c = s1.heap.objs.size + 3 ∨ c = s1.heap.objs.size ∨ c = s1.heap.objs.size + 1 := by simpa using hcm
      have hle : s1.heap.objs.size ≤ c := by
        rcases e' with z | z | z | z | z
        · rw [z]; exact Nat.le_add_right _ _
        · rw [z]; exact Nat.le_add_right _ _
        · rw [z]; exact Nat.le_add_right _ _
        · rw [z]; exact Nat.le_refl _
        · rw [z]; exact Nat.le_add_right _ _
      exact I1.fpOk hle (I1.hok.fresh hle)
end L2
namespace Att
open PySem PySem.W PySem.Calls PyProof.Rows
theorem ints_of_wellAll {P : Params} {h : Heap} : ∀ (ns : List Int) (vs : List Value), WellAll P h vs (ns.map WData.int) → IntsAre vs ns := by
  intro ns
  induction ns with
  | nil =>
    intro vs w
    rw [List.map_nil] at w
    cases w
    exact .nil
  | cons n ns ih =>
    intro vs w
    rw [List.map_cons] at w
    cases w with
    | cons a b =>
      cases a
      exact .cons _ _ (ih _ b)
theorem script_of {l : OpenLaw} {n : Nat} (hn : l.most = some n) {P : Params} {h : Heap} {args : List WData} {vals : List Value}
    (hpre : l.row.toRowW.claim.pre args = true) (hwl : WellAll P h vals args) :
    ∃ a vs ns, vals = [Value.ref a] ∧ args = [WData.list (ns.map WData.int)] ∧ h.get? a = some { cls := .type "list", data := .seq vs.toArray } ∧ IntsAre vs ns ∧ ns.length ≤ n := by
  have hsh : WShape.hasAll [] args [.list .int] = true := (pre_splitW hpre).1
  have hc : l.pre.holds [] { args := args } = true := (pre_splitW hpre).2
  obtain ⟨d, r, rfl, h1, h2⟩ := hasAllW_cons hsh
  obtain rfl := hasAllW_nil h2
  obtain ⟨xs, rfl, h3⟩ := hasW_list h1
  obtain ⟨ns, rfl⟩ := items_int h3
  have hlen : ns.length ≤ n := by
    unfold OpenLaw.pre at hc
    have h4 : (WTm.not (.lt (.lit (.int (n : Int))) (.len (.arg 0)))).holds [] { args := [.list (ns.map .int)] } = true := by
      have h4 := (holds_andW hc).1
      rw [hn] at h4
      exact h4
    have h5 := condW_of h4 (w_not (w_lt w_lit (w_len_list (w_arg rfl))))
    rw [List.length_map] at h5
    refine Nat.le_of_not_lt fun q => ?_
    have q' : (n : Int) < ((ns.length : Nat) : Int) := by omega
    first
      | (rw [decide_eq_true q'] at h5; exact absurd h5 (by decide))
      | (simp at h5; omega)
  cases hwl with
  | cons w1 w2 =>
    cases w2
    cases w1 with
    | list ho hall => exact ⟨_, _, ns, rfl, rfl, ho, ints_of_wellAll ns _ hall, hlen⟩
theorem post_true (l : OpenLaw) (args : List WData) : l.row.toRowW.claim.post args (.bool true) args = true :=
  postW_of (r := l.row.toRowW) (X := (true == true))
    (show WShape.has [] (.bool true) .bool = true by first | rfl | decide | simp [WShape.has, WShape.arms, WShape.armsAll])
    (show (WTm.eq .res (.lit (.bool true))).value [] { args := args, res := some (.bool true), after := args } = some (.bool (true == true)) from w_eq_bool (w_res rfl) w_lit) rfl
theorem attach_call {l : OpenLaw} {n : Nat} {q : Program} {loose : List Str} {XP : (Str → Option Value) → Heap → Prop} {YP : World → Heap → Prop} {d : DefRec}
    (hn : l.most = some n) (hdf : d.params.defaults = [])
    (call : ∀ (w : World) (s₀ s₁ : Shared) (mg mb : Str → Option Value) (fa : Addr) (o : Obj) (pm cd doc : Value) (a : Addr) (vs : List Value) (ns : List Int),
      Ground q loose [] XP w s₀ mg mb s₁.heap → YP w s₁.heap →
      s₁.heap.get? fa = some o → o.data = .func (docDef d.name d.params d.body d.scope pm cd doc) → s₁.heap.CodeRec cd d.name → mg d.name = some (.ref fa) →
      s₁.heap.get? a = some { cls := .type "list", data := .seq vs.toArray } → IntsAre vs ns → ns.length ≤ n → s₁.gens = #[] →
      codeAny (model l.prog w) callerA (.call (.ref fa) ⟨[.ref a], []⟩) (fun r s' => r = .ok (.ret (.bool true)) ∧ OldK s₁.heap s'.heap ∧ s'.os = s₁.os ∧ AllBare s'.gens) s₁) :
    WalkO q loose XP YP l.row.toRowW d [] (fun f vs => PySem.call f vs) := by
  intro w s₀ s₁ mg mb G Y fa o pm cd doc dV kV ho hd hcd hD hmg hg args vals as hpre hlay hrd hwl hlo
  obtain rfl : dV = .none := Dflts.none hD hdf
  obtain rfl : kV = .none := Dflts.noKw hD
  obtain ⟨a, vs, ns, rfl, rfl, hobj, hints, hlen⟩ := script_of hn hpre hwl
  refine enter_call (codeAny_mono (call w s₀ s₁ mg mb fa o pm cd doc a vs ns G Y ho (fd_plain hd) hcd hmg hobj hints hlen hg) fun r s' hq => ?_)
  obtain ⟨rfl, h2, h3, h4⟩ := hq
  exact ⟨.inl ⟨.bool true, .bool true, [], rfl, fun _ => rfl, .bool true, post_true l _, fun _ => ⟨List.Pairwise.nil, fun _ hm => (nomatch hm)⟩⟩, h2, h3, h4⟩
end Att
namespace L2
open PySem PySem.Spec PyProof.Rows
theorem vals_ints : ∀ {vs : List Value} {ns : List Int}, IntsAre vs ns → Vals (ns.map V.int) vs
  | _, _, .nil => .nil
  | _, _, .cons n t h => .cons ⟨t, rfl⟩ (vals_ints h)
end L2
namespace L2
open PySem PySem.Spec PyProof.Rows
def defArgs (s : Stmt) : Arguments := match s with
  | .FunctionDef _ a _ _ _ _ _ _ _ _ => a
  | _ => { posonlyargs := [], args := [], vararg := none, kwonlyargs := [], kw_defaults := [], kwarg := none, defaults := [] }
def defBody (s : Stmt) : List Stmt := match s with
  | .FunctionDef _ _ b _ _ _ _ _ _ _ => b
  | _ => []
def defScope (s : Stmt) : Scope := match s with
  | .FunctionDef _ _ _ _ _ _ sc _ _ _ => sc
  | _ => { kind := .function, names := [], isGenerator := false, isCoroutine := false }
abbrev CX0 : CXT := fun _ _ _ _ _ _ => False
abbrev E0 : XK := fun _ _ _ => False
theorem pass0 {X : Cx} : Passes CX0 X E0 := fun _ _ _ _ _ _ _ h => h.elim
structure Fun (K : PySem.W.Frag) (x qual : Str) (st : Stmt) (f : Addr) (fd : FuncData) : Prop where
  ex : ∃ (oc : Value) (od : Option Addr) (kV doc pm : Value) (an : Option Addr) (cdv ct : Value) (osl : Array (Option Value)),
    fd = PySem.W.fnOf x qual (defArgs st) (defBody st) (defScope st) .none kV doc pm an cdv ct ∧ K.lookup f = some ⟨oc, od, .func fd, osl⟩ ∧ PySem.W.codeIn K cdv qual = true
  kp : PySem.W.keepIn K (.ref f) = true
section
variable {P : Program} {w : World} {K : PySem.W.Frag} {mg : Str → Option Value} {base : Heap}
theorem Fun.ok {x qual : Str} {st : Stmt} {f : Addr} {fd : FuncData} {N ps : List Str} {k : Nat} {sp : Sp} (F : Fun K x qual st f fd) (S : FnScope N ps (defScope st)) (len : ∀ vs H Q E, sp vs H Q E → vs.length = ps.length)
    (hbody : ∀ (cdv : Value) (A : Around) (outer : List Env) (s : Shared) (H : Hp) (vs : List V) (Q : VK) (E : XK), Room k (A.deeper (envOfC qual (defScope st) s.heap.objs.size f cdv)) → sp vs H Q E →
      ∃ t, PSs (cxOf CX0 P w K mg base N qual (defScope st) f cdv A outer s H E).nox (defBody st) t ∧ t { nx := fun _ H' => Q .non H', rt := Q } (start N vs) H) : FnOk P w K mg base CX0 (k + 1) f fd ps sp := by
  obtain ⟨oc, od, kV, doc, pm, an, cdv, ct, osl, rfl, lk, hcd⟩ := F.ex
  refine fn_of lk hcd S len fun A outer s H vs Q E hr hsp => ?_
  obtain ⟨t, h, q⟩ := hbody cdv A outer s H vs Q E hr hsp
  exact ⟨t, h.nox, q⟩
theorem Fun.binds {x qual : Str} {st : Stmt} {f : Addr} {fd : FuncData} {ps : List Str} (F : Fun K x qual st f fd)
    (h : ∀ (kV doc pm : Value) (an : Option Addr) (cdv ct : Value) (us : List Value), us.length = ps.length → bindArgs (PySem.W.fnOf x qual (defArgs st) (defBody st) (defScope st) .none kV doc pm an cdv ct) ⟨us, []⟩ = pure (ps.zip us)) : Binds K fd ps [] := by
  obtain ⟨oc, od, kV, doc, pm, an, cdv, ct, osl, rfl, lk, hcd⟩ := F.ex
  exact .all (h kV doc pm an cdv ct)
theorem fun_mk {x qual : Str} {st : Stmt} {f : Addr} {oc : Value} {od an : Option Addr} {osl : Array (Option Value)} {kV doc pm cdv ct : Value} (l : K.lookup f = some ⟨oc, od, .func (PySem.W.fnOf x qual (defArgs st) (defBody st) (defScope st) .none kV doc pm an cdv ct), osl⟩)
    (c : PySem.W.codeIn K cdv qual = true) (k : PySem.W.keepIn K (.ref f) = true) : Fun K x qual st f (PySem.W.fnOf x qual (defArgs st) (defBody st) (defScope st) .none kV doc pm an cdv ct) := ⟨⟨oc, od, kV, doc, pm, an, cdv, ct, osl, rfl, l, c⟩, k⟩
end
section
variable {X : Cx}
theorem pv (i : Nat) {x : Str} {pos : Pos} (hN : X.N[i]? = some x := by rfl) (hv : Vis X.env.scope x := by first | exact Or.inl rfl | exact Or.inr (Or.inl rfl) | exact Or.inr (Or.inr rfl)) (hd : (x == ("__debug__" : Str)) = false := by decide)
    (hcd : (x == ("__classdict__" : Str)) = false := by decide) : PE X (.Name x pos) (tVar i) := pe_var hN hv hd hcd
end
theorem iteF {A B : Prop} (h : B) : if false = true then A else B := by
  rw [if_neg Bool.false_ne_true]
  exact h
theorem iteT {A B : Prop} (h : A) : if true = true then A else B := by
  rw [if_pos rfl]
  exact h
theorem ite2 {c A B : Prop} [Decidable c] (h1 : c → A) (h2 : ¬ c → B) : if c then A else B := by
  by_cases h : c
  · rw [if_pos h]
    exact h1 h
  · rw [if_neg h]
    exact h2 h
def Same (H H' : Hp) : Prop := ∀ b o, H b = some o → H' b = some o
theorem Same.refl (H : Hp) : Same H H := fun _ _ h => h
theorem Same.trans {H H1 H2 : Hp} (a : Same H H1) (b : Same H1 H2) : Same H H2 := fun c o h => b c o (a c o h)
theorem Same.free {H H' : Hp} (e : Same H H') {l : Addr} (h : H' l = Option.none) : H l = Option.none := by
  cases q : H l with
  | none => rfl
  | some o =>
    rw [e l o q] at h
    cases h
section
variable {κ : Type} [DecidableEq κ]
theorem nd_snoc : ∀ {l : List κ} {k : κ}, l.Nodup → ¬ k ∈ l → (l ++ [k]).Nodup
  | [], k, _, _ => by simp
  | a :: r, k, h, hk => by
    obtain ⟨h1, h2⟩ := List.nodup_cons.mp h
    show (a :: (r ++ [k])).Nodup
    refine List.nodup_cons.mpr ⟨fun m => ?_, nd_snoc h2 fun m => hk (List.mem_cons.mpr (Or.inr m))⟩
    rcases List.mem_append.mp m with q | q
    · exact h1 q
    · exact hk (List.mem_cons.mpr (Or.inl (List.mem_singleton.mp q).symm))
end
theorem at_of {xs : List V} {z : Int} {j : Nat} {v : V} (e : z = (j : Int)) (h : xs[j]? = some v) : atI xs z = some v := by
  rw [e]
  exact atI_nat h
theorem nd_ix {α : Type} {l : List α} (hN : l.Nodup) {i j : Nat} {x : α} (a : l[i]? = some x) (b : l[j]? = some x) : i = j := by
  obtain ⟨h1, e1⟩ := List.getElem?_eq_some_iff.mp a
  obtain ⟨h2, e2⟩ := List.getElem?_eq_some_iff.mp b
  exact (List.getElem_inj hN).mp (e1.trans e2.symm)
end L2
set_option Elab.async false
set_option linter.all false
set_option maxRecDepth 100000
set_option Elab.async false
set_option linter.all false
set_option maxRecDepth 100000
namespace L2
open PySem PySem.Spec PyProof.Rows
def clsV : V → Value → Prop
  | .ref a, u => u = .ref a
  | .ty n, u => u = .type n
  | _, _ => False
end L2
set_option Elab.async false
set_option linter.all false
set_option maxRecDepth 100000
set_option maxHeartbeats 1000000
namespace L2
open PySem PySem.Spec PyProof.Rows
section
variable {prog : Program} {w : World} {A : Around} {E : Value → Shared → Prop} {s : Shared}
theorem nextOf_tup_item {it t : Addr} {i : Nat} {items : Array Value} {x : Value} {Q : Value → Shared → Prop} (hit : s.heap.IsTupleIter it t i) (ht : s.heap.IsTuple t items) (hx : items[i]? = some x)
    (hQ : ∀ h', h'.IsTupleIter it t (i + 1) → Heap.SameBut it s.heap h' → Q x { s with heap := h' }) : wpAny (model prog w) A (Builtin.SmallTypes.nextOf (.ref it)) Q E s := by
  have ty := hit.typeIs
  obtain ⟨hp, gs, dr, tk, os⟩ := s
  obtain ⟨⟨c, d, dt, sl⟩, ho, hc, hd⟩ := hit
  obtain ⟨⟨c2, d2, dt2, sl2⟩, ho2, hc2, n, hd2⟩ := ht
  cases hc; cases hd; cases hc2; cases hd2
  replace ho : hp.get? it = some _ := ho
  replace ho2 : hp.get? t = some _ := ho2
  refine wpAny_bind (wpAny_callSpecial?_slot (name := Str.ofString "__next__") ty F.slot_tuple_iterator_next (wpAny_call_entry F.slot_tuple_iterator_next ty F.entry_tuple_iterator_next ?_ (F.args_tuple_iterator_next_1 _)))
  wp_walk
  rw [Int.toNat_natCast, hx]
  wp_walk
  refine ⟨x, rfl, ?_⟩
  wp_walk
  refine hQ _ ⟨_, Heap.get?_update_self _ ho rfl, rfl, ?_⟩ (Heap.SameBut.update ..)
  simp [Obj.mapFields, rawInt]
theorem nextOf_tup_end {it t : Addr} {i : Nat} {items : Array Value} {Q : Value → Shared → Prop} (hh : A.handled = none) (hit : s.heap.IsTupleIter it t i) (ht : s.heap.IsTuple t items) (hx : items[i]? = none)
    (hE : ∀ h' e, Heap.ExtBut it s.heap h' → (∃ o, h'.get? e = some o ∧ o.cls = .type "StopIteration") → E (.ref e) { s with heap := h' }) : wpAny (model prog w) A (Builtin.SmallTypes.nextOf (.ref it)) Q E s := by
  have ty := hit.typeIs
  obtain ⟨hp, gs, dr, tk, os⟩ := s
  obtain ⟨⟨c, d, dt, sl⟩, ho, hc, hd⟩ := hit
  obtain ⟨⟨c2, d2, dt2, sl2⟩, ho2, hc2, n, hd2⟩ := ht
  cases hc; cases hd; cases hc2; cases hd2
  replace ho : hp.get? it = some _ := ho
  replace ho2 : hp.get? t = some _ := ho2
  refine wpAny_bind (wpAny_callSpecial?_slot (name := Str.ofString "__next__") ty F.slot_tuple_iterator_next (wpAny_call_entry F.slot_tuple_iterator_next ty F.entry_tuple_iterator_next ?_ (F.args_tuple_iterator_next_1 _)))
  wp_walk
  rw [Int.toNat_natCast, hx]
  have hh' : A.in1.handled = none := hh
  wp_walk
  unfold raiseNew
  wp_walk
  exact hE _ _ (fun b o hb e => Heap.get?_push_of_some _ (Heap.get?_push_of_some _ ((Heap.get?_update_ne _ _ _ _ hb).trans e))) ⟨_, Heap.get?_push_size _ rfl, rfl⟩
end
theorem tupIter_at {h h' : Heap} {it t : Addr} {i : Nat} (x : h.IsTupleIter it t i) (k : ∀ o, h.get? it = some o → h'.get? it = some o) : h'.IsTupleIter it t i := let ⟨o, ho, r⟩ := x; ⟨o, k o ho, r⟩
theorem tup_at {h h' : Heap} {t : Addr} {items : Array Value} (x : h.IsTuple t items) (k : ∀ o, h.get? t = some o → h'.get? t = some o) : h'.IsTuple t items := let ⟨o, ho, r⟩ := x; ⟨o, k o ho, r⟩
theorem draws_tuple {prog : Program} {w : World} {A : Around} (hh : A.handled = none) (it l : Addr) (hne : l ≠ it) (items : Array Value) :
    Draws prog w A it [it, l] items.size (fun i v => items[i]? = some v) (fun i h => h.IsTupleIter it l i ∧ h.IsTuple l items) := by
  constructor
  · rintro i h ⟨⟨o, e, _⟩, _⟩; exact ⟨o, e⟩
  · rintro i h h' ⟨p, q⟩ k; exact ⟨tupIter_at p (k it (by simp)), tup_at q (k l (by simp))⟩
  · rintro i s Q E lt ⟨p, q⟩ k
    have e : items[i]? = some items[i] := by simp [lt]
    exact nextOf_tup_item p q e fun h' p' sb => k _ h' s.toks e ⟨p', tup_at q fun o z => (sb.2 l hne).trans z⟩ sb
  · rintro s Q E ⟨p, q⟩ k; exact nextOf_tup_end hh p q (by simp) k
theorem draws_over {prog : Program} {w : World} {A : Around} (hh : A.handled = none) (it l : Addr) (items : Array Value) (n : Nat) (hx : items[n]? = none) :
    Draws prog w A it [it, l] n (fun _ _ => False) (fun i h => i = n ∧ h.IsTupleIter it l n ∧ h.IsTuple l items) := by
  constructor
  · rintro i h ⟨_, ⟨o, e, _⟩, _⟩; exact ⟨o, e⟩
  · rintro i h h' ⟨z, p, q⟩ k; exact ⟨z, tupIter_at p (k it (by simp)), tup_at q (k l (by simp))⟩
  · rintro i s Q E lt ⟨z, _⟩ k; omega
  · rintro s Q E ⟨_, p, q⟩ k; exact nextOf_tup_end hh p q hx k
abbrev te1 (h : Heap) (l : Addr) : Heap := h.push { cls := .type "tuple_iterator", data := .fields #[.ref l, .int 0 0] }
abbrev te2 (h : Heap) (l : Addr) : Heap := (te1 h l).push { cls := .type "enumerate", data := .fields #[.none, .bool false, .ref h.objs.size, rawInt 0, .none, .none] }
theorem meets_te (l : Addr) (items : Array Value) : Meets (Builtin.«enumerate.__new__» ⟨[.type "enumerate", .ref l], []⟩) (fun _ R s => s.heap.IsTuple l items ∧ R (.ok (.ret (.ref (te1 s.heap l).objs.size))) { s with heap := te2 s.heap l }) :=
  .of_wp fun prog w A R s h => by
    obtain ⟨hp, gs, dr, tk, os⟩ := s
    obtain ⟨tp, h⟩ := h
    have self := sub_enumerate
    replace tp : Heap.IsTuple (Shared.heap ⟨hp, gs, dr, tk, os⟩) l items := tp
    wp_walk using wpAny_stack_any
    intro st
    refine wpAny_pure ?_
    split
    · rename_i c _ _ _ _ _
      cases c == .type "enumerate" <;> (wp_walk using wpAny_pyIter_tuple tp; exact ⟨_, rfl, h⟩)
    · wp_walk using wpAny_pyIter_tuple tp
      exact ⟨_, rfl, h⟩
section
variable {prog : Program} {w : World} {A : Around} {E : Value → Shared → Prop} {s : Shared}
theorem call_enum_tuple {l : Addr} {items : Array Value} {Q : Value → Shared → Prop} (tp : s.heap.IsTuple l items)
    (h : ∀ h', IsEnum h' (s.heap.objs.size + 1) s.heap.objs.size 0 .none → h'.IsTupleIter s.heap.objs.size l 0 → h'.objs.size = s.heap.objs.size + 2 → (∀ b o, s.heap.get? b = some o → h'.get? b = some o) →
      Q (.ref (s.heap.objs.size + 1)) { s with heap := h' }) : wpAny (model prog w) A (call (.type "enumerate") [.ref l]) Q E s := by
  refine callType_new F.called_enumerate (by decide) (F.typeCall_enumerate_1 _) (F.newCall_enumerate_1 _) (fun obj => F.args_object_init_2 obj _) F.entry_enumerate_new (meets_te l items) ⟨tp, ?_⟩
  have z : (te1 s.heap l).objs.size = s.heap.objs.size + 1 := Heap.size_push ..
  have g2 : (te2 s.heap l).get? (te1 s.heap l).objs.size = some _ := Heap.get?_push_size _ rfl
  have g1 : (te2 s.heap l).get? s.heap.objs.size = some _ := Heap.get?_push_of_some _ (Heap.get?_push_size _ rfl)
  rw [z] at g2
  show _ ∧ _
  rw [z]
  exact ⟨⟨_, g2, rfl⟩, h _ g2 ⟨_, g1, rfl, rfl⟩ (by rw [Heap.size_push, z]) fun b o e => Heap.get?_push_of_some _ (Heap.get?_push_of_some _ e)⟩
theorem next_enumT_end {e it l : Addr} {i : Nat} {j : Int} {items : Array Value} {old : Value} {Q : Option Value → Shared → Prop} (hh : A.handled = none)
    (he : IsEnum s.heap e it j old) (hit : s.heap.IsTupleIter it l i) (hl : s.heap.IsTuple l items) (hx : items[i]? = none)
    (q : ∀ h', Heap.ExtBut it s.heap h' → Q none { s with heap := h' }) : wpAny (model prog w) A (pyNext (.ref e)) Q E s :=
  wpAny_pyNext_enum_endD (draws_over (A := A.in1) hh it l items i hx) he ⟨rfl, hit, hl⟩ q
end
def ItT (K : PySem.W.Frag) (a : Addr) : It :=
  ⟨fun i H => ∃ (xs : List V) (x : V), SqT K H a xs ∧ xs[i]? = some x, fun i H v H' => ∃ T x, v = .ref T ∧ H T = none ∧ H' = upd H T (.tup [.int (i : Nat), x]) ∧ ∀ xs, SqT K H a xs → xs[i]? = some x, fun i H => ∃ xs : List V, SqT K H a xs ∧ xs.length ≤ i⟩
theorem turn_enumT {P : Program} {w : World} {K : PySem.W.Frag} {elts : List Expr} {kk : Nat} {tpos : Pos} (a e it : Addr) :
    Turn P w K (.Tuple elts kk tpos) (ItT K a) [e, it] e (fun i h => (∃ old, IsEnum h e it ((i : Nat) : Int) old) ∧ h.IsTupleIter it a i ∧ e ≠ it ∧ a ≠ it ∧ a ≠ e) where
  mem := by simp
  obj := fun i h st b hb => by
    obtain ⟨⟨old, he⟩, ⟨o, ho, hc, hd⟩, _⟩ := st
    have e' : b = e ∨ b = it := by simpa using hb
    rcases e' with z | z
    · rw [z]; exact ⟨_, he, fun v q => nomatch q⟩
    · rw [z]; exact ⟨o, ho, fun v q => by rw [hd] at q; cases q⟩
  keep := fun i h h' st k => let ⟨⟨old, he⟩, hi, hne⟩ := st; ⟨⟨old, k e (by simp) _ he⟩, tupIter_at hi fun o q => k it (by simp) o q, hne⟩
  item := by
    intro X hP hw hK hc i pins s σ H E I hf st hg
    subst hP hw hK
    obtain ⟨⟨old, he⟩, hit, hne, hai, hae⟩ := st
    obtain ⟨xs, x, hq, hx⟩ := hg
    obtain ⟨its, rv, p, hz⟩ := I.tuple hq
    obtain ⟨u, hu, ru⟩ := rv.get hx
    have hel : e < s.heap.objs.size := Heap.lt_size he
    have hil : it < s.heap.objs.size := by obtain ⟨_, q, _⟩ := hit; exact Heap.lt_size q
    have hlt : i < its.toArray.size := by
      have := (List.getElem?_eq_some_iff.mp hu).1
      simpa using this
    refine wpAny_pyNext_enum_itemD (draws_tuple (A := X.A.in1) (I.ok.hd hc) it a hai its.toArray) he ⟨hit, p⟩ hlt hne (by simp [hne, Ne.symm hae]) fun x' h' tk hP ho hst hT hsz hk => ?_
    obtain rfl : u = x' := by
      have : its.toArray[i]? = some u := by simpa using hu
      rw [this] at hP
      exact Option.some.inj hP
    refine ⟨_, rfl, wpAny_letOwnedTupleGo_enum (s := { s with heap := h', toks := tk + 1 }) ho fun h'' he' sb => ?_⟩
    have hT2 : h''.get? s.heap.objs.size = some { cls := .type "tuple", data := .seq #[.int i tk, u] } := (sb.2 _ (Nat.ne_of_gt hel)).trans hT
    have new : ObjOk X.prog X.w (upd H s.heap.objs.size (.tup [.int (i : Nat), x])) h'' s.heap.objs.size (.tup [.int (i : Nat), x]) :=
      ⟨by show 2 ≤ sizeLine; decide, [.int i tk, u], .cons ⟨_, rfl⟩ (.cons ru .nil), ⟨_, hT2, rfl, _, rfl⟩⟩
    have I1 : Inv X pins σ (upd H s.heap.objs.size (.tup [.int (i : Nat), x])) { s with heap := h'', toks := tk + 1 } :=
      I.turnedNew (ch := [e, it]) (fun b ob hb q => (sb.2 b (fun z => hb (by simp [z]))).trans (hk b ob (fun z => hb (by simp [z])) (fun z => hb (by simp [z])) q)) hf (Nat.le_refl _) new
    refine ⟨.ref s.heap.objs.size, _, I1, rfl, ⟨_, x, rfl, I.hok.fresh (Nat.le_refl _), rfl, fun ys hy => by rw [I.tuple_inj hy hq]; exact hx⟩, ⟨⟨u, ?_⟩, tupIter_at hst.1 fun o q => (sb.2 it (Ne.symm hne)).trans q, hne, hai, hae⟩, fun b hb => ?_⟩
    · have e1 : ((i + 1 : Nat) : Int) = (i : Int) + 1 := by omega
      rw [e1]; exact he'
    · have hb' : b < s.heap.objs.size := by
        have e' : b = e ∨ b = it := by simpa using hb
        rcases e' with z | z
        · rw [z]; exact hel
        · rw [z]; exact hil
      rw [upd_ne (Nat.ne_of_lt hb')]
      exact (hf b hb).1
  done := by
    intro X hP hw hK hc i pins s σ H E I hf st hg
    subst hP hw hK
    obtain ⟨⟨old, he⟩, hit, hne, hai, hae⟩ := st
    obtain ⟨xs, hq, hx⟩ := hg
    obtain ⟨its, rv, p, hz⟩ := I.tuple hq
    obtain ⟨f0, f1, f2, f3, f4, f5⟩ := hf it (by simp)
    have hl := rv.length
    exact next_enumT_end (I.ok.hd hc) he hit p (by simp; omega) fun h' eb => ⟨rfl, I.turned (t' := s.toks) (fun b o hb q => eb b o hb q) f0 f1 f3 f4 f5⟩
  self := fun A i s Q E st h => let ⟨⟨_, he⟩, _⟩ := st; wpAny_pyIter_enum he h
def iEnumT (K : PySem.W.Frag) (ta : TA) : TI := fun σ H R => ta σ H fun vs H1 => ∃ a xs, vs = [.ref a] ∧ SqT K H1 a xs ∧ R (ItT K a) H1
theorem pi_enumT {X : Cx} {e : Expr} {ta : TA} {p pos tpos : Pos} {elts : List Expr} {kk : Nat} (hg : Gl X "enumerate") (hm : X.mg "enumerate" = none) (ha : PA X [e] ta) (hs : starEach [e] X.env = [(false, eval e X.env)] := by rfl) :
    PI X (.Tuple elts kk tpos) (.Call (.Name "enumerate" p) [e] [] pos) (iEnumT X.K ta) := by
  intro pins s σ H R I h
  refine Call_ (ld_blt I hg hm boot_enumerate (PyProof.Rows.callWith_type1 (thn (ha pos pins s σ H _ I h) fun us s1 ⟨vs, H1, I1, r1, q1⟩ => ?_) hs rfl))
  obtain ⟨a, xs, ex, hq, q⟩ := q1
  subst ex
  cases r1 with
  | cons r rr =>
    cases rr
    cases r
    obtain ⟨its, rv, p', hz⟩ := I1.tuple hq
    have hal : a < s1.heap.objs.size := by obtain ⟨_, z, _⟩ := p'; exact Heap.lt_size z
    refine call_enum_tuple p' fun h' he hit hsz hk => wpAny_pyIter_enum he ?_
    have I2 : Inv X pins σ H1 { s1 with heap := h' } := I1.kept (t' := s1.toks) hk
    refine ⟨s1.heap.objs.size + 1, [s1.heap.objs.size + 1, s1.heap.objs.size], _, _, H1, rfl, I2, turn_enumT a (s1.heap.objs.size + 1) s1.heap.objs.size, ⟨⟨.none, he⟩, hit, Nat.succ_ne_self _, Nat.ne_of_lt hal, Nat.ne_of_lt (Nat.lt_succ_of_lt hal)⟩, fun b hb => ?_, q⟩
    have e' : b = s1.heap.objs.size + 1 ∨ b = s1.heap.objs.size := by simpa using hb
    have hle : s1.heap.objs.size ≤ b := by
      rcases e' with z | z
      · rw [z]; exact Nat.le_add_right _ _
      · rw [z]; exact Nat.le_refl _
    exact I1.fpOk hle (I1.hok.fresh hle)
theorem for_enumT {K : PySem.W.Frag} {a : Addr} {xs : List V} {g : TG} {tb : TS} {D : Ends} {σ : St} {H : Hp} (Pv : Nat → St → Hp → Prop) (h0 : Pv 0 σ H) (hl : ∀ i σ H, i ≤ xs.length → Pv i σ H → SqT K H a xs)
    (hs : ∀ i x T σ H, xs[i]? = some x → Pv i σ H → H T = none → g (.ref T) σ (upd H T (.tup [.int (i : Nat), x])) fun σ2 H2 => tb { D with nx := Pv (i + 1), ct := Pv (i + 1), bk := D.nx } σ2 H2) (hd : ∀ σ H, Pv xs.length σ H → D.nx σ H) :
    ∃ W : Nat → Nat → St → Hp → Prop, (∃ m, W 0 m σ H) ∧ ∀ i m σ H, W i m σ H →
      ((ItT K a).stop i H ∧ D.nx σ H) ∨ ((ItT K a).go i H ∧ ∃ N : St → Hp → Prop, (∀ σ' H', N σ' H' → ∃ m', m' < m ∧ W (i + 1) m' σ' H') ∧ ∀ x H', (ItT K a).yld i H x H' → g x σ H' fun σ2 H2 => tb { D with nx := N, ct := N, bk := D.nx } σ2 H2) := by
  refine ⟨fun i m σ H => m = xs.length - i ∧ i ≤ xs.length ∧ Pv i σ H, ⟨xs.length, by simp, Nat.zero_le _, h0⟩, ?_⟩
  rintro i m σ H ⟨rfl, hi, p⟩
  have q := hl i σ H hi p
  by_cases hlt : i < xs.length
  · refine .inr ⟨⟨xs, xs[i], q, by simp [hlt]⟩, Pv (i + 1), fun σ' H' p' => ⟨xs.length - (i + 1), by omega, rfl, hlt, p'⟩, fun x H' y => ?_⟩
    obtain ⟨T, x', rfl, nT, rfl, hx⟩ := y
    exact hs i x' T σ H (hx xs q) p nT
  · have e : i = xs.length := by omega
    subst e
    exact .inl ⟨⟨xs, q, Nat.le_refl _⟩, hd σ H p⟩
theorem for_enum {K : PySem.W.Frag} {a : Addr} {xs : List V} {g : TG} {tb : TS} {D : Ends} {σ : St} {H : Hp} (Pv : Nat → St → Hp → Prop) (h0 : Pv 0 σ H) (hl : ∀ i σ H, i ≤ xs.length → Pv i σ H → SqL K H a xs)
    (hs : ∀ i x T σ H, xs[i]? = some x → Pv i σ H → H T = none → g (.ref T) σ (upd H T (.tup [.int (i : Nat), x])) fun σ2 H2 => tb { D with nx := Pv (i + 1), ct := Pv (i + 1), bk := D.nx } σ2 H2) (hd : ∀ σ H, Pv xs.length σ H → D.nx σ H) :
    ∃ W : Nat → Nat → St → Hp → Prop, (∃ m, W 0 m σ H) ∧ ∀ i m σ H, W i m σ H →
      ((Ite K a).stop i H ∧ D.nx σ H) ∨ ((Ite K a).go i H ∧ ∃ N : St → Hp → Prop, (∀ σ' H', N σ' H' → ∃ m', m' < m ∧ W (i + 1) m' σ' H') ∧ ∀ x H', (Ite K a).yld i H x H' → g x σ H' fun σ2 H2 => tb { D with nx := N, ct := N, bk := D.nx } σ2 H2) := by
  refine ⟨fun i m σ H => m = xs.length - i ∧ i ≤ xs.length ∧ Pv i σ H, ⟨xs.length, by simp, Nat.zero_le _, h0⟩, ?_⟩
  rintro i m σ H ⟨rfl, hi, p⟩
  have q := hl i σ H hi p
  by_cases hlt : i < xs.length
  · refine .inr ⟨⟨xs, xs[i], q, by simp [hlt]⟩, Pv (i + 1), fun σ' H' p' => ⟨xs.length - (i + 1), by omega, rfl, hlt, p'⟩, fun x H' y => ?_⟩
    obtain ⟨T, x', rfl, nT, rfl, hx⟩ := y
    exact hs i x' T σ H (hx xs q) p nT
  · have e : i = xs.length := by omega
    subst e
    exact .inl ⟨⟨xs, q, Nat.le_refl _⟩, hd σ H p⟩
theorem lc_enumT {K : PySem.W.Frag} {a : Addr} {xs : List V} {g : TG} {tt : TT} {te : TE} {vs : List Nat} {σ : St} {H1 : Hp} {D : Addr} {Qd : Hp → Prop} (Pv : Nat → Hp → Prop) (h0 : Pv 0 (upd H1 D (.lst []))) (hl : ∀ i H, i ≤ xs.length → Pv i H → SqT K H a xs)
    (hs : ∀ i x T H, xs[i]? = some x → Pv i H → H T = none → g (.ref T) (wipe σ vs) (upd H T (.tup [.int (i : Nat), x])) fun σ2 H2 => wipe σ2 vs = wipe σ vs ∧ tt σ2 H2 fun b H3 =>
      if b = true then te σ2 H3 fun y H4 => ∃ acc, H4 D = some (.lst acc) ∧ acc.length < sizeLine ∧ Pv (i + 1) (upd H4 D (.lst (acc ++ [y]))) else Pv (i + 1) H3) (hd : ∀ H, Pv xs.length H → Qd H) :
    ∃ W : Nat → Nat → Hp → Prop, (∃ m, W 0 m (upd H1 D (.lst []))) ∧ ∀ i m H, W i m H →
      ((ItT K a).stop i H ∧ Qd H) ∨ ((ItT K a).go i H ∧ ∃ Nx : Hp → Prop, (∀ H', Nx H' → ∃ m', m' < m ∧ W (i + 1) m' H') ∧ ∀ x H', (ItT K a).yld i H x H' → g x (wipe σ vs) H' fun σ2 H2 => wipe σ2 vs = wipe σ vs ∧ tt σ2 H2 fun b H3 =>
        if b = true then te σ2 H3 fun y H4 => ∃ acc, H4 D = some (.lst acc) ∧ acc.length < sizeLine ∧ Nx (upd H4 D (.lst (acc ++ [y]))) else Nx H3) := by
  refine ⟨fun i m H => m = xs.length - i ∧ i ≤ xs.length ∧ Pv i H, ⟨xs.length, by simp, Nat.zero_le _, h0⟩, ?_⟩
  rintro i m H ⟨rfl, hi, p⟩
  have q := hl i H hi p
  by_cases hlt : i < xs.length
  · refine .inr ⟨⟨xs, xs[i], q, by simp [hlt]⟩, Pv (i + 1), fun H' p' => ⟨xs.length - (i + 1), by omega, rfl, hlt, p'⟩, fun x H' y => ?_⟩
    obtain ⟨T, x', rfl, nT, rfl, hx⟩ := y
    exact hs i x' T H (hx xs q) p nT
  · have e : i = xs.length := by omega
    subst e
    exact .inl ⟨⟨xs, q, Nat.le_refl _⟩, hd H p⟩
theorem lc_zip {K : PySem.W.Frag} {a b : Addr} {xs ys : List V} {g : TG} {tt : TT} {te : TE} {vs : List Nat} {σ : St} {H1 : Hp} {D : Addr} {Qd : Hp → Prop} (hxy : xs.length = ys.length) (Pv : Nat → Hp → Prop) (h0 : Pv 0 (upd H1 D (.lst [])))
    (hl : ∀ i H, i ≤ xs.length → Pv i H → SqL K H a xs ∧ SqL K H b ys)
    (hs : ∀ i x y T H, xs[i]? = some x → ys[i]? = some y → Pv i H → H T = none → g (.ref T) (wipe σ vs) (upd H T (.tup [x, y])) fun σ2 H2 => wipe σ2 vs = wipe σ vs ∧ tt σ2 H2 fun b H3 =>
      if b = true then te σ2 H3 fun y H4 => ∃ acc, H4 D = some (.lst acc) ∧ acc.length < sizeLine ∧ Pv (i + 1) (upd H4 D (.lst (acc ++ [y]))) else Pv (i + 1) H3) (hd : ∀ H, Pv xs.length H → Qd H) :
    ∃ W : Nat → Nat → Hp → Prop, (∃ m, W 0 m (upd H1 D (.lst []))) ∧ ∀ i m H, W i m H →
      ((Itz K a b).stop i H ∧ Qd H) ∨ ((Itz K a b).go i H ∧ ∃ Nx : Hp → Prop, (∀ H', Nx H' → ∃ m', m' < m ∧ W (i + 1) m' H') ∧ ∀ x H', (Itz K a b).yld i H x H' → g x (wipe σ vs) H' fun σ2 H2 => wipe σ2 vs = wipe σ vs ∧ tt σ2 H2 fun b H3 =>
        if b = true then te σ2 H3 fun y H4 => ∃ acc, H4 D = some (.lst acc) ∧ acc.length < sizeLine ∧ Nx (upd H4 D (.lst (acc ++ [y]))) else Nx H3) := by
  refine ⟨fun i m H => m = xs.length - i ∧ i ≤ xs.length ∧ Pv i H, ⟨xs.length, by simp, Nat.zero_le _, h0⟩, ?_⟩
  rintro i m H ⟨rfl, hi, p⟩
  obtain ⟨q1, q2⟩ := hl i H hi p
  by_cases hlt : i < xs.length
  · have hlt2 : i < ys.length := by omega
    refine .inr ⟨⟨xs, ys, xs[i], ys[i], q1, q2, by simp [hlt], by simp [hlt2]⟩, Pv (i + 1), fun H' p' => ⟨xs.length - (i + 1), by omega, rfl, hlt, p'⟩, fun x H' y => ?_⟩
    obtain ⟨T, x', y', rfl, nT, rfl, hx, hy⟩ := y
    exact hs i x' y' T H (hx xs q1) (hy ys q2) p nT
  · have e : i = xs.length := by omega
    subst e
    exact .inl ⟨⟨xs, ys, q1, q2, .inl (Nat.le_refl _)⟩, hd H p⟩
end L2
set_option Elab.async false
set_option linter.all false
set_option maxRecDepth 100000
set_option maxHeartbeats 1000000
namespace L2
open PySem PySem.Spec PyProof.Rows
section
variable {X : Cx}
theorem call_rng1 : CallR X (.type "range") (fun xs H Q => ∃ j, xs = [.int j] ∧ ∀ r, H r = none → Q (.ref r) (upd H r (.rng 0 j))) := by
  intro pins s σ H xs us Q I r h
  obtain ⟨j, rfl, q⟩ := h
  obtain ⟨u, rfl, t, rfl⟩ := vals1 r
  have hn : H s.heap.objs.size = none := I.hok.fresh (Nat.le_refl _)
  refine call_range_1 ⟨.ref s.heap.objs.size, upd H s.heap.objs.size (.rng 0 j), I.laid (fun b o e => Heap.get?_push_of_some _ e) (Nat.le_refl _) ⟨_, _, _, Heap.get?_push_size _ rfl⟩, rfl, q _ hn⟩
def natsV (n : Nat) : List V := (List.range n).map fun (i : Nat) => V.int (i : Int)
theorem vals_items : ∀ (n : Nat) (l : List Value), l.length = n → (∀ (j : Nat) v, l[j]? = some v → ∃ t, v = Value.int (0 + (j : Int) * 1) t) → Vals (natsV n) l := by
  intro n
  induction n with
  | zero => intro l hl _; rw [List.length_eq_zero_iff.mp hl]; exact .nil
  | succ n ih =>
    intro l hl h
    have hne : l ≠ [] := fun z => by rw [z] at hl; cases hl
    have e : l = l.dropLast ++ [l.getLast hne] := (List.dropLast_concat_getLast hne).symm
    have e2 : natsV (n + 1) = natsV n ++ [V.int (n : Int)] := by
      unfold natsV
      rw [List.range_succ, List.map_append]
      rfl
    rw [e, e2]
    refine Vals.append (ih _ (by rw [List.length_dropLast, hl]; rfl) fun j v hj => ?_) (.cons ?_ .nil)
    · have hjl : j < l.dropLast.length := (List.getElem?_eq_some_iff.mp hj).1
      refine h j v ?_
      rw [e, List.getElem?_append_left hjl]
      exact hj
    · obtain ⟨t, ht⟩ := h n (l.getLast hne) (by
        rw [List.getLast_eq_getElem, List.getElem?_eq_getElem (by omega)]
        congr 2
        omega)
      exact ⟨t, by rw [ht]; congr 1; omega⟩
theorem call_list_rng (hc : X.calm = true) : CallR X (.type "list") (fun xs H Q => ∃ r n, xs = [.ref r] ∧ H r = some (.rng 0 (n : Nat)) ∧ n ≤ 1000000 ∧ ∀ l, H l = none → Q (.ref l) (upd H l (.lst (natsV n)))) := by
  intro pins s σ H xs us Q I r h
  obtain ⟨ra, n, rfl, hr, hn, q⟩ := h
  obtain ⟨u, rfl, ru⟩ := vals1 r
  cases (show u = Value.ref ra from ru)
  obtain ⟨t, u', v, hx⟩ := (show ObjOk X.prog X.w H s.heap ra (.rng 0 n) from I.hok ra _ hr)
  have hnew : H s.heap.objs.size = none := I.hok.fresh (Nat.le_refl _)
  refine call_list_range (n := n) (I.ok.hd hc) (show IsRange s.heap ra 0 (n : Int) 1 t u' v from hx) ?_ ?_ (by omega) fun h' tk acc' c' hk hS' hacc => ?_
  · exact small_one (by omega) (by omega) (by omega) (by omega)
  · unfold Builtin.Range.rangeSize
    simp only [show (1 : Int) > 0 by decide, if_true]
    by_cases hz : n = 0
    · subst hz; rfl
    · rw [if_pos (by omega)]; omega
  · refine ⟨.ref s.heap.objs.size, upd H s.heap.objs.size (.lst (natsV n)), I.laid hk (Nat.le_refl _) ⟨?_, acc'.toList, c', ?_, ?_⟩, rfl, q _ hnew⟩
    · unfold natsV
      rw [List.length_map, List.length_range, sizeLine_eq]
      omega
    · exact vals_items n acc'.toList (by simpa using hacc.1) fun j v hj => by
        have := hacc.2 j v (by simpa using hj)
        exact this
    · rw [hS']
end
abbrev pairD (p : Int × Int) : PyData := .tuple [.int p.1, .int p.2]
def PairAt (H : Hp) (a : Addr) (p : Int × Int) : Prop := H a = some (.tup [.int p.1, .int p.2])
def PairsAt (H : Hp) (as : List Addr) (ps : List (Int × Int)) : Prop := Paired (PairAt H) as ps
theorem eqv_pair (p q : Int × Int) : PyData.eqv (pairD p) (pairD q) = decide (p = q) := by
  obtain ⟨a, b⟩ := p
  obtain ⟨c, d⟩ := q
  simp only [pairD, PyData.eqv, PyData.eqvAll, Bool.and_true]
  by_cases h : a = c
  · by_cases h' : b = d
    · subst h h'; simp
    · simp [h, h']
  · simp [h]
theorem dp_pair {K : PySem.W.Frag} {H : Hp} {a : Addr} {p : Int × Int} (h : PairAt H a p) : Dp K H (.ref a) (pairD p) := .tup (SqT.of h) (.cons (.int _) (.cons (.int _) .nil))
theorem dp_pairs {K : PySem.W.Frag} {H : Hp} : ∀ {as : List Addr} {ps : List (Int × Int)}, PairsAt H as ps → DpAll K H (as.map V.ref) (ps.map pairD)
  | _, _, .nil => .nil
  | _, _, .cons r t => .cons (dp_pair r) (dp_pairs t)
theorem can_pairs : ∀ ps : List (Int × Int), PyData.canLayAll0 (ps.map pairD) = true
  | [] => by simp only [List.map_nil, PyData.canLayAll0]
  | p :: ps => by simp only [List.map_cons, PyData.canLayAll0, pairD, PyData.canLay0, Bool.and_true, Bool.true_and, can_pairs ps]
theorem any_pairs (q : Int × Int) : ∀ ps : List (Int × Int), (ps.map pairD).any (fun y => PyData.eqv y (pairD q)) = decide (q ∈ ps)
  | [] => rfl
  | p :: ps => by
    rw [List.map_cons, List.any_cons, any_pairs q ps, eqv_pair]
    by_cases h : p = q
    · subst h; simp
    · have h' : ¬ q = p := fun z => h z.symm
      simp [h, h', List.mem_cons]
theorem depth_pair (p : Int × Int) : (pairD p).depth = 1 := by simp only [pairD, PyData.depth, PyData.depthAll]; rfl
def rInP (neg : Bool) : R2 := fun x y H Q => ∃ a l as ps p, x = .ref a ∧ y = .ref l ∧ PairAt H a p ∧ H l = some (.lst (as.map V.ref)) ∧ PairsAt H as ps ∧ Q (.bl (if neg then !decide (p ∈ ps) else decide (p ∈ ps))) H
section
variable {X : Cx}
theorem op_notInP {k : Nat} (hr : Room k X.A) : OpR X (compareOp .NotIn) (rInP true) := by
  intro pins s σ H x y v u Q I rx ry h
  obtain ⟨a, l, as, ps, p, rfl, rfl, ha, hl, hps, q⟩ := h
  obtain ⟨cs, r1⟩ := Dp.reads I _ _ v (dp_pair ha) rx
  obtain ⟨bs, r2⟩ := Dp.reads I _ _ u (Dp.lst (K := X.K) (SqL.of hl) (dp_pairs hps)) ry
  have hu := hr.units
  refine SeqAt.notIn_list_reads r2 r1 (can_pairs ps) (by simp only [pairD, PyData.canLay0, PyData.canLayAll0]; rfl) ?_ ?_
  · have := Nat.min_le_right (PyData.depthAll (ps.map pairD)) (pairD p).depth
    rw [depth_pair] at this
    rw [depth_pair]
    omega
  · rw [any_pairs]
    exact ⟨.bl _, H, I, rfl, q⟩
def rIndexP : V → List V → Hp → VK → Prop := fun x xs H Q => ∃ l a as ps p j, x = .ref l ∧ xs = [.ref a] ∧ PairAt H a p ∧ H l = some (.lst (as.map V.ref)) ∧ PairsAt H as ps ∧ ps[j]? = some p ∧ (∀ m, m < j → ps[m]? ≠ some p) ∧ Q (.int (j : Nat)) H
theorem mt_indexP {k : Nat} (hr : Room k X.A) : MtR X "list.index" rIndexP := by
  intro pins s σ H x xs v us Q I rx rxs h
  obtain ⟨l, a, as, ps, p, j, rfl, rfl, ha, hl, hps, hj, hno, q⟩ := h
  cases (show v = Value.ref l from rx)
  obtain ⟨uy, rfl, ry⟩ := vals1 rxs
  obtain ⟨cs, r1⟩ := Dp.reads I _ _ uy (dp_pair ha) ry
  obtain ⟨its, rv, ⟨⟨cls, dd, data, sl⟩, n, ho, hc, hdn, hd⟩, hlen⟩ := I.list (SqL.of (K := X.K) hl)
  simp only at hc hd
  subst hc hd
  obtain ⟨bs, r2⟩ := Dp.readsAll I (ps.map pairD) _ its (dp_pairs hps) rv
  have hmap := SeqAt.readsAll_map (ps.map pairD) its bs (can_pairs ps) r2
  have hu := hr.units
  have hlp : its.length = ps.length := by
    have := congrArg List.length hmap
    simpa using this
  have hjl : j < ps.length := (List.getElem?_eq_some_iff.mp hj).1
  have hj' : j < its.toArray.size := by simpa [hlp] using hjl
  have hsl := sizeLine_eq
  have hal : as.length = ps.length := Paired.length hps
  have rd : ∀ (m : Nat) (hm : m < its.toArray.size) (hm2 : m < ps.length), SeqAt.readOf s.heap its.toArray[m] = pairD ps[m] := fun m hm hm2 => by
    have e1 : (its.map (SeqAt.readOf s.heap))[m]? = (ps.map pairD)[m]? := by rw [hmap]
    have hm3 : m < its.length := by simpa using hm
    rw [List.getElem?_map, List.getElem?_map, List.getElem?_eq_getElem hm3, List.getElem?_eq_getElem hm2] at e1
    simpa using e1
  refine call_meets PySem.F.slot_list_index ⟨_, ho, rfl⟩ PySem.F.entry_list_index (PySem.F.args_list_index_2 _ _)
    (SeqAt.list_indexAt l its.toArray n dd sl uy (fun y => PyData.eqv (SeqAt.readOf s.heap y) (pairD p)) j hj' (by rw [List.length_map, hal] at hlen; omega) ?_ ?_)
    ⟨ho, SeqAt.items_eqAt (vs := its.toArray) (by simpa using r2) r1 (can_pairs ps) (by simp only [pairD, PyData.canLay0, PyData.canLayAll0]; rfl) ?_, ⟨.int (j : Nat), H, I.tok _, ⟨_, rfl⟩, q⟩⟩
  · rw [rd j hj' hjl, eqv_pair]
    have := (List.getElem?_eq_some_iff.mp hj).2
    rw [this]
    exact decide_eq_true rfl
  · intro m hm hmj
    have hm2 : m < ps.length := by omega
    rw [rd m hm hm2, eqv_pair]
    refine decide_eq_false fun z => hno m hmj ?_
    rw [List.getElem?_eq_getElem hm2, z]
  · have := Nat.min_le_right (PyData.depthAll (ps.map pairD)) (pairD p).depth
    rw [depth_pair] at this
    rw [depth_pair]
    omega
end
end L2
set_option Elab.async false
set_option linter.all false
set_option maxRecDepth 100000
set_option maxHeartbeats 4000000
namespace NH
open PySem L2
theorem same_new {H : Hp} {p : Addr} {o : HO} (n : H p = none) : Same H (upd H p o) := fun b u e => by rw [upd_ne (ne_of_none e n)]; exact e
theorem same_upd {H H1 : Hp} {p : Addr} {o : HO} (s : Same H H1) (n : H p = none) : Same H (upd H1 p o) := fun b u e => by
  rw [upd_ne (ne_of_none e n)]
  exact s _ _ e
structure BoxAt (H : Hp) (p : Addr) : Prop where
  ex : ∃ a b : Int, H p = some (.lst [.int a, .int b]) ∧ 0 ≤ b ∧ b < 2 ^ 40
theorem BoxAt.same {H H' : Hp} {p : Addr} (s : Same H H') (b : BoxAt H p) : BoxAt H' p := by
  obtain ⟨x, y, e, h0, h1⟩ := b.ex
  exact ⟨x, y, s _ _ e, h0, h1⟩
theorem box_upd {H : Hp} {p : Addr} {x y : Int} (h0 : 0 ≤ y) (h1 : y < 2 ^ 40) : BoxAt (upd H p (.lst [.int x, .int y])) p := ⟨x, y, upd_same, h0, h1⟩
theorem BoxAt.ne {H : Hp} {p q : Addr} (b : BoxAt H p) (h : H q = none) : q ≠ p := fun z => by
  obtain ⟨_, _, e, _⟩ := b.ex
  rw [← z, h] at e
  cases e
structure Step (p : Addr) (H H' : Hp) : Prop where
  keep : ∀ b o, b ≠ p → H b = some o → H' b = some o
  box : BoxAt H' p
theorem Step.refl {p : Addr} {H : Hp} (b : BoxAt H p) : Step p H H := ⟨fun _ _ _ e => e, b⟩
theorem Step.trans {p : Addr} {H H1 H2 : Hp} (a : Step p H H1) (b : Step p H1 H2) : Step p H H2 := ⟨fun c o n e => b.keep c o n (a.keep c o n e), b.box⟩
theorem Step.same {p : Addr} {H H1 H2 : Hp} (a : Step p H H1) (b : Same H1 H2) : Step p H H2 := ⟨fun c o n e => b c o (a.keep c o n e), a.box.same b⟩
theorem Step.free {p : Addr} {H H1 : Hp} {q : Addr} (a : Step p H H1) (n : H1 q = none) : H q = none := by
  cases e : H q with
  | none => rfl
  | some o =>
    rw [a.keep q o (a.box.ne n) e] at n
    cases n
theorem Step.new {p q : Addr} {H H1 : Hp} {o : HO} (a : Step p H H1) (n : H1 q = none) : Step p H (upd H1 q o) := a.same (same_new n)
theorem Step.take {p : Addr} {H H1 : Hp} {x y : Int} (a : Step p H H1) (h0 : 0 ≤ y) (h1 : y < 2 ^ 40) : Step p H (upd H1 p (.lst [.int x, .int y])) :=
  ⟨fun c o n e => by rw [upd_ne n]; exact a.keep c o n e, box_upd h0 h1⟩
theorem Step.put {p q : Addr} {H H1 : Hp} {o : HO} (a : Step p H H1) (n : H q = none) (hq : q ≠ p) : Step p H (upd H1 q o) := by
  refine ⟨fun c u hc e => ?_, ?_⟩
  · rw [upd_ne (ne_of_none e n)]
    exact a.keep c u hc e
  · obtain ⟨x, y, e, h0, h1⟩ := a.box.ex
    exact ⟨x, y, by rw [upd_ne hq.symm]; exact e, h0, h1⟩
def natV (i : Nat) : V := .int (i : Int)
theorem natsV_eq (n : Nat) : natsV n = (List.range n).map natV := rfl
theorem natV_get {l : List Nat} {i : Nat} {x : Nat} (h : l[i]? = some x) : (l.map natV)[i]? = some (natV x) := by rw [List.getElem?_map, h]; rfl
theorem natV_at {l : List Nat} {z : Int} {i : Nat} {x : Nat} (e : z = (i : Int)) (h : l[i]? = some x) : atI (l.map natV) z = some (natV x) := at_of e (natV_get h)
theorem ixN_nat {n : Nat} {z : Int} {i : Nat} (e : z = (i : Int)) (h : i < n) : ixN n z = some i := by
  subst e
  unfold ixN
  rw [if_pos (by omega), if_pos (by omega)]
  simp
def spTake : Sp := fun vs H Q _ => ∃ (p : Addr) (a b w : Int), vs = [.ref p, .int w] ∧ H p = some (.lst [.int a, .int b]) ∧ 0 ≤ b ∧ b < 2 ^ 40 ∧ 0 < w ∧ w < 2 ^ 30 ∧
  ∀ r a' b' : Int, 0 ≤ r → r < w → 0 ≤ b' → b' < 2 ^ 40 → Q (.int r) (upd H p (.lst [.int a', .int b']))
def spBox (K : PySem.W.Frag) : Sp := fun vs H Q _ => ∃ (a : Addr) (ns : List Int) (k : Int), vs = [.ref a, .int k] ∧ SqL K H a (ns.map V.int) ∧ 0 ≤ k ∧ k < 1000 ∧
  ∀ (p : Addr) (H' : Hp), H p = none → Same H H' → BoxAt H' p → Q (.ref p) H'
def spShuf : Sp := fun vs H Q _ => ∃ (p : Addr) (n : Nat), vs = [.ref p, natV n] ∧ BoxAt H p ∧ n < 100000 ∧
  ∀ (r : Addr) (π : List Nat) (H' : Hp), H r = none → Step p H H' → H' r = some (.lst (π.map natV)) → π.Perm (List.range n) → Q (.ref r) H'
theorem ints_at {ns : List Int} {j : Nat} (h : j < ns.length) : ∃ z, (ns.map V.int)[j]? = some (.int z) := by
  refine ⟨ns[j], ?_⟩
  rw [List.getElem?_map, List.getElem?_eq_getElem h]
  rfl
theorem ints_atI {ns : List Int} {k : Int} (h0 : 0 ≤ k) (h : k < ns.length) : ∃ z, atI (ns.map V.int) k = some (.int z) := by
  obtain ⟨z, e⟩ := ints_at (ns := ns) (j := k.toNat) (by omega)
  exact ⟨z, at_of (by omega) e⟩
theorem pow_ok (c : Int) {k : Int} (k0 : 0 ≤ k) (k1 : k < 1000) : (c % 2147483629 + 104729 * k + 12).natAbs < 2 ^ 64 := by
  have h1 := Int.emod_nonneg c (show (2147483629 : Int) ≠ 0 by decide)
  have h2 := Int.emod_lt_of_pos c (show (0 : Int) < 2147483629 by decide)
  omega
theorem seed_ok (x : Int) : 0 ≤ x % 2147483647 + 1 ∧ x % 2147483647 + 1 < 2 ^ 40 := by
  have h1 := Int.emod_nonneg x (show (2147483647 : Int) ≠ 0 by decide)
  have h2 := Int.emod_lt_of_pos x (show (0 : Int) < 2147483647 by decide)
  omega
theorem pick2 (b : Bool) (x y : Int) : atI [V.int x, V.int y] (if b = true then 1 else 0) = some (.int (if b = true then y else x)) := by cases b <;> rfl
theorem box_end {H H1 : Hp} {q p : Addr} {o : HO} {x y : Int} (nq : H1 q = none) (np : (upd H1 q o) p = none) (s1 : Same H H1) (h0 : 0 ≤ y) (h1 : y < 2 ^ 40) :
    H p = none ∧ Same H (upd (upd H1 q o) p (.lst [.int x, .int y])) ∧ BoxAt (upd (upd H1 q o) p (.lst [.int x, .int y])) p := by
  have s2 : Same H1 (upd H1 q o) := same_new nq
  have s3 : Same H (upd H1 q o) := s1.trans s2
  exact ⟨s3.free np, s3.trans (same_new np), ⟨x, y, upd_same, h0, h1⟩⟩
theorem erase_map {α β : Type} (f : α → β) : ∀ (l : List α) (k : Nat), (l.map f).eraseIdx k = (l.eraseIdx k).map f
  | [], _ => rfl
  | a :: r, 0 => rfl
  | a :: r, k + 1 => by
    show f a :: (r.map f).eraseIdx k = f a :: (r.eraseIdx k).map f
    rw [erase_map f r k]
theorem perm_erase : ∀ {l : List Nat} {k y : Nat}, l[k]? = some y → (y :: l.eraseIdx k).Perm l
  | [], k, y, h => by simp at h
  | a :: r, 0, y, h => by
    have e : a = y := by simpa using h
    subst e
    exact List.Perm.refl _
  | a :: r, k + 1, y, h => by
    have ih := perm_erase (l := r) (k := k) (y := y) (by simpa using h)
    show (y :: a :: r.eraseIdx k).Perm (a :: r)
    exact (List.Perm.swap a y _).trans (ih.cons a)
theorem perm_pop {n : Nat} {done rest : List Nat} {k y : Nat} (h : (done ++ rest).Perm (List.range n)) (hy : rest[k]? = some y) : ((done ++ [y]) ++ rest.eraseIdx k).Perm (List.range n) := by
  refine List.Perm.trans ?_ h
  rw [List.append_assoc]
  refine List.Perm.append_left done ?_
  exact perm_erase hy
end NH
set_option Elab.async false
set_option linter.all false
set_option maxRecDepth 100000
set_option maxHeartbeats 4000000
namespace NH
open PySem L2
def top (i : Nat) : Stmt := PySem.Challenge.pw_namelesshall_k17_the_same_but_for_number.main.body.getD i (.Pass ⟨0, 0, 0, 0⟩)
abbrev sBox : Stmt := top 10
abbrev sTake : Stmt := top 11
abbrev sShuf : Stmt := top 13
section
variable {P : Program} {w : World} {K : PySem.W.Frag} {mg : Str → Option Value} {base : Heap}
theorem scTake : FnScope ["_law_box_here", "_law_wide", "_law_digit", "_law_one"] ["_law_box_here", "_law_wide"] (defScope sTake) := ⟨rfl, rfl, rfl, by decide +kernel, rfl, by decide +kernel, by decide +kernel⟩
theorem ok_take {f : Addr} {fd : FuncData} (F : Fun K "_law_take" "_law_take" sTake f fd) : FnOk P w K mg base CX0 1 f fd ["_law_box_here", "_law_wide"] spTake := by
  refine F.ok scTake (fun vs H Q E h => ?_) (fun cdv A outer s H vs Q E hr h => ?_)
  · obtain ⟨p, a, b, w, rfl, _⟩ := h
    rfl
  · obtain ⟨p, a, b, wd, rfl, hp, b0, b1, w0, w1, k⟩ := h
    have nd := scTake.nd
    refine ⟨_, pss_cons (ps_if (pt_cmpR op_gt (pe_ix ix_list (pv 0) pe_int (fun _ _ => rfl)) pe_int (nomark _))
        (pss_cons (ps_set (i := 2) nd rfl (Or.inl rfl) (pe_op op_mod (pe_ix ix_list (pv 0) pe_int (fun _ _ => rfl)) (pv 1)))
        (pss_cons (ps_asg (pe_op op_fdiv (pe_ix ix_list (pv 0) pe_int (fun _ _ => rfl)) (pv 1)) (pg_sub (pv 0) pe_int set_list))
        (pss_one (ps_ret (pv 2)))))
        pss_nil)
      (pss_cons (ps_set (i := 3) nd rfl (Or.inl rfl) (pe_op op_mod (pe_op op_mul (pe_ix ix_list (pv 0) pe_int (fun _ _ => rfl)) pe_int) pe_int))
      (pss_cons (ps_asg (pe_op op_add (pe_op op_mod (pe_op op_add (pe_op op_mul (pv 3) pe_int) pe_int) pe_int) pe_int) (pg_sub (pv 0) pe_int set_list))
      (pss_one (ps_ret (pe_op op_mod (pe_op op_fdiv (pe_op op_add (pe_op op_mul (pv 3) pe_int) (pe_ix ix_list (pv 0) pe_int (fun _ _ => rfl))) pe_int) (pv 1)))))), ?_⟩
    refine ⟨_, rfl, p, _, _, _, rfl, rfl, SqL.of hp, rfl, _, _, rfl, rfl, _, rfl, ?_⟩
    refine ite2 (fun ha => ?_) (fun ha => ?_)
    · refine ⟨_, rfl, p, _, _, _, rfl, rfl, SqL.of hp, rfl, _, rfl, _, _, rfl, rfl, w0, ?_⟩
      refine ⟨_, rfl, p, _, _, _, rfl, rfl, SqL.of hp, rfl, _, rfl, _, _, rfl, rfl, ⟨w0, w1⟩, ?_⟩
      refine ⟨_, rfl, p, _, _, _, rfl, rfl, hp, rfl, ?_⟩
      refine ⟨_, rfl, ?_⟩
      exact k _ _ _ (Int.emod_nonneg _ (by omega)) (Int.emod_lt_of_pos _ w0) b0 b1
    · refine ⟨_, rfl, p, _, _, _, rfl, rfl, SqL.of hp, rfl, _, _, rfl, rfl, .inl ⟨by omega, by omega⟩, _, _, rfl, rfl, (by show (0 : Int) < 2147483647; decide), ?_⟩
      have h1 := Int.emod_nonneg (b * 69623) (show (2147483647 : Int) ≠ 0 by decide)
      have h2 := Int.emod_lt_of_pos (b * 69623) (show (0 : Int) < 2147483647 by decide)
      refine ⟨_, rfl, _, _, rfl, rfl, .inl ⟨by omega, by omega⟩, _, _, rfl, rfl, _, _, rfl, rfl, (by show (0 : Int) < 2147483629; decide), _, _, rfl, rfl, ?_⟩
      have h3 := Int.emod_nonneg (b * 69623 % 2147483647 * 48271 + 30103) (show (2147483629 : Int) ≠ 0 by decide)
      have h4 := Int.emod_lt_of_pos (b * 69623 % 2147483647 * 48271 + 30103) (show (0 : Int) < 2147483629 by decide)
      refine ⟨_, rfl, p, _, _, _, rfl, rfl, hp, rfl, ?_⟩
      refine ⟨_, rfl, _, _, rfl, rfl, .inl ⟨by omega, by omega⟩, _, rfl, p, _, _, _, rfl, rfl, SqL.of upd_same, rfl, _, _, rfl, rfl, _, _, rfl, rfl, ⟨by decide, by decide⟩, _, rfl, _, _, rfl, rfl, w0, ?_⟩
      exact k _ _ _ (Int.emod_nonneg _ (by omega)) (Int.emod_lt_of_pos _ w0) (by omega) (by omega)
theorem scBox : FnScope ["_law_script", "_law_k", "_law_cell", "_law_seed"] ["_law_script", "_law_k"] (defScope sBox) := ⟨rfl, rfl, rfl, by decide +kernel, rfl, by decide +kernel, by decide +kernel⟩
theorem ok_box {f : Addr} {fd : FuncData} (F : Fun K "_law_box" "_law_box" sBox f fd) (mlen : mg "len" = none) (mint : mg "int" = none) : FnOk P w K mg base CX0 1 f fd ["_law_script", "_law_k"] (spBox K) := by
  refine F.ok scBox (fun vs H Q E h => ?_) (fun cdv A outer s H vs Q E hr h => ?_)
  · obtain ⟨a, ns, k, rfl, _⟩ := h
    rfl
  · obtain ⟨a, ns, k, rfl, hS, k0, k1, kk⟩ := h
    have nd := scBox.nd
    refine ⟨_, pss_cons (ps_set (i := 2) nd rfl (Or.inl rfl) (pe_op op_mod (pe_op op_pow (pe_op op_add (pe_op op_mul pe_int (pv 1)) pe_int) pe_int) pe_int))
      (pss_cons (ps_if (pt_cmpR op_lt (pv 1) (pe_callB call_len_seq (by rfl) mlen PySem.boot_len (pa_cons (pv 0) pa_nil)) (nomark _))
        (pss_one (ps_set (i := 2) nd rfl (Or.inl rfl) (pe_ix ix_list (pv 0) (pv 1) (fun _ _ => rfl))))
        (pss_one (ps_if (pt_cmpR op_gt (pe_callB call_len_seq (by rfl) mlen PySem.boot_len (pa_cons (pv 0) pa_nil)) pe_int (nomark _))
          (pss_one (ps_set (i := 2) nd rfl (Or.inl rfl) (pe_op op_add (pv 2) (pe_op op_mul (pe_op op_mod (pe_ix ix_list (pv 0) (pe_op op_mod (pv 1) (pe_callB call_len_seq (by rfl) mlen PySem.boot_len (pa_cons (pv 0) pa_nil))) (fun _ _ => rfl)) pe_int) pe_int))))
          pss_nil)))
      (pss_cons (ps_set (i := 3) nd rfl (Or.inl rfl) (pe_op op_add (pe_op op_mod (pe_op op_pow (pe_op op_add (pe_op op_add (pe_op op_mod (pv 2) pe_int) (pe_op op_mul pe_int (pv 1))) pe_int) pe_int) pe_int) pe_int))
      (pss_one (ps_ret (pe_lst (pa_cons (pe_ix ix_list (pe_lst (pa_cons pe_int (pa_cons (pv 2) pa_nil))) (pe_callTy call_int1 (by rfl) mint (by decide +kernel) (pa_cons (pe_cmpR op_ge (pv 2) (pe_op op_pow pe_int pe_int) (nomark _)) pa_nil)) (fun _ _ => rfl)) (pa_cons (pv 3) pa_nil))))))), ?_⟩
    refine ⟨_, rfl, _, _, rfl, rfl, .inl ⟨by decide, by decide⟩, _, _, rfl, rfl, _, _, rfl, rfl, ⟨by decide, by decide, by omega⟩, _, _, rfl, rfl, (by show (0 : Int) < 2147483647; decide), ?_⟩
    refine ⟨_, rfl, _, rfl, a, _, rfl, .inl hS, _, _, rfl, rfl, _, rfl, ?_⟩
    refine ite2 (fun h1 => ?_) (fun h1 => ?_)
    · have h1 : k < ns.length := by simpa using of_decide_eq_true h1
      obtain ⟨z, ez⟩ := ints_atI k0 h1
      refine ⟨_, rfl, _, rfl, a, _, _, _, rfl, rfl, hS, ez, ?_⟩
      refine ⟨_, rfl, _, _, rfl, rfl, (by show (0 : Int) < 2147483629; decide), _, rfl, _, _, rfl, rfl, .inl ⟨by decide, by decide⟩, _, _, rfl, rfl, _, _, rfl, rfl, _, _, rfl, rfl, ⟨by decide, by decide, pow_ok _ k0 k1⟩, _, _, rfl, rfl, (by show (0 : Int) < 2147483647; decide), _, _, rfl, rfl, ?_⟩
      refine ⟨_, rfl, (by show 2 ≤ sizeLine; decide), fun q nq => ?_⟩
      refine ⟨_, rfl, _, _, rfl, rfl, ⟨by decide, by decide, by decide⟩, _, _, rfl, rfl, .inr ⟨_, rfl, ?_⟩⟩
      refine ⟨q, _, _, _, rfl, rfl, SqL.of upd_same, pick2 _ _ _, _, rfl, (by show 2 ≤ sizeLine; decide), fun p np => ?_⟩
      obtain ⟨e1, e2, e3⟩ := box_end (H := H) nq np (Same.refl H) (seed_ok _).1 (seed_ok _).2
      exact kk p _ e1 e2 e3
    · refine ⟨_, rfl, a, _, rfl, .inl hS, _, _, rfl, rfl, _, rfl, ?_⟩
      refine ite2 (fun h2 => ?_) (fun h2 => ?_)
      · have h2 : (0 : Int) < ns.length := by simpa using of_decide_eq_true h2
        obtain ⟨z, ez⟩ := ints_atI (ns := ns) (Int.emod_nonneg k (show (ns.length : Int) ≠ 0 by omega)) (Int.emod_lt_of_pos k h2)
        refine ⟨_, rfl, _, rfl, _, rfl, _, rfl, a, _, rfl, .inl hS, _, _, rfl, rfl, (by rw [List.length_map]; exact h2), a, _, _, _, rfl, rfl, hS, (by rw [List.length_map]; exact ez), _, _, rfl, rfl, (by show (0 : Int) < 2147483629; decide), _, _, rfl, rfl, .inr ⟨by decide, by decide⟩, _, _, rfl, rfl, ?_⟩
        refine ⟨_, rfl, _, _, rfl, rfl, (by show (0 : Int) < 2147483629; decide), _, rfl, _, _, rfl, rfl, .inl ⟨by decide, by decide⟩, _, _, rfl, rfl, _, _, rfl, rfl, _, _, rfl, rfl, ⟨by decide, by decide, pow_ok _ k0 k1⟩, _, _, rfl, rfl, (by show (0 : Int) < 2147483647; decide), _, _, rfl, rfl, ?_⟩
        refine ⟨_, rfl, (by show 2 ≤ sizeLine; decide), fun q nq => ?_⟩
        refine ⟨_, rfl, _, _, rfl, rfl, ⟨by decide, by decide, by decide⟩, _, _, rfl, rfl, .inr ⟨_, rfl, ?_⟩⟩
        refine ⟨q, _, _, _, rfl, rfl, SqL.of upd_same, pick2 _ _ _, _, rfl, (by show 2 ≤ sizeLine; decide), fun p np => ?_⟩
        obtain ⟨e1, e2, e3⟩ := box_end (H := H) nq np (Same.refl H) (seed_ok _).1 (seed_ok _).2
        exact kk p _ e1 e2 e3
      · 
        refine ⟨_, rfl, _, _, rfl, rfl, (by show (0 : Int) < 2147483629; decide), _, rfl, _, _, rfl, rfl, .inl ⟨by decide, by decide⟩, _, _, rfl, rfl, _, _, rfl, rfl, _, _, rfl, rfl, ⟨by decide, by decide, pow_ok _ k0 k1⟩, _, _, rfl, rfl, (by show (0 : Int) < 2147483647; decide), _, _, rfl, rfl, ?_⟩
        refine ⟨_, rfl, (by show 2 ≤ sizeLine; decide), fun q nq => ?_⟩
        refine ⟨_, rfl, _, _, rfl, rfl, ⟨by decide, by decide, by decide⟩, _, _, rfl, rfl, .inr ⟨_, rfl, ?_⟩⟩
        refine ⟨q, _, _, _, rfl, rfl, SqL.of upd_same, pick2 _ _ _, _, rfl, (by show 2 ≤ sizeLine; decide), fun p np => ?_⟩
        obtain ⟨e1, e2, e3⟩ := box_end (H := H) nq np (Same.refl H) (seed_ok _).1 (seed_ok _).2
        exact kk p _ e1 e2 e3
theorem scShuf : FnScope ["_law_box_here", "_law_many", "_law_left", "_law_k"] ["_law_box_here", "_law_many"] (defScope sShuf) := ⟨rfl, rfl, rfl, by decide +kernel, rfl, by decide +kernel, by decide +kernel⟩
theorem ok_shuf {f fT : Addr} {fd fdT : FuncData} (F : Fun K "_law_shuffled" "_law_shuffled" sShuf f fd) (GT : FnOk P w K mg base CX0 1 fT fdT ["_law_box_here", "_law_wide"] spTake) (bT : Binds K fdT ["_law_box_here", "_law_wide"] []) (mT : mg "_law_take" = some (.ref fT)) (kT : PySem.W.keepIn K (.ref fT) = true)
    (mrange : mg "range" = none) (mlist : mg "list" = none) : FnOk P w K mg base CX0 2 f fd ["_law_box_here", "_law_many"] spShuf := by
  refine F.ok scShuf (fun vs H Q E h => ?_) (fun cdv A outer s H vs Q E hr h => ?_)
  · obtain ⟨p, n, rfl, _⟩ := h
    rfl
  · obtain ⟨p, n, rfl, hb, hn, k⟩ := h
    have nd := scShuf.nd
    refine ⟨_, pss_cons (ps_set (i := 2) nd rfl (Or.inr rfl) (pe_callTy (call_list_rng (by rfl)) (by rfl) mlist (by decide +kernel) (pa_cons (pe_callTy call_rng1 (by rfl) mrange (by decide +kernel) (pa_cons (pv 1) pa_nil)) pa_nil)))
      (pss_one (ps_ret (pe_lc (own := [("_law_k", 3)]) (g := gName 3) (te := tBM K "list" rPopAt (tVar 2) (tCons (tCall spTake [] E0 (tCons (tVar 0) (tCons (tOp (rI0 fun i j => .int (i - j)) (tVar 1) (tVar 3)) tNil))) tNil)) (by rfl) nd (pi_range1 (by rfl) mrange (pa_cons (pv 1) pa_nil)) (blkOk_by (own := [("_law_k", 3)]) (N := ["_law_box_here", "_law_many", "_law_left", "_law_k"]) (sc := defScope sShuf) (by decide +kernel))
        (fun _ _ _ _ _ => pg_name (i := 3) nd rfl (Or.inl rfl)) (fun _ _ _ _ _ => pts_nil)
        (fun _ _ _ _ _ => by exact pe_bm PySem.F.plainAttrs_list PySem.F.slot_list_pop PySem.F.type_list_pop mt_popAt (pv 2) (pa_cons (pe_call GT hr (by rfl) mT kT bT .nil pass0 (pa_cons (pv 0) (pa_cons (pe_op op_sub (pv 1) (pv 3)) pa_nil))) pa_nil))))), ?_⟩
    refine ⟨_, rfl, _, rfl, fun r0 n0 => ⟨r0, n, rfl, upd_same, by omega, fun L nL => ?_⟩⟩
    have s1 := (Step.refl hb).new (o := .rng 0 n) n0
    have neL : L ≠ p := s1.box.ne nL
    have nLH : H L = none := s1.free nL
    have s2 := s1.new (o := .lst (natsV n)) nL
    refine ⟨_, rfl, _, rfl, by omega, by omega, fun D nD => ?_⟩
    have neD : D ≠ p := s2.box.ne nD
    have nDH : H D = none := s2.free nD
    have neDL : D ≠ L := fun z => by rw [z, upd_same] at nD; cases nD
    refine lc_range (lo := 0) (n := _) (fun i H1 => Step p H H1 ∧ ∃ rest done : List Nat, H1 L = some (.lst (rest.map natV)) ∧ H1 D = some (.lst (done.map natV)) ∧ (done ++ rest).Perm (List.range n) ∧ done.length = i)
      ⟨s2.new nD, List.range n, [], (by rw [upd_ne neDL.symm, upd_same, natsV_eq]), upd_same, List.Perm.refl _, rfl⟩ ?_ ?_
    · rintro i H1 hi ⟨s3, rest, done, hL, hD, hp, hl⟩
      have hi' : i < n := by omega
      have lens : done.length + rest.length = n := by
        have := hp.length_eq
        rw [List.length_append, List.length_range] at this
        exact this
      refine ⟨rfl, ?_⟩
      dsimp only [tYes]
      rw [if_pos rfl]
      obtain ⟨xa, xb, hx, hx0, hx1⟩ := s3.box.ex
      refine ⟨_, rfl, .inl ⟨rfl, _, SqL.of hL⟩, _, rfl, _, rfl, _, rfl, _, _, rfl, rfl, p, xa, xb, _, rfl, hx, hx0, hx1, by omega, by omega, fun r a' b' r0 r1 c0 c1 => ?_⟩
      have s4 := s3.take (x := a') c0 c1
      have hrl : r.toNat < rest.length := by omega
      have hy : rest[r.toNat]? = some rest[r.toNat] := List.getElem?_eq_getElem hrl
      refine ⟨L, _, r, r.toNat, _, rfl, rfl, (by rw [upd_ne neL]; exact hL), by omega, by omega, ?_, natV_get hy, ?_⟩
      · rw [List.length_map]
        exact (ixN_seq (ixN_nat (by omega) hrl)).1
      · have s5 := (s4.put (o := .lst ((rest.map natV).eraseIdx r.toNat)) nLH neL)
        refine ⟨done.map natV, (by rw [upd_ne neDL, upd_ne neD]; exact hD), (by rw [List.length_map, hl, sizeLine_eq]; omega), s5.put nDH neD, rest.eraseIdx r.toNat, done ++ [rest[r.toNat]], (by rw [upd_ne neDL.symm, upd_same, erase_map]), (by rw [List.map_append]; exact upd_same), perm_pop hp hy, (by rw [List.length_append, hl]; rfl)⟩
    · rintro H1 ⟨s3, rest, done, hL, hD, hp, hl⟩
      have lens : done.length + rest.length = n := by
        have := hp.length_eq
        rw [List.length_append, List.length_range] at this
        exact this
      have e : rest = [] := List.length_eq_zero_iff.mp (by omega)
      subst e
      rw [List.append_nil] at hp
      exact k D done H1 nDH s3 hD hp
end
end NH
set_option Elab.async false
set_option linter.all false
set_option maxRecDepth 100000
set_option maxHeartbeats 4000000
namespace NH
open PySem L2
abbrev End := Nat × Nat
abbrev Tie := End × End
def endsOf (t : Tie) : List End := if t.1 = t.2 then [t.1] else [t.1, t.2]
def ends (ties : List Tie) : List End := ties.flatMap endsOf
structure EndsOk (n room : Nat) (es : List End) (cnt : List Nat) : Prop where
  len : cnt.length = n
  le : ∀ (h c : Nat), cnt[h]? = some c → c ≤ room
  nd : es.Nodup
  mem : ∀ h s, (h, s) ∈ es ↔ ∃ c, cnt[h]? = some c ∧ s < c
theorem set_get {l : List Nat} {i j x : Nat} {c : Nat} (h : (l.set i x)[j]? = some c) : (j = i ∧ c = x) ∨ (j ≠ i ∧ l[j]? = some c) := by
  by_cases e : i = j
  · subst e
    have hl : i < l.length := by
      have := (List.getElem?_eq_some_iff.mp h).1
      simpa using this
    rw [List.getElem?_set_self hl] at h
    exact .inl ⟨rfl, (Option.some.inj h).symm⟩
  · rw [List.getElem?_set_ne e] at h
    exact .inr ⟨fun z => e z.symm, h⟩
theorem EndsOk.add {n room : Nat} {es : List End} {cnt : List Nat} {g c : Nat} (k : EndsOk n room es cnt) (hc : cnt[g]? = some c) (hr : c < room) : EndsOk n room (es ++ [(g, c)]) (cnt.set g (c + 1)) := by
  have hl : g < cnt.length := (List.getElem?_eq_some_iff.mp hc).1
  have hs : (cnt.set g (c + 1))[g]? = some (c + 1) := List.getElem?_set_self hl
  refine ⟨by rw [List.length_set, k.len], fun h d e => ?_, ?_, fun h s => ?_⟩
  · rcases set_get e with ⟨_, z⟩ | ⟨_, z⟩
    · omega
    · exact k.le h d z
  · refine nd_snoc k.nd fun m => ?_
    obtain ⟨d, e, hd⟩ := (k.mem g c).mp m
    rw [hc] at e
    cases e
    exact Nat.lt_irrefl _ hd
  · rw [List.mem_append, List.mem_singleton, k.mem]
    constructor
    · rintro (⟨d, e, hd⟩ | e)
      · by_cases z : g = h
        · subst z
          rw [hc] at e
          cases e
          exact ⟨_, hs, by omega⟩
        · exact ⟨d, by rw [List.getElem?_set_ne z]; exact e, hd⟩
      · cases e
        exact ⟨_, hs, by omega⟩
    · rintro ⟨d, e, hd⟩
      rcases set_get e with ⟨z, y⟩ | ⟨z, y⟩
      · subst z y
        by_cases q : s = c
        · exact .inr (by rw [q])
        · exact .inl ⟨c, hc, by omega⟩
      · exact .inl ⟨d, y, hd⟩
structure TiesOk (n room : Nat) (ties : List Tie) (cnt : List Nat) : Prop where
  ok : EndsOk n room (ends ties) cnt
theorem ends_snoc (ties : List Tie) (t : Tie) : ends (ties ++ [t]) = ends ties ++ endsOf t := by
  unfold ends
  rw [List.flatMap_append]
  simp
theorem TiesOk.nil (n room : Nat) : TiesOk n room [] (List.replicate n 0) := by
  refine ⟨⟨List.length_replicate, fun h c e => ?_, List.nodup_nil, fun h s => ?_⟩⟩
  · have := List.getElem?_eq_some_iff.mp e
    obtain ⟨_, z⟩ := this
    rw [List.getElem_replicate] at z
    omega
  · constructor
    · intro z
      exact absurd z (by simp [ends])
    · rintro ⟨c, e, hc⟩
      obtain ⟨_, z⟩ := List.getElem?_eq_some_iff.mp e
      rw [List.getElem_replicate] at z
      omega
section
variable {n room : Nat} {ties : List Tie} {cnt : List Nat} {g h c d : Nat}
theorem TiesOk.self (k : TiesOk n room ties cnt) (hc : cnt[g]? = some c) (hr : c < room) : TiesOk n room (ties ++ [((g, c), (g, c))]) (cnt.set g (c + 1)) := by
  refine ⟨?_⟩
  rw [ends_snoc, show endsOf ((g, c), (g, c)) = [(g, c)] from if_pos rfl]
  exact k.ok.add hc hr
theorem TiesOk.own (k : TiesOk n room ties cnt) (hc : cnt[g]? = some c) (hr : c + 1 < room) : TiesOk n room (ties ++ [((g, c), (g, c + 1))]) ((cnt.set g (c + 1)).set g (c + 1 + 1)) := by
  refine ⟨?_⟩
  have hl : g < cnt.length := (List.getElem?_eq_some_iff.mp hc).1
  have ne : ¬ ((g, c) : End) = (g, c + 1) := fun z => by
    have := congrArg Prod.snd z
    simp at this
  rw [ends_snoc, show endsOf ((g, c), (g, c + 1)) = [(g, c), (g, c + 1)] from if_neg ne]
  rw [show [((g, c) : End), (g, c + 1)] = [(g, c)] ++ [(g, c + 1)] from rfl, ← List.append_assoc]
  exact (k.ok.add hc (by omega)).add (List.getElem?_set_self hl) hr
theorem TiesOk.two (k : TiesOk n room ties cnt) (hgh : g ≠ h) (hc : cnt[g]? = some c) (hd : cnt[h]? = some d) (hr : c < room) (hr2 : d < room) : TiesOk n room (ties ++ [((g, c), (h, d))]) ((cnt.set h (d + 1)).set g (c + 1)) := by
  refine ⟨?_⟩
  have ne : ¬ ((g, c) : End) = (h, d) := fun z => hgh (congrArg Prod.fst z)
  rw [ends_snoc, show endsOf ((g, c), (h, d)) = [(g, c), (h, d)] from if_neg ne]
  rw [show [((g, c) : End), (h, d)] = [(g, c)] ++ [(h, d)] from rfl, ← List.append_assoc, List.set_comm _ _ hgh.symm]
  exact (k.ok.add hc hr).add (by rw [List.getElem?_set_ne hgh]; exact hd) hr2
theorem TiesOk.tree (k : TiesOk n room ties cnt) (hgh : h ≠ g) (hc : cnt[g]? = some c) (hd : cnt[h]? = some 0) (hr : c < room) (hr2 : 0 < room) : TiesOk n room (ties ++ [((h, 0), (g, c))]) ((cnt.set h 1).set g (c + 1)) := by
  refine ⟨?_⟩
  have ne : ¬ ((h, 0) : End) = (g, c) := fun z => hgh (congrArg Prod.fst z)
  rw [ends_snoc, show endsOf ((h, 0), (g, c)) = [(h, 0), (g, c)] from if_neg ne]
  rw [show [((h, 0) : End), (g, c)] = [(h, 0)] ++ [(g, c)] from rfl, ← List.append_assoc]
  exact (k.ok.add hd hr2).add (by rw [List.getElem?_set_ne hgh]; exact hc) hr
end
theorem sum_setN : ∀ {l : List Nat} {j z y : Nat}, l[j]? = some z → (l.set j y).sum + z = l.sum + y
  | [], j, z, y, h => by simp at h
  | a :: r, 0, z, y, h => by
    have e : a = z := by simpa using h
    subst e
    show (y :: r).sum + a = (a :: r).sum + y
    rw [List.sum_cons, List.sum_cons]
    omega
  | a :: r, j + 1, z, y, h => by
    have ih := sum_setN (l := r) (j := j) (z := z) (y := y) (by simpa using h)
    show (a :: r.set j y).sum + z = (a :: r).sum + y
    rw [List.sum_cons, List.sum_cons]
    omega
theorem sum_two : ∀ {h : Nat} {l : List Nat}, (∀ g, g < h → ∃ c, l[g]? = some c ∧ 2 ≤ c) → 2 * h ≤ l.sum
  | 0, _, _ => Nat.zero_le _
  | h + 1, [], k => by
    obtain ⟨c, e, _⟩ := k 0 (by omega)
    simp at e
  | h + 1, a :: r, k => by
    obtain ⟨c, e, hc⟩ := k 0 (by omega)
    have ea : a = c := by simpa using e
    have ih := sum_two (h := h) (l := r) fun g hg => by
      obtain ⟨c, e, hc⟩ := k (g + 1) (by omega)
      exact ⟨c, by simpa using e, hc⟩
    rw [List.sum_cons]
    omega
theorem room_left {room h : Nat} {l : List Nat} (hr : 2 ≤ room) (hl : h ≤ l.length) (hs : l.sum < 2 * h) : ∃ g c, g < h ∧ l[g]? = some c ∧ c < room := by
  apply Classical.byContradiction
  intro no
  have := sum_two (h := h) (l := l) fun g hg => by
    have hgl : g < l.length := by omega
    refine ⟨l[g], List.getElem?_eq_getElem hgl, ?_⟩
    apply Classical.byContradiction
    intro lt
    exact no ⟨g, l[g], hg, List.getElem?_eq_getElem hgl, by omega⟩
  omega
def Tree (n : Nat) (ties : List Tie) : Prop := ∀ h, 0 < h → h < n → ∃ g s t, g < h ∧ ((h, s), (g, t)) ∈ ties
theorem Tree.more {n : Nat} {ties : List Tie} {t : Tie} (k : Tree n ties) : Tree n (ties ++ [t]) := fun h h0 h1 => by
  obtain ⟨g, s, t', hg, m⟩ := k h h0 h1
  exact ⟨g, s, t', hg, List.mem_append_left _ m⟩
def PairN (H : Hp) (a : Addr) (e : End) : Prop := H a = some (.tup [natV e.1, natV e.2])
def TieAt (H : Hp) (a : Addr) (t : Tie) : Prop := ∃ x y, H a = some (.tup [.ref x, .ref y]) ∧ PairN H x t.1 ∧ PairN H y t.2
def Tups (H H' : Hp) : Prop := ∀ b xs, H b = some (.tup xs) → H' b = some (.tup xs)
theorem Tups.trans {H H1 H2 : Hp} (a : Tups H H1) (b : Tups H1 H2) : Tups H H2 := fun c xs e => b c xs (a c xs e)
theorem sTups {H H' : Hp} (s : Same H H') : Tups H H' := fun b xs e => s b _ e
theorem Step.tups {p : Addr} {H H' : Hp} (s : Step p H H') (hb : BoxAt H p) : Tups H H' := fun b xs e => s.keep b _ (fun z => by
  obtain ⟨_, _, e', _⟩ := hb.ex
  rw [z, e'] at e
  cases e) e
theorem tups_lst {H : Hp} {l : Addr} {xs : List V} {o : HO} (h : H l = some (.lst xs)) : Tups H (upd H l o) := fun b ys e => by
  rw [upd_ne (ne_of e h (fun z => nomatch z))]
  exact e
theorem TieAt.tups {H H' : Hp} {a : Addr} {t : Tie} (s : Tups H H') (h : TieAt H a t) : TieAt H' a t := by
  obtain ⟨x, y, e, e1, e2⟩ := h
  exact ⟨x, y, s _ _ e, s _ _ e1, s _ _ e2⟩
theorem paired_snoc {α β : Type} {R : α → β → Prop} {x : α} {y : β} (r : R x y) : ∀ {xs : List α} {ys : List β}, Paired R xs ys → Paired R (xs ++ [x]) (ys ++ [y])
  | _, _, .nil => .cons r .nil
  | _, _, .cons q t => .cons q (paired_snoc r t)
theorem paired_get {α β : Type} {R : α → β → Prop} : ∀ {xs : List α} {ys : List β} {i : Nat} {x : α}, Paired R xs ys → xs[i]? = some x → ∃ y, ys[i]? = some y ∧ R x y
  | _, _, _, _, .nil, e => by simp at e
  | _, _, 0, _, .cons r _, e => by simp at e; subst e; exact ⟨_, rfl, r⟩
  | _, _, i + 1, x, .cons _ t, e => by
    obtain ⟨u, h1, h2⟩ := paired_get (i := i) (x := x) t (by simpa using e)
    exact ⟨u, by simpa using h1, h2⟩
theorem paired_get' {α β : Type} {R : α → β → Prop} : ∀ {xs : List α} {ys : List β} {i : Nat} {y : β}, Paired R xs ys → ys[i]? = some y → ∃ x, xs[i]? = some x ∧ R x y
  | _, _, _, _, .nil, e => by simp at e
  | _, _, 0, _, .cons r _, e => by simp at e; subst e; exact ⟨_, rfl, r⟩
  | _, _, i + 1, x, .cons _ t, e => by
    obtain ⟨u, h1, h2⟩ := paired_get' (i := i) (y := x) t (by simpa using e)
    exact ⟨u, by simpa using h1, h2⟩
theorem take_snoc {α : Type} {l : List α} {i : Nat} {d : α} (h : l[i]? = some d) : l.take (i + 1) = l.take i ++ [d] := by
  rw [List.take_add_one, h]
  rfl
structure TiesAt (H : Hp) (l : Addr) (ties : List Tie) : Prop where
  ex : ∃ as : List Addr, H l = some (.lst (as.map V.ref)) ∧ Paired (TieAt H) as ties
theorem TiesAt.put {H H' : Hp} {l a : Addr} {as : List Addr} {ties : List Tie} {t : Tie} (e : H l = some (.lst (as.map V.ref))) (h : Paired (TieAt H) as ties) (s : Tups H H') (ht : TieAt H' a t) (hl : H' l = some (.lst (as.map V.ref ++ [.ref a]))) : TiesAt H' l (ties ++ [t]) := by
  refine ⟨as ++ [a], by rw [List.map_append]; exact hl, ?_⟩
  exact paired_snoc (R := TieAt H') ht (Paired.mapP h fun _ _ q => q.tups s)
def spTies : Sp := fun vs H Q _ => ∃ (p : Addr) (n room : Nat), vs = [.ref p, natV n, natV room] ∧ BoxAt H p ∧ 1 ≤ n ∧ n ≤ 1000 ∧ 2 ≤ room ∧ room ≤ 1000 ∧
  ∀ (r lt lc : Addr) (ties : List Tie) (cnt : List Nat) (H' : Hp), H r = none → Step p H H' → H' r = some (.tup [.ref lt, .ref lc]) → H lt = none → H lc = none → TiesAt H' lt ties → H' lc = some (.lst (cnt.map natV)) →
    TiesOk n room ties cnt → Tree n ties → Q (.ref r) H'
end NH
set_option Elab.async false
set_option linter.all false
set_option maxRecDepth 100000
set_option maxHeartbeats 4000000
namespace NH
open PySem L2
abbrev sTies : Stmt := top 14
structure Sel (cnt : List Nat) (room i : Nat) (sel : List Nat) : Prop where
  len : sel.length ≤ i
  has : ∀ x ∈ sel, x < i ∧ ∃ c, cnt[x]? = some c ∧ c < room
  all : ∀ g c, g < i → cnt[g]? = some c → c < room → g ∈ sel
theorem Sel.nil (cnt : List Nat) (room : Nat) : Sel cnt room 0 [] := ⟨Nat.le_refl _, (fun x hx => nomatch hx), fun g c h => absurd h (Nat.not_lt_zero _)⟩
theorem Sel.yes {cnt : List Nat} {room i c : Nat} {sel : List Nat} (s : Sel cnt room i sel) (e : cnt[i]? = some c) (h : c < room) : Sel cnt room (i + 1) (sel ++ [i]) := by
  refine ⟨by rw [List.length_append]; have := s.len; show sel.length + 1 ≤ i + 1; omega, fun x hx => ?_, fun g d hg ed hd => ?_⟩
  · rcases List.mem_append.mp hx with z | z
    · obtain ⟨a, b⟩ := s.has x z
      exact ⟨by omega, b⟩
    · rw [List.mem_singleton.mp z]
      exact ⟨by omega, c, e, h⟩
  · by_cases q : g = i
    · exact List.mem_append_right _ (by rw [q]; exact List.mem_singleton.mpr rfl)
    · exact List.mem_append_left _ (s.all g d (by omega) ed hd)
theorem Sel.no {cnt : List Nat} {room i c : Nat} {sel : List Nat} (s : Sel cnt room i sel) (e : cnt[i]? = some c) (h : ¬ c < room) : Sel cnt room (i + 1) sel := by
  refine ⟨Nat.le_succ_of_le s.len, fun x hx => ?_, fun g d hg ed hd => ?_⟩
  · obtain ⟨a, b⟩ := s.has x hx
    exact ⟨by omega, b⟩
  · refine s.all g d ?_ ed hd
    rcases Nat.lt_succ_iff_lt_or_eq.mp hg with q | q
    · exact q
    · subst q
      rw [e] at ed
      cases ed
      exact absurd hd h
abbrev nTies : List Str := ["_law_box_here", "_law_many", "_law_room", "_law_count", "_law_ties_here", "_law_h", "_law_g", "_law_some", "_law_k", "_law_form"]
section
variable {P : Program} {w : World} {K : PySem.W.Frag} {mg : Str → Option Value} {base : Heap}
theorem scTies : FnScope nTies ["_law_box_here", "_law_many", "_law_room"] (defScope sTies) := ⟨rfl, rfl, rfl, by decide +kernel, rfl, by decide +kernel, by decide +kernel⟩
abbrev ttSel (K : PySem.W.Frag) : TT := tTest (tOp (rI0 fun i j => .bl (decide (i < j))) (tOp (rIxL K) (tVar 3) (tVar 6)) (tVar 2))
theorem sel_lc {σ : St} {H1 : Hp} {Lc D : Addr} {cnt : List Nat} {room m : Nat} {Qd : Hp → Prop} (h3 : σ[3]? = some (some (.ref Lc))) (h2 : σ[2]? = some (some (natV room))) (h6 : 6 < σ.length) (hL : H1 Lc = some (.lst (cnt.map natV))) (hm : m ≤ cnt.length) (hm2 : m ≤ 1000) (nD : H1 D = none)
    (k : ∀ sel H2, Same H1 H2 → H2 D = some (.lst (sel.map natV)) → Sel cnt room m sel → Qd H2) :
    ∃ W : Nat → Nat → Hp → Prop, (∃ m, W 0 m (upd H1 D (.lst []))) ∧ ∀ i m' H, W i m' H →
      ((Itr 0 m).stop i H ∧ Qd H) ∨ ((Itr 0 m).go i H ∧ ∃ Nx : Hp → Prop, (∀ H', Nx H' → ∃ m'', m'' < m' ∧ W (i + 1) m'' H') ∧ ∀ x H', (Itr 0 m).yld i H x H' → gName 6 x (wipe σ [6]) H' fun σ2 H2 => wipe σ2 [6] = wipe σ [6] ∧ ttSel K σ2 H2 fun b H3 =>
        if b = true then tVar 6 σ2 H3 fun y H4 => ∃ acc, H4 D = some (.lst acc) ∧ acc.length < sizeLine ∧ Nx (upd H4 D (.lst (acc ++ [y]))) else Nx H3) := by
  have neD : Lc ≠ D := ne_of_none hL nD
  refine lc_range (lo := 0) (n := m) (σ := σ) (vs := [6]) (te := tVar 6) (tt := ttSel K) (g := gName 6) (fun i H2 => Same H1 H2 ∧ ∃ sel, H2 D = some (.lst (sel.map natV)) ∧ Sel cnt room i sel) ⟨same_new nD, [], upd_same, Sel.nil _ _⟩ ?_ ?_
  · rintro i H2 hi ⟨s2, sel, hD, hs⟩
    obtain ⟨c, ec⟩ : ∃ c, cnt[i]? = some c := ⟨cnt[i], List.getElem?_eq_getElem (by omega)⟩
    have e3 : ((σ.set 6 none).set 6 (some (.int (0 + (i : Int)))))[3]? = some (some (.ref Lc)) := by
      rw [List.getElem?_set_ne (by decide), List.getElem?_set_ne (by decide)]; exact h3
    have e2 : ((σ.set 6 none).set 6 (some (.int (0 + (i : Int)))))[2]? = some (some (natV room)) := by
      rw [List.getElem?_set_ne (by decide), List.getElem?_set_ne (by decide)]; exact h2
    have e6 : ((σ.set 6 none).set 6 (some (.int (0 + (i : Int)))))[6]? = some (some (.int (0 + (i : Int)))) := List.getElem?_set_self (by rw [List.length_set]; exact h6)
    refine ⟨?_, ?_⟩
    · show ((σ.set 6 none).set 6 (some (.int (0 + (i : Int))))).set 6 none = σ.set 6 none
      rw [List.set_set, List.set_set]
    · refine ⟨_, e3, _, e6, Lc, _, _, _, rfl, rfl, SqL.of (s2 _ _ hL), natV_at (by omega) ec, _, e2, _, _, rfl, rfl, _, rfl, ?_⟩
      refine ite2 (fun h => ?_) (fun h => ?_)
      · have h' : c < room := by
          have := of_decide_eq_true h
          omega
        refine ⟨_, e6, _, hD, (by rw [List.length_map, sizeLine_eq]; have := hs.len; omega), fun b o e => ?_, sel ++ [i], ?_, hs.yes ec h'⟩
        · rw [upd_ne (ne_of_none e nD)]
          exact s2 _ _ e
        · rw [upd_same, List.map_append]
          show _ = some (HO.lst (sel.map natV ++ [V.int ((i : Nat) : Int)]))
          rw [Int.zero_add]
      · have h' : ¬ c < room := fun z => h (decide_eq_true (by omega))
        exact ⟨s2, sel, hD, hs.no ec h'⟩
  · rintro H2 ⟨s2, sel, hD, hs⟩
    exact k sel H2 s2 hD hs
theorem app_tie {p Lt Lc t1 t2 t3 : Addr} {H H8 : Hp} {as : List Addr} {ties : List Tie} {cnt : List Nat} {x y : End} (s8 : Step p H H8) (hLc : H8 Lc = some (.lst (cnt.map natV))) (hLt : H8 Lt = some (.lst (as.map V.ref))) (hP : Paired (TieAt H8) as ties)
    (nLt : H Lt = none) (neLt : Lt ≠ p) (neLL : Lt ≠ Lc) (m1 : H8 t1 = none) (m2 : (upd H8 t1 (.tup [natV x.1, natV x.2])) t2 = none) (m3 : (upd (upd H8 t1 (.tup [natV x.1, natV x.2])) t2 (.tup [natV y.1, natV y.2])) t3 = none) :
    (upd (upd (upd H8 t1 (.tup [natV x.1, natV x.2])) t2 (.tup [natV y.1, natV y.2])) t3 (.tup [.ref t1, .ref t2])) Lt = some (.lst (as.map V.ref)) ∧
    Step p H (upd (upd (upd (upd H8 t1 (.tup [natV x.1, natV x.2])) t2 (.tup [natV y.1, natV y.2])) t3 (.tup [.ref t1, .ref t2])) Lt (.lst (as.map V.ref ++ [.ref t3]))) ∧
    (upd (upd (upd (upd H8 t1 (.tup [natV x.1, natV x.2])) t2 (.tup [natV y.1, natV y.2])) t3 (.tup [.ref t1, .ref t2])) Lt (.lst (as.map V.ref ++ [.ref t3]))) Lc = some (.lst (cnt.map natV)) ∧
    TiesAt (upd (upd (upd (upd H8 t1 (.tup [natV x.1, natV x.2])) t2 (.tup [natV y.1, natV y.2])) t3 (.tup [.ref t1, .ref t2])) Lt (.lst (as.map V.ref ++ [.ref t3]))) Lt (ties ++ [(x, y)]) := by
  have s67 := ((same_new (o := .tup [natV x.1, natV x.2]) m1).trans (same_new (o := .tup [natV y.1, natV y.2]) m2)).trans (same_new (o := .tup [.ref t1, .ref t2]) m3)
  have e1 := ((same_new (o := .tup [natV y.1, natV y.2]) m2).trans (same_new (o := .tup [.ref t1, .ref t2]) m3)) t1 _ upd_same
  have e2 := (same_new (o := .tup [.ref t1, .ref t2]) m3) t2 _ (upd_same (H := upd H8 t1 (.tup [natV x.1, natV x.2])) (o := .tup [natV y.1, natV y.2]))
  have e3 : (upd (upd (upd H8 t1 (.tup [natV x.1, natV x.2])) t2 (.tup [natV y.1, natV y.2])) t3 (.tup [.ref t1, .ref t2])) t3 = some (.tup [.ref t1, .ref t2]) := upd_same
  generalize (upd (upd (upd H8 t1 (.tup [natV x.1, natV x.2])) t2 (.tup [natV y.1, natV y.2])) t3 (.tup [.ref t1, .ref t2])) = H7 at s67 e1 e2 e3 ⊢
  have hLt7 := s67 _ _ hLt
  have tt8 := tups_lst (o := .lst (as.map V.ref ++ [.ref t3])) hLt7
  refine ⟨hLt7, (s8.same s67).put nLt neLt, by rw [upd_ne neLL.symm]; exact s67 _ _ hLc, ?_⟩
  exact TiesAt.put hLt hP ((sTups s67).trans tt8) ⟨t1, t2, tt8 _ _ e3, tt8 _ _ e1, tt8 _ _ e2⟩ upd_same
theorem rep0 (n : Nat) : (List.replicate n [V.int 0]).flatten = (List.replicate n 0).map natV := by
  induction n with
  | zero => rfl
  | succ n ih => rw [List.replicate_succ, List.replicate_succ, List.flatten_cons, ih]; rfl
theorem ok_ties {f fT : Addr} {fd fdT : FuncData} (F : Fun K "_law_ties" "_law_ties" sTies f fd) (GT : FnOk P w K mg base CX0 1 fT fdT ["_law_box_here", "_law_wide"] spTake) (bT : Binds K fdT ["_law_box_here", "_law_wide"] []) (mT : mg "_law_take" = some (.ref fT)) (kT : PySem.W.keepIn K (.ref fT) = true)
    (mrange : mg "range" = none) (mlen : mg "len" = none) : FnOk P w K mg base CX0 2 f fd ["_law_box_here", "_law_many", "_law_room"] spTies := by
  refine F.ok scTies (fun vs H Q E h => ?_) (fun cdv A outer s H vs Q E hr h => ?_)
  · obtain ⟨p, n, room, rfl, _⟩ := h
    rfl
  · obtain ⟨p, n, room, rfl, hb, n0, n1, r0, r1, k⟩ := h
    have nd := scTies.nd
    refine ⟨_, pss_cons (ps_set (i := 3) nd rfl (Or.inr rfl) (pe_op op_rep (pe_lst (pa_cons pe_int pa_nil)) (pv 1)))
      (pss_cons (ps_set (i := 4) nd rfl (Or.inl rfl) (pe_lst pa_nil))
      (pss_cons (ps_for PassesOwn.never rfl (pi_range2 (by rfl) mrange (pa_cons pe_int (pa_cons (pv 1) pa_nil))) (pg_name (i := 5) nd rfl (Or.inl rfl))
        (pss_cons (ps_setLc (i := 7) (own := [("_law_g", 6)]) (g := gName 6) (tt := ttSel K) (te := tVar 6) (by rfl) nd rfl rfl (sw_true rfl rfl rfl (by decide +kernel)) (pi_range1 (by rfl) mrange (pa_cons (pv 5) pa_nil)) (blkOk_by (own := [("_law_g", 6)]) (N := nTies) (sc := defScope sTies) (by decide +kernel))
          (fun _ _ _ _ _ => pg_name (i := 6) nd rfl (Or.inl rfl)) (fun _ _ _ _ _ => pts_one (pt_cmpR op_lt (pe_ix ix_list (pv 3) (pv 6) (fun _ _ => rfl)) (pv 2) (nomark _))) (fun _ _ _ _ _ => pv 6))
        (pss_cons (ps_set (i := 6) nd rfl (Or.inl rfl) (pe_ix ix_list (pv 7) (pe_call GT hr (by rfl) mT kT bT .nil pass0 (pa_cons (pv 0) (pa_cons (pe_callB call_len_seq (by rfl) mlen PySem.boot_len (pa_cons (pv 7) pa_nil)) pa_nil))) (fun _ _ => rfl)))
        (pss_cons (ps_expr (pe_bm PySem.F.plainAttrs_list PySem.F.slot_list_append PySem.F.type_list_append mt_append (pv 4) (pa_cons (pe_tup (pa_cons (pe_tup (pa_cons (pv 5) (pa_cons pe_int pa_nil))) (pa_cons (pe_tup (pa_cons (pv 6) (pa_cons (pe_ix ix_list (pv 3) (pv 6) (fun _ _ => rfl)) pa_nil))) pa_nil))) pa_nil)))
        (pss_one (ps_asg (pe_tup (pa_cons pe_int (pa_cons (pe_op op_add (pe_ix ix_list (pv 3) (pv 6) (fun _ _ => rfl)) pe_int) pa_nil))) (pg_tup (by rfl) (pgs_cons (pg_sub (pv 3) (pv 5) set_list) (pgs_cons (pg_sub (pv 3) (pv 6) set_list) pgs_nil)))))))))
      (pss_cons (ps_for PassesOwn.never rfl (pi_range1 (by rfl) mrange (pa_cons (pe_call GT hr (by rfl) mT kT bT .nil pass0 (pa_cons (pv 0) (pa_cons pe_int pa_nil))) pa_nil)) (pg_name (i := 8) nd rfl (Or.inl rfl))
        (pss_cons (ps_setLc (i := 7) (own := [("_law_g", 6)]) (g := gName 6) (tt := ttSel K) (te := tVar 6) (by rfl) nd rfl rfl (sw_true rfl rfl rfl (by decide +kernel)) (pi_range1 (by rfl) mrange (pa_cons (pv 1) pa_nil)) (blkOk_by (own := [("_law_g", 6)]) (N := nTies) (sc := defScope sTies) (by decide +kernel))
          (fun _ _ _ _ _ => pg_name (i := 6) nd rfl (Or.inl rfl)) (fun _ _ _ _ _ => pts_one (pt_cmpR op_lt (pe_ix ix_list (pv 3) (pv 6) (fun _ _ => rfl)) (pv 2) (nomark _))) (fun _ _ _ _ _ => pv 6))
        (pss_one (ps_if (pt_cmpR op_gt (pe_callB call_len_seq (by rfl) mlen PySem.boot_len (pa_cons (pv 7) pa_nil)) pe_int (nomark _))
          (pss_cons (ps_set (i := 9) nd rfl (Or.inl rfl) (pe_call GT hr (by rfl) mT kT bT .nil pass0 (pa_cons (pv 0) (pa_cons pe_int pa_nil))))
          (pss_cons (ps_par (i := 6) (j := 5) (by rfl) nd rfl rfl (by decide) rfl rfl (pa_cons (pe_ix ix_list (pv 7) (pe_call GT hr (by rfl) mT kT bT .nil pass0 (pa_cons (pv 0) (pa_cons (pe_callB call_len_seq (by rfl) mlen PySem.boot_len (pa_cons (pv 7) pa_nil)) pa_nil))) (fun _ _ => rfl))
            (pa_cons (pe_ix ix_list (pv 7) (pe_call GT hr (by rfl) mT kT bT .nil pass0 (pa_cons (pv 0) (pa_cons (pe_callB call_len_seq (by rfl) mlen PySem.boot_len (pa_cons (pv 7) pa_nil)) pa_nil))) (fun _ _ => rfl)) pa_nil)) (by rfl))
          (pss_cons (ps_if (PW.pt (pw_or (pt_cmpR op_eq (pv 9) pe_int (nomark _)) (pw_or1 (PW.pt (pw_and (pt_cmpR op_eq (pv 6) (pv 5) (nomark _)) (pw_and1 (pt_cmpR op_eq (pe_op op_add (pe_ix ix_list (pv 3) (pv 6) (fun _ _ => rfl)) pe_int) (pv 2) (nomark _))))))))
            (pss_cons (ps_set (i := 5) nd rfl (Or.inl rfl) (pv 6))
            (pss_one (ps_expr (pe_bm PySem.F.plainAttrs_list PySem.F.slot_list_append PySem.F.type_list_append mt_append (pv 4) (pa_cons (pe_tup (pa_cons (pe_tup (pa_cons (pv 6) (pa_cons (pe_ix ix_list (pv 3) (pv 6) (fun _ _ => rfl)) pa_nil))) (pa_cons (pe_tup (pa_cons (pv 6) (pa_cons (pe_ix ix_list (pv 3) (pv 6) (fun _ _ => rfl)) pa_nil))) pa_nil))) pa_nil)))))
            (pss_one (ps_if (pt_cmpR op_eq (pv 6) (pv 5) (nomark _))
              (pss_cons (ps_expr (pe_bm PySem.F.plainAttrs_list PySem.F.slot_list_append PySem.F.type_list_append mt_append (pv 4) (pa_cons (pe_tup (pa_cons (pe_tup (pa_cons (pv 6) (pa_cons (pe_ix ix_list (pv 3) (pv 6) (fun _ _ => rfl)) pa_nil))) (pa_cons (pe_tup (pa_cons (pv 6) (pa_cons (pe_op op_add (pe_ix ix_list (pv 3) (pv 6) (fun _ _ => rfl)) pe_int) pa_nil))) pa_nil))) pa_nil)))
              (pss_one (ps_asg (pe_op op_add (pe_ix ix_list (pv 3) (pv 6) (fun _ _ => rfl)) pe_int) (pg_sub (pv 3) (pv 6) set_list))))
              (pss_cons (ps_expr (pe_bm PySem.F.plainAttrs_list PySem.F.slot_list_append PySem.F.type_list_append mt_append (pv 4) (pa_cons (pe_tup (pa_cons (pe_tup (pa_cons (pv 6) (pa_cons (pe_ix ix_list (pv 3) (pv 6) (fun _ _ => rfl)) pa_nil))) (pa_cons (pe_tup (pa_cons (pv 5) (pa_cons (pe_ix ix_list (pv 3) (pv 5) (fun _ _ => rfl)) pa_nil))) pa_nil))) pa_nil)))
              (pss_one (ps_asg (pe_op op_add (pe_ix ix_list (pv 3) (pv 5) (fun _ _ => rfl)) pe_int) (pg_sub (pv 3) (pv 5) set_list)))))))
          (pss_one (ps_asg (pe_op op_add (pe_ix ix_list (pv 3) (pv 6) (fun _ _ => rfl)) pe_int) (pg_sub (pv 3) (pv 6) set_list))))))
          pss_nil))))
      (pss_one (ps_ret (pe_tup (pa_cons (pv 4) (pa_cons (pv 3) pa_nil)))))))), ?_⟩
    refine ⟨(by show 1 ≤ sizeLine; decide), fun a0 na0 => ⟨_, rfl, a0, _, _, rfl, rfl, upd_same, by omega, by omega, (by show 1 * (n : Int).toNat ≤ sizeLine; rw [sizeLine_eq]; omega), fun Lc nLc => ?_⟩⟩
    have s1 := (Step.refl hb).new (o := .lst [.int 0]) na0
    have nLcH : H Lc = none := s1.free nLc
    have neLc : Lc ≠ p := s1.box.ne nLc
    have hLc0 : (upd (upd H a0 (.lst [.int 0])) Lc (.lst (List.replicate (n : Int).toNat [V.int 0]).flatten)) Lc = some (.lst ((List.replicate n 0).map natV)) := by rw [upd_same, Int.toNat_natCast, rep0]
    have s2 := s1.new (o := .lst (List.replicate (n : Int).toNat [V.int 0]).flatten) nLc
    generalize (upd (upd H a0 (.lst [.int 0])) Lc (.lst (List.replicate (n : Int).toNat [V.int 0]).flatten)) = H2 at hLc0 s2 ⊢
    refine ⟨Nat.zero_le _, fun Lt nLt => ?_⟩
    have nLtH : H Lt = none := s2.free nLt
    have neLt : Lt ≠ p := s2.box.ne nLt
    have neLL : Lt ≠ Lc := fun z => by rw [z, hLc0] at nLt; cases nLt
    have s3 := s2.new (o := .lst []) nLt
    refine ⟨_, rfl, _, _, rfl, ⟨by decide, by decide, by omega, by omega⟩, ?_⟩
    refine for_range (lo := 1) (n := _) (fun i σ H1 => Step p H H1 ∧ ∃ (ties : List Tie) (cnt : List Nat) (o5 o6 o7 o8 o9 : Option V), σ = [some (.ref p), some (natV n), some (natV room), some (.ref Lc), some (.ref Lt), o5, o6, o7, o8, o9] ∧
        H1 Lc = some (.lst (cnt.map natV)) ∧ TiesAt H1 Lt ties ∧ TiesOk n room ties cnt ∧ cnt.sum = 2 * i ∧ (∀ j, i < j → j < n → cnt[j]? = some 0) ∧ Tree (i + 1) ties ∧ ties.length ≤ i)
      ⟨s3, [], List.replicate n 0, none, none, none, none, none, rfl, (by rw [upd_ne neLL.symm]; exact hLc0), ⟨[], upd_same, .nil⟩, TiesOk.nil n room, by simp, fun j _ hj => by simp [List.getElem?_replicate, hj], fun h h0 h1 => by omega, Nat.le_refl _⟩ ?_ ?_
    · rintro i σ H1 hi ⟨s4, ties, cnt, o5, o6, o7, o8, o9, rfl, hLc, ⟨as, hLt, hP⟩, ok, sum, zer, tree, tl⟩
      have hin : i + 1 < n := by omega
      have em : (1 + (i : Int)).toNat = i + 1 := by omega
      have cl := ok.ok.len
      refine ⟨_, rfl, _, rfl, by omega, by omega, fun D nD => sel_lc (K := K) (cnt := cnt) (room := room) (m := (1 + (i : Int)).toNat) rfl rfl (by simp) hLc (by omega) (by omega) nD fun sel H5 s5 hD hs => ?_⟩
      rw [em] at hs
      obtain ⟨g0, c0, hg0, e0, hc0⟩ := room_left r0 (show i + 1 ≤ cnt.length by omega) (by omega)
      have hsel : 0 < sel.length := List.length_pos_of_mem (hs.all g0 c0 hg0 e0 hc0)
      have s45 := s4.same s5
      have neD : D ≠ p := s4.box.ne nD
      have nDH : H D = none := s4.free nD
      have hLc5 := s5 _ _ hLc
      have hLt5 := s5 _ _ hLt
      have hP5 : Paired (TieAt H5) as ties := Paired.mapP hP fun _ _ q => q.tups (sTups s5)
      obtain ⟨xa, xb, hx, hx0, hx1⟩ := s45.box.ex
      have sl := hs.len
      refine ⟨_, rfl, _, rfl, _, rfl, D, _, rfl, .inl (SqL.of hD), p, xa, xb, _, rfl, hx, hx0, hx1, (by rw [List.length_map]; omega), (by rw [List.length_map]; omega), fun r a' b' q0 q1 c1 c2 => ?_⟩
      rw [List.length_map] at q1
      have hrl : r.toNat < sel.length := by omega
      have eg : sel[r.toNat]? = some sel[r.toNat] := List.getElem?_eq_getElem hrl
      obtain ⟨hgi, c, ec, hc⟩ := hs.has sel[r.toNat] (List.getElem_mem hrl)
      generalize sel[r.toNat] = g at eg hgi ec
      refine ⟨D, _, _, _, rfl, rfl, SqL.of (by rw [upd_ne neD]; exact hD), natV_at (by omega) eg, ?_⟩
      have s6 := s45.take (x := a') c1 c2
      have hLc6 : (upd H5 p (.lst [.int a', .int b'])) Lc = some (.lst (cnt.map natV)) := by rw [upd_ne neLc]; exact hLc5
      have hLt6 : (upd H5 p (.lst [.int a', .int b'])) Lt = some (.lst (as.map V.ref)) := by rw [upd_ne neLt]; exact hLt5
      have hP6 : Paired (TieAt (upd H5 p (.lst [.int a', .int b']))) as ties := Paired.mapP hP5 fun _ _ q => q.tups (tups_lst hx)
      generalize (upd H5 p (.lst [.int a', .int b'])) = H6 at s6 hLc6 hLt6 hP6 ⊢
      -- ties_here.append(((h, 0), (g, count[g])))
      refine ⟨_, rfl, .inl ⟨rfl, _, SqL.of hLt6⟩, _, rfl, (by show 2 ≤ sizeLine; decide), fun t1 m1 => ?_⟩
      refine ⟨_, rfl, _, rfl, _, rfl, Lc, _, _, _, rfl, rfl, SqL.of (same_new m1 _ _ hLc6), natV_at rfl ec, (by show 2 ≤ sizeLine; decide), fun t2 m2 => ⟨(by show 2 ≤ sizeLine; decide), fun t3 m3 => ?_⟩⟩
      have s67 := ((same_new (o := .tup [.int (1 + (i : Int)), .int 0]) m1).trans (same_new (o := .tup [natV g, natV c]) m2)).trans (same_new (o := .tup [.ref t1, .ref t2]) m3)
      have e1 := ((same_new (o := .tup [natV g, natV c]) m2).trans (same_new (o := .tup [.ref t1, .ref t2]) m3)) t1 _ upd_same
      have e2 := (same_new (o := .tup [.ref t1, .ref t2]) m3) t2 _ (upd_same (H := upd H6 t1 (.tup [.int (1 + (i : Int)), .int 0])) (o := .tup [natV g, natV c]))
      have e3 : (upd (upd (upd H6 t1 (.tup [.int (1 + (i : Int)), .int 0])) t2 (.tup [natV g, natV c])) t3 (.tup [.ref t1, .ref t2])) t3 = some (.tup [.ref t1, .ref t2]) := upd_same
      generalize (upd (upd (upd H6 t1 (.tup [.int (1 + (i : Int)), .int 0])) t2 (.tup [natV g, natV c])) t3 (.tup [.ref t1, .ref t2])) = H7 at s67 e1 e2 e3 ⊢
      have s7 := s6.same s67
      have hLc7 := s67 _ _ hLc6
      have hLt7 := s67 _ _ hLt6
      have al : as.length = ties.length := Paired.length hP
      refine ⟨Lt, _, _, rfl, rfl, hLt7, (by rw [List.length_map, sizeLine_eq]; omega), ?_⟩
      have s8 := s7.put (o := .lst (as.map V.ref ++ [.ref t3])) nLtH neLt
      have hLc8 : (upd H7 Lt (.lst (as.map V.ref ++ [.ref t3]))) Lc = some (.lst (cnt.map natV)) := by rw [upd_ne neLL.symm]; exact hLc7
      have tt8 := tups_lst (o := .lst (as.map V.ref ++ [.ref t3])) hLt7
      have hT8 : TiesAt (upd H7 Lt (.lst (as.map V.ref ++ [.ref t3]))) Lt (ties ++ [((i + 1, 0), (g, c))]) :=
        TiesAt.put hLt6 hP6 ((sTups s67).trans tt8) ⟨t1, t2, tt8 _ _ e3, tt8 _ _ (by rw [e1]; show some (HO.tup [V.int (1 + (i : Int)), V.int 0]) = some (HO.tup [V.int ((i + 1 : Nat) : Int), V.int ((0 : Nat) : Int)]); rw [show ((i + 1 : Nat) : Int) = 1 + (i : Int) by omega]; rfl), tt8 _ _ e2⟩ upd_same
      generalize (upd H7 Lt (.lst (as.map V.ref ++ [.ref t3]))) = H8 at s8 hLc8 hT8 ⊢
      -- count[h], count[g] = (1, count[g] + 1)
      have hgh : i + 1 ≠ g := by omega
      refine ⟨_, rfl, _, rfl, Lc, _, _, _, rfl, rfl, SqL.of hLc8, natV_at rfl ec, _, _, rfl, rfl, (by show 2 ≤ sizeLine; decide), fun t4 m4 => ?_⟩
      have s9 := s8.new (o := .tup [.int 1, .int ((c : Int) + 1)]) m4
      have hLc9 := same_new (o := .tup [.int 1, .int ((c : Int) + 1)]) m4 _ _ hLc8
      have hT9 : TiesAt (upd H8 t4 (.tup [.int 1, .int ((c : Int) + 1)])) Lt (ties ++ [((i + 1, 0), (g, c))]) := by
        obtain ⟨as', h1, h2⟩ := hT8.ex
        exact ⟨as', same_new m4 _ _ h1, Paired.mapP h2 fun _ _ q => q.tups (sTups (same_new m4))⟩
      have et : (upd H8 t4 (.tup [.int 1, .int ((c : Int) + 1)])) t4 = some (.tup [.int 1, .int ((c : Int) + 1)]) := upd_same
      generalize (upd H8 t4 (.tup [.int 1, .int ((c : Int) + 1)])) = H9 at s9 hLc9 hT9 et ⊢
      refine ⟨t4, _, rfl, SqT.of et, rfl, _, _, rfl, _, rfl, _, rfl, Lc, _, _, i + 1, rfl, rfl, hLc9, ixN_nat (by omega) (by rw [List.length_map]; omega), ?_⟩
      refine ⟨_, _, rfl, _, rfl, _, rfl, Lc, _, _, g, rfl, rfl, upd_same, ixN_nat rfl (by rw [List.length_set, List.length_map]; omega), rfl, ?_⟩
      have ez : cnt[i + 1]? = some 0 := zer (i + 1) (by omega) hin
      refine ⟨(s9.put nLcH neLc).put nLcH neLc, ties ++ [((i + 1, 0), (g, c))], (cnt.set (i + 1) 1).set g (c + 1), _, _, _, _, _, rfl, ?_, ?_, ok.tree hgh ec ez hc (by omega), ?_, fun j h1 h2 => ?_, ?_, by rw [List.length_append]; show ties.length + 1 ≤ i + 1; omega⟩
      · rw [upd_same, List.map_set, List.map_set]
        rfl
      · obtain ⟨as', h1, h2⟩ := hT9.ex
        have tt := (tups_lst (o := .lst ((cnt.map natV).set (i + 1) (.int 1))) hLc9).trans (tups_lst (o := .lst (((cnt.map natV).set (i + 1) (.int 1)).set g (.int ((c : Int) + 1)))) (upd_same (H := H9) (a := Lc) (o := .lst ((cnt.map natV).set (i + 1) (.int 1)))))
        exact ⟨as', by rw [upd_ne neLL, upd_ne neLL]; exact h1, Paired.mapP h2 fun _ _ q => q.tups tt⟩
      · have q1 := sum_setN (y := 1) ez
        have q2 := sum_setN (l := cnt.set (i + 1) 1) (j := g) (z := c) (y := c + 1) (by rw [List.getElem?_set_ne hgh]; exact ec)
        omega
      · rw [List.getElem?_set_ne (by omega), List.getElem?_set_ne (by omega)]
        exact zer j (by omega) h2
      · intro h h0 h1
        by_cases q : h = i + 1
        · subst q
          exact ⟨g, 0, c, hgi, List.mem_append_right _ (List.mem_singleton.mpr rfl)⟩
        · exact Tree.more (t := ((i + 1, 0), (g, c))) tree h h0 (by omega)
    · rintro σ H1 ⟨s4, ties, cnt, o5, o6, o7, o8, o9, rfl, hLc, hT, ok, _, _, tree, tl⟩
      have tree' : Tree n ties := fun h h0 h1 => tree h h0 (by omega)
      clear tree
      obtain ⟨xa, xb, hx, hx0, hx1⟩ := s4.box.ex
      refine ⟨_, rfl, p, xa, xb, _, rfl, hx, hx0, hx1, by decide, by decide, fun rr a' b' rr0 rr1 c1 c2 => ⟨_, rfl, by omega, by omega, ?_⟩⟩
      have s5 := s4.take (x := a') c1 c2
      have hLc5 : (upd H1 p (.lst [.int a', .int b'])) Lc = some (.lst (cnt.map natV)) := by rw [upd_ne neLc]; exact hLc
      have hT5 : TiesAt (upd H1 p (.lst [.int a', .int b'])) Lt ties := by
        obtain ⟨as, h1, h2⟩ := hT.ex
        exact ⟨as, by rw [upd_ne neLt]; exact h1, Paired.mapP h2 fun _ _ q => q.tups (tups_lst hx)⟩
      generalize (upd H1 p (.lst [.int a', .int b'])) = H5 at s5 hLc5 hT5 ⊢
      refine for_range (lo := 0) (n := _) (fun i σ H1 => Step p H H1 ∧ ∃ (ties : List Tie) (cnt : List Nat) (o5 o6 o7 o8 o9 : Option V), σ = [some (.ref p), some (natV n), some (natV room), some (.ref Lc), some (.ref Lt), o5, o6, o7, o8, o9] ∧
          H1 Lc = some (.lst (cnt.map natV)) ∧ TiesAt H1 Lt ties ∧ TiesOk n room ties cnt ∧ Tree n ties ∧ ties.length ≤ n + i)
        ⟨s5, ties, cnt, _, _, _, _, _, rfl, hLc5, hT5, ok, tree', by omega⟩ ?_ ?_
      · clear hx hx0 hx1 s4 hLc hT ok tree' tl s5 hLc5 hT5
        rintro i σ H1 hi ⟨s4, ties, cnt, o5, o6, o7, o8, o9, rfl, hLc, ⟨as, hLt, hP⟩, ok, tree, tl⟩
        have cl := ok.ok.len
        have hi4 : i < 4 := by omega
        refine ⟨_, rfl, _, rfl, by omega, by omega, fun D nD => sel_lc (K := K) (cnt := cnt) (room := room) (m := (n : Int).toNat) rfl rfl (by simp) hLc (by omega) (by omega) nD fun sel H5 s5 hD hs => ?_⟩
        rw [Int.toNat_natCast] at hs
        have s45 := s4.same s5
        have neD : D ≠ p := s4.box.ne nD
        have hLc5 := s5 _ _ hLc
        have hLt5 := s5 _ _ hLt
        have hP5 : Paired (TieAt H5) as ties := Paired.mapP hP fun _ _ q => q.tups (sTups s5)
        have sl := hs.len
        have al : as.length = ties.length := Paired.length hP
        refine ⟨_, rfl, D, _, rfl, .inl (SqL.of hD), _, _, rfl, rfl, _, rfl, ?_⟩
        refine ite2 (fun hpos => ?_) (fun hpos => ?_)
        · have hpos : 0 < sel.length := by
            have := of_decide_eq_true hpos
            rw [List.length_map] at this
            omega
          -- form
          obtain ⟨xa, xb, hx, hx0, hx1⟩ := s45.box.ex
          refine ⟨_, rfl, p, xa, xb, _, rfl, hx, hx0, hx1, by decide, by decide, fun fm a1 b1 f0 f1 c1 c2 => ?_⟩
          have s6 := s45.take (x := a1) c1 c2
          -- g, h
          refine ⟨_, rfl, _, rfl, _, rfl, D, _, rfl, .inl (SqL.of (by rw [upd_ne neD]; exact hD)), p, a1, b1, _, rfl, upd_same, c1, c2, (by rw [List.length_map]; omega), (by rw [List.length_map]; omega), fun rg a2 b2 g0 g1 c3 c4 => ?_⟩
          rw [List.length_map] at g1
          have s7 := s6.take (x := a2) c3 c4
          have hgl : rg.toNat < sel.length := by omega
          have eg : sel[rg.toNat]? = some sel[rg.toNat] := List.getElem?_eq_getElem hgl
          obtain ⟨hgi, c, ec, hc⟩ := hs.has sel[rg.toNat] (List.getElem_mem hgl)
          refine ⟨D, _, _, _, rfl, rfl, SqL.of (by rw [upd_ne neD, upd_ne neD]; exact hD), natV_at (by omega) eg, ?_⟩
          refine ⟨_, rfl, _, rfl, _, rfl, D, _, rfl, .inl (SqL.of (by rw [upd_ne neD, upd_ne neD]; exact hD)), p, a2, b2, _, rfl, upd_same, c3, c4, (by rw [List.length_map]; omega), (by rw [List.length_map]; omega), fun rh a3 b3 h0 h1 c5 c6 => ?_⟩
          rw [List.length_map] at h1
          have s8 := s7.take (x := a3) c5 c6
          have hhl : rh.toNat < sel.length := by omega
          have eh : sel[rh.toNat]? = some sel[rh.toNat] := List.getElem?_eq_getElem hhl
          obtain ⟨hhi, d, ed, hd⟩ := hs.has sel[rh.toNat] (List.getElem_mem hhl)
          refine ⟨D, _, _, _, rfl, rfl, SqL.of (by rw [upd_ne neD, upd_ne neD, upd_ne neD]; exact hD), natV_at (by omega) eh, _, _, rfl, ?_⟩
          have hLc8 : (upd (upd (upd H5 p (.lst [.int a1, .int b1])) p (.lst [.int a2, .int b2])) p (.lst [.int a3, .int b3])) Lc = some (.lst (cnt.map natV)) := by rw [upd_ne neLc, upd_ne neLc, upd_ne neLc]; exact hLc5
          have hLt8 : (upd (upd (upd H5 p (.lst [.int a1, .int b1])) p (.lst [.int a2, .int b2])) p (.lst [.int a3, .int b3])) Lt = some (.lst (as.map V.ref)) := by rw [upd_ne neLt, upd_ne neLt, upd_ne neLt]; exact hLt5
          have hP8 : Paired (TieAt (upd (upd (upd H5 p (.lst [.int a1, .int b1])) p (.lst [.int a2, .int b2])) p (.lst [.int a3, .int b3]))) as ties :=
            Paired.mapP hP5 fun _ _ q => ((q.tups (tups_lst hx)).tups (tups_lst upd_same)).tups (tups_lst upd_same)
          generalize (upd (upd (upd H5 p (.lst [.int a1, .int b1])) p (.lst [.int a2, .int b2])) p (.lst [.int a3, .int b3])) = H8 at s8 hLc8 hLt8 hP8 ⊢
          generalize sel[rg.toNat] = g at eg hgi ec
          generalize sel[rh.toNat] = h at eh hhi ed
          clear s45 s6 s7 s4 hx hx0 hx1 hLc5 hLt5 hP5 hLc hLt hP hD hs s5 nD eg eh
          -- what the last statement makes of it
          have last : ∀ (H9 : Hp) (ties' : List Tie) (cnt' : List Nat) (c' : Nat) (o5 : Option V), Step p H H9 → H9 Lc = some (.lst (cnt'.map natV)) → TiesAt H9 Lt ties' → cnt'[g]? = some c' → TiesOk n room ties' (cnt'.set g (c' + 1)) → Tree n ties' → ties'.length ≤ n + (i + 1) →
              Step p H (upd H9 Lc (.lst ((cnt'.map natV).set g (.int ((c' : Int) + 1))))) ∧ (upd H9 Lc (.lst ((cnt'.map natV).set g (.int ((c' : Int) + 1))))) Lc = some (.lst ((cnt'.set g (c' + 1)).map natV)) ∧ TiesAt (upd H9 Lc (.lst ((cnt'.map natV).set g (.int ((c' : Int) + 1))))) Lt ties' := by
            intro H9 ties' cnt' c' o5 t1 t2 t3 t4 t5 t6 t7
            refine ⟨t1.put nLcH neLc, by rw [upd_same, List.map_set]; rfl, ?_⟩
            obtain ⟨as', q1, q2⟩ := t3.ex
            exact ⟨as', by rw [upd_ne neLL]; exact q1, Paired.mapP q2 fun _ _ q => q.tups (tups_lst t2)⟩
          refine ⟨_, rfl, rfl, _, rfl, ?_⟩
          refine ite2 (fun hf => ?_) (fun hf => ?_)
          · refine iteT ?_
            refine ⟨_, rfl, ?_⟩
            refine ⟨_, rfl, .inl ⟨rfl, _, SqL.of hLt8⟩, _, rfl, _, rfl, _, rfl, Lc, _, _, _, rfl, rfl, SqL.of hLc8, natV_at rfl ec, (by show 2 ≤ sizeLine; decide), fun t1 m1 => ?_⟩
            refine ⟨_, rfl, _, rfl, _, rfl, Lc, _, _, _, rfl, rfl, SqL.of (same_new m1 _ _ hLc8), natV_at rfl ec, (by show 2 ≤ sizeLine; decide), fun t2 m2 => ⟨(by show 2 ≤ sizeLine; decide), fun t3 m3 => ?_⟩⟩
            obtain ⟨w1, w2, w3, w4⟩ := app_tie (x := (g, c)) (y := (g, c)) s8 hLc8 hLt8 hP8 nLtH neLt neLL m1 m2 m3
            refine ⟨Lt, _, _, rfl, rfl, w1, (by rw [List.length_map, sizeLine_eq]; omega), ?_⟩
            refine ⟨_, rfl, _, rfl, Lc, _, _, _, rfl, rfl, SqL.of w3, natV_at rfl ec, _, _, rfl, rfl, _, rfl, _, rfl, Lc, _, _, g, rfl, rfl, w3, ixN_nat rfl (by rw [List.length_map]; omega), ?_⟩
            obtain ⟨z1, z2, z3⟩ := last _ _ _ _ none w2 w3 w4 ec (ok.self ec hc) (Tree.more tree) (by rw [List.length_append]; show ties.length + 1 ≤ n + (i + 1); omega)
            exact ⟨z1, _, _, _, _, _, _, _, rfl, z2, z3, ok.self ec hc, Tree.more tree, by rw [List.length_append]; show ties.length + 1 ≤ n + (i + 1); omega⟩
          · refine ⟨_, rfl, _, rfl, rfl, _, rfl, ?_⟩
            refine ite2 (fun hgh => ?_) (fun hgh => ?_)
            · have hgh : g = h := by
                have := of_decide_eq_true hgh
                injection this with this
                omega
              subst hgh
              refine ⟨_, rfl, _, rfl, Lc, _, _, _, rfl, rfl, SqL.of hLc8, natV_at rfl ec, _, _, rfl, rfl, _, rfl, rfl, _, rfl, ?_⟩
              refine ite2 (fun hroom => ?_) (fun hroom => ?_)
              · 
                refine ⟨_, rfl, ?_⟩
                refine ⟨_, rfl, .inl ⟨rfl, _, SqL.of hLt8⟩, _, rfl, _, rfl, _, rfl, Lc, _, _, _, rfl, rfl, SqL.of hLc8, natV_at rfl ec, (by show 2 ≤ sizeLine; decide), fun t1 m1 => ?_⟩
                refine ⟨_, rfl, _, rfl, _, rfl, Lc, _, _, _, rfl, rfl, SqL.of (same_new m1 _ _ hLc8), natV_at rfl ec, (by show 2 ≤ sizeLine; decide), fun t2 m2 => ⟨(by show 2 ≤ sizeLine; decide), fun t3 m3 => ?_⟩⟩
                obtain ⟨w1, w2, w3, w4⟩ := app_tie (x := (g, c)) (y := (g, c)) s8 hLc8 hLt8 hP8 nLtH neLt neLL m1 m2 m3
                refine ⟨Lt, _, _, rfl, rfl, w1, (by rw [List.length_map, sizeLine_eq]; omega), ?_⟩
                refine ⟨_, rfl, _, rfl, Lc, _, _, _, rfl, rfl, SqL.of w3, natV_at rfl ec, _, _, rfl, rfl, _, rfl, _, rfl, Lc, _, _, g, rfl, rfl, w3, ixN_nat rfl (by rw [List.length_map]; omega), ?_⟩
                obtain ⟨z1, z2, z3⟩ := last _ _ _ _ none w2 w3 w4 ec (ok.self ec hc) (Tree.more tree) (by rw [List.length_append]; show ties.length + 1 ≤ n + (i + 1); omega)
                exact ⟨z1, _, _, _, _, _, _, _, rfl, z2, z3, ok.self ec hc, Tree.more tree, by rw [List.length_append]; show ties.length + 1 ≤ n + (i + 1); omega⟩
              · have hroom' : ¬ c + 1 = room := fun z => hroom (decide_eq_true (by show V.int ((c : Int) + 1) = V.int (room : Int); rw [← z]; rfl))
                refine ⟨_, rfl, _, rfl, rfl, _, rfl, ?_⟩
                refine ite2 (fun _ => ?_) (fun z => absurd (decide_eq_true rfl) z)
                refine ⟨_, rfl, .inl ⟨rfl, _, SqL.of hLt8⟩, _, rfl, _, rfl, _, rfl, Lc, _, _, _, rfl, rfl, SqL.of hLc8, natV_at rfl ec, (by show 2 ≤ sizeLine; decide), fun t1 m1 => ?_⟩
                refine ⟨_, rfl, _, rfl, _, rfl, Lc, _, _, _, rfl, rfl, SqL.of (same_new m1 _ _ hLc8), natV_at rfl ec, _, _, rfl, rfl, (by show 2 ≤ sizeLine; decide), fun t2 m2 => ⟨(by show 2 ≤ sizeLine; decide), fun t3 m3 => ?_⟩⟩
                obtain ⟨w1, w2, w3, w4⟩ := app_tie (x := (g, c)) (y := (g, c + 1)) s8 hLc8 hLt8 hP8 nLtH neLt neLL m1 m2 m3
                refine ⟨Lt, _, _, rfl, rfl, w1, (by rw [List.length_map, sizeLine_eq]; omega), ?_⟩
                refine ⟨_, rfl, _, rfl, Lc, _, _, _, rfl, rfl, SqL.of w3, natV_at rfl ec, _, _, rfl, rfl, _, rfl, _, rfl, Lc, _, _, g, rfl, rfl, w3, ixN_nat rfl (by rw [List.length_map]; omega), ?_⟩
                have w5 := w2.put (o := .lst ((cnt.map natV).set g (.int ((c : Int) + 1)))) nLcH neLc
                have w6 : (upd (upd (upd (upd (upd H8 t1 (.tup [natV g, natV c])) t2 (.tup [natV g, natV (c + 1)])) t3 (.tup [.ref t1, .ref t2])) Lt (.lst (as.map V.ref ++ [.ref t3]))) Lc (.lst ((cnt.map natV).set g (.int ((c : Int) + 1))))) Lc = some (.lst ((cnt.set g (c + 1)).map natV)) := by rw [upd_same, List.map_set]; rfl
                have w7 : TiesAt (upd (upd (upd (upd (upd H8 t1 (.tup [natV g, natV c])) t2 (.tup [natV g, natV (c + 1)])) t3 (.tup [.ref t1, .ref t2])) Lt (.lst (as.map V.ref ++ [.ref t3]))) Lc (.lst ((cnt.map natV).set g (.int ((c : Int) + 1))))) Lt (ties ++ [((g, c), (g, c + 1))]) := by
                  obtain ⟨as', q1, q2⟩ := w4.ex
                  exact ⟨as', by rw [upd_ne neLL]; exact q1, Paired.mapP q2 fun _ _ q => q.tups (tups_lst w3)⟩
                have ec' : (cnt.set g (c + 1))[g]? = some (c + 1) := List.getElem?_set_self (by omega)
                refine ⟨_, rfl, _, rfl, Lc, _, _, _, rfl, rfl, SqL.of w6, natV_at rfl ec', _, _, rfl, rfl, _, rfl, _, rfl, Lc, _, _, g, rfl, rfl, w6, ixN_nat rfl (by rw [List.length_map, List.length_set]; omega), ?_⟩
                obtain ⟨z1, z2, z3⟩ := last _ _ _ _ none w5 w6 w7 ec' (ok.own ec (by omega)) (Tree.more tree) (by rw [List.length_append]; show ties.length + 1 ≤ n + (i + 1); omega)
                exact ⟨z1, _, _, _, _, _, _, _, rfl, z2, z3, ok.own ec (by omega), Tree.more tree, by rw [List.length_append]; show ties.length + 1 ≤ n + (i + 1); omega⟩
            · have hgh : g ≠ h := fun z => hgh (decide_eq_true (by rw [z]))
              refine iteF ?_
              refine ⟨_, rfl, _, rfl, rfl, _, rfl, ?_⟩
              refine ite2 (fun z => absurd (show g = h by have := of_decide_eq_true z; injection this with this; omega) hgh) (fun _ => ?_)
              refine ⟨_, rfl, .inl ⟨rfl, _, SqL.of hLt8⟩, _, rfl, _, rfl, _, rfl, Lc, _, _, _, rfl, rfl, SqL.of hLc8, natV_at rfl ec, (by show 2 ≤ sizeLine; decide), fun t1 m1 => ?_⟩
              refine ⟨_, rfl, _, rfl, _, rfl, Lc, _, _, _, rfl, rfl, SqL.of (same_new m1 _ _ hLc8), natV_at rfl ed, (by show 2 ≤ sizeLine; decide), fun t2 m2 => ⟨(by show 2 ≤ sizeLine; decide), fun t3 m3 => ?_⟩⟩
              obtain ⟨w1, w2, w3, w4⟩ := app_tie (x := (g, c)) (y := (h, d)) s8 hLc8 hLt8 hP8 nLtH neLt neLL m1 m2 m3
              refine ⟨Lt, _, _, rfl, rfl, w1, (by rw [List.length_map, sizeLine_eq]; omega), ?_⟩
              refine ⟨_, rfl, _, rfl, Lc, _, _, _, rfl, rfl, SqL.of w3, natV_at rfl ed, _, _, rfl, rfl, _, rfl, _, rfl, Lc, _, _, h, rfl, rfl, w3, ixN_nat rfl (by rw [List.length_map]; omega), ?_⟩
              have w5 := w2.put (o := .lst ((cnt.map natV).set h (.int ((d : Int) + 1)))) nLcH neLc
              have w6 : (upd (upd (upd (upd (upd H8 t1 (.tup [natV g, natV c])) t2 (.tup [natV h, natV d])) t3 (.tup [.ref t1, .ref t2])) Lt (.lst (as.map V.ref ++ [.ref t3]))) Lc (.lst ((cnt.map natV).set h (.int ((d : Int) + 1))))) Lc = some (.lst ((cnt.set h (d + 1)).map natV)) := by rw [upd_same, List.map_set]; rfl
              have w7 : TiesAt (upd (upd (upd (upd (upd H8 t1 (.tup [natV g, natV c])) t2 (.tup [natV h, natV d])) t3 (.tup [.ref t1, .ref t2])) Lt (.lst (as.map V.ref ++ [.ref t3]))) Lc (.lst ((cnt.map natV).set h (.int ((d : Int) + 1))))) Lt (ties ++ [((g, c), (h, d))]) := by
                obtain ⟨as', q1, q2⟩ := w4.ex
                exact ⟨as', by rw [upd_ne neLL]; exact q1, Paired.mapP q2 fun _ _ q => q.tups (tups_lst w3)⟩
              have ec' : (cnt.set h (d + 1))[g]? = some c := by rw [List.getElem?_set_ne (fun z => hgh z.symm)]; exact ec
              refine ⟨_, rfl, _, rfl, Lc, _, _, _, rfl, rfl, SqL.of w6, natV_at rfl ec', _, _, rfl, rfl, _, rfl, _, rfl, Lc, _, _, g, rfl, rfl, w6, ixN_nat rfl (by rw [List.length_map, List.length_set]; omega), ?_⟩
              obtain ⟨z1, z2, z3⟩ := last _ _ _ _ none w5 w6 w7 ec' (ok.two hgh ec ed hc hd) (Tree.more tree) (by rw [List.length_append]; show ties.length + 1 ≤ n + (i + 1); omega)
              exact ⟨z1, _, _, _, _, _, _, _, rfl, z2, z3, ok.two hgh ec ed hc hd, Tree.more tree, by rw [List.length_append]; show ties.length + 1 ≤ n + (i + 1); omega⟩
        · exact ⟨s45, ties, cnt, _, _, _, _, _, rfl, hLc5, ⟨as, hLt5, hP5⟩, ok, tree, by omega⟩
      · rintro σ H1 ⟨s6, ties, cnt, o5, o6, o7, o8, o9, rfl, hLc, hT, ok, tree, tl⟩
        refine ⟨_, rfl, _, rfl, (by show 2 ≤ sizeLine; decide), fun r nr => ?_⟩
        refine k r Lt Lc ties cnt _ (s6.free nr) (s6.new nr) upd_same nLtH nLcH ?_ (same_new nr _ _ hLc) ok tree
        obtain ⟨as, h1, h2⟩ := hT.ex
        exact ⟨as, same_new nr _ _ h1, Paired.mapP h2 fun _ _ q => q.tups (sTups (same_new nr))⟩
end
end NH
set_option Elab.async false
set_option linter.all false
set_option maxRecDepth 100000
set_option maxHeartbeats 4000000
namespace NH
open PySem L2
abbrev PegD := Int × Int
abbrev HandD := Int × List PegD
abbrev WebD := List HandD
def PegsAt (H : Hp) (a : Addr) (ps : List PegD) : Prop := ∃ as : List Addr, H a = some (.tup (as.map V.ref)) ∧ PairsAt H as ps
def HandAt (H : Hp) (a : Addr) (hd : HandD) : Prop := ∃ b, H a = some (.tup [.int hd.1, .ref b]) ∧ PegsAt H b hd.2
def WebAt (H : Hp) (a : Addr) (w : WebD) : Prop := ∃ as : List Addr, H a = some (.tup (as.map V.ref)) ∧ Paired (HandAt H) as w
theorem pairs_tups {H H' : Hp} {as : List Addr} {ps : List PegD} (s : Tups H H') (h : PairsAt H as ps) : PairsAt H' as ps := Paired.mapP h fun _ _ e => s _ _ e
theorem PegsAt.tups {H H' : Hp} {a : Addr} {ps : List PegD} (s : Tups H H') (h : PegsAt H a ps) : PegsAt H' a ps := by
  obtain ⟨as, e, k⟩ := h
  exact ⟨as, s _ _ e, pairs_tups s k⟩
theorem HandAt.tups {H H' : Hp} {a : Addr} {hd : HandD} (s : Tups H H') (h : HandAt H a hd) : HandAt H' a hd := by
  obtain ⟨b, e, k⟩ := h
  exact ⟨b, s _ _ e, k.tups s⟩
theorem WebAt.tups {H H' : Hp} {a : Addr} {w : WebD} (s : Tups H H') (h : WebAt H a w) : WebAt H' a w := by
  obtain ⟨as, e, k⟩ := h
  exact ⟨as, s _ _ e, Paired.mapP k fun _ _ q => q.tups s⟩
def pegOf (w : WebD) (h p : Nat) : Option PegD := (w[h]?).bind fun hd => hd.2[p]?
structure Good (room : Nat) (w : WebD) : Prop where
  pos : 0 < w.length
  mark : ∀ (h : Nat) hd, w[h]? = some hd → 0 ≤ hd.1 ∧ hd.1 ≤ 9
  pegs : ∀ (h : Nat) hd, w[h]? = some hd → hd.2.length ≤ room
  tie : ∀ (h p : Nat) x, pegOf w h p = some x → ∃ g q : Nat, x = ((g : Int), (q : Int)) ∧ pegOf w g q = some ((h : Int), (p : Int))
  conn : ∀ S : Nat → Prop, (∀ h p g q : Nat, pegOf w h p = some ((g : Int), (q : Int)) → S h → S g) → ∀ a b, a < w.length → b < w.length → S a → S b
theorem pegOf_some {w : WebD} {h p : Nat} {x : PegD} (e : pegOf w h p = some x) : ∃ hd, w[h]? = some hd ∧ hd.2[p]? = some x := Option.bind_eq_some_iff.mp e
theorem pegOf_lt {w : WebD} {h p : Nat} {x : PegD} (e : pegOf w h p = some x) : h < w.length := by
  obtain ⟨hd, e1, _⟩ := pegOf_some e
  exact (List.getElem?_eq_some_iff.mp e1).1
abbrev Rows := List (List End)
def at2 (r : Rows) (h q : Nat) : Option End := (r[h]?).bind fun row => row[q]?
def put2 (r : Rows) (h q : Nat) (e : End) : Rows := r.set h ((r.getD h []).set q e)
theorem at2_put {r : Rows} {h q h' q' : Nat} {e x : End} (hx : at2 r h q = some x) : at2 (put2 r h q e) h' q' = if h' = h ∧ q' = q then some e else at2 r h' q' := by
  obtain ⟨row, e1, e2⟩ := Option.bind_eq_some_iff.mp hx
  obtain ⟨hl, e1'⟩ := List.getElem?_eq_some_iff.mp e1
  obtain ⟨ql, _⟩ := List.getElem?_eq_some_iff.mp e2
  have eg : r.getD h [] = row := by rw [List.getD_eq_getElem?_getD, e1]; rfl
  unfold at2 put2
  rw [eg]
  by_cases z : h = h'
  · subst z
    rw [List.getElem?_set_self hl, e1]
    show (row.set q e)[q']? = if h = h ∧ q' = q then some e else row[q']?
    by_cases y : q = q'
    · subst y
      rw [List.getElem?_set_self ql, if_pos ⟨rfl, rfl⟩]
    · rw [List.getElem?_set_ne y, if_neg (fun k => y k.2.symm)]
  · rw [List.getElem?_set_ne z, if_neg (fun k => z k.1.symm)]
structure NumOk (n : Nat) (cnt : List Nat) (num : List (List Nat)) : Prop where
  len : num.length = n
  perm : ∀ (h c : Nat) (π : List Nat), cnt[h]? = some c → num[h]? = some π → π.Perm (List.range c)
def numOf (num : List (List Nat)) (e : End) : Option Nat := (num[e.1]?).bind fun π => π[e.2]?
theorem numOf_inj {n : Nat} {cnt : List Nat} {num : List (List Nat)} (k : NumOk n cnt num) (hl : cnt.length = n) {h s s' q : Nat} (e : numOf num (h, s) = some q) (e' : numOf num (h, s') = some q) : s = s' := by
  obtain ⟨π, e1, e2⟩ := Option.bind_eq_some_iff.mp e
  obtain ⟨π', e1', e2'⟩ := Option.bind_eq_some_iff.mp e'
  dsimp only at e1 e1' e2 e2'
  rw [e1] at e1'
  cases e1'
  have hln : h < num.length := (List.getElem?_eq_some_iff.mp e1).1
  have hlc : h < cnt.length := by rw [hl, ← k.len]; exact hln
  have hc : cnt[h]? = some cnt[h] := List.getElem?_eq_getElem hlc
  have nd : π.Nodup := (k.perm h _ π hc e1).nodup_iff.mpr List.nodup_range
  exact nd_ix nd e2 e2'
theorem numOf_lt {n : Nat} {cnt : List Nat} {num : List (List Nat)} (k : NumOk n cnt num) {h s q c : Nat} (hc : cnt[h]? = some c) (e : numOf num (h, s) = some q) : q < c := by
  obtain ⟨π, e1, e2⟩ := Option.bind_eq_some_iff.mp e
  have := (k.perm h c π hc e1).mem_iff.mp (List.mem_of_getElem? e2)
  exact List.mem_range.mp this
theorem numOf_some {n : Nat} {cnt : List Nat} {num : List (List Nat)} (k : NumOk n cnt num) (hl : cnt.length = n) {h s c : Nat} (hc : cnt[h]? = some c) (hs : s < c) : ∃ q, numOf num (h, s) = some q := by
  have hlt : h < num.length := by rw [k.len, ← hl]; exact (List.getElem?_eq_some_iff.mp hc).1
  have e : num[h]? = some num[h] := List.getElem?_eq_getElem hlt
  have pl := (k.perm h c _ hc e).length_eq
  rw [List.length_range] at pl
  refine ⟨num[h][s]'(by omega), ?_⟩
  show (num[h]?).bind (fun π => π[s]?) = _
  rw [e]
  exact List.getElem?_eq_getElem (by omega)
theorem numOf_onto {n : Nat} {cnt : List Nat} {num : List (List Nat)} (k : NumOk n cnt num) (hl : cnt.length = n) {h q c : Nat} (hc : cnt[h]? = some c) (hq : q < c) : ∃ s, s < c ∧ numOf num (h, s) = some q := by
  have hlt : h < num.length := by rw [k.len, ← hl]; exact (List.getElem?_eq_some_iff.mp hc).1
  have e : num[h]? = some num[h] := List.getElem?_eq_getElem hlt
  have p := k.perm h c _ hc e
  have m : q ∈ num[h] := p.mem_iff.mpr (List.mem_range.mpr hq)
  obtain ⟨s, es⟩ := List.getElem?_of_mem m
  have pl := p.length_eq
  rw [List.length_range] at pl
  refine ⟨s, by have := (List.getElem?_eq_some_iff.mp es).1; omega, ?_⟩
  show (num[h]?).bind (fun π => π[s]?) = _
  rw [e]
  exact es
structure Filled (num : List (List Nat)) (ties : List Tie) (r : Rows) : Prop where
  fill : ∀ t ∈ ties, ∀ q q', numOf num t.1 = some q → numOf num t.2 = some q' → at2 r t.1.1 q = some (t.2.1, q') ∧ at2 r t.2.1 q' = some (t.1.1, q)
def Shape (cnt : List Nat) (r : Rows) : Prop := r.length = cnt.length ∧ ∀ (h c : Nat) row, cnt[h]? = some c → r[h]? = some row → row.length = c
theorem shape_at {cnt : List Nat} {r : Rows} (k : Shape cnt r) {h c q : Nat} (hc : cnt[h]? = some c) (hq : q < c) : ∃ x, at2 r h q = some x := by
  have hl : h < r.length := by rw [k.1]; exact (List.getElem?_eq_some_iff.mp hc).1
  have e : r[h]? = some r[h] := List.getElem?_eq_getElem hl
  have := k.2 h c _ hc e
  refine ⟨r[h][q]'(by omega), ?_⟩
  unfold at2
  rw [e]
  exact List.getElem?_eq_getElem (by omega)
theorem at2_lt {cnt : List Nat} {r : Rows} (k : Shape cnt r) {h q : Nat} {x : End} (e : at2 r h q = some x) : ∃ c, cnt[h]? = some c ∧ q < c := by
  obtain ⟨row, e1, e2⟩ := Option.bind_eq_some_iff.mp e
  have hl : h < cnt.length := by rw [← k.1]; exact (List.getElem?_eq_some_iff.mp e1).1
  have hc : cnt[h]? = some cnt[h] := List.getElem?_eq_getElem hl
  have := k.2 h _ row hc e1
  exact ⟨_, hc, by have := (List.getElem?_eq_some_iff.mp e2).1; omega⟩
theorem Shape.put {cnt : List Nat} {r : Rows} (k : Shape cnt r) {h q : Nat} {e : End} : Shape cnt (put2 r h q e) := by
  refine ⟨by unfold put2; rw [List.length_set]; exact k.1, fun h' c row hc hr => ?_⟩
  unfold put2 at hr
  by_cases z : h = h'
  · subst z
    have hl : h < r.length := by
      have := (List.getElem?_eq_some_iff.mp hr).1
      simpa using this
    rw [List.getElem?_set_self hl] at hr
    have e' := Option.some.inj hr
    rw [← e', List.length_set, List.getD_eq_getElem?_getD, List.getElem?_eq_getElem hl]
    exact k.2 h c _ hc (List.getElem?_eq_getElem hl)
  · rw [List.getElem?_set_ne z] at hr
    exact k.2 h' c row hc hr
theorem Filled.add {n room : Nat} {cnt : List Nat} {num : List (List Nat)} {pre : List Tie} {t : Tie} {r : Rows} {q q' : Nat} (kn : NumOk n cnt num) (kl : cnt.length = n) (nd : (ends (pre ++ [t])).Nodup) (ks : Shape cnt r) (kf : Filled num pre r)
    {x y : End} (e1 : numOf num t.1 = some q) (e2 : numOf num t.2 = some q') (a1 : at2 r t.1.1 q = some x) (a2 : at2 (put2 r t.1.1 q (t.2.1, q')) t.2.1 q' = some y) :
    Filled num (pre ++ [t]) (put2 (put2 r t.1.1 q (t.2.1, q')) t.2.1 q' (t.1.1, q)) := by
  have new : at2 (put2 (put2 r t.1.1 q (t.2.1, q')) t.2.1 q' (t.1.1, q)) t.1.1 q = some (t.2.1, q') ∧ at2 (put2 (put2 r t.1.1 q (t.2.1, q')) t.2.1 q' (t.1.1, q)) t.2.1 q' = some (t.1.1, q) := by
    refine ⟨?_, by rw [at2_put a2, if_pos ⟨rfl, rfl⟩]⟩
    rw [at2_put a2]
    by_cases z : t.1.1 = t.2.1 ∧ q = q'
    · rw [if_pos z, ← z.1, ← z.2]
    · rw [if_neg z, at2_put a1, if_pos ⟨rfl, rfl⟩]
  -- the places of an elder tie's ends are others
  have apart : ∀ (u : Tie), u ∈ pre → ∀ (e : End) (p : Nat), e ∈ endsOf u → numOf num e = some p → ∀ v, at2 r e.1 p = some v → at2 (put2 (put2 r t.1.1 q (t.2.1, q')) t.2.1 q' (t.1.1, q)) e.1 p = some v := by
    intro u hu e p he hp v hv
    have ndd : ∀ d ∈ endsOf t, d ≠ e := by
      intro d hd z
      subst z
      rw [ends_snoc] at nd
      exact (List.nodup_append.mp nd).2.2 d (List.mem_flatMap.mpr ⟨u, hu, he⟩) d hd rfl
    have m1 : t.1 ∈ endsOf t := by unfold endsOf; split <;> simp
    have m2 : t.2 ∈ endsOf t := by
      unfold endsOf
      split
      · rename_i z; rw [← z]; simp
      · simp
    have d1 : ¬ (e.1 = t.1.1 ∧ p = q) := fun z => ndd t.1 m1 (by
      have : numOf num (e.1, t.1.2) = some p := by rw [z.1, z.2]; exact e1
      have ee := numOf_inj kn kl this (show numOf num (e.1, e.2) = some p from hp)
      exact Prod.ext z.1.symm ee)
    have d2 : ¬ (e.1 = t.2.1 ∧ p = q') := fun z => ndd t.2 m2 (by
      have : numOf num (e.1, t.2.2) = some p := by rw [z.1, z.2]; exact e2
      have ee := numOf_inj kn kl this (show numOf num (e.1, e.2) = some p from hp)
      exact Prod.ext z.1.symm ee)
    rw [at2_put a2, if_neg d2, at2_put a1, if_neg d1]
    exact hv
  refine ⟨fun u hu p p' h1 h2 => ?_⟩
  rcases List.mem_append.mp hu with hu | hu
  · obtain ⟨k1, k2⟩ := kf.fill u hu p p' h1 h2
    have m1 : u.1 ∈ endsOf u := by unfold endsOf; split <;> simp
    have m2 : u.2 ∈ endsOf u := by
      unfold endsOf
      split
      · rename_i z; rw [← z]; simp
      · simp
    exact ⟨apart u hu u.1 p m1 h1 _ k1, apart u hu u.2 p' m2 h2 _ k2⟩
  · rw [List.mem_singleton.mp hu] at h1 h2 ⊢
    rw [e1] at h1
    rw [e2] at h2
    cases h1
    cases h2
    exact new
def pegI (e : End) : PegD := ((e.1 : Int), (e.2 : Int))
def webOf (ms : List Nat) (r : Rows) : WebD := List.zipWith (fun (m : Nat) (row : List End) => ((m : Int), row.map pegI)) ms r
theorem webOf_get {ms : List Nat} {r : Rows} {h : Nat} {hd : HandD} (e : (webOf ms r)[h]? = some hd) : ∃ m row, ms[h]? = some m ∧ r[h]? = some row ∧ hd = ((m : Int), row.map pegI) := by
  unfold webOf at e
  rw [List.getElem?_zipWith] at e
  cases e1 : ms[h]? with
  | none => rw [e1] at e; cases e
  | some m =>
    cases e2 : r[h]? with
    | none => rw [e1, e2] at e; cases e
    | some row =>
      rw [e1, e2] at e
      exact ⟨m, row, rfl, rfl, (Option.some.inj e).symm⟩
theorem pegOf_web {ms : List Nat} {r : Rows} (hl : ms.length = r.length) (h p : Nat) : pegOf (webOf ms r) h p = (at2 r h p).map pegI := by
  unfold pegOf at2 webOf
  rw [List.getElem?_zipWith]
  cases e2 : r[h]? with
  | none =>
    cases e1 : ms[h]? <;> rfl
  | some row =>
    have hm : h < ms.length := by rw [hl]; exact (List.getElem?_eq_some_iff.mp e2).1
    rw [List.getElem?_eq_getElem hm]
    show (row.map pegI)[p]? = (row[p]?).map pegI
    rw [List.getElem?_map]
theorem pegI_inj {e : End} {g q : Nat} (h : pegI e = ((g : Int), (q : Int))) : e = (g, q) := by
  have h1 := congrArg Prod.fst h
  have h2 := congrArg Prod.snd h
  simp only [pegI] at h1 h2
  exact Prod.ext (by exact_mod_cast h1) (by exact_mod_cast h2)
theorem plain_good {n room : Nat} {ties : List Tie} {cnt ms : List Nat} {num : List (List Nat)} {r : Rows} (n0 : 1 ≤ n) (ok : TiesOk n room ties cnt) (tree : Tree n ties) (kn : NumOk n cnt num) (ks : Shape cnt r) (kf : Filled num ties r)
    (ml : ms.length = n) (mk : ∀ m ∈ ms, m ≤ 9) : Good room (webOf ms r) ∧ (webOf ms r).length = n := by
  have cl := ok.ok.len
  have rl : r.length = n := by rw [ks.1, cl]
  have wl : (webOf ms r).length = n := by unfold webOf; rw [List.length_zipWith, ml, rl]; exact Nat.min_self _
  have hml : ms.length = r.length := by rw [ml, rl]
  -- a tie's two places lead to one another
  have back : ∀ h p x, at2 r h p = some x → at2 r x.1 x.2 = some (h, p) := by
    intro h p x hx
    obtain ⟨c, hc, hp⟩ := at2_lt ks hx
    obtain ⟨s, hs, es⟩ := numOf_onto kn cl hc hp
    have hm : (h, s) ∈ ends ties := (ok.ok.mem h s).mpr ⟨c, hc, hs⟩
    obtain ⟨t, ht, he⟩ := List.mem_flatMap.mp hm
    have two : (h, s) = t.1 ∨ (h, s) = t.2 := by
      unfold endsOf at he
      split at he
      · exact .inl (List.mem_singleton.mp he)
      · rcases List.mem_cons.mp he with z | z
        · exact .inl z
        · exact .inr (List.mem_singleton.mp z)
    have there : ∀ d ∈ endsOf t, ∃ q, numOf num d = some q := by
      intro d hd
      obtain ⟨c', hc', hs'⟩ := (ok.ok.mem d.1 d.2).mp (List.mem_flatMap.mpr ⟨t, ht, hd⟩)
      exact numOf_some kn cl hc' hs'
    have m1 : t.1 ∈ endsOf t := by unfold endsOf; split <;> simp
    have m2 : t.2 ∈ endsOf t := by
      unfold endsOf
      split
      · rename_i z; rw [← z]; simp
      · simp
    obtain ⟨q, e1⟩ := there t.1 m1
    obtain ⟨q', e2⟩ := there t.2 m2
    obtain ⟨f1, f2⟩ := kf.fill t ht q q' e1 e2
    rcases two with z | z
    · have eq : q = p := by rw [← z, es] at e1; exact (Option.some.inj e1).symm
      rw [← z] at f1 f2
      rw [eq, hx] at f1
      cases f1
      rw [eq] at f2
      exact f2
    · have eq : q' = p := by rw [← z, es] at e2; exact (Option.some.inj e2).symm
      rw [← z] at f1 f2
      rw [eq, hx] at f2
      cases f2
      rw [eq] at f1
      exact f1
  refine ⟨⟨by omega, fun h hd e => ?_, fun h hd e => ?_, fun h p x e => ?_, fun S hS a b ha hb => ?_⟩, wl⟩
  · obtain ⟨m, row, e1, _, rfl⟩ := webOf_get e
    have := mk m (List.mem_of_getElem? e1)
    exact ⟨by show (0 : Int) ≤ (m : Int); omega, by show (m : Int) ≤ 9; omega⟩
  · obtain ⟨m, row, _, e2, rfl⟩ := webOf_get e
    have hl : h < cnt.length := by rw [← ks.1]; exact (List.getElem?_eq_some_iff.mp e2).1
    have hc : cnt[h]? = some cnt[h] := List.getElem?_eq_getElem hl
    have := ks.2 h _ row hc e2
    have := ok.ok.le h _ hc
    show (row.map pegI).length ≤ room
    rw [List.length_map]
    omega
  · rw [pegOf_web hml] at e
    obtain ⟨x', e1, rfl⟩ := Option.map_eq_some_iff.mp e
    refine ⟨x'.1, x'.2, rfl, ?_⟩
    rw [pegOf_web hml, back h p x' e1]
    rfl
  · have adj : ∀ h p g q, at2 r h p = some (g, q) → S h → S g := fun h p g q e => hS h p g q (by rw [pegOf_web hml, e]; rfl)
    have root : ∀ h, h < n → (S h ↔ S 0) := by
      intro h
      induction h using Nat.strongRecOn with
      | ind h ih =>
        intro hn
        by_cases z : h = 0
        · rw [z]
        · obtain ⟨g, s, t, hg, hm⟩ := tree h (by omega) hn
          have mm : ∀ d ∈ endsOf ((h, s), (g, t)), d ∈ ends ties := fun d hd => List.mem_flatMap.mpr ⟨_, hm, hd⟩
          have ne : ¬ ((h, s) : End) = (g, t) := fun z => by
            have := congrArg Prod.fst z
            simp only at this
            omega
          have i1 : (h, s) ∈ ends ties := mm _ (by unfold endsOf; rw [if_neg ne]; simp)
          have i2 : (g, t) ∈ ends ties := mm _ (by unfold endsOf; rw [if_neg ne]; simp)
          obtain ⟨c1, hc1, hs1⟩ := (ok.ok.mem h s).mp i1
          obtain ⟨c2, hc2, hs2⟩ := (ok.ok.mem g t).mp i2
          obtain ⟨q, e1⟩ := numOf_some kn cl hc1 hs1
          obtain ⟨q', e2⟩ := numOf_some kn cl hc2 hs2
          obtain ⟨f1, f2⟩ := kf.fill _ hm q q' e1 e2
          have ihg := ih g hg (by omega)
          exact ⟨fun sh => ihg.mp (adj h q g q' f1 sh), fun s0 => adj g q' h q f2 (ihg.mpr s0)⟩
    intro sa
    rw [wl] at ha hb
    exact (root b hb).mpr ((root a ha).mp sa)
end NH
set_option Elab.async false
set_option linter.all false
set_option maxRecDepth 100000
set_option maxHeartbeats 4000000
namespace NH
open PySem L2
def RowAt (H : Hp) (l : Addr) (row : List End) : Prop := ∃ as : List Addr, H l = some (.lst (as.map V.ref)) ∧ Paired (PairN H) as row
structure PegSt (Hb H : Hp) (Lp : Addr) (rows : Rows) : Prop where
  ex : ∃ ls : List Addr, H Lp = some (.lst (ls.map V.ref)) ∧ ls.Nodup ∧ (∀ l ∈ ls, Hb l = none ∧ l ≠ Lp) ∧ Paired (RowAt H) ls rows
theorem RowAt.upd_other {H : Hp} {l m : Addr} {row : List End} {o : HO} {xs : List V} (h : RowAt H l row) (hm : H m = some (.lst xs)) (ne : l ≠ m) : RowAt (upd H m o) l row := by
  obtain ⟨as, e, k⟩ := h
  exact ⟨as, by rw [upd_ne ne]; exact e, Paired.mapP k fun _ _ q => tups_lst hm _ _ q⟩
theorem RowAt.same {H H' : Hp} {l : Addr} {row : List End} (s : Same H H') (h : RowAt H l row) : RowAt H' l row := by
  obtain ⟨as, e, k⟩ := h
  exact ⟨as, s _ _ e, Paired.mapP k fun _ _ q => s _ _ q⟩
theorem PegSt.same {Hb H H' : Hp} {Lp : Addr} {rows : Rows} (s : Same H H') (k : PegSt Hb H Lp rows) : PegSt Hb H' Lp rows := by
  obtain ⟨ls, e, nd, fr, p⟩ := k.ex
  exact ⟨ls, s _ _ e, nd, fr, Paired.mapP p fun _ _ q => q.same s⟩
theorem paired_set {α β : Type} {R R' : α → β → Prop} {x : α} {y : β} : ∀ {xs : List α} {ys : List β} {i : Nat}, Paired R xs ys → xs[i]? = some x → (∀ (j : Nat) a b, j ≠ i → xs[j]? = some a → ys[j]? = some b → R a b → R' a b) → R' x y → Paired R' xs (ys.set i y)
  | _, _, _, .nil, e, _, _ => by simp at e
  | _, _, 0, .cons r t, e, k, h => by
    simp at e
    subst e
    refine .cons h ?_
    clear h r
    have k' : ∀ (j : Nat) a b, _ → _ → R a b → R' a b := fun j a b e1 e2 q => k (j + 1) a b (by omega) e1 e2 q
    clear k
    induction t with
    | nil => exact .nil
    | cons r t ih => exact .cons (k' 0 _ _ rfl rfl r) (ih fun j a b e1 e2 q => k' (j + 1) a b e1 e2 q)
  | _, _, i + 1, .cons r t, e, k, h => .cons (k 0 _ _ (by omega) rfl rfl r) (paired_set (i := i) t (by simpa using e) (fun j a b hj e1 e2 q => k (j + 1) a b (by omega) e1 e2 q) h)
theorem paired_setv {α β : Type} {R R' : α → β → Prop} {x : α} {y : β} (up : ∀ a b, R a b → R' a b) (h : R' x y) : ∀ {xs : List α} {ys : List β} (i : Nat), Paired R xs ys → Paired R' (xs.set i x) (ys.set i y)
  | _, _, _, .nil => .nil
  | _, _, 0, .cons _ t => .cons h (Paired.mapP t up)
  | _, _, i + 1, .cons r t => .cons (up _ _ r) (paired_setv up h i t)
theorem PegSt.put {Hb H : Hp} {Lp t1 : Addr} {rows : Rows} {h q : Nat} {e x : End} (k : PegSt Hb H Lp rows) (hx : at2 rows h q = some x) (m1 : H t1 = none) :
    ∃ (ls : List Addr) (l : Addr) (as : List Addr), (upd H t1 (.tup [natV e.1, natV e.2])) Lp = some (.lst (ls.map V.ref)) ∧ ls[h]? = some l ∧ (upd H t1 (.tup [natV e.1, natV e.2])) l = some (.lst (as.map V.ref)) ∧ q < as.length ∧ Hb l = none ∧
      PegSt Hb (upd (upd H t1 (.tup [natV e.1, natV e.2])) l (.lst ((as.map V.ref).set q (.ref t1)))) Lp (put2 rows h q e) := by
  obtain ⟨row, e1, e2⟩ := Option.bind_eq_some_iff.mp hx
  have k' := k.same (same_new (o := .tup [natV e.1, natV e.2]) m1)
  have et : (upd H t1 (.tup [natV e.1, natV e.2])) t1 = some (.tup [natV e.1, natV e.2]) := upd_same
  generalize (upd H t1 (.tup [natV e.1, natV e.2])) = H1 at k' et ⊢
  obtain ⟨ls, hLp, nd, fr, hP⟩ := k'.ex
  obtain ⟨l, hl, as, hla, hPa⟩ := paired_get' hP e1
  have al : as.length = row.length := Paired.length hPa
  have ql : q < row.length := (List.getElem?_eq_some_iff.mp e2).1
  have lm := List.mem_of_getElem? hl
  have eg : rows.getD h [] = row := by rw [List.getD_eq_getElem?_getD, e1]; rfl
  refine ⟨ls, l, as, hLp, hl, hla, by omega, (fr l lm).1, ls, by rw [upd_ne (fun z => (fr l lm).2 z.symm)]; exact hLp, nd, fr, ?_⟩
  unfold put2
  rw [eg]
  refine paired_set (i := h) hP hl (fun j a b hj ea eb q' => ?_) ?_
  · exact q'.upd_other hla fun z => hj (by subst z; exact nd_ix nd ea hl)
  · refine ⟨as.set q t1, by rw [upd_same, List.map_set], ?_⟩
    have tt := tups_lst (o := .lst ((as.map V.ref).set q (.ref t1))) hla
    have up : ∀ a b, PairN H1 a b → PairN (upd H1 l (.lst ((as.map V.ref).set q (.ref t1)))) a b := fun a b z => tt _ _ z
    have new : PairN (upd H1 l (.lst ((as.map V.ref).set q (.ref t1)))) t1 e := tt _ _ et
    exact paired_setv up new q hPa
theorem paired_mem {α β : Type} {R R' : α → β → Prop} : ∀ {xs : List α} {ys : List β}, Paired R xs ys → (∀ a b, a ∈ xs → R a b → R' a b) → Paired R' xs ys
  | _, _, .nil, _ => .nil
  | _, _, .cons r t, k => .cons (k _ _ List.mem_cons_self r) (paired_mem t fun a b h => k a b (List.mem_cons_of_mem _ h))
theorem paired_mapI {H : Hp} : ∀ {as : List Addr} {row : List End}, Paired (PairN H) as row → PairsAt H as (row.map pegI)
  | _, _, .nil => .nil
  | _, _, .cons r t => .cons r (paired_mapI t)
theorem ends_take : ∀ (ties : List Tie) (i : Nat), (ends (ties.take i)).Sublist (ends ties)
  | [], i => by simp [ends]
  | t :: r, 0 => by
    rw [List.take_zero]
    exact List.nil_sublist _
  | t :: r, i + 1 => by
    show (endsOf t ++ ends (r.take i)).Sublist (endsOf t ++ ends r)
    exact List.Sublist.append_left (ends_take r i) _
def spMarks : Sp := fun vs H Q _ => ∃ (p : Addr) (n : Nat), vs = [.ref p, natV n] ∧ BoxAt H p ∧ n ≤ 1000 ∧
  ∀ (r : Addr) (ms : List Nat) (H' : Hp), H r = none → Step p H H' → H' r = some (.lst (ms.map natV)) → ms.length = n → (∀ m ∈ ms, m ≤ 9) → Q (.ref r) H'
def spPlain : Sp := fun vs H Q _ => ∃ (p : Addr) (most room : Nat), vs = [.ref p, natV most, natV room] ∧ BoxAt H p ∧ 1 ≤ most ∧ most ≤ 500 ∧ 2 ≤ room ∧ room ≤ 500 ∧
  ∀ (r : Addr) (w : WebD) (H' : Hp), H r = none → Step p H H' → WebAt H' r w → Good room w → w.length ≤ most → Q (.ref r) H'
theorem repN (n x : Nat) : (List.replicate n [natV x]).flatten = (List.replicate n x).map natV := by
  induction n with
  | zero => rfl
  | succ n ih => rw [List.replicate_succ, List.replicate_succ, List.flatten_cons, ih]; rfl
theorem repA (n : Nat) (x : Addr) : (List.replicate n [V.ref x]).flatten = (List.replicate n x).map V.ref := by
  induction n with
  | zero => rfl
  | succ n ih => rw [List.replicate_succ, List.replicate_succ, List.flatten_cons, ih]; rfl
theorem paired_rep {α β : Type} {R : α → β → Prop} {x : α} {y : β} (r : R x y) : ∀ n : Nat, Paired R (List.replicate n x) (List.replicate n y)
  | 0 => .nil
  | n + 1 => by rw [List.replicate_succ, List.replicate_succ]; exact .cons r (paired_rep r n)
def NumsAt (H : Hp) (nl : List Addr) (num : List (List Nat)) : Prop := Paired (fun l π => H l = some (.lst (π.map natV))) nl num
abbrev rTupOf (K : PySem.W.Frag) : List V → Hp → VK → Prop := fun xs H Q => ∃ p ys, xs = [.ref p] ∧ ((SqL K H p ys ∧ ∀ l, H l = none → Q (.ref l) (upd H l (.tup ys))) ∨ (SqT K H p ys ∧ Q (.ref p) H))
end NH
set_option Elab.async false
set_option linter.all false
set_option maxRecDepth 100000
set_option maxHeartbeats 4000000
namespace NH
open PySem L2
abbrev sMarks : Stmt := top 15
abbrev sPlain : Stmt := top 16
abbrev nMarks : List Str := ["_law_box_here", "_law_many", "_law_form", "_law_two", "_law_k"]
abbrev nPlain : List Str := ["_law_box_here", "_law_most", "_law_room", "_law_many", "_law_marks_here", "_law_ties_here", "_law_count", "_law_number", "_law_pegs", "_law_h", "_law_s", "_law_g", "_law_t", "_law_one", "_law_mark", "_law_some"]
section
variable {P : Program} {w : World} {K : PySem.W.Frag} {mg : Str → Option Value} {base : Heap}
theorem scMarks : FnScope nMarks ["_law_box_here", "_law_many"] (defScope sMarks) := ⟨rfl, rfl, rfl, by decide +kernel, rfl, by decide +kernel, by decide +kernel⟩
abbrev tTk (i : Nat) (z : Int) : TE := tCall spTake [] E0 (tCons (tVar i) (tCons (tC (.int z)) tNil))
theorem ok_marks {f fT : Addr} {fd fdT : FuncData} (F : Fun K "_law_marks" "_law_marks" sMarks f fd) (GT : FnOk P w K mg base CX0 1 fT fdT ["_law_box_here", "_law_wide"] spTake) (bT : Binds K fdT ["_law_box_here", "_law_wide"] []) (mT : mg "_law_take" = some (.ref fT)) (kT : PySem.W.keepIn K (.ref fT) = true)
    (mrange : mg "range" = none) : FnOk P w K mg base CX0 2 f fd ["_law_box_here", "_law_many"] spMarks := by
  refine F.ok scMarks (fun vs H Q E h => ?_) (fun cdv A outer s H vs Q E hr h => ?_)
  · obtain ⟨p, n, rfl, _⟩ := h
    rfl
  · obtain ⟨p, n, rfl, hb, hn, k⟩ := h
    have nd := scMarks.nd
    refine ⟨_, pss_cons (ps_set (i := 2) nd rfl (Or.inr rfl) (pe_call GT hr (by rfl) mT kT bT .nil pass0 (pa_cons (pv 0) (pa_cons pe_int pa_nil))))
      (pss_cons (ps_set (i := 3) nd rfl (Or.inr rfl) (pe_tup (pa_cons (pe_call GT hr (by rfl) mT kT bT .nil pass0 (pa_cons (pv 0) (pa_cons pe_int pa_nil))) (pa_cons (pe_call GT hr (by rfl) mT kT bT .nil pass0 (pa_cons (pv 0) (pa_cons pe_int pa_nil))) pa_nil))))
      (pss_cons (ps_if (pt_cmpR op_lt (pv 2) pe_int (nomark _)) (pss_one (ps_ret (pe_op op_rep (pe_lst (pa_cons (pe_ix ix_tup (pv 3) pe_int (fun _ _ => rfl)) pa_nil)) (pv 1)))) pss_nil)
      (pss_one (ps_ret (pe_lc (own := [("_law_k", 4)]) (g := gName 4)
        (te := tOp (rIxL K) (tLst (tCons (tOp (rIxT K) (tVar 3) (tTk 0 2)) (tCons (tTk 0 10) tNil))) (tOp (rI0 fun i j => .int (i - j)) (tVar 2) (tC (.int 2)))) (by rfl) nd (pi_range1 (by rfl) mrange (pa_cons (pv 1) pa_nil)) (blkOk_by (own := [("_law_k", 4)]) (N := nMarks) (sc := defScope sMarks) (by decide +kernel))
        (fun _ _ _ _ _ => pg_name (i := 4) nd rfl (Or.inl rfl)) (fun _ _ _ _ _ => pts_nil)
        (fun _ _ _ _ _ => by exact pe_ix ix_list (pe_lst (pa_cons (pe_ix ix_tup (pv 3) (pe_call GT hr (by rfl) mT kT bT .nil pass0 (pa_cons (pv 0) (pa_cons pe_int pa_nil))) (fun _ _ => rfl)) (pa_cons (pe_call GT hr (by rfl) mT kT bT .nil pass0 (pa_cons (pv 0) (pa_cons pe_int pa_nil))) pa_nil))) (pe_op op_sub (pv 2) pe_int) (fun _ _ => rfl))))))), ?_⟩
    obtain ⟨xa, xb, hx, hx0, hx1⟩ := hb.ex
    refine ⟨_, rfl, p, xa, xb, _, rfl, hx, hx0, hx1, by decide, by decide, fun fm a1 b1 f0 f1 c1 c2 => ?_⟩
    refine ⟨_, rfl, p, a1, b1, _, rfl, upd_same, c1, c2, by decide, by decide, fun x a2 b2 x0 x1 c3 c4 => ?_⟩
    refine ⟨_, rfl, p, a2, b2, _, rfl, upd_same, c3, c4, by decide, by decide, fun y a3 b3 y0 y1 c5 c6 => ⟨(by show 2 ≤ sizeLine; decide), fun T nT => ?_⟩⟩
    obtain ⟨x', rfl⟩ := Int.eq_ofNat_of_zero_le x0
    obtain ⟨y', rfl⟩ := Int.eq_ofNat_of_zero_le y0
    have s1 := ((((Step.refl hb).take (x := a1) c1 c2).take (x := a2) c3 c4).take (x := a3) c5 c6).new (o := .tup [.int (x' : Int), .int (y' : Int)]) nT
    have hT : (upd (upd (upd (upd H p (.lst [.int a1, .int b1])) p (.lst [.int a2, .int b2])) p (.lst [.int a3, .int b3])) T (.tup [.int (x' : Int), .int (y' : Int)])) T = some (.tup [.int (x' : Int), .int (y' : Int)]) := upd_same
    refine ⟨_, rfl, _, _, rfl, rfl, _, rfl, ?_⟩
    refine ite2 (fun hf => ?_) (fun hf => ?_)
    · refine ⟨_, rfl, T, _, _, _, rfl, rfl, SqT.of upd_same, rfl, (by show 1 ≤ sizeLine; decide), fun a0 n0 => ?_⟩
      have s2 := s1.new (o := .lst [natV x']) n0
      refine ⟨_, rfl, a0, _, _, rfl, rfl, upd_same, by omega, by omega, (by show 1 * (n : Int).toNat ≤ sizeLine; rw [sizeLine_eq]; omega), fun r nr => ?_⟩
      refine k r (List.replicate n x') _ (s2.free nr) (s2.new nr) ?_ List.length_replicate fun m hm => ?_
      · rw [upd_same, Int.toNat_natCast, ← repN]
        rfl
      · rw [(List.mem_replicate.mp hm).2]
        omega
    · have hf' : ¬ fm < 2 := fun z => hf (decide_eq_true z)
      generalize (upd (upd (upd (upd H p (.lst [.int a1, .int b1])) p (.lst [.int a2, .int b2])) p (.lst [.int a3, .int b3])) T (.tup [.int (x' : Int), .int (y' : Int)])) = H1 at s1 hT ⊢
      refine ⟨_, rfl, _, rfl, by omega, by omega, fun D nD => ?_⟩
      have neD : D ≠ p := s1.box.ne nD
      have nDH : H D = none := s1.free nD
      have neTp : T ≠ p := fun z => by obtain ⟨_, _, e, _⟩ := s1.box.ex; rw [← z, hT] at e; cases e
      refine lc_range (lo := 0) (n := _) (fun i H2 => Step p H H2 ∧ H2 T = some (.tup [natV x', natV y']) ∧ ∃ ms : List Nat, H2 D = some (.lst (ms.map natV)) ∧ ms.length = i ∧ ∀ m ∈ ms, m ≤ 9)
        ⟨s1.new nD, same_new nD _ _ hT, [], upd_same, rfl, (fun m hm => nomatch hm)⟩ ?_ ?_
      · rintro i H2 hi ⟨s2, hT2, ms, hD, ml, mk⟩
        refine ⟨rfl, ?_⟩
        dsimp only [tYes]
        rw [if_pos rfl]
        obtain ⟨xa, xb, hx, hx0, hx1⟩ := s2.box.ex
        refine ⟨_, rfl, _, rfl, p, xa, xb, _, rfl, hx, hx0, hx1, by decide, by decide, fun u a4 b4 u0 u1 c7 c8 => ?_⟩
        obtain ⟨v, ev, hv⟩ : ∃ v : Nat, atI [natV x', natV y'] u = some (natV v) ∧ v ≤ 9 := by
          have h : u = 0 ∨ u = 1 := by omega
          rcases h with rfl | rfl
          · exact ⟨x', rfl, by omega⟩
          · exact ⟨y', rfl, by omega⟩
        have s3 := s2.take (x := a4) c7 c8
        refine ⟨T, _, _, _, rfl, rfl, SqT.of (by rw [upd_ne neTp]; exact hT2), ev, ?_⟩
        refine ⟨_, rfl, p, a4, b4, _, rfl, upd_same, c7, c8, by decide, by decide, fun y2 a5 b5 y20 y21 c9 c10 => ⟨(by show 2 ≤ sizeLine; decide), fun a0 n0 => ?_⟩⟩
        obtain ⟨y3, rfl⟩ := Int.eq_ofNat_of_zero_le y20
        have s4 := (s3.take (x := a5) c9 c10).new (o := .lst [natV v, natV y3]) n0
        obtain ⟨z, ez, hz⟩ : ∃ z : Nat, atI [natV v, natV y3] (fm - 2) = some (natV z) ∧ z ≤ 9 := by
          have h : fm - 2 = 0 ∨ fm - 2 = 1 := by omega
          rcases h with h | h <;> rw [h]
          · exact ⟨v, rfl, hv⟩
          · exact ⟨y3, rfl, by omega⟩
        refine ⟨_, rfl, _, _, rfl, rfl, a0, _, _, _, rfl, rfl, SqL.of upd_same, ez, ?_⟩
        have hD4 : (upd (upd (upd H2 p (.lst [.int a4, .int b4])) p (.lst [.int a5, .int b5])) a0 (.lst [natV v, natV y3])) D = some (.lst (ms.map natV)) := by
          rw [upd_ne (fun z => by rw [← z, upd_ne neD, upd_ne neD, hD] at n0; cases n0), upd_ne neD, upd_ne neD]; exact hD
        have hT4 : (upd (upd (upd H2 p (.lst [.int a4, .int b4])) p (.lst [.int a5, .int b5])) a0 (.lst [natV v, natV y3])) T = some (.tup [natV x', natV y']) := by
          rw [upd_ne (fun z => by rw [← z, upd_ne neTp, upd_ne neTp, hT2] at n0; cases n0), upd_ne neTp, upd_ne neTp]; exact hT2
        refine ⟨_, hD4, (by rw [List.length_map, ml, sizeLine_eq]; omega), s4.put nDH neD, (by rw [upd_ne (ne_of hT4 hD4 (fun z => nomatch z))]; exact hT4), ms ++ [z], (by rw [List.map_append]; exact upd_same), (by rw [List.length_append, ml]; rfl), fun m hm => ?_⟩
        rcases List.mem_append.mp hm with q | q
        · exact mk m q
        · rw [List.mem_singleton.mp q]; exact hz
      · rintro H2 ⟨s2, hT2, ms, hD, ml, mk⟩
        exact k D ms H2 nDH s2 hD (by omega) mk
end
end NH
set_option Elab.async false
set_option linter.all false
set_option maxRecDepth 100000
set_option maxHeartbeats 4000000
namespace NH
open PySem L2
section
variable {P : Program} {w : World} {K : PySem.W.Frag} {mg : Str → Option Value} {base : Heap}
theorem scPlain : FnScope nPlain ["_law_box_here", "_law_most", "_law_room"] (defScope sPlain) := ⟨rfl, rfl, rfl, by decide +kernel, rfl, by decide +kernel, by decide +kernel⟩
structure Dr (P : Program) (w : World) (K : PySem.W.Frag) (mg : Str → Option Value) (base : Heap) : Prop where
  take : ∃ (f : Addr) (fd : FuncData), FnOk P w K mg base CX0 1 f fd ["_law_box_here", "_law_wide"] spTake ∧ Binds K fd ["_law_box_here", "_law_wide"] [] ∧ mg "_law_take" = some (.ref f) ∧ PySem.W.keepIn K (.ref f) = true
  shuf : ∃ (f : Addr) (fd : FuncData), FnOk P w K mg base CX0 2 f fd ["_law_box_here", "_law_many"] spShuf ∧ Binds K fd ["_law_box_here", "_law_many"] [] ∧ mg "_law_shuffled" = some (.ref f) ∧ PySem.W.keepIn K (.ref f) = true
  mrange : mg "range" = none
  mlen : mg "len" = none
  mtuple : mg "tuple" = none
  mlist : mg "list" = none
  mzip : mg "zip" = none
  menum : mg "enumerate" = none
  mmin : mg "min" = none
  mmax : mg "max" = none
structure Dr2 (P : Program) (w : World) (K : PySem.W.Frag) (mg : Str → Option Value) (base : Heap) : Prop extends Dr P w K mg base where
  marks : ∃ (f : Addr) (fd : FuncData), FnOk P w K mg base CX0 2 f fd ["_law_box_here", "_law_many"] spMarks ∧ Binds K fd ["_law_box_here", "_law_many"] [] ∧ mg "_law_marks" = some (.ref f) ∧ PySem.W.keepIn K (.ref f) = true
  ties : ∃ (f : Addr) (fd : FuncData), FnOk P w K mg base CX0 2 f fd ["_law_box_here", "_law_many", "_law_room"] spTies ∧ Binds K fd ["_law_box_here", "_law_many", "_law_room"] [] ∧ mg "_law_ties" = some (.ref f) ∧ PySem.W.keepIn K (.ref f) = true
theorem ok_plain {f : Addr} {fd : FuncData} (F : Fun K "_law_plain_web" "_law_plain_web" sPlain f fd) (G : Dr2 P w K mg base) : FnOk P w K mg base CX0 3 f fd ["_law_box_here", "_law_most", "_law_room"] spPlain := by
  obtain ⟨fT, fdT, GT, bT, mT, kT⟩ := G.take
  obtain ⟨fS, fdS, GS, bS, mS, kS⟩ := G.shuf
  obtain ⟨fM, fdM, GM, bM, mM, kM⟩ := G.marks
  obtain ⟨fI, fdI, GI, bI, mI, kI⟩ := G.ties
  refine F.ok scPlain (fun vs H Q E h => ?_) (fun cdv A outer s H vs Q E hr h => ?_)
  · obtain ⟨p, most, room, rfl, _⟩ := h
    rfl
  · obtain ⟨p, most, room, rfl, hb, o0, o1, r0, r1, k⟩ := h
    have nd := scPlain.nd
    have hr1 := hr.mono (show 1 ≤ 2 by decide)
    refine ⟨_, pss_cons (ps_set (i := 3) nd rfl (Or.inl rfl) (pe_op op_add pe_int (pe_call GT hr1 (by rfl) mT kT bT .nil pass0 (pa_cons (pv 0) (pa_cons (pv 1) pa_nil)))))
      (pss_cons (ps_set (i := 4) nd rfl (Or.inl rfl) (pe_call GM hr (by rfl) mM kM bM .nil pass0 (pa_cons (pv 0) (pa_cons (pv 3) pa_nil))))
      (pss_cons (ps_asg (pe_call GI hr (by rfl) mI kI bI .nil pass0 (pa_cons (pv 0) (pa_cons (pv 3) (pa_cons (pv 2) pa_nil)))) (pg_tup (by rfl) (pgs_cons (pg_name (i := 5) nd rfl (Or.inl rfl)) (pgs_cons (pg_name (i := 6) nd rfl (Or.inl rfl)) pgs_nil))))
      (pss_cons (ps_setLc (i := 7) (own := [("_law_one", 13)]) (g := gName 13) (te := tCall spShuf [] E0 (tCons (tVar 0) (tCons (tVar 13) tNil))) (by rfl) nd rfl rfl (sw_true rfl rfl rfl (by decide +kernel)) (pi_list (pv 6)) (blkOk_by (own := [("_law_one", 13)]) (N := nPlain) (sc := defScope sPlain) (by decide +kernel))
          (fun _ _ _ _ _ => pg_name (i := 13) nd rfl (Or.inl rfl)) (fun _ _ _ _ _ => pts_nil) (fun _ _ _ _ _ => pe_call GS hr (by rfl) mS kS bS .nil pass0 (pa_cons (pv 0) (pa_cons (pv 13) pa_nil))))
      (pss_cons (ps_setLc (i := 8) (own := [("_law_one", 13)]) (g := gName 13) (te := tOp rRep (tLst (tCons (tTup (tCons (tC (.int 0)) (tCons (tC (.int 0)) tNil))) tNil)) (tVar 13)) (by rfl) nd rfl rfl (sw_true rfl rfl rfl (by decide +kernel)) (pi_list (pv 6)) (blkOk_by (own := [("_law_one", 13)]) (N := nPlain) (sc := defScope sPlain) (by decide +kernel))
          (fun _ _ _ _ _ => pg_name (i := 13) nd rfl (Or.inl rfl)) (fun _ _ _ _ _ => pts_nil) (fun _ _ _ _ _ => by exact pe_op op_rep (pe_lst (pa_cons (pe_tup (pa_cons pe_int (pa_cons pe_int pa_nil))) pa_nil)) (pv 13)))
      (pss_cons (ps_for PassesOwn.never rfl (pi_list (pv 5)) (pg_tup (by rfl) (pgs_cons (pg_tup (by rfl) (pgs_cons (pg_name (i := 9) nd rfl (Or.inl rfl)) (pgs_cons (pg_name (i := 10) nd rfl (Or.inl rfl)) pgs_nil))) (pgs_cons (pg_tup (by rfl) (pgs_cons (pg_name (i := 11) nd rfl (Or.inl rfl)) (pgs_cons (pg_name (i := 12) nd rfl (Or.inl rfl)) pgs_nil))) pgs_nil)))
        (pss_cons (ps_asg (pe_tup (pa_cons (pv 11) (pa_cons (pe_ix ix_list (pe_ix ix_list (pv 7) (pv 11) (fun _ _ => rfl)) (pv 12) (fun _ _ => rfl)) pa_nil))) (pg_sub (pe_ix ix_list (pv 8) (pv 9) (fun _ _ => rfl)) (pe_ix ix_list (pe_ix ix_list (pv 7) (pv 9) (fun _ _ => rfl)) (pv 10) (fun _ _ => rfl)) set_list))
        (pss_one (ps_asg (pe_tup (pa_cons (pv 9) (pa_cons (pe_ix ix_list (pe_ix ix_list (pv 7) (pv 9) (fun _ _ => rfl)) (pv 10) (fun _ _ => rfl)) pa_nil))) (pg_sub (pe_ix ix_list (pv 8) (pv 11) (fun _ _ => rfl)) (pe_ix ix_list (pe_ix ix_list (pv 7) (pv 11) (fun _ _ => rfl)) (pv 12) (fun _ _ => rfl)) set_list)))))
      (pss_one (ps_ret (pe_callTy call_tuple_of (by rfl) G.mtuple (by decide +kernel) (pa_cons (pe_lc (own := [("_law_mark", 14), ("_law_some", 15)]) (g := gTup K 2 (gCons (gName 14) (gCons (gName 15) gNil))) (te := tTup (tCons (tVar 14) (tCons (tCB (rTupOf K) (tCons (tVar 15) tNil)) tNil))) (by rfl) nd
          (pi_zip (by rfl) G.mzip (pa_cons (pv 4) (pa_cons (pv 8) pa_nil))) (blkOk_by (own := [("_law_mark", 14), ("_law_some", 15)]) (N := nPlain) (sc := defScope sPlain) (by decide +kernel))
          (fun _ _ _ _ _ => by exact pg_tup (by rfl) (pgs_cons (pg_name (i := 14) nd rfl (Or.inl rfl)) (pgs_cons (pg_name (i := 15) nd rfl (Or.inl rfl)) pgs_nil))) (fun _ _ _ _ _ => pts_nil)
          (fun _ _ _ _ _ => by exact pe_tup (pa_cons (pv 14) (pa_cons (pe_callTy call_tuple_of (by rfl) G.mtuple (by decide +kernel) (pa_cons (pv 15) pa_nil)) pa_nil)))) pa_nil))))))))), ?_⟩
    obtain ⟨xa, xb, hx, hx0, hx1⟩ := hb.ex
    refine ⟨_, rfl, _, rfl, p, xa, xb, _, rfl, hx, hx0, hx1, by omega, by omega, fun r a1 b1 rz rl c1 c2 => ⟨_, _, rfl, rfl, ?_⟩⟩
    obtain ⟨r', rfl⟩ := Int.eq_ofNat_of_zero_le rz
    have s1 := (Step.refl hb).take (x := a1) c1 c2
    generalize (upd H p (.lst [.int a1, .int b1])) = H1 at s1 ⊢
    -- marks
    refine ⟨_, rfl, _, rfl, p, 1 + r', rfl, s1.box, by omega, fun Lm ms H2 nLm s2 hLm ml mk => ?_⟩
    have neLm : Lm ≠ p := s1.box.ne nLm
    -- ties
    refine ⟨_, rfl, _, rfl, _, rfl, p, 1 + r', room, rfl, s2.box, by omega, by omega, r0, by omega, fun rt Lt Lc ties cnt H3 nrt s3 hrt nLt nLc hT hLc ok tree => ?_⟩
    have neLt : Lt ≠ p := s2.box.ne nLt
    have neLc : Lc ≠ p := s2.box.ne nLc
    have hLm3 := s3.keep _ _ neLm hLm
    have s13 := s1.trans (s2.trans s3)
    refine ⟨rt, _, rfl, SqT.of hrt, rfl, _, _, rfl, _, _, rfl, rfl, ?_⟩
    have cl := ok.ok.len
    -- number
    refine ⟨_, rfl, Lc, rfl, ⟨_, SqL.of hLc⟩, fun D nD => ?_⟩
    have neD : D ≠ p := s3.box.ne nD
    refine lc_list (K := K) (a := Lc) (xs := cnt.map natV) (fun i H4 => Step p H3 H4 ∧ ∃ (nl : List Addr) (num : List (List Nat)), H4 D = some (.lst (nl.map V.ref)) ∧ NumsAt H4 nl num ∧ num.length = i ∧ (∀ l ∈ nl, l ≠ D ∧ l ≠ p) ∧
        ∀ (j c : Nat) (π : List Nat), cnt[j]? = some c → num[j]? = some π → π.Perm (List.range c))
      ⟨(Step.refl s3.box).new nD, [], [], upd_same, .nil, rfl, (fun l hl => nomatch hl), fun j c π _ e => by simp at e⟩ (fun i H4 _ ⟨s4, _⟩ => SqL.of (s4.keep _ _ neLc hLc)) ?_ ?_
    · rintro i x H4 hxi ⟨s4, nl, num, hD, hN, nlen, nfr, nperm⟩
      rw [List.getElem?_map] at hxi
      obtain ⟨c, ec, rfl⟩ := Option.map_eq_some_iff.mp hxi
      have hil : i < cnt.length := (List.getElem?_eq_some_iff.mp ec).1
      have cr := ok.ok.le i c ec
      refine ⟨rfl, ?_⟩
      dsimp only [tYes]
      rw [if_pos rfl]
      refine ⟨_, rfl, _, rfl, p, c, rfl, s4.box, by omega, fun q π H5 nq s5 hq hp => ?_⟩
      have nqD : q ≠ D := fun z => by rw [z, hD] at nq; cases nq
      have nll : nl.length = num.length := Paired.length hN
      have hD5 := s5.keep _ _ neD hD
      refine ⟨_, hD5, (by rw [List.length_map, nll, nlen, sizeLine_eq]; omega), (s4.trans s5).put (o := .lst (nl.map V.ref ++ [.ref q])) nD neD, nl ++ [q], num ++ [π], (by rw [List.map_append]; exact upd_same), ?_, (by rw [List.length_append, nlen]; rfl), fun l hl => ?_, fun j c' π' e1 e2 => ?_⟩
      · have up : ∀ (l : Addr) (π' : List Nat), l ∈ nl → H4 l = some (.lst (π'.map natV)) → (upd H5 D (.lst (nl.map V.ref ++ [.ref q]))) l = some (.lst (π'.map natV)) := fun l π' hl e => by
          rw [upd_ne (nfr l hl).1]
          exact s5.keep _ _ (nfr l hl).2 e
        have hN2 : NumsAt (upd H5 D (.lst (nl.map V.ref ++ [.ref q]))) nl num := paired_mem hN fun l π' hl e => up l π' hl e
        have hnew : (upd H5 D (HO.lst (nl.map V.ref ++ [V.ref q]))) q = some (HO.lst (π.map natV)) := by rw [upd_ne nqD]; exact hq
        exact paired_snoc (R := fun (l : Addr) (π' : List Nat) => (upd H5 D (HO.lst (nl.map V.ref ++ [V.ref q]))) l = some (HO.lst (π'.map natV))) hnew hN2
      · rcases List.mem_append.mp hl with z | z
        · exact nfr l z
        · rw [List.mem_singleton.mp z]
          exact ⟨nqD, s4.box.ne nq⟩
      · by_cases z : j < num.length
        · rw [List.getElem?_append_left z] at e2
          exact nperm j c' π' e1 e2
        · rw [List.getElem?_append_right (by omega)] at e2
          have ej : j = i := by
            have := (List.getElem?_eq_some_iff.mp e2).1
            simp at this
            omega
          subst ej
          rw [nlen, Nat.sub_self] at e2
          rw [ec] at e1
          cases e1
          cases e2
          exact hp
    rintro H4 ⟨s4, nl, num, hD, hN, nlen, nfr, nperm⟩
    rw [List.length_map] at nlen
    have kn : NumOk (1 + r') cnt num := ⟨by omega, nperm⟩
    have hLc4 := s4.keep _ _ neLc hLc
    have hLm4 := s4.keep _ _ neLm hLm3
    have hT4 : TiesAt H4 Lt ties := by
      obtain ⟨as, h1, h2⟩ := hT.ex
      exact ⟨as, s4.keep _ _ neLt h1, Paired.mapP h2 fun _ _ q => q.tups (s4.tups s3.box)⟩
    -- pegs
    refine ⟨_, rfl, Lc, rfl, ⟨_, SqL.of hLc4⟩, fun Lp nLp => ?_⟩
    have neLp : Lp ≠ p := s4.box.ne nLp
    refine lc_list (K := K) (a := Lc) (xs := cnt.map natV) (fun i H6 => Step p H4 H6 ∧ ∃ rows : Rows, PegSt H4 H6 Lp rows ∧ rows.length = i ∧ ∀ (j c : Nat) row, cnt[j]? = some c → rows[j]? = some row → row.length = c)
      ⟨(Step.refl s4.box).new nLp, [], ⟨[], upd_same, List.nodup_nil, (fun l hl => nomatch hl), .nil⟩, rfl, fun j c row _ e => by simp at e⟩ (fun i H6 _ ⟨s6, _⟩ => SqL.of (s6.keep _ _ neLc hLc4)) ?_ ?_
    · rintro i x H6 hxi ⟨s6, rows, hPg, rlen, rsh⟩
      rw [List.getElem?_map] at hxi
      obtain ⟨c, ec, rfl⟩ := Option.map_eq_some_iff.mp hxi
      have hil : i < cnt.length := (List.getElem?_eq_some_iff.mp ec).1
      have cr := ok.ok.le i c ec
      refine ⟨rfl, ?_⟩
      dsimp only [tYes]
      rw [if_pos rfl]
      refine ⟨(by show 2 ≤ sizeLine; decide), fun z mz => ⟨(by show 1 ≤ sizeLine; decide), fun a0 m0 => ⟨_, rfl, a0, _, _, rfl, rfl, upd_same, by omega, by omega, (by show 1 * (c : Int).toNat ≤ sizeLine; rw [sizeLine_eq]; omega), fun l nl' => ?_⟩⟩⟩
      have q1 := (same_new (o := .tup [.int 0, .int 0]) mz).trans (same_new (o := .lst [.ref z]) m0)
      have q2 := same_new (o := .lst (List.replicate (c : Int).toNat [V.ref z]).flatten) nl'
      have q := q1.trans q2
      have nl6 : H6 l = none := q1.free nl'
      have ez := q2 _ _ ((same_new (o := .lst [.ref z]) m0) _ _ (upd_same (H := H6) (a := z) (o := .tup [.int 0, .int 0])))
      have el : (upd (upd (upd H6 z (.tup [.int 0, .int 0])) a0 (.lst [.ref z])) l (.lst (List.replicate (c : Int).toNat [V.ref z]).flatten)) l = some (.lst ((List.replicate c z).map V.ref)) := by rw [upd_same, Int.toNat_natCast, repA]
      generalize (upd (upd (upd H6 z (.tup [.int 0, .int 0])) a0 (.lst [.ref z])) l (.lst (List.replicate (c : Int).toNat [V.ref z]).flatten)) = H7 at q q2 ez el ⊢
      obtain ⟨ls, hLp, lnd, lfr, hP⟩ := hPg.ex
      have hLp7 := q _ _ hLp
      have lll : ls.length = rows.length := Paired.length hP
      have neLl : l ≠ Lp := fun z => by rw [z, hLp] at nl6; cases nl6
      refine ⟨_, hLp7, (by rw [List.length_map, lll, rlen, sizeLine_eq]; omega), (s6.same q).put nLp neLp, rows ++ [List.replicate c (0, 0)], ⟨ls ++ [l], (by rw [List.map_append]; exact upd_same), ?_, fun m hm => ?_, ?_⟩, (by rw [List.length_append, rlen]; rfl), fun j c' row e1 e2 => ?_⟩
      · refine nd_snoc lnd fun hm => ?_
        obtain ⟨j, ej⟩ := List.getElem?_of_mem hm
        obtain ⟨row, _, as, e, _⟩ := paired_get hP ej
        rw [nl6] at e
        cases e
      · rcases List.mem_append.mp hm with y | y
        · exact lfr m y
        · rw [List.mem_singleton.mp y]
          exact ⟨s6.free nl6, neLl⟩
      · have hP2 : Paired (RowAt (upd H7 Lp (.lst (ls.map V.ref ++ [.ref l])))) ls rows := paired_mem hP fun m row hm e => (e.same q).upd_other hLp7 (lfr m hm).2
        refine paired_snoc (R := RowAt (upd H7 Lp (.lst (ls.map V.ref ++ [.ref l])))) (RowAt.upd_other ⟨List.replicate c z, el, ?_⟩ hLp7 neLl) hP2
        exact paired_rep (R := PairN H7) (by show H7 z = some (.tup [natV 0, natV 0]); exact ez) c
      · by_cases y : j < rows.length
        · rw [List.getElem?_append_left y] at e2
          exact rsh j c' row e1 e2
        · rw [List.getElem?_append_right (by omega)] at e2
          have ej : j = i := by
            have := (List.getElem?_eq_some_iff.mp e2).1
            simp at this
            omega
          subst ej
          rw [rlen, Nat.sub_self] at e2
          rw [ec] at e1
          cases e1
          cases e2
          exact List.length_replicate
    rintro H6 ⟨s6, rows, hPg, rlen, rsh⟩
    rw [List.length_map] at rlen
    -- the ties
    obtain ⟨as, hLt4, hTP⟩ := hT4.ex
    have hLt6 := s6.keep _ _ neLt hLt4
    refine ⟨_, rfl, Lt, rfl, ⟨_, SqL.of hLt6⟩, for_list (K := K) (a := Lt) (xs := as.map V.ref) (fun i σ H7 => ∃ (rows : Rows) (o9 o10 o11 o12 o13 o14 o15 : Option V), σ = [some (.ref p), some (natV most), some (natV room), some (natV (1 + r')), some (.ref Lm), some (.ref Lt), some (.ref Lc), some (.ref D), some (.ref Lp), o9, o10, o11, o12, o13, o14, o15] ∧
        Step p H4 H7 ∧ PegSt H4 H7 Lp rows ∧ Shape cnt rows ∧ Filled num (ties.take i) rows)
      ⟨rows, none, none, none, none, none, none, none, rfl, s6, hPg, ⟨by omega, rsh⟩, ⟨fun t ht => by simp at ht⟩⟩ (fun i σ H7 _ ⟨_, _, _, _, _, _, _, _, _, s7, _⟩ => SqL.of (s7.keep _ _ neLt hLt4)) ?_ ?_⟩
    · clear hPg rsh rlen s6 hLt6
      rintro i y σ H7 hyi ⟨rows, o9, o10, o11, o12, o13, o14, o15, rfl, s7, hPg, sh, fl⟩
      rw [List.getElem?_map] at hyi
      obtain ⟨ta, eta, rfl⟩ := Option.map_eq_some_iff.mp hyi
      obtain ⟨t, et, x, y, e0, e1, e2⟩ := paired_get hTP eta
      have tt7 := s7.tups s4.box
      have hD7 := s7.keep _ _ neD hD
      have hN7 : NumsAt H7 nl num := paired_mem hN fun l π hl e => s7.keep _ _ (nfr l hl).2 e
      refine ⟨ta, _, rfl, SqT.of (tt7 _ _ e0), rfl, _, _, rfl, ⟨x, _, rfl, SqT.of (tt7 _ _ e1), rfl, _, _, rfl, _, _, rfl, rfl, ?_⟩⟩
      refine ⟨_, _, rfl, ⟨y, _, rfl, SqT.of (tt7 _ _ e2), rfl, _, _, rfl, _, _, rfl, rfl, rfl, ?_⟩⟩
      -- the numbers of its ends
      have tm : t ∈ ties := List.mem_of_getElem? et
      have m1 : t.1 ∈ endsOf t := by unfold endsOf; split <;> simp
      have m2 : t.2 ∈ endsOf t := by
        unfold endsOf
        split
        · rename_i z; rw [← z]; simp
        · simp
      obtain ⟨ch, ech, hsh⟩ := (ok.ok.mem t.1.1 t.1.2).mp (List.mem_flatMap.mpr ⟨t, tm, m1⟩)
      obtain ⟨cg, ecg, hsg⟩ := (ok.ok.mem t.2.1 t.2.2).mp (List.mem_flatMap.mpr ⟨t, tm, m2⟩)
      obtain ⟨q, eq⟩ := numOf_some kn cl ech hsh
      obtain ⟨q', eq'⟩ := numOf_some kn cl ecg hsg
      have qlt := numOf_lt kn ech eq
      have qlt' := numOf_lt kn ecg eq'
      obtain ⟨π, ep, eqq⟩ := Option.bind_eq_some_iff.mp eq
      obtain ⟨π', ep', eqq'⟩ := Option.bind_eq_some_iff.mp eq'
      obtain ⟨lh, elh, hlh⟩ := paired_get' hN7 ep
      obtain ⟨lg, elg, hlg⟩ := paired_get' hN7 ep'
      have glh : (nl.map V.ref)[t.1.1]? = some (.ref lh) := by rw [List.getElem?_map, elh]; rfl
      have glg : (nl.map V.ref)[t.2.1]? = some (.ref lg) := by rw [List.getElem?_map, elg]; rfl
      obtain ⟨x1, ex1⟩ := shape_at sh ech qlt
      -- pegs[h][number[h][s]] = (g, number[g][t])
      refine ⟨_, rfl, _, rfl, _, rfl, D, _, _, _, rfl, rfl, SqL.of hD7, at_of rfl glg, _, rfl, lg, _, _, _, rfl, rfl, SqL.of hlg, natV_at rfl eqq', (by show 2 ≤ sizeLine; decide), fun t1 n1 => ?_⟩
      obtain ⟨ls, l, as', hLp8, ell, hl8, ql8, nl8, hPg8⟩ := hPg.put (e := (t.2.1, q')) ex1 n1
      have sm1 := same_new (o := .tup [natV t.2.1, natV q']) n1
      have nelp : l ≠ p := s4.box.ne nl8
      have gl : (ls.map V.ref)[t.1.1]? = some (.ref l) := by rw [List.getElem?_map, ell]; rfl
      refine ⟨_, rfl, _, rfl, Lp, _, _, _, rfl, rfl, SqL.of hLp8, at_of rfl gl, _, rfl, _, rfl, D, _, _, _, rfl, rfl, SqL.of (sm1 _ _ hD7), at_of rfl glh, _, rfl, lh, _, _, _, rfl, rfl, SqL.of (sm1 _ _ hlh), natV_at rfl eqq, l, _, _, q, rfl, rfl, hl8, ixN_nat rfl (by rw [List.length_map]; omega), ?_⟩
      have s8 := (s7.same sm1).put (o := .lst ((as'.map V.ref).set q (.ref t1))) nl8 nelp
      generalize (upd (upd H7 t1 (.tup [natV t.2.1, natV q'])) l (.lst ((as'.map V.ref).set q (.ref t1)))) = H8 at s8 hPg8 ⊢
      have sh8 := sh.put (h := t.1.1) (q := q) (e := (t.2.1, q'))
      obtain ⟨x2, ex2⟩ := shape_at sh8 ecg qlt'
      have hD8 := s8.keep _ _ neD hD
      have hN8 : NumsAt H8 nl num := paired_mem hN fun l π hl e => s8.keep _ _ (nfr l hl).2 e
      have hlh8 : H8 lh = some (.lst (π.map natV)) := by
        obtain ⟨a, b, c⟩ := paired_get hN8 elh
        rw [ep] at b
        cases b
        exact c
      have hlg8 : H8 lg = some (.lst (π'.map natV)) := by
        obtain ⟨a, b, c⟩ := paired_get hN8 elg
        rw [ep'] at b
        cases b
        exact c
      -- pegs[g][number[g][t]] = (h, number[h][s])
      refine ⟨_, rfl, _, rfl, _, rfl, D, _, _, _, rfl, rfl, SqL.of hD8, at_of rfl glh, _, rfl, lh, _, _, _, rfl, rfl, SqL.of hlh8, natV_at rfl eqq, (by show 2 ≤ sizeLine; decide), fun t2 n2 => ?_⟩
      obtain ⟨ls2, l2, as2, hLp9, ell2, hl9, ql9, nl9, hPg9⟩ := hPg8.put (e := (t.1.1, q)) ex2 n2
      have sm2 := same_new (o := .tup [natV t.1.1, natV q]) n2
      have nelp2 : l2 ≠ p := s4.box.ne nl9
      have gl2 : (ls2.map V.ref)[t.2.1]? = some (.ref l2) := by rw [List.getElem?_map, ell2]; rfl
      refine ⟨_, rfl, _, rfl, Lp, _, _, _, rfl, rfl, SqL.of hLp9, at_of rfl gl2, _, rfl, _, rfl, D, _, _, _, rfl, rfl, SqL.of (sm2 _ _ hD8), at_of rfl glg, _, rfl, lg, _, _, _, rfl, rfl, SqL.of (sm2 _ _ hlg8), natV_at rfl eqq', l2, _, _, q', rfl, rfl, hl9, ixN_nat rfl (by rw [List.length_map]; omega), ?_⟩
      have s9 := (s8.same sm2).put (o := .lst ((as2.map V.ref).set q' (.ref t2))) nl9 nelp2
      refine ⟨_, _, _, _, _, _, _, _, rfl, s9, hPg9, sh8.put, ?_⟩
      rw [take_snoc et]
      refine Filled.add (room := room) kn cl ?_ sh fl eq eq' ex1 ex2
      rw [← take_snoc et]
      exact (ok.ok.nd).sublist (ends_take _ _)
    -- the web
    · rintro σ H7 ⟨rows, o9, o10, o11, o12, o13, o14, o15, rfl, s7, hPg, sh, fl⟩
      rw [List.length_map, Paired.length hTP, List.take_length] at fl
      obtain ⟨gd, wl⟩ := plain_good (ms := ms) (by omega) ok tree kn sh fl ml mk
      obtain ⟨ls, hLp, lnd, lfr, hP⟩ := hPg.ex
      have hLm7 := s7.keep _ _ neLm hLm4
      have rl : rows.length = 1 + r' := by rw [sh.1, cl]
      have lll : ls.length = rows.length := Paired.length hP
      refine ⟨_, rfl, _, rfl, Lm, Lp, _, _, rfl, SqL.of hLm7, SqL.of hLp, fun D3 n3 => ?_⟩
      refine lc_zip (K := K) (a := Lm) (b := Lp) (xs := ms.map natV) (ys := ls.map V.ref) (by rw [List.length_map, List.length_map]; omega) (fun i H8 => Same H7 H8 ∧ ∃ hs : List Addr, H8 D3 = some (.lst (hs.map V.ref)) ∧ hs.length = i ∧ Paired (HandAt H8) hs ((webOf ms rows).take i))
        ⟨same_new n3, [], upd_same, rfl, .nil⟩ (fun i H8 _ ⟨s8, _⟩ => ⟨SqL.of (s8 _ _ hLm7), SqL.of (s8 _ _ hLp)⟩) ?_ ?_
      · rintro i x y T H8 hxi hyi ⟨s8, hs, hD3, hl, hH⟩ nT
        rw [List.getElem?_map] at hxi hyi
        obtain ⟨m, em, rfl⟩ := Option.map_eq_some_iff.mp hxi
        obtain ⟨l, el, rfl⟩ := Option.map_eq_some_iff.mp hyi
        obtain ⟨row, er, as', hla, hra⟩ := paired_get hP el
        have s9 := s8.trans (same_new (o := .tup [natV m, .ref l]) nT)
        have sT := same_new (o := .tup [natV m, .ref l]) nT
        refine ⟨T, _, rfl, SqT.of upd_same, rfl, _, _, rfl, _, _, rfl, rfl, rfl, ?_⟩
        dsimp only [tYes]
        rw [if_pos rfl]
        refine ⟨_, rfl, _, rfl, l, _, rfl, .inl ⟨SqL.of (s9 _ _ hla), fun q nq => ⟨(by show 2 ≤ sizeLine; decide), fun hd nh => ?_⟩⟩⟩
        have q1 := (same_new (o := .tup (as'.map V.ref)) nq).trans (same_new (o := .tup [natV m, .ref q]) nh)
        have q0 := sT.trans q1
        have eq1 := (same_new (o := .tup [natV m, .ref q]) nh) _ _ (upd_same (a := q) (o := .tup (as'.map V.ref)) (H := upd H8 T (.tup [natV m, .ref l])))
        have eh : (upd (upd (upd H8 T (.tup [natV m, .ref l])) q (.tup (as'.map V.ref))) hd (.tup [natV m, .ref q])) hd = some (.tup [natV m, .ref q]) := upd_same
        generalize (upd (upd (upd H8 T (.tup [natV m, .ref l])) q (.tup (as'.map V.ref))) hd (.tup [natV m, .ref q])) = H9 at q1 q0 eq1 eh ⊢
        have hD9 := q0 _ _ hD3
        have il : i < ms.length := (List.getElem?_eq_some_iff.mp em).1
        refine ⟨_, hD9, (by rw [List.length_map, hl, sizeLine_eq]; omega), fun b o e => ?_, hs ++ [hd], (by rw [List.map_append]; exact upd_same), (by rw [List.length_append, hl]; rfl), ?_⟩
        · rw [upd_ne (ne_of_none e n3)]
          exact q0 _ _ (s8 _ _ e)
        · have ew : (webOf ms rows)[i]? = some ((m : Int), row.map pegI) := by
            unfold webOf
            rw [List.getElem?_zipWith, em, er]
          rw [take_snoc ew]
          have tt := (sTups q0).trans (tups_lst (o := .lst (hs.map V.ref ++ [.ref hd])) hD9)
          have tt9 := tups_lst (o := .lst (hs.map V.ref ++ [.ref hd])) hD9
          have hra9 : Paired (PairN (upd H9 D3 (.lst (hs.map V.ref ++ [.ref hd])))) as' row := Paired.mapP hra fun a b z => tt _ _ (s8 _ _ z)
          have hnew : HandAt (upd H9 D3 (.lst (hs.map V.ref ++ [.ref hd]))) hd ((m : Int), row.map pegI) := ⟨q, tt9 _ _ eh, as', tt9 _ _ eq1, paired_mapI hra9⟩
          exact paired_snoc (R := HandAt (upd H9 D3 (.lst (hs.map V.ref ++ [.ref hd])))) hnew (Paired.mapP hH fun _ _ z => z.tups tt)
      · rintro H8 ⟨s8, hs, hD3, hl, hH⟩
        rw [List.length_map, ml] at hH
        rw [List.take_of_length_le (by omega)] at hH
        refine ⟨D3, _, rfl, .inl ⟨SqL.of hD3, fun r nr => ?_⟩⟩
        have sAll : Step p H (upd H8 r (.tup (hs.map V.ref))) := (((s13.trans s4).trans s7).same s8).new nr
        refine k r (webOf ms rows) _ ((((s13.trans s4).trans s7).same s8).free nr) sAll ⟨hs, upd_same, Paired.mapP hH fun _ _ z => z.tups (sTups (same_new nr))⟩ gd (by omega)
end
end NH
set_option Elab.async false
set_option linter.all false
set_option maxRecDepth 100000
set_option maxHeartbeats 4000000
namespace NH
open PySem L2
def renI (π : List Nat) (x : PegD) : PegD := ((((π[x.1.toNat]?).getD 0 : Nat) : Int), x.2)
def renH (π : List Nat) (hd : HandD) : HandD := (hd.1, hd.2.map (renI π))
structure RenOf (w : WebD) (π : List Nat) (w' : WebD) : Prop where
  len : w'.length = w.length
  at_ : ∀ (h j : Nat) hd, π[h]? = some j → w[h]? = some hd → w'[j]? = some (renH π hd)
theorem perm_onto {n j : Nat} {π : List Nat} (h : π.Perm (List.range n)) (hj : j < n) : ∃ i, i < n ∧ π[i]? = some j := by
  have m : j ∈ π := h.mem_iff.mpr (List.mem_range.mpr hj)
  obtain ⟨i, e⟩ := List.getElem?_of_mem m
  have := h.length_eq
  rw [List.length_range] at this
  exact ⟨i, by have := (List.getElem?_eq_some_iff.mp e).1; omega, e⟩
theorem perm_lt {n i j : Nat} {π : List Nat} (h : π.Perm (List.range n)) (e : π[i]? = some j) : j < n := List.mem_range.mp (h.mem_iff.mp (List.mem_of_getElem? e))
theorem perm_get {n i : Nat} {π : List Nat} (h : π.Perm (List.range n)) (hi : i < n) : ∃ j, π[i]? = some j := by
  have := h.length_eq
  rw [List.length_range] at this
  exact ⟨π[i]'(by omega), List.getElem?_eq_getElem (by omega)⟩
theorem perm_inj {n i i' j : Nat} {π : List Nat} (h : π.Perm (List.range n)) (e : π[i]? = some j) (e' : π[i']? = some j) : i = i' := nd_ix (h.nodup_iff.mpr List.nodup_range) e e'
theorem RenOf.peg {w w' : WebD} {π : List Nat} (r : RenOf w π w') {h j p : Nat} (e : π[h]? = some j) (hh : h < w.length) : pegOf w' j p = (pegOf w h p).map (renI π) := by
  have e1 : w[h]? = some w[h] := List.getElem?_eq_getElem hh
  unfold pegOf
  rw [e1, r.at_ h j _ e e1]
  show ((w[h]).2.map (renI π))[p]? = ((w[h]).2[p]?).map (renI π)
  rw [List.getElem?_map]
theorem renI_nat {π : List Nat} {g j q : Nat} (e : π[g]? = some j) : renI π ((g : Int), (q : Int)) = ((j : Int), (q : Int)) := by
  unfold renI
  simp only [Int.toNat_natCast, e, Option.getD_some]
theorem RenOf.good {room : Nat} {w w' : WebD} {π : List Nat} (r : RenOf w π w') (hp : π.Perm (List.range w.length)) (g : Good room w) : Good room w' := by
  have hl := r.len
  -- each hand of the new web comes from one of the old
  have from_ : ∀ (j : Nat) hd', w'[j]? = some hd' → ∃ (h : Nat) (hd : HandD), π[h]? = some j ∧ w[h]? = some hd ∧ hd' = renH π hd := by
    intro j hd' e
    have hj : j < w.length := by rw [← hl]; exact (List.getElem?_eq_some_iff.mp e).1
    obtain ⟨h, hh, eh⟩ := perm_onto hp hj
    have e1 : w[h]? = some w[h] := List.getElem?_eq_getElem hh
    rw [r.at_ h j _ eh e1] at e
    exact ⟨h, _, eh, e1, (Option.some.inj e).symm⟩
  refine ⟨by rw [hl]; exact g.pos, fun j hd' e => ?_, fun j hd' e => ?_, fun j p x e => ?_, fun S hS a b ha hb sa => ?_⟩
  · obtain ⟨h, hd, _, e1, rfl⟩ := from_ j hd' e
    exact g.mark h hd e1
  · obtain ⟨h, hd, _, e1, rfl⟩ := from_ j hd' e
    show (hd.2.map (renI π)).length ≤ room
    rw [List.length_map]
    exact g.pegs h hd e1
  · have hj : j < w.length := by rw [← hl]; exact pegOf_lt e
    obtain ⟨h, hh, eh⟩ := perm_onto hp hj
    rw [r.peg eh hh] at e
    obtain ⟨x0, e0, rfl⟩ := Option.map_eq_some_iff.mp e
    obtain ⟨g', q, rfl, back⟩ := g.tie h p x0 e0
    have hg := pegOf_lt back
    obtain ⟨j', ej'⟩ := perm_get hp hg
    refine ⟨j', q, renI_nat ej', ?_⟩
    rw [r.peg ej' hg, back]
    show some (renI π ((h : Int), (p : Int))) = _
    rw [renI_nat eh]
  · have closed : ∀ h p g' q : Nat, pegOf w h p = some ((g' : Int), (q : Int)) → (∃ j, π[h]? = some j ∧ S j) → ∃ j, π[g']? = some j ∧ S j := by
      rintro h p g' q e ⟨j, ej, sj⟩
      obtain ⟨g2, q2, e2, back⟩ := g.tie h p _ e
      have hg : g' < w.length := by
        have z := congrArg Prod.fst e2
        simp only at z
        have : g' = g2 := by exact_mod_cast z
        rw [this]
        exact pegOf_lt back
      obtain ⟨j', ej'⟩ := perm_get hp hg
      refine ⟨j', ej', hS j p j' q ?_ sj⟩
      rw [r.peg ej (pegOf_lt e), e]
      show some (renI π ((g' : Int), (q : Int))) = _
      rw [renI_nat ej']
    rw [hl] at ha hb
    obtain ⟨ia, hia, ea⟩ := perm_onto hp ha
    obtain ⟨ib, hib, eb⟩ := perm_onto hp hb
    obtain ⟨j, ej, sj⟩ := g.conn (fun h => ∃ j, π[h]? = some j ∧ S j) closed ia ib hia hib ⟨a, ea, sa⟩
    rw [eb] at ej
    cases ej
    exact sj
theorem collect {β : Type} {R : Addr → β → Prop} : ∀ (xs : List V) (P : Nat → β → Prop), (∀ (j : Nat) x, xs[j]? = some x → ∃ a y, x = .ref a ∧ R a y ∧ P j y) → ∃ (as : List Addr) (ys : List β), xs = as.map V.ref ∧ Paired R as ys ∧ ∀ (j : Nat) y, ys[j]? = some y → P j y
  | [], P, _ => ⟨[], [], rfl, .nil, fun j y e => by simp at e⟩
  | x :: xs, P, h => by
    obtain ⟨a, y, rfl, r, p⟩ := h 0 x rfl
    obtain ⟨as, ys, e, k, q⟩ := collect xs (fun j => P (j + 1)) fun j x e => h (j + 1) x (by simpa using e)
    refine ⟨a :: as, y :: ys, by rw [e]; rfl, .cons r k, fun j z ez => ?_⟩
    cases j with
    | zero => simp at ez; rw [← ez]; exact p
    | succ j => exact q j z (by simpa using ez)
def spRen : Sp := fun vs H Q _ => ∃ (a r : Addr) (w : WebD) (π : List Nat), vs = [.ref a, .ref r] ∧ WebAt H a w ∧ H r = some (.lst (π.map natV)) ∧ π.Perm (List.range w.length) ∧ w.length ≤ 1000 ∧
  (∀ (h p : Nat) x, pegOf w h p = some x → ∃ g q : Nat, x = ((g : Int), (q : Int)) ∧ g < w.length) ∧ (∀ (h : Nat) hd, w[h]? = some hd → hd.2.length ≤ 1000) ∧
  ∀ (q : Addr) (w' : WebD) (H' : Hp), H q = none → Same H H' → WebAt H' q w' → RenOf w π w' → Q (.ref q) H'
end NH
set_option Elab.async false
set_option linter.all false
set_option maxRecDepth 100000
set_option maxHeartbeats 4000000
namespace NH
open PySem L2
abbrev sRen : Stmt := top 17
abbrev nRen : List Str := ["_law_web_here", "_law_row", "_law_found", "_law_h", "_law_mark", "_law_pegs", "_law_g", "_law_q"]
section
variable {P : Program} {w : World} {K : PySem.W.Frag} {mg : Str → Option Value} {base : Heap}
theorem scRen : FnScope nRen ["_law_web_here", "_law_row"] (defScope sRen) := ⟨rfl, rfl, rfl, by decide +kernel, rfl, by decide +kernel, by decide +kernel⟩
theorem ok_ren {f : Addr} {fd : FuncData} (F : Fun K "_law_renamed" "_law_renamed" sRen f fd) (G : Dr P w K mg base) : FnOk P w K mg base CX0 1 f fd ["_law_web_here", "_law_row"] spRen := by
  refine F.ok scRen (fun vs H Q E h => ?_) (fun cdv A outer s H vs Q E hr h => ?_)
  · obtain ⟨a, r, w', π, rfl, _⟩ := h
    rfl
  · obtain ⟨a, r, wb, π, rfl, hW, hR, hp, wl, hpeg, hpl, k⟩ := h
    have nd := scRen.nd
    refine ⟨_, pss_cons (ps_set (i := 2) nd rfl (Or.inl rfl) (pe_op op_rep (pe_lst (pa_cons pe_non pa_nil)) (pe_callB call_len_seq (by rfl) G.mlen PySem.boot_len (pa_cons (pv 0) pa_nil))))
      (pss_cons (ps_for PassesOwn.never rfl (pi_enumT (by rfl) G.menum (pa_cons (pv 0) pa_nil)) (pg_tup (by rfl) (pgs_cons (pg_name (i := 3) nd rfl (Or.inl rfl)) (pgs_cons (pg_tup (by rfl) (pgs_cons (pg_name (i := 4) nd rfl (Or.inl rfl)) (pgs_cons (pg_name (i := 5) nd rfl (Or.inl rfl)) pgs_nil))) pgs_nil)))
        (pss_one (ps_asg (pe_tup (pa_cons (pv 4) (pa_cons (pe_callTy call_tuple_of (by rfl) G.mtuple (by decide +kernel) (pa_cons (pe_lc (own := [("_law_g", 6), ("_law_q", 7)]) (g := gTup K 2 (gCons (gName 6) (gCons (gName 7) gNil))) (te := tTup (tCons (tOp (rIxL K) (tVar 1) (tVar 6)) (tCons (tVar 7) tNil))) (by rfl) nd (pi_tup (pv 5)) (blkOk_by (own := [("_law_g", 6), ("_law_q", 7)]) (N := nRen) (sc := defScope sRen) (by decide +kernel))
            (fun _ _ _ _ _ => by exact pg_tup (by rfl) (pgs_cons (pg_name (i := 6) nd rfl (Or.inl rfl)) (pgs_cons (pg_name (i := 7) nd rfl (Or.inl rfl)) pgs_nil))) (fun _ _ _ _ _ => pts_nil)
            (fun _ _ _ _ _ => by exact pe_tup (pa_cons (pe_ix ix_list (pv 1) (pv 6) (fun _ _ => rfl)) (pa_cons (pv 7) pa_nil)))) pa_nil)) pa_nil)))
          (pg_sub (pv 2) (pe_ix ix_list (pv 1) (pv 3) (fun _ _ => rfl)) set_list))))
      (pss_one (ps_ret (pe_callTy call_tuple_of (by rfl) G.mtuple (by decide +kernel) (pa_cons (pv 2) pa_nil))))), ?_⟩
    obtain ⟨hs, hWa, hWP⟩ := hW
    have hsl : hs.length = wb.length := Paired.length hWP
    refine ⟨(by show 1 ≤ sizeLine; decide), fun a0 n0 => ⟨_, rfl, a, _, rfl, .inr (SqT.of (same_new n0 _ _ hWa)), a0, _, _, rfl, rfl, upd_same, by omega, (by rw [List.length_map]; omega), (by show 1 * ((hs.map V.ref).length : Int).toNat ≤ sizeLine; rw [List.length_map, sizeLine_eq]; omega), fun L nL => ?_⟩⟩
    have s1 := (same_new (o := .lst [.non]) n0).trans (same_new (o := .lst (List.replicate ((hs.map V.ref).length : Int).toNat [V.non]).flatten) nL)
    have nLH : H L = none := (same_new (o := .lst [.non]) n0).free nL
    have hL1 : (upd (upd H a0 (.lst [.non])) L (.lst (List.replicate ((hs.map V.ref).length : Int).toNat [V.non]).flatten)) L = some (.lst (List.replicate ((hs.map V.ref).length : Int).toNat [V.non]).flatten) := upd_same
    have hll : (List.replicate ((hs.map V.ref).length : Int).toNat [V.non]).flatten.length = wb.length := by rw [len_rep, List.length_map]; show ((hs.length : Int)).toNat * 1 = _; omega
    generalize (List.replicate ((hs.map V.ref).length : Int).toNat [V.non]).flatten = xs0 at s1 hL1 hll ⊢
    generalize (upd (upd H a0 (.lst [.non])) L (.lst xs0)) = H1 at s1 hL1 ⊢
    refine ⟨_, rfl, a, _, rfl, SqT.of (s1 _ _ hWa), for_enumT (K := K) (a := a) (xs := hs.map V.ref) (fun i σ H2 => Same H H2 ∧ ∃ (xs : List V) (o3 o4 o5 o6 o7 : Option V), σ = [some (.ref a), some (.ref r), some (.ref L), o3, o4, o5, o6, o7] ∧ H2 L = some (.lst xs) ∧ xs.length = wb.length ∧
        ∀ (h j : Nat), h < i → π[h]? = some j → ∃ b hd, xs[j]? = some (.ref b) ∧ wb[h]? = some hd ∧ HandAt H2 b (renH π hd))
      ⟨s1, xs0, none, none, none, none, none, rfl, hL1, hll, fun h j hh => absurd hh (Nat.not_lt_zero _)⟩ (fun i σ H2 _ ⟨s2, _⟩ => SqT.of (s2 _ _ hWa)) ?_ ?_⟩
    · rintro i y T σ H2 hyi ⟨s2, xs, o3, o4, o5, o6, o7, rfl, hL, xl, hx⟩ nT
      rw [List.getElem?_map] at hyi
      obtain ⟨ha, eha, rfl⟩ := Option.map_eq_some_iff.mp hyi
      obtain ⟨hd, ehd, b, eb, ps, hps, hpp⟩ := paired_get hWP eha
      have sT := same_new (o := .tup [.int (i : Nat), .ref ha]) nT
      have s3 := s2.trans sT
      have hL3 := sT _ _ hL
      have il : i < wb.length := (List.getElem?_eq_some_iff.mp ehd).1
      obtain ⟨j, ej⟩ := perm_get hp il
      have jl := perm_lt hp ej
      refine ⟨T, _, rfl, SqT.of upd_same, rfl, _, _, rfl, _, _, rfl, ⟨ha, _, rfl, SqT.of (s3 _ _ eb), rfl, _, _, rfl, _, _, rfl, rfl, rfl, ?_⟩⟩
      generalize (upd H2 T (.tup [.int (i : Nat), .ref ha])) = H3 at sT s3 hL3 ⊢
      -- the pegs, by their new numbers
      refine ⟨_, rfl, _, rfl, b, rfl, ⟨_, SqT.of (s3 _ _ hps)⟩, fun D nD => ?_⟩
      have psl : ps.length = hd.2.length := Paired.length hpp
      refine lc_tup (K := K) (a := b) (xs := ps.map V.ref) (fun c H4 => Same H3 H4 ∧ ∃ bs : List Addr, H4 D = some (.lst (bs.map V.ref)) ∧ bs.length = c ∧ PairsAt H4 bs ((hd.2.take c).map (renI π)))
        ⟨same_new nD, [], upd_same, rfl, .nil⟩ (fun c H4 _ ⟨s4, _⟩ => SqT.of (s4 _ _ (s3 _ _ hps))) ?_ ?_
      · rintro c y H4 hyc ⟨s4, bs, hD, bl, hbs⟩
        rw [List.getElem?_map] at hyc
        obtain ⟨pa, epa, rfl⟩ := Option.map_eq_some_iff.mp hyc
        obtain ⟨x, ex, hpa⟩ := paired_get hpp epa
        obtain ⟨g, q, rfl, gl⟩ := hpeg i c x (by unfold pegOf; rw [ehd]; exact ex)
        obtain ⟨g', eg'⟩ := perm_get hp gl
        refine ⟨pa, _, rfl, SqT.of (s4 _ _ (s3 _ _ hpa)), rfl, _, _, rfl, _, _, rfl, rfl, rfl, ?_⟩
        dsimp only [tYes]
        rw [if_pos rfl]
        refine ⟨_, rfl, _, rfl, r, _, _, _, rfl, rfl, SqL.of (s4 _ _ (s3 _ _ hR)), natV_at rfl eg', _, rfl, (by show 2 ≤ sizeLine; decide), fun t nt => ?_⟩
        have st := same_new (o := .tup [natV g', .int (q : Int)]) nt
        have hD4 := st _ _ hD
        have pl := hpl i hd ehd
        have cl : c < hd.2.length := (List.getElem?_eq_some_iff.mp ex).1
        refine ⟨_, hD4, (by rw [List.length_map, bl, sizeLine_eq]; omega), fun z o e => ?_, bs ++ [t], (by rw [List.map_append]; exact upd_same), (by rw [List.length_append, bl]; rfl), ?_⟩
        · rw [upd_ne (ne_of_none e nD)]
          exact st _ _ (s4 _ _ e)
        · have tt := (sTups st).trans (tups_lst (o := .lst (bs.map V.ref ++ [.ref t])) hD4)
          rw [take_snoc ex, List.map_append]
          have hnew : PairAt (upd (upd H4 t (.tup [natV g', .int (q : Int)])) D (.lst (bs.map V.ref ++ [.ref t]))) t (renI π ((g : Int), (q : Int))) := by
            rw [renI_nat eg']
            exact tups_lst (o := .lst (bs.map V.ref ++ [.ref t])) hD4 _ _ upd_same
          exact paired_snoc (R := PairAt (upd (upd H4 t (.tup [natV g', .int (q : Int)])) D (.lst (bs.map V.ref ++ [.ref t])))) hnew (pairs_tups tt hbs)
      · rintro H4 ⟨s4, bs, hD, bl, hbs⟩
        rw [List.length_map, psl, List.take_length] at hbs
        refine ⟨D, _, rfl, .inl ⟨SqL.of hD, fun pt npt => ⟨(by show 2 ≤ sizeLine; decide), fun hn nhn => ?_⟩⟩⟩
        have q1 := (same_new (o := .tup (bs.map V.ref)) npt).trans (same_new (o := .tup [.int hd.1, .ref pt]) nhn)
        have ept := (same_new (o := .tup [.int hd.1, .ref pt]) nhn) _ _ (upd_same (H := H4) (a := pt) (o := .tup (bs.map V.ref)))
        have ehn : (upd (upd H4 pt (.tup (bs.map V.ref))) hn (.tup [.int hd.1, .ref pt])) hn = some (.tup [.int hd.1, .ref pt]) := upd_same
        generalize (upd (upd H4 pt (.tup (bs.map V.ref))) hn (.tup [.int hd.1, .ref pt])) = H5 at q1 ept ehn ⊢
        have s5 := s4.trans q1
        have hL5 := s5 _ _ hL3
        have hnew : HandAt H5 hn (renH π hd) := ⟨pt, ehn, bs, ept, pairs_tups (sTups q1) hbs⟩
        refine ⟨_, rfl, _, rfl, _, rfl, r, _, _, _, rfl, rfl, SqL.of (s5 _ _ (s3 _ _ hR)), natV_at rfl ej, L, _, _, j, rfl, rfl, hL5, ixN_nat rfl (by omega), ?_⟩
        have tL := tups_lst (o := .lst (xs.set j (.ref hn))) hL5
        refine ⟨same_upd (s3.trans s5) nLH, xs.set j (.ref hn), _, _, _, _, _, rfl, upd_same, by rw [List.length_set]; exact xl, fun h j' hh ej' => ?_⟩
        by_cases z : h = i
        · subst z
          rw [ej] at ej'
          cases ej'
          exact ⟨hn, hd, List.getElem?_set_self (by omega), ehd, hnew.tups tL⟩
        · obtain ⟨b', hd', e1, e2, e3⟩ := hx h j' (by omega) ej'
          refine ⟨b', hd', ?_, e2, (e3.tups (sTups (sT.trans s5))).tups tL⟩
          rw [List.getElem?_set_ne (fun y => z (perm_inj hp ej' (by rw [← y]; exact ej)))]
          exact e1
    · rintro σ H2 ⟨s2, xs, o3, o4, o5, o6, o7, rfl, hL, xl, hx⟩
      rw [List.length_map, hsl] at hx
      obtain ⟨as, w', rfl, hP, hP2⟩ := collect (R := HandAt H2) xs (fun j y => ∀ (h : Nat) hd, π[h]? = some j → wb[h]? = some hd → y = renH π hd) fun j x e => by
        have jl : j < wb.length := by rw [← xl]; exact (List.getElem?_eq_some_iff.mp e).1
        obtain ⟨h, hh, eh⟩ := perm_onto hp jl
        obtain ⟨b, hd, e1, e2, e3⟩ := hx h j hh eh
        rw [e] at e1
        cases e1
        refine ⟨b, renH π hd, rfl, e3, fun h' hd' eh' e' => ?_⟩
        have : h' = h := perm_inj hp eh' eh
        subst this
        rw [e2] at e'
        cases e'
        rfl
      have wl' : w'.length = wb.length := by
        have := Paired.length hP
        rw [List.length_map] at xl
        omega
      refine ⟨_, rfl, L, _, rfl, .inl ⟨SqL.of hL, fun q nq => ?_⟩⟩
      refine k q w' _ (s2.free nq) (s2.trans (same_new nq)) ⟨as, upd_same, Paired.mapP hP fun _ _ z => z.tups (sTups (same_new nq))⟩ ⟨wl', fun h j hd eh e => ?_⟩
      have jl := perm_lt hp eh
      have e1 : w'[j]? = some (w'[j]'(by omega)) := List.getElem?_eq_getElem (by omega)
      rw [e1, hP2 j _ e1 h hd eh e]
end
end NH
set_option Elab.async false
set_option linter.all false
set_option maxRecDepth 100000
set_option maxHeartbeats 4000000
namespace NH
open PySem L2
structure Inv2 (n : Nat) (a b : List Nat) : Prop where
  la : a.length = n
  lb : b.length = n
  ab : ∀ s, s < n → ∃ t, t < n ∧ a[s]? = some t ∧ b[t]? = some s
  ba : ∀ t, t < n → ∃ s, s < n ∧ b[t]? = some s ∧ a[s]? = some t
theorem Inv2.symm {n : Nat} {a b : List Nat} (k : Inv2 n a b) : Inv2 n b a := ⟨k.lb, k.la, k.ba, k.ab⟩
theorem Inv2.of_perm {n : Nat} {a b : List Nat} (hp : a.Perm (List.range n)) (lb : b.length = n) (h : ∀ s i : Nat, b[s]? = some i → a[i]? = some s) : Inv2 n a b := by
  have la := hp.length_eq
  rw [List.length_range] at la
  refine ⟨la, lb, fun s hs => ?_, fun t ht => ?_⟩
  · obtain ⟨t, et⟩ := perm_get hp hs
    have tl := perm_lt hp et
    have e : b[t]? = some (b[t]'(by omega)) := List.getElem?_eq_getElem (by omega)
    have e2 := h t _ e
    have : b[t]'(by omega) = s := perm_inj hp e2 et
    exact ⟨t, tl, et, by rw [e, this]⟩
  · have e : b[t]? = some (b[t]'(by omega)) := List.getElem?_eq_getElem (by omega)
    have e2 := h t _ e
    have sl : b[t]'(by omega) < n := by
      have := (List.getElem?_eq_some_iff.mp e2).1
      omega
    exact ⟨_, sl, e, e2⟩
structure Invo (n : Nat) (a : List Nat) : Prop where
  len : a.length = n
  inv : ∀ s, s < n → ∃ t, t < n ∧ a[s]? = some t ∧ a[t]? = some s
theorem invo_range (n : Nat) : Invo n (List.range n) := ⟨List.length_range, fun s hs => ⟨s, hs, by rw [List.getElem?_range hs], by rw [List.getElem?_range hs]⟩⟩
theorem Invo.swap {n : Nat} {a : List Nat} {i : Nat} (k : Invo n a) (h1 : i + 1 < n) (e0 : a[i]? = some i) (e1 : a[i + 1]? = some (i + 1)) : Invo n ((a.set i (i + 1)).set (i + 1) i) := by
  have la := k.len
  refine ⟨by rw [List.length_set, List.length_set]; exact la, fun s hs => ?_⟩
  have g0 : ((a.set i (i + 1)).set (i + 1) i)[i]? = some (i + 1) := by rw [List.getElem?_set_ne (by omega), List.getElem?_set_self (by omega)]
  have g1 : ((a.set i (i + 1)).set (i + 1) i)[i + 1]? = some i := List.getElem?_set_self (by rw [List.length_set]; omega)
  have go : ∀ s, s ≠ i → s ≠ i + 1 → ((a.set i (i + 1)).set (i + 1) i)[s]? = a[s]? := fun s z0 z1 => by rw [List.getElem?_set_ne (by omega), List.getElem?_set_ne (by omega)]
  by_cases z0 : s = i
  · subst z0
    exact ⟨s + 1, h1, g0, g1⟩
  · by_cases z1 : s = i + 1
    · subst z1
      exact ⟨i, by omega, g1, g0⟩
    · obtain ⟨t, tl, a1, a2⟩ := k.inv s hs
      have t0 : t ≠ i := fun z => by rw [z, e0] at a2; exact z0 (Option.some.inj a2).symm
      have t1 : t ≠ i + 1 := fun z => by rw [z, e1] at a2; exact z1 (Option.some.inj a2).symm
      exact ⟨t, tl, by rw [go s z0 z1]; exact a1, by rw [go t t0 t1]; exact a2⟩
theorem mod_back {n c x : Int} (hn : 0 < n) (h0 : 0 ≤ x) (h1 : x < n) : ((x - c) % n + c) % n = x := by
  rw [Int.emod_add_emod, Int.sub_add_cancel, Int.emod_eq_of_lt h0 h1]
theorem mod_back2 {n c x : Int} (hn : 0 < n) (h0 : 0 ≤ x) (h1 : x < n) : ((x + c) % n - c) % n = x := by
  rw [Int.emod_sub_emod, Int.add_sub_cancel, Int.emod_eq_of_lt h0 h1]
def tuV (n c : Nat) (row : List Nat) (s : Nat) : Nat := ((((row.getD (((s : Int) + c) % n).toNat 0 : Nat) : Int) - c) % n).toNat
def tuRow (n c : Nat) (row : List Nat) : List Nat := (List.range n).map (tuV n c row)
theorem tuRow_get {n c s : Nat} {row : List Nat} (h : s < n) : (tuRow n c row)[s]? = some (tuV n c row s) := by
  unfold tuRow
  rw [List.getElem?_map, List.getElem?_range h]
  rfl
theorem tuV_at {n c s : Nat} {row : List Nat} (k : Invo n row) (h : s < n) : ∃ u v : Nat, ((s : Int) + c) % n = (u : Int) ∧ u < n ∧ row[u]? = some v ∧ v < n ∧ row[v]? = some u ∧ ((v : Int) - c) % n = (tuV n c row s : Int) ∧ tuV n c row s < n := by
  have hn : (0 : Int) < n := by omega
  have a0 := Int.emod_nonneg ((s : Int) + c) (show (n : Int) ≠ 0 by omega)
  have a1 := Int.emod_lt_of_pos ((s : Int) + c) hn
  obtain ⟨u, eu⟩ := Int.eq_ofNat_of_zero_le a0
  have ul : u < n := by omega
  obtain ⟨v, vl, e1, e2⟩ := k.inv u ul
  have b0 := Int.emod_nonneg ((v : Int) - c) (show (n : Int) ≠ 0 by omega)
  have b1 := Int.emod_lt_of_pos ((v : Int) - c) hn
  have et : tuV n c row s = (((v : Int) - c) % n).toNat := by
    unfold tuV
    rw [eu, Int.toNat_natCast, List.getD_eq_getElem?_getD, e1]
    rfl
  exact ⟨u, v, eu, ul, e1, vl, e2, by omega, by omega⟩
theorem Invo.turned {n c : Nat} {row : List Nat} (k : Invo n row) : Inv2 n (tuRow n c row) (tuRow n c row) := by
  have hl : (tuRow n c row).length = n := by unfold tuRow; rw [List.length_map, List.length_range]
  have key : ∀ s, s < n → ∃ t, t < n ∧ (tuRow n c row)[s]? = some t ∧ (tuRow n c row)[t]? = some s := fun s hs => by
    obtain ⟨u, v, eu, ul, e1, vl, e2, et, tl⟩ := tuV_at (c := c) k hs
    refine ⟨tuV n c row s, tl, tuRow_get hs, ?_⟩
    rw [tuRow_get tl]
    obtain ⟨u', v', eu', ul', e1', vl', e2', et', tl'⟩ := tuV_at (c := c) k tl
    have hn : (0 : Int) < n := by omega
    have q1 : (u' : Int) = v := by
      rw [← eu', ← et]
      exact mod_back hn (by omega) (by omega)
    have q2 : u' = v := by omega
    subst q2
    rw [e2] at e1'
    cases e1'
    have q3 : (tuV n c row (tuV n c row s) : Int) = s := by
      rw [← et', ← eu]
      exact mod_back2 hn (by omega) (by omega)
    congr 1
    omega
  exact ⟨hl, hl, key, key⟩
abbrev Turns := Nat → Nat → Option (List Nat)
def putF (F : Turns) (h p : Nat) (r : List Nat) : Turns := fun h' p' => if h' = h ∧ p' = p then some r else F h' p'
theorem putF_self {F : Turns} {h p : Nat} {r : List Nat} : putF F h p r h p = some r := if_pos ⟨rfl, rfl⟩
theorem putF_ne {F : Turns} {h p h' p' : Nat} {r : List Nat} (z : ¬ (h' = h ∧ p' = p)) : putF F h p r h' p' = F h' p' := if_neg z
structure TurnP (n : Nat) (w : WebD) (F : Turns) (i j : Nat) : Prop where
  dom : ∀ h p r, F h p = some r → ∃ g q r', pegOf w h p = some (((g : Nat) : Int), ((q : Nat) : Int)) ∧ F g q = some r' ∧ Inv2 n r r'
  cov : ∀ h p x, (h < i ∨ (h = i ∧ p < j)) → pegOf w h p = some x → ∃ r, F h p = some r
theorem TurnP.nil {n : Nat} {w : WebD} : TurnP n w (fun _ _ => none) 0 0 := ⟨fun h p r e => (nomatch e), fun h p x hh _ => by omega⟩
section
variable {n room : Nat} {w : WebD} {F : Turns} {i j : Nat}
theorem peg_nat {g q g' q' : Nat} (h : some (((g : Nat) : Int), ((q : Nat) : Int)) = some (((g' : Nat) : Int), ((q' : Nat) : Int))) : g = g' ∧ q = q' := by
  have := Option.some.inj h
  injection this with a b
  omega
theorem TurnP.self (gd : Good room w) (k : TurnP n w F i j) {r : List Nat} (e : pegOf w i j = some ((i : Int), (j : Int))) (hr : Inv2 n r r) : TurnP n w (putF F i j r) i (j + 1) := by
  refine ⟨fun h p r0 e0 => ?_, fun h p x hh e0 => ?_⟩
  · by_cases z : h = i ∧ p = j
    · obtain ⟨rfl, rfl⟩ := z
      rw [putF_self] at e0
      cases e0
      exact ⟨h, p, r, e, putF_self, hr⟩
    · rw [putF_ne z] at e0
      obtain ⟨g, q, r', e1, e2, e3⟩ := k.dom h p r0 e0
      refine ⟨g, q, r', e1, ?_, e3⟩
      rw [putF_ne]
      · exact e2
      · rintro ⟨rfl, rfl⟩
        obtain ⟨g', q', x1, x2⟩ := gd.tie h p _ e1
        obtain ⟨rfl, rfl⟩ := peg_nat (congrArg some x1)
        rw [e] at x2
        obtain ⟨rfl, rfl⟩ := peg_nat x2
        exact z ⟨rfl, rfl⟩
  · by_cases z : h = i ∧ p = j
    · obtain ⟨rfl, rfl⟩ := z
      exact ⟨r, putF_self⟩
    · rw [putF_ne z]
      exact k.cov h p x (by omega) e0
theorem TurnP.pair (gd : Good room w) (k : TurnP n w F i j) {r r' : List Nat} {g q : Nat} (e : pegOf w i j = some ((g : Int), (q : Int))) (ne : ¬ (g = i ∧ q = j)) (hr : Inv2 n r r') : TurnP n w (putF (putF F i j r) g q r') i (j + 1) := by
  have eb : pegOf w g q = some ((i : Int), (j : Int)) := by
    obtain ⟨g', q', x1, x2⟩ := gd.tie i j _ e
    obtain ⟨rfl, rfl⟩ := peg_nat (congrArg some x1)
    exact x2
  have a1 : putF (putF F i j r) g q r' i j = some r := by rw [putF_ne (fun z => ne ⟨z.1.symm, z.2.symm⟩), putF_self]
  refine ⟨fun h p r0 e0 => ?_, fun h p x hh e0 => ?_⟩
  · by_cases z : h = g ∧ p = q
    · obtain ⟨rfl, rfl⟩ := z
      rw [putF_self] at e0
      cases e0
      exact ⟨i, j, r, eb, a1, hr.symm⟩
    · by_cases z2 : h = i ∧ p = j
      · obtain ⟨rfl, rfl⟩ := z2
        rw [a1] at e0
        cases e0
        exact ⟨g, q, r', e, putF_self, hr⟩
      · rw [putF_ne z, putF_ne z2] at e0
        obtain ⟨a, b, r2, e1, e2, e3⟩ := k.dom h p r0 e0
        obtain ⟨a', b', x1, x2⟩ := gd.tie h p _ e1
        obtain ⟨rfl, rfl⟩ := peg_nat (congrArg some x1)
        refine ⟨a, b, r2, e1, ?_, e3⟩
        rw [putF_ne, putF_ne]
        · exact e2
        · rintro ⟨rfl, rfl⟩
          rw [e] at x2
          obtain ⟨rfl, rfl⟩ := peg_nat x2
          exact z ⟨rfl, rfl⟩
        · rintro ⟨rfl, rfl⟩
          rw [eb] at x2
          obtain ⟨rfl, rfl⟩ := peg_nat x2
          exact z2 ⟨rfl, rfl⟩
  · by_cases z : h = g ∧ p = q
    · obtain ⟨rfl, rfl⟩ := z
      exact ⟨r', putF_self⟩
    · by_cases z2 : h = i ∧ p = j
      · obtain ⟨rfl, rfl⟩ := z2
        exact ⟨r, a1⟩
      · rw [putF_ne z, putF_ne z2]
        exact k.cov h p x (by omega) e0
theorem TurnP.skip (gd : Good room w) (k : TurnP n w F i j) {g q : Nat} (e : pegOf w i j = some ((g : Int), (q : Int))) (lt : g < i ∨ (g = i ∧ q < j)) : TurnP n w F i (j + 1) := by
  refine ⟨k.dom, fun h p x hh e0 => ?_⟩
  by_cases z2 : h = i ∧ p = j
  · obtain ⟨rfl, rfl⟩ := z2
    obtain ⟨g', q', x1, x2⟩ := gd.tie h p _ e
    obtain ⟨rfl, rfl⟩ := peg_nat (congrArg some x1)
    obtain ⟨r, er⟩ := k.cov g q _ lt x2
    obtain ⟨a, b, r', y1, y2, _⟩ := k.dom g q r er
    rw [x2] at y1
    obtain ⟨rfl, rfl⟩ := peg_nat y1
    exact ⟨r', y2⟩
  · exact k.cov h p x (by omega) e0
theorem TurnP.row (k : TurnP n w F i j) (hj : ∀ hd, w[i]? = some hd → hd.2.length = j) : TurnP n w F (i + 1) 0 := by
  refine ⟨k.dom, fun h p x hh e0 => k.cov h p x ?_ e0⟩
  by_cases z : h = i
  · subst z
    obtain ⟨hd, e1, e2⟩ := pegOf_some e0
    have := hj hd e1
    have := (List.getElem?_eq_some_iff.mp e2).1
    omega
  · omega
structure TurnOk (n : Nat) (w : WebD) (F : Turns) : Prop where
  all : ∀ h p x, pegOf w h p = some x → ∃ (g q : Nat) (r r' : List Nat), x = ((g : Int), (q : Int)) ∧ F h p = some r ∧ F g q = some r' ∧ Inv2 n r r'
theorem TurnP.ok (k : TurnP n w F w.length 0) : TurnOk n w F := ⟨fun h p x e => by
  obtain ⟨r, er⟩ := k.cov h p x (.inl (pegOf_lt e)) e
  obtain ⟨g, q, r', e1, e2, e3⟩ := k.dom h p r er
  rw [e] at e1
  exact ⟨g, q, r, r', Option.some.inj e1, er, e2, e3⟩⟩
end
abbrev keyP (h p : Nat) : List Key := [.inl (h : Int), .inl (p : Int)]
theorem keyP_eq {h p h' p' : Nat} : keyP h p = keyP h' p' ↔ h = h' ∧ p = p' := by
  constructor
  · intro e
    injection e with a b
    injection b with b _
    injection a with a
    injection b with b
    omega
  · rintro ⟨rfl, rfl⟩
    rfl
structure TurnAt (H0 H : Hp) (D : Addr) (F : Turns) (m : Nat) : Prop where
  ex : ∃ kvs : List (List Key × V), H D = some (.dT kvs) ∧ kvs.length ≤ m ∧ ∀ h p r, F h p = some r → ∃ l, valV kvs (keyP h p) = some (.ref l) ∧ H l = some (.lst (r.map natV)) ∧ H0 l = none ∧ l ≠ D
theorem TurnAt.put {H0 H H' : Hp} {D l : Addr} {F : Turns} {m h p : Nat} {r : List Nat} {kvs : List (List Key × V)} (k : ∀ h p r, F h p = some r → ∃ l, valV kvs (keyP h p) = some (.ref l) ∧ H l = some (.lst (r.map natV)) ∧ H0 l = none ∧ l ≠ D)
    (s : ∀ l xs, H0 l = none → l ≠ D → H l = some (.lst xs) → H' l = some (.lst xs)) (hm : kvs.length ≤ m) (hl : H' l = some (.lst (r.map natV))) (n0 : H0 l = none) (ne : l ≠ D) : TurnAt H0 (upd H' D (.dT (putK kvs (keyP h p) (.ref l)))) D (putF F h p r) (m + 1) := by
  refine ⟨_, upd_same, by have := length_putK kvs (keyP h p) (.ref l); omega, fun h' p' r' e => ?_⟩
  rw [valV_put]
  by_cases z : h' = h ∧ p' = p
  · obtain ⟨rfl, rfl⟩ := z
    rw [putF_self] at e
    cases e
    exact ⟨l, if_pos rfl, by rw [upd_ne ne]; exact hl, n0, ne⟩
  · rw [putF_ne z] at e
    obtain ⟨l', e1, e2, e3, e4⟩ := k h' p' r' e
    exact ⟨l', by rw [if_neg (fun y => z (keyP_eq.mp y))]; exact e1, by rw [upd_ne e4]; exact s _ _ e3 e4 e2, e3, e4⟩
def spTurn : Sp := fun vs H Q _ => ∃ (p a : Addr) (wb : WebD) (n room : Nat), vs = [.ref p, .ref a, natV n] ∧ BoxAt H p ∧ WebAt H a wb ∧ Good room wb ∧ wb.length ≤ 1000 ∧ room ≤ 1000 ∧ 1 ≤ n ∧ n ≤ 1000 ∧
  ∀ (D : Addr) (F : Turns) (H' : Hp), H D = none → Step p H H' → TurnAt H H' D F 4000000 → TurnOk n wb F → Q (.ref D) H'
end NH
set_option Elab.async false
set_option linter.all false
set_option maxRecDepth 100000
set_option maxHeartbeats 4000000
theorem L2.Room.units1 {k : Nat} {A : PySem.Around} (r : L2.Room k A) : A.units + 1 < PySem.cLine := by have := r.un; omega
namespace NH
open PySem L2
section
variable {X : Cx}
def rEqP : R2 := fun x y H Q => ∃ a b p q, x = .ref a ∧ y = .ref b ∧ PairAt H a p ∧ PairAt H b q ∧ Q (.bl (decide (p = q))) H
def rLtP : R2 := fun x y H Q => ∃ a b p q, x = .ref a ∧ y = .ref b ∧ PairAt H a p ∧ PairAt H b q ∧ Q (.bl (decide (p.1 < q.1 ∨ (p.1 = q.1 ∧ p.2 < q.2)))) H
theorem shaped_pair (p : Int × Int) : SeqAt.shaped (pairD p) = true := by rfl
theorem op_eqP {k : Nat} (hr : Room k X.A) : OpR X (compareOp .Eq) rEqP := by
  intro pins s σ H x y v u Q I rx ry h
  obtain ⟨a, b, p, q, rfl, rfl, ha, hb, k⟩ := h
  refine op_eqD hr.units pins s σ H _ _ v u Q I rx ry ⟨_, _, dp_pair ha, dp_pair hb, shaped_pair p, shaped_pair q, ?_⟩
  rw [eqv_pair]
  exact k
theorem lex_pair (p q : Int × Int) : HT.lexLt [p.1, p.2] [q.1, q.2] = decide (p.1 < q.1 ∨ (p.1 = q.1 ∧ p.2 < q.2)) := by
  rw [HT.lexLt_cons, HT.lexLt_cons, HT.lexLt_nil_nil]
  by_cases h : p.1 = q.1
  · rw [if_pos h]
    by_cases h2 : p.2 = q.2
    · rw [if_pos h2]
      symm
      rw [decide_eq_false_iff_not]
      omega
    · rw [if_neg h2]
      rw [decide_eq_decide]
      omega
  · rw [if_neg h, decide_eq_decide]
    omega
theorem op_ltP {k : Nat} (hr : Room k X.A) : OpR X (compareOp .Lt) rLtP := by
  intro pins s σ H x y v u Q I rx ry h
  obtain ⟨a, b, p, q, rfl, rfl, ha, hb, k⟩ := h
  refine op_ltT hr.units0 pins s σ H _ _ v u Q I rx ry ⟨a, b, [p.1, p.2], [q.1, q.2], rfl, rfl, SqT.of ha, SqT.of hb, ?_⟩
  rw [lex_pair]
  exact k
end
theorem flat_nats (l : List Nat) : (l.map natV).all flatV = true := by
  rw [List.all_eq_true]
  intro x hx
  obtain ⟨n, _, rfl⟩ := List.mem_map.mp hx
  rfl
theorem eqV_nat (a b : Nat) : eqV (natV a) (natV b) = decide (a = b) := by
  show ((a : Int) == (b : Int)) = _
  by_cases h : a = b
  · subst h; simp
  · have : ¬ (a : Int) = b := by omega
    simp [h, this]
theorem index_nats {K : PySem.W.Frag} {H : Hp} {a : Addr} {l : List Nat} {j y : Nat} {Q : VK} (h : SqL K H a (l.map natV)) (nd : l.Nodup) (e : l[j]? = some y) (q : Q (.int (j : Nat)) H) : rIndex K (.ref a) [natV y] H Q := by
  refine ⟨a, _, natV y, j, natV y, rfl, rfl, h, rfl, flat_nats l, natV_get e, by rw [eqV_nat]; simp, fun m z' hm ez => ?_, q⟩
  rw [List.getElem?_map] at ez
  obtain ⟨z, e1, rfl⟩ := Option.map_eq_some_iff.mp ez
  rw [eqV_nat, decide_eq_false_iff_not]
  rintro rfl
  have := nd_ix nd e1 e
  omega
theorem TurnAt.same {H0 H1 H2 : Hp} {D : Addr} {F : Turns} {m : Nat} (s : Same H1 H2) (k : TurnAt H0 H1 D F m) : TurnAt H0 H2 D F m := by
  obtain ⟨kvs, e, hl, h⟩ := k.ex
  refine ⟨kvs, s _ _ e, hl, fun h' p r f => ?_⟩
  obtain ⟨l, a, b, c, d⟩ := h h' p r f
  exact ⟨l, a, s _ _ b, c, d⟩
theorem TurnAt.step {p : Addr} {H0 H1 H2 : Hp} {D : Addr} {F : Turns} {m : Nat} (hb : BoxAt H0 p) (nD : H0 D = none) (s : Step p H1 H2) (k : TurnAt H0 H1 D F m) : TurnAt H0 H2 D F m := by
  obtain ⟨kvs, e, hl, h⟩ := k.ex
  refine ⟨kvs, s.keep _ _ (hb.ne nD) e, hl, fun h' p r f => ?_⟩
  obtain ⟨l, a, b, c, d⟩ := h h' p r f
  exact ⟨l, a, s.keep _ _ (hb.ne c) b, c, d⟩
theorem TurnAt.mono {H0 H1 : Hp} {D : Addr} {F : Turns} {m m' : Nat} (h : m ≤ m') (k : TurnAt H0 H1 D F m) : TurnAt H0 H1 D F m' := by
  obtain ⟨kvs, e, hl, r⟩ := k.ex
  exact ⟨kvs, e, by omega, r⟩
theorem range_get {n i : Nat} (h : i < n) : (List.range n)[i]? = some i := List.getElem?_range h
end NH
set_option Elab.async false
set_option linter.all false
set_option maxRecDepth 100000
set_option maxHeartbeats 4000000
namespace NH
open PySem L2
abbrev sTurn : Stmt := top 18
abbrev nTurn : List Str := ["_law_box_here", "_law_web_here", "_law_sheets", "_law_found", "_law_h", "_law_mark", "_law_pegs", "_law_p", "_law_g", "_law_q", "_law_row", "_law_k", "_law_shift", "_law_s"]
section
variable {P : Program} {w : World} {K : PySem.W.Frag} {mg : Str → Option Value} {base : Heap}
theorem scTurn : FnScope nTurn ["_law_box_here", "_law_web_here", "_law_sheets"] (defScope sTurn) := ⟨rfl, rfl, rfl, by decide +kernel, rfl, by decide +kernel, by decide +kernel⟩
theorem ok_turn {f : Addr} {fd : FuncData} (F : Fun K "_law_turnings" "_law_turnings" sTurn f fd) (G : Dr P w K mg base) : FnOk P w K mg base CX0 3 f fd ["_law_box_here", "_law_web_here", "_law_sheets"] spTurn := by
  obtain ⟨fT, fdT, GT, bT, mT, kT⟩ := G.take
  obtain ⟨fS, fdS, GS, bS, mS, kS⟩ := G.shuf
  refine F.ok scTurn (fun vs H Q E h => ?_) (fun cdv A outer s H vs Q E hr h => ?_)
  · obtain ⟨p, a, wb, n, room, rfl, _⟩ := h
    rfl
  · obtain ⟨p, a, wb, n, room, rfl, hb, hW, gd, wl, rl, n1, n2, k⟩ := h
    have nd := scTurn.nd
    have hr1 := hr.mono (show 1 ≤ 2 by decide)
    refine ⟨_, pss_cons (ps_set (i := 3) nd rfl (Or.inl rfl) pe_dnewT)
      (pss_cons (ps_for PassesOwn.never rfl (pi_enumT (by rfl) G.menum (pa_cons (pv 1) pa_nil)) (pg_tup (by rfl) (pgs_cons (pg_name (i := 4) nd rfl (Or.inl rfl)) (pgs_cons (pg_tup (by rfl) (pgs_cons (pg_name (i := 5) nd rfl (Or.inl rfl)) (pgs_cons (pg_name (i := 6) nd rfl (Or.inl rfl)) pgs_nil))) pgs_nil)))
        (pss_one (ps_for PassesOwn.never rfl (pi_enumT (by rfl) G.menum (pa_cons (pv 6) pa_nil)) (pg_tup (by rfl) (pgs_cons (pg_name (i := 7) nd rfl (Or.inl rfl)) (pgs_cons (pg_tup (by rfl) (pgs_cons (pg_name (i := 8) nd rfl (Or.inl rfl)) (pgs_cons (pg_name (i := 9) nd rfl (Or.inl rfl)) pgs_nil))) pgs_nil)))
          (pss_one (ps_if (pt_cmpR (op_eqP hr) (pe_tup (pa_cons (pv 8) (pa_cons (pv 9) pa_nil))) (pe_tup (pa_cons (pv 4) (pa_cons (pv 7) pa_nil))) (nomark _))
            (pss_cons (ps_set (i := 10) nd rfl (Or.inr rfl) (pe_callTy (call_list_rng (by rfl)) (by rfl) G.mlist (by decide +kernel) (pa_cons (pe_callTy call_rng1 (by rfl) G.mrange (by decide +kernel) (pa_cons (pv 2) pa_nil)) pa_nil)))
            (pss_cons (ps_for PassesOwn.never rfl (pi_range1 (by rfl) G.mrange (pa_cons (pe_op op_fdiv (pv 2) pe_int) pa_nil)) (pg_name (i := 11) nd rfl (Or.inl rfl))
              (pss_one (ps_if (pt_cmpR op_gt (pe_call GT hr1 (by rfl) mT kT bT .nil pass0 (pa_cons (pv 0) (pa_cons pe_int pa_nil))) pe_int (nomark _))
                (pss_one (ps_asg (pe_tup (pa_cons (pe_op op_add (pe_op op_mul pe_int (pv 11)) pe_int) (pa_cons (pe_op op_mul pe_int (pv 11)) pa_nil))) (pg_tup (by rfl) (pgs_cons (pg_sub (pv 10) (pe_op op_mul pe_int (pv 11)) set_list) (pgs_cons (pg_sub (pv 10) (pe_op op_add (pe_op op_mul pe_int (pv 11)) pe_int) set_list) pgs_nil))))) pss_nil)))
            (pss_cons (ps_set (i := 12) nd rfl (Or.inr rfl) (pe_call GT hr1 (by rfl) mT kT bT .nil pass0 (pa_cons (pv 0) (pa_cons (pv 2) pa_nil))))
            (pss_one (ps_dput hr.units1 (pv 3) (pe_tup (pa_cons (pv 4) (pa_cons (pv 7) pa_nil)))
              (pe_lc (own := [("_law_s", 13)]) (g := gName 13) (te := tOp (rI (fun _ j => 0 < j) fun i j => .int (i % j)) (tOp (rI0 fun i j => .int (i - j)) (tOp (rIxL K) (tVar 10) (tOp (rI (fun _ j => 0 < j) fun i j => .int (i % j)) (tOp (rI0 fun i j => .int (i + j)) (tVar 13) (tVar 12)) (tVar 2))) (tVar 12)) (tVar 2)) (by rfl) nd (pi_range1 (by rfl) G.mrange (pa_cons (pv 2) pa_nil)) (blkOk_by (own := [("_law_s", 13)]) (N := nTurn) (sc := defScope sTurn) (by decide +kernel))
                (fun _ _ _ _ _ => pg_name (i := 13) nd rfl (Or.inl rfl)) (fun _ _ _ _ _ => pts_nil)
                (fun _ _ _ _ _ => by exact pe_op op_mod (pe_op op_sub (pe_ix ix_list (pv 10) (pe_op op_mod (pe_op op_add (pv 13) (pv 12)) (pv 2)) (fun _ _ => rfl)) (pv 12)) (pv 2))) rfl)))))
            (pss_one (ps_if (pt_cmpR (op_ltP hr) (pe_tup (pa_cons (pv 4) (pa_cons (pv 7) pa_nil))) (pe_tup (pa_cons (pv 8) (pa_cons (pv 9) pa_nil))) (nomark _))
              (pss_cons (ps_set (i := 10) nd rfl (Or.inr rfl) (pe_call GS hr (by rfl) mS kS bS .nil pass0 (pa_cons (pv 0) (pa_cons (pv 2) pa_nil))))
              (pss_cons (ps_dput hr.units1 (pv 3) (pe_tup (pa_cons (pv 4) (pa_cons (pv 7) pa_nil))) (pv 10) rfl)
              (pss_one (ps_dput hr.units1 (pv 3) (pe_tup (pa_cons (pv 8) (pa_cons (pv 9) pa_nil)))
                (pe_lc (own := [("_law_s", 13)]) (g := gName 13) (te := tBM K "list" (rIndex K) (tVar 10) (tCons (tVar 13) tNil)) (by rfl) nd (pi_range1 (by rfl) G.mrange (pa_cons (pv 2) pa_nil)) (blkOk_by (own := [("_law_s", 13)]) (N := nTurn) (sc := defScope sTurn) (by decide +kernel))
                  (fun _ _ _ _ _ => pg_name (i := 13) nd rfl (Or.inl rfl)) (fun _ _ _ _ _ => pts_nil)
                  (fun _ _ _ _ _ => by exact pe_bm PySem.F.plainAttrs_list PySem.F.slot_list_index PySem.F.type_list_index mt_index (pv 10) (pa_cons (pv 13) pa_nil))) rfl)))) pss_nil)))))))
      (pss_one (ps_ret (pv 3)))), ?_⟩
    obtain ⟨hs, hWa, hWP⟩ := hW
    have hsl : hs.length = wb.length := Paired.length hWP
    intro D nD
    have neD : D ≠ p := hb.ne nD
    have hn0 : (n : Int) ≠ 0 := by omega
    refine ⟨_, rfl, a, _, rfl, SqT.of (same_new nD _ _ hWa), for_enumT (K := K) (a := a) (xs := hs.map V.ref) (fun i σ H2 => Step p H H2 ∧ ∃ (F : Turns) (o4 o5 o6 o7 o8 o9 o10 o11 o12 o13 : Option V), σ = [some (.ref p), some (.ref a), some (natV n), some (.ref D), o4, o5, o6, o7, o8, o9, o10, o11, o12, o13] ∧ TurnAt H H2 D F (2 * (1000 * i)) ∧ TurnP n wb F i 0)
      ⟨(Step.refl hb).new nD, fun _ _ => none, none, none, none, none, none, none, none, none, none, none, rfl, ⟨[], upd_same, Nat.zero_le _, fun _ _ _ e => nomatch e⟩, TurnP.nil⟩ (fun i σ H2 _ ⟨s2, _⟩ => SqT.of (s2.tups hb _ _ hWa)) ?_ ?_⟩
    · rintro i y T σ H2 hyi ⟨s2, F, o4, o5, o6, o7, o8, o9, o10, o11, o12, o13, rfl, tA, tP⟩ nT
      rw [List.getElem?_map] at hyi
      obtain ⟨ha, eha, rfl⟩ := Option.map_eq_some_iff.mp hyi
      obtain ⟨hd, ehd, b, eb, ps, hps, hpp⟩ := paired_get hWP eha
      have s3 := s2.new (o := .tup [.int (i : Nat), .ref ha]) nT
      have tA3 := tA.same (same_new (o := .tup [.int (i : Nat), .ref ha]) nT)
      have il : i < wb.length := (List.getElem?_eq_some_iff.mp ehd).1
      have pl := gd.pegs i hd ehd
      have psl : ps.length = hd.2.length := Paired.length hpp
      refine ⟨T, _, rfl, SqT.of upd_same, rfl, _, _, rfl, _, _, rfl, ⟨ha, _, rfl, SqT.of (s3.tups hb _ _ eb), rfl, _, _, rfl, _, _, rfl, rfl, rfl, ?_⟩⟩
      generalize (upd H2 T (.tup [.int (i : Nat), .ref ha])) = H3 at s3 tA3 ⊢
      refine ⟨_, rfl, b, _, rfl, SqT.of (s3.tups hb _ _ hps), for_enumT (K := K) (a := b) (xs := ps.map V.ref) (fun j σ H4 => Step p H H4 ∧ ∃ (F : Turns) (o7 o8 o9 o10 o11 o12 o13 : Option V), σ = [some (.ref p), some (.ref a), some (natV n), some (.ref D), some (natV i), some (.int hd.1), some (.ref b), o7, o8, o9, o10, o11, o12, o13] ∧ TurnAt H H4 D F (2 * (1000 * i + j)) ∧ TurnP n wb F i j)
        ⟨s3, F, _, _, _, _, _, _, _, rfl, tA3, tP⟩ (fun j σ H4 _ ⟨s4, _⟩ => SqT.of (s4.tups hb _ _ hps)) ?_ ?_⟩
      · clear tA tP tA3 s2 s3
        rintro j y T2 σ H4 hyj ⟨s4, F, o7, o8, o9, o10, o11, o12, o13, rfl, tA, tP⟩ nT2
        rw [List.getElem?_map] at hyj
        obtain ⟨pa, epa, rfl⟩ := Option.map_eq_some_iff.mp hyj
        obtain ⟨x, ex, hpa⟩ := paired_get hpp epa
        have epeg : pegOf wb i j = some x := by unfold pegOf; rw [ehd]; exact ex
        obtain ⟨g, q, rfl, eback⟩ := gd.tie i j x epeg
        have jl : j < hd.2.length := (List.getElem?_eq_some_iff.mp ex).1
        have s5 := s4.new (o := .tup [.int (j : Nat), .ref pa]) nT2
        have tA5 := tA.same (same_new (o := .tup [.int (j : Nat), .ref pa]) nT2)
        refine ⟨T2, _, rfl, SqT.of upd_same, rfl, _, _, rfl, _, _, rfl, ⟨pa, _, rfl, SqT.of (s5.tups hb _ _ hpa), rfl, _, _, rfl, _, _, rfl, rfl, rfl, ?_⟩⟩
        clear tA
        generalize (upd H4 T2 (.tup [.int (j : Nat), .ref pa])) = H5 at s5 tA5 ⊢
        refine ⟨_, rfl, _, rfl, (by show 2 ≤ sizeLine; decide), fun t1 m1 => ⟨_, rfl, _, rfl, (by show 2 ≤ sizeLine; decide), fun t2 m2 => ?_⟩⟩
        have q1 := same_new (o := .tup [.int (g : Int), .int (q : Int)]) m1
        have q2 := same_new (o := .tup [natV i, .int (j : Int)]) m2
        have e1 := q2 _ _ (upd_same (H := H5) (a := t1) (o := .tup [.int (g : Int), .int (q : Int)]))
        have e2 : (upd (upd H5 t1 (.tup [.int (g : Int), .int (q : Int)])) t2 (.tup [natV i, .int (j : Int)])) t2 = some (.tup [natV i, .int (j : Int)]) := upd_same
        have s6 := s5.same (q1.trans q2)
        have tA6 := tA5.same (q1.trans q2)
        refine ⟨t1, t2, ((g : Int), (q : Int)), ((i : Int), (j : Int)), rfl, rfl, e1, e2, _, rfl, ?_⟩
        clear tA5 s5 q1 
        generalize (upd (upd H5 t1 (.tup [.int (g : Int), .int (q : Int)])) t2 (.tup [natV i, .int (j : Int)])) = H6 at s6 tA6 e1 e2 ⊢
        refine ite2 (fun hc => ?_) (fun hc => ?_)
        · have hc := of_decide_eq_true hc
          injection hc with hc1 hc2
          have hc1 : g = i := by omega
          have hc2 : q = j := by omega
          subst hc1 hc2
          refine ⟨_, rfl, _, rfl, fun r nr => ⟨r, n, rfl, upd_same, by omega, fun L nL => ?_⟩⟩
          have q3 := same_new (o := .rng 0 (n : Int)) nr
          have s7 := s6.same q3
          have tA7 := tA6.same q3
          clear tA6 s6 e1 e2 q2 q3
          generalize (upd H6 r (.rng 0 (n : Int))) = H7 at s7 tA7 nL ⊢
          have nLH : H L = none := s7.free nL
          have neL : L ≠ p := hb.ne nLH
          have neLD : L ≠ D := fun z => by
            obtain ⟨_, e, _⟩ := tA7.ex
            rw [← z, nL] at e
            cases e
          have eL : (upd H7 L (.lst (natsV n))) L = some (.lst ((List.range n).map natV)) := upd_same
          refine ⟨_, rfl, _, _, rfl, rfl, ⟨by decide, by decide⟩, _, rfl, by omega, by omega, for_range (lo := 0) (n := _) (fun c σ H8 => Step p H7 H8 ∧ ∃ (row : List Nat) (o11 : Option V), σ = [some (.ref p), some (.ref a), some (natV n), some (.ref D), some (natV g), some (.int hd.1), some (.ref b), some (natV q), some (natV g), some (natV q), some (.ref L), o11, o12, o13] ∧ H8 L = some (.lst (row.map natV)) ∧ Invo n row ∧ ∀ s : Nat, 2 * c ≤ s → s < n → row[s]? = some s)
            ⟨(Step.refl s7.box).new nL, List.range n, _, rfl, eL, invo_range n, fun s _ hs => range_get hs⟩ ?_ ?_⟩
          · rintro c σ H8 hcl ⟨s8, row, o11, rfl, eL8, iv, rest⟩
            have hc2 : 2 * c + 1 < n := by omega
            obtain ⟨xa, xb, hx, hx0, hx1⟩ := s8.box.ex
            refine ⟨_, rfl, p, xa, xb, _, rfl, hx, hx0, hx1, by decide, by decide, fun u a1 b1 u0 u1 c1 c2 => ?_⟩
            have s9 := s8.take (x := a1) c1 c2
            have eL9 : (upd H8 p (.lst [.int a1, .int b1])) L = some (.lst (row.map natV)) := by rw [upd_ne neL]; exact eL8
            generalize (upd H8 p (.lst [.int a1, .int b1])) = H9 at s9 eL9 ⊢
            refine ⟨_, _, rfl, rfl, _, rfl, ?_⟩
            refine ite2 (fun _ => ?_) (fun _ => ?_)
            · have cm : CMul 2 (0 + (c : Int)) := .inl ⟨by decide, by decide⟩
              have z1 : V.int (2 * (0 + (c : Int)) + 1) = natV (2 * c + 1) := by unfold natV; congr 1; omega
              have z0 : V.int (2 * (0 + (c : Int))) = natV (2 * c) := by unfold natV; congr 1; omega
              have ll : (row.map natV).length = n := by rw [List.length_map]; exact iv.len
              refine ⟨_, rfl, _, _, rfl, rfl, cm, _, _, rfl, rfl, _, rfl, _, _, rfl, rfl, cm, (by show 2 ≤ sizeLine; decide), fun T3 nT3 => ?_⟩
              have eL10 := (same_new (o := .tup [.int (2 * (0 + (c : Int)) + 1), .int (2 * (0 + (c : Int)))]) nT3) _ _ eL9
              have s10 := s9.new (o := .tup [.int (2 * (0 + (c : Int)) + 1), .int (2 * (0 + (c : Int)))]) nT3
              refine ⟨T3, _, rfl, SqT.of upd_same, rfl, _, _, rfl, _, rfl, _, rfl, _, _, rfl, rfl, cm, L, _, _, 2 * c, rfl, rfl, eL10, ixN_nat (by omega) (by omega), ?_⟩
              refine ⟨_, _, rfl, _, rfl, _, rfl, _, _, rfl, rfl, cm, _, _, rfl, rfl, L, _, _, 2 * c + 1, rfl, rfl, upd_same, ixN_nat (by omega) (by rw [List.length_set]; omega), rfl, ?_⟩
              have hX : ((row.map natV).set (2 * c) (.int (2 * (0 + (c : Int)) + 1))).set (2 * c + 1) (.int (2 * (0 + (c : Int)))) = ((row.set (2 * c) (2 * c + 1)).set (2 * c + 1) (2 * c)).map natV := by rw [z1, z0, ← List.map_set, ← List.map_set]
              refine ⟨(s10.put nL neL).put nL neL, (row.set (2 * c) (2 * c + 1)).set (2 * c + 1) (2 * c), _, rfl, (by rw [← hX]; exact upd_same), iv.swap hc2 (rest _ (by omega) (by omega)) (rest _ (by omega) (by omega)), fun s h1 h2 => ?_⟩
              rw [List.getElem?_set_ne (by omega), List.getElem?_set_ne (by omega)]
              exact rest s (by omega) h2
            · exact ⟨s9, row, _, rfl, eL9, iv, fun s h1 h2 => rest s (by omega) h2⟩
          · rintro σ H8 ⟨s8, row, o11, rfl, eL8, iv, _⟩
            obtain ⟨xa, xb, hx, hx0, hx1⟩ := s8.box.ex
            refine ⟨_, rfl, _, rfl, p, xa, xb, _, rfl, hx, hx0, hx1, by omega, by omega, fun u a1 b1 u0 u1 c1 c2 => ?_⟩
            obtain ⟨u, rfl⟩ := Int.eq_ofNat_of_zero_le u0
            have s9 := s8.take (x := a1) c1 c2
            have eL9 : (upd H8 p (.lst [.int a1, .int b1])) L = some (.lst (row.map natV)) := by rw [upd_ne neL]; exact eL8
            generalize (upd H8 p (.lst [.int a1, .int b1])) = H9 at s9 eL9 ⊢
            have tA9 := tA7.step hb nD s9
            refine ⟨_, rfl, _, rfl, by omega, by omega, fun D2 nD2 => ?_⟩
            have s79 := s7.trans s9
            have nD2H : H D2 = none := s79.free nD2
            have neD2 : D2 ≠ D := fun z => by
              obtain ⟨_, e, _⟩ := tA9.ex
              rw [← z, nD2] at e
              cases e
            have neDL : L ≠ D2 := fun z => by rw [z, nD2] at eL9; cases eL9
            refine lc_range (lo := 0) (n := _) (fun c H10 => Same H9 H10 ∧ H10 D2 = some (.lst (((tuRow n u row).take c).map natV))) ⟨same_new nD2, upd_same⟩ ?_ ?_
            · rintro c H10 hcl ⟨s10, eD2⟩
              obtain ⟨u', v', eu', ul', ev', vl', _, et', tl'⟩ := tuV_at (c := u) (s := c) iv (by omega)
              refine ⟨rfl, ?_⟩
              dsimp only [tYes]
              rw [if_pos rfl]
              refine ⟨_, rfl, _, rfl, _, rfl, _, _, rfl, rfl, _, rfl, _, _, rfl, rfl, (by omega), L, _, _, _, rfl, rfl, SqL.of (s10 _ _ eL9), natV_at (i := u') (by rw [Int.zero_add]; exact eu') ev', _, rfl, _, _, rfl, rfl, _, rfl, _, _, rfl, rfl, (by omega), ?_⟩
              refine ⟨_, eD2, (by rw [List.length_map, List.length_take, sizeLine_eq]; omega), same_upd s10 nD2, ?_⟩
              rw [upd_same, take_snoc (tuRow_get (by omega)), List.map_append]
              show some (HO.lst (_ ++ [V.int (((v' : Int) - u) % n)])) = some (HO.lst (_ ++ [V.int (tuV n u row c : Int)]))
              rw [et']
            · rintro H10 ⟨s10, eD2⟩
              rw [Int.toNat_natCast, List.take_of_length_le (by unfold tuRow; rw [List.length_map, List.length_range]; omega)] at eD2
              refine ⟨_, rfl, _, rfl, _, rfl, (by show 2 ≤ sizeLine; decide), fun t3 m3 => ?_⟩
              have q4 := same_new (o := .tup [natV g, natV q]) m3
              have tA11 := (tA9.same s10).same q4
              have eD11 := q4 _ _ eD2
              have s11 := (s79.same s10).same q4
              have e11 : (upd H10 t3 (.tup [natV g, natV q])) t3 = some (.tup [natV g, natV q]) := upd_same
              generalize (upd H10 t3 (.tup [natV g, natV q])) = H11 at tA11 eD11 s11 e11 ⊢
              obtain ⟨kvs, eD, hl, kk⟩ := tA11.ex
              refine ⟨D, _, rfl, DPut.t (k := keyP g q) eD e11 (by rw [sizeLine_eq]; omega), ?_⟩
              exact ⟨s11.put nD neD, putF F g q (tuRow n u row), _, _, _, _, _, _, _, rfl, (TurnAt.put kk (fun _ _ _ _ e => e) hl eD11 nD2H neD2).mono (by omega), tP.self gd epeg iv.turned⟩
        · refine ⟨_, rfl, _, rfl, (by show 2 ≤ sizeLine; decide), fun t3 m3 => ⟨_, rfl, _, rfl, (by show 2 ≤ sizeLine; decide), fun t4 m4 => ?_⟩⟩
          have q3 := same_new (o := .tup [natV i, .int (j : Int)]) m3
          have q4 := same_new (o := .tup [.int (g : Int), .int (q : Int)]) m4
          have e3 := q4 _ _ (upd_same (H := H6) (a := t3) (o := .tup [natV i, .int (j : Int)]))
          have e4 : (upd (upd H6 t3 (.tup [natV i, .int (j : Int)])) t4 (.tup [.int (g : Int), .int (q : Int)])) t4 = some (.tup [.int (g : Int), .int (q : Int)]) := upd_same
          have s7 := s6.same (q3.trans q4)
          have tA7 := tA6.same (q3.trans q4)
          refine ⟨t3, t4, ((i : Int), (j : Int)), ((g : Int), (q : Int)), rfl, rfl, e3, e4, _, rfl, ?_⟩
          clear tA6 s6 q3
          generalize (upd (upd H6 t3 (.tup [natV i, .int (j : Int)])) t4 (.tup [.int (g : Int), .int (q : Int)])) = H7 at s7 tA7 e3 e4 ⊢
          have ne : ¬ (g = i ∧ q = j) := fun z => hc (decide_eq_true (by rw [z.1, z.2]))
          refine ite2 (fun hlt => ?_) (fun hlt => ?_)
          · refine ⟨_, rfl, _, rfl, p, n, rfl, s7.box, by omega, fun L π H8 nL s8 eL hp => ?_⟩
            have tA8 := tA7.step hb nD s8
            have nLH : H L = none := s7.free nL
            have neLD : L ≠ D := fun z => by
              obtain ⟨_, e, _⟩ := tA7.ex
              rw [← z, nL] at e
              cases e
            refine ⟨_, rfl, _, rfl, _, rfl, _, rfl, (by show 2 ≤ sizeLine; decide), fun t5 m5 => ?_⟩
            have q5 := same_new (o := .tup [natV i, .int (j : Int)]) m5
            have tA9 := tA8.same q5
            have eL9 := q5 _ _ eL
            have s9 := (s7.trans s8).same q5
            have e9 : (upd H8 t5 (.tup [natV i, .int (j : Int)])) t5 = some (.tup [natV i, .int (j : Int)]) := upd_same
            generalize (upd H8 t5 (.tup [natV i, .int (j : Int)])) = H9 at tA9 eL9 s9 e9 ⊢
            obtain ⟨kvs, eD, hl, kk⟩ := tA9.ex
            refine ⟨D, _, rfl, DPut.t (k := keyP i j) eD e9 (by rw [sizeLine_eq]; omega), ?_⟩
            have tA10 := TurnAt.put (h := i) (p := j) (r := π) kk (fun _ _ _ _ e => e) hl eL9 nLH neLD
            have s10 : Step p H (upd H9 D (.dT (putK kvs (keyP i j) (.ref L)))) := s9.put nD neD
            have eL10 : (upd H9 D (.dT (putK kvs (keyP i j) (.ref L)))) L = some (.lst (π.map natV)) := by rw [upd_ne neLD]; exact eL9
            generalize (upd H9 D (.dT (putK kvs (keyP i j) (.ref L)))) = H10 at tA10 s10 eL10 ⊢
            refine ⟨_, rfl, _, rfl, by omega, by omega, fun D2 nD2 => ?_⟩
            have nD2H : H D2 = none := s10.free nD2
            have neD2 : D2 ≠ D := fun z => by
              obtain ⟨_, e, _⟩ := tA10.ex
              rw [← z, nD2] at e
              cases e
            have pnd : π.Nodup := hp.nodup_iff.mpr List.nodup_range
            refine lc_range (lo := 0) (n := _) (fun c H11 => Same H10 H11 ∧ ∃ xs : List Nat, H11 D2 = some (.lst (xs.map natV)) ∧ xs.length = c ∧ ∀ s i : Nat, xs[s]? = some i → π[i]? = some s) ⟨same_new nD2, [], upd_same, rfl, fun s i e => by simp at e⟩ ?_ ?_
            · rintro c H11 hcl ⟨s11, xs, eD2, xl, hxs⟩
              obtain ⟨y, hy, ey⟩ := perm_onto hp (show c < n by omega)
              refine ⟨rfl, ?_⟩
              dsimp only [tYes]
              rw [if_pos rfl]
              have zc : V.int (0 + (c : Int)) = natV c := by unfold natV; rw [Int.zero_add]
              refine ⟨_, rfl, .inl ⟨rfl, _, SqL.of (s11 _ _ eL10)⟩, _, rfl, ?_⟩
              rw [zc]
              dsimp only [tNil]
              refine index_nats (SqL.of (s11 _ _ eL10)) pnd ey ?_
              refine ⟨_, eD2, (by rw [List.length_map, xl, sizeLine_eq]; omega), same_upd s11 nD2, xs ++ [y], (by rw [List.map_append]; exact upd_same), (by rw [List.length_append, xl]; rfl), fun s i e => ?_⟩
              by_cases z : s < xs.length
              · rw [List.getElem?_append_left z] at e
                exact hxs s i e
              · rw [List.getElem?_append_right (by omega)] at e
                have : s = c := by
                  have := (List.getElem?_eq_some_iff.mp e).1
                  simp at this
                  omega
                subst this
                rw [xl, Nat.sub_self] at e
                cases e
                exact ey
            · rintro H11 ⟨s11, xs, eD2, xl, hxs⟩
              rw [Int.toNat_natCast] at xl
              refine ⟨_, rfl, _, rfl, _, rfl, (by show 2 ≤ sizeLine; decide), fun t6 m6 => ?_⟩
              have q6 := same_new (o := .tup [.int (g : Int), .int (q : Int)]) m6
              have tA12 := (tA10.same s11).same q6
              have eD12 := q6 _ _ eD2
              have s12 := (s10.same s11).same q6
              have e12 : (upd H11 t6 (.tup [.int (g : Int), .int (q : Int)])) t6 = some (.tup [.int (g : Int), .int (q : Int)]) := upd_same
              generalize (upd H11 t6 (.tup [.int (g : Int), .int (q : Int)])) = H12 at tA12 eD12 s12 e12 ⊢
              obtain ⟨kvs', eD', hl', kk'⟩ := tA12.ex
              refine ⟨D, _, rfl, DPut.t (k := keyP g q) eD' e12 (by rw [sizeLine_eq]; omega), ?_⟩
              exact ⟨s12.put nD neD, putF (putF F i j π) g q xs, _, _, _, _, _, _, _, rfl, (TurnAt.put kk' (fun _ _ _ _ e => e) hl' eD12 nD2H neD2).mono (by omega), tP.pair gd epeg ne (Inv2.of_perm hp xl hxs)⟩
          · have hlt : ¬ ((i : Int) < g ∨ ((i : Int) = g ∧ (j : Int) < q)) := fun z => hlt (decide_eq_true z)
            exact ⟨s7, F, _, _, _, _, _, _, _, rfl, tA7.mono (by omega), tP.skip gd epeg (by omega)⟩
      · rintro σ H4 ⟨s4, F, o7, o8, o9, o10, o11, o12, o13, rfl, tA, tP⟩
        rw [List.length_map, psl] at tA tP
        exact ⟨s4, F, _, _, _, _, _, _, _, _, _, _, rfl, tA.mono (by omega), tP.row fun hd' e => by rw [ehd] at e; cases e; rfl⟩
    · rintro σ H2 ⟨s2, F, o4, o5, o6, o7, o8, o9, o10, o11, o12, o13, rfl, tA, tP⟩
      rw [List.length_map, hsl] at tA tP
      exact ⟨_, rfl, k D F H2 nD s2 (tA.mono (by omega)) tP.ok⟩
end
end NH
set_option Elab.async false
set_option linter.all false
set_option maxRecDepth 100000
set_option maxHeartbeats 4000000
namespace NH
open PySem L2
theorem nd_bound : ∀ (m : Nat) (l : List Nat), l.Nodup → (∀ x ∈ l, x < m) → l.length ≤ m
  | 0, l, _, h => by
    cases l with
    | nil => exact Nat.le_refl _
    | cons a r => exact absurd (h a (List.mem_cons_self ..)) (Nat.not_lt_zero _)
  | m + 1, l, nd, h => by
    by_cases z : m ∈ l
    · have h1 := nd_bound m (l.erase m) (nd.erase m) fun x hx => by
        have h2 := (nd.mem_erase_iff).mp hx
        have := h x h2.2
        have := h2.1
        omega
      rw [List.length_erase_of_mem z] at h1
      omega
    · have := nd_bound m l nd fun x hx => by
        have h1 := h x hx
        have : x ≠ m := fun y => z (y ▸ hx)
        omega
      omega
theorem nd_pairs {a b : Nat} {l : List End} (nd : l.Nodup) (h : ∀ x ∈ l, x.1 < a ∧ x.2 < b) : l.length ≤ a * b := by
  have inj : ∀ x ∈ l, ∀ y ∈ l, x.1 * b + x.2 = y.1 * b + y.2 → x = y := by
    intro x hx y hy e
    have h1 := h x hx
    have h2 := h y hy
    have d1 : (x.1 * b + x.2) / b = x.1 := by
      rw [Nat.mul_comm, Nat.mul_add_div (by omega), Nat.div_eq_of_lt h1.2, Nat.add_zero]
    have d2 : (y.1 * b + y.2) / b = y.1 := by
      rw [Nat.mul_comm, Nat.mul_add_div (by omega), Nat.div_eq_of_lt h2.2, Nat.add_zero]
    have e1 : x.1 = y.1 := by rw [← d1, ← d2, e]
    have e2 : x.2 = y.2 := by rw [e1] at e; omega
    exact Prod.ext e1 e2
  have nd2 : (l.map fun x => x.1 * b + x.2).Nodup := by
    clear h
    induction l with
    | nil => exact List.nodup_nil
    | cons a r ih =>
      rw [List.map_cons, List.nodup_cons]
      rw [List.nodup_cons] at nd
      refine ⟨fun hm => ?_, ih nd.2 fun x hx y hy => inj x (List.mem_cons_of_mem _ hx) y (List.mem_cons_of_mem _ hy)⟩
      obtain ⟨y, hy, e⟩ := List.mem_map.mp hm
      have := inj y (List.mem_cons_of_mem _ hy) a (List.mem_cons_self ..) e
      subst this
      exact nd.1 hy
  have := nd_bound (a * b) _ nd2 fun x hx => by
    obtain ⟨y, hy, rfl⟩ := List.mem_map.mp hx
    have h1 := h y hy
    have : (y.1 + 1) * b ≤ a * b := Nat.mul_le_mul_right _ h1.1
    rw [Nat.succ_mul] at this
    omega
  rwa [List.length_map] at this
def tuAt (F : Turns) (h p s : Nat) : Option Nat := (F h p).bind fun r => r[s]?
theorem TurnOk.at {n : Nat} {w : WebD} {F : Turns} (k : TurnOk n w F) {h p s : Nat} {x : PegD} (e : pegOf w h p = some x) (hs : s < n) : ∃ (g q t : Nat), x = ((g : Int), (q : Int)) ∧ tuAt F h p s = some t ∧ t < n ∧ tuAt F g q t = some s := by
  obtain ⟨g, q, r, r', rfl, e1, e2, iv⟩ := k.all h p x e
  obtain ⟨t, tl, a, b⟩ := iv.ab s hs
  exact ⟨g, q, t, rfl, by unfold tuAt; rw [e1]; exact a, tl, by unfold tuAt; rw [e2]; exact b⟩
structure Cov (n : Nat) (w : WebD) (F : Turns) (l : List End) (c j : Nat) : Prop where
  nd : l.Nodup
  zero : l[0]? = some (0, 0)
  inb : ∀ x ∈ l, x.1 < w.length ∧ x.2 < n
  closed : ∀ (k h s p g q : Nat), (k < c ∨ (k = c ∧ p < j)) → l[k]? = some (h, s) → pegOf w h p = some ((g : Int), (q : Int)) → ∃ t, tuAt F h p s = some t ∧ (g, t) ∈ l
  tree : ∀ k : Nat, 0 < k → k < l.length → ∃ k' h s p g q t : Nat, k' < k ∧ l[k']? = some (h, s) ∧ pegOf w h p = some ((g : Int), (q : Int)) ∧ tuAt F h p s = some t ∧ l[k]? = some (g, t)
section
variable {n room : Nat} {w : WebD} {F : Turns} {l : List End} {c j : Nat}
theorem Cov.first (h0 : 0 < w.length) (hn : 0 < n) : Cov n w F [(0, 0)] 0 0 :=
  ⟨List.nodup_cons.mpr ⟨(fun h => nomatch h), List.nodup_nil⟩, rfl, fun x hx => by rw [List.mem_singleton.mp hx]; exact ⟨h0, hn⟩, fun k h s p g q hk => by omega, fun k k0 k1 => by simp at k1; omega⟩
theorem Cov.len (k : Cov n w F l c j) : l.length ≤ w.length * n := nd_pairs k.nd k.inb
theorem Cov.old (k : Cov n w F l c j) {h s g q t : Nat} (e : l[c]? = some (h, s)) (ep : pegOf w h j = some ((g : Int), (q : Int))) (et : tuAt F h j s = some t) (hm : (g, t) ∈ l) : Cov n w F l c (j + 1) := by
  refine ⟨k.nd, k.zero, k.inb, fun k' h' s' p' g' q' hk e' ep' => ?_, k.tree⟩
  by_cases z : k' = c ∧ p' = j
  · obtain ⟨rfl, rfl⟩ := z
    rw [e] at e'
    cases e'
    rw [ep] at ep'
    obtain ⟨rfl, rfl⟩ := peg_nat ep'
    exact ⟨t, et, hm⟩
  · exact k.closed k' h' s' p' g' q' (by omega) e' ep'
theorem Cov.add (k : Cov n w F l c j) {h s g q t : Nat} (e : l[c]? = some (h, s)) (ep : pegOf w h j = some ((g : Int), (q : Int))) (et : tuAt F h j s = some t) (hm : ¬ (g, t) ∈ l) (hg : g < w.length) (ht : t < n) : Cov n w F (l ++ [(g, t)]) c (j + 1) := by
  have cl : c < l.length := (List.getElem?_eq_some_iff.mp e).1
  have up : ∀ {i : Nat} {x : End}, l[i]? = some x → (l ++ [(g, t)])[i]? = some x := fun e => by
    have := (List.getElem?_eq_some_iff.mp e).1
    rw [List.getElem?_append_left this]
    exact e
  have lk : (l ++ [(g, t)])[l.length]? = some (g, t) := by rw [List.getElem?_append_right (Nat.le_refl _), Nat.sub_self]; rfl
  refine ⟨nd_snoc k.nd hm, up k.zero, fun x hx => ?_, fun k' h' s' p' g' q' hk e' ep' => ?_, fun k' k0 k1 => ?_⟩
  · rcases List.mem_append.mp hx with z | z
    · exact k.inb x z
    · rw [List.mem_singleton.mp z]
      exact ⟨hg, ht⟩
  · have kl : k' < l.length := by omega
    rw [List.getElem?_append_left kl] at e'
    by_cases z : k' = c ∧ p' = j
    · obtain ⟨rfl, rfl⟩ := z
      rw [e] at e'
      cases e'
      rw [ep] at ep'
      obtain ⟨rfl, rfl⟩ := peg_nat ep'
      exact ⟨t, et, List.mem_append_right _ (List.mem_singleton.mpr rfl)⟩
    · obtain ⟨t', a, b⟩ := k.closed k' h' s' p' g' q' (by omega) e' ep'
      exact ⟨t', a, List.mem_append_left _ b⟩
  · rw [List.length_append] at k1
    by_cases z : k' < l.length
    · obtain ⟨a, h', s', p', g', q', t', x1, x2, x3, x4, x5⟩ := k.tree k' k0 z
      exact ⟨a, h', s', p', g', q', t', x1, up x2, x3, x4, up x5⟩
    · have : k' = l.length := by simp at k1; omega
      subst this
      exact ⟨c, h, s, j, g, q, t, cl, up e, ep, et, lk⟩
theorem Cov.next (k : Cov n w F l c j) {h s : Nat} {hd : HandD} (e : l[c]? = some (h, s)) (eh : w[h]? = some hd) (hj : hd.2.length = j) : Cov n w F l (c + 1) 0 := by
  refine ⟨k.nd, k.zero, k.inb, fun k' h' s' p' g' q' hk e' ep' => k.closed k' h' s' p' g' q' ?_ e' ep', k.tree⟩
  by_cases z : k' = c
  · subst z
    rw [e] at e'
    cases e'
    obtain ⟨hd', e1, e2⟩ := pegOf_some ep'
    rw [eh] at e1
    cases e1
    have := (List.getElem?_eq_some_iff.mp e2).1
    omega
  · omega
structure CovOf (w : WebD) (F : Turns) (l : List End) (w' : WebD) : Prop where
  len : w'.length = l.length
  at_ : ∀ (k h s : Nat) hd, l[k]? = some (h, s) → w[h]? = some hd → ∃ hd' : HandD, w'[k]? = some hd' ∧ hd'.1 = hd.1 ∧ hd'.2.length = hd.2.length ∧
    ∀ p g q : Nat, hd.2[p]? = some ((g : Int), (q : Int)) → ∃ t k' : Nat, tuAt F h p s = some t ∧ l[k']? = some (g, t) ∧ hd'.2[p]? = some ((k' : Int), (q : Int))
theorem CovOf.peg {w' : WebD} (r : CovOf w F l w') {k h s p g q : Nat} (e : l[k]? = some (h, s)) (ep : pegOf w h p = some ((g : Int), (q : Int))) : ∃ t k' : Nat, tuAt F h p s = some t ∧ l[k']? = some (g, t) ∧ pegOf w' k p = some ((k' : Int), (q : Int)) := by
  obtain ⟨hd, e1, e2⟩ := pegOf_some ep
  obtain ⟨hd', a, _, _, d⟩ := r.at_ k h s hd e e1
  obtain ⟨t, k', x, y, z⟩ := d p g q e2
  exact ⟨t, k', x, y, by unfold pegOf; rw [a]; exact z⟩
theorem CovOf.good {w' : WebD} (gd : Good room w) (tk : TurnOk n w F) (cv : Cov n w F l l.length 0) (r : CovOf w F l w') : Good room w' := by
  have hl := r.len
  have l0 : 0 < l.length := (List.getElem?_eq_some_iff.mp cv.zero).1
  have hand : ∀ k : Nat, k < l.length → ∃ (h s : Nat) (hd : HandD), l[k]? = some (h, s) ∧ w[h]? = some hd ∧ s < n := by
    intro k hk
    have e : l[k]? = some (l[k].1, l[k].2) := List.getElem?_eq_getElem hk
    have b := cv.inb l[k] (List.getElem_mem hk)
    exact ⟨_, _, _, e, List.getElem?_eq_getElem b.1, b.2⟩
  have tie : ∀ (h p : Nat) x, pegOf w' h p = some x → ∃ g q : Nat, x = ((g : Int), (q : Int)) ∧ pegOf w' g q = some ((h : Int), (p : Int)) := by
    intro k p x ex
    have kl : k < l.length := by rw [← hl]; exact pegOf_lt ex
    obtain ⟨h, s, hd, e1, e2, sl⟩ := hand k kl
    obtain ⟨hd', a, b, c, d⟩ := r.at_ k h s hd e1 e2
    have pl : p < hd.2.length := by
      obtain ⟨hd2, z1, z2⟩ := pegOf_some ex
      rw [a] at z1
      cases z1
      have := (List.getElem?_eq_some_iff.mp z2).1
      omega
    have ep : pegOf w h p = some (hd.2[p]) := by unfold pegOf; rw [e2]; exact List.getElem?_eq_getElem pl
    obtain ⟨g, q, exq, back⟩ := gd.tie h p _ ep
    rw [exq] at ep
    obtain ⟨g2, q2, t, zz, et, tl, et2⟩ := tk.at ep sl
    obtain ⟨rfl, rfl⟩ := peg_nat (congrArg some zz)
    obtain ⟨t', k', f1, f2, f3⟩ := r.peg e1 ep
    rw [et] at f1
    cases f1
    rw [ex] at f3
    cases f3
    refine ⟨k', q, rfl, ?_⟩
    obtain ⟨s', k2, g1, g2, g3⟩ := r.peg f2 back
    rw [et2] at g1
    cases g1
    have : k2 = k := nd_ix cv.nd g2 e1
    subst this
    exact g3
  have edge : ∀ k : Nat, 0 < k → k < l.length → ∃ k' p q : Nat, k' < k ∧ pegOf w' k' p = some ((k : Int), (q : Int)) := by
    intro k k0 k1
    obtain ⟨k', h, s, p, g, q, t, x1, x2, x3, x4, x5⟩ := cv.tree k k0 k1
    obtain ⟨t', k2, f1, f2, f3⟩ := r.peg x2 x3
    rw [x4] at f1
    cases f1
    have : k2 = k := nd_ix cv.nd f2 x5
    subst this
    exact ⟨k', p, q, x1, f3⟩
  refine ⟨by omega, fun k hd' e => ?_, fun k hd' e => ?_, tie, fun S hS a b ha hb sa => ?_⟩
  · have kl : k < l.length := by rw [← hl]; exact (List.getElem?_eq_some_iff.mp e).1
    obtain ⟨h, s, hd, e1, e2, sl⟩ := hand k kl
    obtain ⟨hd2, a, b, c, d⟩ := r.at_ k h s hd e1 e2
    rw [e] at a
    cases a
    rw [b]
    exact gd.mark h hd e2
  · have kl : k < l.length := by rw [← hl]; exact (List.getElem?_eq_some_iff.mp e).1
    obtain ⟨h, s, hd, e1, e2, sl⟩ := hand k kl
    obtain ⟨hd2, a, b, c, d⟩ := r.at_ k h s hd e1 e2
    rw [e] at a
    cases a
    rw [c]
    exact gd.pegs h hd e2
  · have down : ∀ m k : Nat, k ≤ m → k < l.length → S k → S 0 := by
      intro m
      induction m with
      | zero => intro k hk _ sk; rw [show k = 0 by omega] at sk; exact sk
      | succ m ih =>
        intro k hk kl sk
        by_cases k0 : k = 0
        · rw [k0] at sk; exact sk
        · obtain ⟨k', p, q, x1, x2⟩ := edge k (by omega) kl
          obtain ⟨g, q', y1, y2⟩ := tie k' p _ x2
          obtain ⟨rfl, rfl⟩ := peg_nat (congrArg some y1)
          exact ih k' (by omega) (by omega) (hS k q k' p y2 sk)
    have up : ∀ m k : Nat, k ≤ m → k < l.length → S 0 → S k := by
      intro m
      induction m with
      | zero => intro k hk _ sk; rw [show k = 0 by omega]; exact sk
      | succ m ih =>
        intro k hk kl sk
        by_cases k0 : k = 0
        · rw [k0]; exact sk
        · obtain ⟨k', p, q, x1, x2⟩ := edge k (by omega) kl
          exact hS k' p k q x2 (ih k' (by omega) (by omega) sk)
    exact up b b (Nat.le_refl _) (by omega) (down a a (Nat.le_refl _) (by omega) sa)
end
theorem TurnAt.get {H0 H : Hp} {D b : Addr} {F : Turns} {m h p s t : Nat} (k : TurnAt H0 H D F m) (e : tuAt F h p s = some t) (eb : H b = some (.tup [natV h, natV p])) : ∃ (l : Addr) (r : List Nat), DGet H D (.ref b) (some (.ref l)) ∧ H l = some (.lst (r.map natV)) ∧ r[s]? = some t := by
  obtain ⟨kvs, eD, _, kk⟩ := k.ex
  obtain ⟨r, e1, e2⟩ := Option.bind_eq_some_iff.mp e
  obtain ⟨l, a, b', _, _⟩ := kk h p r e1
  refine ⟨l, r, ?_, b', e2⟩
  rw [← a]
  exact DGet.t eD eb
theorem mem_pegI {l : List End} {g t : Nat} : (((g : Int), (t : Int)) ∈ l.map pegI) ↔ (g, t) ∈ l := by
  constructor
  · intro h
    obtain ⟨x, hx, e⟩ := List.mem_map.mp h
    rw [← pegI_inj e]
    exact hx
  · intro h
    exact List.mem_map.mpr ⟨_, h, rfl⟩
theorem get_pegI {l : List End} {k : Nat} {x : PegD} (e : (l.map pegI)[k]? = some x) : ∃ h s : Nat, l[k]? = some (h, s) ∧ x = ((h : Int), (s : Int)) := by
  rw [List.getElem?_map] at e
  obtain ⟨y, e1, rfl⟩ := Option.map_eq_some_iff.mp e
  exact ⟨y.1, y.2, e1, rfl⟩
theorem pegI_get {l : List End} {k h s : Nat} (e : l[k]? = some (h, s)) : (l.map pegI)[k]? = some ((h : Int), (s : Int)) := by rw [List.getElem?_map, e]; rfl
theorem web_hand {K : PySem.W.Frag} {H : Hp} {a : Addr} {hs : List Addr} {wb : WebD} (hWa : H a = some (.tup (hs.map V.ref))) (hWP : Paired (HandAt H) hs wb) {h : Nat} (hl : h < wb.length) :
    ∃ (ha b : Addr) (hd : HandD) (ps : List Addr), wb[h]? = some hd ∧ atI (hs.map V.ref) (h : Int) = some (.ref ha) ∧ H ha = some (.tup [.int hd.1, .ref b]) ∧ H b = some (.tup (ps.map V.ref)) ∧ PairsAt H ps hd.2 := by
  have e : wb[h]? = some wb[h] := List.getElem?_eq_getElem hl
  obtain ⟨ha, e1, b, e2, ps, e3, e4⟩ := paired_get' hWP e
  exact ⟨ha, b, _, ps, e, at_of rfl (by rw [List.getElem?_map, e1]; rfl), e2, e3, e4⟩
def CovHand (F : Turns) (l : List End) (h s : Nat) (hd hd' : HandD) : Prop := hd'.1 = hd.1 ∧ hd'.2.length = hd.2.length ∧
  ∀ p g q : Nat, hd.2[p]? = some ((g : Int), (q : Int)) → ∃ t k' : Nat, tuAt F h p s = some t ∧ l[k']? = some (g, t) ∧ hd'.2[p]? = some ((k' : Int), (q : Int))
theorem first_pegI {l : List End} (nd : l.Nodup) {k g t : Nat} (e : l[k]? = some (g, t)) : ∀ m, m < k → (l.map pegI)[m]? ≠ some ((g : Int), (t : Int)) := by
  intro m hm e'
  obtain ⟨h, s, e1, e2⟩ := get_pegI e'
  obtain ⟨rfl, rfl⟩ := peg_nat (congrArg some e2)
  have := nd_ix nd e e1
  omega
def spCover : Sp := fun vs H Q _ => ∃ (p a : Addr) (wb : WebD) (n room : Nat), vs = [.ref p, .ref a, natV n] ∧ BoxAt H p ∧ WebAt H a wb ∧ Good room wb ∧ wb.length * n ≤ 1000 ∧ wb.length ≤ 1000 ∧ room ≤ 1000 ∧ 1 ≤ n ∧ n ≤ 1000 ∧
  ∀ (r rw rl : Addr) (F : Turns) (l : List End) (w0 w' : WebD) (π ld : List Nat) (H' : Hp), H r = none → H rw = none → Step p H H' → H' r = some (.tup [.ref rw, .ref rl]) → WebAt H' rw w' → H' rl = some (.tup (ld.map natV)) → TurnOk n wb F → Cov n wb F l l.length 0 → CovOf wb F l w0 →
    π.Perm (List.range l.length) → RenOf w0 π w' → ld.length = l.length → (∀ (k j h s : Nat), π[k]? = some j → l[k]? = some (h, s) → ld[j]? = some h) → Q (.ref r) H'
end NH
set_option Elab.async false
set_option linter.all false
set_option maxRecDepth 100000
set_option maxHeartbeats 4000000
namespace NH
open PySem L2
abbrev sCov : Stmt := top 19
abbrev nCov : List Str := ["_law_box_here", "_law_web_here", "_law_sheets", "_law_turnings_here", "_law_there", "_law_at", "_law_h", "_law_s", "_law_p", "_law_g", "_law_q", "_law_found", "_law_pegs", "_law_row", "_law_leading", "_law_k"]
section
variable {P : Program} {w : World} {K : PySem.W.Frag} {mg : Str → Option Value} {base : Heap}
theorem scCov : FnScope nCov ["_law_box_here", "_law_web_here", "_law_sheets"] (defScope sCov) := ⟨rfl, rfl, rfl, by decide +kernel, rfl, by decide +kernel, by decide +kernel⟩
structure Dr3 (P : Program) (w : World) (K : PySem.W.Frag) (mg : Str → Option Value) (base : Heap) : Prop extends Dr P w K mg base where
  turn : ∃ (f : Addr) (fd : FuncData), FnOk P w K mg base CX0 3 f fd ["_law_box_here", "_law_web_here", "_law_sheets"] spTurn ∧ Binds K fd ["_law_box_here", "_law_web_here", "_law_sheets"] [] ∧ mg "_law_turnings" = some (.ref f) ∧ PySem.W.keepIn K (.ref f) = true
  ren : ∃ (f : Addr) (fd : FuncData), FnOk P w K mg base CX0 1 f fd ["_law_web_here", "_law_row"] spRen ∧ Binds K fd ["_law_web_here", "_law_row"] [] ∧ mg "_law_renamed" = some (.ref f) ∧ PySem.W.keepIn K (.ref f) = true
abbrev tTg (K : PySem.W.Frag) : TE := tTup (tCons (tVar 9) (tCons (tOp (rIxL K) (tDGet (tVar 3) (tTup (tCons (tVar 6) (tCons (tVar 8) tNil)))) (tVar 7)) tNil))
theorem ok_cov {f : Addr} {fd : FuncData} (F : Fun K "_law_cover" "_law_cover" sCov f fd) (G : Dr3 P w K mg base) : FnOk P w K mg base CX0 4 f fd ["_law_box_here", "_law_web_here", "_law_sheets"] spCover := by
  obtain ⟨fS, fdS, GS, bS, mS, kS⟩ := G.shuf
  obtain ⟨fU, fdU, GU, bU, mU, kU⟩ := G.turn
  obtain ⟨fR, fdR, GR, bR, mR, kR⟩ := G.ren
  refine F.ok scCov (fun vs H Q E h => ?_) (fun cdv A outer s H vs Q E hr h => ?_)
  · obtain ⟨p, a, wb, n, room, rfl, _⟩ := h
    rfl
  · obtain ⟨p, a, wb, n, room, rfl, hb, hW, gd, bnd, wl, rl, n1, n2, k⟩ := h
    have nd := scCov.nd
    have hr1 := hr.mono (show 1 ≤ 3 by decide)
    have hr2 := hr.mono (show 2 ≤ 3 by decide)
    refine ⟨_, pss_cons (ps_set (i := 3) nd rfl (Or.inr rfl) (pe_call GU hr (by rfl) mU kU bU .nil pass0 (pa_cons (pv 0) (pa_cons (pv 1) (pa_cons (pv 2) pa_nil)))))
      (pss_cons (ps_set (i := 4) nd rfl (Or.inr rfl) (pe_lst (pa_cons (pe_tup (pa_cons pe_int (pa_cons pe_int pa_nil))) pa_nil)))
      (pss_cons (ps_set (i := 5) nd rfl (Or.inl rfl) pe_int)
      (pss_cons (ps_while PassesOwn.never (pt_cmpR op_lt (pv 5) (pe_callB call_len_seq (by rfl) G.mlen PySem.boot_len (pa_cons (pv 4) pa_nil)) (nomark _))
        (pss_cons (ps_asg (pe_ix ix_list (pv 4) (pv 5) (fun _ _ => rfl)) (pg_tup (by rfl) (pgs_cons (pg_name (i := 6) nd rfl (Or.inr rfl)) (pgs_cons (pg_name (i := 7) nd rfl (Or.inr rfl)) pgs_nil))))
        (pss_cons (ps_for PassesOwn.never rfl (pi_enumT (by rfl) G.menum (pa_cons (pe_ix ix_tup (pe_ix ix_tup (pv 1) (pv 6) (fun _ _ => rfl)) pe_int (fun _ _ => rfl)) pa_nil)) (pg_tup (by rfl) (pgs_cons (pg_name (i := 8) nd rfl (Or.inl rfl)) (pgs_cons (pg_tup (by rfl) (pgs_cons (pg_name (i := 9) nd rfl (Or.inl rfl)) (pgs_cons (pg_name (i := 10) nd rfl (Or.inl rfl)) pgs_nil))) pgs_nil)))
          (pss_one (ps_if (pt_cmpR (op_notInP hr) (pe_tup (pa_cons (pv 9) (pa_cons (pe_ix ix_list (pe_dget hr.units1 (pv 3) (pe_tup (pa_cons (pv 6) (pa_cons (pv 8) pa_nil))) (fun _ _ => rfl)) (pv 7) (fun _ _ => rfl)) pa_nil))) (pv 4) (by rfl))
            (pss_one (ps_expr (pe_bm PySem.F.plainAttrs_list PySem.F.slot_list_append PySem.F.type_list_append mt_append (pv 4) (pa_cons (pe_tup (pa_cons (pv 9) (pa_cons (pe_ix ix_list (pe_dget hr.units1 (pv 3) (pe_tup (pa_cons (pv 6) (pa_cons (pv 8) pa_nil))) (fun _ _ => rfl)) (pv 7) (fun _ _ => rfl)) pa_nil))) pa_nil)))) pss_nil)))
        (pss_one (ps_set (i := 5) nd rfl (Or.inl rfl) (pe_op op_add (pv 5) pe_int))))))
      (pss_cons (ps_set (i := 11) nd rfl (Or.inl rfl) (pe_lst pa_nil))
      (pss_cons (ps_for PassesOwn.never rfl (pi_list (pv 4)) (pg_tup (by rfl) (pgs_cons (pg_name (i := 6) nd rfl (Or.inr rfl)) (pgs_cons (pg_name (i := 7) nd rfl (Or.inr rfl)) pgs_nil)))
        (pss_cons (ps_setLc (i := 12) (own := [("_law_p", 8), ("_law_g", 9), ("_law_q", 10)]) (g := gTup K 2 (gCons (gName 8) (gCons (gTup K 2 (gCons (gName 9) (gCons (gName 10) gNil))) gNil))) (te := tTup (tCons (tBM K "list" rIndexP (tVar 4) (tCons (tTg K) tNil)) (tCons (tVar 10) tNil))) (by rfl) nd rfl rfl (sw_true rfl rfl rfl (by decide +kernel))
            (pi_enumT (by rfl) G.menum (pa_cons (pe_ix ix_tup (pe_ix ix_tup (pv 1) (pv 6) (fun _ _ => rfl)) pe_int (fun _ _ => rfl)) pa_nil)) (blkOk_by (own := [("_law_p", 8), ("_law_g", 9), ("_law_q", 10)]) (N := nCov) (sc := defScope sCov) (by decide +kernel))
            (fun _ _ _ _ _ => by exact pg_tup (by rfl) (pgs_cons (pg_name (i := 8) nd rfl (Or.inl rfl)) (pgs_cons (pg_tup (by rfl) (pgs_cons (pg_name (i := 9) nd rfl (Or.inl rfl)) (pgs_cons (pg_name (i := 10) nd rfl (Or.inl rfl)) pgs_nil))) pgs_nil))) (fun _ _ _ _ _ => pts_nil)
            (fun _ _ _ _ _ => by exact pe_tup (pa_cons (pe_bm PySem.F.plainAttrs_list PySem.F.slot_list_index PySem.F.type_list_index (mt_indexP hr) (pv 4) (pa_cons (pe_tup (pa_cons (pv 9) (pa_cons (pe_ix ix_list (pe_dget hr.units1 (pv 3) (pe_tup (pa_cons (pv 6) (pa_cons (pv 8) pa_nil))) (fun _ _ => rfl)) (pv 7) (fun _ _ => rfl)) pa_nil))) pa_nil)) (pa_cons (pv 10) pa_nil))))
        (pss_one (ps_expr (pe_bm PySem.F.plainAttrs_list PySem.F.slot_list_append PySem.F.type_list_append mt_append (pv 11) (pa_cons (pe_tup (pa_cons (pe_ix ix_tup (pe_ix ix_tup (pv 1) (pv 6) (fun _ _ => rfl)) pe_int (fun _ _ => rfl)) (pa_cons (pe_callTy call_tuple_of (by rfl) G.mtuple (by decide +kernel) (pa_cons (pv 12) pa_nil)) pa_nil))) pa_nil))))))
      (pss_cons (ps_set (i := 13) nd rfl (Or.inl rfl) (pe_call GS hr2 (by rfl) mS kS bS .nil pass0 (pa_cons (pv 0) (pa_cons (pe_callB call_len_seq (by rfl) G.mlen PySem.boot_len (pa_cons (pv 4) pa_nil)) pa_nil))))
      (pss_cons (ps_set (i := 14) nd rfl (Or.inl rfl) (pe_op op_rep (pe_lst (pa_cons pe_int pa_nil)) (pe_callB call_len_seq (by rfl) G.mlen PySem.boot_len (pa_cons (pv 4) pa_nil))))
      (pss_cons (ps_for PassesOwn.never rfl (pi_enum (by rfl) G.menum (pa_cons (pv 4) pa_nil)) (pg_tup (by rfl) (pgs_cons (pg_name (i := 15) nd rfl (Or.inl rfl)) (pgs_cons (pg_tup (by rfl) (pgs_cons (pg_name (i := 6) nd rfl (Or.inr rfl)) (pgs_cons (pg_name (i := 7) nd rfl (Or.inr rfl)) pgs_nil))) pgs_nil)))
        (pss_one (ps_asg (pv 6) (pg_sub (pv 14) (pe_ix ix_list (pv 13) (pv 15) (fun _ _ => rfl)) set_list))))
      (pss_one (ps_ret (pe_tup (pa_cons (pe_call GR hr1 (by rfl) mR kR bR .nil pass0 (pa_cons (pe_callTy call_tuple_of (by rfl) G.mtuple (by decide +kernel) (pa_cons (pv 11) pa_nil)) (pa_cons (pv 13) pa_nil))) (pa_cons (pe_callTy call_tuple_of (by rfl) G.mtuple (by decide +kernel) (pa_cons (pv 14) pa_nil)) pa_nil))))))))))))), ?_⟩
    obtain ⟨hs, hWa, hWP⟩ := hW
    have hsl : hs.length = wb.length := Paired.length hWP
    refine ⟨_, rfl, _, rfl, _, rfl, p, a, wb, n, room, rfl, hb, ⟨hs, hWa, hWP⟩, gd, wl, rl, n1, n2, fun D F H1 nD s1 tA tk => ?_⟩
    have neD : D ≠ p := hb.ne nD
    have hWa1 := s1.tups hb _ _ hWa
    have hWP1 : Paired (HandAt H1) hs wb := Paired.mapP hWP fun _ _ z => z.tups (s1.tups hb)
    -- the first one
    refine ⟨(by show 2 ≤ sizeLine; decide), fun t0 m0 => ⟨(by show 1 ≤ sizeLine; decide), fun L nL => ?_⟩⟩
    have q0 := same_new (o := .tup [.int 0, .int 0]) m0
    have e0 : (upd H1 t0 (.tup [.int 0, .int 0])) t0 = some (.tup [.int 0, .int 0]) := upd_same
    have tA2 := tA.same q0
    have s2 := s1.same q0
    have hWa2 := q0 _ _ hWa1
    have hWP2 : Paired (HandAt (upd H1 t0 (.tup [.int 0, .int 0]))) hs wb := Paired.mapP hWP1 fun _ _ z => z.tups (sTups q0)
    clear hWa1 hWP1
    generalize (upd H1 t0 (.tup [.int 0, .int 0])) = H2 at e0 tA2 s2 hWa2 hWP2 nL ⊢
    have nLH : H L = none := s2.free nL
    have neL : L ≠ p := hb.ne nLH
    have w0 : 0 < wb.length := gd.pos
    have hL0 : PairsAt (upd H2 L (.lst [.ref t0])) [t0] ([((0 : Nat), (0 : Nat))].map pegI) := .cons (same_new nL _ _ e0) .nil
    refine ⟨fun m σ H3 => ∃ (c : Nat) (as : List Addr) (l : List End) (o6 o7 o8 o9 o10 : Option V), m = 1001 - c ∧ σ = [some (.ref p), some (.ref a), some (natV n), some (.ref D), some (.ref L), some (natV c), o6, o7, o8, o9, o10, none, none, none, none, none] ∧ Same H2 H3 ∧ H3 L = some (.lst (as.map V.ref)) ∧ PairsAt H3 as (l.map pegI) ∧ Cov n wb F l c 0 ∧ c ≤ l.length,
      ⟨_, 0, [t0], [(0, 0)], none, none, none, none, none, rfl, rfl, same_new nL, upd_same, hL0, Cov.first w0 (by omega), Nat.zero_le _⟩, ?_⟩
    rintro m σ H3 ⟨c, as, l, o6, o7, o8, o9, o10, rfl, rfl, s3, hL, hP, cv, cl⟩
    have asl : as.length = l.length := by have := Paired.length hP; rwa [List.length_map] at this
    have ll := cv.len
    refine ⟨_, rfl, _, rfl, L, _, rfl, .inl (SqL.of hL), _, _, rfl, rfl, _, rfl, ?_⟩
    rw [List.length_map, asl]
    refine ite2 (fun hlt => ?_) (fun hlt => ?_)
    · have hlt : c < l.length := by
        have := of_decide_eq_true hlt
        omega
      obtain ⟨h, s, ehs⟩ : ∃ h s : Nat, l[c]? = some (h, s) := ⟨l[c].1, l[c].2, List.getElem?_eq_getElem hlt⟩
      have hin := cv.inb (h, s) (List.mem_of_getElem? ehs)
      obtain ⟨ta, eta, hta⟩ := paired_get' hP (pegI_get ehs)
      obtain ⟨ha, b, hd, ps, ehd, eat, eha, eb, hps⟩ := web_hand (K := K) hWa2 hWP2 hin.1
      have psl : ps.length = hd.2.length := Paired.length hps
      refine ⟨fun σ' H' => ∃ m', m' < 1001 - c ∧ _, fun σ' H' z => z, ?_⟩
      refine ⟨_, rfl, _, rfl, L, _, _, _, rfl, rfl, SqL.of hL, at_of rfl (by rw [List.getElem?_map, eta]; rfl), ?_⟩
      refine ⟨ta, _, rfl, SqT.of hta, rfl, _, _, rfl, _, _, rfl, rfl, ?_⟩
      refine ⟨_, rfl, _, rfl, a, _, _, _, rfl, rfl, SqT.of (s3 _ _ hWa2), eat, ha, _, _, _, rfl, rfl, SqT.of (s3 _ _ eha), rfl, b, _, rfl, SqT.of (s3 _ _ eb), ?_⟩
      refine for_enumT (K := K) (a := b) (xs := ps.map V.ref) (fun j σ H4 => ∃ (as : List Addr) (l : List End) (o8 o9 o10 : Option V), σ = [some (.ref p), some (.ref a), some (natV n), some (.ref D), some (.ref L), some (natV c), some (natV h), some (natV s), o8, o9, o10, none, none, none, none, none] ∧ Same H2 H4 ∧ H4 L = some (.lst (as.map V.ref)) ∧ PairsAt H4 as (l.map pegI) ∧ Cov n wb F l c j ∧ l[c]? = some (h, s))
        ⟨as, l, _, _, _, rfl, s3, hL, hP, cv, ehs⟩ (fun j σ H4 _ ⟨_, _, _, _, _, _, s4, _⟩ => SqT.of (s4 _ _ eb)) ?_ ?_
      · clear hP hL s3 ll asl cl hlt eta hta ehs cv
        rintro j y T σ H4 hyj ⟨as, l, o8, o9, o10, rfl, s4, hL, hP, cv, ehs⟩ nT
        rw [List.getElem?_map] at hyj
        obtain ⟨pa, epa, rfl⟩ := Option.map_eq_some_iff.mp hyj
        obtain ⟨x, ex, hpa⟩ := paired_get hps epa
        have epeg : pegOf wb h j = some x := by unfold pegOf; rw [ehd]; exact ex
        obtain ⟨g, q, t, rfl, et, tl, et2⟩ := tk.at epeg hin.2
        have gl : g < wb.length := by
          obtain ⟨g', q', z1, z2⟩ := gd.tie h j _ epeg
          obtain ⟨rfl, rfl⟩ := peg_nat (congrArg some z1)
          exact pegOf_lt z2
        have asl : as.length = l.length := by have := Paired.length hP; rwa [List.length_map] at this
        have ll := cv.len
        have qT := same_new (o := .tup [.int (j : Nat), .ref pa]) nT
        have s5 := s4.trans qT
        have hL5 := qT _ _ hL
        have hP5 := pairs_tups (sTups qT) hP
        refine ⟨T, _, rfl, SqT.of upd_same, rfl, _, _, rfl, _, _, rfl, ⟨pa, _, rfl, SqT.of (s5 _ _ hpa), rfl, _, _, rfl, _, _, rfl, rfl, rfl, ?_⟩⟩
        generalize (upd H4 T (.tup [.int (j : Nat), .ref pa])) = H5 at s5 hL5 hP5 ⊢
        clear qT
        refine ⟨_, rfl, _, rfl, _, rfl, _, rfl, (by show 2 ≤ sizeLine; decide), fun t1 m1 => ?_⟩
        have q1 := same_new (o := .tup [natV h, .int (j : Int)]) m1
        obtain ⟨lr, r, dg, elr, er⟩ := (tA2.same (s5.trans q1)).get et (b := t1) upd_same
        refine ⟨D, _, rfl, dg, _, rfl, lr, _, _, _, rfl, rfl, SqL.of elr, natV_at rfl er, (by show 2 ≤ sizeLine; decide), fun t2 m2 => ?_⟩
        have q2 := same_new (o := .tup [.int ((g : Int), (q : Int)).fst, natV t]) m2
        have q12 := q1.trans q2
        have s6 := s5.trans q12
        have hL6 := q12 _ _ hL5
        have hP6 := pairs_tups (sTups q12) hP5
        have e2 : (upd (upd H5 t1 (.tup [natV h, .int (j : Int)])) t2 (.tup [.int ((g : Int), (q : Int)).fst, natV t])) t2 = some (.tup [.int ((g : Int), (q : Int)).fst, natV t]) := upd_same
        refine ⟨_, rfl, t2, L, as, l.map pegI, ((g : Int), (t : Int)), rfl, rfl, e2, hL6, hP6, _, rfl, ?_⟩
        clear dg elr er q1 q12
        generalize (upd (upd H5 t1 (.tup [natV h, .int (j : Int)])) t2 (.tup [.int ((g : Int), (q : Int)).fst, natV t])) = H6 at s6 hL6 hP6 e2 ⊢
        refine ite2 (fun hin2 => ?_) (fun hin2 => ?_)
        · have hno : ¬ (g, t) ∈ l := by
            rw [if_pos rfl, Bool.not_eq_true', decide_eq_false_iff_not, mem_pegI] at hin2
            exact hin2
          refine ⟨_, rfl, .inl ⟨rfl, _, SqL.of hL6⟩, _, rfl, _, rfl, _, rfl, _, rfl, (by show 2 ≤ sizeLine; decide), fun t3 m3 => ?_⟩
          have q3 := same_new (o := .tup [natV h, .int (j : Int)]) m3
          obtain ⟨lr, r, dg, elr, er⟩ := (tA2.same (s6.trans q3)).get et (b := t3) upd_same
          refine ⟨D, _, rfl, dg, _, rfl, lr, _, _, _, rfl, rfl, SqL.of elr, natV_at rfl er, (by show 2 ≤ sizeLine; decide), fun t4 m4 => ?_⟩
          have q34 := q3.trans (same_new (o := .tup [.int ((g : Int), (q : Int)).fst, natV t]) m4)
          have s7 := s6.trans q34
          have hL7 := q34 _ _ hL6
          have hP7 := pairs_tups (sTups q34) hP6
          have e4 : (upd (upd H6 t3 (.tup [natV h, .int (j : Int)])) t4 (.tup [.int ((g : Int), (q : Int)).fst, natV t])) t4 = some (.tup [.int ((g : Int), (q : Int)).fst, natV t]) := upd_same
          clear dg elr er q3 q34
          generalize (upd (upd H6 t3 (.tup [natV h, .int (j : Int)])) t4 (.tup [.int ((g : Int), (q : Int)).fst, natV t])) = H7 at s7 hL7 hP7 e4 ⊢
          refine ⟨L, _, _, rfl, rfl, hL7, (by rw [List.length_map, asl, sizeLine_eq]; omega), ?_⟩
          have tt := tups_lst (o := .lst (as.map V.ref ++ [.ref t4])) hL7
          refine ⟨as ++ [t4], l ++ [(g, t)], _, _, _, rfl, same_upd s7 nL, (by rw [List.map_append]; exact upd_same), ?_, cv.add ehs epeg et hno gl tl, ?_⟩
          · rw [List.map_append]
            have hnew : PairAt (upd H7 L (.lst (as.map V.ref ++ [.ref t4]))) t4 (pegI (g, t)) := tt _ _ e4
            exact paired_snoc (R := PairAt (upd H7 L (.lst (as.map V.ref ++ [.ref t4])))) hnew (pairs_tups tt hP7)
          · rw [List.getElem?_append_left (List.getElem?_eq_some_iff.mp ehs).1]
            exact ehs
        · have hyes : (g, t) ∈ l := by
            rw [if_pos rfl, Bool.not_eq_true', decide_eq_false_iff_not, mem_pegI] at hin2
            exact Classical.not_not.mp hin2
          exact ⟨as, l, _, _, _, rfl, s6, hL6, hP6, cv.old ehs epeg et hyes, ehs⟩
      · rintro σ H4 ⟨as, l, o8, o9, o10, rfl, s4, hL, hP, cv, ehs⟩
        rw [List.length_map, psl] at cv
        have cl : c < l.length := (List.getElem?_eq_some_iff.mp ehs).1
        have ll := cv.len
        refine ⟨_, rfl, _, _, rfl, rfl, ?_⟩
        exact ⟨1001 - (c + 1), by omega, c + 1, as, l, _, _, _, _, _, rfl, rfl, s4, hL, hP, cv.next ehs ehd rfl, by omega⟩
    · have hc : c = l.length := by
        have : ¬ ((c : Int) < (l.length : Int)) := fun z => hlt (decide_eq_true z)
        omega
      subst hc
      -- the hands above
      refine ⟨(by show 0 ≤ sizeLine; decide), fun Lf nLf => ?_⟩
      have nLf2 : H2 Lf = none := s3.free nLf
      have neLL : L ≠ Lf := fun z => by rw [← z, hL] at nLf; cases nLf
      refine ⟨_, rfl, L, rfl, ⟨_, SqL.of (same_new nLf _ _ hL)⟩, for_list (K := K) (a := L) (xs := as.map V.ref) (fun i σ H4 => Same H3 H4 ∧ ∃ (ns : List Addr) (wn : WebD) (o6 o7 o8 o9 o10 o12 : Option V), σ = [some (.ref p), some (.ref a), some (natV n), some (.ref D), some (.ref L), some (natV l.length), o6, o7, o8, o9, o10, some (.ref Lf), o12, none, none, none] ∧ H4 Lf = some (.lst (ns.map V.ref)) ∧ Paired (HandAt H4) ns wn ∧ wn.length = i ∧
          ∀ (k h s : Nat) hd, k < i → l[k]? = some (h, s) → wb[h]? = some hd → ∃ hd', wn[k]? = some hd' ∧ CovHand F l h s hd hd')
        ⟨same_new nLf, [], [], _, _, _, _, _, _, rfl, upd_same, .nil, rfl, fun k h s hd hk => absurd hk (Nat.not_lt_zero _)⟩ (fun i σ H4 _ ⟨s4, _⟩ => SqL.of (s4 _ _ hL)) ?_ ?_⟩
      · rintro i y σ H4 hyi ⟨s4, ns, wn, o6, o7, o8, o9, o10, o12, rfl, hLf, hN, wnl, hC⟩
        rw [List.getElem?_map] at hyi
        obtain ⟨ta, eta, rfl⟩ := Option.map_eq_some_iff.mp hyi
        obtain ⟨x, ex, hta⟩ := paired_get hP eta
        obtain ⟨h, s, ehs, rfl⟩ := get_pegI ex
        have hin := cv.inb (h, s) (List.mem_of_getElem? ehs)
        have s24 := s3.trans s4
        obtain ⟨ha, b, hd, ps, ehd, eat, eha, eb, hps⟩ := web_hand (K := K) hWa2 hWP2 hin.1
        have psl : ps.length = hd.2.length := Paired.length hps
        refine ⟨ta, _, rfl, SqT.of (s4 _ _ hta), rfl, _, _, rfl, _, _, rfl, rfl, ?_⟩
        refine ⟨_, rfl, _, rfl, a, _, _, _, rfl, rfl, SqT.of (s24 _ _ hWa2), eat, ha, _, _, _, rfl, rfl, SqT.of (s24 _ _ eha), rfl, b, _, rfl, SqT.of (s24 _ _ eb), fun Dp nDp => ?_⟩
        have nDp2 : H2 Dp = none := s24.free nDp
        refine lc_enumT (K := K) (a := b) (xs := ps.map V.ref) (fun c H5 => Same H4 H5 ∧ ∃ (bs : List Addr) (qs : List PegD), H5 Dp = some (.lst (bs.map V.ref)) ∧ PairsAt H5 bs qs ∧ qs.length = c ∧ ∀ p g q : Nat, p < c → hd.2[p]? = some ((g : Int), (q : Int)) → ∃ t k' : Nat, tuAt F h p s = some t ∧ l[k']? = some (g, t) ∧ qs[p]? = some ((k' : Int), (q : Int)))
          ⟨same_new nDp, [], [], upd_same, .nil, rfl, fun p g q hp => absurd hp (Nat.not_lt_zero _)⟩ (fun c H5 _ ⟨s5, _⟩ => SqT.of (s5 _ _ (s24 _ _ eb))) ?_ ?_
        · rintro j y T H5 hyj ⟨s5, bs, qs, hDp, hQ, ql, hqs⟩ nT
          rw [List.getElem?_map] at hyj
          obtain ⟨pa, epa, rfl⟩ := Option.map_eq_some_iff.mp hyj
          obtain ⟨x, exj, hpa⟩ := paired_get hps epa
          have epeg : pegOf wb h j = some x := by unfold pegOf; rw [ehd]; exact exj
          obtain ⟨g, q, t, rfl, et, tl, et2⟩ := tk.at epeg hin.2
          obtain ⟨t', et', hm⟩ := cv.closed i h s j g q (.inl (by rw [← asl]; exact (List.getElem?_eq_some_iff.mp eta).1)) ehs epeg
          rw [et] at et'
          cases et'
          obtain ⟨k', ek'⟩ := List.getElem?_of_mem hm
          have jl : j < hd.2.length := (List.getElem?_eq_some_iff.mp exj).1
          have qT := same_new (o := .tup [.int (j : Nat), .ref pa]) nT
          have s6 := s5.trans qT
          have hDp6 := qT _ _ hDp
          have hQ6 := pairs_tups (sTups qT) hQ
          refine ⟨T, _, rfl, SqT.of upd_same, rfl, _, _, rfl, _, _, rfl, ⟨pa, _, rfl, SqT.of (s6 _ _ (s24 _ _ hpa)), rfl, _, _, rfl, _, _, rfl, rfl, rfl, rfl, ?_⟩⟩
          generalize (upd H5 T (.tup [.int (j : Nat), .ref pa])) = H6 at s6 hDp6 hQ6 ⊢
          clear qT
          dsimp only [tYes]
          rw [if_pos rfl]
          refine ⟨_, rfl, .inl ⟨rfl, _, SqL.of (s6 _ _ (s4 _ _ hL))⟩, _, rfl, _, rfl, _, rfl, _, rfl, (by show 2 ≤ sizeLine; decide), fun t1 m1 => ?_⟩
          have q1 := same_new (o := .tup [.int (h : Int), .int (j : Int)]) m1
          obtain ⟨lr, r, dg, elr, er⟩ := (tA2.same ((s24.trans s6).trans q1)).get et (b := t1) upd_same
          refine ⟨D, _, rfl, dg, _, rfl, lr, _, _, _, rfl, rfl, SqL.of elr, natV_at rfl er, (by show 2 ≤ sizeLine; decide), fun t2 m2 => ?_⟩
          have q12 := q1.trans (same_new (o := .tup [.int (g : Int), natV t]) m2)
          have s7 := s6.trans q12
          have hDp7 := q12 _ _ hDp6
          have hQ7 := pairs_tups (sTups q12) hQ6
          have e2 : (upd (upd H6 t1 (.tup [.int (h : Int), .int (j : Int)])) t2 (.tup [.int (g : Int), natV t])) t2 = some (.tup [.int (g : Int), natV t]) := upd_same
          clear dg elr er q1 q12
          refine ⟨L, t2, as, l.map pegI, ((g : Int), (t : Int)), k', rfl, rfl, e2, s7 _ _ (s4 _ _ hL), pairs_tups (sTups (s4.trans s7)) hP, pegI_get ek', first_pegI cv.nd ek', _, rfl, (by show 2 ≤ sizeLine; decide), fun t3 m3 => ?_⟩
          generalize (upd (upd H6 t1 (.tup [.int (h : Int), .int (j : Int)])) t2 (.tup [.int (g : Int), natV t])) = H7 at s7 hDp7 hQ7 e2 m3 ⊢
          have q3 := same_new (o := .tup [.int (k' : Nat), .int ((g : Int), (q : Int)).snd]) m3
          have hDp8 := q3 _ _ hDp7
          have tt := (sTups q3).trans (tups_lst (o := .lst (bs.map V.ref ++ [V.ref t3])) hDp8)
          have pl := gd.pegs h hd ehd
          have bl : bs.length = qs.length := Paired.length hQ
          refine ⟨_, hDp8, (by rw [List.length_map, bl, ql, sizeLine_eq]; omega), same_upd (s7.trans q3) nDp, bs ++ [t3], qs ++ [((k' : Int), (q : Int))], (by rw [List.map_append]; exact upd_same), ?_, (by rw [List.length_append, ql]; rfl), fun p' g' q' hp' e' => ?_⟩
          · have hnew : PairAt (upd (upd H7 t3 (.tup [.int (k' : Nat), .int ((g : Int), (q : Int)).snd])) Dp (.lst (bs.map V.ref ++ [V.ref t3]))) t3 ((k' : Int), (q : Int)) := (tups_lst (o := .lst (bs.map V.ref ++ [V.ref t3])) hDp8) _ _ upd_same
            exact paired_snoc (R := PairAt (upd (upd H7 t3 (.tup [.int (k' : Nat), .int ((g : Int), (q : Int)).snd])) Dp (.lst (bs.map V.ref ++ [V.ref t3])))) hnew (pairs_tups tt hQ7)
          · by_cases z : p' = j
            · subst z
              rw [exj] at e'
              obtain ⟨rfl, rfl⟩ := peg_nat e'
              exact ⟨t, k', et, ek', by rw [List.getElem?_append_right (by omega), ql, Nat.sub_self]; rfl⟩
            · obtain ⟨t', k2, a1, a2, a3⟩ := hqs p' g' q' (by omega) e'
              exact ⟨t', k2, a1, a2, by rw [List.getElem?_append_left (by omega)]; exact a3⟩
        · rintro H5 ⟨s5, bs, qs, hDp, hQ, ql, hqs⟩
          rw [List.length_map, psl] at ql hqs
          have s25 := s24.trans s5
          refine ⟨_, rfl, .inl ⟨rfl, _, SqL.of (s5 _ _ hLf)⟩, _, rfl, _, rfl, a, _, _, _, rfl, rfl, SqT.of (s25 _ _ hWa2), eat, ha, _, _, _, rfl, rfl, SqT.of (s25 _ _ eha), rfl, ?_⟩
          refine ⟨_, rfl, Dp, _, rfl, .inl ⟨SqL.of hDp, fun pt npt => ⟨(by show 2 ≤ sizeLine; decide), fun hn nhn => ?_⟩⟩⟩
          have q1 := same_new (o := .tup (bs.map V.ref)) npt
          have q2 := same_new (o := .tup [.int hd.1, .ref pt]) nhn
          have q12 := q1.trans q2
          have hLf6 := q12 _ _ (s5 _ _ hLf)
          have ept := q2 _ _ (upd_same (H := H5) (a := pt) (o := .tup (bs.map V.ref)))
          have ehn : (upd (upd H5 pt (.tup (bs.map V.ref))) hn (.tup [.int hd.1, .ref pt])) hn = some (.tup [.int hd.1, .ref pt]) := upd_same
          have hQ6 := pairs_tups (sTups q12) hQ
          have hN6 : Paired (HandAt (upd (upd H5 pt (.tup (bs.map V.ref))) hn (.tup [.int hd.1, .ref pt]))) ns wn := Paired.mapP hN fun _ _ z => z.tups (sTups (s5.trans q12))
          have s6 := (s4.trans s5).trans q12
          generalize (upd (upd H5 pt (.tup (bs.map V.ref))) hn (.tup [.int hd.1, .ref pt])) = H6 at hLf6 ept ehn hQ6 hN6 s6 ⊢
          have nl : ns.length = wn.length := Paired.length hN
          have il : i < as.length := (List.getElem?_eq_some_iff.mp eta).1
          refine ⟨Lf, _, _, rfl, rfl, hLf6, (by rw [List.length_map, nl, wnl, sizeLine_eq]; omega), ?_⟩
          have tt := tups_lst (o := .lst (ns.map V.ref ++ [.ref hn])) hLf6
          have hnew : HandAt (upd H6 Lf (.lst (ns.map V.ref ++ [.ref hn]))) hn (hd.1, qs) := HandAt.tups tt ⟨pt, ehn, bs, ept, hQ6⟩
          refine ⟨same_upd s6 nLf, ns ++ [hn], wn ++ [(hd.1, qs)], _, _, _, _, _, _, rfl, (by rw [List.map_append]; exact upd_same), paired_snoc (R := HandAt (upd H6 Lf (.lst (ns.map V.ref ++ [.ref hn])))) hnew (Paired.mapP hN6 fun _ _ z => z.tups tt), (by rw [List.length_append, wnl]; rfl), fun k' h' s' hd' hk e1 e2 => ?_⟩
          by_cases z : k' = i
          · subst z
            rw [ehs] at e1
            cases e1
            rw [ehd] at e2
            cases e2
            refine ⟨(hd.1, qs), by rw [List.getElem?_append_right (by omega), wnl, Nat.sub_self]; rfl, rfl, ql, fun p' g' q' e' => hqs p' g' q' (List.getElem?_eq_some_iff.mp e').1 e'⟩
          · obtain ⟨hd2, a1, a2⟩ := hC k' h' s' hd' (by omega) e1 e2
            exact ⟨hd2, by rw [List.getElem?_append_left (by omega)]; exact a1, a2⟩
      · rintro σ H4 ⟨s4, ns, wn, o6, o7, o8, o9, o10, o12, rfl, hLf, hN, wnl, hC⟩
        rw [List.length_map, asl] at wnl hC
        have cof : CovOf wb F l wn := ⟨wnl, fun k h s hd e1 e2 => by
          obtain ⟨hd', a1, a2⟩ := hC k h s hd (List.getElem?_eq_some_iff.mp e1).1 e1 e2
          exact ⟨hd', a1, a2⟩⟩
        have gdn := cof.good gd tk cv
        have hL4 := s4 _ _ hL
        have s04 := (s2.same s3).same s4
        refine ⟨_, rfl, _, rfl, L, _, rfl, .inl (SqL.of hL4), ?_⟩
        rw [List.length_map, asl]
        refine ⟨p, l.length, rfl, s04.box, by omega, fun Lr π H5 nLr s5 hLr hp => ?_⟩
        have nLf0 : H Lf = none := s2.free nLf2
        have hL5 := s5.keep _ _ neL hL4
        have hLf5 := s5.keep _ _ (hb.ne nLf0) hLf
        have hN5 : Paired (HandAt H5) ns wn := Paired.mapP hN fun _ _ z => z.tups (s5.tups s04.box)
        have s05 := s04.trans s5
        refine ⟨(by show 1 ≤ sizeLine; decide), fun a0 n0 => ⟨_, rfl, L, _, rfl, .inl (SqL.of (same_new n0 _ _ hL5)), ?_⟩⟩
        rw [List.length_map, asl]
        refine ⟨a0, _, _, rfl, rfl, upd_same, by omega, by omega, (by show 1 * (l.length : Int).toNat ≤ sizeLine; rw [sizeLine_eq]; omega), fun Ld nLd => ?_⟩
        have q0 := same_new (o := .lst [.int 0]) n0
        have s06 := s05.same q0
        have hL6 := q0 _ _ hL5
        have hLf6 := q0 _ _ hLf5
        have hLr6 := q0 _ _ hLr
        have hN6 : Paired (HandAt (upd H5 a0 (.lst [.int 0]))) ns wn := Paired.mapP hN5 fun _ _ z => z.tups (sTups q0)
        have hP6 : PairsAt (upd H5 a0 (.lst [.int 0])) as (l.map pegI) := pairs_tups (((sTups s4).trans (s5.tups s04.box)).trans (sTups q0)) hP
        generalize (upd H5 a0 (.lst [.int 0])) = H6 at s06 hL6 hLf6 hLr6 hN6 hP6 nLd ⊢
        have hld0 : (upd H6 Ld (.lst (List.replicate (l.length : Int).toNat [V.int 0]).flatten)) Ld = some (.lst ((List.replicate l.length 0).map natV)) := by rw [upd_same, Int.toNat_natCast, rep0]
        refine ⟨_, rfl, L, _, rfl, SqL.of (same_new nLd _ _ hL6), for_enum (K := K) (a := L) (xs := as.map V.ref) (fun i σ H7 => Same H6 H7 ∧ ∃ (ld : List Nat) (o6 o7 o15 : Option V), σ = [some (.ref p), some (.ref a), some (natV n), some (.ref D), some (.ref L), some (natV l.length), o6, o7, o8, o9, o10, some (.ref Lf), o12, some (.ref Lr), some (.ref Ld), o15] ∧ H7 Ld = some (.lst (ld.map natV)) ∧ ld.length = l.length ∧ ∀ k j h s : Nat, k < i → π[k]? = some j → l[k]? = some (h, s) → ld[j]? = some h)
          ⟨same_new nLd, _, _, _, _, rfl, hld0, List.length_replicate, fun k j h s hk => absurd hk (Nat.not_lt_zero _)⟩ (fun i σ H7 _ ⟨s7, _⟩ => SqL.of (s7 _ _ hL6)) ?_ ?_⟩
        · rintro i y T σ H7 hyi ⟨s7, ld, o6, o7, o15, rfl, hLd, ldl, hld⟩ nT
          rw [List.getElem?_map] at hyi
          obtain ⟨ta, eta, rfl⟩ := Option.map_eq_some_iff.mp hyi
          obtain ⟨x, ex, hta⟩ := paired_get hP6 eta
          obtain ⟨h, s, ehs, rfl⟩ := get_pegI ex
          have il : i < l.length := (List.getElem?_eq_some_iff.mp ehs).1
          obtain ⟨j, ej⟩ := perm_get hp il
          have jl := perm_lt hp ej
          have qT := same_new (o := .tup [.int (i : Nat), .ref ta]) nT
          have s8 := s7.trans qT
          refine ⟨T, _, rfl, SqT.of upd_same, rfl, _, _, rfl, _, _, rfl, ⟨ta, _, rfl, SqT.of (s8 _ _ hta), rfl, _, _, rfl, _, _, rfl, rfl, rfl, ?_⟩⟩
          refine ⟨_, rfl, _, rfl, _, rfl, _, rfl, Lr, _, _, _, rfl, rfl, SqL.of (s8 _ _ hLr6), natV_at rfl ej, Ld, _, _, j, rfl, rfl, qT _ _ hLd, ixN_nat rfl (by rw [List.length_map]; omega), ?_⟩
          refine ⟨same_upd s8 nLd, ld.set j h, _, _, _, rfl, (by rw [List.map_set]; exact upd_same), (by rw [List.length_set]; exact ldl), fun k' j' h' s' hk e1 e2 => ?_⟩
          by_cases z : k' = i
          · subst z
            rw [ej] at e1
            cases e1
            rw [ehs] at e2
            cases e2
            exact List.getElem?_set_self (by omega)
          · rw [List.getElem?_set_ne (fun y => z (perm_inj hp e1 (by rw [← y]; exact ej)))]
            exact hld k' j' h' s' (by omega) e1 e2
        · rintro σ H7 ⟨s7, ld, o6, o7, o15, rfl, hLd, ldl, hld⟩
          rw [List.length_map, asl] at hld
          have hN7 : Paired (HandAt H7) ns wn := Paired.mapP hN6 fun _ _ z => z.tups (sTups s7)
          refine ⟨_, rfl, Lf, _, rfl, .inl ⟨SqL.of (s7 _ _ hLf6), fun wt nwt => ?_⟩⟩
          have qw := same_new (o := .tup (ns.map V.ref)) nwt
          have s08 := (s06.same s7).same qw
          have hpw : π.Perm (List.range wn.length) := by rw [wnl]; exact hp
          refine ⟨_, rfl, wt, Lr, wn, π, rfl, ⟨ns, upd_same, Paired.mapP hN7 fun _ _ z => z.tups (sTups qw)⟩, qw _ _ (s7 _ _ hLr6), hpw, by omega, ?_, ?_, fun rw' w' H8 nrw s8 hW8 ren => ?_⟩
          · intro h' p' x e
            obtain ⟨g, q, rfl, back⟩ := gdn.tie h' p' x e
            exact ⟨g, q, rfl, pegOf_lt back⟩
          · intro h' hd' e
            have := gdn.pegs h' hd' e
            omega
          · have hLd8 := s8 _ _ (qw _ _ hLd)
            refine ⟨_, rfl, Ld, _, rfl, .inl ⟨SqL.of hLd8, fun lt nlt => ⟨(by show 2 ≤ sizeLine; decide), fun r nr => ?_⟩⟩⟩
            have ql := same_new (o := .tup (ld.map natV)) nlt
            have qr := same_new (o := .tup [.ref rw', .ref lt]) nr
            have s9 := ((s08.same s8).same ql).same qr
            exact k r rw' lt F l wn w' π ld _ (((s08.same s8).same ql).free nr) (s08.free nrw) s9 upd_same (hW8.tups (sTups (ql.trans qr))) (qr _ _ upd_same) tk cv cof hp ren ldl (fun k' j' h' s' e1 e2 => hld k' j' h' s' (List.getElem?_eq_some_iff.mp e2).1 e1 e2)
end
end NH
set_option Elab.async false
set_option linter.all false
set_option maxRecDepth 100000
set_option maxHeartbeats 4000000
namespace NH
open PySem L2
abbrev sWeb : Stmt := top 20
abbrev nWeb : List Str := ["_law_box_here", "_law_most", "_law_room", "_law_sheets", "_law_lesser"]
section
variable {P : Program} {w : World} {K : PySem.W.Frag} {mg : Str → Option Value} {base : Heap}
theorem scWeb : FnScope nWeb ["_law_box_here", "_law_most", "_law_room"] (defScope sWeb) := ⟨rfl, rfl, rfl, by decide +kernel, rfl, by decide +kernel, by decide +kernel⟩
structure Dr4 (P : Program) (w : World) (K : PySem.W.Frag) (mg : Str → Option Value) (base : Heap) : Prop extends Dr P w K mg base where
  plain : ∃ (f : Addr) (fd : FuncData), FnOk P w K mg base CX0 3 f fd ["_law_box_here", "_law_most", "_law_room"] spPlain ∧ Binds K fd ["_law_box_here", "_law_most", "_law_room"] [] ∧ mg "_law_plain_web" = some (.ref f) ∧ PySem.W.keepIn K (.ref f) = true
  cover : ∃ (f : Addr) (fd : FuncData), FnOk P w K mg base CX0 4 f fd ["_law_box_here", "_law_web_here", "_law_sheets"] spCover ∧ Binds K fd ["_law_box_here", "_law_web_here", "_law_sheets"] [] ∧ mg "_law_cover" = some (.ref f) ∧ PySem.W.keepIn K (.ref f) = true
theorem ok_web {f : Addr} {fd : FuncData} (F : Fun K "_law_web" "_law_web" sWeb f fd) (G : Dr4 P w K mg base) : FnOk P w K mg base CX0 5 f fd ["_law_box_here", "_law_most", "_law_room"] spPlain := by
  obtain ⟨fT, fdT, GT, bT, mT, kT⟩ := G.take
  obtain ⟨fP, fdP, GP, bP, mP, kP⟩ := G.plain
  obtain ⟨fC, fdC, GC, bC, mC, kC⟩ := G.cover
  refine F.ok scWeb (fun vs H Q E h => ?_) (fun cdv A outer s H vs Q E hr h => ?_)
  · obtain ⟨p, most, room, rfl, _⟩ := h
    rfl
  · obtain ⟨p, most, room, rfl, hb, o0, o1, r0, r1, k⟩ := h
    have nd := scWeb.nd
    have hr1 := hr.mono (show 1 ≤ 4 by decide)
    have hr3 := hr.mono (show 3 ≤ 4 by decide)
    refine ⟨_, pss_cons (ps_if (PW.pt (pw_or (pt_cmpR op_eq (pe_call GT hr1 (by rfl) mT kT bT .nil pass0 (pa_cons (pv 0) (pa_cons pe_int pa_nil))) pe_int (nomark _)) (pw_or1 (pt_cmpR op_lt (pv 1) pe_int (nomark _)))))
        (pss_one (ps_ret (pe_call GP hr3 (by rfl) mP kP bP .nil pass0 (pa_cons (pv 0) (pa_cons (pv 1) (pa_cons (pv 2) pa_nil)))))) pss_nil)
      (pss_cons (ps_set (i := 3) nd rfl (Or.inl rfl) (pe_op op_add pe_int (pe_call GT hr1 (by rfl) mT kT bT .nil pass0 (pa_cons (pv 0) (pa_cons (pe_callB (call_min2 (by rfl)) (by rfl) G.mmin (by decide +kernel) (pa_cons pe_int (pa_cons (pe_op op_sub (pv 1) pe_int) pa_nil))) pa_nil)))))
      (pss_cons (ps_set (i := 4) nd rfl (Or.inl rfl) (pe_call GP hr3 (by rfl) mP kP bP .nil pass0 (pa_cons (pv 0) (pa_cons (pe_callB (call_max2 (by rfl)) (by rfl) G.mmax (by decide +kernel) (pa_cons pe_int (pa_cons (pe_op op_fdiv (pv 1) (pv 3)) pa_nil))) (pa_cons (pv 2) pa_nil)))))
      (pss_one (ps_ret (pe_ix ix_tup (pe_call GC hr (by rfl) mC kC bC .nil pass0 (pa_cons (pv 0) (pa_cons (pv 4) (pa_cons (pv 3) pa_nil)))) pe_int (fun _ _ => rfl)))))), ?_⟩
    obtain ⟨xa, xb, hx, hx0, hx1⟩ := hb.ex
    have plain : ∀ H1, Step p H H1 → spPlain [.ref p, natV most, natV room] H1 Q E0 := fun H1 s1 =>
      ⟨p, most, room, rfl, s1.box, o0, o1, r0, r1, fun r wb H' nr s2 hW gd wl => k r wb H' (s1.free nr) (s1.trans s2) hW gd wl⟩
    refine ⟨_, rfl, p, xa, xb, _, rfl, hx, hx0, hx1, by decide, by decide, fun u a1 b1 u0 u1 c1 c2 => ?_⟩
    have s1 := (Step.refl hb).take (x := a1) c1 c2
    generalize (upd H p (.lst [.int a1, .int b1])) = H1 at s1 ⊢
    refine ⟨rfl, _, rfl, ?_⟩
    refine ite2 (fun _ => iteT ?_) (fun _ => ⟨_, rfl, _, _, rfl, rfl, _, rfl, ?_⟩)
    · exact ⟨_, rfl, _, rfl, _, rfl, plain H1 s1⟩
    · refine ite2 (fun _ => ⟨_, rfl, _, rfl, _, rfl, plain H1 s1⟩) (fun hm => ?_)
      have hm : ¬ (most : Int) < 2 := fun z => hm (decide_eq_true z)
      obtain ⟨xa, xb, hx, hx0, hx1⟩ := s1.box.ex
      have hmn : 0 < (if (most : Int) - 1 < 3 then (most : Int) - 1 else 3) ∧ (if (most : Int) - 1 < 3 then (most : Int) - 1 else 3) ≤ 3 ∧ (if (most : Int) - 1 < 3 then (most : Int) - 1 else 3) ≤ (most : Int) - 1 := by
        split <;> omega
      refine ⟨_, rfl, _, rfl, _, _, rfl, rfl, _, _, rfl, p, xa, xb, _, rfl, hx, hx0, hx1, hmn.1, by have := hmn.2.1; omega, fun u2 a2 b2 v0 v1 c3 c4 => ⟨_, _, rfl, rfl, ?_⟩⟩
      obtain ⟨u2, rfl⟩ := Int.eq_ofNat_of_zero_le v0
      generalize hq : (if (most : Int) - 1 < 3 then (most : Int) - 1 else 3) = mn at hmn v1
      have s2 := s1.take (x := a2) c3 c4
      generalize (upd H1 p (.lst [.int a2, .int b2])) = H2 at s2 ⊢
      have dl : (most : Int) / (2 + (u2 : Int)) = ((most / (2 + u2) : Nat) : Int) := by rw [Int.natCast_ediv, Int.natCast_add]; rfl
      have dpos : 1 ≤ most / (2 + u2) := (Nat.one_le_div_iff (by omega)).mpr (by omega)
      have dmul : most / (2 + u2) * (2 + u2) ≤ most := Nat.div_mul_le_self _ _
      have dle : most / (2 + u2) ≤ most := Nat.div_le_self _ _
      refine ⟨_, rfl, _, rfl, _, rfl, _, _, rfl, rfl, ⟨by omega, by omega⟩, _, _, rfl, _, rfl, p, most / (2 + u2), room, ?_, s2.box, dpos, by omega, r0, r1, fun r wb H3 nr s3 hW gd wl => ?_⟩
      · rw [dl]
        have : (if ((most / (2 + u2) : Nat) : Int) > 1 then ((most / (2 + u2) : Nat) : Int) else 1) = ((most / (2 + u2) : Nat) : Int) := by split <;> omega
        rw [this]
        rfl
      have s23 := s2.trans s3
      have bnd : wb.length * (2 + u2) ≤ most := Nat.le_trans (Nat.mul_le_mul_right _ wl) dmul
      refine ⟨_, rfl, _, rfl, _, rfl, p, r, wb, 2 + u2, room, rfl, s23.box, hW, gd, by omega, by omega, by omega, by omega, by omega, fun rr rw' rl F l w0 w' π ld H4 nrr nrw s4 hrr hW4 hrl tk cv cof hp ren ldl hld => ?_⟩
      have g0 := cof.good gd tk cv
      have hp' : π.Perm (List.range w0.length) := by rw [cof.len]; exact hp
      have ll := cv.len
      have rl' := ren.len
      have cl' := cof.len
      exact ⟨rr, _, _, _, rfl, rfl, SqT.of hrr, rfl, k rw' w' H4 (s23.free nrw) (s23.trans s4) hW4 (ren.good hp' g0) (by omega)⟩
end
end NH
set_option Elab.async false
set_option linter.all false
set_option maxRecDepth 100000
set_option maxHeartbeats 2000000
set_option Elab.async false
set_option linter.all false
set_option maxRecDepth 100000
set_option maxHeartbeats 2000000
set_option Elab.async false
set_option linter.all false
set_option maxRecDepth 100000
set_option maxHeartbeats 2000000
set_option Elab.async false
set_option linter.all false
set_option maxRecDepth 100000
set_option maxHeartbeats 2000000
set_option Elab.async false
set_option linter.all false
set_option maxRecDepth 100000
set_option maxHeartbeats 2000000
set_option Elab.async false
set_option linter.all false
set_option maxRecDepth 100000
set_option maxHeartbeats 4000000
set_option Elab.async false
set_option linter.all false
set_option maxRecDepth 100000
set_option maxHeartbeats 4000000
namespace HT
open PySem PySem.Spec PyProof.Rows
section
variable {prog : Program} {w : World} {A : Around} {E : Value → Shared → Prop} {s : Shared}
theorem getItem_tuple_whole {t sl : Addr} {items : Array Value} {vl vu : Value} {lo hi : Option Int} {Q : Value → Shared → Prop} (ht : IsTup s.heap t items) (hs : s.heap.IsSliceOf sl vl vu .none) (pl : IsPart vl lo) (pu : IsPart vu hi)
    (hw : sIx items.size 0 lo = 0 ∧ sIx items.size items.size hi = items.size) (h : Q (.ref t) s) : wpAny (model prog w) A (getItem (.ref t) (.ref sl)) Q E s := by
  obtain ⟨os, hos, hcs, hds⟩ := id hs
  have hTs : s.TypeIs (.ref sl) "slice" := ⟨os, hos, hcs⟩
  unfold getItem
  try with_reducible refine wpAny_holding ?_
  first | refine wpAny_bind (wpAny_pure ?_) | skip
  refine wpAny_bind (wpAny_sequenceKey ht.typeIs (by decide) ?_)
  refine wpAny_bind (wpAny_callSpecial?_slot (name := Str.ofString "__getitem__") ht.typeIs PyProof.Rows.slot_tuple_getitem
    (wpAny_call_entry PyProof.Rows.slot_tuple_getitem ht.typeIs entry_tuple_getitem ?_ (args_tuple_getitem _ _)))
  show wpAny _ _ (Builtin.Tuple.tupleItemsOf (.ref t) >>= _) _ _ s
  refine wpAny_bind (tupleItemsOf_ ht ?_)
  refine wpAny_bind (wpAny_typeOf hTs ?_)
  rw [if_pos (by decide)]
  refine wpAny_bind (sliceApplied_gen hs pl pu ?_)
  have hno : (((sIx items.size 0 lo : Nat) : Int) == 0 && (1 : Int) == 1 && (sIx items.size items.size hi - sIx items.size 0 lo) == items.size) = true := by
    rw [hw.1, hw.2, Nat.sub_zero]
    simp
  show wpAny _ _ (if (((sIx items.size 0 lo : Nat) : Int) == 0 && (1 : Int) == 1 && (sIx items.size items.size hi - sIx items.size 0 lo) == items.size) = true then _ else _) _ _ s
  rw [if_pos hno]
  unfold Builtin.Tuple.tupleIsExact
  have hty := ht.typeIs
  refine wpAny_bind (wpAny_bind (wpAny_typeOf hty (wpAny_pure ?_)))
  rw [if_pos (by rfl)]
  first
    | exact wpAny_bind (wpAny_rule (wpAny_bind (wpAny_pure (wpAny_pure ⟨_, rfl, wpAny_pure h⟩))))
    | exact wpAny_bind (wpAny_rule (wpAny_pure ⟨_, rfl, wpAny_pure h⟩))
    | exact wpAny_bind (wpAny_rule (wpAny_pure ⟨_, rfl, h⟩))
end
end HT
namespace L2
open PySem PySem.Spec PyProof.Rows
section
variable {X : Cx}
def rSlA : V → Option Int → Option Int → Hp → VK → Prop := fun x lo hi H Q => ∃ a xs, x = .ref a ∧ H a = some (.tup xs) ∧ ∀ p H', Same H H' → H' p = some (.tup (cutV xs lo hi)) → Q (.ref p) H'
theorem cut_whole {xs : List V} {lo hi : Option Int} (h : HT.sIx xs.length 0 lo = 0 ∧ HT.sIx xs.length xs.length hi = xs.length) : cutV xs lo hi = xs := by
  unfold cutV
  rw [h.1, h.2, List.drop_zero, Nat.sub_zero, List.take_length]
theorem newT {H : Hp} {p : Addr} {o : HO} (n : H p = none) : Same H (upd H p o) := fun b u e => by rw [upd_ne (ne_of_none e n)]; exact e
theorem sl_any : SlR X rSlA := by
  intro pins s σ H x v vl vu lo hi sl Q I rx hs pl pu h
  obtain ⟨a, xs, rfl, hx, q⟩ := h
  by_cases hw : HT.sIx xs.length 0 lo = 0 ∧ HT.sIx xs.length xs.length hi = xs.length
  · cases rx
    obtain ⟨its, r, ht, hz⟩ := I.tuple (SqT.of (K := X.K) hx)
    have hlen : its.toArray.size = xs.length := by rw [List.size_toArray]; exact r.length.symm
    refine ⟨"tuple", _, PyProof.Rows.slot_tuple_getitem.lookup, ht.typeIs, ?_⟩
    exact HT.getItem_tuple_whole ht hs pl pu (by rw [hlen]; exact hw) ⟨.ref a, H, I, rfl, q a H (fun _ _ e => e) (by rw [cut_whole hw]; exact hx)⟩
  · exact sl_tup pins s σ H _ v vl vu lo hi sl Q I rx hs pl pu ⟨a, xs, rfl, SqT.of hx, hw, fun p np => q p _ (newT np) upd_same⟩
def rCatA : R2 := fun x y H Q => ∃ a b xs ys, x = .ref a ∧ y = .ref b ∧ H a = some (.tup xs) ∧ H b = some (.tup ys) ∧ xs.length + ys.length ≤ sizeLine ∧ ∀ p H', Same H H' → H' p = some (.tup (xs ++ ys)) → Q (.ref p) H'
theorem op_catA : OpR X (binaryOp .Add) rCatA := by
  intro pins s σ H x y v u Q I rx ry h
  obtain ⟨a, b, xs, ys, rfl, rfl, ha, hb, hz, q⟩ := h
  by_cases hx : xs = []
  · cases rx
    cases ry
    obtain ⟨its, r1, p1, _⟩ := I.tuple (SqT.of (K := X.K) ha)
    obtain ⟨its2, r2, p2, _⟩ := I.tuple (SqT.of (K := X.K) hb)
    obtain ⟨⟨cls, dd, data, sl⟩, ho, hc, n, hd⟩ := id p1
    obtain ⟨⟨cls2, dd2, data2, sl2⟩, ho2, hc2, n2, hd2⟩ := id p2
    simp only at hc hd hc2 hd2
    subst hc hd hc2 hd2
    have he : its = [] := r1.nil_iff.mpr hx
    exact concat_meets ⟨_, ho, rfl⟩ ⟨_, ho2, rfl⟩ noFill_tuple_add seq_tuple_add PySem.F.slot_tuple_add PySem.F.entry_tuple_add (PySem.F.args_tuple_add_2 _ _)
      (tuple_addW0 a b its.toArray its2.toArray n n2 dd dd2 sl sl2 (by simp [he])) ⟨ho, ho2, ⟨.ref b, H, I, rfl, q b H (fun _ _ e => e) (by rw [hx, List.nil_append]; exact hb)⟩⟩
  · refine op_catT pins s σ H _ _ v u Q I rx ry ⟨a, b, xs, ys, rfl, rfl, SqT.of ha, SqT.of hb, hx, hz, fun e => ?_, fun _ p np => q p _ (newT np) upd_same⟩
    exact q a H (fun _ _ e => e) (by rw [e, List.append_nil]; exact ha)
end
end L2
set_option Elab.async false
set_option linter.all false
set_option maxRecDepth 100000
set_option maxHeartbeats 4000000
namespace NH
open PySem L2
theorem paired_drop {α β : Type} {R : α → β → Prop} : ∀ (n : Nat) {xs : List α} {ys : List β}, Paired R xs ys → Paired R (xs.drop n) (ys.drop n)
  | 0, _, _, h => h
  | n + 1, _, _, .nil => .nil
  | n + 1, _, _, .cons _ t => paired_drop n t
theorem paired_take {α β : Type} {R : α → β → Prop} : ∀ (n : Nat) {xs : List α} {ys : List β}, Paired R xs ys → Paired R (xs.take n) (ys.take n)
  | 0, _, _, h => by rw [List.take_zero, List.take_zero]; exact .nil
  | n + 1, _, _, .nil => .nil
  | n + 1, _, _, .cons r t => .cons r (paired_take n t)
theorem paired_app {α β : Type} {R : α → β → Prop} : ∀ {xs xs' : List α} {ys ys' : List β}, Paired R xs ys → Paired R xs' ys' → Paired R (xs ++ xs') (ys ++ ys')
  | _, _, _, _, .nil, h => h
  | _, _, _, _, .cons r t, h => .cons r (paired_app t h)
end NH
set_option Elab.async false
set_option linter.all false
set_option maxRecDepth 100000
set_option maxHeartbeats 1000000
namespace L2
open PySem PySem.Spec PyProof.Rows
theorem tIter_but {h h' : Heap} {b it t : Addr} {i : Nat} (x : h.IsTupleIter it t i) (k : Heap.SameBut b h h') (n : it ≠ b) : h'.IsTupleIter it t i := tupIter_at x fun o e => k.extBut _ _ n e
theorem tup_but {h h' : Heap} {b t : Addr} {its : Array Value} (x : h.IsTuple t its) (k : Heap.SameBut b h h') (n : t ≠ b) : h'.IsTuple t its := tup_at x fun o e => k.extBut _ _ n e
section
variable {prog : Program} {w : World} {A : Around} {E : Value → Shared → Prop} {s : Shared} {z TI TO i1 i2 l1 l2 : Addr} {k1 k2 : Nat} {xs ys : Array Value} {a b : Value}
theorem zt_head {Q : Fin → Shared → Prop} (D : ZipApart z TI TO i1 i2 l1 l2) (hz : IsZip s.heap z TI TO .none) (hTI : IsPair s.heap TI (.ref i1) (.ref i2)) (hTO : IsPair s.heap TO a b)
    (h1 : s.heap.IsTupleIter i1 l1 k1) (h2 : s.heap.IsTupleIter i2 l2 k2) (t1 : s.heap.IsTuple l1 xs) (t2 : s.heap.IsTuple l2 ys) (hh : A.handled = none)
    (hE : (xs[k1]? = none ∨ ys[k2]? = none) → ∀ h' e, (∀ c o, c ≠ z → c ≠ TO → c ≠ i1 → c ≠ i2 → s.heap.get? c = some o → h'.get? c = some o) → (∃ o, h'.get? e = some o ∧ o.cls = .type "StopIteration") → E (.ref e) { s with heap := h' })
    (hQ : ∀ x y, xs[k1]? = some x → ys[k2]? = some y → ∀ h', IsZip h' z TI TO (rawInt s.heap.objs.size) → IsPair h' TO x y → h'.IsTupleIter i1 l1 (k1 + 1) → h'.IsTupleIter i2 l2 (k2 + 1) → IsPair h' s.heap.objs.size x y → h'.objs.size = s.heap.objs.size + 1 →
      (∀ c o, c ≠ z → c ≠ TO → c ≠ i1 → c ≠ i2 → s.heap.get? c = some o → h'.get? c = some o) → Q (.done (.ret (.ref s.heap.objs.size))) { s with heap := h' }) :
    wpAny (model prog w) A (Builtin.«zip.__next__» ⟨[.ref z], []⟩) Q E s := by
  obtain ⟨hp, gs, dr, tk, os⟩ := s
  replace hz : hp.get? z = some _ := hz
  wp_walk using wpAny_seqItems hTI rfl, wpAny_setField_rec hz (by simp)
  intro g1 z1 d1
  replace z1 : IsZip g1 z TI TO .ellipsis := z1
  have j1 := tIter_but h1 d1 D.i1z
  have u1 := tup_but t1 d1 D.l1z
  show wpAny _ _ (forIn [(Value.ref i1, 0), (Value.ref i2, 1)] _ _ >>= _) _ _ _
  rw [List.forIn_cons]
  cases ex : xs[k1]? with
  | none =>
    wp_walk using wpAny_onRaise, nextOf_tup_end (s := ⟨g1, gs, dr, tk, os⟩) hh j1 u1 ex
    rintro g2 e d2 ⟨oe, ho, hc⟩
    have z2 : IsZip g2 z TI TO .ellipsis := d2 _ _ D.i1z.symm z1
    have ne : e ≠ z := fun q => by rw [q, z2] at ho; cases ho; simp at hc
    exact wpAny_setField_rec z2 (by simp) fun g3 _ d3 => hE (.inl ex) g3 e (fun c o n1 _ n3 _ q => d3.extBut _ _ n1 (d2 _ _ n3 (d1.extBut _ _ n1 q))) ⟨oe, d3.extBut _ _ ne ho, hc⟩
  | some x =>
    wp_walk using wpAny_onRaise, nextOf_tup_item (s := ⟨g1, gs, dr, tk, os⟩) j1 u1 ex
    intro g2 m1 d2
    have p2 : IsPair g2 TO a b := d2.extBut _ _ D.TOi1 (d1.extBut _ _ D.TOz hTO)
    wp_walk using wpAny_seqItems (s := ⟨g2, gs, dr, tk, os⟩) p2 rfl, wpAny_updateSeq_pair (s := ⟨g2, gs, dr, tk, os⟩) p2
    intro g3 p3 d3
    replace p3 : IsPair g3 TO x b := p3
    have j2 := tIter_but (tIter_but (tIter_but h2 d1 D.i2z) d2 D.i12.symm) d3 D.TOi2.symm
    have u2 := tup_but (tup_but (tup_but t2 d1 D.l2z) d2 D.l2i1) d3 D.l2TO
    refine wpAny_bind (wpAny_letGo (wpAny_pure ?_))
    show wpAny _ _ (forIn [(Value.ref i2, 1)] _ _) _ _ _
    rw [List.forIn_cons]
    cases ey : ys[k2]? with
    | none =>
      wp_walk using wpAny_onRaise, nextOf_tup_end (s := ⟨g3, gs, dr, tk, os⟩) hh j2 u2 ey
      rintro g4 e d4 ⟨oe, ho, hc⟩
      have z4 : IsZip g4 z TI TO .ellipsis := d4 _ _ D.i2z.symm (d3.extBut _ _ D.TOz.symm (d2.extBut _ _ D.i1z.symm z1))
      have ne : e ≠ z := fun q => by rw [q, z4] at ho; cases ho; simp at hc
      exact wpAny_setField_rec z4 (by simp) fun g5 _ d5 => hE (.inr ey) g5 e (fun c o n1 n2 n3 n4 q => d5.extBut _ _ n1 (d4 _ _ n4 (d3.extBut _ _ n2 (d2.extBut _ _ n3 (d1.extBut _ _ n1 q))))) ⟨oe, d5.extBut _ _ ne ho, hc⟩
    | some y =>
      wp_walk using wpAny_onRaise, nextOf_tup_item (s := ⟨g3, gs, dr, tk, os⟩) j2 u2 ey
      intro g4 m2 d4
      have p4 : IsPair g4 TO x b := d4.extBut _ _ D.TOi2 p3
      wp_walk using wpAny_seqItems (s := ⟨g4, gs, dr, tk, os⟩) p4 rfl, wpAny_updateSeq_pair (s := ⟨g4, gs, dr, tk, os⟩) p4
      intro g5 p5 d5
      replace p5 : IsPair g5 TO x y := p5
      have sz : g5.objs.size = hp.objs.size := by rw [d5.1, d4.1, d3.1, d2.1, d1.1]
      have z5 : IsZip g5 z TI TO .ellipsis := d5.extBut _ _ D.TOz.symm (d4.extBut _ _ D.i2z.symm (d3.extBut _ _ D.TOz.symm (d2.extBut _ _ D.i1z.symm z1)))
      have kp : ∀ c o, c ≠ z → c ≠ TO → c ≠ i1 → c ≠ i2 → hp.get? c = some o → g5.get? c = some o := fun c o n1 n2 n3 n4 q =>
        d5.extBut _ _ n2 (d4.extBut _ _ n4 (d3.extBut _ _ n2 (d2.extBut _ _ n3 (d1.extBut _ _ n1 q))))
      have m1' := tIter_but (tIter_but (tIter_but m1 d3 D.TOi1.symm) d4 D.i12) d5 D.TOi1.symm
      have m2' := tIter_but m2 d5 D.TOi2.symm
      have lt := Heap.lt_size z5
      have z6 : IsZip (g5.push { cls := .type "tuple", data := .seq #[x, y] }) z TI TO .ellipsis := Heap.get?_push_of_some _ z5
      refine wpAny_bind (wpAny_letGo (wpAny_pure ?_))
      show wpAny _ _ (forIn [] _ _) _ _ _
      rw [List.forIn_nil]
      wp_walk using wpAny_seqItems (s := ⟨g5, gs, dr, tk, os⟩) p5 rfl, wpAny_setField_rec (s := ⟨_, gs, dr, tk, os⟩) z6 (by simp)
      intro g7 z7 d7
      replace z7 : IsZip g7 z TI TO (rawInt g5.objs.size) := z7
      wp_walk using wpAny_setField_rec (s := ⟨g7, gs, dr, tk, os⟩) z7 (by simp)
      intro g8 z8 d8
      replace z8 : IsZip g8 z TI TO (rawInt g5.objs.size) := z8
      have up : ∀ c o, c ≠ z → g5.get? c = some o → g8.get? c = some o := fun c o n1 q => d8.extBut _ _ n1 (d7.extBut _ _ n1 (Heap.get?_push_of_some _ q))
      have p8 : IsPair g8 g5.objs.size x y := d8.extBut _ _ (Nat.ne_of_gt lt) (d7.extBut _ _ (Nat.ne_of_gt lt) (Heap.get?_push_size _ rfl))
      have s8 : g8.objs.size = g5.objs.size + 1 := by rw [d8.1, d7.1, Heap.size_push]
      rw [sz] at z8 p8 s8
      wp_walk
      show Q (.done (.ret (.ref g5.objs.size))) _
      rw [sz]
      exact hQ x y ex ey g8 z8 (up _ _ D.TOz p5) (tupIter_at m1' fun o q => up _ o D.i1z q) (tupIter_at m2' fun o q => up _ o D.i2z q) p8 s8 fun c o n1 n2 n3 n4 q => up c o n1 (kp c o n1 n2 n3 n4 q)
theorem next_zt {Q : Option Value → Shared → Prop} (hh : A.handled = none) (D : ZipApart z TI TO i1 i2 l1 l2) (hz : IsZip s.heap z TI TO .none) (hTI : IsPair s.heap TI (.ref i1) (.ref i2)) (hTO : IsPair s.heap TO a b)
    (h1 : s.heap.IsTupleIter i1 l1 k1) (h2 : s.heap.IsTupleIter i2 l2 k2) (t1 : s.heap.IsTuple l1 xs) (t2 : s.heap.IsTuple l2 ys)
    (hE : (xs[k1]? = none ∨ ys[k2]? = none) → ∀ h', (∀ c o, c ≠ z → c ≠ TO → c ≠ i1 → c ≠ i2 → s.heap.get? c = some o → h'.get? c = some o) → Q none { s with heap := h' })
    (hQ : ∀ x y, xs[k1]? = some x → ys[k2]? = some y → ∀ h', IsZip h' z TI TO (rawInt s.heap.objs.size) → IsPair h' TO x y → h'.IsTupleIter i1 l1 (k1 + 1) → h'.IsTupleIter i2 l2 (k2 + 1) → IsPair h' s.heap.objs.size x y → h'.objs.size = s.heap.objs.size + 1 →
      (∀ c o, c ≠ z → c ≠ TO → c ≠ i1 → c ≠ i2 → s.heap.get? c = some o → h'.get? c = some o) → Q (some (.ref s.heap.objs.size)) { s with heap := h' }) :
    wpAny (model prog w) A (pyNext (.ref z)) Q E s := by
  have hT : s.TypeIs (.ref z) "zip" := ⟨_, hz, rfl⟩
  unfold pyNext
  refine wpAny_bind (wpAny_attempt (wpAny_callSpecial?_slot (name := Str.ofString "__next__") hT F.slot_zip_next (wpAny_call_entry F.slot_zip_next hT F.entry_zip_next (zt_head D hz hTI hTO h1 h2 t1 t2 hh (fun en h' e kp ⟨o, ho, hc⟩ => ?_) fun x y ex ey h' c1 c2 c3 c4 c5 c6 c7 => ?_) (F.args_zip_next_1 _))))
  · exact wpAny_bind (wpAny_isInstance (T := "StopIteration") (b := true) ⟨o, ho, hc⟩ isSubtype_stop (wpAny_pure (hE en h' kp)))
  · exact ⟨_, rfl, wpAny_pure (hQ x y ex ey h' c1 c2 c3 c4 c5 c6 c7)⟩
end
abbrev zt1 (h : Heap) (l1 : Addr) : Heap := h.push { cls := .type "tuple_iterator", data := .fields #[.ref l1, .int 0 0] }
abbrev zt2 (h : Heap) (l1 l2 : Addr) : Heap := (zt1 h l1).push { cls := .type "tuple_iterator", data := .fields #[.ref l2, .int 0 0] }
abbrev zt3 (h : Heap) (l1 l2 : Addr) : Heap := (zt2 h l1 l2).push { cls := .type "tuple", data := .seq #[.ref h.objs.size, .ref (zt1 h l1).objs.size] }
abbrev zt4 (h : Heap) (l1 l2 : Addr) : Heap := (zt3 h l1 l2).push { cls := .type "tuple", data := .seq #[.none, .none] }
abbrev zt5 (h : Heap) (l1 l2 : Addr) : Heap := (zt4 h l1 l2).push { cls := .type "zip", data := .fields #[.none, .bool false, .bool false, .ref (zt2 h l1 l2).objs.size, .ref (zt3 h l1 l2).objs.size] }
theorem meets_zt (l1 l2 : Addr) (xs ys : Array Value) : Meets (Builtin.«zip.__new__» ⟨[.type "zip", .ref l1, .ref l2], []⟩) (fun _ R s => s.heap.IsTuple l1 xs ∧ s.heap.IsTuple l2 ys ∧ R (.ok (.ret (.ref (zt4 s.heap l1 l2).objs.size))) { s with heap := zt5 s.heap l1 l2 }) :=
  .of_wp fun prog w A R s h => by
    obtain ⟨hp, g, d, tk, os⟩ := s
    obtain ⟨t1, t2, h⟩ := h
    have hsub := sub_zip
    have e1 : Heap.IsTuple (Shared.heap ⟨hp, g, d, tk, os⟩) l1 xs := t1
    have e2 : Heap.IsTuple (Shared.heap ⟨hp.push { cls := .type "tuple_iterator", data := .fields #[.ref l1, .int 0 0] }, g, d, tk, os⟩) l2 ys := tup_at t2 fun o q => Heap.get?_push_of_some _ q
    wp_walk using wpAny_pyIter_tuple e1, wpAny_pyIter_tuple e2
    exact ⟨_, rfl, h⟩
section
variable {prog : Program} {w : World} {A : Around} {E : Value → Shared → Prop} {s : Shared}
theorem call_zt {l1 l2 : Addr} {xs ys : Array Value} {Q : Value → Shared → Prop} (t1 : s.heap.IsTuple l1 xs) (t2 : s.heap.IsTuple l2 ys)
    (h : ∀ h', IsZip h' (s.heap.objs.size + 4) (s.heap.objs.size + 2) (s.heap.objs.size + 3) .none → IsPair h' (s.heap.objs.size + 2) (.ref s.heap.objs.size) (.ref (s.heap.objs.size + 1)) → IsPair h' (s.heap.objs.size + 3) .none .none →
      h'.IsTupleIter s.heap.objs.size l1 0 → h'.IsTupleIter (s.heap.objs.size + 1) l2 0 → (∀ c o, s.heap.get? c = some o → h'.get? c = some o) → Q (.ref (s.heap.objs.size + 4)) { s with heap := h' }) :
    wpAny (model prog w) A (call (.type "zip") [.ref l1, .ref l2]) Q E s := by
  refine callType_new F.called_zip (by decide) (F.typeCall_zip_2 _ _) (F.newCall_zip_2 _ _) (fun obj => F.args_object_init_3 obj _ _) F.entry_zip_new (meets_zt l1 l2 xs ys) ⟨t1, t2, ?_⟩
  have z1 : (zt1 s.heap l1).objs.size = s.heap.objs.size + 1 := Heap.size_push ..
  have z2 : (zt2 s.heap l1 l2).objs.size = s.heap.objs.size + 2 := by rw [Heap.size_push, z1]
  have z3 : (zt3 s.heap l1 l2).objs.size = s.heap.objs.size + 3 := by rw [Heap.size_push, z2]
  have z4 : (zt4 s.heap l1 l2).objs.size = s.heap.objs.size + 4 := by rw [Heap.size_push, z3]
  have p : ∀ {h : Heap} {o o' : Obj} {c : Addr}, h.get? c = some o' → (h.push o).get? c = some o' := fun q => Heap.get?_push_of_some _ q
  have g5 : (zt5 s.heap l1 l2).get? (zt4 s.heap l1 l2).objs.size = some _ := Heap.get?_push_size _ rfl
  have g4 : (zt5 s.heap l1 l2).get? (zt3 s.heap l1 l2).objs.size = some _ := p (Heap.get?_push_size _ rfl)
  have g3 : (zt5 s.heap l1 l2).get? (zt2 s.heap l1 l2).objs.size = some _ := p (p (Heap.get?_push_size _ rfl))
  have g2 : (zt5 s.heap l1 l2).get? (zt1 s.heap l1).objs.size = some _ := p (p (p (Heap.get?_push_size _ rfl)))
  have g1 : (zt5 s.heap l1 l2).get? s.heap.objs.size = some _ := p (p (p (p (Heap.get?_push_size _ rfl))))
  show _ ∧ _
  rw [z2, z3, z4] at g5
  rw [z1, z2] at g3
  rw [z3] at g4
  rw [z1] at g2
  rw [z4]
  exact ⟨⟨_, g5, rfl⟩, h _ g5 g3 g4 ⟨_, g1, rfl, rfl⟩ ⟨_, g2, rfl, rfl⟩ fun c o x => p (p (p (p (p x))))⟩
end
def ItzT (K : PySem.W.Frag) (a b : Addr) : It :=
  ⟨fun i H => ∃ (xs ys : List V) (x y : V), SqT K H a xs ∧ SqT K H b ys ∧ xs[i]? = some x ∧ ys[i]? = some y,
    fun i H v H' => ∃ T x y, v = .ref T ∧ H T = none ∧ H' = upd H T (.tup [x, y]) ∧ (∀ xs, SqT K H a xs → xs[i]? = some x) ∧ ∀ ys, SqT K H b ys → ys[i]? = some y,
    fun i H => ∃ xs ys : List V, SqT K H a xs ∧ SqT K H b ys ∧ (xs.length ≤ i ∨ ys.length ≤ i)⟩
theorem turn_zt {P : Program} {w : World} {K : PySem.W.Frag} {elts : List Expr} {kk : Nat} {tpos : Pos} {a b z TI TO i1 i2 : Addr} (D : ZipApart z TI TO i1 i2 a b) :
    Turn P w K (.Tuple elts kk tpos) (ItzT K a b) [z, TI, TO, i1, i2] z (fun i h => IsZip h z TI TO .none ∧ IsPair h TI (.ref i1) (.ref i2) ∧ (∃ x y, IsPair h TO x y) ∧ h.IsTupleIter i1 a i ∧ h.IsTupleIter i2 b i) where
  mem := by simp
  obj := fun i h st c hc => by
    obtain ⟨hz, hTI, ⟨x, y, hTO⟩, ⟨o1, e1, _, d1⟩, ⟨o2, e2, _, d2⟩⟩ := st
    have five : c = z ∨ c = TI ∨ c = TO ∨ c = i1 ∨ c = i2 := by simpa using hc
    rcases five with rfl | rfl | rfl | rfl | rfl
    · exact ⟨_, hz, fun v q => nomatch q⟩
    · exact ⟨_, hTI, fun v q => nomatch q⟩
    · exact ⟨_, hTO, fun v q => nomatch q⟩
    · exact ⟨o1, e1, fun v q => by rw [d1] at q; cases q⟩
    · exact ⟨o2, e2, fun v q => by rw [d2] at q; cases q⟩
  keep := fun i h h' ⟨hz, hTI, ⟨x, y, hTO⟩, h1, h2⟩ k =>
    ⟨k z (by simp) _ hz, k TI (by simp) _ hTI, ⟨x, y, k TO (by simp) _ hTO⟩, tupIter_at h1 fun o q => k i1 (by simp) o q, tupIter_at h2 fun o q => k i2 (by simp) o q⟩
  item := by
    intro X hP hw hK hc i pins s σ H E I hf st hg
    subst hP hw hK
    obtain ⟨hz, hTI, ⟨x0, y0, hTO⟩, h1, h2⟩ := st
    obtain ⟨xs, ys, x, y, hqx, hqy, hx, hy⟩ := hg
    obtain ⟨its, rv, p, _⟩ := I.tuple hqx
    obtain ⟨its2, rv2, p2, _⟩ := I.tuple hqy
    obtain ⟨u, hu, ru⟩ := rv.get hx
    obtain ⟨u2, hu2, ru2⟩ := rv2.get hy
    have hzl : z < s.heap.objs.size := Heap.lt_size hz
    have hu' : its.toArray[i]? = some u := by simpa using hu
    have hu2' : its2.toArray[i]? = some u2 := by simpa using hu2
    refine next_zt (I.ok.hd hc) D hz hTI hTO h1 h2 p p2 (fun en => ?_) fun v v2 ev ev2 h' z' TO' h1' h2' hT hsz hk => ?_
    · rcases en with q | q
      · rw [hu'] at q; cases q
      · rw [hu2'] at q; cases q
    rw [hu'] at ev
    rw [hu2'] at ev2
    cases ev
    cases ev2
    refine ⟨_, rfl, wpAny_letOwnedTupleGo_zip (s := { s with heap := h' }) z' fun h'' z'' sb => ?_⟩
    have hT2 : h''.get? s.heap.objs.size = some { cls := .type "tuple", data := .seq #[u, u2] } := (sb.2 _ (Nat.ne_of_gt hzl)).trans hT
    have new : ObjOk X.prog X.w (upd H s.heap.objs.size (.tup [x, y])) h'' s.heap.objs.size (.tup [x, y]) := ⟨by show 2 ≤ sizeLine; decide, [u, u2], .cons ru (.cons ru2 .nil), ⟨_, hT2, rfl, _, rfl⟩⟩
    have ot : ∀ c, c ∉ [z, TI, TO, i1, i2] → c ≠ z ∧ c ≠ TO ∧ c ≠ i1 ∧ c ≠ i2 := fun c hb => ⟨fun q => hb (by simp [q]), fun q => hb (by simp [q]), fun q => hb (by simp [q]), fun q => hb (by simp [q])⟩
    have I1 : Inv X pins σ (upd H s.heap.objs.size (.tup [x, y])) { s with heap := h'' } :=
      I.turnedNew (t' := s.toks) (ch := [z, TI, TO, i1, i2]) (fun c o hb q => (sb.2 c (ot c hb).1).trans (hk c o (ot c hb).1 (ot c hb).2.1 (ot c hb).2.2.1 (ot c hb).2.2.2 q)) hf (Nat.le_refl _) new
    refine ⟨.ref s.heap.objs.size, _, I1, rfl, ⟨_, x, y, rfl, I.hok.fresh (Nat.le_refl _), rfl, fun l hl => by rw [I.tuple_inj hl hqx]; exact hx, fun l hl => by rw [I.tuple_inj hl hqy]; exact hy⟩, ⟨z'', ?_, ⟨u, u2, ?_⟩, ?_, ?_⟩, fun c hcm => ?_⟩
    · exact (sb.2 _ D.TIz).trans (hk _ _ D.TIz D.TITO D.TIi1 D.TIi2 hTI)
    · exact (sb.2 _ D.TOz).trans TO'
    · exact tupIter_at h1' fun o q => (sb.2 _ D.i1z).trans q
    · exact tupIter_at h2' fun o q => (sb.2 _ D.i2z).trans q
    · have hlt : c < s.heap.objs.size := by
        have five : c = z ∨ c = TI ∨ c = TO ∨ c = i1 ∨ c = i2 := by simpa using hcm
        rcases five with rfl | rfl | rfl | rfl | rfl
        · exact hzl
        · exact Heap.lt_size hTI
        · exact Heap.lt_size hTO
        · obtain ⟨_, e1, _⟩ := h1; exact Heap.lt_size e1
        · obtain ⟨_, e2, _⟩ := h2; exact Heap.lt_size e2
      rw [upd_ne (Nat.ne_of_lt hlt)]
      exact (hf c hcm).1
  done := by
    intro X hP hw hK hc i pins s σ H E I hf st hg
    subst hP hw hK
    obtain ⟨hz, hTI, ⟨x0, y0, hTO⟩, h1, h2⟩ := st
    obtain ⟨xs, ys, hqx, hqy, hend⟩ := hg
    obtain ⟨its, rv, p, _⟩ := I.tuple hqx
    obtain ⟨its2, rv2, p2, _⟩ := I.tuple hqy
    have e1 := rv.length
    have e2 := rv2.length
    have ot : ∀ c, c ∉ [z, TI, TO, i1, i2] → c ≠ z ∧ c ≠ TO ∧ c ≠ i1 ∧ c ≠ i2 := fun c hb => ⟨fun q => hb (by simp [q]), fun q => hb (by simp [q]), fun q => hb (by simp [q]), fun q => hb (by simp [q])⟩
    refine next_zt (I.ok.hd hc) D hz hTI hTO h1 h2 p p2 (fun _ h' hk => ⟨rfl, I.turnedL (t' := s.toks) (ch := [z, TI, TO, i1, i2]) (fun c o hb q => hk c o (ot c hb).1 (ot c hb).2.1 (ot c hb).2.2.1 (ot c hb).2.2.2 q) hf⟩) fun v v2 ev ev2 => ?_
    have l1 := (Array.getElem?_eq_some_iff.mp ev).1
    have l2 := (Array.getElem?_eq_some_iff.mp ev2).1
    simp at l1 l2
    omega
  self := fun A i s Q E st h => wpAny_pyIter_zip st.1 h
def iZipA (K : PySem.W.Frag) (ta : TA) : TI := fun σ H R => ta σ H fun vs H1 => ∃ a b xs ys, vs = [.ref a, .ref b] ∧ ((SqL K H1 a xs ∧ SqL K H1 b ys ∧ R (Itz K a b) H1) ∨ (SqT K H1 a xs ∧ SqT K H1 b ys ∧ R (ItzT K a b) H1))
theorem five_ge {n c : Nat} (h : c ∈ [n + 4, n + 2, n + 3, n, n + 1]) : n ≤ c := by
  simp only [List.mem_cons, List.not_mem_nil, or_false] at h
  omega
theorem pi_zipA {X : Cx} {e e2 : Expr} {ta : TA} {p pos tpos : Pos} {elts : List Expr} {kk : Nat} (hg : Gl X "zip") (hm : X.mg "zip" = none) (ha : PA X [e, e2] ta)
    (hs : starEach [e, e2] X.env = (false, eval e X.env) :: starEach [e2] X.env := by rfl) (hpl : (backTo pos (starEach [e2] X.env)).any (·.1) = false := by rfl) :
    PI X (.Tuple elts kk tpos) (.Call (.Name "zip" p) [e, e2] [] pos) (iZipA X.K ta) := by
  intro pins s σ H R I h
  refine Call_ (ld_blt I hg hm boot_zip5 (PyProof.Rows.callWith_type1 (thn (ha pos pins s σ H _ I h) fun us s1 ⟨vs, H1, I1, r1, q1⟩ => ?_) hs hpl))
  obtain ⟨a, b, xs, ys, ex, q1⟩ := q1
  subst ex
  obtain ⟨ua, ub, rfl, ra, rb⟩ := vals2 r1
  cases (show ua = Value.ref a from ra)
  cases (show ub = Value.ref b from rb)
  rcases q1 with ⟨hqx, hqy, q⟩ | ⟨hqx, hqy, q⟩
  · obtain ⟨its, rv, p1, _⟩ := I1.list hqx
    obtain ⟨its2, rv2, p2, _⟩ := I1.list hqy
    refine call_zip_2 p1.isList p2.isList fun h' hz hTI hTO h1 h2 hsz hk => wpAny_pyIter_zip hz ?_
    have I2 : Inv X pins σ H1 { s1 with heap := h' } := I1.kept (t' := s1.toks) hk
    exact ⟨s1.heap.objs.size + 4, [s1.heap.objs.size + 4, s1.heap.objs.size + 2, s1.heap.objs.size + 3, s1.heap.objs.size, s1.heap.objs.size + 1], _, _, H1, rfl, I2, turn_zip (PySem.W.ktu_apart s1.heap.objs.size a b p1.lt p2.lt), ⟨hz, hTI, ⟨_, _, hTO⟩, h1, h2⟩, fun c hcm => I1.fpOk (five_ge hcm) (I1.hok.fresh (five_ge hcm)), q⟩
  · obtain ⟨its, rv, p1, _⟩ := I1.tuple hqx
    obtain ⟨its2, rv2, p2, _⟩ := I1.tuple hqy
    have la : a < s1.heap.objs.size := by obtain ⟨_, e, _⟩ := p1; exact Heap.lt_size e
    have lb : b < s1.heap.objs.size := by obtain ⟨_, e, _⟩ := p2; exact Heap.lt_size e
    refine call_zt p1 p2 fun h' hz hTI hTO h1 h2 hk => wpAny_pyIter_zip hz ?_
    have I2 : Inv X pins σ H1 { s1 with heap := h' } := I1.kept (t' := s1.toks) hk
    exact ⟨s1.heap.objs.size + 4, [s1.heap.objs.size + 4, s1.heap.objs.size + 2, s1.heap.objs.size + 3, s1.heap.objs.size, s1.heap.objs.size + 1], _, _, H1, rfl, I2, turn_zt (PySem.W.ktu_apart s1.heap.objs.size a b la lb), ⟨hz, hTI, ⟨_, _, hTO⟩, h1, h2⟩, fun c hcm => I1.fpOk (five_ge hcm) (I1.hok.fresh (five_ge hcm)), q⟩
theorem lc_zipT {K : PySem.W.Frag} {a b : Addr} {xs ys : List V} {g : TG} {tt : TT} {te : TE} {vs : List Nat} {σ : St} {H1 : Hp} {D : Addr} {Qd : Hp → Prop} (hxy : xs.length = ys.length) (Pv : Nat → Hp → Prop) (h0 : Pv 0 (upd H1 D (.lst [])))
    (hl : ∀ i H, i ≤ xs.length → Pv i H → SqT K H a xs ∧ SqT K H b ys)
    (hs : ∀ i x y T H, xs[i]? = some x → ys[i]? = some y → Pv i H → H T = none → g (.ref T) (wipe σ vs) (upd H T (.tup [x, y])) fun σ2 H2 => wipe σ2 vs = wipe σ vs ∧ tt σ2 H2 fun b H3 =>
      if b = true then te σ2 H3 fun y H4 => ∃ acc, H4 D = some (.lst acc) ∧ acc.length < sizeLine ∧ Pv (i + 1) (upd H4 D (.lst (acc ++ [y]))) else Pv (i + 1) H3) (hd : ∀ H, Pv xs.length H → Qd H) :
    ∃ W : Nat → Nat → Hp → Prop, (∃ m, W 0 m (upd H1 D (.lst []))) ∧ ∀ i m H, W i m H →
      ((ItzT K a b).stop i H ∧ Qd H) ∨ ((ItzT K a b).go i H ∧ ∃ Nx : Hp → Prop, (∀ H', Nx H' → ∃ m', m' < m ∧ W (i + 1) m' H') ∧ ∀ x H', (ItzT K a b).yld i H x H' → g x (wipe σ vs) H' fun σ2 H2 => wipe σ2 vs = wipe σ vs ∧ tt σ2 H2 fun b H3 =>
        if b = true then te σ2 H3 fun y H4 => ∃ acc, H4 D = some (.lst acc) ∧ acc.length < sizeLine ∧ Nx (upd H4 D (.lst (acc ++ [y]))) else Nx H3) := by
  refine ⟨fun i m H => m = xs.length - i ∧ i ≤ xs.length ∧ Pv i H, ⟨xs.length, by simp, Nat.zero_le _, h0⟩, ?_⟩
  rintro i m H ⟨rfl, hi, p⟩
  obtain ⟨q1, q2⟩ := hl i H hi p
  by_cases hlt : i < xs.length
  · have hlt2 : i < ys.length := by omega
    refine .inr ⟨⟨xs, ys, xs[i], ys[i], q1, q2, by simp [hlt], by simp [hlt2]⟩, Pv (i + 1), fun H' p' => ⟨xs.length - (i + 1), by omega, rfl, hlt, p'⟩, fun x H' y => ?_⟩
    obtain ⟨T, x', y', rfl, nT, rfl, hx, hy⟩ := y
    exact hs i x' y' T H (hx xs q1) (hy ys q2) p nT
  · have e : i = xs.length := by omega
    subst e
    exact .inl ⟨⟨xs, ys, q1, q2, .inl (Nat.le_refl _)⟩, hd H p⟩
end L2
set_option Elab.async false
set_option linter.all false
set_option maxRecDepth 100000
set_option maxHeartbeats 1000000
namespace L2
open PySem PySem.Spec PyProof.Rows
section
variable {X : Cx} {pins : List (Addr × Obj)} {σ : St} {H : Hp} {s : Shared} {A : Around} {E : Value → Shared → Prop}
theorem ty_kit {x : V} {u t : Value} (I : Inv X pins σ H s) (rx : RelV x u) (ty : TyOf X.K H x t) : ∃ Hx : Heap → Prop, PySem.W.KitX X.K u t Hx ∧ Hx s.heap ∧ u ≠ .builtin "__main__.__loader__#opaque" := by
  cases ty with
  | non => cases (show u = Value.none from rx); exact ⟨_, PySem.W.kitx_none, True.intro, fun z => nomatch z⟩
  | bl y => cases (show u = Value.bool y from rx); exact ⟨_, PySem.W.kitx_bool, True.intro, fun z => nomatch z⟩
  | int i => obtain ⟨t, q⟩ := (show ∃ t, u = Value.int i t from rx); cases q; exact ⟨_, PySem.W.kitx_int, True.intro, fun z => nomatch z⟩
  | str y => obtain ⟨t, q⟩ := (show ∃ t, u = Value.str y t from rx); cases q; exact ⟨_, PySem.W.kitx_str, True.intro, fun z => nomatch z⟩
  | flt y => obtain ⟨t, q⟩ := (show ∃ t, u = Value.float y t from rx); cases q; exact ⟨_, PySem.W.kitx_float, True.intro, fun z => nomatch z⟩
  | @lst a xs ea =>
    cases (show u = Value.ref a from rx)
    obtain ⟨_, _, n, _, h1⟩ := (show ObjOk X.prog X.w H s.heap a (.lst xs) from I.hok a _ ea)
    exact ⟨_, PySem.W.kitx_list, ⟨_, h1, rfl⟩, fun z => nomatch z⟩
  | @frz a ob xs ea =>
    cases (show u = Value.ref a from rx)
    obtain ⟨_, _, _, n, _, h1⟩ := (show ObjOk X.prog X.w H s.heap a (.frz ob (.lst xs)) from I.hok a _ ea)
    exact ⟨_, PySem.W.kitx_list, ⟨_, h1, rfl⟩, fun z => nomatch z⟩
  | @tup a xs ea =>
    cases (show u = Value.ref a from rx)
    obtain ⟨_, _, _, p⟩ := (show ObjOk X.prog X.w H s.heap a (.tup xs) from I.hok a _ ea)
    obtain ⟨o, h1, h2, _⟩ := p
    exact ⟨_, PySem.W.kitx_tuple, ⟨o, h1, h2⟩, fun z => nomatch z⟩
  | @dK a kvs ea =>
    cases (show u = Value.ref a from rx)
    obtain ⟨_, _, vs, _, p⟩ := (show ObjOk X.prog X.w H s.heap a (.dK kvs) from I.hok a _ ea)
    obtain ⟨o, es, ep, h1, h2, _⟩ := p
    exact ⟨_, PySem.W.kitx_dict, ⟨o, h1, h2.1⟩, fun z => nomatch z⟩
  | @dT a kvs ea =>
    cases (show u = Value.ref a from rx)
    obtain ⟨_, _, xs, _, o, es, ep, h1, h2, _⟩ := (show ObjOk X.prog X.w H s.heap a (.dT kvs) from I.hok a _ ea)
    exact ⟨_, PySem.W.kitx_dict, ⟨o, h1, h2.1⟩, fun z => nomatch z⟩
  | @ins a C dx fs ea cl ha hn htk hm =>
    cases (show u = Value.ref a from rx)
    obtain ⟨mA, O, _⟩ := ins_get I.hok ea
    obtain ⟨od, J, _⟩ := O.look
    exact ⟨_, PySem.W.kitx_own (cl.get _) cl.hd ha hn htk hm, J, fun z => nomatch z⟩
end
theorem vals_ty : ∀ {ns : List String} {us : List Value}, Vals (ns.map V.ty) us → us = ns.map Value.type
  | [], _, .nil => rfl
  | n :: ns, _, .cons r t => by
    rw [vals_ty t, show _ = Value.type n from r]
    rfl
section
variable {K : PySem.W.Frag}
theorem kTT : PySem.W.kitOne K (.type "tuple") (.type "tuple") = some true := rfl
theorem kTL : PySem.W.kitOne K (.type "tuple") (.type "list") = some false := by rfl
theorem kLT : PySem.W.kitOne K (.type "list") (.type "tuple") = some false := by rfl
theorem kLL : PySem.W.kitOne K (.type "list") (.type "list") = some true := rfl
theorem kaT : PySem.W.kitAny K (.type "tuple") (["list", "tuple"].map Value.type) = some true := by rfl
theorem kaL : PySem.W.kitAny K (.type "list") (["list", "tuple"].map Value.type) = some true := by rfl
theorem kaI : PySem.W.kitAny K (.type "int") (["list", "tuple"].map Value.type) = some false := by rfl
theorem kaB : PySem.W.kitAny K (.type "bool") (["list", "tuple"].map Value.type) = some false := by rfl
theorem kaN : PySem.W.kitAny K (.type "NoneType") (["list", "tuple"].map Value.type) = some false := by rfl
theorem kaS : PySem.W.kitAny K (.type "str") (["list", "tuple"].map Value.type) = some false := by rfl
theorem kIB : PySem.W.kitOne K (.type "int") (.type "bool") = some false := by rfl
theorem kBB : PySem.W.kitOne K (.type "bool") (.type "bool") = some true := by rfl
theorem kNB : PySem.W.kitOne K (.type "NoneType") (.type "bool") = some false := by rfl
theorem kSB : PySem.W.kitOne K (.type "str") (.type "bool") = some false := by rfl
end
end L2
set_option Elab.async false
set_option linter.all false
set_option maxRecDepth 100000
set_option maxHeartbeats 1000000
namespace L2
open PySem PySem.Spec PyProof.Rows
section
variable {X : Cx}
theorem call_tupleD : CallR X (.type "tuple") (fun xs H Q => ∃ p ys, xs = [.ref p] ∧ SqL X.K H p ys ∧ ∀ (l : Addr) (o : Obj), H l = none → o.cls = .type "tuple" → o.dict = none → Q (.ref l) (upd H l (.frz o (.tup ys)))) := by
  intro pins s σ H xs us Q I r h
  obtain ⟨p, ys, rfl, hq, q⟩ := h
  obtain ⟨u, rfl, rx⟩ := vals1 r
  cases rx
  obtain ⟨its, r', pl, hz⟩ := I.list hq
  have hlen := r'.length
  refine call_tuple_list pl.isList (fun h' kp => ?_) (by simp only [List.size_toArray] <;> omega)
  have I1 : Inv X pins σ H { s with heap := h' } := I.kept (t' := s.toks) kp
  have I2 : Inv X pins σ (upd H h'.objs.size (.frz { cls := .type "tuple", data := .seq its.toArray } (.tup ys))) { s with heap := h'.push { cls := .type "tuple", data := .seq its.toArray } } :=
    I1.laid (t' := s.toks) (fun b o e => Heap.get?_push_of_some _ e) (Nat.le_refl _) (show ObjOk X.prog X.w _ _ _ (.frz _ (.tup ys)) from ⟨Heap.get?_push_size _ rfl, hz, its, r', IsTup.new _ _⟩)
  exact ⟨.ref h'.objs.size, _, I2, rfl, q _ _ (I1.hok.fresh (Nat.le_refl _)) rfl rfl⟩
variable {o e : Expr} {es : List Expr} {to : TE} {t : TA} {name : Str} {apos cpos : Pos} {id : String} {r : V → List V → Hp → VK → Prop}
end
end L2
namespace NH
open PySem L2
def TupD (H : Hp) (r : Addr) (xs : List V) : Prop := ∃ o : Obj, H r = some (.frz o (.tup xs)) ∧ o.cls = .type "tuple" ∧ o.dict = none
theorem TupD.same {H H' : Hp} {r : Addr} {xs : List V} (s : Same H H') : TupD H r xs → TupD H' r xs
  | ⟨o, e, c⟩ => ⟨o, s _ _ e, c⟩
theorem TupD.sq {K : PySem.W.Frag} {H : Hp} {r : Addr} {xs : List V} : TupD H r xs → SqT K H r xs
  | ⟨o, e, _⟩ => .inl (.inr ⟨o, e⟩)
def SeqRow (H : Hp) (r : Addr) (xs : List V) : Prop := H r = some (.lst xs) ∨ H r = some (.tup xs) ∨ TupD H r xs
theorem SeqRow.same {H H' : Hp} {r : Addr} {xs : List V} (s : Same H H') : SeqRow H r xs → SeqRow H' r xs
  | .inl e => .inl (s _ _ e)
  | .inr (.inl e) => .inr (.inl (s _ _ e))
  | .inr (.inr e) => .inr (.inr (e.same s))
theorem ix_row {K : PySem.W.Frag} {H : Hp} {r : Addr} {xs : List V} {i : Int} {v : V} {Q : VK} (h : SeqRow H r xs) (e : atI xs i = some v) (q : Q v H) : rIx K (.ref r) (.int i) H Q := by
  rcases h with h | h | h
  · exact .inl ⟨r, xs, i, v, rfl, rfl, SqL.of h, e, q⟩
  · exact .inr (.inl ⟨r, xs, i, v, rfl, rfl, SqT.of h, e, q⟩)
  · exact .inr (.inl ⟨r, xs, i, v, rfl, rfl, h.sq, e, q⟩)
end NH
set_option Elab.async false
set_option linter.all false
set_option maxRecDepth 100000
set_option maxHeartbeats 1000000
namespace NH
open PySem L2
structure Pm (n : Nat) (π : List Nat) : Prop where
  len : π.length = n
  lt' : ∀ i j : Nat, π[i]? = some j → j < n
  inj' : ∀ i i' j : Nat, π[i]? = some j → π[i']? = some j → i = i'
  onto' : ∀ j, j < n → ∃ i, i < n ∧ π[i]? = some j
theorem Pm.lt {n i j : Nat} {π : List Nat} (h : Pm n π) (e : π[i]? = some j) : j < n := h.lt' i j e
theorem Pm.inj {n i i' j : Nat} {π : List Nat} (h : Pm n π) (e : π[i]? = some j) (e' : π[i']? = some j) : i = i' := h.inj' i i' j e e'
theorem Pm.onto {n j : Nat} {π : List Nat} (h : Pm n π) (hj : j < n) : ∃ i, i < n ∧ π[i]? = some j := h.onto' j hj
theorem Pm.get {n i : Nat} {π : List Nat} (h : Pm n π) (hi : i < n) : ∃ j, π[i]? = some j := ⟨π[i]'(by rw [h.len]; exact hi), List.getElem?_eq_getElem (by rw [h.len]; exact hi)⟩
def spRenR : Sp := fun vs H Q _ => ∃ (a r : Addr) (w : WebD) (π : List Nat), vs = [.ref a, .ref r] ∧ WebAt H a w ∧ SeqRow H r (π.map natV) ∧ Pm w.length π ∧ w.length ≤ 1000 ∧
  (∀ (h p : Nat) x, pegOf w h p = some x → ∃ g q : Nat, x = ((g : Int), (q : Int)) ∧ g < w.length) ∧ (∀ (h : Nat) hd, w[h]? = some hd → hd.2.length ≤ 1000) ∧
  ∀ (q : Addr) (w' : WebD) (H' : Hp), H q = none → Same H H' → WebAt H' q w' → RenOf w π w' → Q (.ref q) H'
theorem web_ext {w w' : WebD} (l : w'.length = w.length) (h : ∀ (i : Nat) hd, w[i]? = some hd → w'[i]? = some hd) : w' = w := by
  apply List.ext_getElem?
  intro i
  by_cases hi : i < w.length
  · have e1 : w[i]? = some w[i] := List.getElem?_eq_getElem hi
    rw [h i _ e1, e1]
  · rw [List.getElem?_eq_none (by omega), List.getElem?_eq_none (by omega)]
theorem RenOf.unique {w w1 w2 : WebD} {π : List Nat} (hp : Pm w.length π) (r1 : RenOf w π w1) (r2 : RenOf w π w2) : w2 = w1 := by
  refine web_ext (by rw [r1.len, r2.len]) fun j hd e => ?_
  have jl : j < w.length := by rw [← r1.len]; exact (List.getElem?_eq_some_iff.mp e).1
  obtain ⟨i, il, ei⟩ := hp.onto jl
  have e1 : w[i]? = some w[i] := List.getElem?_eq_getElem il
  rw [r2.at_ i j _ ei e1, ← r1.at_ i j _ ei e1]
  exact e
structure MapOf (f : Nat → HandD → HandD) (w w' : WebD) : Prop where
  len : w'.length = w.length
  at_ : ∀ (h : Nat) hd, w[h]? = some hd → w'[h]? = some (f h hd)
theorem MapOf.from_ {f : Nat → HandD → HandD} {w w' : WebD} (r : MapOf f w w') {j : Nat} {hd' : HandD} (e : w'[j]? = some hd') : ∃ hd, w[j]? = some hd ∧ hd' = f j hd := by
  have jl : j < w.length := by rw [← r.len]; exact (List.getElem?_eq_some_iff.mp e).1
  have e1 : w[j]? = some w[j] := List.getElem?_eq_getElem jl
  rw [r.at_ j _ e1] at e
  exact ⟨_, e1, (Option.some.inj e).symm⟩
def mkH (S : List Nat) (m : Int) (h : Nat) (hd : HandD) : HandD := (if h ∈ S then m else hd.1, hd.2)
end NH
set_option Elab.async false
set_option linter.all false
set_option maxRecDepth 100000
set_option maxHeartbeats 1000000
namespace NH
open PySem L2
def FnAt (P : Program) (w : World) (K : PySem.W.Frag) (mg : Str → Option Value) (base : Heap) (n : Nat) (x : Str) (ps : List Str) (sp : Sp) : Prop :=
  ∃ (f : Addr) (fd : FuncData), FnOk P w K mg base CX0 n f fd ps sp ∧ Binds K fd ps [] ∧ mg x = some (.ref f) ∧ PySem.W.keepIn K (.ref f) = true
structure Enc (α : Type) [DecidableEq α] (f : α → PyData) (n : Nat) : Prop where
  eq : ∀ a b, PyData.eqv (f a) (f b) = decide (a = b)
  can : ∀ a, PyData.canLay0 (f a) = true
  dep : ∀ a, PyData.depth (f a) ≤ n
theorem enc_int : Enc Int PyData.int 0 := ⟨fun a b => by simp only [PyData.eqv]; by_cases h : a = b <;> simp [h], fun a => by simp only [PyData.canLay0], fun a => by simp only [PyData.depth]; exact Nat.le_refl _⟩
section
variable {α β : Type} [DecidableEq α] [DecidableEq β] {f : α → PyData} {g : β → PyData} {n m : Nat}
theorem enc_all (e : Enc α f n) : (∀ l l' : List α, PyData.eqvAll (l.map f) (l'.map f) = decide (l = l')) ∧ (∀ l : List α, PyData.canLayAll0 (l.map f) = true) ∧ ∀ l : List α, PyData.depthAll (l.map f) ≤ n := by
  refine ⟨fun l => ?_, fun l => ?_, fun l => ?_⟩
  · induction l with
    | nil =>
      intro l'
      cases l' with
      | nil => simp [PyData.eqvAll]
      | cons _ _ => simp [PyData.eqvAll]
    | cons x r ih =>
      intro l'
      cases l' with
      | nil => simp [PyData.eqvAll]
      | cons y r' =>
        simp only [List.map_cons, PyData.eqvAll, ih r', e.eq]
        by_cases h : x = y
        · by_cases h' : r = r' <;> simp [h, h']
        · simp [h]
  · induction l with
    | nil => simp only [List.map_nil, PyData.canLayAll0]
    | cons x r ih => simp only [List.map_cons, PyData.canLayAll0, e.can, ih, Bool.and_true]
  · induction l with
    | nil => simp only [List.map_nil, PyData.depthAll]; exact Nat.zero_le _
    | cons x r ih =>
      simp only [List.map_cons, PyData.depthAll]
      exact Nat.max_le.mpr ⟨e.dep x, ih⟩
theorem enc_tup (e : Enc α f n) : Enc (List α) (fun l => .tuple (l.map f)) (n + 1) :=
  ⟨fun l l' => by simp only [PyData.eqv]; exact (enc_all e).1 l l', fun l => by simp only [PyData.canLay0]; exact (enc_all e).2.1 l, fun l => by simp only [PyData.depth]; exact Nat.succ_le_succ ((enc_all e).2.2 l)⟩
theorem enc_list (e : Enc α f n) : Enc (List α) (fun l => .list (l.map f)) (n + 1) :=
  ⟨fun l l' => by simp only [PyData.eqv]; exact (enc_all e).1 l l', fun l => by simp only [PyData.canLay0]; exact (enc_all e).2.1 l, fun l => by simp only [PyData.depth]; exact Nat.succ_le_succ ((enc_all e).2.2 l)⟩
theorem enc_pair (e : Enc α f n) (e' : Enc β g m) : Enc (α × β) (fun p => .tuple [f p.1, g p.2]) (max n m + 1) := by
  refine ⟨fun p q => ?_, fun p => ?_, fun p => ?_⟩
  · obtain ⟨a, b⟩ := p
    obtain ⟨c, d⟩ := q
    simp only [PyData.eqv, PyData.eqvAll, e.eq, e'.eq, Bool.and_true, Prod.mk.injEq]
    by_cases h : a = c
    · by_cases h' : b = d <;> simp [h, h']
    · simp [h]
  · simp only [PyData.canLay0, PyData.canLayAll0, e.can, e'.can, Bool.and_true]
  · simp only [PyData.depth, PyData.depthAll]
    have h1 := e.dep p.1
    have h2 := e'.dep p.2
    omega
end
theorem Enc.shaped {α : Type} [DecidableEq α] {f : α → PyData} {n : Nat} (e : Enc α f n) (h : n ≤ 64) (a : α) : SeqAt.shaped (f a) = true := by
  unfold SeqAt.shaped
  rw [e.can, Bool.true_and, decide_eq_true_iff]
  exact Nat.le_trans (e.dep a) h
theorem enc_pairD : Enc PegD pairD 1 := enc_pair enc_int enc_int
def pegsP (ps : List PegD) : PyData := .tuple (ps.map pairD)
def handP (hd : HandD) : PyData := .tuple [.int hd.1, pegsP hd.2]
def webP (w : WebD) : PyData := .tuple (w.map handP)
theorem enc_pegs : Enc (List PegD) pegsP 2 := enc_tup enc_pairD
theorem enc_hand : Enc HandD handP 3 := enc_pair enc_int enc_pegs
theorem enc_web : Enc WebD webP 4 := enc_tup enc_hand
theorem dp_pegs {K : PySem.W.Frag} {H : Hp} {a : Addr} {ps : List PegD} (h : PegsAt H a ps) : Dp K H (.ref a) (pegsP ps) := by
  obtain ⟨as, e, k⟩ := h
  exact .tup (SqT.of e) (dp_pairs k)
theorem dp_hand {K : PySem.W.Frag} {H : Hp} {a : Addr} {hd : HandD} (h : HandAt H a hd) : Dp K H (.ref a) (handP hd) := by
  obtain ⟨b, e, k⟩ := h
  exact .tup (SqT.of e) (.cons (.int _) (.cons (dp_pegs k) .nil))
theorem dp_hands {K : PySem.W.Frag} {H : Hp} : ∀ {as : List Addr} {w : WebD}, Paired (HandAt H) as w → DpAll K H (as.map V.ref) (w.map handP)
  | _, _, .nil => .nil
  | _, _, .cons r t => .cons (dp_hand r) (dp_hands t)
theorem dp_web {K : PySem.W.Frag} {H : Hp} {a : Addr} {w : WebD} (h : WebAt H a w) : Dp K H (.ref a) (webP w) := by
  obtain ⟨as, e, k⟩ := h
  exact .tup (SqT.of e) (dp_hands k)
theorem Good.bnd {room : Nat} {w : WebD} (g : Good room w) : ∀ (h p : Nat) x, pegOf w h p = some x → ∃ g q : Nat, x = ((g : Int), (q : Int)) ∧ g < w.length := fun h p x e => by
  obtain ⟨g', q, rfl, e'⟩ := g.tie h p x e
  exact ⟨g', q, rfl, pegOf_lt e'⟩
end NH
set_option Elab.async false
set_option linter.all false
set_option maxRecDepth 100000
set_option maxHeartbeats 1000000
set_option Elab.async false
set_option linter.all false
set_option maxRecDepth 100000
set_option maxHeartbeats 1000000
namespace NH
open PySem L2
theorem nat_pair {a b c d : Nat} (h : some (((a : Int), (b : Int)) : PegD) = some ((c : Int), (d : Int))) : a = c ∧ b = d := by
  have := Option.some.inj h
  have h1 := congrArg Prod.fst this
  have h2 := congrArg Prod.snd this
  simp only at h1 h2
  omega
end NH
set_option Elab.async false
set_option linter.all false
set_option maxRecDepth 100000
set_option maxHeartbeats 1000000
namespace NH
open PySem L2
def Bd (w : WebD) : Prop := ∀ (h p : Nat) x, pegOf w h p = some x → ∃ g q : Nat, x = ((g : Int), (q : Int)) ∧ g < w.length
structure Led (w' w : WebD) (ld : List Nat) : Prop where
  len : ld.length = w'.length
  hand : ∀ (h : Nat) hd', w'[h]? = some hd' → ∃ (g : Nat) (hd : HandD), ld[h]? = some g ∧ w[g]? = some hd ∧ hd.1 = hd'.1 ∧ hd.2.length = hd'.2.length
  peg : ∀ (h p h' q g : Nat), ld[h]? = some g → pegOf w' h p = some ((h' : Int), (q : Int)) → ∃ g' : Nat, ld[h']? = some g' ∧ pegOf w g p = some ((g' : Int), (q : Int))
theorem Led.lt {w' w : WebD} {ld : List Nat} (L : Led w' w ld) {h g : Nat} (e : ld[h]? = some g) : h < w'.length ∧ g < w.length := by
  have hl : h < w'.length := by rw [← L.len]; exact (List.getElem?_eq_some_iff.mp e).1
  obtain ⟨g', hd, e1, e2, _⟩ := L.hand h w'[h] (List.getElem?_eq_getElem hl)
  rw [e] at e1
  cases e1
  exact ⟨hl, (List.getElem?_eq_some_iff.mp e2).1⟩
theorem Led.id {w : WebD} (b : Bd w) : Led w w (List.range w.length) := by
  have at' : ∀ {h : Nat}, h < w.length → (List.range w.length)[h]? = some h := fun hl => by rw [List.getElem?_range hl]
  refine ⟨List.length_range, fun h hd e => ⟨h, hd, at' (List.getElem?_eq_some_iff.mp e).1, e, rfl, rfl⟩, fun h p h' q g e1 e2 => ?_⟩
  have hl : h < w.length := by have := (List.getElem?_eq_some_iff.mp e1).1; rwa [List.length_range] at this
  rw [at' hl] at e1
  cases e1
  obtain ⟨g', q', e3, gl⟩ := b h p _ e2
  have := nat_pair (congrArg some e3)
  exact ⟨h', at' (by rw [this.1]; exact gl), e2⟩
end NH
set_option Elab.async false
set_option linter.all false
set_option maxRecDepth 100000
set_option maxHeartbeats 1000000
set_option Elab.async false
set_option linter.all false
set_option maxRecDepth 100000
set_option maxHeartbeats 1000000
namespace L2
open PySem PySem.Spec PyProof.Rows
open AutoSeq1 (wpAny_loadPart')
section
variable {prog : Program} {w : World} {A : Around} {E : Value → Shared → Prop} {s : Shared}
theorem collect_range {Q : List Value → Shared → Prop} {r : Addr} {a b c : Int} {t u v : Tok} {n : Nat} (hh : A.handled = none) (hr : IsRange s.heap r a b c t u v) (hsmall : Builtin.Range.small a b c = true)
    (hn : Builtin.Range.rangeSize a b c = n) (hlen : n ≤ 2 ^ 24)
    (hQ : ∀ h' tk (acc : Array Value), (∀ b o, s.heap.get? b = some o → h'.get? b = some o) → ItemsOf (fun i v => ∃ t, v = .int (a + i * c) t) acc n → Q acc.toList { s with heap := h', toks := tk }) :
    wpAny (model prog w) A (collect (.ref r)) Q E s := by
  obtain ⟨hp, gs, dr, tk, os⟩ := s
  have at0 : (hp.push { cls := .type "list", data := .seq #[] }).get? hp.objs.size = some { cls := .type "list", data := .seq #[] 0 } := Heap.get?_push_size _ rfl
  have added : ∀ R : Result → Shared → Prop, (∀ h' tk' (acc : Array Value) (k : Nat), (∀ b o, b ≠ hp.objs.size → (hp.push { cls := .type "list", data := .seq #[] }).get? b = some o → h'.get? b = some o) → h'.get? hp.objs.size = some { cls := .type "list", data := .seq acc k } →
      ItemsOf (fun i v => ∃ t, v = .int (a + i * c) t) acc n → R (.ok (.ret (.ref hp.objs.size))) ⟨h', gs, dr, tk', os⟩) → codeAny (model prog w) A (.builtin "list.__iadd__" ⟨[.ref hp.objs.size, .ref r], []⟩) R ⟨hp.push { cls := .type "list", data := .seq #[] }, gs, dr, tk, os⟩ := by
    intro R k
    refine codeAny_builtin F.entry_list_iadd ?_
    rw [Around.under_plainId F.plain_list_iadd]
    exact wpAny_extend_range (s := ⟨hp.push { cls := .type "list", data := .seq #[] }, gs, dr, tk, os⟩) hh (Heap.get?_push_of_some _ hr) hsmall hn hlen hp.objs.size (.ref hp.objs.size) 0 at0 k
  unfold collect
  wp_walk
  refine codeAny_builtin F.entry_proto_collect ?_
  wp_walk
  refine ⟨plainId_quiet F.plain_list_iadd _, added _ fun h' tk' acc k old got its => ?_⟩
  wp_walk
  exact hQ h' tk' acc (fun b o e => old b o (Nat.ne_of_lt (Heap.lt_size e)) (Heap.get?_push_of_some _ e)) its
end
theorem meets_tuple_new_range (r : Addr) {a b c : Int} {t u v : Tok} {n : Nat} (hsmall : Builtin.Range.small a b c = true) (hn : Builtin.Range.rangeSize a b c = n) (hlen : n ≤ 2 ^ 24) :
    Meets (Builtin.«tuple.__new__» ⟨[.type "tuple", .ref r], []⟩)
      (fun A R s => A.handled = none ∧ IsRange s.heap r a b c t u v ∧ ∀ (h' : Heap) (tk : Nat) (acc : Array Value), (∀ b o', s.heap.get? b = some o' → h'.get? b = some o') → ItemsOf (fun i v => ∃ t, v = .int (a + i * c) t) acc n → R (.ok (.ret (.ref h'.objs.size))) { s with heap := h'.push { cls := .type "tuple", data := .seq acc }, toks := tk }) :=
  .of_wp fun prog w A R s h => by
    obtain ⟨hp, gs, dr, tk, os⟩ := s
    obtain ⟨hh, hr, h⟩ := h
    have self := sub_tuple_self
    have ini := init_tuple_lookup
    have here := madeHere_tuple
    have ty : Shared.TypeIs ⟨hp, gs, dr, tk, os⟩ (.ref r) "range" := ⟨_, hr, rfl⟩
    wp_walk using wpAny_loadPart' hr, wpAny_typeOf ty, collect_range (A := A.in1) hh hr hsmall hn hlen
    intro h' tk' acc old its
    have fits : acc.toList.toArray.size ≤ sizeLine := by rw [Array.toArray_toList, its.1, sizeLine_eq]; exact hlen
    have again := h h' tk' acc old its
    rw [← Array.toArray_toList (xs := acc)] at again
    wp_walk
    exact ⟨_, rfl, again⟩
section
variable {X : Cx}
theorem call_tuple_rng (hc : X.calm = true) : CallR X (.type "tuple") (fun xs H Q => ∃ r n, xs = [.ref r] ∧ H r = some (.rng 0 (n : Nat)) ∧ n ≤ 1000000 ∧ ∀ l, H l = none → Q (.ref l) (upd H l (.tup (natsV n)))) := by
  intro pins s σ H xs us Q I r h
  obtain ⟨ra, n, rfl, hr, hn, q⟩ := h
  obtain ⟨u, rfl, ru⟩ := vals1 r
  cases (show u = Value.ref ra from ru)
  obtain ⟨t, u', v, hx⟩ := (show ObjOk X.prog X.w H s.heap ra (.rng 0 n) from I.hok ra _ hr)
  have hsmall : Builtin.Range.small 0 (n : Int) 1 = true := small_one (by omega) (by omega) (by omega) (by omega)
  have hsize : Builtin.Range.rangeSize 0 (n : Int) 1 = n := by
    simp only [Builtin.Range.rangeSize, show (1 : Int) > 0 by decide, if_true]
    split <;> omega
  refine callType_new F.called_tuple (by decide) (F.typeCall_tuple_1 _) (F.newCall_tuple_1 _) (fun obj => F.args_object_init_2 obj _) F.entry_tuple_new
    (meets_tuple_new_range (t := t) (u := u') (v := v) ra hsmall hsize (by omega)) ⟨I.ok.hd hc, hx, fun h' tk acc hk hacc => ⟨⟨_, Heap.get?_push_size _ rfl, rfl⟩, ?_⟩⟩
  have I1 : Inv X pins σ H { s with heap := h', toks := tk } := I.kept (t' := tk) hk
  have rv : Vals (natsV n) acc.toList := vals_items n acc.toList (by simpa using hacc.1) fun j v hj => hacc.2 j v (by simpa using hj)
  have I2 : Inv X pins σ (upd H h'.objs.size (.tup (natsV n))) { s with heap := h'.push { cls := .type "tuple", data := .seq acc }, toks := tk } :=
    I1.laid (t' := tk) (fun b o e => Heap.get?_push_of_some _ e) (Nat.le_refl _) (show ObjOk X.prog X.w _ _ _ (.tup (natsV n)) from ⟨by unfold natsV; rw [List.length_map, List.length_range, sizeLine_eq]; omega, acc.toList, rv, by
      have e : acc.toList.toArray = acc := by simp
      rw [e]; exact IsTup.new _ _⟩)
  exact ⟨.ref h'.objs.size, _, I2, rfl, q _ (I1.hok.fresh (Nat.le_refl _))⟩
end
end L2
set_option Elab.async false
set_option linter.all false
set_option maxRecDepth 100000
set_option maxHeartbeats 1000000
set_option Elab.async false
set_option linter.all false
set_option maxRecDepth 100000
set_option maxHeartbeats 1000000
set_option Elab.async false
set_option linter.all false
set_option maxRecDepth 100000
set_option maxHeartbeats 1000000
set_option Elab.async false
set_option linter.all false
set_option maxRecDepth 100000
set_option maxHeartbeats 4000000
set_option Elab.async false
set_option linter.all false
set_option maxRecDepth 100000
set_option maxHeartbeats 1000000
set_option Elab.async false
set_option linter.all false
set_option maxRecDepth 100000
set_option maxHeartbeats 1000000
namespace L2
open PySem PySem.Spec PyProof.Rows
structure BltMod (h : Heap) (mg : Str → Option Value) : Prop where
  ex : ∃ bm ob, mg "__builtins__" = some (.ref bm) ∧ bm ≠ builtinsNs ∧ h.get? bm = some ob ∧ ob.cls = .type "module" ∧ ob.dict = some builtinsNs ∧ ob.data = .plain
def OnlyT (tabs : List (Addr × Addr)) (H : Hp) : Prop := ∀ b, H b = none ∨ (∃ o xs, H b = some (.frz o (.lst xs))) ∨ (b ∈ tabs.map (·.2) ∧ H b = some (.tbl #[]))
theorem law_callT {P : Program} {w : World} {K : PySem.W.Frag} {mg mb : Str → Option Value} {CX : CXT} {k : Nat} {fa a : Addr} {fd : FuncData} {x : Str} {sp : Sp} {s₁ : Shared} {vs : List Value} {ns : List Int} {tabs : List (Addr × Addr)}
    (KX : K.In s₁.heap) (hns : s₁.heap.Ns mainGlobals mg) (hb : s₁.heap.Ns builtinsNs mb) (hbb : ∀ x : Str, x ≠ "__name__" → mb x = bootBuiltins x) (hlim : s₁.heap.NoLimit) (hg : s₁.gens = #[])
    (ha : s₁.heap.get? a = some { cls := .type "list", data := .seq vs.toArray }) (hi : IntsAre vs ns) (hl : ns.length ≤ sizeLine) (hr : Room k callerA)
    (hT : PySem.W.TabsAt tabs s₁.heap) (hbm : BltMod s₁.heap mg) (hnt : PySem.W.noTabs K = true)
    (F : ∀ base : Heap, K.In base → base.Ns mainGlobals mg → (∀ q ∈ tabs, PySem.W.CodeHd base q.1 q.2) → BltMod base mg → FnOk P w K mg base CX k fa fd [x] sp) (hbind : ∀ (s : Shared) (u : Value), BindsTo s fd ⟨[u], []⟩ [(x, u)])
    (hsp : ∀ H : Hp, OnlyT tabs H → (∀ q ∈ tabs, H q.2 = some (.tbl #[])) → SqL K H a (ns.map V.int) → sp [.ref a] H (fun v _ => v = .bl true) fun _ _ _ => False)
    (hCX : ∀ H e s', CX [] H s₁ (fun _ _ _ => False) e s' → False) :
    codeAny (model P w) callerA (.call (.ref fa) ⟨[.ref a], []⟩) (fun r s' => r = .ok (.ret (.bool true)) ∧ OldK s₁.heap s'.heap ∧ s'.os = s₁.os ∧ AllBare s'.gens) s₁ := by
  have rv := vals_ints hi
  have lenV := hi.length
  have tabO : ∀ b ∈ tabs.map (·.2), s₁.heap.get? b = some (PySem.W.tabObj #[]) := fun b hb => by
    obtain ⟨q, hq, rfl⟩ := List.mem_map.mp hb
    exact (hT q hq).2
  have aT : a ∉ tabs.map (·.2) := fun z => by
    have := tabO a z
    rw [ha] at this
    cases this
  have core : ∀ H : Hp, OnlyT tabs H → (∀ q ∈ tabs, H q.2 = some (.tbl #[])) → SqL K H a (ns.map V.int) → HOk P w H s₁.heap → (∀ b, H b ≠ none → b = a ∨ b ∈ tabs.map (·.2)) → (H a ≠ none → K.lookup a = none) →
      codeAny (model P w) callerA (.call (.ref fa) ⟨[.ref a], []⟩) (fun r s' => r = .ok (.ret (.bool true)) ∧ OldK s₁.heap s'.heap ∧ s'.os = s₁.os ∧ AllBare s'.gens) s₁ := by
    intro H hO hTb hS hok hA hK
    have base_of : ∀ {b : Addr} {o : Obj}, s₁.heap.get? b = some o → H b = none → (hidT s₁.heap H).get? b = some o := fun e n => hidT_get e n
    have noA : ∀ {b : Addr} {o : Obj} {es : Array DictEntry} {ep : Nat}, s₁.heap.get? b = some o → o.data = .dict es ep → H b = none := fun {b o es ep} e d => by
      cases q : H b with
      | none => rfl
      | some u =>
        rcases hA b (by rw [q]; simp) with e' | e'
        · subst e'
          rw [ha] at e; cases e
          have d' : Data.seq vs.toArray _ = Data.dict es ep := d
          cases d'
        · rw [tabO b e'] at e; cases e
          have d' : Data.fields _ = Data.dict es ep := d
          cases d'
    have nsK : ∀ {b : Addr} {m : Str → Option Value}, s₁.heap.Ns b m → (hidT s₁.heap H).Ns b m := fun {b m} ⟨o, es, ep, e, d, r⟩ => ⟨o, es, ep, base_of e (noA e d), d, r⟩
    have hKb : K.In (hidT s₁.heap H) := fun b o e => base_of (KX b o e) (by
      cases q : H b with
      | none => rfl
      | some u =>
        rcases hA b (by rw [q]; simp) with e' | e'
        · subst e'
          rw [hK (by rw [q]; simp)] at e; cases e
        · have z := KX b o e
          rw [tabO b e'] at z
          cases z
          have h2 := List.all_eq_true.mp hnt (b, _) (PySem.W.mem_of_lookupK e)
          exact absurd (show false = true from h2) Bool.false_ne_true)
    have hCd : ∀ q ∈ tabs, PySem.W.CodeHd (hidT s₁.heap H) q.1 q.2 := fun q hq => by
      obtain ⟨o, vs', file, tf, flags, tg, inF, text, tt, e1, r1, r⟩ := (hT q hq).1
      refine ⟨o, vs', file, tf, flags, tg, inF, text, tt, base_of e1 ?_, r1, r⟩
      cases z : H q.1 with
      | none => rfl
      | some u =>
        rcases hA q.1 (by rw [z]; simp) with e' | e'
        · rw [e', ha] at e1
          cases e1
          injection (show (Value.type "list") = .type "code" from r1) with z1
          exact absurd z1 (by decide)
        · rw [tabO _ e'] at e1
          cases e1
          cases r1
    have hB : BltMod (hidT s₁.heap H) mg := by
      obtain ⟨bm, ob, b1, b2, b3, b4, b5, b6⟩ := hbm.ex
      refine ⟨bm, ob, b1, b2, base_of b3 ?_, b4, b5, b6⟩
      cases z : H bm with
      | none => rfl
      | some u =>
        rcases hA bm (by rw [z]; simp) with e' | e'
        · rw [e', ha] at b3
          cases b3
          cases b6
        · rw [tabO _ e'] at b3
          cases b3
          cases b6
    have hM : Mod K mg (hidT s₁.heap H) := ⟨hKb, nsK hns, ⟨mb, nsK hb, hbb⟩, let ⟨mc, h1, h2⟩ := hlim; ⟨mc, nsK h1, h2⟩⟩
    have e0 : Env0 P w K mg (hidT s₁.heap H) callerA [] s₁ H := ⟨rfl, hM, fun b o e => of_hidT e, Nat.le_of_eq (hidT_size _ _), trivial, fun b hb => absurd (show b ∈ ([] : List Addr) from hb) (by simp), hok, .of_eq hg⟩
    refine codeAny_mono ((F _ hKb (nsK hns) hCd hB).run callerA [] s₁ H ⟨[.ref a], []⟩ [.ref a] [.ref a] _ _ hr e0 (hbind s₁ (.ref a)) (.cons rfl .nil) (hsp H hO hTb hS)) fun r s' h => ?_
    cases r with
    | error e => exact (hCX H e s' h).elim
    | ok fl =>
      cases fl with
      | next => exact False.elim h
      | brk => exact False.elim h
      | cont => exact False.elim h
      | ret u =>
        obtain ⟨v, H', os, bare, un, hok', r', q⟩ := h
        have q' : v = .bl true := q
        subst q'
        obtain rfl : u = Value.bool true := r'
        have each : ∀ b o, s₁.heap.get? b = some o → s'.heap.get? b = some o ∨ (b ∈ tabs.map (·.2) ∧ o = PySem.W.tabObj #[] ∧ ∃ more, s'.heap.get? b = some (PySem.W.tabObj more)) := fun b o e => by
          cases q : H b with
          | none => exact .inl (un.keep b o e q (by intro z; exact absurd (show b ∈ ([] : List Addr) from z) (by simp)) (by simp))
          | some u =>
            rcases hO b with z | ⟨ob, xs, z⟩ | ⟨m, z⟩
            · rw [q] at z; cases z
            · have z2 := un.frzs b ob _ z
              obtain ⟨e1, _⟩ := hok b _ z
              obtain ⟨e2, _⟩ := hok' b _ z2
              rw [e] at e1; cases e1
              exact .inl e2
            · obtain ⟨more, z2⟩ := un.tbls b _ z
              have e2 : s'.heap.get? b = some _ := hok' b _ z2
              rw [tabO b m] at e
              cases e
              exact .inr ⟨m, rfl, _, e2⟩
        refine ⟨rfl, ⟨fun b o e => ?_, fun b o e => ?_⟩, os, bare⟩
        · rcases each b o e with h | ⟨m, rfl, more, h⟩
          · exact .inl h
          · obtain ⟨q, hq, rfl⟩ := List.mem_map.mp m
            refine .inr (.inl ⟨((hT q hq).1.tab (hT q hq).2).isCodeTable, rfl, #[], more, rfl, ?_⟩)
            rw [h]
            simp
        · rcases each b o e with h | ⟨m, rfl, more, h⟩
          · exact ⟨_, h⟩
          · exact ⟨_, h⟩
  have pick : ∀ b, (if b ∈ tabs.map (·.2) then some (HO.tbl #[]) else none) ≠ none → b ∈ tabs.map (·.2) := fun b z => by
    by_cases hb : b ∈ tabs.map (·.2)
    · exact hb
    · rw [if_neg hb] at z; exact absurd rfl z
  cases hk : K.lookup a with
  | some o =>
    have e := KX a o hk
    rw [ha] at e
    cases e
    refine core (fun b => if b ∈ tabs.map (·.2) then some (.tbl #[]) else none) (fun b => ?_) (fun q hq => if_pos (List.mem_map_of_mem hq)) (.inr ⟨_, vs.toArray, _, hk, rfl, rfl, rfl, by rw [List.size_toArray, lenV]; exact hl, by simpa using rv⟩) (fun b u z => ?_) (fun b z => .inr (pick b z)) fun z => absurd (if_neg aT) z
    · by_cases hb : b ∈ tabs.map (·.2)
      · exact .inr (.inr ⟨hb, if_pos hb⟩)
      · exact .inl (if_neg hb)
    · by_cases hb : b ∈ tabs.map (·.2)
      · have z' := (if_pos hb).symm.trans z
        cases z'
        exact tabO b hb
      · have z' := (if_neg hb).symm.trans z
        cases z'
  | none =>
    refine core (fun b => if b = a then some (.frz { cls := .type "list", data := .seq vs.toArray } (.lst (ns.map V.int))) else if b ∈ tabs.map (·.2) then some (.tbl #[]) else none) (fun b => ?_) (fun q hq => ?_) (.inl (.inr ⟨{ cls := .type "list", data := .seq vs.toArray }, if_pos rfl⟩)) (fun b u z => ?_) (fun b z => ?_) fun _ => hk
    · by_cases hb : b = a
      · exact .inr (.inl ⟨_, _, if_pos hb⟩)
      · by_cases hb2 : b ∈ tabs.map (·.2)
        · exact .inr (.inr ⟨hb2, (if_neg hb).trans (if_pos hb2)⟩)
        · exact .inl ((if_neg hb).trans (if_neg hb2))
    · have hm := List.mem_map_of_mem (f := (·.2)) hq
      show (if q.2 = a then _ else if q.2 ∈ tabs.map (·.2) then _ else _) = _
      rw [if_neg (show ¬ q.2 = a from fun z => aT (z ▸ hm)), if_pos hm]
    · by_cases hb : b = a
      · have z' := (if_pos hb).symm.trans z
        cases z'
        subst hb
        exact ⟨ha, by rw [List.length_map]; exact hl, vs, _, rv, ha⟩
      · have z1 := (if_neg hb).symm.trans z
        by_cases hb2 : b ∈ tabs.map (·.2)
        · have z' := (if_pos hb2).symm.trans z1
          cases z'
          exact tabO b hb2
        · have z' := (if_neg hb2).symm.trans z1
          cases z'
    · by_cases hb : b = a
      · exact .inl hb
      · by_cases hb2 : b ∈ tabs.map (·.2)
        · exact .inr hb2
        · exact absurd ((if_neg hb).trans (if_neg hb2)) z
theorem walk_ofT {l : PySem.W.OpenLaw} {n k : Nat} {q : Program} {loose : List Str} {XP : (Str → Option Value) → Heap → Prop} {YP : World → Heap → Prop} {d : DefRec} {K : Params → PySem.W.Frag} {CX : World → CXT} {sp : World → List (Addr × Addr) → Sp} {x : Str} {xs : List Str} {tabs : Params → List (Addr × Addr)}
    (hn : l.most = some n) (hn2 : n ≤ sizeLine) (hdf : d.params.defaults = []) (hr : Room k callerA)
    (hY : ∀ (w : World) (h : Heap), YP w h → (K w.params).In h)
    (hx : ∀ y ∈ xs, ∃ d', (recsOf q).find? (fun e => e.name == y) = some d')
    (ht : ∀ p, ∀ t ∈ tabs p, ∃ y ∈ xs, PySem.W.tabIn (K p) y = some t) (hnt : ∀ p, PySem.W.noTabs (K p) = true)
    (F : ∀ (w : World) (mg : Str → Option Value) (fa : Addr) (h : Heap), (K w.params).In h → h.Ns mainGlobals mg → mg d.name = some (.ref fa) →
      ∃ fd : FuncData, (∀ (s : Shared) (u : Value), BindsTo s fd ⟨[u], []⟩ [(x, u)]) ∧
        ∀ base : Heap, (K w.params).In base → base.Ns mainGlobals mg → (∀ t ∈ tabs w.params, PySem.W.CodeHd base t.1 t.2) → BltMod base mg → FnOk l.prog w (K w.params) mg base (CX w) k fa fd [x] (sp w (tabs w.params)))
    (hsp : ∀ (w : World) (H : Hp) (a : Addr) (ns : List Int), ns.length ≤ n → OnlyT (tabs w.params) H → (∀ t ∈ tabs w.params, H t.2 = some (.tbl #[])) → SqL (K w.params) H a (ns.map V.int) → sp w (tabs w.params) [.ref a] H (fun v _ => v = .bl true) fun _ _ _ => False)
    (hCX : ∀ (w : World) (H : Hp) (s : Shared) (e : Value) (s' : Shared), CX w [] H s (fun _ _ _ => False) e s' → False) :
    PySem.W.WalkO q loose XP YP l.row.toRowW d [] (fun f vs => PySem.call f vs) := by
  refine Att.attach_call hn hdf fun w s₀ s₁ mg mb fa o pm cd doc a vs ns G Y ho hd hcd hmg hobj hints hlen hg => ?_
  have KX := hY w _ Y
  obtain ⟨fd, hb, hF⟩ := F w mg fa _ KX G.T.g hmg
  have hT : PySem.W.TabsAt (tabs w.params) s₁.heap := fun t mt => by
    obtain ⟨y, my, ey⟩ := ht w.params t mt
    obtain ⟨d', ed⟩ := hx y my
    exact PySem.W.tab_of G.T KX ed ey
  exact law_callT KX G.T.g G.T.b G.T.builtins G.T.nolimit hg hobj hints (Nat.le_trans hlen hn2) hr hT ⟨G.T.bmain⟩ (hnt _) hF hb (fun H hO hTb hS => hsp w H a ns hlen hO hTb hS) fun H e s' => hCX w H s₁ e s'
end L2
set_option Elab.async false
set_option linter.all false
set_option maxRecDepth 100000
set_option maxHeartbeats 1000000
namespace L2
open PySem PySem.Spec PyProof.Rows
section
variable {prog : Program} {w : World} {A : Around}
abbrev genE (elt tg iter : Expr) (scope : Scope) (pos : Pos) : Expr := .GeneratorExp elt [⟨tg, iter, [], 0⟩] scope pos
abbrev genL (elt tg iter : Expr) (scope : Scope) (pos : Pos) (I : Addr) (cenv : Env) : Code := .compLoop (genE elt tg iter scope pos) 0 (.ref I) .none cenv
abbrev genS (elt tg iter : Expr) (scope : Scope) (pos : Pos) (I : Addr) (cenv : Env) : Code := .compStart (genE elt tg iter scope pos) 0 (.ref I) .none cenv
def GenTurn (prog : Program) (w : World) (A' : Around) (elt tg : Expr) (I : Addr) (cenv : Env) (J : Nat → Nat → Shared → Prop) (Yl : Nat → Nat → Value → Shared → Prop) (Dn : Shared → Prop) : Prop :=
  ∀ i m s, J i m s → wpAny (model prog w) A' (pyNext (.ref I)) (fun r s1 => match r with
    | none => Dn s1
    | some v => wpAny (model prog w) A' (letOwnedTupleGo tg (.ref I) v) (fun _ s2 => wpAny (model prog w) A' (assign tg cenv v) (fun _ s3 => wpAny (model prog w) A' (eval elt cenv) (fun y s4 => ∃ m', m' < m ∧ Yl i m' y s4) (fun _ _ => False) s3) (fun _ _ => False) s2) (fun _ _ => False) s1) (fun _ _ => False) s
abbrev genR (Dn : Shared → Prop) : GenEnd := fun _ _ r s₁ => r = .ok .next ∧ Dn s₁
abbrev genY (Yl : Nat → Nat → Value → Shared → Prop) (Rl : Value → Shared → Shared → Prop) : Protocol := fun n _ v s kap => ∃ i m, m ≤ n ∧ Yl i m v s ∧ ∀ s', Rl v s s' → kap (.send .none) s'
theorem yields {cenv : Env} (hco : cenv.scope.isCoroutine = false) : yieldOut cenv = yieldValue := by
  funext v
  simp [yieldOut, hco]
theorem seg_genI {elt tg iter : Expr} {scope : Scope} {pos : Pos} {I : Addr} {cenv : Env} {J : Nat → Nat → Shared → Prop} {Yl : Nat → Nat → Value → Shared → Prop} {Dn : Shared → Prop} {Rl : Value → Shared → Shared → Prop}
    (hco : cenv.scope.isCoroutine = false) (go : GenTurn prog w (A.over (genL elt tg iter scope pos I cenv) []) elt tg I cenv J Yl Dn) (re : ∀ i m y s s', Yl i m y s → Rl y s s' → J (i + 1) m s') :
    ∀ (m n i : Nat) (s₀ s : Shared), m ≤ n → J i m s → Seg (model prog w) A (genR Dn) (genY Yl Rl) n s₀ (genL elt tg iter scope pos I cenv) ((model prog w).den (genL elt tg iter scope pos I cenv)) [] s := by
  intro m
  induction m using Nat.strongRecOn with
  | _ m ih =>
    intro n i s₀ s hmn hj
    have turn := go i m s hj
    have den : (model prog w).den (genL elt tg iter scope pos I cenv) = (compTurn (genE elt tg iter scope pos) 0 (.ref I) .none cenv).onRaise (leaving cenv) := rfl
    rw [den, Sem.onRaise_eq_wrap, compTurn_gen]
    refine seg_bind_wrap (wpAny_standAt (seg_bind_wrap (wpAny_mono turn (fun r s1 h1 => ?_) fun _ _ e => e.elim)))
    cases r with
    | none => exact seg_end (.ok .next) ⟨rfl, h1⟩
    | some v =>
      refine seg_bind_wrap (wpAny_mono h1 (fun _ s2 h2 => seg_bind_wrap (wpAny_mono h2 (fun _ s3 h3 => seg_bind_wrap (wpAny_pure ?_)) fun _ _ e => e.elim)) fun _ _ e => e.elim)
      simp only [if_true, yields hco, Sem.bind_eq_wrap', Sem.wrap_wrap]
      refine seg_wrap (wpAny_mono h3 (fun y s4 ⟨m', lt, hy⟩ => ?_) fun _ _ e => e.elim)
      cases n with
      | zero => omega
      | succ n => exact seg_at (seg_yield rfl rfl rfl ⟨i, m', by omega, hy, fun s' hr => seg_again rfl (ih m' lt n (i + 1) s' s' (by omega) (re i m' y s4 s' hy hr))⟩)
theorem seg_startI {elt tg iter : Expr} {scope : Scope} {pos : Pos} {I : Addr} {cenv : Env} {J : Nat → Nat → Shared → Prop} {Yl : Nat → Nat → Value → Shared → Prop} {Dn : Shared → Prop} {Rl : Value → Shared → Shared → Prop}
    (hco : cenv.scope.isCoroutine = false) (go : GenTurn prog w (A.over (genL elt tg iter scope pos I cenv) []) elt tg I cenv J Yl Dn) (re : ∀ i m y s s', Yl i m y s → Rl y s s' → J (i + 1) m s')
    {m n : Nat} {s₀ s : Shared} (hmn : m ≤ n) (hj : J 0 m s) (self : ∀ (A' : Around) (Q : Value → Shared → Prop) (E : Value → Shared → Prop), Q (.ref I) s → wpAny (model prog w) A' (pyIter (.ref I)) Q E s) :
    Seg (model prog w) A (genR Dn) (genY Yl Rl) n s₀ (genS elt tg iter scope pos I cenv) ((model prog w).den (genS elt tg iter scope pos I cenv)) [] s := by
  have loop := seg_genI (A := A) hco go re m n 0 s₀ s hmn hj
  have den : (model prog w).den (genS elt tg iter scope pos I cenv) = (compStart (genE elt tg iter scope pos) 0 (.ref I) .none cenv).onRaise (leaving cenv) := rfl
  rw [den, Sem.onRaise_eq_wrap]
  unfold compStart
  refine seg_bind_wrap (m := ask) (wpAny_askSetting ?_)
  split
  · exact seg_again rfl loop
  · refine seg_bind_wrap (wpAny_rule ?_)
    exact seg_bind_wrap (m := standAt iter.pos) (wpAny_standAt (seg_bind_wrap (self _ _ _ (seg_again rfl loop))))
structure GenIAt (prog : Program) (w : World) (A : Around) (Yl : Nat → Nat → Value → Shared → Prop) (Dn : Shared → Prop) (Rl : Value → Shared → Shared → Prop) (a : Addr) (g n : Nat) (s : Shared) : Prop where
  gen : s.heap.IsGen a g
  st : ∃ gs, s.gens[g]? = some gs ∧ gs.Goes (model prog w) A.in1 (genR Dn) (genY Yl Rl) n (.send .none) (s.setGen g .running)
theorem next_genI {Yl : Nat → Nat → Value → Shared → Prop} {Dn : Shared → Prop} {Rl : Value → Shared → Shared → Prop} {a : Addr} {g n : Nat} {s : Shared} {Q : Option Value → Shared → Prop} {E : Value → Shared → Prop}
    (hh : A.handled = none) (hl : s.heap.NoLimit) (hroom : A.depth < recursionLimit) (h : GenIAt prog w A Yl Dn Rl a g n s)
    (hY : ∀ v s₁ gs' i m, gs'.bare = true → m ≤ n - 1 → Yl i m v s₁ → (∀ s', Rl v s₁ s' → ∃ n', n = n' + 1 ∧ gs'.Goes (model prog w) A.in1 (genR Dn) (genY Yl Rl) n' (.send .none) s') → Q (some v) (s₁.setGen g gs'))
    (hD : ∀ s₁ h', Dn s₁ → (∀ b o, s₁.heap.get? b = some o → h'.get? b = some o) → Q none { s₁.setGen g .finished with heap := h' }) :
    wpAny (model prog w) A (pyNext (.ref a)) Q E s := by
  obtain ⟨gs, hgs, hgo⟩ := h.st
  refine wpAny_pyNext_genexpQ (P := fun _ _ s₁ => Dn s₁) hh hl hroom h.gen hgs hgo (fun v s₁ gs' hb hv => ?_) (fun s₁ hp h' hk => hD s₁ h' hp hk)
  obtain ⟨i, m, hm, hy, hkap⟩ := hv
  refine hY v s₁ gs' i m hb hm hy fun s' hr => ?_
  have := hkap s' hr
  cases n with
  | zero => exact this.elim
  | succ n' => exact ⟨n', rfl, this⟩
end
end L2
set_option Elab.async false
set_option linter.all false
set_option maxRecDepth 100000
set_option maxHeartbeats 1000000
namespace L2
open PySem PySem.Spec PyProof.Rows
section
variable {prog : Program} {w : World} {A : Around} {Yl : Nat → Nat → Value → Shared → Prop} {Dn : Shared → Prop} {Rl : Value → Shared → Shared → Prop} {a : Addr} {g : Nat} {R : Result → Shared → Prop}
structure GenUse (st : Bool) (Yl : Nat → Nat → Value → Shared → Prop) (Rl : Value → Shared → Shared → Prop) (a : Addr) (g : Nat) : Prop where
  bool : ∀ i m v s, Yl i m v s → ∃ b, v = .bool b
  gen : ∀ i m v s, Yl i m v s → s.heap.IsGen a g ∧ s.heap.NoLimit ∧ g < s.gens.size
  back : ∀ i m s gs', Yl i m (.bool (!st)) s → gs'.bare = true → Rl (.bool (!st)) s ((s.setGen g gs').setGen g .running)
theorem setGen_at {s : Shared} {g : Nat} {x : GenState} (h : g < s.gens.size) : (s.setGen g x).gens[g]? = some x := by
  simp [Shared.setGen, h]
theorem GenUse.on {st : Bool} (U : GenUse st Yl Rl a g) {i m n : Nat} {s₁ : Shared} {gs' : GenState} (hy : Yl i m (.bool (!st)) s₁) (hb : gs'.bare = true)
    (k : ∀ s', Rl (.bool (!st)) s₁ s' → ∃ n', n = n' + 1 ∧ gs'.Goes (model prog w) A.in1 (genR Dn) (genY Yl Rl) n' (.send .none) s') : ∃ n', n = n' + 1 ∧ (s₁.setGen g gs').heap.NoLimit ∧ GenIAt prog w A Yl Dn Rl a g n' (s₁.setGen g gs') := by
  obtain ⟨h1, h2, h3⟩ := U.gen i m _ s₁ hy
  obtain ⟨n', e, h⟩ := k _ (U.back i m s₁ gs' hy hb)
  exact ⟨n', e, h2, h1, gs', setGen_at h3, h⟩
theorem any_loopI (U : GenUse true Yl Rl a g) (hh : A.handled = none) (hroom : A.in1.depth < recursionLimit)
    (hT : ∀ i m s gs', Yl i m (.bool true) s → gs'.bare = true → R (.ok (.ret (.bool true))) (s.setGen g gs'))
    (hF : ∀ s₁ h', Dn s₁ → (∀ b o, s₁.heap.get? b = some o → h'.get? b = some o) → R (.ok (.ret (.bool false))) { s₁.setGen g .finished with heap := h' })
    (n : Nat) : ∀ s : Shared, s.heap.NoLimit → GenIAt prog w A.in1 Yl Dn Rl a g n s → codeAny (model prog w) A (.builtin "any.loop" ⟨[.ref a], []⟩) R s := by
  induction n using Nat.strongRecOn with
  | _ n ih =>
    intro s hl h
    refine codeAny_builtin F.entry_any_loop (by
      rw [Around.under_plainId F.plain_any_loop]
      refine wpAny_bind (next_genI hh hl hroom h (fun v s₁ gs' i m hb hm hy k => ?_) fun s₁ h' hd hk => ?_)
      · obtain ⟨b, rfl⟩ := U.bool i m v s₁ hy
        cases b with
        | false =>
          wp_walk using wpAny_truthy_bool
          obtain ⟨n', rfl, hl', h'⟩ := U.on hy hb k
          exact ⟨plainId_quiet F.plain_any_loop _, ih n' (Nat.lt_succ_self _) _ hl' h'⟩
        | true =>
          wp_walk using wpAny_truthy_bool
          exact hT i m s₁ gs' hy hb
      · wp_walk
        exact hF s₁ h' hd hk)
theorem call_anyI {n : Nat} {s : Shared} {E : Value → Shared → Prop} {Q : Value → Shared → Prop} (U : GenUse true Yl Rl a g) (hh : A.handled = none) (hroom : A.in1.depth < recursionLimit) (hl : s.heap.NoLimit) (h : GenIAt prog w A.in1 Yl Dn Rl a g n s)
    (hT : ∀ i m s gs', Yl i m (.bool true) s → gs'.bare = true → Q (.bool true) (s.setGen g gs'))
    (hF : ∀ s₁ h', Dn s₁ → (∀ b o, s₁.heap.get? b = some o → h'.get? b = some o) → Q (.bool false) { s₁.setGen g .finished with heap := h' }) :
    wpAny (model prog w) A (call (.builtin "any") [.ref a]) Q E s := by
  have loop := any_loopI (A := A) (R := fun r s' => match r with | .ok (.ret v) => Q v s' | .ok _ => False | .error e => E e s') U hh hroom hT hF n s hl h
  exact call_function_tree F.kind_any F.plain_any F.entry_any (F.args_any1 _) (wpAny_bind (m := oneArg "any" _) (wpAny_pure (wpAny_bind (wpAny_pyIter_gen h.gen (wpAny_pure ⟨plainId_quiet F.plain_any_loop _, loop⟩)))))
theorem all_loopI (U : GenUse false Yl Rl a g) (hh : A.handled = none) (hroom : A.in1.depth < recursionLimit)
    (hT : ∀ i m s gs', Yl i m (.bool false) s → gs'.bare = true → R (.ok (.ret (.bool false))) (s.setGen g gs'))
    (hF : ∀ s₁ h', Dn s₁ → (∀ b o, s₁.heap.get? b = some o → h'.get? b = some o) → R (.ok (.ret (.bool true))) { s₁.setGen g .finished with heap := h' })
    (n : Nat) : ∀ s : Shared, s.heap.NoLimit → GenIAt prog w A.in1 Yl Dn Rl a g n s → codeAny (model prog w) A (.builtin "all.loop" ⟨[.ref a], []⟩) R s := by
  induction n using Nat.strongRecOn with
  | _ n ih =>
    intro s hl h
    refine codeAny_builtin F.entry_all_loop (by
      rw [Around.under_plainId F.plain_all_loop]
      refine wpAny_bind (next_genI hh hl hroom h (fun v s₁ gs' i m hb hm hy k => ?_) fun s₁ h' hd hk => ?_)
      · obtain ⟨b, rfl⟩ := U.bool i m v s₁ hy
        cases b with
        | true =>
          wp_walk using wpAny_truthy_bool
          obtain ⟨n', rfl, hl', h'⟩ := U.on hy hb k
          exact ⟨plainId_quiet F.plain_all_loop _, ih n' (Nat.lt_succ_self _) _ hl' h'⟩
        | false =>
          wp_walk using wpAny_truthy_bool
          exact hT i m s₁ gs' hy hb
      · wp_walk
        exact hF s₁ h' hd hk)
theorem call_allI {n : Nat} {s : Shared} {E : Value → Shared → Prop} {Q : Value → Shared → Prop} (U : GenUse false Yl Rl a g) (hh : A.handled = none) (hroom : A.in1.depth < recursionLimit) (hl : s.heap.NoLimit) (h : GenIAt prog w A.in1 Yl Dn Rl a g n s)
    (hT : ∀ i m s gs', Yl i m (.bool false) s → gs'.bare = true → Q (.bool false) (s.setGen g gs'))
    (hF : ∀ s₁ h', Dn s₁ → (∀ b o, s₁.heap.get? b = some o → h'.get? b = some o) → Q (.bool true) { s₁.setGen g .finished with heap := h' }) :
    wpAny (model prog w) A (call (.builtin "all") [.ref a]) Q E s := by
  have loop := all_loopI (A := A) (R := fun r s' => match r with | .ok (.ret v) => Q v s' | .ok _ => False | .error e => E e s') U hh hroom hT hF n s hl h
  exact call_function_tree F.kind_all F.plain_all F.entry_all (F.args_all1 _) (wpAny_bind (m := oneArg "all" _) (wpAny_pure (wpAny_bind (wpAny_pyIter_gen h.gen (wpAny_pure ⟨plainId_quiet F.plain_all_loop _, loop⟩)))))
end
end L2
set_option Elab.async false
set_option linter.all false
set_option maxRecDepth 100000
set_option maxHeartbeats 1000000
namespace L2
open PySem PySem.Spec PyProof.Rows
abbrev Cx.gblk (X : Cx) (A' : Around) (s : Shared) (H : Hp) (cenv : Env) (fp : List Addr) (pn : List (Addr × Obj)) : Cx := { X with A := A', s_0 := s, H_0 := H, env := cenv, outer := X.stack, stack := cenv :: X.stack, ex := fp, fn := fun _ => false, pn := pn, xe := fun _ _ => False }
abbrev genV (X : Cx) (scope : Scope) (C : Addr) (code : Value) : Env := genEnv scope (cloFrom X.env.cells scope.names []) C code builtinsNs X.env
section
variable {X : Cx} {pins : List (Addr × Obj)} {σ : St} {H : Hp} {s : Shared}
theorem gen_start {scope : Scope} {own : List (Str × Nat)} {fp : List Addr} {code : Value} {A' : Around} {s' : Shared} {m : Str → Option Value} {a : Addr} {oa : Obj} (I : Inv X pins σ H s) (ok : BlkOk X.N X.env.scope scope own) (hN : X.N.Nodup) (hfp : ∀ b ∈ fp, FpOk X pins H b ∧ b < s.heap.objs.size)
    (hcell : ∀ y ∈ scope.names, y.2 ≠ .cell) (hfr : A'.frames = some (genV X scope s.heap.objs.size code :: X.stack)) (hh : A'.handled = none)
    (kp : ∀ b o, s.heap.get? b = some o → s'.heap.get? b = some o) (hns : s'.heap.Ns s.heap.objs.size m) (hos : s'.os = s.os) (hbare : AllBare s'.gens) (ha : s'.heap.get? a = some oa) (haC : s.heap.objs.size < a) (hoa : ∀ v, oa.data ≠ .cell v) :
    Inv (X.gblk A' s H (genV X scope s.heap.objs.size code) fp [(a, oa)]) [] (wipe σ (own.map (·.2))) H s' := by
  have hfree : ∀ y ∈ scope.names, y.2 = .free → ∃ c, X.env.cells.lookup y.1 = some c := fun y hy e => by
    rcases ok.free y hy e with k | k
    · exact I.ok.has _ (.inl k)
    · exact I.ok.has _ (.inr k)
  generalize hcenv : genV X scope s.heap.objs.size code = cenv at hfr ⊢
  have hL : cenv.locals = s.heap.objs.size := by rw [← hcenv]; rfl
  have hF : cenv.frame = some s.heap.objs.size := by rw [← hcenv]; rfl
  have hcl : cenv.cells = cloFrom X.env.cells scope.names [] := by rw [← hcenv]; rfl
  have hsc : cenv.scope = scope := by rw [← hcenv]; rfl
  have cm : ∀ {y c}, (y, c) ∈ cloFrom X.env.cells scope.names [] → X.env.cells.lookup y = some c ∧ c < s.heap.objs.size := fun {y c} hm => by
    rcases cloFrom_mem hm with hm | ⟨h1, rfl⟩
    · cases hm
    · obtain ⟨c, hc⟩ := hfree _ h1 rfl
      rw [hc]
      obtain ⟨w, z⟩ := I.cell _ _ hc
      exact ⟨rfl, z.lt⟩
  have mem : ∀ {y c}, cenv.cells.lookup y = some c → X.env.cells.lookup y = some c ∧ c < s.heap.objs.size := fun {y c} e => by
    rw [hcl] at e
    exact cm (PySem.mem_of_lookup e)
  have look : ∀ {y}, scope.names.lookup y = some .free → ∃ c, cenv.cells.lookup y = some c ∧ X.env.cells.lookup y = some c := fun {y} hl => by
    have hy : (y, NameKind.free) ∈ scope.names := PySem.mem_of_lookup hl
    obtain ⟨c', e'⟩ := mem_lookup (cloFrom_has (cells := X.env.cells) (acc := []) hy)
    rw [← hcl] at e'
    exact ⟨c', e', (mem e').1⟩
  have kd : ∀ y, cenv.kindOf y = scope.names.lookup y := fun y => by
    show cenv.scope.names.lookup y = _
    rw [hsc]
  have okB : (X.gblk A' s H cenv fp [(a, oa)]).Ok := by
    refine ⟨I.ok.mod, by show cenv.scope.kind = _; rw [hsc]; exact ok.kind, by show cenv.globals = _; rw [← hcenv]; exact I.ok.glob, by show cenv.builtins = _; rw [← hcenv]; rfl, by show s.heap.objs.size ≤ cenv.locals; rw [hL]; exact Nat.le_refl _,
      fun y z c e1 e2 => I.ok.inj y z c (mem e1).1 (mem e2).1, fun y hy => ?_, fun y c z e => absurd z Bool.false_ne_true, fun _ => hh, hfr, .inr ⟨rfl, by show cenv.frame = some cenv.locals; rw [hF, hL]⟩, fun b hb => ⟨?_, fun y c e z => ?_⟩, I.bs, Nat.le_trans I.ok.bsz I.sz, fun b o e hb => ?_, fun b hb z => ?_, I.stack, I.stkFree⟩
    · show ∃ c, cenv.cells.lookup y = some c
      have hy : cenv.kindOf y = some .cell ∨ cenv.kindOf y = some .free := hy
      rw [kd] at hy
      rcases hy with hy | hy
      · exact absurd rfl (hcell _ (PySem.mem_of_lookup hy))
      · obtain ⟨c, h1, _⟩ := look hy
        exact ⟨c, h1⟩
    · show b ≠ cenv.locals
      rw [hL]; exact Nat.ne_of_lt (hfp b hb).2
    · exact (hfp b hb).1.2.2.2.2.1 y c (mem e).1 z
    · rcases (hfp b hb).1.2.2.2.1 with z | z
      · exact I.ok.noex b o e z
      · exact absurd (Nat.lt_of_lt_of_le (Heap.lt_size e) (Nat.le_trans I.ok.bsz z)) (Nat.lt_irrefl _)
    · rcases List.mem_cons.mp (I.stkSub b z) with z | z
      · exact (hfp b hb).1.2.1 z
      · exact (hfp b hb).1.2.2.1 z
  refine ⟨okB, hos, hbare, Un.kept kp, ⟨m, ?_, fun i y av e1 e2 e3 => ?_⟩, fun y c e => ?_, ?_, fun y c e => ?_, fun p hp => ?_, I.hok.kept kp, by rw [wipe_length]; exact I.len⟩
  · show Heap.Ns _ cenv.locals _
    rw [hL]
    exact hns
  · obtain ⟨e2, hne⟩ := wipe_some e2
    have hfr : scope.names.lookup y = some .free ∧ (cenv.kindOf y = some .cell ∨ cenv.kindOf y = some .free) := by
      have e3 : Vis cenv.scope y := e3
      rw [hsc] at e3
      have no : ∀ k, scope.names.lookup y = some k → ¬ (k = .local ∨ k = .cell) := fun k e hh => by
        rcases ok.own _ (PySem.mem_of_lookup e) hh with e' | e'
        · obtain ⟨p, hp, hpy⟩ := List.mem_map.mp e'
          have e3 := ok.ix p hp
          have : p.1 = y := hpy
          rw [this] at e3
          exact hne (List.mem_map.mpr ⟨p, hp, nodup_ix hN e3 e1⟩)
        · exact e' (List.mem_of_getElem? e1)
      rcases e3 with e3 | e3 | e3
      · exact absurd (.inl rfl) (no _ e3)
      · exact absurd (.inr rfl) (no _ e3)
      · exact ⟨e3, .inr (by rw [kd]; exact e3)⟩
    obtain ⟨m, hn, hl⟩ := I.loc
    have hvis : Vis X.env.scope y := (ok.free _ (PySem.mem_of_lookup hfr.1) rfl).elim (fun k => .inr (.inl k)) (fun k => .inr (.inr k))
    obtain ⟨w, r, q⟩ := hl i y av e1 e2 hvis
    refine ⟨w, r, .inr ⟨hfr.2, ?_⟩⟩
    obtain ⟨c, h1, h2⟩ := look hfr.1
    rcases q with ⟨k, _⟩ | ⟨_, c', e', z⟩
    · have k : X.env.scope.names.lookup y = some .local := k
      rcases ok.free _ (PySem.mem_of_lookup hfr.1) rfl with k' | k' <;> rw [show X.env.scope.names.lookup y = _ from k'] at k <;> cases k
    · rw [h2] at e'; cases e'
      exact ⟨c, h1, z.keeps kp⟩
  · obtain ⟨h1, _⟩ := mem e
    obtain ⟨w, z⟩ := I.cell y c h1
    exact ⟨w, z.keeps kp⟩
  · show H cenv.locals = none
    rw [hL]; exact I.hok.fresh (Nat.le_refl _)
  · exact I.freeC y c (mem e).1
  · have hp : p = (a, oa) := by
      have : p ∈ [(a, oa)] ++ ([] : List (Addr × Obj)) := hp
      simpa using this
    subst hp
    refine ⟨ha, I.hok.fresh (Nat.le_of_lt haC), by show a ≠ cenv.locals; rw [hL]; exact Nat.ne_of_gt haC, fun z => ?_, hoa⟩
    rcases List.mem_cons.mp (I.stkSub a z) with z | z
    · exact absurd (Nat.lt_trans I.lt haC) (by rw [z]; exact Nat.lt_irrefl _)
    · exact I.nofs (Nat.le_of_lt haC) z
end
end L2
set_option Elab.async false
set_option linter.all false
set_option maxRecDepth 100000
set_option maxHeartbeats 1000000
namespace L2
open PySem PySem.Spec PyProof.Rows
section
variable {M : Model} {A : Around} {E : Value → Shared → Prop} {s : Shared}
theorem genexprCodeT {env : Env} {c P : Addr} {ps : Array Value} {pos : Pos} {qualname : Str} {scope : Scope} {Q : Value → Shared → Prop} (hc : env.code = .ref c) (hC : PySem.W.CodeHd s.heap c P) (hP : s.heap.get? P = some (PySem.W.tabObj ps)) (ht : TriplesOk ps.toList)
    (hQ : ∀ code h' tk more, (∀ b o, b ≠ P → s.heap.get? b = some o → h'.get? b = some o) → h'.get? P = some (PySem.W.tabObj (ps ++ more)) → TriplesOk (ps ++ more).toList → Q code { s with heap := h', toks := tk }) :
    wpAny M A (genexprCode env pos qualname scope) Q E s := by
  have tab := hC.code hP ht
  obtain ⟨o, vs, file, tf, flags, tg, inF, text, tt, op, ho, hd, h11, h2, h7, h9, h10, hop, hpd, htr, hne⟩ := tab
  cases hP.symm.trans hop
  have some_c : (Value.ref c == Value.none) = false := rfl
  unfold genexprCode codeAt
  simp only [hc, some_c, Bool.false_eq_true, ↓reduceIte]
  wp_walk using wpAny_fieldsOf ho hd
  simp only [h11]
  wp_walk using wpAny_fieldsOf hP hpd
  cases among : codeAmong pos ps.toList with
  | some cv => exact wpAny_pure (hQ cv s.heap s.toks #[] (fun _ _ _ e => e) (by simpa using hP) (by simpa using ht))
  | none =>
    simp only [h2, h7, h9, h10]
    refine wpAny_bind (wpAny_newCode fun c' P' h' tk hk _ _ _ _ => ?_)
    have put : (h'.update P (Obj.mapFields fun vs => if (codeAmong pos vs.toList).isSome = true then vs else vs ++ #[rawInt pos.line, rawInt pos.col, .ref c'])).get? P = some (PySem.W.tabObj (ps ++ #[rawInt pos.line, rawInt pos.col, .ref c'])) := by
      refine (Heap.get?_update_self _ (hk _ _ hP) rfl).trans ?_
      simp [Obj.mapFields, PySem.W.tabObj, among]
    have three : (ps ++ #[rawInt pos.line, rawInt pos.col, Value.ref c']).toList = ps.toList ++ [rawInt pos.line, rawInt pos.col, .ref c'] := by rw [Array.toList_append]
    refine wpAny_bind (wpAny_updateFieldsOfTheText (hk _ _ hP) hpd (wpAny_bind (wpAny_fieldsOf put rfl ?_)))
    rw [three, codeAmong_snoc _ htr among]
    exact wpAny_pure (hQ _ _ _ #[rawInt pos.line, rawInt pos.col, .ref c'] (fun b o' hb e => (Heap.get?_update_ne _ _ _ _ hb).trans (hk b o' e)) put (by rw [three]; exact TriplesOk_snoc _ _ _ _ htr))
end
section
variable {X : Cx} {pins : List (Addr × Obj)} {σ : St} {H : Hp} {s : Shared}
theorem Inv.grow {P : Addr} {ps more : Array Value} {h' : Heap} {t' : Nat} (I : Inv X pins σ H s) (hP : H P = some (.tbl ps)) (k : ∀ b u, b ≠ P → s.heap.get? b = some u → h'.get? b = some u) (hp : h'.get? P = some (PySem.W.tabObj (ps ++ more))) :
    Inv X pins σ (upd H P (.tbl (ps ++ more))) { s with heap := h', toks := t' } := by
  have ne0 : ∀ {b}, H b = none → b ≠ P := fun {b} n z => by rw [z, hP] at n; cases n
  refine I.call' (ch := []) rfl ⟨fun b o q n _ _ => k b o (ne0 n) q, fun b o q n _ _ => ⟨o.slots, k b o (ne0 n) q⟩, fun b o q n _ => by rw [upd_ne (ne0 n)]; exact n, fun b o q _ => ?_, fun b xs q => ?_, fun b o u q => ?_, fun b qs q => ?_⟩ ?_ I.bare (fun b hb => nomatch hb)
  · by_cases z : b = P
    · rw [z]; exact ⟨_, hp⟩
    · exact ⟨o, k b o z q⟩
  · rw [upd_ne (fun z => by rw [z, hP] at q; cases q)]; exact q
  · rw [upd_ne (fun z => by rw [z, hP] at q; cases q)]; exact q
  · by_cases z : b = P
    · subst z
      rw [hP] at q
      cases q
      exact ⟨more, upd_same⟩
    · exact ⟨#[], by rw [upd_ne z, q]; simp⟩
  · intro b u q
    by_cases z : b = P
    · subst z
      rw [upd_same] at q
      cases q
      exact hp
    · rw [upd_ne z] at q
      refine (I.hok b u q).stay (fun c v hc r => k c v ?_ r) (fun c r => ?_) fun c xs r => ?_
      · rcases hc with rfl | hc
        · exact z
        · intro z'
          rw [z', hP] at hc
          cases hc
      · rw [upd_ne (fun z' => by rw [z', hP] at r; cases r)]; exact r
      · rw [upd_ne (fun z' => by rw [z', hP] at r; cases r)]; exact r
theorem Inv.setGen {g : Nat} {gs : GenState} (I : Inv X pins σ H s) (hb : gs.bare = true) : Inv X pins σ H (s.setGen g gs) := by
  have : AllBare (s.setGen g gs).gens := by
    intro x hx
    have hb0 := I.bare
    simp only [Shared.setGen] at hx
    rcases Array.mem_or_eq_of_mem_setIfInBounds hx with h | h
    · exact hb0 x h
    · rw [h]; exact hb
  exact I.call' (ch := []) rfl Un.refl I.hok this (fun b hb => nomatch hb)
end
end L2
set_option Elab.async false
set_option linter.all false
set_option maxRecDepth 100000
set_option maxHeartbeats 1000000
namespace L2
open PySem
theorem gens_setGen (s : Shared) (g : Nat) (x : GenState) : (s.setGen g x).gens.size = s.gens.size := by simp [Shared.setGen]
theorem runs_gens {M : Model} {Γ : Ctx} {p : Pos} {t : Sem Fin} {fs : List Frame} {s s' : Shared} {e : End} (h : Runs M Γ p t fs s e s') : s.gens.size ≤ s'.gens.size := by
  induction h <;> (try simp only [Shared.setGen, Array.size_setIfInBounds, Array.size_push] at *) <;> omega
theorem returns_gens {M : Model} {Γ : Ctx} {p : Pos} {s s' : Shared} {r : Result} (h : Returns M Γ p s r s') : s.gens.size ≤ s'.gens.size := runs_gens h
theorem wakes_gens {M : Model} {Γ : Ctx} {p : Pos} {g : Nat} {r : Resume} {s s' : Shared} {res : GenResult} (h : Wakes M Γ p g r s res s') : s.gens.size ≤ s'.gens.size := by
  have key : ∀ {c p₁ t fs e₁ s₁ x}, Runs M (Γ.wake c p) p₁ t fs (s.setGen g .running) e₁ s₁ → s.gens.size ≤ (s₁.setGen g x).gens.size := fun hr => by
    have := runs_gens hr
    rw [gens_setGen] at this ⊢
    exact this
  unfold Wakes at h
  split at h
  · exact h.elim
  · split at h
    · obtain ⟨e₁, s₁, hr, _, _, rfl⟩ := h; exact key hr
    · rw [h.2]; first | exact Nat.le_refl _ | (rw [gens_setGen]; exact Nat.le_refl _)
    · rw [h.2]; first | exact Nat.le_refl _ | (rw [gens_setGen]; exact Nat.le_refl _)
  · obtain ⟨e₁, s₁, hr, _, _, rfl⟩ := h; exact key hr
  · rw [h.2]; first | exact Nat.le_refl _ | (rw [gens_setGen]; exact Nat.le_refl _)
  · rw [h.2]; first | exact Nat.le_refl _ | (rw [gens_setGen]; exact Nat.le_refl _)
open PySem.Sem in
theorem wp_gens {α : Type} (M : Model) (Γ : Ctx) (n : Nat) (t : Sem α) : ∀ (Q : α → Pos → Shared → Prop) (E : Value → Pos → Shared → Prop) (p : Pos) (s : Shared), n ≤ s.gens.size → Sem.wp M Γ t Q E p s →
    Sem.wp M Γ t (fun a p' s' => n ≤ s'.gens.size ∧ Q a p' s') (fun e p' s' => n ≤ s'.gens.size ∧ E e p' s') p s := by
  induction t <;> intro Q E p s hn h
  all_goals first
    | exact h
    | exact ⟨hn, h⟩
    | (rename_i ih; exact ih _ Q E _ _ hn h)
    | (rename_i ih; exact ⟨h.1, ih _ Q E _ _ hn h.2⟩)
    | (rename_i ih; obtain ⟨x, e, h⟩ := h; exact ⟨x, e, ih _ Q E _ _ hn h⟩)
    | (rename_i ih; obtain ⟨r, s', hr, h⟩ := h; exact ⟨r, s', hr, ih r Q E _ s' (Nat.le_trans hn (returns_gens hr)) h⟩)
    | (rename_i ih; obtain ⟨r, s', hw, h⟩ := h; exact ⟨r, s', hw, ih r Q E _ s' (Nat.le_trans hn (wakes_gens hw)) h⟩)
    | (rename_i ih; refine ih _ Q E _ _ (Nat.le_trans hn ?_) h; show s.gens.size ≤ (s.gens.push _).size; rw [Array.size_push]; exact Nat.le_succ _)
theorem wpAny_gens {α : Type} {M : Model} {A : Around} {s : Shared} {t : Sem α} {Q : α → Shared → Prop} {E : Value → Shared → Prop} {n : Nat} (hn : n ≤ s.gens.size) (h : wpAny M A t Q E s) :
    wpAny M A t (fun a s' => n ≤ s'.gens.size ∧ Q a s') E s :=
  wpAny_mono (Q := fun a s' => n ≤ s'.gens.size ∧ Q a s') (E := fun e s' => n ≤ s'.gens.size ∧ E e s') (fun Γ p hΓ => wp_gens M Γ n t _ _ p s hn (h Γ p hΓ)) (fun _ _ x => x) (fun _ _ x => x.2)
end L2
set_option Elab.async false
set_option linter.all false
set_option maxRecDepth 100000
set_option maxHeartbeats 1000000
namespace L2
open PySem PySem.Spec PyProof.Rows
def tGen (st : Bool) (P : Addr) (wi : TI) (g : TG) (te : TE) (vs : List Nat) : TE := fun σ H Q => wi σ H fun J H1 => ∃ ps, H1 P = some (.tbl ps) ∧ TriplesOk ps.toList ∧ ∀ more, TriplesOk (ps ++ more).toList →
  ∃ W : Nat → Nat → Hp → Prop, (∃ m, W 0 m (upd H1 P (.tbl (ps ++ more)))) ∧ ∀ i m H, W i m H →
    (J.stop i H ∧ Q (.bl (!st)) H) ∨ (J.go i H ∧ ∃ Nx : Hp → Prop, (∀ H', Nx H' → ∃ m', m' < m ∧ W (i + 1) m' H') ∧ ∀ x H', J.yld i H x H' → g x (wipe σ vs) H' fun σ2 H2 => wipe σ2 vs = wipe σ vs ∧
      te σ2 H2 fun y H4 => ∃ b, y = .bl b ∧ if b = st then Q (.bl st) H4 else Nx H4)
abbrev genA (A : Around) (elt tg iter : Expr) (scope : Scope) (pos : Pos) (I : Addr) (cenv : Env) : Around := A.in1.in1.over (genL elt tg iter scope pos I cenv) []
theorem genA_frames {A : Around} {elt tg iter : Expr} {scope : Scope} {pos : Pos} {I : Addr} {cenv : Env} {l : List Env} (h : A.frames = some l) : (genA A elt tg iter scope pos I cenv).frames = some (cenv :: l) := by
  show pushEnvs [cenv] (pushEnvs [] A.frames) = _
  rw [h]
  rfl
theorem genA_room {A : Around} {elt tg iter : Expr} {scope : Scope} {pos : Pos} {I : Addr} {cenv : Env} {k : Nat} (r : Room (k + 1) A) : Room k (genA A elt tg iter scope pos I cenv) := by
  refine ⟨?_, r.hd, ?_, ?_⟩
  · first | exact r.gd | (simpa [genA, Around.over, Code.guards, Code.isGuard, guardIds, pushGuards, guardsOf] using r.gd)
  · have := r.dp
    show A.depth + 0 + 1 + 3 * k + 5 < _
    omega
  · have := r.un
    show A.units + 1 + 1 + 0 + 3 + 16 * k + 200 < _
    omega
section
variable {X : Cx} {pins : List (Addr × Obj)} {σ : St} {H : Hp} {s : Shared} {Q : VK}
theorem gen_core {nm : String} {st : Bool} {elt tg iter : Expr} {scope : Scope} {own : List (Str × Nat)} {gpos : Pos} {wi : TI} {g : TG} {te : TE} {c P bm : Addr} {ob : Obj} {k : Nat} (hc : X.calm = true) (hN : X.N.Nodup) (hr : Room (k + 1) X.A) (hi : PI X tg iter wi) (ok : BlkOk X.N X.env.scope scope own)
    (hco : scope.isCoroutine = false) (hcell : ∀ y ∈ scope.names, y.2 ≠ .cell) (h0 : scope.names.lookup (".0" : Str) = some NameKind.local) (hcode : X.env.code = .ref c) (hC : PySem.W.CodeHd X.base c P)
    (hbm : X.mg "__builtins__" = some (.ref bm)) (hbne : bm ≠ builtinsNs) (hbo : X.base.get? bm = some ob) (hbc : ob.cls = .type "module") (hbd : ob.dict = some builtinsNs) (hbp : ob.data = .plain)
    (hg : ∀ (A' : Around) (s : Shared) (H : Hp) (C : Addr) (code : Value) (fp : List Addr) (pn : List (Addr × Obj)), Room k A' → PG (X.gblk A' s H (genV X scope C code) fp pn) tg g)
    (he : ∀ (A' : Around) (s : Shared) (H : Hp) (C : Addr) (code : Value) (fp : List Addr) (pn : List (Addr × Obj)), Room k A' → PE (X.gblk A' s H (genV X scope C code) fp pn) elt te)
    (hs : ∀ x, genFold iter X.env x = pure x)
    (cons : ∀ (Yl : Nat → Nat → Value → Shared → Prop) (Dn : Shared → Prop) (Rl : Value → Shared → Shared → Prop) (a : Addr) (g n : Nat) (s : Shared) (Q' : Value → Shared → Prop), GenUse st Yl Rl a g → s.heap.NoLimit → GenIAt X.prog X.w X.A.in1 Yl Dn Rl a g n s →
      (∀ i m s gs', Yl i m (.bool st) s → gs'.bare = true → Q' (.bool st) (s.setGen g gs')) →
      (∀ s₁ h', Dn s₁ → (∀ b o, s₁.heap.get? b = some o → h'.get? b = some o) → Q' (.bool (!st)) { s₁.setGen g .finished with heap := h' }) → wpAny (model X.prog X.w) X.A (call (.builtin nm) [.ref a]) Q' X.xe s)
    (I : Inv X pins σ H s) (h : tGen st P wi g te (own.map (·.2)) σ H Q) :
    wpAny (model X.prog X.w) X.A (eval (.GeneratorExp elt [⟨tg, iter, [], 0⟩] scope gpos) X.env) (fun gv s1 => wpAny (model X.prog X.w) X.A (call (.builtin nm) [gv]) (EP X pins σ Q) X.xe s1) X.xe s := by
  have hfree : ∀ y ∈ scope.names, y.2 = .free → ∃ c, X.env.cells.lookup y.1 = some c := fun y hy e => by
    rcases ok.free y hy e with k | k
    · exact I.ok.has _ (.inl k)
    · exact I.ok.has _ (.inr k)
  refine wpAny_GeneratorExp_make hco (closure_ok hfree) hcell h0 ok.kind hr.depth (thn (hi pins s σ H _ I h) fun xv s1 hx => thn hx fun itv s2 h2 => ?_) hs
  obtain ⟨it, fp, tn, J, H2, e, I2, T, st2, f2, ps, hP, htr, q⟩ := h2
  subst e
  refine ⟨I2.nolimit, genexprCodeT hcode (hC.keeps I2.bk) (I2.hok P _ hP) htr fun code h3 tk3 more k3 hp3 htr3 => ?_⟩
  obtain ⟨W, ⟨m0, w0⟩, turn⟩ := q more htr3
  have I3 := I2.grow (t' := tk3) hP k3 hp3
  have nP : ∀ b ∈ fp, b ≠ P := fun b hb z => by
    have := (f2 b hb).1
    rw [z, hP] at this
    cases this
  have st3 : tn 0 h3 := T.keep _ _ _ st2 fun b hb o e => k3 b o (nP b hb) e
  have f3 : ∀ b ∈ fp, FpOk X pins (upd H2 P (.tbl (ps ++ more))) b ∧ b < h3.objs.size := fun b hb => by
    obtain ⟨o, e, _⟩ := T.obj _ _ st3 b hb
    exact ⟨⟨by rw [upd_ne (nP b hb)]; exact (f2 b hb).1, (f2 b hb).2⟩, Heap.lt_size e⟩
  generalize hH3 : upd H2 P (.tbl (ps ++ more)) = H3 at I3 w0 f3
  generalize hs3 : ({ s2 with heap := h3, toks := tk3 } : Shared) = s3 at I3 ⊢
  have e3 : s3.heap = h3 := by rw [← hs3]
  rw [← e3] at st3 f3
  have mgs : s3.heap.Ns mainGlobals X.mg := I3.mod.glob.keeps I3.bk
  rw [I3.ok.glob]
  refine wpAny_builtinsFor mgs hbm hbne (I3.bk _ _ hbo) hbc hbd hbp ?_
  intro h' hn' hs'
  have hsz : h'.objs.size = s3.heap.objs.size + 1 := by rw [hs'.1, Heap.size_push]
  have kp' : ∀ b o, s3.heap.get? b = some o → h'.get? b = some o := fun b o e => hs'.extBut b o (Nat.ne_of_lt (Heap.lt_size e)) (Heap.get?_push_of_some _ e)
  have ha0 : (h'.push { cls := .type "generator", data := .fields #[.int s3.gens.size 0, .str "<genexpr>" (s3.toks + 1), .str (X.env.qual ++ "<genexpr>") (s3.toks + 1 + 1)] }).get? h'.objs.size = some ({ cls := .type "generator", data := .fields #[.int s3.gens.size 0, .str "<genexpr>" (s3.toks + 1), .str (X.env.qual ++ "<genexpr>") (s3.toks + 1 + 1)] } : Obj) := Heap.get?_push_size _ rfl
  have hgen0 : ∀ hh : Heap, hh.get? h'.objs.size = some ({ cls := .type "generator", data := .fields #[.int s3.gens.size 0, .str "<genexpr>" (s3.toks + 1), .str (X.env.qual ++ "<genexpr>") (s3.toks + 1 + 1)] } : Obj) → hh.IsGen h'.objs.size s3.gens.size := fun hh e => ⟨_, _, _, e, rfl, rfl, rfl⟩
  have hcel : ∀ v, ({ cls := .type "generator", data := .fields #[.int s3.gens.size 0, .str "<genexpr>" (s3.toks + 1), .str (X.env.qual ++ "<genexpr>") (s3.toks + 1 + 1)] } : Obj).data ≠ .cell v := fun v z => by cases z
  generalize ({ cls := .type "generator", data := .fields #[.int s3.gens.size 0, .str "<genexpr>" (s3.toks + 1), .str (X.env.qual ++ "<genexpr>") (s3.toks + 1 + 1)] } : Obj) = oa at ha0 hgen0 hcel ⊢
  show wpAny _ _ (call (.builtin nm) [.ref h'.objs.size]) _ _ { s3 with gens := s3.gens.push (.fresh (genS elt tg iter scope gpos it (genV X scope s3.heap.objs.size code))), toks := s3.toks + 1 + 1 + 1, heap := h'.push oa }
  have kp4 : ∀ b o, s3.heap.get? b = some o → (h'.push oa).get? b = some o := fun b o e => Heap.get?_push_of_some _ (kp' b o e)
  have st4 : tn 0 (h'.push oa) := T.keep _ _ _ st3 fun b _ o e => kp4 b o e
  have hfrA := genA_frames (elt := elt) (tg := tg) (iter := iter) (scope := scope) (pos := gpos) (I := it) (cenv := genV X scope s3.heap.objs.size code) I.ok.frames
  have hrA : Room k (genA X.A elt tg iter scope gpos it (genV X scope s3.heap.objs.size code)) := genA_room hr
  have hbare : AllBare (s3.gens.push (.fresh (genS elt tg iter scope gpos it (genV X scope s3.heap.objs.size code)))) := by
    intro x hx
    rcases Array.mem_push.mp hx with h | h
    · exact I3.bare x h
    · rw [h]; rfl
  have I4 := gen_start (s' := { s3 with gens := s3.gens.push (.fresh (genS elt tg iter scope gpos it (genV X scope s3.heap.objs.size code))), toks := s3.toks + 1 + 1 + 1, heap := h'.push oa }) (a := h'.objs.size) (oa := oa) I3 ok hN f3 hcell hfrA hrA.hd kp4 (hn'.push _) rfl hbare ha0 (by rw [hsz]; exact Nat.lt_succ_self _) hcel
  have pg := hg _ s3 H3 s3.heap.objs.size code fp [(h'.objs.size, oa)] hrA
  have pe := he _ s3 H3 s3.heap.objs.size code fp [(h'.objs.size, oa)] hrA
  have hgs : (s3.gens.push (.fresh (genS elt tg iter scope gpos it (genV X scope s3.heap.objs.size code))))[s3.gens.size]? = some (.fresh (genS elt tg iter scope gpos it (genV X scope s3.heap.objs.size code))) := Array.getElem?_push_size ..
  have hg4 : s3.gens.size < (s3.gens.push (.fresh (genS elt tg iter scope gpos it (genV X scope s3.heap.objs.size code)))).size := by rw [Array.size_push]; exact Nat.lt_succ_self _
  generalize hs4 : ({ s3 with gens := s3.gens.push (.fresh (genS elt tg iter scope gpos it (genV X scope s3.heap.objs.size code))), toks := s3.toks + 1 + 1 + 1, heap := h'.push oa } : Shared) = s4 at I4 ⊢
  have g4 : s3.gens.size < s4.gens.size := by rw [← hs4]; exact hg4
  have gs4 : s4.gens[s3.gens.size]? = some (.fresh (genS elt tg iter scope gpos it (genV X scope s3.heap.objs.size code))) := by rw [← hs4]; exact hgs
  have t4 : tn 0 s4.heap := by rw [← hs4]; exact st4
  have a4 : s4.heap.get? h'.objs.size = some oa := by rw [← hs4]; exact ha0
  generalize hcenv : genV X scope s3.heap.objs.size code = cenv at I4 pg pe gs4 hrA
  have hcs : cenv.scope.isCoroutine = false := by rw [← hcenv]; exact hco
  have hlt : ∀ b ∈ fp, b ≠ h'.objs.size := fun b hb => Nat.ne_of_lt (by rw [hsz]; exact Nat.lt_succ_of_lt (f3 b hb).2)
  generalize hA' : genA X.A elt tg iter scope gpos it cenv = A' at I4 pg pe hrA
  have nfp : ∀ b ∈ fp, H3 b = none := fun b hb => (f3 b hb).1.1
  have stat : ∀ {σ' : St} {H' : Hp} {s' : Shared}, Inv (X.gblk A' s3 H3 cenv fp [(h'.objs.size, oa)]) [] σ' H' s' → (∀ b ∈ fp, H' b = none) → ∀ b ∈ fp, FpOk (X.gblk A' s3 H3 cenv fp [(h'.objs.size, oa)]) [] H' b := fun {σ' H' s'} I' hn b hb =>
    ⟨hn b hb, (I'.ok.exf b hb).1, I'.ok.exfs b hb, .inl hb, fun x c e => (I'.ok.exf b hb).2 x c e, fun p hp => by
      have : p ∈ [(h'.objs.size, oa)] ++ ([] : List (Addr × Obj)) := hp
      have : p = (h'.objs.size, oa) := by simpa using this
      rw [this]
      exact (hlt b hb).symm⟩
  have back : ∀ {σ' : St} {H' : Hp} {s' : Shared}, Inv (X.gblk A' s3 H3 cenv fp [(h'.objs.size, oa)]) [] σ' H' s' → Inv X pins σ H' s' := fun {σ' H' s'} I' =>
    I3.call' (ch := fp) I'.os I'.base I'.hok I'.bare fun b hb => ⟨(f3 b hb).1.2.2.2.1, (f3 b hb).1.2.1, (f3 b hb).1.2.2.2.2.1, (f3 b hb).1.2.2.2.2.2⟩
  have there : ∀ {σ' : St} {H' : Hp} {s' : Shared}, Inv (X.gblk A' s3 H3 cenv fp [(h'.objs.size, oa)]) [] σ' H' s' → s'.heap.get? h'.objs.size = some oa := fun {σ' H' s'} I' =>
    (I'.pin (h'.objs.size, oa) (List.mem_append_left _ (List.mem_singleton.mpr rfl))).1
  refine cons
    (fun i m v s => s3.gens.size < s.gens.size ∧ ∃ (b : Bool) (H' : Hp), v = .bool b ∧ Inv (X.gblk A' s3 H3 cenv fp [(h'.objs.size, oa)]) [] (wipe σ (own.map (·.2))) H' s ∧ ((b = st ∧ Q (.bl st) H') ∨ (b ≠ st ∧ tn (i + 1) s.heap ∧ (∀ b ∈ fp, H' b = none) ∧ ∃ m1, m = m1 + 1 ∧ W (i + 1) m1 H')))
    (fun s => ∃ H', Inv (X.gblk A' s3 H3 cenv fp [(h'.objs.size, oa)]) [] (wipe σ (own.map (·.2))) H' s ∧ Q (.bl (!st)) H')
    (fun v s s' => v = .bool (!st) ∧ ∃ gs', GenState.bare gs' = true ∧ s' = (s.setGen s3.gens.size gs').setGen s3.gens.size .running)
    h'.objs.size s3.gens.size (m0 + 1) s4 _ ⟨?_, ?_, ?_⟩ I4.nolimit ⟨hgen0 _ a4, _, gs4, rfl, ?_⟩ ?_ ?_
  · rintro i m v s ⟨_, b, _, e, _⟩
    exact ⟨b, e⟩
  · rintro i m v s ⟨hgn, b, H', e, I', _⟩
    exact ⟨hgen0 _ (there I'), I'.nolimit, hgn⟩
  · intro i m s gs' _ hb
    exact ⟨rfl, gs', hb, rfl⟩
  · subst hA'
    refine seg_startI (A := X.A.in1.in1) (J := fun i m s => s3.gens.size < s.gens.size ∧ ∃ m1, m = m1 + 1 ∧ ∃ H', Inv (X.gblk (genA X.A elt tg iter scope gpos it cenv) s3 H3 cenv fp [(h'.objs.size, oa)]) [] (wipe σ (own.map (·.2))) H' s ∧ tn i s.heap ∧ (∀ b ∈ fp, H' b = none) ∧ W i m1 H') hcs ?_ ?_ (Nat.le_refl _)
      ⟨by rw [gens_setGen]; exact g4, m0, rfl, H3, I4.setGen rfl, t4, nfp, w0⟩ (fun A2 Q2 E2 hq => T.self A2 0 _ Q2 E2 t4 hq)
    · rintro i m s5 ⟨g5, m1, rfl, H5, I5, st5, n5, w5⟩
      rcases turn i m1 H5 w5 with ⟨stop, qq⟩ | ⟨go, Nx, hNx, step⟩
      · have td := T.done (X.gblk (genA X.A elt tg iter scope gpos it cenv) s3 H3 cenv fp [(h'.objs.size, oa)]) rfl rfl rfl hc i [] s5 _ H5 (fun _ _ => False) I5 (stat I5 n5) st5 stop
        refine thnF td fun r s6 ⟨hr6, I6⟩ => ?_
        subst hr6
        exact ⟨H5, I6, qq⟩
      · have ti := T.item (X.gblk (genA X.A elt tg iter scope gpos it cenv) s3 H3 cenv fp [(h'.objs.size, oa)]) rfl rfl rfl hc i [] s5 _ H5 (fun _ _ => False) I5 (stat I5 n5) st5 go
        refine thnF (wpAny_gens (n := s3.gens.size + 1) g5 ti) fun r s6 ⟨g6, u, hr6, h6⟩ => ?_
        subst hr6
        refine thnF (wpAny_gens (n := s3.gens.size + 1) g6 h6) fun _ s7 ⟨g7, x, H7, I7, r7, y7, st7, n7⟩ => ?_
        have I7' := I7.pinned (stat I7 n7) (T.obj _ _ st7)
        refine thnF (wpAny_gens (n := s3.gens.size + 1) g7 (pg _ s7 _ H7 x u _ I7' r7 (step x H7 y7))) fun _ s8 ⟨g8, σ8, H8, I8, hw8, q8⟩ => ?_
        refine thnF (wpAny_gens (n := s3.gens.size + 1) g8 (pe _ s8 σ8 H8 _ I8 q8)) fun z s9 ⟨g9, yv, H9, I9, r9, b, eb, hb⟩ => ?_
        subst eb
        obtain rfl : z = Value.bool b := r9
        have pin' : ∀ b ∈ fp, ∀ o, s7.heap.get? b = some o → s9.heap.get? b = some o ∧ H9 b = none := fun b hb o e =>
          let z := I9.pin (b, o) (List.mem_append_right _ (List.mem_append_right _ (mem_pinsAt hb e)))
          ⟨z.1, z.2.1⟩
        have hl : (wipe σ (own.map (·.2))).length = σ8.length := by rw [← hw8, wipe_length]
        have I10 : Inv (X.gblk (genA X.A elt tg iter scope gpos it cenv) s3 H3 cenv fp [(h'.objs.size, oa)]) [] (wipe σ (own.map (·.2))) H9 s9 := (I9.unpinned (pins := [])).weak hl fun j v e => by
          rw [← hw8] at e
          exact (wipe_some e).1
        by_cases hbs : b = st
        · rw [if_pos hbs] at hb
          exact ⟨0, Nat.succ_pos _, g9, b, H9, rfl, I10, .inl ⟨hbs, hb⟩⟩
        · rw [if_neg hbs] at hb
          obtain ⟨m', hm', w'⟩ := hNx H9 hb
          refine ⟨m' + 1, Nat.succ_lt_succ hm', g9, b, H9, rfl, I10, .inr ⟨hbs, T.keep _ _ _ st7 fun b hb o e => (pin' b hb o e).1, fun b hb => ?_, m', rfl, w'⟩⟩
          obtain ⟨o, e, _⟩ := T.obj _ _ st7 b hb
          exact (pin' b hb o e).2
    · rintro i m y s s' ⟨hgn, b, H', e, I', hh⟩ ⟨e2, gs', hbr, rfl⟩
      rw [e] at e2
      have e2 : b = !st := by cases e2; rfl
      rcases hh with ⟨z, _⟩ | ⟨_, z1, z2, m1, z3, z4⟩
      · rw [z] at e2; cases st <;> cases e2
      · exact ⟨by rw [gens_setGen, gens_setGen]; exact hgn, m1, z3, H', (I'.setGen hbr).setGen rfl, z1, z2, z4⟩
  · rintro i m s gs' ⟨_, b, H', e, I', hh⟩ hb
    have e : st = b := by cases e; rfl
    rcases hh with ⟨_, z⟩ | ⟨z, _⟩
    · exact ⟨.bl st, H', (back I').setGen hb, rfl, z⟩
    · exact absurd e.symm z
  · rintro s₁ h2 ⟨H', I', z⟩ hk
    exact ⟨.bl (!st), H', ((back I').setGen (g := s3.gens.size) (gs := .finished) rfl).kept (t' := s₁.toks) hk, rfl, z⟩
end
end L2
set_option Elab.async false
set_option linter.all false
set_option maxRecDepth 100000
set_option maxHeartbeats 1000000
namespace L2
open PySem PySem.Spec PyProof.Rows
structure GenHd (X : Cx) (P : Addr) : Prop where
  code : ∃ c, X.env.code = .ref c ∧ PySem.W.CodeHd X.base c P
  blt : ∃ bm ob, X.mg "__builtins__" = some (.ref bm) ∧ bm ≠ builtinsNs ∧ X.base.get? bm = some ob ∧ ob.cls = .type "module" ∧ ob.dict = some builtinsNs ∧ ob.data = .plain
section
variable {X : Cx}
theorem pe_anyG {elt tg iter : Expr} {scope : Scope} {own : List (Str × Nat)} {p pos gpos : Pos} {wi : TI} {g : TG} {te : TE} {P : Addr} {k : Nat} (hG : GenHd X P) (hgl : Gl X "any") (hm : X.mg "any" = none) (hc : X.calm = true) (hN : X.N.Nodup) (hr : Room (k + 1) X.A) (hi : PI X tg iter wi) (ok : BlkOk X.N X.env.scope scope own)
    (hco : scope.isCoroutine = false) (hcell : ∀ y ∈ scope.names, y.2 ≠ .cell) (h0 : scope.names.lookup (".0" : Str) = some NameKind.local)
    (hg : ∀ (A' : Around) (s : Shared) (H : Hp) (C : Addr) (code : Value) (fp : List Addr) (pn : List (Addr × Obj)), Room k A' → PG (X.gblk A' s H (genV X scope C code) fp pn) tg g)
    (he : ∀ (A' : Around) (s : Shared) (H : Hp) (C : Addr) (code : Value) (fp : List Addr) (pn : List (Addr × Obj)), Room k A' → PE (X.gblk A' s H (genV X scope C code) fp pn) elt te)
    (hs : ∀ x, genFold iter X.env x = pure x := by intro _; rfl)
    (hst : starEach [Expr.GeneratorExp elt [⟨tg, iter, [], 0⟩] scope gpos] X.env = [(false, eval (.GeneratorExp elt [⟨tg, iter, [], 0⟩] scope gpos) X.env)] := by rfl) :
    PE X (.Call (.Name "any" p) [.GeneratorExp elt [⟨tg, iter, [], 0⟩] scope gpos] [] pos) (tGen true P wi g te (own.map (·.2))) := by
  intro pins s σ H Q I h
  obtain ⟨c, hcode, hC⟩ := hG.code
  obtain ⟨bm, ob, b1, b2, b3, b4, b5, b6⟩ := hG.blt
  refine wpAny_Call_Name_kw (ld_blt I hgl hm (by decide +kernel : bootBuiltins "any" = some (.builtin "any")) ?_ (by decide) (by decide))
  refine PyProof.Rows.callWith_builtin1 ?_ hst (by rfl)
  rw [hst]
  refine Calls.spliced_cons (thn (gen_core (nm := "any") (st := true) hc hN hr hi ok hco hcell h0 hcode hC b1 b2 b3 b4 b5 b6 hg he hs ?_ I h) fun gv s1 h1 => Calls.spliced_nil h1)
  exact fun Yl Dn Rl a g n s Q' U hl hgi hT hF => call_anyI U hr.hd hr.in1.depth hl hgi hT hF
theorem pe_allG {elt tg iter : Expr} {scope : Scope} {own : List (Str × Nat)} {p pos gpos : Pos} {wi : TI} {g : TG} {te : TE} {P : Addr} {k : Nat} (hG : GenHd X P) (hgl : Gl X "all") (hm : X.mg "all" = none) (hc : X.calm = true) (hN : X.N.Nodup) (hr : Room (k + 1) X.A) (hi : PI X tg iter wi) (ok : BlkOk X.N X.env.scope scope own)
    (hco : scope.isCoroutine = false) (hcell : ∀ y ∈ scope.names, y.2 ≠ .cell) (h0 : scope.names.lookup (".0" : Str) = some NameKind.local)
    (hg : ∀ (A' : Around) (s : Shared) (H : Hp) (C : Addr) (code : Value) (fp : List Addr) (pn : List (Addr × Obj)), Room k A' → PG (X.gblk A' s H (genV X scope C code) fp pn) tg g)
    (he : ∀ (A' : Around) (s : Shared) (H : Hp) (C : Addr) (code : Value) (fp : List Addr) (pn : List (Addr × Obj)), Room k A' → PE (X.gblk A' s H (genV X scope C code) fp pn) elt te)
    (hs : ∀ x, genFold iter X.env x = pure x := by intro _; rfl)
    (hst : starEach [Expr.GeneratorExp elt [⟨tg, iter, [], 0⟩] scope gpos] X.env = [(false, eval (.GeneratorExp elt [⟨tg, iter, [], 0⟩] scope gpos) X.env)] := by rfl) :
    PE X (.Call (.Name "all" p) [.GeneratorExp elt [⟨tg, iter, [], 0⟩] scope gpos] [] pos) (tGen false P wi g te (own.map (·.2))) := by
  intro pins s σ H Q I h
  obtain ⟨c, hcode, hC⟩ := hG.code
  obtain ⟨bm, ob, b1, b2, b3, b4, b5, b6⟩ := hG.blt
  refine wpAny_Call_Name_kw (ld_blt I hgl hm (by decide +kernel : bootBuiltins "all" = some (.builtin "all")) ?_ (by decide) (by decide))
  refine PyProof.Rows.callWith_builtin1 ?_ hst (by rfl)
  rw [hst]
  refine Calls.spliced_cons (thn (gen_core (nm := "all") (st := false) hc hN hr hi ok hco hcell h0 hcode hC b1 b2 b3 b4 b5 b6 hg he hs ?_ I h) fun gv s1 h1 => Calls.spliced_nil h1)
  exact fun Yl Dn Rl a g n s Q' U hl hgi hT hF => call_allI U hr.hd hr.in1.depth hl hgi hT hF
end
section
variable {K : PySem.W.Frag} {a : Addr} {xs : List V} {g : TG} {te : TE} {vs : List Nat} {σ : St} {Hm : Hp} {st : Bool} {Qs Qe : Hp → Prop}
theorem g_tup (Pv : Nat → Hp → Prop) (h0 : Pv 0 Hm) (hl : ∀ i H, i ≤ xs.length → Pv i H → SqT K H a xs)
    (hs : ∀ i x H, xs[i]? = some x → Pv i H → g x (wipe σ vs) H fun σ2 H2 => wipe σ2 vs = wipe σ vs ∧ te σ2 H2 fun y H4 => ∃ b, y = .bl b ∧ if b = st then Qs H4 else Pv (i + 1) H4) (hd : ∀ H, Pv xs.length H → Qe H) :
    ∃ W : Nat → Nat → Hp → Prop, (∃ m, W 0 m Hm) ∧ ∀ i m H, W i m H →
      ((Itt K a).stop i H ∧ Qe H) ∨ ((Itt K a).go i H ∧ ∃ Nx : Hp → Prop, (∀ H', Nx H' → ∃ m', m' < m ∧ W (i + 1) m' H') ∧ ∀ x H', (Itt K a).yld i H x H' → g x (wipe σ vs) H' fun σ2 H2 => wipe σ2 vs = wipe σ vs ∧
        te σ2 H2 fun y H4 => ∃ b, y = .bl b ∧ if b = st then Qs H4 else Nx H4) := by
  refine ⟨fun i m H => m = xs.length - i ∧ i ≤ xs.length ∧ Pv i H, ⟨xs.length, by simp, Nat.zero_le _, h0⟩, ?_⟩
  rintro i m H ⟨rfl, hi, p⟩
  have q := hl i H hi p
  by_cases hlt : i < xs.length
  · refine .inr ⟨⟨xs, xs[i], q, by simp [hlt]⟩, Pv (i + 1), fun H' p' => ⟨xs.length - (i + 1), by omega, rfl, hlt, p'⟩, fun x H' y => ?_⟩
    obtain ⟨e, y⟩ := y
    subst e
    exact hs i x _ (y xs q) p
  · have e : i = xs.length := by omega
    subst e
    exact .inl ⟨⟨xs, q, Nat.le_refl _⟩, hd H p⟩
theorem g_range {lo : Int} {n : Nat} (Pv : Nat → Hp → Prop) (h0 : Pv 0 Hm)
    (hs : ∀ i H, i < n → Pv i H → g (.int (lo + i)) (wipe σ vs) H fun σ2 H2 => wipe σ2 vs = wipe σ vs ∧ te σ2 H2 fun y H4 => ∃ b, y = .bl b ∧ if b = st then Qs H4 else Pv (i + 1) H4) (hd : ∀ H, Pv n H → Qe H) :
    ∃ W : Nat → Nat → Hp → Prop, (∃ m, W 0 m Hm) ∧ ∀ i m H, W i m H →
      ((Itr lo n).stop i H ∧ Qe H) ∨ ((Itr lo n).go i H ∧ ∃ Nx : Hp → Prop, (∀ H', Nx H' → ∃ m', m' < m ∧ W (i + 1) m' H') ∧ ∀ x H', (Itr lo n).yld i H x H' → g x (wipe σ vs) H' fun σ2 H2 => wipe σ2 vs = wipe σ vs ∧
        te σ2 H2 fun y H4 => ∃ b, y = .bl b ∧ if b = st then Qs H4 else Nx H4) := by
  refine ⟨fun i m H => m = n - i ∧ i ≤ n ∧ Pv i H, ⟨n, by simp, Nat.zero_le _, h0⟩, ?_⟩
  rintro i m H ⟨rfl, hi, p⟩
  by_cases hlt : i < n
  · refine .inr ⟨hlt, Pv (i + 1), fun H' p' => ⟨n - (i + 1), by omega, rfl, hlt, p'⟩, fun x H' y => ?_⟩
    obtain ⟨e, y⟩ := y
    subst e y
    exact hs i _ hlt p
  · have e : i = n := by omega
    subst e
    exact .inl ⟨Nat.le_refl _, hd H p⟩
end
end L2
set_option Elab.async false
set_option linter.all false
set_option maxRecDepth 100000
set_option maxHeartbeats 1000000
namespace L2
open PySem PySem.Spec PyProof.Rows
section
variable {P : Program} {w : World} {K : PySem.W.Frag} {mg : Str → Option Value} {base : Heap}
theorem Fun.okC {x qual : Str} {st : Stmt} {f : Addr} {fd : FuncData} {N ps : List Str} {k : Nat} {sp : Sp} (F : Fun K x qual st f fd) (S : FnScope N ps (defScope st)) (len : ∀ vs H Q E, sp vs H Q E → vs.length = ps.length)
    (hbody : ∀ (cdv : Value) (A : Around) (outer : List Env) (s : Shared) (H : Hp) (vs : List V) (Q : VK) (E : XK), fd.code = cdv → Room k (A.deeper (envOfC qual (defScope st) s.heap.objs.size f cdv)) → sp vs H Q E →
      ∃ t, PSs (cxOf CX0 P w K mg base N qual (defScope st) f cdv A outer s H E).nox (defBody st) t ∧ t { nx := fun _ H' => Q .non H', rt := Q } (start N vs) H) : FnOk P w K mg base CX0 (k + 1) f fd ps sp := by
  obtain ⟨oc, od, kV, doc, pm, an, cdv, ct, osl, rfl, lk, hcd⟩ := F.ex
  refine fn_of lk hcd S len fun A outer s H vs Q E hr hsp => ?_
  obtain ⟨t, h, q⟩ := hbody cdv A outer s H vs Q E rfl hr hsp
  exact ⟨t, h.nox, q⟩
theorem genHd {X : Cx} {c T : Addr} {fd : FuncData} {cdv : Value} (hc : fd.code = .ref c) (e : fd.code = cdv) (hx : X.env.code = cdv) (hC : PySem.W.CodeHd X.base c T) (B : BltMod X.base X.mg) : GenHd X T := ⟨⟨c, by rw [hx, ← e, hc], hC⟩, B.ex⟩
end
end L2
namespace L2
open PySem PySem.Spec PyProof.Rows
theorem walk_ofX {l : PySem.W.OpenLaw} {n k : Nat} {q : Program} {loose : List Str} {XP : (Str → Option Value) → Heap → Prop} {YP : World → Heap → Prop} {d : DefRec} {K : Params → PySem.W.Frag} {sp : PySem.W.Frag → List (Addr × Addr) → Sp} {x : Str} (xs : List Str)
    (hn : l.most = some n) (hn2 : n ≤ sizeLine) (hdf : d.params.defaults = []) (hr : Room k callerA)
    (hY : ∀ (w : World) (h : Heap), YP w h → (K w.params).In h)
    (hx : ∀ y ∈ xs, ∃ d', (recsOf q).find? (fun e => e.name == y) = some d') (hnt : ∀ p, PySem.W.noTabs (K p) = true)
    (F : ∀ (w : World) (mg : Str → Option Value) (fa : Addr) (h : Heap), (K w.params).In h → h.Ns mainGlobals mg → mg d.name = some (.ref fa) →
      ∃ fd : FuncData, (∀ (s : Shared) (u : Value), BindsTo s fd ⟨[u], []⟩ [(x, u)]) ∧
        ∀ base : Heap, (K w.params).In base → base.Ns mainGlobals mg → (∀ t ∈ xs.filterMap (PySem.W.tabIn (K w.params)), PySem.W.CodeHd base t.1 t.2) → BltMod base mg → FnOk l.prog w (K w.params) mg base CX0 k fa fd [x] (sp (K w.params) (xs.filterMap (PySem.W.tabIn (K w.params)))))
    (hsp : ∀ (K : PySem.W.Frag) (tabs : List (Addr × Addr)) (H : Hp) (a : Addr) (ns : List Int), ns.length ≤ n → OnlyT tabs H → (∀ t ∈ tabs, H t.2 = some (.tbl #[])) → SqL K H a (ns.map V.int) → sp K tabs [.ref a] H (fun v _ => v = .bl true) fun _ _ _ => False) :
    PySem.W.WalkO q loose XP YP l.row.toRowW d [] (fun f vs => PySem.call f vs) :=
  walk_ofT (K := K) (CX := fun _ => CX0) (sp := fun w tabs => sp (K w.params) tabs) (xs := xs) (tabs := fun p => xs.filterMap (PySem.W.tabIn (K p))) hn hn2 hdf hr hY hx (fun p t mt => by obtain ⟨y, my, e⟩ := List.mem_filterMap.mp mt; exact ⟨y, my, e⟩) hnt F
    (fun w H a ns h1 h2 h3 h4 => hsp (K w.params) _ H a ns h1 h2 h3 h4) fun _ _ _ _ _ z => z
end L2
set_option Elab.async false
set_option linter.all false
set_option maxRecDepth 100000
set_option maxHeartbeats 1000000
namespace NH
open PySem L2
structure TblAt (H : Hp) (T : Addr) : Prop where
  ex : ∃ ps, H T = some (.tbl ps) ∧ TriplesOk ps.toList
theorem TblAt.same {H H' : Hp} {T : Addr} (s : Same H H') (b : TblAt H T) : TblAt H' T := by
  obtain ⟨ps, e, h⟩ := b.ex
  exact ⟨ps, s _ _ e, h⟩
theorem TblAt.zero {H : Hp} {T : Addr} (h : H T = some (.tbl #[])) : TblAt H T := ⟨#[], h, trivial⟩
theorem TblAt.ne {H : Hp} {T q : Addr} (b : TblAt H T) (h : H q = none) : q ≠ T := fun z => by
  obtain ⟨_, e, _⟩ := b.ex
  rw [← z, h] at e
  cases e
structure StepT (T : Addr) (H H' : Hp) : Prop where
  keep : ∀ b o, b ≠ T → H b = some o → H' b = some o
  tbl : TblAt H' T
theorem StepT.refl {T : Addr} {H : Hp} (b : TblAt H T) : StepT T H H := ⟨fun _ _ _ e => e, b⟩
theorem StepT.trans {T : Addr} {H H1 H2 : Hp} (a : StepT T H H1) (b : StepT T H1 H2) : StepT T H H2 := ⟨fun c o n e => b.keep c o n (a.keep c o n e), b.tbl⟩
theorem StepT.same {T : Addr} {H H1 H2 : Hp} (a : StepT T H H1) (b : Same H1 H2) : StepT T H H2 := ⟨fun c o n e => b c o (a.keep c o n e), a.tbl.same b⟩
theorem StepT.free {T : Addr} {H H1 : Hp} {q : Addr} (a : StepT T H H1) (n : H1 q = none) : H q = none := by
  cases e : H q with
  | none => rfl
  | some o =>
    rw [a.keep q o (a.tbl.ne n) e] at n
    cases n
theorem StepT.tups {T : Addr} {H H' : Hp} (s : StepT T H H') (hb : TblAt H T) : Tups H H' := fun b xs e => s.keep b _ (fun z => by
  obtain ⟨_, e', _⟩ := hb.ex
  rw [z, e'] at e
  cases e) e
end NH
set_option Elab.async false
set_option linter.all false
set_option maxRecDepth 100000
set_option maxHeartbeats 1000000
set_option Elab.async false
set_option linter.all false
set_option maxRecDepth 100000
set_option maxHeartbeats 1000000
namespace L2
open PySem PySem.Spec PyProof.Rows
section
variable {X : Cx} {pins : List (Addr × Obj)} {σ : St} {H : Hp} {s : Shared} {p b : Addr} {kvs : List (List Key × V)} {ks : List Key} {y : V} {u : Value} {E : Value → Shared → Prop}
theorem dset_tup {Q : Unit → Shared → Prop} (hu : X.A.units + 1 < cLine) (I : Inv X pins σ H s) (ep : H p = some (.dT kvs)) (eb : H b = some (.tup (ks.map kV))) (ry : RelV y u) (hl : kvs.length < 100)
    (q : ∀ s', Inv X pins σ (upd H p (.dT (putK kvs ks y))) s' → Q () s') : wpAny (model X.prog X.w) X.A (dictSet p (.ref b) u) Q E s := by
  obtain ⟨z, hd, xs, rel, dd⟩ := dt_of I.hok ep
  have rel' := KT.put rel ks eb ry
  have lx : xs.length = kvs.length := (Paired.length rel).symm
  refine wpAny_dictSet_heap (hsz := by rw [lx, sizeLine_eq]; omega) (knd := tupleKind (mixKind X.prog X.w)) (show X.A.units < cLine by omega) (key_of I.hok eb) dd fun h' dd' hs => q _ ?_
  obtain ⟨qo, es, ep', hq, h2, h3, h4, _, h5⟩ := dd'
  refine d_write (ob := .dT (putK kvs ks y)) I (by rw [ep]; exact True.intro) hs ⟨qo, hq⟩ ⟨?_, hd, _, rel'.keeps fun c ys ec => ?_, qo, es, ep', hq, h2, h3, h4, h5⟩
  · have := length_putK kvs ks y
    rw [sizeLine_eq]
    omega
  · rw [upd_ne (ne_of ec ep (fun z => nomatch z))]
    exact ec
end
end L2
set_option Elab.async false
set_option linter.all false
set_option maxRecDepth 100000
set_option maxHeartbeats 1000000
namespace NH
open PySem L2
def mapRow (row : List Int) (ps : List PegD) : List PegD := ps.map fun x => (row.getD x.1.toNat 0, x.2)
def agrB (row : List Int) (hd hd2 : HandD) : Bool := decide (hd.1 = hd2.1) && decide (hd2.2 = mapRow row hd.2)
structure Sh (w : WebD) : Prop where
  pos : 0 < w.length
  len : w.length ≤ 100
  few : ∀ (h : Nat) hd, w[h]? = some hd → hd.2.length ≤ 100
  near : ∀ (h : Nat) hd, w[h]? = some hd → ∀ x ∈ hd.2, ∃ g : Nat, x.1 = (g : Int) ∧ g < w.length
def RowOk (n : Nat) (row : List Int) : Prop := ∀ r ∈ row, ∃ g : Nat, r = (g : Int) ∧ g < n
def agrAt (wa wb : WebD) (row : List Int) (h : Nat) : Bool := agrB row (wa.getD h (0, [])) (wb.getD (row.getD h 0).toNat (0, []))
def inB (n : Nat) (r : Int) : Bool := decide (0 ≤ r) && decide (r < (n : Int))
def leadB (wa wb : WebD) (row : List Int) : Bool := decide (row.length = wa.length) && row.all (inB wb.length) && (List.range wa.length).all (agrAt wa wb row)
theorem getD_of {α : Type} {l : List α} {i : Nat} {x d : α} (e : l[i]? = some x) : l.getD i d = x := by rw [List.getD_eq_getElem?_getD, e]; rfl
theorem ints_get? {row : List Int} {i : Nat} {r : Int} (e : row[i]? = some r) : (row.map V.int)[i]? = some (.int r) := by rw [List.getElem?_map, e]; rfl
theorem agrAt_eq {wa wb : WebD} {row : List Int} {h r : Nat} {hd hd2 : HandD} (e1 : wa[h]? = some hd) (e2 : row[h]? = some (r : Int)) (e3 : wb[r]? = some hd2) : agrAt wa wb row h = agrB row hd hd2 := by
  unfold agrAt
  rw [getD_of e1, getD_of e2, Int.toNat_natCast, getD_of e3]
theorem RowOk.get {n : Nat} {row : List Int} (k : RowOk n row) {h : Nat} (hl : h < row.length) : ∃ r : Nat, row[h]? = some (r : Int) ∧ r < n := by
  have e : row[h]? = some row[h] := List.getElem?_eq_getElem hl
  obtain ⟨g, eg, gl⟩ := k _ (List.mem_of_getElem? e)
  exact ⟨g, by rw [e, eg], gl⟩
theorem mapRow_snoc {row : List Int} {ps : List PegD} {c : Nat} {x : PegD} (e : ps[c]? = some x) : mapRow row (ps.take (c + 1)) = mapRow row (ps.take c) ++ [(row.getD x.1.toNat 0, x.2)] := by
  unfold mapRow
  rw [take_snoc e, List.map_append]
  rfl
theorem inB_iff {n : Nat} {r : Int} : inB n r = true ↔ ∃ g : Nat, r = (g : Int) ∧ g < n := by
  unfold inB
  rw [Bool.and_eq_true, decide_eq_true_iff, decide_eq_true_iff]
  constructor
  · rintro ⟨a, b⟩
    obtain ⟨g, rfl⟩ := Int.eq_ofNat_of_zero_le a
    exact ⟨g, rfl, by omega⟩
  · rintro ⟨g, rfl, h⟩
    omega
theorem rowOk_iff {n : Nat} {row : List Int} : row.all (inB n) = true ↔ RowOk n row := by
  rw [List.all_eq_true]
  exact ⟨fun h r m => inB_iff.mp (h r m), fun h r m => inB_iff.mpr (h r m)⟩
def spIsl : Sp := fun vs H Q _ => ∃ (a b c : Addr) (wa wb : WebD) (row : List Int), vs = [.ref a, .ref b, .ref c] ∧ WebAt H a wa ∧ WebAt H b wb ∧ H c = some (.tup (row.map V.int)) ∧ Sh wa ∧ Sh wb ∧ row.length = wa.length ∧ RowOk wb.length row ∧
  ∀ H', Same H H' → Q (.bl ((List.range wa.length).all (agrAt wa wb row))) H'
end NH
namespace NH
open PySem L2
theorem dp_lpairs {K : PySem.W.Frag} {H : Hp} {a : Addr} {as : List Addr} {ps : List PegD} (e : H a = some (.lst (as.map V.ref))) (h : PairsAt H as ps) : Dp K H (.ref a) (.list (ps.map pairD)) := by
  refine .lst (SqL.of e) ?_
  clear e
  induction h with
  | nil => exact .nil
  | cons r _ ih => exact .cons (dp_pair r) ih
end NH
namespace NH
open PySem L2
theorem StepT.grow {T : Addr} {H : Hp} {qs : Array Value} (t' : TriplesOk qs.toList) : StepT T H (upd H T (.tbl qs)) := ⟨fun b o n q => by rw [upd_ne n]; exact q, ⟨_, upd_same, t'⟩⟩
end NH
namespace NH
open PySem L2
theorem natZ (i : Nat) : V.int (0 + (i : Int)) = natV i := by rw [Int.zero_add]; rfl
end NH
namespace NH
open PySem L2
theorem Sh.of {w : WebD} (g : Good 4 w) (l : w.length ≤ 100) : Sh w := ⟨g.pos, l, fun h hd e => by have := g.pegs h hd e; omega, fun h hd e x m => by
  obtain ⟨q, eq⟩ := List.getElem?_of_mem m
  obtain ⟨g', q', rfl, lt⟩ := g.bnd h q x (by unfold pegOf; rw [e]; exact eq)
  exact ⟨g', rfl, lt⟩⟩
end NH
set_option Elab.async false
set_option linter.all false
set_option maxRecDepth 100000
set_option maxHeartbeats 1000000
set_option Elab.async false
set_option linter.all false
set_option maxRecDepth 100000
set_option maxHeartbeats 1000000
namespace NH
open PySem L2
theorem lead_at {wa wb : WebD} {L : List Int} (hl : leadB wa wb L = true) {h : Nat} {hd : HandD} (e : wa[h]? = some hd) : ∃ (x : Nat) (hd2 : HandD), L[h]? = some (x : Int) ∧ x < wb.length ∧ wb[x]? = some hd2 ∧ hd2.2 = mapRow L hd.2 := by
  unfold leadB at hl
  rw [Bool.and_eq_true, Bool.and_eq_true] at hl
  obtain ⟨⟨h1, h2⟩, h3⟩ := hl
  have len := of_decide_eq_true h1
  have ok := rowOk_iff.mp h2
  have hlt : h < wa.length := (List.getElem?_eq_some_iff.mp e).1
  obtain ⟨x, ex, xl⟩ := ok.get (h := h) (by omega)
  have e2 : wb[x]? = some wb[x] := List.getElem?_eq_getElem xl
  refine ⟨x, wb[x], ex, xl, e2, ?_⟩
  have a := List.all_eq_true.mp h3 h (List.mem_range.mpr hlt)
  rw [agrAt_eq e ex e2] at a
  unfold agrB at a
  rw [Bool.and_eq_true] at a
  exact of_decide_eq_true a.2
theorem lead_len {wa wb : WebD} {L : List Int} (hl : leadB wa wb L = true) : L.length = wa.length := by
  unfold leadB at hl
  rw [Bool.and_eq_true, Bool.and_eq_true] at hl
  exact of_decide_eq_true hl.1.1
theorem lead_peg {wa wb : WebD} {L : List Int} (hl : leadB wa wb L = true) {h p g : Nat} {q : Int} {hd hd2 : HandD} {x : Nat} (e : wa[h]? = some hd) (ex : L[h]? = some (x : Int)) (e2 : wb[x]? = some hd2) (ep : hd.2[p]? = some ((g : Int), q)) :
    hd2.2[p]? = some (L.getD g 0, q) := by
  obtain ⟨x', hd2', ex', _, e2', em⟩ := lead_at hl e
  rw [ex] at ex'
  have : (x : Int) = (x' : Int) := Option.some.inj ex'
  have : x = x' := by omega
  subst this
  rw [e2] at e2'
  cases e2'
  rw [em]
  unfold mapRow
  rw [List.getElem?_map, ep]
  rfl
theorem lead_unique {room : Nat} {wa wb : WebD} {L M : List Int} (gd : Good room wa) (hl : leadB wa wb L = true) (hm : leadB wa wb M = true) (h0 : L[0]? = M[0]?) : L = M := by
  have ll := lead_len hl
  have ml := lead_len hm
  have all := gd.conn (fun h => L[h]? = M[h]?) (fun h p g q e s => by
    obtain ⟨hd, e1, e2⟩ := pegOf_some e
    obtain ⟨x, hd2, ex, _, e3, _⟩ := lead_at hl e1
    have a := lead_peg hl e1 ex e3 e2
    have b := lead_peg hm e1 (s ▸ ex) e3 e2
    rw [a] at b
    have c : L.getD g 0 = M.getD g 0 := congrArg Prod.fst (Option.some.inj b)
    obtain ⟨g', q', z, gl⟩ := gd.bnd h p _ e
    have : g = g' := by have := congrArg Prod.fst z; simp at this; omega
    have gl : g < wa.length := by omega
    rw [List.getD_eq_getElem?_getD, List.getD_eq_getElem?_getD, List.getElem?_eq_getElem (by omega), List.getElem?_eq_getElem (by omega)] at c
    rw [List.getElem?_eq_getElem (by omega), List.getElem?_eq_getElem (by omega)]
    exact congrArg some c) 0
  refine List.ext_getElem? fun j => ?_
  by_cases hj : j < wa.length
  · exact all j gd.pos hj h0
  · rw [List.getElem?_eq_none (by omega), List.getElem?_eq_none (by omega)]
open Classical in
noncomputable def lead1 (wa wb : WebD) (f : Nat) : Option (List Int) := if h : ∃ L, leadB wa wb L = true ∧ L[0]? = some (f : Int) then some h.choose else none
theorem lead1_some {room : Nat} {wa wb : WebD} {f : Nat} {L : List Int} (gd : Good room wa) (hl : leadB wa wb L = true) (h0 : L[0]? = some (f : Int)) : lead1 wa wb f = some L := by
  have h : ∃ L, leadB wa wb L = true ∧ L[0]? = some (f : Int) := ⟨L, hl, h0⟩
  unfold lead1
  rw [dif_pos h]
  obtain ⟨a, b⟩ := h.choose_spec
  exact congrArg some (lead_unique gd a hl (b.trans h0.symm))
theorem lead1_none {wa wb : WebD} {f : Nat} (h : ∀ L, leadB wa wb L = true → L[0]? = some (f : Int) → False) : lead1 wa wb f = none := by
  unfold lead1
  exact dif_neg fun ⟨L, a, b⟩ => h L a b
noncomputable def leadsD (wa wb : WebD) (n : Nat) : List (List Int) := (List.range n).filterMap (lead1 wa wb)
theorem leadsD_succ {wa wb : WebD} (n : Nat) : leadsD wa wb (n + 1) = leadsD wa wb n ++ (lead1 wa wb n).toList := by
  unfold leadsD
  rw [List.range_succ, List.filterMap_append]
  congr 1
structure Cand (wa wb : WebD) (f : Nat) (row : List Int) : Prop where
  len : row.length = wa.length
  ok : RowOk wb.length row
  fst : row[0]? = some (f : Int)
  only : ∀ L, leadB wa wb L = true → L[0]? = some (f : Int) → L = row
theorem Cand.yes {room : Nat} {wa wb : WebD} {f : Nat} {row : List Int} (gd : Good room wa) (c : Cand wa wb f row) (h : leadB wa wb row = true) : lead1 wa wb f = some row := lead1_some gd h c.fst
theorem Cand.no {wa wb : WebD} {f : Nat} {row : List Int} (c : Cand wa wb f row) (h : leadB wa wb row = false) : lead1 wa wb f = none := lead1_none fun L hl h0 => by
  rw [c.only L hl h0, h] at hl
  cases hl
def optV : Option Nat → V
  | none => .non
  | some x => natV x
structure Far (wa wb : WebD) (f : Nat) (ro : List (Option Nat)) (wt : List Nat) (skip : Nat → Nat → Prop) : Prop where
  len : ro.length = wa.length
  fst : ro[0]? = some (some f)
  wait : ∀ h : Nat, h ∈ wt → ∃ x : Nat, ro[h]? = some (some x)
  lt : ∀ (h x : Nat), ro[h]? = some (some x) → x < wb.length
  done : ∀ (h x p g : Nat) (q : Int) hd, ro[h]? = some (some x) → h ∉ wt → wa[h]? = some hd → hd.2[p]? = some ((g : Int), q) → ¬ skip h p → ∃ y, ro[g]? = some (some y)
  only : ∀ L, leadB wa wb L = true → L[0]? = some (f : Int) → ∀ (h x : Nat), ro[h]? = some (some x) → L[h]? = some (x : Int)
theorem Far.zero {wa wb : WebD} {f : Nat} (pos : 0 < wa.length) (hf : f < wb.length) : Far wa wb f ((List.replicate wa.length none).set 0 (some f)) [0] (fun _ _ => False) := by
  have get : ∀ (h x : Nat), ((List.replicate wa.length (none : Option Nat)).set 0 (some f))[h]? = some (some x) → h = 0 ∧ x = f := fun h x e => by
    by_cases z : h = 0
    · subst z
      rw [List.getElem?_set_self (by simpa using pos)] at e
      exact ⟨rfl, (Option.some.inj (Option.some.inj e)).symm⟩
    · rw [List.getElem?_set_ne (fun y => z y.symm)] at e
      have := List.mem_of_getElem? e
      rw [List.mem_replicate] at this
      cases this.2
  refine ⟨by rw [List.length_set, List.length_replicate], by rw [List.getElem?_set_self (by simpa using pos)], fun h m => ?_, fun h x e => ?_, fun h x p g q hd e n => ?_, fun L hl h0 h x e => ?_⟩
  · rw [List.mem_singleton.mp m]
    exact ⟨f, by rw [List.getElem?_set_self (by simpa using pos)]⟩
  · rw [(get h x e).2]; exact hf
  · exact absurd (List.mem_singleton.mpr (get h x e).1) n
  · obtain ⟨rfl, rfl⟩ := get h x e
    exact h0
theorem Far.all {wa wb : WebD} {f room : Nat} {ro : List (Option Nat)} (gd : Good room wa) (k : Far wa wb f ro [] (fun _ _ => False)) : ∃ r : List Nat, ro = r.map some ∧ Cand wa wb f (r.map fun n : Nat => (n : Int)) := by
  have al : ∀ h, h < wa.length → ∃ x, ro[h]? = some (some x) := fun h hl => gd.conn (fun h => ∃ x, ro[h]? = some (some x)) (fun h p g q e ⟨x, ex⟩ => by
    obtain ⟨hd, e1, e2⟩ := pegOf_some e
    exact k.done h x p g _ hd ex (by simp) e1 e2 (fun z => z)) 0 h gd.pos hl ⟨f, k.fst⟩
  have eq : ro = (ro.map fun o => o.getD 0).map some := by
    rw [List.map_map]
    refine List.ext_getElem? fun j => ?_
    rw [List.getElem?_map]
    by_cases hj : j < wa.length
    · obtain ⟨x, ex⟩ := al j hj
      rw [ex]
      rfl
    · rw [List.getElem?_eq_none (by rw [k.len]; omega)]
      rfl
  refine ⟨ro.map fun o => o.getD 0, eq, ⟨by rw [List.length_map, List.length_map, k.len], fun r m => ?_, ?_, fun L hl h0 => ?_⟩⟩
  · obtain ⟨n, hn, rfl⟩ := List.mem_map.mp m
    obtain ⟨j, ej⟩ := List.getElem?_of_mem hn
    rw [List.getElem?_map] at ej
    obtain ⟨o, eo, rfl⟩ := Option.map_eq_some_iff.mp ej
    have hj : j < wa.length := by rw [← k.len]; exact (List.getElem?_eq_some_iff.mp eo).1
    obtain ⟨x, ex⟩ := al j hj
    rw [ex] at eo
    cases eo
    exact ⟨x, rfl, k.lt j x ex⟩
  · rw [List.getElem?_map, List.getElem?_map, k.fst]
    rfl
  · refine List.ext_getElem? fun j => ?_
    by_cases hj : j < wa.length
    · obtain ⟨x, ex⟩ := al j hj
      rw [k.only L hl h0 j x ex, List.getElem?_map, List.getElem?_map, ex]
      rfl
    · rw [List.getElem?_eq_none (by rw [lead_len hl]; omega), List.getElem?_eq_none (by rw [List.length_map, List.length_map, k.len]; omega)]
end NH
namespace NH
open PySem L2
def un (ro : List (Option Nat)) : Nat := (ro.filter fun o => o.isNone).length
theorem un_set : ∀ {ro : List (Option Nat)} {g y : Nat}, ro[g]? = some none → un (ro.set g (some y)) + 1 = un ro
  | [], _, _, e => by simp at e
  | o :: ro, 0, y, e => by
    have : o = none := by simpa using e
    subst this
    simp [un]
  | o :: ro, g + 1, y, e => by
    have ih := un_set (ro := ro) (g := g) (y := y) (by simpa using e)
    cases o with
    | none => simp [un] at ih ⊢; omega
    | some z => simp [un] at ih ⊢; omega
section
variable {wa wb : WebD} {f h : Nat} {ro : List (Option Nat)} {wt : List Nat}
theorem Far.pop (k : Far wa wb f ro (wt ++ [h]) (fun _ _ => False)) : Far wa wb f ro wt (fun h' p => h' = h ∧ 0 ≤ p) :=
  ⟨k.len, k.fst, fun z m => k.wait z (List.mem_append.mpr (.inl m)), k.lt, fun z x p g q hd e n e1 e2 sk => k.done z x p g q hd e (fun m => by
    rcases List.mem_append.mp m with m | m
    · exact n m
    · exact sk ⟨List.mem_singleton.mp m, Nat.zero_le _⟩) e1 e2 (fun z => z), k.only⟩
theorem Far.seen {i g y : Nat} {q : Int} {hd : HandD} (k : Far wa wb f ro wt (fun h' p => h' = h ∧ i ≤ p)) (ehd : wa[h]? = some hd) (ep : hd.2[i]? = some ((g : Int), q)) (eg : ro[g]? = some (some y)) : Far wa wb f ro wt (fun h' p => h' = h ∧ i + 1 ≤ p) :=
  ⟨k.len, k.fst, k.wait, k.lt, fun z x p g' q' hd' e n e1 e2 sk => by
    by_cases c : z = h ∧ p = i
    · obtain ⟨rfl, rfl⟩ := c
      rw [ehd] at e1
      cases e1
      rw [ep] at e2
      have e3 : (g : Int) = (g' : Int) := congrArg Prod.fst (Option.some.inj e2)
      have e4 : g = g' := by omega
      exact ⟨y, by rw [← e4]; exact eg⟩
    · exact k.done z x p g' q' hd' e n e1 e2 fun s => by
        obtain ⟨a, b⟩ := s
        by_cases d : p = i
        · exact c ⟨a, d⟩
        · exact sk ⟨a, by omega⟩, k.only⟩
theorem Far.put {i g y x : Nat} {q q' : Int} {hd hd2 : HandD} (k : Far wa wb f ro wt (fun h' p => h' = h ∧ i ≤ p)) (ehd : wa[h]? = some hd) (ex : ro[h]? = some (some x)) (e2 : wb[x]? = some hd2) (ep : hd.2[i]? = some ((g : Int), q)) (ey : hd2.2[i]? = some ((y : Int), q'))
    (yl : y < wb.length) (gl : g < wa.length) (eg : ro[g]? = some none) : Far wa wb f (ro.set g (some y)) (wt ++ [g]) (fun h' p => h' = h ∧ i + 1 ≤ p) := by
  have gl' : g < ro.length := by rw [k.len]; exact gl
  have old : ∀ (z v : Nat), ro[z]? = some (some v) → (ro.set g (some y))[z]? = some (some v) := fun z v e => by
    rw [List.getElem?_set_ne (fun c => by rw [← c, eg] at e; cases e)]
    exact e
  have new : (ro.set g (some y))[g]? = some (some y) := List.getElem?_set_self gl'
  have back : ∀ (z v : Nat), (ro.set g (some y))[z]? = some (some v) → (z = g ∧ v = y) ∨ ro[z]? = some (some v) := fun z v e => by
    by_cases c : z = g
    · subst c
      rw [new] at e
      exact .inl ⟨rfl, (Option.some.inj (Option.some.inj e)).symm⟩
    · rw [List.getElem?_set_ne (fun d => c d.symm)] at e
      exact .inr e
  refine ⟨by rw [List.length_set]; exact k.len, old 0 f k.fst, fun z m => ?_, fun z v e => ?_, fun z v p g' q'' hd' e n e1 e3 sk => ?_, fun L hl h0 z v e => ?_⟩
  · rcases List.mem_append.mp m with m | m
    · obtain ⟨v, e⟩ := k.wait z m
      exact ⟨v, old z v e⟩
    · rw [List.mem_singleton.mp m]
      exact ⟨y, new⟩
  · rcases back z v e with ⟨_, rfl⟩ | e
    · exact yl
    · exact k.lt z v e
  · have n1 : z ∉ wt := fun m => n (List.mem_append.mpr (.inl m))
    have n2 : z ≠ g := fun c => n (List.mem_append.mpr (.inr (List.mem_singleton.mpr c)))
    rcases back z v e with ⟨c, _⟩ | e
    · exact absurd c n2
    · by_cases c : z = h ∧ p = i
      · obtain ⟨rfl, rfl⟩ := c
        rw [ehd] at e1
        cases e1
        rw [ep] at e3
        have e5 : (g : Int) = (g' : Int) := congrArg Prod.fst (Option.some.inj e3)
        have e4 : g = g' := by omega
        exact ⟨y, by rw [← e4]; exact new⟩
      · obtain ⟨w, ew⟩ := k.done z v p g' q'' hd' e n1 e1 e3 fun s => by
          obtain ⟨a, b⟩ := s
          by_cases d : p = i
          · exact c ⟨a, d⟩
          · exact sk ⟨a, by omega⟩
        exact ⟨w, old g' w ew⟩
  · rcases back z v e with ⟨rfl, rfl⟩ | e
    · have a := lead_peg hl ehd (k.only L hl h0 h x ex) e2 ep
      rw [ey] at a
      have b : (v : Int) = L.getD z 0 := congrArg Prod.fst (Option.some.inj a)
      have zl : z < L.length := by rw [lead_len hl]; exact gl
      rw [b, List.getD_eq_getElem?_getD, List.getElem?_eq_getElem zl]
      rfl
    · exact k.only L hl h0 z v e
theorem Far.over {n : Nat} {hd : HandD} (k : Far wa wb f ro wt (fun h' p => h' = h ∧ n ≤ p)) (ehd : wa[h]? = some hd) (hn : hd.2.length ≤ n) : Far wa wb f ro wt (fun _ _ => False) :=
  ⟨k.len, k.fst, k.wait, k.lt, fun z x p g q hd' e m e1 e2 _ => k.done z x p g q hd' e m e1 e2 fun s => by
    obtain ⟨rfl, b⟩ := s
    rw [ehd] at e1
    cases e1
    have := (List.getElem?_eq_some_iff.mp e2).1
    omega, k.only⟩
end
end NH
namespace NH
open PySem L2
theorem rep_non (n : Nat) : (List.replicate n [V.non]).flatten = (List.replicate n (none : Option Nat)).map optV := by
  induction n with
  | zero => rfl
  | succ n ih => rw [List.replicate_succ, List.replicate_succ, List.flatten_cons, ih]; rfl
theorem un_le (ro : List (Option Nat)) : un ro ≤ ro.length := List.length_filter_le _ _
theorem last_nat (wt : List Nat) (h : Nat) : ((wt ++ [h]).map natV)[((wt ++ [h]).map natV).length - 1]? = some (natV h) := by
  rw [List.length_map, List.length_append]
  show ((wt ++ [h]).map natV)[wt.length + 1 - 1]? = _
  rw [Nat.add_sub_cancel, List.getElem?_map, List.getElem?_append_right (Nat.le_refl _), Nat.sub_self]
  rfl
theorem drop_nat (wt : List Nat) (h : Nat) : ((wt ++ [h]).map natV).dropLast = wt.map natV := by
  rw [List.map_append]
  exact List.dropLast_concat
theorem optV_at {ro : List (Option Nat)} {g : Nat} {o : Option Nat} (e : ro[g]? = some o) : (ro.map optV)[g]? = some (optV o) := by rw [List.getElem?_map, e]; rfl
theorem optV_set (ro : List (Option Nat)) (g y : Nat) : (ro.map optV).set g (natV y) = (ro.set g (some y)).map optV := by rw [List.map_set]; rfl
theorem some_ints (r : List Nat) : (r.map some).map optV = (r.map fun n : Nat => (n : Int)).map V.int := by rw [List.map_map, List.map_map]; rfl
end NH
namespace NH
open PySem L2
def RowI (H : Hp) (a : Addr) (r : List Int) : Prop := H a = some (.tup (r.map V.int))
theorem StepT.put {T q : Addr} {H H1 : Hp} {o : HO} (a : StepT T H H1) (n : H q = none) (ne : q ≠ T) : StepT T H (upd H1 q o) := ⟨fun b u nb e => by rw [upd_ne (ne_of_none e n)]; exact a.keep b u nb e, by
  obtain ⟨ps, e, t⟩ := a.tbl.ex
  exact ⟨ps, by rw [upd_ne (Ne.symm ne)]; exact e, t⟩⟩
theorem leadsD_len {wa wb : WebD} (n : Nat) : (leadsD wa wb n).length ≤ n := by
  unfold leadsD
  exact Nat.le_trans (List.length_filterMap_le _ _) (by rw [List.length_range]; exact Nat.le_refl _)
end NH
set_option Elab.async false
set_option linter.all false
set_option maxRecDepth 100000
set_option maxHeartbeats 1000000
namespace NH
open PySem L2
abbrev Come := List (Nat × Nat)
def kvC (c : Come) : List (Key × V) := c.map fun p => (Sum.inl (p.1 : Int), natV p.2)
def lookC (c : Come) (h : Nat) : Option Nat := (c.find? fun p => decide (p.1 = h)).map (·.2)
theorem kvC_look : ∀ (c : Come) (h : Nat), valV (kvC c) (Sum.inl (h : Int)) = (lookC c h).map natV
  | [], _ => rfl
  | p :: c, h => by
    by_cases e : p.1 = h
    · show valV ((Sum.inl (p.1 : Int), natV p.2) :: kvC c) _ = _
      rw [valV_pos (by rw [e])]
      simp [lookC, List.find?_cons, e]
    · show valV ((Sum.inl (p.1 : Int), natV p.2) :: kvC c) _ = _
      rw [valV_neg (fun z => e (by injection z with z; omega)), kvC_look c h]
      simp [lookC, List.find?_cons, e]
theorem kvC_snoc {c : Come} {g y : Nat} (h : lookC c g = none) : putK (kvC c) (Sum.inl (g : Int)) (natV y) = kvC (c ++ [(g, y)]) := by
  rw [putK_new _ (by rw [kvC_look, h]; rfl)]
  unfold kvC
  rw [List.map_append]
  rfl
theorem nd_len : ∀ (n : Nat) (l : List Nat), l.Nodup → (∀ x ∈ l, x < n) → l.length ≤ n
  | 0, [], _, _ => Nat.le_refl _
  | 0, x :: _, _, h => absurd (h x (List.mem_cons_self ..)) (Nat.not_lt_zero _)
  | n + 1, l, nd, h => by
    by_cases m : n ∈ l
    · have ih := nd_len n (l.erase n) (nd.erase n) fun x mx => by
        have := nd.mem_erase_iff.mp mx
        have := h x this.2
        have := (nd.mem_erase_iff.mp mx).1
        omega
      rw [List.length_erase_of_mem m] at ih
      omega
    · have ih := nd_len n l nd fun x mx => by
        have := h x mx
        have : x ≠ n := fun z => m (z ▸ mx)
        omega
      omega
def rowC (c : Come) (n : Nat) : List Int := (List.range n).map fun h : Nat => (((lookC c h).getD 0 : Nat) : Int)
theorem leadB_cand {wa wb : WebD} {f : Nat} {row : List Int} (c : Cand wa wb f row) : leadB wa wb row = (List.range wa.length).all (agrAt wa wb row) := by
  unfold leadB
  rw [decide_eq_true c.len, rowOk_iff.mpr c.ok, Bool.true_and, Bool.true_and]
end NH
namespace L2
open PySem PySem.Spec PyProof.Rows
theorem for_zipM {K : PySem.W.Frag} {a b : Addr} {xs ys : List V} {g : TG} {tb : TS} {D : Ends} {σ : St} {H : Hp} (Pv : Nat → St → Hp → Prop) (h0 : Pv 0 σ H) (hl : ∀ i σ H, Pv i σ H → SqT K H a xs ∧ SqT K H b ys)
    (hs : ∀ i x y T σ H, xs[i]? = some x → ys[i]? = some y → Pv i σ H → H T = none → g (.ref T) σ (upd H T (.tup [x, y])) fun σ2 H2 => tb { D with nx := Pv (i + 1), ct := Pv (i + 1), bk := D.nx } σ2 H2) (hd : ∀ i σ H, (xs.length ≤ i ∨ ys.length ≤ i) → Pv i σ H → D.nx σ H) :
    ∃ W : Nat → Nat → St → Hp → Prop, (∃ m, W 0 m σ H) ∧ ∀ i m σ H, W i m σ H →
      ((ItzT K a b).stop i H ∧ D.nx σ H) ∨ ((ItzT K a b).go i H ∧ ∃ N : St → Hp → Prop, (∀ σ' H', N σ' H' → ∃ m', m' < m ∧ W (i + 1) m' σ' H') ∧ ∀ x H', (ItzT K a b).yld i H x H' → g x σ H' fun σ2 H2 => tb { D with nx := N, ct := N, bk := D.nx } σ2 H2) := by
  refine ⟨fun i m σ H => m = xs.length - i ∧ Pv i σ H, ⟨xs.length, by simp, h0⟩, ?_⟩
  rintro i m σ H ⟨rfl, p⟩
  obtain ⟨q1, q2⟩ := hl i σ H p
  by_cases c : i < xs.length ∧ i < ys.length
  · obtain ⟨l1, l2⟩ := c
    refine .inr ⟨⟨xs, ys, xs[i], ys[i], q1, q2, List.getElem?_eq_getElem l1, List.getElem?_eq_getElem l2⟩, Pv (i + 1), fun σ' H' p' => ⟨xs.length - (i + 1), by omega, rfl, p'⟩, fun x H' y => ?_⟩
    obtain ⟨T, x', y', rfl, nT, rfl, hx, hy⟩ := y
    exact hs i x' y' T σ H (hx xs q1) (hy ys q2) p nT
  · have e : xs.length ≤ i ∨ ys.length ≤ i := by omega
    exact .inl ⟨⟨xs, ys, q1, q2, e⟩, hd i σ H e p⟩
end L2
namespace NH
open PySem L2
theorem rowC_snoc (c : Come) (i : Nat) : (rowC c i).map V.int ++ [(((lookC c i).map natV).getD (.int 0))] = (rowC c (i + 1)).map V.int := by
  unfold rowC
  rw [List.range_succ, List.map_append, List.map_append]
  congr 1
  cases e : lookC c i with
  | none => simp [e]
  | some x => simp [e, natV]
end NH
set_option Elab.async false
set_option linter.all false
set_option maxRecDepth 100000
set_option maxHeartbeats 4000000
namespace NH
open PySem L2
abbrev sFro : Stmt := top 25
abbrev nFro : List Str := ["_law_one", "_law_other", "_law_place", "_law_row", "_law_line", "_law_h", "_law_g", "_law_q", "_law_there", "_law_back"]
theorem scFro : FnScope nFro ["_law_one", "_law_other", "_law_place"] (defScope sFro) := ⟨rfl, rfl, rfl, by decide +kernel, rfl, by decide +kernel, by decide +kernel⟩
structure KR (c : Come) (ro : List (Option Nat)) : Prop where
  look : ∀ h : Nat, lookC c h = (ro[h]?).join
  cnt : c.length + un ro = ro.length
theorem lookC_snoc (c : Come) (g y h : Nat) : lookC (c ++ [(g, y)]) h = (lookC c h).or (if g = h then some y else none) := by
  unfold lookC
  rw [List.find?_append]
  cases e : c.find? fun p => decide (p.1 = h) with
  | some p => simp
  | none =>
    by_cases z : g = h
    · simp [z]
    · simp [z]
theorem KR.zero {n f : Nat} (pos : 0 < n) : KR [(0, f)] ((List.replicate n none).set 0 (some f)) := by
  refine ⟨fun h => ?_, ?_⟩
  · by_cases z : h = 0
    · subst z
      rw [List.getElem?_set_self (by simpa using pos)]
      rfl
    · rw [List.getElem?_set_ne (fun y => z y.symm), List.getElem?_replicate]
      have : lookC [(0, f)] h = none := by
        unfold lookC
        rw [List.find?_cons, decide_eq_false (fun y : 0 = h => z y.symm)]
        rfl
      rw [this]
      by_cases c : h < n
      · rw [if_pos c]; rfl
      · rw [if_neg c]; rfl
  · have e : (List.replicate n (none : Option Nat))[0]? = some none := by rw [List.getElem?_replicate, if_pos pos]
    have := un_set (y := f) e
    have u : un (List.replicate n (none : Option Nat)) = n := by
      unfold un
      rw [List.filter_replicate]
      simp
    rw [List.length_set, List.length_replicate]
    show 1 + _ = n
    omega
theorem KR.put {c : Come} {ro : List (Option Nat)} {g y : Nat} (k : KR c ro) (e : ro[g]? = some none) : KR (c ++ [(g, y)]) (ro.set g (some y)) := by
  refine ⟨fun h => ?_, ?_⟩
  · rw [lookC_snoc, k.look]
    by_cases z : g = h
    · subst z
      rw [if_pos rfl, e, List.getElem?_set_self (List.getElem?_eq_some_iff.mp e).1]
      rfl
    · rw [if_neg z, List.getElem?_set_ne z]
      cases (ro[h]?).join <;> rfl
  · have := un_set (y := y) e
    have := k.cnt
    rw [List.length_set, List.length_append]
    show c.length + 1 + _ = _
    omega
theorem KR.row {c : Come} {r : List Nat} (k : KR c (r.map some)) : rowC c r.length = r.map fun n : Nat => (n : Int) := by
  unfold rowC
  refine List.ext_getElem? fun j => ?_
  rw [List.getElem?_map, List.getElem?_map]
  by_cases hj : j < r.length
  · rw [List.getElem?_range hj, List.getElem?_eq_getElem hj]
    show some (((lookC c j).getD 0 : Nat) : Int) = some ((r[j] : Nat) : Int)
    rw [k.look, List.getElem?_map, List.getElem?_eq_getElem hj]
    rfl
  · rw [List.getElem?_eq_none (by rw [List.length_range]; omega), List.getElem?_eq_none (by omega)]
    rfl
def spFro : Sp := fun vs H Q _ => ∃ (a b : Addr) (wa wb : WebD) (f : Nat), vs = [.ref a, .ref b, natV f] ∧ WebAt H a wa ∧ WebAt H b wb ∧ Good 4 wa ∧ Good 4 wb ∧ wa.length ≤ 100 ∧ wb.length ≤ 100 ∧ f < wb.length ∧
  (∀ H', Same H H' → (∀ L, leadB wa wb L = true → L[0]? = some (f : Int) → False) → Q .non H') ∧ ∀ (r : Addr) (row : List Int) (H' : Hp), Same H H' → H' r = some (.tup (row.map V.int)) → Cand wa wb f row → Q (.ref r) H'
section
variable {P : Program} {w : World} {K : PySem.W.Frag} {mg : Str → Option Value} {base : Heap}
theorem ok_fro {f : Addr} {fd : FuncData} (F : Fun K "_law_from" "_law_from" sFro f fd) (G : Dr P w K mg base) : FnOk P w K mg base CX0 1 f fd ["_law_one", "_law_other", "_law_place"] spFro := by
  refine F.ok scFro (fun vs H Q E h => ?_) (fun cdv A outer s H vs Q E hr h => ?_)
  · obtain ⟨a, b, wa, wb, f, rfl, _⟩ := h
    rfl
  · obtain ⟨a, b, wa, wb, fi, rfl, hA, hB, gA, gB, la, lb, fl, k1, k2⟩ := h
    have nd := scFro.nd
    refine ⟨_, (pss_cons (ps_set (i := 3) nd rfl (Or.inr rfl) (pe_disp (pps_cons pe_int (pv 2) pps_nil) (by rfl) (by rfl) (fun z => by cases z) (by decide)))
      (pss_cons (ps_set (i := 4) nd rfl (Or.inl rfl) (pe_lst (pa_cons pe_int pa_nil)))
      (pss_cons (ps_while PassesOwn.never (pt_cmpR op_gt (pe_callB call_len_seq (by rfl) G.mlen PySem.boot_len (pa_cons (pv 4) pa_nil)) pe_int (nomark _))
        (pss_cons (ps_set (i := 5) nd rfl (Or.inl rfl) (pe_bm0 PySem.F.plainAttrs_list PySem.F.slot_list_pop PySem.F.type_list_pop mt_pop (pv 4)))
        (pss_cons (ps_if (pt_cmpR op_ne (pe_callB call_len_seq (by rfl) G.mlen PySem.boot_len (pa_cons (pe_ix ix_tup (pe_ix ix_tup (pv 0) (pv 5) (fun _ _ => rfl)) pe_int (fun _ _ => rfl)) pa_nil)) (pe_callB call_len_seq (by rfl) G.mlen PySem.boot_len (pa_cons (pe_ix ix_tup (pe_ix ix_tup (pv 1) (pe_dget hr.units1 (pv 3) (pv 5) (fun _ _ => rfl)) (fun _ _ => rfl)) pe_int (fun _ _ => rfl)) pa_nil)) (nomark _)) (pss_one (ps_ret pe_non)) pss_nil)
        (pss_one (ps_for PassesOwn.never rfl (pi_zipA (by rfl) G.mzip (pa_cons (pe_ix ix_tup (pe_ix ix_tup (pv 0) (pv 5) (fun _ _ => rfl)) pe_int (fun _ _ => rfl)) (pa_cons (pe_ix ix_tup (pe_ix ix_tup (pv 1) (pe_dget hr.units1 (pv 3) (pv 5) (fun _ _ => rfl)) (fun _ _ => rfl)) pe_int (fun _ _ => rfl)) pa_nil))) (pg_tup (by rfl) (pgs_cons (pg_tup (by rfl) (pgs_cons (pg_name (i := 6) nd rfl (Or.inl rfl)) (pgs_cons (pg_name (i := 7) nd rfl (Or.inl rfl)) pgs_nil))) (pgs_cons (pg_tup (by rfl) (pgs_cons (pg_name (i := 8) nd rfl (Or.inl rfl)) (pgs_cons (pg_name (i := 9) nd rfl (Or.inl rfl)) pgs_nil))) pgs_nil)))
          (pss_one (ps_if (pt_cmp (pc_dnotin hr.units1 (pv 6) (pv 3))) (pss_cons (ps_dput hr.units1 (pv 3) (pv 6) (pv 8) rfl)
              (pss_one (ps_expr (pe_bm PySem.F.plainAttrs_list PySem.F.slot_list_append PySem.F.type_list_append mt_append (pv 4) (pa_cons (pv 6) pa_nil))))) pss_nil)))))))
      (pss_one (ps_ret (pe_callTy call_tuple_of (by rfl) G.mtuple (by decide +kernel) (pa_cons (pe_lc (own := [("_law_h", 5)]) (g := (gName 5)) (tt := tYes) (te := (tDGet (tVar 3) (tVar 5)))
          (by rfl) nd (pi_range1 (by rfl) G.mrange (pa_cons (pe_callB call_len_seq (by rfl) G.mlen PySem.boot_len (pa_cons (pv 0) pa_nil)) pa_nil)) (blkOk_by (own := [("_law_h", 5)]) (N := nFro) (sc := defScope sFro) (by decide +kernel))
          (fun _ _ _ _ _ => by exact (pg_name (i := 5) nd rfl (Or.inl rfl))) (fun _ _ _ _ _ => by exact pts_nil) (fun _ _ _ _ _ => by exact (pe_dget hr.units1 (pv 3) (pv 5) (fun _ _ => rfl)))) pa_nil))))))), ?_⟩
    obtain ⟨hs, hAa, hAP⟩ := id hA
    obtain ⟨gs, hBa, hBP⟩ := id hB
    have hsl : hs.length = wa.length := Paired.length hAP
    have gsl : gs.length = wb.length := Paired.length hBP
    have pos := gA.pos
    refine fun D nD => ⟨_, rfl, upd_same, [(Sum.inl 0, natV fi)], rfl, (by show 1 ≤ 15; decide), ?_⟩
    have s1 : Same H (upd (upd H D (.dK [])) D (.dK (mergeK [] [(Sum.inl 0, natV fi)]))) := same_upd (same_new nD) nD
    have hD1 : (upd (upd H D (.dK [])) D (.dK (mergeK [] [(Sum.inl 0, natV fi)]))) D = some (.dK (kvC [(0, fi)])) := upd_same
    generalize (upd (upd H D (.dK [])) D (.dK (mergeK [] [(Sum.inl 0, natV fi)]))) = H1 at s1 hD1 ⊢
    refine ⟨(by show 1 ≤ sizeLine; decide), fun Wt nW => ?_⟩
    have nWH : H Wt = none := s1.free nW
    have neDW : D ≠ Wt := fun z => by rw [← z, hD1] at nW; cases nW
    have far0 := Far.zero (wa := wa) (wb := wb) (f := fi) pos fl
    have kr0 := KR.zero (n := wa.length) (f := fi) pos
    generalize hro : (List.replicate wa.length (none : Option Nat)).set 0 (some fi) = ro0 at far0 kr0
    have un0 : un ro0 ≤ 100 := by have := un_le ro0; rw [far0.len] at this; omega
    let Wv : Nat → St → Hp → Prop := fun m σ H3 => ∃ (c : Come) (ro : List (Option Nat)) (wt : List Nat) (o5 o6 o7 o8 o9 : Option V), m = 2 * un ro + wt.length ∧ σ = [some (.ref a), some (.ref b), some (natV fi), some (.ref D), some (.ref Wt), o5, o6, o7, o8, o9] ∧ Same H H3 ∧ H3 D = some (.dK (kvC c)) ∧ H3 Wt = some (.lst (wt.map natV)) ∧ Far wa wb fi ro wt (fun _ _ => False) ∧ KR c ro ∧ 2 * un ro + wt.length ≤ 300
    refine ⟨Wv, ⟨_, [(0, fi)], ro0, [0], none, none, none, none, none, rfl, rfl, s1.trans (same_new nW), same_new nW _ _ hD1, upd_same, far0, kr0, (by show 2 * un ro0 + 1 ≤ 300; omega)⟩, ?_⟩
    rintro m σ H3 ⟨c, ro, wt, o5, o6, o7, o8, o9, rfl, rfl, s3, hD, hW, far, kr, bnd⟩
    refine ⟨_, rfl, Wt, _, rfl, .inl (SqL.of hW), _, _, rfl, rfl, ?_⟩
    rw [List.length_map]
    refine ⟨_, rfl, ?_⟩
    dsimp only
    rcases List.eq_nil_or_concat wt with rfl | ⟨wt, h, rfl⟩
    · refine iteF ?_
      obtain ⟨r', er, cand⟩ := far.all gA
      subst er
      have rl : r'.length = wa.length := by have := far.len; rwa [List.length_map] at this
      refine ⟨_, rfl, a, _, rfl, .inr (SqT.of (s3 _ _ hAa)), _, rfl, (by rw [List.length_map]; omega), (by rw [List.length_map]; omega), fun R nR => ?_⟩
      rw [List.length_map, hsl, Int.toNat_natCast]
      refine lc_range (lo := 0) (fun i H4 => Same H3 H4 ∧ H4 R = some (.lst ((rowC c i).map V.int))) ⟨same_new nR, upd_same⟩ ?_ ?_
      · rintro i H4 hi ⟨s4, hR4⟩
        refine ⟨rfl, ?_⟩
        dsimp only [tYes]
        rw [if_pos rfl, natZ]
        have lk : lookC c i = some (r'[i]'(by omega)) := by
          rw [kr.look, List.getElem?_map, List.getElem?_eq_getElem (by omega)]
          rfl
        have dg : DGet H4 D (natV i) ((lookC c i).map natV) := by
          have := DGet.k (k := Sum.inl (i : Int)) (s4 _ _ hD)
          rw [kvC_look] at this
          exact this
        rw [lk] at dg
        refine ⟨_, rfl, _, rfl, D, _, rfl, dg, _, hR4, ?_, same_upd s4 nR, ?_⟩
        · unfold rowC
          rw [List.length_map, List.length_map, List.length_range, sizeLine_eq]
          omega
        · have rs := rowC_snoc c i
          rw [lk] at rs
          rw [upd_same, ← rs]
          rfl
      · rintro H4 ⟨s4, hR4⟩
        refine ⟨R, _, rfl, .inl ⟨SqL.of hR4, fun r nr => ?_⟩⟩
        refine k2 r _ _ ((s3.trans s4).trans (same_new nr)) ?_ cand
        rw [upd_same, ← kr.row, rl]
    rw [List.length_concat, decide_eq_true (show (0 : Int) < ((wt.length + 1 : Nat) : Int) by omega)]
    refine iteT ?_
    rw [List.concat_eq_append] at hW far bnd
    refine ⟨fun σ' H' => ∃ m', m' < 2 * un ro + (wt.length + 1) ∧ Wv m' σ' H', fun _ _ z => z, ?_⟩
    refine ⟨_, rfl, .inl ⟨rfl, _, SqL.of hW⟩, Wt, _, natV h, rfl, rfl, hW, last_nat wt h, ?_⟩
    rw [drop_nat]
    obtain ⟨x, ex⟩ := far.wait h (by simp)
    have xl := far.lt h x ex
    have hl : h < wa.length := by rw [← far.len]; exact (List.getElem?_eq_some_iff.mp ex).1
    have s4 : Same H (upd H3 Wt (.lst (wt.map natV))) := same_upd s3 nWH
    have hD4 : (upd H3 Wt (.lst (wt.map natV))) D = some (.dK (kvC c)) := by rw [upd_ne neDW]; exact hD
    have hW4 : (upd H3 Wt (.lst (wt.map natV))) Wt = some (.lst (wt.map natV)) := upd_same
    generalize (upd H3 Wt (.lst (wt.map natV))) = H4 at s4 hD4 hW4 ⊢
    obtain ⟨x1, b1, hd, ps, e1, at1, e2, e3, e4⟩ := web_hand (K := K) hAa hAP hl
    obtain ⟨x2, b2, hd2, qs, f1, at2', f2, f3, f4⟩ := web_hand (K := K) hBa hBP xl
    have pl1 : ps.length = hd.2.length := Paired.length e4
    have pl2 : qs.length = hd2.2.length := Paired.length f4
    have lkh : lookC c h = some x := by rw [kr.look, ex]; rfl
    have dg : DGet H4 D (natV h) (some (natV x)) := by
      have := DGet.k (k := Sum.inl (h : Int)) hD4
      rw [kvC_look, lkh] at this
      exact this
    refine ⟨_, rfl, _, rfl, a, _, _, _, rfl, rfl, SqT.of (s4 _ _ hAa), at1, x1, _, _, _, rfl, rfl, SqT.of (s4 _ _ e2), rfl, b1, _, rfl, .inr (SqT.of (s4 _ _ e3)), ?_⟩
    refine ⟨_, rfl, _, rfl, _, rfl, D, _, rfl, dg, b, _, _, _, rfl, rfl, SqT.of (s4 _ _ hBa), at2', x2, _, _, _, rfl, rfl, SqT.of (s4 _ _ f2), rfl, b2, _, rfl, .inr (SqT.of (s4 _ _ f3)), rfl, _, rfl, ?_⟩
    rw [List.length_map, List.length_map, pl1, pl2]
    refine ite2 (fun ne => ?_) (fun eq => ?_)
    · have hne : ¬ hd2.2.length = hd.2.length := fun z => by rw [z] at ne; simp at ne
      refine k1 H4 s4 fun M hM h0 => hne ?_
      obtain ⟨x', hd2', ex', _, e2', em⟩ := lead_at hM e1
      rw [far.only M hM h0 h x ex] at ex'
      have : x = x' := by have := Option.some.inj ex'; omega
      subst this
      rw [f1] at e2'
      cases e2'
      rw [em]
      unfold mapRow
      rw [List.length_map]
    have heq : hd2.2.length = hd.2.length := by simp at eq; omega
    refine ⟨_, rfl, _, rfl, a, _, _, _, rfl, rfl, SqT.of (s4 _ _ hAa), at1, x1, _, _, _, rfl, rfl, SqT.of (s4 _ _ e2), rfl, _, rfl, _, rfl, _, rfl, D, _, rfl, dg, b, _, _, _, rfl, rfl, SqT.of (s4 _ _ hBa), at2', x2, _, _, _, rfl, rfl, SqT.of (s4 _ _ f2), rfl, ?_⟩
    refine ⟨b1, b2, _, _, rfl, .inr ⟨SqT.of (s4 _ _ e3), SqT.of (s4 _ _ f3), ?_⟩⟩
    refine for_zipM (K := K) (a := b1) (b := b2) (xs := ps.map V.ref) (ys := qs.map V.ref) (fun i σ H5 => ∃ (c' : Come) (ro' : List (Option Nat)) (wt' : List Nat) (o6 o7 o8 o9 : Option V), σ = [some (.ref a), some (.ref b), some (natV fi), some (.ref D), some (.ref Wt), some (natV h), o6, o7, o8, o9] ∧
        Same H H5 ∧ H5 D = some (.dK (kvC c')) ∧ H5 Wt = some (.lst (wt'.map natV)) ∧ Far wa wb fi ro' wt' (fun h' p => h' = h ∧ i ≤ p) ∧ KR c' ro' ∧ ro'[h]? = some (some x) ∧ 2 * un ro' + wt'.length ≤ 2 * un ro + wt.length)
      ⟨c, ro, wt, _, _, _, _, rfl, s4, hD4, hW4, far.pop, kr, ex, Nat.le_refl _⟩ (fun i σ H5 ⟨_, _, _, _, _, _, _, _, s5, _⟩ => ⟨SqT.of (s5 _ _ e3), SqT.of (s5 _ _ f3)⟩) ?_ ?_
    · rintro i u v T σ H5 hu hv ⟨c', ro', wt', o6, o7, o8, o9, rfl, s5, hD5, hW5, far5, kr5, ex5, bnd5⟩ nT
      rw [List.getElem?_map] at hu hv
      obtain ⟨pa, epa, rfl⟩ := Option.map_eq_some_iff.mp hu
      obtain ⟨pb, epb, rfl⟩ := Option.map_eq_some_iff.mp hv
      obtain ⟨u, eu, hpa⟩ := paired_get e4 epa
      obtain ⟨v, ev, hpb⟩ := paired_get f4 epb
      obtain ⟨g, q, rfl, gl⟩ := gA.bnd h i u (by unfold pegOf; rw [e1]; exact eu)
      obtain ⟨y, r, rfl, yl⟩ := gB.bnd x i v (by unfold pegOf; rw [f1]; exact ev)
      have sT := same_new (o := .tup [.ref pa, .ref pb]) nT
      have s6 := s5.trans sT
      have hD6 := sT _ _ hD5
      have hW6 := sT _ _ hW5
      refine ⟨T, _, rfl, SqT.of upd_same, rfl, _, _, rfl, ⟨pa, _, rfl, SqT.of (s6 _ _ hpa), rfl, _, _, rfl, _, _, rfl, rfl, _, _, rfl, ⟨pb, _, rfl, SqT.of (s6 _ _ hpb), rfl, _, _, rfl, _, _, rfl, rfl, rfl, ?_⟩⟩⟩
      generalize (upd H5 T (.tup [.ref pa, .ref pb])) = H6 at sT s6 hD6 hW6 ⊢
      have eg : ro'[g]? = some (ro'[g]'(by rw [far5.len]; exact gl)) := List.getElem?_eq_getElem _
      generalize (ro'[g]'(by rw [far5.len]; exact gl)) = o at eg
      have lkg : lookC c' g = o := by rw [kr5.look, eg]; rfl
      have dg' : DGet H6 D (natV g) (o.map natV) := by
        have := DGet.k (k := Sum.inl (g : Int)) hD6
        rw [kvC_look, lkg] at this
        exact this
      refine ⟨_, rfl, _, rfl, D, _, rfl, dg', _, rfl, ?_⟩
      cases o with
      | some z =>
        refine iteF ?_
        exact ⟨c', ro', wt', _, _, _, _, rfl, s6, hD6, hW6, far5.seen e1 eu eg, kr5, ex5, bnd5⟩
      | none =>
        refine iteT ?_
        have usz := un_set (y := y) eg
        refine ⟨_, rfl, _, rfl, _, rfl, D, _, rfl, DPut.k (k := .inl (g : Int)) hD6 (by unfold kvC; rw [List.length_map, sizeLine_eq]; have := kr5.cnt; rw [far5.len] at this; omega), ?_⟩
        have es : putK (kvC c') (Sum.inl (g : Int)) (V.int (y : Int)) = kvC (c' ++ [(g, y)]) := kvC_snoc lkg
        rw [es]
        have s7 : Same H (upd H6 D (.dK (kvC (c' ++ [(g, y)])))) := same_upd s6 nD
        have hD7 : (upd H6 D (.dK (kvC (c' ++ [(g, y)])))) D = some (.dK (kvC (c' ++ [(g, y)]))) := upd_same
        have hW7 : (upd H6 D (.dK (kvC (c' ++ [(g, y)])))) Wt = some (.lst (wt'.map natV)) := by rw [upd_ne (Ne.symm neDW)]; exact hW6
        generalize (upd H6 D (.dK (kvC (c' ++ [(g, y)])))) = H7 at s7 hD7 hW7 ⊢
        have wl : wt'.length ≤ 300 := by
          rw [List.length_append] at bnd
          omega
        refine ⟨_, rfl, .inl ⟨rfl, _, SqL.of hW7⟩, _, rfl, Wt, _, _, rfl, rfl, hW7, (by rw [List.length_map, sizeLine_eq]; omega), ?_⟩
        refine ⟨c' ++ [(g, y)], ro'.set g (some y), wt' ++ [g], _, _, _, _, rfl, same_upd s7 nWH, (by rw [upd_ne neDW]; exact hD7), (by rw [upd_same, List.map_append]; rfl), far5.put e1 ex5 f1 eu ev yl gl eg, kr5.put eg, ?_, ?_⟩
        · rw [List.getElem?_set_ne (fun z => by rw [z, ex5] at eg; cases eg)]
          exact ex5
        · rw [List.length_append]
          show 2 * un (ro'.set g (some y)) + (wt'.length + 1) ≤ _
          omega
    · rintro i σ H5 hi ⟨c', ro', wt', o6, o7, o8, o9, rfl, s5, hD5, hW5, far5, kr5, ex5, bnd5⟩
      rw [List.length_map, List.length_map, pl1, pl2] at hi
      refine ⟨2 * un ro' + wt'.length, ?_, c', ro', wt', _, _, _, _, _, rfl, rfl, s5, hD5, hW5, far5.over e1 (by omega), kr5, ?_⟩
      · omega
      · rw [List.length_append] at bnd
        have : (wt.length + [h].length) = wt.length + 1 := rfl
        omega
end
end NH
set_option Elab.async false
set_option linter.all false
set_option maxRecDepth 100000
set_option maxHeartbeats 1000000
set_option Elab.async false
set_option linter.all false
set_option maxRecDepth 100000
set_option maxHeartbeats 2000000
set_option Elab.async false
set_option linter.all false
set_option maxRecDepth 100000
set_option maxHeartbeats 1000000
set_option Elab.async false
set_option linter.all false
set_option maxRecDepth 100000
set_option maxHeartbeats 1000000
namespace NH
open PySem PySem.SetTable
section
variable {K : Type} [DecidableEq K]
abbrev Row (K : Type) := List (Nat × K × Addr)
variable {hash : K → Int} {t : SetTable} {L : Row K}
end
end NH
set_option Elab.async false
set_option linter.all false
set_option maxRecDepth 100000
set_option maxHeartbeats 1000000
set_option Elab.async false
set_option linter.all false
set_option maxRecDepth 100000
set_option maxHeartbeats 2000000
set_option Elab.async false
set_option linter.all false
set_option maxRecDepth 100000
set_option maxHeartbeats 2000000
namespace NH
open PySem L2 PyProof.Rows
open PySem.SeqAt
section
variable {α : Type} [DecidableEq α] {f : α → PyData}
abbrev setO (es : Array (Int × Value)) (ep : Nat) (t : SetTable) : Obj := { cls := .type "set", dict := none, data := .set es ep t }
variable {prog : Program} {w : World} {A : Around} {E : Value → Shared → Prop} {s : Shared} {S : Addr} {ep : Nat} {t : SetTable} {L : Row α}
end
end NH
set_option Elab.async false
set_option linter.all false
set_option maxRecDepth 100000
set_option maxHeartbeats 2000000
namespace NH
open PySem L2 PyProof.Rows
open PySem.SeqAt
section
variable {α : Type} [DecidableEq α] {f : α → PyData}
def Old (h h' : Heap) : Prop := ∀ b o, h.get? b = some o → h'.get? b = some o
variable {prog : Program} {w : World}
end
end NH
set_option Elab.async false
set_option linter.all false
set_option maxRecDepth 100000
set_option maxHeartbeats 4000000
namespace NH
open PySem L2 PyProof.Rows
open PySem.SeqAt
def byTextW (w : World) : Bool := w.params.followText "set-order"
section
variable {prog : Program} {w : World} {A : Around} {E : Value → Shared → Prop} {s : Shared}
theorem set_new (x : Value) {Q : Value → Shared → Prop} (q : Q (.ref s.heap.objs.size) { s with heap := s.heap.push (setO #[] 0 (.fresh 0 0 (!byTextW w))) }) :
    codeAny (model prog w) A (.call (.builtin "set.__new__") ⟨[.type "set", x], []⟩) (wants Q E) s := by
  refine codeAny_of_tree (?_ : wpAny _ A.in1 (checkBuiltinCall "set.__new__" ⟨[.type "set", x], []⟩ >>= fun _ => again (.builtin "set.__new__" ⟨[.type "set", x], []⟩)) _ _ s)
  refine wpAny_bind (wpAny_of_eq (PySem.F.newCall_set_1 x) (wpAny_pure ⟨plainId_quiet PySem.F.plain_set_new _, ?_⟩))
  refine codeAny_builtin PySem.F.entry_set_new ?_
  rw [Around.under_plainId PySem.F.plain_set_new _]
  have f1 := PySem.sub_set_self
  obtain ⟨hp, gs, dr, tk, os⟩ := s
  unfold Builtin.«set.__new__» Builtin.Frozenset.newClass
  wp_walk
  refine wpAny_askSetting (wpAny_pure ?_)
  unfold newObj
  refine wpAny_bind (wpAny_alloc (wpAny_pure (wpAny_pure ?_)))
  exact q
variable {α : Type} [DecidableEq α] {f : α → PyData}
end
end NH
set_option Elab.async false
set_option linter.all false
set_option maxRecDepth 100000
set_option maxHeartbeats 4000000
set_option Elab.async false
set_option linter.all false
set_option maxRecDepth 100000
set_option maxHeartbeats 4000000
set_option Elab.async false
set_option linter.all false
set_option maxRecDepth 100000
set_option maxHeartbeats 4000000
set_option Elab.async false
set_option linter.all false
set_option maxRecDepth 100000
set_option maxHeartbeats 4000000
set_option Elab.async false
set_option linter.all false
set_option maxRecDepth 100000
set_option maxHeartbeats 4000000
namespace NH
open PySem L2 PyProof.Rows PySem.W
open PySem.SeqAt
def ltPeg (p q : PegD) : Bool := decide (p.1 < q.1 ∨ (p.1 = q.1 ∧ p.2 < q.2))
theorem ltPeg_tr {a b c : PegD} (h1 : ltPeg a b = true) (h2 : ltPeg b c = true) : ltPeg a c = true := by
  unfold ltPeg at *
  simp only [decide_eq_true_eq] at *
  omega
theorem ltPeg_tot {a b : PegD} (h : a ≠ b) (h1 : ltPeg a b = false) : ltPeg b a = true := by
  unfold ltPeg at *
  simp only [decide_eq_true_eq, decide_eq_false_iff_not] at *
  have : ¬ (a.1 = b.1 ∧ a.2 = b.2) := fun z => h (Prod.ext z.1 z.2)
  omega
end NH
set_option Elab.async false
set_option linter.all false
set_option maxRecDepth 100000
set_option maxHeartbeats 4000000
set_option Elab.async false
set_option linter.all false
set_option maxRecDepth 100000
set_option maxHeartbeats 4000000
set_option Elab.async false
set_option linter.all false
set_option maxRecDepth 100000
set_option maxHeartbeats 4000000
set_option Elab.async false
set_option linter.all false
set_option maxRecDepth 100000
set_option maxHeartbeats 4000000
set_option Elab.async false
set_option linter.all false
set_option maxRecDepth 100000
set_option maxHeartbeats 4000000
namespace NH
open PySem L2
section
variable {α : Type} [DecidableEq α] {lt : α → α → Bool}
structure Tot (lt : α → α → Bool) : Prop where
  tr : ∀ a b c, lt a b = true → lt b c = true → lt a c = true
  tot : ∀ a b, a ≠ b → lt a b = false → lt b a = true
  irr : ∀ a, lt a a = false
end
theorem tot_peg : Tot ltPeg := ⟨fun a b c => ltPeg_tr, fun a b => ltPeg_tot, fun a => by unfold ltPeg; exact decide_eq_false (by omega)⟩
end NH
set_option Elab.async false
set_option linter.all false
set_option maxRecDepth 100000
set_option maxHeartbeats 2000000
set_option Elab.async false
set_option linter.all false
set_option maxRecDepth 100000
set_option maxHeartbeats 1000000
set_option Elab.async false
set_option linter.all false
set_option maxRecDepth 100000
set_option maxHeartbeats 1000000
set_option Elab.async false
set_option linter.all false
set_option maxRecDepth 100000
set_option maxHeartbeats 1000000
set_option Elab.async false
set_option linter.all false
set_option maxRecDepth 100000
set_option maxHeartbeats 1000000
set_option Elab.async false
set_option linter.all false
set_option maxRecDepth 100000
set_option maxHeartbeats 1000000
set_option Elab.async false
set_option linter.all false
set_option maxRecDepth 100000
set_option maxHeartbeats 1000000
set_option Elab.async false
set_option linter.all false
set_option maxRecDepth 100000
set_option maxHeartbeats 1000000
namespace NH
open PySem L2
structure GW (H : Hp) (a : Addr) : Prop where
  ex : ∃ wa, WebAt H a wa ∧ Good 4 wa ∧ wa.length ≤ 8
structure Pr (H : Hp) (v : V) : Prop where
  ex : ∃ (t a b : Addr), v = .ref t ∧ H t = some (.tup [.ref a, .ref b]) ∧ GW H a ∧ GW H b
structure PrL (H : Hp) (L : Addr) (n : Nat) : Prop where
  ex : ∃ vs, H L = some (.lst vs) ∧ vs.length = n ∧ ∀ v ∈ vs, Pr H v
theorem GW.tups {H H' : Hp} {a : Addr} (s : Tups H H') (h : GW H a) : GW H' a := let ⟨wa, e, k⟩ := h.ex; ⟨wa, e.tups s, k⟩
theorem Pr.tups {H H' : Hp} {v : V} (s : Tups H H') (h : Pr H v) : Pr H' v := let ⟨t, a, b, e, k, A, B⟩ := h.ex; ⟨t, a, b, e, s _ _ k, A.tups s, B.tups s⟩
theorem lead1_lead {wa wb : WebD} {f : Nat} {L : List Int} (h : lead1 wa wb f = some L) : leadB wa wb L = true := by
  unfold lead1 at h
  split at h
  · rename_i z
    cases h
    exact z.choose_spec.1
  · cases h
end NH
set_option Elab.async false
set_option linter.all false
set_option maxRecDepth 100000
set_option maxHeartbeats 1000000
namespace NH
open PySem L2
def asI (ld : List Nat) : List Int := ld.map fun n : Nat => (n : Int)
theorem ints_at? {ld : List Nat} {h g : Nat} (e : ld[h]? = some g) : (asI ld)[h]? = some (g : Int) := by unfold asI; rw [List.getElem?_map, e]; rfl
theorem lead_of_led {wa wb : WebD} {ld : List Nat} (L : Led wa wb ld) (bd : Bd wa) : leadB wa wb (asI ld) = true := by
  have ok : RowOk wb.length (asI ld) := fun r m => by
    obtain ⟨g, hg, rfl⟩ := List.mem_map.mp m
    obtain ⟨h, eh⟩ := List.getElem?_of_mem hg
    exact ⟨g, rfl, (L.lt eh).2⟩
  unfold leadB
  rw [Bool.and_eq_true, Bool.and_eq_true]
  refine ⟨⟨decide_eq_true (by unfold asI; rw [List.length_map, L.len]), rowOk_iff.mpr ok⟩, List.all_eq_true.mpr fun h m => ?_⟩
  have hl := List.mem_range.mp m
  have e : wa[h]? = some wa[h] := List.getElem?_eq_getElem hl
  obtain ⟨g, hd2, e1, e2, e3, e4⟩ := L.hand h _ e
  rw [agrAt_eq e (ints_at? e1) e2]
  unfold agrB
  rw [Bool.and_eq_true]
  refine ⟨by simp [e3], decide_eq_true (List.ext_getElem? fun p => ?_)⟩
  unfold mapRow
  rw [List.getElem?_map]
  by_cases hp : p < wa[h].2.length
  · have ep : wa[h].2[p]? = some (wa[h].2[p]) := List.getElem?_eq_getElem hp
    obtain ⟨h', q, ex, _⟩ := bd h p _ (by unfold pegOf; rw [e]; exact ep)
    rw [ex] at ep
    obtain ⟨g', eg', ep'⟩ := L.peg h p h' q g e1 (by unfold pegOf; rw [e]; exact ep)
    obtain ⟨hd2', f1, f2⟩ := pegOf_some ep'
    rw [e2] at f1
    cases f1
    rw [f2, ep]
    show some _ = some ((asI ld).getD ((h' : Int)).toNat 0, (q : Int))
    rw [Int.toNat_natCast, List.getD_eq_getElem?_getD, ints_at? eg']
    rfl
  · rw [List.getElem?_eq_none (by omega), List.getElem?_eq_none (by omega)]
    rfl
theorem led_of_lead {wa wb : WebD} {L : List Int} (bd : Bd wa) (hl : leadB wa wb L = true) : ∃ ld, L = asI ld ∧ Led wa wb ld := by
  have len := lead_len hl
  have ok : RowOk wb.length L := by
    unfold leadB at hl
    rw [Bool.and_eq_true, Bool.and_eq_true] at hl
    exact rowOk_iff.mp hl.1.2
  have eL : L = asI (L.map Int.toNat) := by
    unfold asI
    rw [List.map_map]
    refine (List.map_congr_left fun r m => ?_).symm.trans (List.map_id L) |>.symm
    obtain ⟨n, rfl, _⟩ := ok r m
    simp
  refine ⟨L.map Int.toNat, eL, ?_⟩
  generalize L.map Int.toNat = ld at eL
  subst eL
  have back : ∀ {h : Nat} {x : Int}, (asI ld)[h]? = some x → ∃ g : Nat, ld[h]? = some g ∧ x = (g : Int) := fun {h x} e => by
    unfold asI at e
    rw [List.getElem?_map] at e
    obtain ⟨g, eg, rfl⟩ := Option.map_eq_some_iff.mp e
    exact ⟨g, eg, rfl⟩
  have len' : ld.length = wa.length := by unfold asI at len; rwa [List.length_map] at len
  refine ⟨len', fun h hd' e => ?_, fun h p h' q g e1 e2 => ?_⟩
  · obtain ⟨x, hd2, ex, xl, e2, em⟩ := lead_at hl e
    obtain ⟨g, eg, z⟩ := back ex
    have : x = g := by omega
    subst this
    refine ⟨x, hd2, eg, e2, ?_, by rw [em]; unfold mapRow; rw [List.length_map]⟩
    unfold leadB at hl
    rw [Bool.and_eq_true, Bool.and_eq_true] at hl
    have a := List.all_eq_true.mp hl.2 h (List.mem_range.mpr (List.getElem?_eq_some_iff.mp e).1)
    rw [agrAt_eq e ex e2] at a
    unfold agrB at a
    rw [Bool.and_eq_true] at a
    have := of_decide_eq_true a.1
    first | exact this | exact this.symm
  · obtain ⟨hd, f1, f2⟩ := pegOf_some e2
    obtain ⟨x, hd2, ex, _, e3, _⟩ := lead_at hl f1
    obtain ⟨g0, eg, z⟩ := back ex
    rw [e1] at eg
    have : x = g := by have := Option.some.inj eg; omega
    subst this
    have a := lead_peg hl f1 ex e3 f2
    obtain ⟨g', q', ex', gl⟩ := bd h p _ e2
    obtain ⟨z1, z2⟩ := nat_pair (congrArg some ex')
    have hlt : h' < ld.length := by omega
    refine ⟨ld[h'], List.getElem?_eq_getElem hlt, ?_⟩
    unfold pegOf
    rw [e3]
    show hd2.2[p]? = _
    rw [a, List.getD_eq_getElem?_getD, ints_at? (List.getElem?_eq_getElem hlt)]
    rfl
end NH
set_option Elab.async false
set_option linter.all false
set_option maxRecDepth 100000
set_option maxHeartbeats 1000000
namespace NH
open PySem L2
theorem nd_sub {α : Type} [BEq α] [LawfulBEq α] : ∀ {l m : List α}, l.Nodup → (∀ x ∈ l, x ∈ m) → l.length ≤ m.length
  | [], _, _, _ => Nat.zero_le _
  | x :: l, m, nd, h => by
    obtain ⟨n1, n2⟩ := List.nodup_cons.mp nd
    have xm := h x (List.mem_cons_self ..)
    have ih := nd_sub (l := l) (m := m.erase x) n2 fun y my => (List.mem_erase_of_ne (fun z => n1 (by rw [← z]; exact my))).mpr (h y (List.mem_cons_of_mem _ my))
    rw [List.length_erase_of_mem xm] at ih
    have : 0 < m.length := List.length_pos_of_mem xm
    rw [List.length_cons]
    omega
def fibr (ld : List Nat) (g : Nat) : List Nat := (List.range ld.length).filter fun h => decide (ld[h]? = some g)
theorem fibr_mem {ld : List Nat} {g h : Nat} : h ∈ fibr ld g ↔ ld[h]? = some g := by
  unfold fibr
  rw [List.mem_filter, List.mem_range, decide_eq_true_iff]
  exact ⟨fun z => z.2, fun z => ⟨(List.getElem?_eq_some_iff.mp z).1, z⟩⟩
theorem fibr_nodup (ld : List Nat) (g : Nat) : (fibr ld g).Nodup := List.nodup_range.filter _
theorem fibr_count (ld : List Nat) (g : Nat) : ld.count g = (fibr ld g).length := by
  have e : ld = (List.range ld.length).map fun h => ld.getD h 0 := by
    refine List.ext_getElem? fun j => ?_
    rw [List.getElem?_map]
    by_cases hj : j < ld.length
    · rw [List.getElem?_range hj, List.getElem?_eq_getElem hj]
      show _ = some (ld.getD j 0)
      rw [List.getD_eq_getElem?_getD, List.getElem?_eq_getElem hj]
      rfl
    · rw [List.getElem?_eq_none (by omega), List.getElem?_eq_none (by rw [List.length_range]; omega)]
      rfl
  unfold fibr
  rw [← List.countP_eq_length_filter]
  conv => lhs; rw [e]
  rw [List.count_eq_countP, List.countP_map]
  refine List.countP_congr fun h m => ?_
  have hl := List.mem_range.mp m
  show (ld.getD h 0 == g) = true ↔ decide (ld[h]? = some g) = true
  rw [List.getD_eq_getElem?_getD, List.getElem?_eq_getElem hl]
  simp
section
variable {w' w : WebD} {ld : List Nat} {r r' : Nat}
theorem Led.tie_le (L : Led w' w ld) (g' : Good r' w') {a p b q : Nat} (e : pegOf w a p = some ((b : Int), (q : Int))) : ld.count a ≤ ld.count b := by
  rw [fibr_count, fibr_count]
  let t : Nat → Nat := fun h => ((pegOf w' h p).map fun x => x.1.toNat).getD 0
  have key : ∀ h, ld[h]? = some a → ∃ h' : Nat, pegOf w' h p = some ((h' : Int), (q : Int)) ∧ ld[h']? = some b ∧ t h = h' ∧ pegOf w' h' q = some ((h : Int), (p : Int)) := fun h eh => by
    obtain ⟨hl, _⟩ := L.lt eh
    have f1 : w'[h]? = some w'[h] := List.getElem?_eq_getElem hl
    obtain ⟨a', hd, f2, f3, _, f5⟩ := L.hand h _ f1
    rw [eh] at f2
    cases f2
    obtain ⟨hd', f6, f7⟩ := pegOf_some e
    rw [f3] at f6
    cases f6
    have pl : p < w'[h].2.length := by rw [← f5]; exact (List.getElem?_eq_some_iff.mp f7).1
    have f8 : pegOf w' h p = some (w'[h].2[p]'pl) := by unfold pegOf; rw [f1]; exact List.getElem?_eq_getElem pl
    obtain ⟨h', q', f9, f10⟩ := g'.tie h p _ f8
    rw [f9] at f8
    obtain ⟨b', f11, f12⟩ := L.peg h p h' q' a eh f8
    rw [e] at f12
    obtain ⟨z1, z2⟩ := nat_pair f12
    subst z1 z2
    refine ⟨h', f8, f11, ?_, f10⟩
    show ((pegOf w' h p).map fun x => x.1.toNat).getD 0 = h'
    rw [f8]
    exact Int.toNat_natCast h'
  have nd : ((fibr ld a).map t).Nodup := by
    unfold List.Nodup
    rw [List.pairwise_map]
    refine List.Pairwise.imp_of_mem (fun {x y} mx my ne z => ne ?_) (fibr_nodup ld a)
    obtain ⟨x', _, _, tx, bx⟩ := key x (fibr_mem.mp mx)
    obtain ⟨y', _, _, ty, by_⟩ := key y (fibr_mem.mp my)
    rw [tx, ty] at z
    subst z
    rw [bx] at by_
    exact (nat_pair by_).1
  have := nd_sub (m := fibr ld b) nd fun z mz => by
    obtain ⟨h, mh, rfl⟩ := List.mem_map.mp mz
    obtain ⟨h', _, e2, th, _⟩ := key h (fibr_mem.mp mh)
    rw [th]
    exact fibr_mem.mpr e2
  rwa [List.length_map] at this
theorem Led.even (L : Led w' w ld) (g' : Good r' w') (g : Good r w) {a b : Nat} (ha : a < w.length) (hb : b < w.length) : ld.count a = ld.count b := by
  refine g.conn (fun x => ld.count a = ld.count x) (fun h p k q e s => ?_) a b ha hb rfl
  obtain ⟨k', q', z, e'⟩ := g.tie h p _ e
  obtain ⟨z1, z2⟩ := nat_pair (congrArg some z)
  subst z1 z2
  have l1 := L.tie_le g' e
  have l2 := L.tie_le g' e'
  show ld.count a = ld.count k
  have s : ld.count a = ld.count h := s
  omega
end
end NH
set_option Elab.async false
set_option linter.all false
set_option maxRecDepth 100000
set_option maxHeartbeats 1000000
set_option Elab.async false
set_option linter.all false
set_option maxRecDepth 100000
set_option maxHeartbeats 1000000
namespace NH
open PySem L2
def RowD (H : Hp) (a : Addr) (r : List Int) : Prop := TupD H a (r.map V.int)
def RowR (H : Hp) (a : Addr) (r : List Int) : Prop := RowI H a r ∨ RowD H a r
theorem TupD.keep {T : Addr} {H H' : Hp} {r : Addr} {xs : List V} (h : TupD H r xs) (t : TblAt H T) (s : StepT T H H') : TupD H' r xs := by
  obtain ⟨o, e, c⟩ := h
  exact ⟨o, s.keep r _ (fun z => by obtain ⟨ps, et, _⟩ := t.ex; rw [z, et] at e; cases e) e, c⟩
theorem TupD.upd {H : Hp} {r D : Addr} {xs l : List V} {o' : HO} (h : TupD H r xs) (hD : H D = some (.lst l)) : TupD (upd H D o') r xs := by
  obtain ⟨o, e, c⟩ := h
  exact ⟨o, by rw [upd_ne (fun z => by rw [z, hD] at e; cases e)]; exact e, c⟩
theorem RowR.sq {K : PySem.W.Frag} {H : Hp} {a : Addr} {r : List Int} (h : RowR H a r) : SqT K H a (r.map V.int) := by
  rcases h with h | h
  · exact SqT.of h
  · exact TupD.sq h
theorem RowR.same {H H' : Hp} {a : Addr} {r : List Int} (s : Same H H') (h : RowR H a r) : RowR H' a r := by
  rcases h with h | h
  · exact .inl (s _ _ h)
  · exact .inr (TupD.same s h)
theorem RowR.step {T : Addr} {H H' : Hp} {a : Addr} {r : List Int} (h : RowR H a r) (t : TblAt H T) (s : StepT T H H') : RowR H' a r := by
  rcases h with h | h
  · exact .inl (s.tups t _ _ h)
  · exact .inr (TupD.keep h t s)
structure RowsD (H : Hp) (L : Addr) (rs : List (List Int)) : Prop where
  ex : ∃ as : List Addr, H L = some (.lst (as.map V.ref)) ∧ Paired (RowD H) as rs
def RVD (wa wb : WebD) (H : Hp) (v : V) (f : Nat) : Prop := (v = .non ∧ ∀ L, leadB wa wb L = true → L[0]? = some (f : Int) → False) ∨ ∃ r row, v = .ref r ∧ RowD H r row ∧ Cand wa wb f row
theorem RVD.map {wa wb : WebD} {H H' : Hp} {v : V} {f : Nat} (s : ∀ r row, RowD H r row → RowD H' r row) (h : RVD wa wb H v f) : RVD wa wb H' v f := by
  rcases h with h | ⟨r, row, e, k, c⟩
  · exact .inl h
  · exact .inr ⟨r, row, e, s _ _ k, c⟩
def spAgrR : Sp := fun vs H Q _ => ∃ (a b c : Addr) (wa wb : WebD) (row : List Int) (h : Nat), vs = [.ref a, .ref b, .ref c, natV h] ∧ WebAt H a wa ∧ WebAt H b wb ∧ RowR H c row ∧ Sh wa ∧ Sh wb ∧ row.length = wa.length ∧ RowOk wb.length row ∧ h < wa.length ∧
  ∀ H', Same H H' → Q (.bl (agrAt wa wb row h)) H'
def spLeadR (T : Addr) : Sp := fun vs H Q _ => ∃ (a b c : Addr) (wa wb : WebD) (row : List Int), vs = [.ref a, .ref b, .ref c] ∧ WebAt H a wa ∧ WebAt H b wb ∧ RowR H c row ∧ Sh wa ∧ Sh wb ∧ TblAt H T ∧
  ∀ H', StepT T H H' → Q (.bl (leadB wa wb row)) H'
def spRfD : Sp := fun vs H Q _ => ∃ (a b : Addr) (wa wb : WebD) (f : Nat), vs = [.ref a, .ref b, natV f] ∧ WebAt H a wa ∧ WebAt H b wb ∧ Good 4 wa ∧ Good 4 wb ∧ wa.length ≤ 100 ∧ wb.length ≤ 100 ∧ f < wb.length ∧
  (∀ H', Same H H' → (∀ L, leadB wa wb L = true → L[0]? = some (f : Int) → False) → Q .non H') ∧ ∀ (r : Addr) (row : List Int) (H' : Hp), Same H H' → RowD H' r row → Cand wa wb f row → Q (.ref r) H'
def spLdgD (T : Addr) : Sp := fun vs H Q _ => ∃ (a b : Addr) (wa wb : WebD), vs = [.ref a, .ref b] ∧ WebAt H a wa ∧ WebAt H b wb ∧ Good 4 wa ∧ Good 4 wb ∧ wa.length ≤ 100 ∧ wb.length ≤ 100 ∧ TblAt H T ∧
  ∀ (L : Addr) (H' : Hp), H L = none → StepT T H H' → RowsD H' L (leadsD wa wb wb.length) → Q (.ref L) H'
end NH
namespace NH
open PySem L2
theorem asI_V (ld : List Nat) : (asI ld).map V.int = ld.map natV := by unfold asI; rw [List.map_map]; rfl
end NH
namespace NH
open PySem L2
theorem StepT.seqL {K : PySem.W.Frag} {T : Addr} {H H' : Hp} {a : Addr} {xs : List V} (e : StepT T H H') (tb : TblAt H T) (h : SqL K H a xs) : SqL K H' a xs := by
  obtain ⟨ps, et, _⟩ := tb.ex
  rcases h with (h | ⟨o, h⟩) | h
  · exact .inl (.inl (e.keep _ _ (fun z => by rw [z, et] at h; cases h) h))
  · exact .inl (.inr ⟨o, e.keep _ _ (fun z => by rw [z, et] at h; cases h) h⟩)
  · exact .inr h
theorem leadsD_lead {wa wb : WebD} {n : Nat} {r : List Int} (m : r ∈ leadsD wa wb n) : leadB wa wb r = true := by
  unfold leadsD at m
  obtain ⟨f, _, e⟩ := List.mem_filterMap.mp m
  exact lead1_lead e
end NH
set_option Elab.async false
set_option linter.all false
set_option maxRecDepth 100000
set_option maxHeartbeats 1000000
namespace NH
open PySem L2
section
variable {w w' v v' : WebD} {S S' ld : List Nat} {m : Int}
theorem pegOf_mark (r : MapOf (mkH S m) w v) (h p : Nat) : pegOf v h p = pegOf w h p := by
  unfold pegOf
  by_cases hl : h < w.length
  · have e : w[h]? = some w[h] := List.getElem?_eq_getElem hl
    rw [r.at_ h _ e, e]
    rfl
  · rw [List.getElem?_eq_none (by rw [r.len]; omega), List.getElem?_eq_none (by omega)]
theorem Good.marked {room : Nat} (g : Good room w) (r : MapOf (mkH S m) w v) (m0 : 0 ≤ m) (m9 : m ≤ 9) : Good room v := by
  refine ⟨by rw [r.len]; exact g.pos, fun h hd e => ?_, fun h hd e => ?_, fun h p x e => ?_, fun T cl a b ha hb ta => ?_⟩
  · obtain ⟨hd', e1, rfl⟩ := r.from_ e
    show 0 ≤ (if h ∈ S then m else hd'.1) ∧ (if h ∈ S then m else hd'.1) ≤ 9
    split
    · exact ⟨m0, m9⟩
    · exact g.mark h hd' e1
  · obtain ⟨hd', e1, rfl⟩ := r.from_ e
    exact g.pegs h hd' e1
  · rw [pegOf_mark r] at e
    obtain ⟨k, q, z, t⟩ := g.tie h p x e
    exact ⟨k, q, z, by rw [pegOf_mark r]; exact t⟩
  · rw [r.len] at ha hb
    exact g.conn T (fun h p k q e => cl h p k q (by rw [pegOf_mark r]; exact e)) a b ha hb ta
end
end NH
set_option Elab.async false
set_option linter.all false
set_option maxRecDepth 100000
set_option maxHeartbeats 1000000
namespace NH
open PySem L2
section
variable {u v w : WebD} {ld ld' : List Nat} {n m : Nat}
theorem Led.onto (L : Led u w ld) (gu : Good n u) (gw : Good m w) : ∀ g, g < w.length → g ∈ ld := fun g hg => by
  have h0 : 0 < ld.length := by rw [L.len]; exact gu.pos
  have e := List.getElem?_eq_getElem h0
  have g0 := (L.lt e).2
  have c := L.even gu gw g0 hg
  have : 0 < ld.count ld[0] := List.count_pos_iff.mpr (List.getElem_mem h0)
  exact List.count_pos_iff.mp (by omega)
end
noncomputable def sameD (wa wb : WebD) : Option (List Int) := if wa.length = wb.length then (leadsD wa wb wb.length).head? else none
def OptR (H : Hp) (v : V) : Option (List Int) → Prop
  | none => v = .non
  | some r => ∃ b : Addr, v = .ref b ∧ RowD H b r
def spSam (T : Addr) : Sp := fun vs H Q _ => ∃ (a b : Addr) (wa wb : WebD), vs = [.ref a, .ref b] ∧ WebAt H a wa ∧ WebAt H b wb ∧ Good 4 wa ∧ Good 4 wb ∧ wa.length ≤ 100 ∧ wb.length ≤ 100 ∧ TblAt H T ∧
  ∀ (v : V) (H' : Hp), StepT T H H' → OptR H' v (sameD wa wb) → Q v H'
theorem ne_webs {K : PySem.W.Frag} {H : Hp} {a b : Addr} {w w' : WebD} {Q : VK} (h : WebAt H a w) (h' : WebAt H b w') (q : Q (.bl (!decide (w = w'))) H) : rNeD K (.ref a) (.ref b) H Q :=
  ⟨_, _, dp_web h, dp_web h', enc_web.shaped (by decide) w, enc_web.shaped (by decide) w', by rw [enc_web.eq w w']; exact q⟩
end NH
set_option Elab.async false
set_option linter.all false
set_option maxRecDepth 100000
set_option maxHeartbeats 1000000
namespace L2
open PySem PySem.Spec PyProof.Rows
def Tu (H : Hp) (a : Addr) (xs : List V) : Prop := H a = some (.tup xs) ∨ ∃ o : Obj, H a = some (.frz o (.tup xs))
theorem Tu.sq {K : PySem.W.Frag} {H : Hp} {a : Addr} {xs : List V} : Tu H a xs → SqT K H a xs
  | .inl e => SqT.of e
  | .inr ⟨o, e⟩ => .inl (.inr ⟨o, e⟩)
theorem Tu.same {H H' : Hp} {a : Addr} {xs : List V} (s : ∀ b o, H b = some o → H' b = some o) : Tu H a xs → Tu H' a xs
  | .inl e => .inl (s _ _ e)
  | .inr ⟨o, e⟩ => .inr ⟨o, s _ _ e⟩
inductive TyD (K : PySem.W.Frag) (H : Hp) : V → Value → Prop where
  | any {x : V} {t : Value} : TyOf K H x t → TyD K H x t
  | frz {a : Addr} {o : Obj} {xs : List V} : H a = some (.frz o (.tup xs)) → TyD K H (.ref a) (.type "tuple")
theorem Tu.ty {K : PySem.W.Frag} {H : Hp} {a : Addr} {xs : List V} : Tu H a xs → TyD K H (.ref a) (.type "tuple")
  | .inl e => .any (.tup e)
  | .inr ⟨_, e⟩ => .frz e
section
variable {X : Cx} {pins : List (Addr × Obj)} {σ : St} {H : Hp} {s : Shared}
theorem tyD_kit {x : V} {u t : Value} (I : Inv X pins σ H s) (rx : RelV x u) (ty : TyD X.K H x t) : ∃ Hx : Heap → Prop, PySem.W.KitX X.K u t Hx ∧ Hx s.heap ∧ u ≠ .builtin "__main__.__loader__#opaque" := by
  cases ty with
  | any ty => exact ty_kit I rx ty
  | @frz a ob xs ea =>
    cases (show u = Value.ref a from rx)
    obtain ⟨_, _, its, _, p⟩ := (show ObjOk X.prog X.w H s.heap a (.frz ob (.tup xs)) from I.hok a _ ea)
    obtain ⟨o, h1, h2, _⟩ := p
    exact ⟨_, PySem.W.kitx_tuple, ⟨o, h1, h2⟩, fun z => nomatch z⟩
end
def rIsiD (K : PySem.W.Frag) : List V → Hp → VK → Prop := fun xs H Q => ∃ x c t u b, xs = [x, c] ∧ TyD K H x t ∧ clsV c u ∧ PySem.W.kitOne K t u = some b ∧ Q (.bl b) H
theorem call_isiD {X : Cx} : CallR X (.builtin "isinstance") (rIsiD X.K) := by
  intro pins s σ H xs us Q I r h
  obtain ⟨x, c, t, cu, b, rfl, ty, hc, hk, q⟩ := h
  obtain ⟨u, w', rfl, r1, r2⟩ := vals2 r
  have ew : w' = cu := by
    cases c <;> first | exact (show False from hc).elim | exact r2.trans hc.symm
  rw [ew]
  obtain ⟨Hx, kx, hx, ne⟩ := tyD_kit I r1 ty
  exact PySem.W.kia_one kx I.kIn hx hk ne fun tk => ⟨.bl b, H, I.tok tk, rfl, q⟩
def rIsiTD (K : PySem.W.Frag) : List V → Hp → VK → Prop := fun xs H Q => ∃ x p t b, ∃ ns : List String, xs = [x, .ref p] ∧ TyD K H x t ∧ H p = some (.tup (ns.map V.ty)) ∧ PySem.W.kitAny K t (ns.map Value.type) = some b ∧ Q (.bl b) H
theorem call_isiTD {X : Cx} : CallR X (.builtin "isinstance") (rIsiTD X.K) := by
  intro pins s σ H xs us Q I r h
  obtain ⟨x, p, t, b, ns, rfl, ty, hp, hk, q⟩ := h
  obtain ⟨u, w', rfl, r1, r2⟩ := vals2 r
  have ew : w' = Value.ref p := r2
  rw [ew]
  obtain ⟨Hx, kx, hx, ne⟩ := tyD_kit I r1 ty
  obtain ⟨_, us', rv, ⟨o, ho, hc, n, hd⟩⟩ := (show ObjOk X.prog X.w H s.heap p (.tup (ns.map V.ty)) from I.hok p _ hp)
  rw [vals_ty rv] at hd
  obtain ⟨cls, dd, data, sl⟩ := o
  cases hc
  cases hd
  exact PySem.W.kia_tup kx I.kIn hx ho hk ne fun tk => ⟨.bl b, H, I.tok tk, rfl, q⟩
end L2
namespace NH
open PySem L2
theorem TupD.tu {H : Hp} {r : Addr} {xs : List V} : TupD H r xs → Tu H r xs
  | ⟨o, e, _⟩ => .inr ⟨o, e⟩
def AlkD (H : Hp) : Nat → V → V → Prop
  | 0, _, _ => False
  | n + 1, x, y => (x = y ∧ flatV x = true) ∨ ∃ a b xs ys, x = .ref a ∧ y = .ref b ∧ ((H a = some (.lst xs) ∧ H b = some (.lst ys)) ∨ (Tu H a xs ∧ Tu H b ys)) ∧ xs.length ≤ 100000 ∧ Paired (AlkD H n) xs ys
theorem AlkD.same {H H' : Hp} (s : Same H H') : ∀ {n : Nat} {x y : V}, AlkD H n x y → AlkD H' n x y
  | 0, _, _, h => h
  | n + 1, x, y, .inl h => .inl h
  | n + 1, x, y, .inr ⟨a, b, xs, ys, e1, e2, .inl ⟨u, v⟩, hl, hp⟩ => .inr ⟨a, b, xs, ys, e1, e2, .inl ⟨s _ _ u, s _ _ v⟩, hl, Paired.mapP hp fun _ _ z => AlkD.same s z⟩
  | n + 1, x, y, .inr ⟨a, b, xs, ys, e1, e2, .inr ⟨u, v⟩, hl, hp⟩ => .inr ⟨a, b, xs, ys, e1, e2, .inr ⟨u.same s, v.same s⟩, hl, Paired.mapP hp fun _ _ z => AlkD.same s z⟩
theorem AlkD.mono {H : Hp} : ∀ {n m : Nat} {x y : V}, n ≤ m → AlkD H n x y → AlkD H m x y
  | 0, _, _, _, _, h => h.elim
  | n + 1, 0, _, _, l, _ => absurd l (Nat.not_succ_le_zero _)
  | n + 1, m + 1, x, y, l, .inl h => .inl h
  | n + 1, m + 1, x, y, l, .inr ⟨a, b, xs, ys, e1, e2, hh, hl, hp⟩ => .inr ⟨a, b, xs, ys, e1, e2, hh, hl, Paired.mapP hp fun _ _ z => AlkD.mono (by omega) z⟩
theorem AlkD.flat {H : Hp} {x : V} (h : flatV x = true) (n : Nat) : AlkD H (n + 1) x x := .inl ⟨rfl, h⟩
theorem alkD_flats {H : Hp} {n : Nat} : ∀ {l : List V}, (∀ x ∈ l, flatV x = true) → Paired (AlkD H (n + 1)) l l
  | [], _ => .nil
  | x :: l, h => .cons (AlkD.flat (h x List.mem_cons_self) n) (alkD_flats fun y hy => h y (List.mem_cons_of_mem _ hy))
def spAlikeD (n : Nat) : Sp := fun vs H Q _ => ∃ x y, vs = [x, y] ∧ AlkD H n x y ∧ ∀ H', Same H H' → Q (.bl true) H'
end NH
set_option Elab.async false
set_option linter.all false
set_option maxRecDepth 100000
set_option maxHeartbeats 1000000
namespace L2
open PySem PySem.Spec PyProof.Rows
theorem toks_num : ∀ {ns : List Int} {us : List Value}, Vals (ns.map V.int) us → ∃ xs : List (Int × Tok), us = xs.map (fun p => Value.int p.1 p.2) ∧ ns = xs.map (·.1)
  | [], us, r => by cases r; exact ⟨[], rfl, rfl⟩
  | n :: ns, us, r => by
    rw [List.map_cons] at r
    cases r with
    | @cons _ u _ us h t =>
      obtain ⟨xs, e1, e2⟩ := toks_num (ns := ns) t
      obtain ⟨k, rfl⟩ := (show ∃ k, u = Value.int n k from h)
      exact ⟨(n, k) :: xs, by rw [e1]; rfl, by rw [e2]; rfl⟩
end L2
set_option Elab.async false
set_option linter.all false
set_option maxRecDepth 100000
set_option maxHeartbeats 4000000
namespace NH
open PySem PySem.Spec L2 PyProof.Rows
open PySem.SeqAt
theorem met_all (val : Nat → Int) : ∀ n, (firstMet val n).Nodup ∧ ∀ m, m ∈ firstMet val n ↔ m ∈ (List.range n).map val
  | 0 => ⟨List.nodup_nil, fun m => Iff.rfl⟩
  | n + 1 => by
    obtain ⟨d, e⟩ := met_all val n
    rw [firstMet_succ, List.range_succ, List.map_append]
    unfold step_dedup
    have an : (firstMet val n).any (· == val n) = true ↔ val n ∈ firstMet val n := by simp
    by_cases c : (firstMet val n).any (· == val n) = true
    · rw [if_pos c]
      refine ⟨d, fun m => ?_⟩
      rw [List.mem_append, ← e]
      refine ⟨.inl, fun z => ?_⟩
      rcases z with z | z
      · exact z
      · rw [List.mem_singleton.mp z]
        exact an.mp c
    · rw [if_neg c]
      refine ⟨List.nodup_append.mpr ⟨d, by simp, fun a ha b hb z => c (an.mpr ?_)⟩, fun m => ?_⟩
      · rw [List.mem_singleton.mp hb] at z
        rw [← z]
        exact ha
      · rw [List.mem_append, List.mem_append, e]
        exact Iff.rfl
section
variable {prog : Program} {w : World} {A : Around} {E : Value → Shared → Prop} {s : Shared}
abbrev metIs (prog : Program) (w : World) (h : Heap) (S : Addr) (val : Nat → Int) (n : Nat) : Prop := h.SetOf (intKind prog w) S (fun k => (firstMet val n).any (· == k)) (firstMet val n).length
theorem init_setT {l S : Addr} {xs : Array (Int × Tok)} {P : Fin → Shared → Prop} {led : Bool} (hh : A.handled = none) (hl : s.heap.IsTuple l (intItems xs)) (hn : (intItems xs).size ≤ 1000)
    (hS : s.heap.objs.size = S + 1) (ob : s.heap.get? S = some (setO #[] 0 (.fresh 0 0 led))) (lo : l < S)
    (q : ∀ (h' : Heap) (tk : Nat), (∀ b o, b < S → s.heap.get? b = some o → h'.get? b = some o) → metIs prog w h' S (PySem.numAt xs) (intItems xs).size → P (.done (.ret .none)) { s with heap := h', toks := tk }) :
    wpAny (model prog w) A (Builtin.«set.__init__» ⟨[.ref S, .ref l], []⟩) P E s := by
  obtain ⟨hp, gs, dr, tk, os⟩ := s
  replace ob : hp.get? S = some (setO #[] 0 (.fresh 0 0 led)) := ob
  replace hS : hp.objs.size = S + 1 := hS
  have ty : Shared.TypeIs ⟨hp, gs, dr, tk, os⟩ (.ref S) "set" := ⟨_, ob, rfl⟩
  obtain ⟨⟨oc, od, odt, osl⟩, e1, e2, nl, e3⟩ := id hl
  dsimp only at e1 e2 e3
  subst e2 e3
  have g1 : isSubtype (.type "tuple") (.type "set") = pure false := by rw [isSubtype_type]; kernel_rfl
  have g2 : isSubtype (.type "tuple") (.type "frozenset") = pure false := by rw [isSubtype_type]; kernel_rfl
  have g3 : (Value.type "tuple" == Value.type "dict") = false := by decide
  unfold Builtin.«set.__init__» noKeywords Builtin.Frozenset.updateFrom
  generalize hpi : pyIter = pyI
  wp_walk
  subst hpi
  refine wpAny_pyIter_tuple hl (wpAny_bind (wpAny_runValue ?_))
  have lI : l ≠ hp.objs.size := by rw [hS]; exact Nat.ne_of_lt (Nat.lt_succ_of_lt lo)
  have iter : (hp.push { cls := .type "tuple_iterator", data := .fields #[.ref l, .int 0 0] }).IsTupleIter hp.objs.size l 0 := ⟨_, Heap.get?_push_size _ rfl, rfl, rfl⟩
  refine codeAny_set_update_loopS (Walks.tuple (by simp [hh]) _ l lI (intItems xs)).toS S ?_ (PySem.numAt xs) (fun i v hv => intItems_at hv) (by unfold scanBound; omega) _ 0 _ rfl (Nat.zero_le _) ⟨iter, hl.push _⟩ ?_ ?_
  · rw [hS]
    intro z
    rcases List.mem_cons.mp z with z | z
    · exact absurd z (Nat.ne_of_lt (Nat.lt_succ_self S))
    · rw [List.mem_singleton.mp z] at lo
      exact absurd lo (Nat.lt_irrefl _)
  · exact SetOf_congr ((setObjOf_fresh (knd := intKind prog w) led).setOf (Heap.get?_push_of_some _ ob) (by unfold scanBound; omega)) (fun _ => rfl) rfl
  · intro s' hm hs'
    obtain ⟨h', g', d', tk', os'⟩ := s'
    obtain rfl : g' = gs := hm.gens
    obtain rfl : d' = dr := hm.drawn
    obtain rfl : os' = os := hm.os
    refine wpAny_pure (wpAny_pure (q h' tk' (fun b o lb e => hm.heap b o (fun z => ?_) (Heap.get?_push_of_some _ e)) hs'))
    rcases List.mem_cons.mp z with z | z
    · rw [z] at lb
      exact absurd lb (Nat.lt_irrefl _)
    · rw [List.mem_singleton.mp z, hS] at lb
      exact absurd lb (Nat.not_lt.mpr (Nat.le_succ S))
theorem call_setT {l : Addr} {xs : Array (Int × Tok)} {Q : Value → Shared → Prop} (hh : A.handled = none) (hl : s.heap.IsTuple l (intItems xs)) (hn : (intItems xs).size ≤ 1000)
    (q : ∀ (h' : Heap) (tk : Nat), Old s.heap h' → metIs prog w h' s.heap.objs.size (PySem.numAt xs) (intItems xs).size → Q (.ref s.heap.objs.size) { s with heap := h', toks := tk }) :
    wpAny (model prog w) A (call (.type "set") [.ref l]) Q E s := by
  have cs := PySem.F.called_set
  obtain ⟨c0, tl0, f1⟩ := cs.mro
  have f2 := cs.made
  have f3 := cs.sub
  have f4 := cs.notType
  have f5 := cs.canCreate
  have f6 := PySem.F.typeCall_set_1 (.ref l)
  refine wpAny_call (codeAny_of_tree (?_ : wpAny _ _ (callAny (.type "set") _) _ _ _))
  have qb : Code.quiet (.builtin "type.__call__" ⟨[.type "set", .ref l], []⟩) = true := Code.quiet_builtin _ (by decide +kernel)
  refine wpAny_pure ⟨qb, codeAny_builtin PySem.F.entry_type_call ?_⟩
  rw [Around.under_plain (weight_type_call_type "set" [.ref l] []) rfl]
  obtain ⟨hp, gs, dr, tk, os⟩ := s
  wp_walk
  refine codeAny_mono (set_new (E := fun _ _ => False) (.ref l) (Q := fun v s1 => v = .ref hp.objs.size ∧ s1 = ⟨hp.push (setO #[] 0 (.fresh 0 0 (!byTextW w))), gs, dr, tk, os⟩) ⟨rfl, rfl⟩) fun r s1 hr => ?_
  cases r with
  | error e => exact hr.elim
  | ok fl =>
    cases fl with
    | next => exact hr.elim
    | brk => exact hr.elim
    | cont => exact hr.elim
    | ret v =>
      obtain ⟨rfl, rfl⟩ := hr
      have ob : (hp.push (setO #[] 0 (.fresh 0 0 (!byTextW w)))).get? hp.objs.size = some (setO #[] 0 (.fresh 0 0 (!byTextW w))) := Heap.get?_push_size _ rfl
      have ty : Shared.TypeIs ⟨hp.push (setO #[] 0 (.fresh 0 0 (!byTextW w))), gs, dr, tk, os⟩ (.ref hp.objs.size) "set" := ⟨_, ob, rfl⟩
      have f7 := cs.init.lookup
      have f8 := cs.init.bind (.ref hp.objs.size)
      dsimp only
      wp_walk
      have lo : l < hp.objs.size := by
        obtain ⟨o1, e1, _⟩ := hl
        exact Heap.lt_size e1
      refine codeAny_call_builtin cs.init.plain PySem.F.entry_set_init (check_set_init_1 ty ?_)
      refine init_setT (s := ⟨hp.push (setO #[] 0 (.fresh 0 0 (!byTextW w))), gs, dr, tk, os⟩) (by simp [hh]) (hl.push _) hn (Heap.size_push _ _) ob lo fun h' tk' ho hs => ?_
      refine wpAny_pure ?_
      dsimp only
      rw [if_neg (by decide)]
      exact wpAny_pure (q h' tk' (fun b o e => ho b o (Heap.lt_size e) (Heap.get?_push_of_some _ e)) hs)
end
def tLenSet (K : PySem.W.Frag) (te : TE) : TE := fun σ H Q => te σ H fun v H1 => ∃ (a : Addr) (ns : List Int), v = .ref a ∧ (SqL K H1 a (ns.map V.int) ∨ SqT K H1 a (ns.map V.int)) ∧ ns.length ≤ 1000 ∧
  ∀ ds : List Int, ds.Nodup → (∀ m, m ∈ ds ↔ m ∈ ns) → Q (.int (ds.length : Nat)) H1
theorem range_vals (xs : List (Int × Tok)) : (List.range (intItems xs.toArray).size).map (PySem.numAt xs.toArray) = xs.map (·.1) := by
  have sz : (intItems xs.toArray).size = xs.length := by unfold intItems; simp
  rw [sz]
  refine List.ext_getElem? fun i => ?_
  rw [List.getElem?_map, List.getElem?_map]
  by_cases h : i < xs.length
  · rw [List.getElem?_range h, List.getElem?_eq_getElem h]
    unfold PySem.numAt
    simp [h]
  · rw [List.getElem?_eq_none (by rw [List.length_range]; omega), List.getElem?_eq_none (by omega)]
    rfl
theorem range_getD (ns : List Int) : (List.range ns.length).map (fun i => ns.getD i 0) = ns := by
  refine List.ext_getElem? fun i => ?_
  rw [List.getElem?_map]
  by_cases h : i < ns.length
  · rw [List.getElem?_range h, List.getElem?_eq_getElem h]
    show some (ns.getD i 0) = _
    rw [List.getD_eq_getElem?_getD, List.getElem?_eq_getElem h]
    rfl
  · rw [List.getElem?_eq_none (by rw [List.length_range]; omega), List.getElem?_eq_none (by omega)]
    rfl
theorem pe_lenSet {X : Cx} {e : Expr} {te : TE} {p p2 pos pos2 : Pos} (hc : X.calm = true) (hg : Gl X "len") (hm : X.mg "len" = none) (hg2 : Gl X "set") (hm2 : X.mg "set" = none) (he : PE X e te)
    (hs1 : starEach [Expr.Call (.Name "set" p2) [e] [] pos2] X.env = [(false, eval (Expr.Call (.Name "set" p2) [e] [] pos2) X.env)] := by rfl) (hs2 : starEach [e] X.env = [(false, eval e X.env)] := by rfl) :
    PE X (.Call (.Name "len" p) [.Call (.Name "set" p2) [e] [] pos2] [] pos) (tLenSet X.K te) := by
  intro pins s σ H Q I h
  have b1 : bootBuiltins "len" = some (.builtin "len") := PySem.boot_len
  have b2 : bootBuiltins "set" = some (.type "set") := by decide +kernel
  refine wpAny_Call_Name_kw (ld_blt I hg hm b1 (PyProof.Rows.callWith_builtin1 ?_ hs1 rfl))
  rw [hs1]
  refine Calls.spliced_cons (wpAny_Call_Name_kw (ld_blt I hg2 hm2 b2 (PyProof.Rows.callWith_type1 ?_ hs2 rfl)))
  rw [hs2]
  refine Calls.spliced_cons (thn (he pins s σ H _ I h) fun u s1 ⟨x, H1, I1, rx, a, ns, ex, hq, hl, q⟩ => Calls.spliced_nil ?_)
  subst ex
  cases (show u = Value.ref a from rx)
  have hh := I1.ok.hd hc
  have fin : ∀ (h2 : Heap) (tk2 : Nat) (val : Nat → Int) (n : Nat), Old s1.heap h2 → metIs X.prog X.w h2 s1.heap.objs.size val n → (List.range n).map val = ns →
      wpAny (model X.prog X.w) X.A (call (Value.builtin "len") [.ref s1.heap.objs.size]) (EP X pins σ Q) X.xe { s1 with heap := h2, toks := tk2 } := fun h2 tk2 val n o2 ⟨o, es, ep, t, ho, hex, hd, _, _, hb, hf, hz⟩ hv => by
    have I3 : Inv X pins σ H1 { s1 with heap := h2, toks := tk2 } := I1.kept (t' := tk2) o2
    obtain ⟨d, m⟩ := met_all val n
    refine call_len_set (s := { s1 with heap := h2, toks := tk2 }) ho hex hd hf (by unfold scanBound at hb; omega) ⟨.int (es.size : Nat), H1, I3.tok _, ⟨_, rfl⟩, ?_⟩
    rw [hz]
    exact q _ d fun k => by rw [m, hv]
  rcases hq with hq | hq
  · obtain ⟨its, rv, lp, _⟩ := I1.list hq
    have ia := intsAre_of rv
    have il : its.length = ns.length := by have := rv.length; rw [List.length_map] at this; exact this.symm
    refine call_set_list hh lp.isList ia (by unfold scanBound; simp only [List.size_toArray]; omega) fun h2 tk2 met keep => Calls.spliced_nil (fin h2 tk2 _ _ (fun b o e => keep b o (Heap.lt_size e) e) met ?_)
    rw [List.size_toArray, il]
    exact range_getD ns
  · obtain ⟨its, rv, ht, _⟩ := I1.tuple hq
    obtain ⟨xs, rfl, rfl⟩ := toks_num rv
    have e : (xs.map fun p => Value.int p.1 p.2).toArray = intItems xs.toArray := by unfold intItems; simp
    have ht' : s1.heap.IsTuple a (intItems xs.toArray) := by rw [← e]; exact ht
    have sz : (intItems xs.toArray).size = xs.length := by unfold intItems; simp
    rw [List.length_map] at hl
    exact call_setT hh ht' (by omega) fun h2 tk2 o2 met => Calls.spliced_nil (fin h2 tk2 _ _ o2 met (range_vals xs))
end NH
set_option Elab.async false
set_option linter.all false
set_option maxRecDepth 100000
set_option maxHeartbeats 1000000
namespace NH
open PySem L2
theorem leadsD_head {wa wb : WebD} {k : Nat} {r : List Int} (h : (leadsD wa wb k).head? = some r) : ∀ m, k ≤ m → (leadsD wa wb m).head? = some r := fun m hm => by
  induction m with
  | zero =>
    have : k = 0 := by omega
    subst this
    exact h
  | succ m ih =>
    by_cases e : k = m + 1
    · subst e; exact h
    · have := ih (by omega)
      rw [leadsD_succ, List.head?_append, this]
      rfl
theorem leadsD_new {wa wb : WebD} {i : Nat} {r : List Int} (h : leadsD wa wb i = []) (e : lead1 wa wb i = some r) (hi : i < wb.length) : (leadsD wa wb wb.length).head? = some r := by
  refine leadsD_head (k := i + 1) ?_ _ hi
  rw [leadsD_succ, h, e]
  rfl
theorem leadsD_none {wa wb : WebD} {i : Nat} (h : leadsD wa wb i = []) (e : lead1 wa wb i = none) : leadsD wa wb (i + 1) = [] := by
  rw [leadsD_succ, h, e]
  rfl
theorem sameD_self {room : Nat} {w : WebD} (g : Good room w) : sameD w w = some (asI (List.range w.length)) := by
  unfold sameD
  rw [if_pos rfl]
  have k := lead_of_led (Led.id g.bnd) g.bnd
  have k0 : (asI (List.range w.length))[0]? = some ((0 : Nat) : Int) := by
    unfold asI
    rw [List.getElem?_map, List.getElem?_range g.pos]
    rfl
  exact leadsD_new (i := 0) rfl (lead1_some g k k0) g.pos
theorem onto_inj {n : Nat} {l : List Nat} (len : l.length = n) (on : ∀ g, g < n → g ∈ l) {i j g : Nat} (ei : l[i]? = some g) (ej : l[j]? = some g) : i = j := by
  apply Classical.byContradiction
  intro ne
  have il : i < l.length := (List.getElem?_eq_some_iff.mp ei).1
  have := nd_sub (l := List.range n) (m := l.eraseIdx i) List.nodup_range fun x hx => by
    obtain ⟨k, ek⟩ := List.getElem?_of_mem (on x (List.mem_range.mp hx))
    by_cases c : k = i
    · subst c
      rw [ei] at ek
      cases ek
      exact List.mem_eraseIdx_iff_getElem?.mpr ⟨j, fun z => ne z.symm, ej⟩
    · exact List.mem_eraseIdx_iff_getElem?.mpr ⟨k, c, ek⟩
  rw [List.length_range, List.length_eraseIdx_of_lt il] at this
  omega
theorem Led.pm {n m : Nat} {u w : WebD} {ld : List Nat} (L : Led u w ld) (gu : Good n u) (gw : Good m w) (e : u.length = w.length) : Pm u.length ld := by
  have on := L.onto gu gw
  refine ⟨L.len, fun i j h => by rw [e]; exact (L.lt h).2, fun i i' j h h' => onto_inj L.len (fun g hg => on g (by omega)) h h', fun j hj => ?_⟩
  obtain ⟨i, ei⟩ := List.getElem?_of_mem (on j (by omega))
  exact ⟨i, by rw [← L.len]; exact (List.getElem?_eq_some_iff.mp ei).1, ei⟩
theorem renI_asI (ld : List Nat) (ps : List PegD) : mapRow (asI ld) ps = ps.map (renI ld) := by
  unfold mapRow
  refine List.map_congr_left fun x _ => ?_
  unfold renI asI
  rw [List.getD_eq_getElem?_getD, List.getElem?_map]
  cases ld[x.1.toNat]? <;> rfl
theorem ren_of_lead {u w : WebD} {ld : List Nat} (L : Led u w ld) (k : leadB u w (asI ld) = true) (e : u.length = w.length) : RenOf u ld w := by
  refine ⟨e.symm, fun h j hd ej eh => ?_⟩
  obtain ⟨x, hd2, ex, xl, e2, em⟩ := lead_at k eh
  obtain ⟨g, hd', eg, e1, mk, _⟩ := L.hand h hd eh
  rw [ej] at eg
  cases eg
  unfold asI at ex
  rw [List.getElem?_map, ej] at ex
  have ex : ((j : Nat) : Int) = (x : Int) := Option.some.inj ex
  have : j = x := by omega
  subst this
  rw [e2] at e1
  cases e1
  rw [e2, renI_asI] at *
  unfold renH
  rw [← mk, ← em]
structure SameIs (u w : WebD) (row : List Int) (ld : List Nat) : Prop where
  eq : row = asI ld
  len : u.length = w.length
  pm : Pm u.length ld
  ren : RenOf u ld w
theorem same_is {n m : Nat} {u w : WebD} {row : List Int} (gu : Good n u) (gw : Good m w) (h : sameD u w = some row) : ∃ ld, SameIs u w row ld := by
  unfold sameD at h
  split at h
  · next e =>
    have mm : row ∈ leadsD u w w.length := List.mem_of_mem_head? (by rw [h]; rfl)
    have k := leadsD_lead mm
    obtain ⟨ld, rfl, L⟩ := led_of_lead gu.bnd k
    exact ⟨ld, rfl, e, L.pm gu gw e, ren_of_lead L k e⟩
  · cases h
def OptI (H : Hp) (v : V) : Option (List Int) → Prop
  | none => v = .non
  | some r => ∃ b : Addr, v = .ref b ∧ RowI H b r
theorem opt_alk {H : Hp} {x y : V} {o : Option (List Int)} (h : OptR H x o) (h' : OptI H y o) (l : ∀ r, o = some r → r.length ≤ 100000) : AlkD H 2 x y := by
  cases o with
  | none =>
    cases (show x = .non from h)
    cases (show y = .non from h')
    exact AlkD.flat rfl 1
  | some r =>
    obtain ⟨a, rfl, ha⟩ := h
    obtain ⟨b, rfl, hb⟩ := h'
    refine .inr ⟨a, b, _, _, rfl, rfl, .inr ⟨TupD.tu ha, .inl hb⟩, by rw [List.length_map]; exact l r rfl, alkD_flats fun x hx => ?_⟩
    obtain ⟨n, _, rfl⟩ := List.mem_map.mp hx
    rfl
theorem OptR.same {H H' : Hp} {v : V} {o : Option (List Int)} (s : Same H H') (h : OptR H v o) : OptR H' v o := by
  cases o with
  | none => exact h
  | some r => obtain ⟨b, e, k⟩ := h; exact ⟨b, e, TupD.same s k⟩
theorem dense_len' {ns : List Nat} {c : Nat} (lt : ∀ n ∈ ns, n < c) (all : ∀ n, n < c → n ∈ ns) {ds : List Int} (d : ds.Nodup) (e : ∀ m, m ∈ ds ↔ m ∈ asI ns) : ds.length = c := by
  have nd : ((List.range c).map fun n : Nat => (n : Int)).Nodup := List.pairwise_map.mpr (List.nodup_range.imp fun h z => h (by omega))
  have p : ds.Perm ((List.range c).map fun n : Nat => (n : Int)) := (List.perm_ext_iff_of_nodup d nd).mpr fun m => by
    rw [e]
    constructor
    · intro h
      obtain ⟨n, hn, rfl⟩ := List.mem_map.mp h
      exact List.mem_map.mpr ⟨n, List.mem_range.mpr (lt n hn), rfl⟩
    · intro h
      obtain ⟨n, hn, rfl⟩ := List.mem_map.mp h
      exact List.mem_map.mpr ⟨n, all n (List.mem_range.mp hn), rfl⟩
  have := p.length_eq
  rwa [List.length_map, List.length_range] at this
theorem same_len {u w : WebD} {r : List Int} (h : sameD u w = some r) : r.length = u.length := by
  unfold sameD at h
  split at h
  · exact lead_len (leadsD_lead (List.mem_of_mem_head? (by rw [h]; rfl)))
  · cases h
end NH
set_option Elab.async false
set_option linter.all false
set_option maxRecDepth 100000
set_option maxHeartbeats 4000000
namespace NH
open PySem L2
abbrev sRf : Stmt := top 4
abbrev nRf : List Str := ["web", "other", "first", "row", "waiting", "hand", "led_pegs", "peg", "near", "place"]
theorem scRf : FnScope nRf ["web", "other", "first"] (defScope sRf) := ⟨rfl, rfl, rfl, by decide +kernel, rfl, by decide +kernel, by decide +kernel⟩
section
variable {P : Program} {w : World} {K : PySem.W.Frag} {mg : Str → Option Value} {base : Heap}
theorem ok_rf {f : Addr} {fd : FuncData} (F : Fun K "row_from" "row_from" sRf f fd) (G : Dr P w K mg base) : FnOk P w K mg base CX0 1 f fd ["web", "other", "first"] spRfD := by
  refine F.ok scRf (fun vs H Q E h => ?_) (fun cdv A outer s H vs Q E hr h => ?_)
  · obtain ⟨a, b, wa, wb, f, rfl, _⟩ := h
    rfl
  · obtain ⟨a, b, wa, wb, fi, rfl, hA, hB, gA, gB, la, lb, fl, k1, k2⟩ := h
    have nd := scRf.nd
    refine ⟨_, (pss_cons (ps_set (i := 3) nd rfl (Or.inl rfl) (pe_op op_rep (pe_lst (pa_cons pe_non pa_nil)) (pe_callB call_len_seq (by rfl) G.mlen PySem.boot_len (pa_cons (pv 0) pa_nil))))
      (pss_cons (ps_asg (pv 2) (pg_sub (pv 3) pe_int set_list))
      (pss_cons (ps_set (i := 4) nd rfl (Or.inl rfl) (pe_lst (pa_cons pe_int pa_nil)))
      (pss_cons (ps_while PassesOwn.never (pt_truth (pv 4) (fun _ => rfl))
        (pss_cons (ps_set (i := 5) nd rfl (Or.inl rfl) (pe_bm0 PySem.F.plainAttrs_list PySem.F.slot_list_pop PySem.F.type_list_pop mt_pop (pv 4)))
        (pss_cons (ps_set (i := 6) nd rfl (Or.inl rfl) (pe_ix ix_tup (pe_ix ix_tup (pv 1) (pe_ix ix_list (pv 3) (pv 5) (fun _ _ => rfl)) (fun _ _ => rfl)) pe_int (fun _ _ => rfl)))
        (pss_cons (ps_if (pt_cmpR op_ne (pe_callB call_len_seq (by rfl) G.mlen PySem.boot_len (pa_cons (pv 6) pa_nil)) (pe_callB call_len_seq (by rfl) G.mlen PySem.boot_len (pa_cons (pe_ix ix_tup (pe_ix ix_tup (pv 0) (pv 5) (fun _ _ => rfl)) pe_int (fun _ _ => rfl)) pa_nil)) (nomark _)) (pss_one (ps_ret pe_non)) pss_nil)
        (pss_one (ps_for PassesOwn.never rfl (pi_enumT (by rfl) G.menum (pa_cons (pe_ix ix_tup (pe_ix ix_tup (pv 0) (pv 5) (fun _ _ => rfl)) pe_int (fun _ _ => rfl)) pa_nil)) (pg_tup (by rfl) (pgs_cons (pg_name (i := 7) nd rfl (Or.inl rfl)) (pgs_cons (pg_tup (by rfl) (pgs_cons (pg_name (i := 8) nd rfl (Or.inl rfl)) (pgs_cons (pg_name (i := 9) nd rfl (Or.inl rfl)) pgs_nil))) pgs_nil)))
          (pss_one (ps_if (pt_cmpR op_isN (pe_ix ix_list (pv 3) (pv 8) (fun _ _ => rfl)) pe_non (nomark _)) (pss_cons (ps_asg (pe_ix ix_tup (pe_ix ix_tup (pv 6) (pv 7) (fun _ _ => rfl)) pe_int (fun _ _ => rfl)) (pg_sub (pv 3) (pv 8) set_list))
              (pss_one (ps_expr (pe_bm PySem.F.plainAttrs_list PySem.F.slot_list_append PySem.F.type_list_append mt_append (pv 4) (pa_cons (pv 8) pa_nil))))) pss_nil))))))))
      (pss_one (ps_ret (pe_callTy call_tupleD (by rfl) G.mtuple (by decide +kernel) (pa_cons (pv 3) pa_nil)))))))), ?_⟩
    obtain ⟨hs, hAa, hAP⟩ := id hA
    obtain ⟨gs, hBa, hBP⟩ := id hB
    have hsl : hs.length = wa.length := Paired.length hAP
    have gsl : gs.length = wb.length := Paired.length hBP
    have pos := gA.pos
    refine ⟨(by show 1 ≤ sizeLine; decide), fun a0 n0 => ⟨_, rfl, a, _, rfl, .inr (SqT.of (same_new n0 _ _ hAa)), a0, _, _, rfl, rfl, upd_same, by omega, (by rw [List.length_map]; omega), (by show 1 * ((hs.map V.ref).length : Int).toNat ≤ sizeLine; rw [List.length_map, sizeLine_eq]; omega), fun L nL => ?_⟩⟩
    rw [List.length_map, hsl, Int.toNat_natCast, rep_non]
    have nLH : H L = none := (same_new (o := .lst [.non]) n0).free nL
    have s1 := (same_new (o := .lst [.non]) n0).trans (same_new (o := .lst ((List.replicate wa.length (none : Option Nat)).map optV)) nL)
    have hL1 : (upd (upd H a0 (.lst [.non])) L (.lst ((List.replicate wa.length (none : Option Nat)).map optV))) L = some (.lst ((List.replicate wa.length (none : Option Nat)).map optV)) := upd_same
    generalize (upd (upd H a0 (.lst [.non])) L (.lst ((List.replicate wa.length (none : Option Nat)).map optV))) = H1 at s1 hL1 ⊢
    refine ⟨_, rfl, _, rfl, L, _, _, 0, rfl, rfl, hL1, ixN_nat rfl (by rw [List.length_map, List.length_replicate]; exact pos), ?_⟩
    rw [optV_set]
    have s2 : Same H (upd H1 L (.lst (((List.replicate wa.length (none : Option Nat)).set 0 (some fi)).map optV))) := same_upd s1 nLH
    have hL2 : (upd H1 L (.lst (((List.replicate wa.length (none : Option Nat)).set 0 (some fi)).map optV))) L = some (.lst (((List.replicate wa.length (none : Option Nat)).set 0 (some fi)).map optV)) := upd_same
    generalize (upd H1 L (.lst (((List.replicate wa.length (none : Option Nat)).set 0 (some fi)).map optV))) = H2 at s2 hL2 ⊢
    refine ⟨(by show 1 ≤ sizeLine; decide), fun Wt nW => ?_⟩
    have nWH : H Wt = none := s2.free nW
    have neLW : L ≠ Wt := fun z => by rw [← z, hL2] at nW; cases nW
    have far0 := Far.zero (wa := wa) (wb := wb) (f := fi) pos fl
    generalize hro : (List.replicate wa.length (none : Option Nat)).set 0 (some fi) = ro0 at hL2 far0
    have un0 : un ro0 ≤ 100 := by have := un_le ro0; rw [far0.len] at this; omega
    let Wv : Nat → St → Hp → Prop := fun m σ H3 => ∃ (ro : List (Option Nat)) (wt : List Nat) (o5 o6 o7 o8 o9 : Option V), m = 2 * un ro + wt.length ∧ σ = [some (.ref a), some (.ref b), some (natV fi), some (.ref L), some (.ref Wt), o5, o6, o7, o8, o9] ∧ Same H H3 ∧ H3 L = some (.lst (ro.map optV)) ∧ H3 Wt = some (.lst (wt.map natV)) ∧ Far wa wb fi ro wt (fun _ _ => False) ∧ 2 * un ro + wt.length ≤ 300
    refine ⟨Wv, ⟨_, ro0, [0], none, none, none, none, none, rfl, rfl, s2.trans (same_new nW), same_new nW _ _ hL2, upd_same, far0, (by show 2 * un ro0 + 1 ≤ 300; omega)⟩, ?_⟩
    rintro m σ H3 ⟨ro, wt, o5, o6, o7, o8, o9, rfl, rfl, s3, hL, hW, far, bnd⟩
    refine ⟨_, rfl, _, .inl ⟨_, SqL.of hW, rfl⟩, ?_⟩
    rcases List.eq_nil_or_concat wt with rfl | ⟨wt, h, rfl⟩
    · rw [if_neg (by simp)]
      obtain ⟨r', er, cand⟩ := far.all gA
      refine ⟨_, rfl, L, _, rfl, SqL.of hL, fun r o nr oc od => ?_⟩
      exact k2 r _ _ (s3.trans (same_new nr)) ⟨o, by rw [upd_same, er, some_ints], oc, od⟩ cand
    rw [if_pos (by simp)]
    rw [List.concat_eq_append] at hW far bnd
    refine ⟨fun σ' H' => ∃ m', m' < 2 * un ro + (wt.concat h).length ∧ Wv m' σ' H', fun _ _ z => z, ?_⟩
    refine ⟨_, rfl, .inl ⟨rfl, _, SqL.of hW⟩, Wt, _, natV h, rfl, rfl, hW, last_nat wt h, ?_⟩
    rw [drop_nat]
    obtain ⟨x, ex⟩ := far.wait h (by simp)
    have xl := far.lt h x ex
    have hl : h < wa.length := by rw [← far.len]; exact (List.getElem?_eq_some_iff.mp ex).1
    have s4 : Same H (upd H3 Wt (.lst (wt.map natV))) := same_upd s3 nWH
    have hL4 : (upd H3 Wt (.lst (wt.map natV))) L = some (.lst (ro.map optV)) := by rw [upd_ne neLW]; exact hL
    have hW4 : (upd H3 Wt (.lst (wt.map natV))) Wt = some (.lst (wt.map natV)) := upd_same
    generalize (upd H3 Wt (.lst (wt.map natV))) = H4 at s4 hL4 hW4 ⊢
    obtain ⟨x1, b1, hd, ps, e1, at1, e2, e3, e4⟩ := web_hand (K := K) hAa hAP hl
    obtain ⟨x2, b2, hd2, qs, f1, at2', f2, f3, f4⟩ := web_hand (K := K) hBa hBP xl
    have pl1 : ps.length = hd.2.length := Paired.length e4
    have pl2 : qs.length = hd2.2.length := Paired.length f4
    refine ⟨_, rfl, _, rfl, _, rfl, L, _, _, _, rfl, rfl, SqL.of hL4, atI_nat (optV_at ex), b, _, _, _, rfl, rfl, SqT.of (s4 _ _ hBa), at2', x2, _, _, _, rfl, rfl, SqT.of (s4 _ _ f2), rfl, ?_⟩
    refine ⟨_, rfl, b2, _, rfl, .inr (SqT.of (s4 _ _ f3)), _, rfl, _, rfl, a, _, _, _, rfl, rfl, SqT.of (s4 _ _ hAa), at1, x1, _, _, _, rfl, rfl, SqT.of (s4 _ _ e2), rfl, b1, _, rfl, .inr (SqT.of (s4 _ _ e3)), rfl, _, rfl, ?_⟩
    rw [List.length_map, List.length_map, pl1, pl2]
    refine ite2 (fun ne => ?_) (fun eq => ?_)
    · have hne : ¬ hd2.2.length = hd.2.length := fun z => by rw [z] at ne; simp at ne
      refine k1 H4 s4 fun M hM h0 => hne ?_
      obtain ⟨x', hd2', ex', _, e2', em⟩ := lead_at hM e1
      rw [far.only M hM h0 h x ex] at ex'
      have : x = x' := by have := Option.some.inj ex'; omega
      subst this
      rw [f1] at e2'
      cases e2'
      rw [em]
      unfold mapRow
      rw [List.length_map]
    have heq : hd2.2.length = hd.2.length := by simp at eq; omega
    refine ⟨_, rfl, _, rfl, a, _, _, _, rfl, rfl, SqT.of (s4 _ _ hAa), at1, x1, _, _, _, rfl, rfl, SqT.of (s4 _ _ e2), rfl, b1, _, rfl, SqT.of (s4 _ _ e3), for_enumT (K := K) (a := b1) (xs := ps.map V.ref) (fun i σ H5 => ∃ (ro' : List (Option Nat)) (wt' : List Nat) (o7 o8 o9 : Option V), σ = [some (.ref a), some (.ref b), some (natV fi), some (.ref L), some (.ref Wt), some (natV h), some (.ref b2), o7, o8, o9] ∧
        Same H H5 ∧ H5 L = some (.lst (ro'.map optV)) ∧ H5 Wt = some (.lst (wt'.map natV)) ∧ Far wa wb fi ro' wt' (fun h' p => h' = h ∧ i ≤ p) ∧ ro'[h]? = some (some x) ∧ 2 * un ro' + wt'.length ≤ 2 * un ro + wt.length)
      ⟨ro, wt, _, _, _, rfl, s4, hL4, hW4, far.pop, ex, Nat.le_refl _⟩ (fun i σ H5 _ ⟨_, _, _, _, _, _, s5, _⟩ => SqT.of (s5 _ _ e3)) ?_ ?_⟩
    · rintro i y T σ H5 hyi ⟨ro', wt', o7, o8, o9, rfl, s5, hL5, hW5, far5, ex5, bnd5⟩ nT
      rw [List.getElem?_map] at hyi
      obtain ⟨pa, epa, rfl⟩ := Option.map_eq_some_iff.mp hyi
      obtain ⟨y, ey, hpa⟩ := paired_get e4 epa
      have il : i < hd.2.length := (List.getElem?_eq_some_iff.mp ey).1
      obtain ⟨g, q, rfl, gl⟩ := gA.bnd h i y (by unfold pegOf; rw [e1]; exact ey)
      have sT := same_new (o := .tup [.int (i : Nat), .ref pa]) nT
      have s6 := s5.trans sT
      have hL6 := sT _ _ hL5
      have hW6 := sT _ _ hW5
      refine ⟨T, _, rfl, SqT.of upd_same, rfl, _, _, rfl, _, _, rfl, ⟨pa, _, rfl, SqT.of (s6 _ _ hpa), rfl, _, _, rfl, _, _, rfl, rfl, rfl, ?_⟩⟩
      generalize (upd H5 T (.tup [.int (i : Nat), .ref pa])) = H6 at sT s6 hL6 hW6 ⊢
      have eg : ro'[g]? = some (ro'[g]'(by rw [far5.len]; exact gl)) := List.getElem?_eq_getElem _
      generalize (ro'[g]'(by rw [far5.len]; exact gl)) = o at eg
      refine ⟨_, rfl, _, rfl, L, _, _, _, rfl, rfl, SqL.of hL6, atI_nat (optV_at eg), rfl, _, rfl, ?_⟩
      cases o with
      | some z =>
        refine iteF ?_
        exact ⟨ro', wt', _, _, _, rfl, s6, hL6, hW6, far5.seen e1 ey eg, ex5, bnd5⟩
      | none =>
        refine iteT ?_
        have ez : hd2.2[i]? = some (hd2.2[i]'(by omega)) := List.getElem?_eq_getElem _
        generalize (hd2.2[i]'(by omega)) = z at ez
        obtain ⟨pb, epb, hpb⟩ := paired_get' f4 ez
        obtain ⟨yy, q', rfl, yl⟩ := gB.bnd x i z (by unfold pegOf; rw [f1]; exact ez)
        have usz := un_set (y := yy) eg
        refine ⟨_, rfl, _, rfl, b2, _, _, _, rfl, rfl, SqT.of (s6 _ _ f3), at_of rfl (by rw [List.getElem?_map, epb]; rfl), pb, _, _, _, rfl, rfl, SqT.of (s6 _ _ hpb), rfl, _, rfl, _, rfl, L, _, _, g, rfl, rfl, hL6, ixN_nat rfl (by rw [List.length_map, far5.len]; exact gl), ?_⟩
        have es : (ro'.map optV).set g (V.int (yy : Int)) = (ro'.set g (some yy)).map optV := optV_set ro' g yy
        dsimp only
        rw [es]
        have s7 : Same H (upd H6 L (.lst ((ro'.set g (some yy)).map optV))) := same_upd s6 nLH
        have hL7 : (upd H6 L (.lst ((ro'.set g (some yy)).map optV))) L = some (.lst ((ro'.set g (some yy)).map optV)) := upd_same
        have hW7 : (upd H6 L (.lst ((ro'.set g (some yy)).map optV))) Wt = some (.lst (wt'.map natV)) := by rw [upd_ne (Ne.symm neLW)]; exact hW6
        generalize (upd H6 L (.lst ((ro'.set g (some yy)).map optV))) = H7 at s7 hL7 hW7 ⊢
        have wl : wt'.length ≤ 300 := by
          rw [List.length_append] at bnd
          omega
        refine ⟨_, rfl, .inl ⟨rfl, _, SqL.of hW7⟩, _, rfl, Wt, _, _, rfl, rfl, hW7, (by rw [List.length_map, sizeLine_eq]; omega), ?_⟩
        refine ⟨ro'.set g (some yy), wt' ++ [g], _, _, _, rfl, same_upd s7 nWH, (by rw [upd_ne neLW]; exact hL7), (by rw [upd_same, List.map_append]; rfl), far5.put e1 ex5 f1 ey ez yl gl eg, ?_, ?_⟩
        · rw [List.getElem?_set_ne (fun z => by rw [z, ex5] at eg; cases eg)]
          exact ex5
        · rw [List.length_append]
          show 2 * un (ro'.set g (some yy)) + (wt'.length + 1) ≤ _
          omega
    · rintro σ H5 ⟨ro', wt', o7, o8, o9, rfl, s5, hL5, hW5, far5, ex5, bnd5⟩
      rw [List.length_map, pl1] at far5
      refine ⟨2 * un ro' + wt'.length, ?_, ro', wt', _, _, _, _, _, rfl, rfl, s5, hL5, hW5, far5.over e1 (Nat.le_refl _), ?_⟩
      · rw [List.length_concat]
        omega
      · rw [List.length_append] at bnd
        have : (wt.length + [h].length) = wt.length + 1 := rfl
        omega
end
end NH
set_option Elab.async false
set_option linter.all false
set_option maxRecDepth 100000
set_option maxHeartbeats 4000000
namespace NH
open PySem L2
abbrev sAgr : Stmt := top 2
abbrev nAgr : List Str := ["web", "other", "row", "hand", "mark", "pegs", "led_mark", "led_pegs", "near", "place"]
theorem scAgr : FnScope nAgr ["web", "other", "row", "hand"] (defScope sAgr) := ⟨rfl, rfl, rfl, by decide +kernel, rfl, by decide +kernel, by decide +kernel⟩
section
variable {P : Program} {w : World} {K : PySem.W.Frag} {mg : Str → Option Value} {base : Heap}
theorem ok_agr {f : Addr} {fd : FuncData} (F : Fun K "agrees" "agrees" sAgr f fd) (G : Dr P w K mg base) : FnOk P w K mg base CX0 1 f fd ["web", "other", "row", "hand"] spAgrR := by
  refine F.ok scAgr (fun vs H Q E h => ?_) (fun cdv A outer s H vs Q E hr h => ?_)
  · obtain ⟨a, b, c, wa, wb, row, h, rfl, _⟩ := h
    rfl
  · obtain ⟨a, b, c, wa, wb, row, h, rfl, hA, hB, hR, shA, shB, len, ok, hl, k⟩ := h
    have nd := scAgr.nd
    refine ⟨_, (pss_cons (ps_asg (pe_ix ix_tup (pv 0) (pv 3) (fun _ _ => rfl)) (pg_tup (by rfl) (pgs_cons (pg_name (i := 4) nd rfl (Or.inl rfl)) (pgs_cons (pg_name (i := 5) nd rfl (Or.inl rfl)) pgs_nil))))
      (pss_cons (ps_asg (pe_ix ix_tup (pv 1) (pe_ix ix_tup (pv 2) (pv 3) (fun _ _ => rfl)) (fun _ _ => rfl)) (pg_tup (by rfl) (pgs_cons (pg_name (i := 6) nd rfl (Or.inl rfl)) (pgs_cons (pg_name (i := 7) nd rfl (Or.inl rfl)) pgs_nil))))
      (pss_cons (ps_if (pt_cmpR op_ne (pv 4) (pv 6) (nomark _)) (pss_one (ps_ret pe_bl)) pss_nil)
      (pss_one (ps_ret (pe_cmpR (op_eqD hr.units) (pv 7) (pe_callTy call_tuple_of (by rfl) G.mtuple (by decide +kernel) (pa_cons (pe_lc (own := [("near", 8), ("place", 9)]) (g := (gTup K 2 (gCons (gName 8) (gCons (gName 9) gNil)))) (tt := tYes) (te := (tTup (tCons (tOp (rIxT K) (tVar 2) (tVar 8)) (tCons (tVar 9) tNil))))
          (by rfl) nd (pi_tup (pv 5)) (blkOk_by (own := [("near", 8), ("place", 9)]) (N := nAgr) (sc := defScope sAgr) (by decide +kernel))
          (fun _ _ _ _ _ => by exact (pg_tup (by rfl) (pgs_cons (pg_name (i := 8) nd rfl (Or.inl rfl)) (pgs_cons (pg_name (i := 9) nd rfl (Or.inl rfl)) pgs_nil)))) (fun _ _ _ _ _ => by exact pts_nil) (fun _ _ _ _ _ => by exact (pe_tup (pa_cons (pe_ix ix_tup (pv 2) (pv 8) (fun _ _ => rfl)) (pa_cons (pv 9) pa_nil))))) pa_nil)) (nomark _))))))), ?_⟩
    obtain ⟨hs, hAa, hAP⟩ := id hA
    obtain ⟨gs, hBa, hBP⟩ := id hB
    obtain ⟨x1, b1, hd, ps, e1, at1, e2, e3, e4⟩ := web_hand (K := K) hAa hAP hl
    obtain ⟨r, er, rl⟩ := ok.get (h := h) (by omega)
    obtain ⟨x2, b2, hd2, qs, f1, at2', f2, f3, f4⟩ := web_hand (K := K) hBa hBP rl
    refine ⟨_, rfl, _, rfl, a, _, _, _, rfl, rfl, SqT.of hAa, at1, x1, _, rfl, SqT.of e2, rfl, _, _, rfl, _, _, rfl, rfl, ?_⟩
    refine ⟨_, rfl, _, rfl, _, rfl, c, _, _, _, rfl, rfl, hR.sq, atI_nat (ints_get? er), b, _, _, _, rfl, rfl, SqT.of hBa, at2', x2, _, rfl, SqT.of f2, rfl, _, _, rfl, _, _, rfl, rfl, ?_⟩
    have val := agrAt_eq e1 er f1
    refine ⟨_, rfl, _, rfl, rfl, _, rfl, ?_⟩
    have s3 : Same H H := fun _ _ e => e
    refine ite2 (fun ne => ?_) (fun eq => ?_)
    · have hne : ¬ hd.1 = hd2.1 := by simpa using ne
      have := k H s3
      rw [val] at this
      unfold agrB at this
      rw [decide_eq_false hne, Bool.false_and] at this
      exact this
    · have heq : hd.1 = hd2.1 := by simpa using eq
      refine ⟨_, rfl, _, rfl, b1, rfl, ⟨_, SqT.of e3⟩, fun L nL => ?_⟩
      refine lc_tup (K := K) (a := b1) (xs := ps.map V.ref) (fun c' H4 => Same H H4 ∧ ∃ es : List Addr, H4 L = some (.lst (es.map V.ref)) ∧ es.length = c' ∧ PairsAt H4 es (mapRow row (hd.2.take c')))
        ⟨same_new nL, [], upd_same, rfl, .nil⟩ (fun c' H4 _ ⟨s4, _⟩ => SqT.of (s4 _ _ (s3 _ _ e3))) ?_ ?_
      · rintro c' y H4 hyc ⟨s4, es, hD, bl, hbs⟩
        rw [List.getElem?_map] at hyc
        obtain ⟨pa, epa, rfl⟩ := Option.map_eq_some_iff.mp hyc
        obtain ⟨x, ex, hpa⟩ := paired_get e4 epa
        have hpa4 := s4 _ _ (s3 _ _ hpa)
        obtain ⟨g, eg, gl⟩ := shA.near h hd e1 x (List.mem_of_getElem? ex)
        obtain ⟨r', er', _⟩ := ok.get (h := g) (by omega)
        refine ⟨pa, _, rfl, SqT.of hpa4, rfl, _, _, rfl, _, _, rfl, rfl, rfl, ?_⟩
        dsimp only [tYes]
        rw [if_pos rfl]
        refine ⟨_, rfl, _, rfl, c, _, _, _, rfl, rfl, ((hR.same s3).same s4).sq, (by rw [eg]; exact atI_nat (ints_get? er')), _, rfl, (by show 2 ≤ sizeLine; decide), fun t nt => ?_⟩
        have st := same_new (o := .tup [.int (r' : Int), .int x.2]) nt
        have hD4 := st _ _ hD
        have cl : c' < hd.2.length := (List.getElem?_eq_some_iff.mp ex).1
        have pl := shA.few h hd e1
        refine ⟨_, hD4, (by rw [List.length_map, bl, sizeLine_eq]; omega), fun z o e => ?_, es ++ [t], (by rw [List.map_append]; exact upd_same), (by rw [List.length_append, bl]; rfl), ?_⟩
        · rw [upd_ne (ne_of_none e nL)]
          exact st _ _ (s4 _ _ e)
        · have tt := (sTups st).trans (tups_lst (o := .lst (es.map V.ref ++ [.ref t])) hD4)
          rw [mapRow_snoc ex, eg, Int.toNat_natCast, getD_of er']
          have hnew : PairAt (upd (upd H4 t (.tup [.int (r' : Int), .int x.2])) L (.lst (es.map V.ref ++ [.ref t]))) t ((r' : Int), x.2) := by
            show _ = _
            exact tups_lst (o := HO.lst (es.map V.ref ++ [V.ref t])) hD4 _ _ upd_same
          exact paired_snoc (R := PairAt (upd (upd H4 t (.tup [.int (r' : Int), .int x.2])) L (.lst (es.map V.ref ++ [.ref t])))) hnew (pairs_tups tt hbs)
      · rintro H4 ⟨s4, es, hD, bl, hbs⟩
        rw [List.length_map, Paired.length e4, List.take_length] at hbs
        refine ⟨L, _, rfl, .inl ⟨SqL.of hD, fun pt npt => ?_⟩⟩
        have st := same_new (o := .tup (es.map V.ref)) npt
        refine ⟨pegsP hd2.2, pegsP (mapRow row hd.2), dp_pegs ⟨qs, (s4.trans st) _ _ f3, pairs_tups (sTups (s4.trans st)) f4⟩, dp_pegs ⟨es, upd_same, pairs_tups (sTups st) hbs⟩, enc_pegs.shaped (by decide) _, enc_pegs.shaped (by decide) _, ?_⟩
        have := k _ (s4.trans st)
        rw [val] at this
        unfold agrB at this
        rw [decide_eq_true heq, Bool.true_and] at this
        rw [enc_pegs.eq]
        exact this
end
end NH
set_option Elab.async false
set_option linter.all false
set_option maxRecDepth 100000
set_option maxHeartbeats 4000000
namespace NH
open PySem L2
abbrev sLea : Stmt := top 1
abbrev nLea : List Str := ["web", "other", "row", "number", "hand"]
theorem scLea : FnScope nLea ["web", "other", "row"] (defScope sLea) := ⟨rfl, rfl, rfl, by decide +kernel, rfl, by decide +kernel, by decide +kernel⟩
section
variable {P : Program} {w : World} {K : PySem.W.Frag} {mg : Str → Option Value} {base : Heap}
theorem ok_lea {f : Addr} {fd : FuncData} {c T : Addr} (F : Fun K "is_leading" "is_leading" sLea f fd) (hc : fd.code = .ref c) (hC : PySem.W.CodeHd base c T) (B : BltMod base mg) (mlen : mg "len" = none) (mrange : mg "range" = none) (many : mg "any" = none) (mall : mg "all" = none)
    (CA : FnAt P w K mg base 1 "agrees" ["web", "other", "row", "hand"] spAgrR) : FnOk P w K mg base CX0 4 f fd ["web", "other", "row"] (spLeadR T) := by
  obtain ⟨fA, fdA, GA, bA, mA, kA⟩ := CA
  refine F.okC scLea (fun vs H Q E h => ?_) (fun cdv A outer s H vs Q E ec hr h => ?_)
  · obtain ⟨a, b, c, wa, wb, row, rfl, _⟩ := h
    rfl
  · have nd := scLea.nd
    have hG : GenHd (cxOf CX0 P w K mg base nLea "is_leading" (defScope sLea) f cdv A outer s H E).nox T := genHd hc ec rfl hC B
    refine ⟨_, (pss_cons (ps_if (pt_cmpR op_ne (pe_callB call_len_seq (by rfl) mlen PySem.boot_len (pa_cons (pv 2) pa_nil)) (pe_callB call_len_seq (by rfl) mlen PySem.boot_len (pa_cons (pv 0) pa_nil)) (nomark _)) (pss_one (ps_ret pe_bl)) pss_nil)
      (pss_cons (ps_if (pt_val (pe_anyG (k := 2) (own := [("number", 3)]) (g := gName 3) (te := tOrV (tOp (rI0 fun i j => .bl (decide (i < j))) (tVar 3) (tC (.int 0))) (tOp (rI0 fun i j => .bl (decide (j ≤ i))) (tVar 3) (tCB (fun xs H Q => ∃ p ys, xs = [.ref p] ∧ (SqL K H p ys ∨ SqT K H p ys) ∧ Q (.int ys.length) H) (tCons (tVar 1) tNil)))) hG (by rfl) many (by rfl) nd hr (pi_tup (pv 2)) (blkOk_by (own := [("number", 3)]) (N := nLea) (sc := defScope sLea) (by decide +kernel)) rfl (by decide +kernel) rfl
          (fun _ _ _ _ _ _ _ _ => by exact (pg_name (i := 3) nd rfl (Or.inl rfl)))
          (fun _ _ _ _ _ _ _ _ => by exact (pe_or (pe_cmpR op_lt (pv 3) pe_int (nomark _)) (pe_one (pe_cmpR op_ge (pv 3) (pe_callB call_len_seq (by rfl) mlen PySem.boot_len (pa_cons (pv 1) pa_nil)) (nomark _))))))) (pss_one (ps_ret pe_bl)) pss_nil)
      (pss_one (ps_ret (pe_allG (k := 2) (own := [("hand", 4)]) (g := gName 4) (te := tCall spAgrR [] E0 (tCons (tVar 0) (tCons (tVar 1) (tCons (tVar 2) (tCons (tVar 4) tNil))))) hG (by rfl) mall (by rfl) nd hr (pi_range1 (by rfl) mrange (pa_cons (pe_callB call_len_seq (by rfl) mlen PySem.boot_len (pa_cons (pv 0) pa_nil)) pa_nil)) (blkOk_by (own := [("hand", 4)]) (N := nLea) (sc := defScope sLea) (by decide +kernel)) rfl (by decide +kernel) rfl
          (fun _ _ _ _ _ _ _ _ => by exact (pg_name (i := 4) nd rfl (Or.inl rfl)))
          (fun _ _ _ _ _ _ _ rA => by exact (pe_call GA (rA.mono (by decide)) (by rfl) mA kA bA .nil pass0 (pa_cons (pv 0) (pa_cons (pv 1) (pa_cons (pv 2) (pa_cons (pv 4) pa_nil))))))))))), ?_⟩
    obtain ⟨a, b, c, wa, wb, row, rfl, hA, hB, hR, shA, shB, tb, k⟩ := h
    obtain ⟨hs, hAa, hAP⟩ := id hA
    obtain ⟨gs, hBa, hBP⟩ := id hB
    have hsl : hs.length = wa.length := Paired.length hAP
    have gsl : gs.length = wb.length := Paired.length hBP
    have tup : ∀ {H1 : Hp} {x : Addr} {xs : List V}, StepT T H H1 → H x = some (.tup xs) → H1 x = some (.tup xs) := fun st e => st.tups tb _ _ e
    have al := shA.len
    refine ⟨_, rfl, c, _, rfl, .inr (hR.sq), _, rfl, a, _, rfl, .inr (SqT.of hAa), rfl, _, rfl, ?_⟩
    rw [List.length_map, List.length_map, hsl]
    refine ite2 (fun ne => ?_) (fun eq => ?_)
    · have hne : ¬ row.length = wa.length := fun z => by rw [z] at ne; simp at ne
      have q := k H (StepT.refl tb)
      unfold leadB at q
      rw [decide_eq_false hne, Bool.false_and, Bool.false_and] at q
      exact q
    have heq : row.length = wa.length := by simp at eq; omega
    obtain ⟨tp, etb, tok⟩ := tb.ex
    refine ⟨_, rfl, c, rfl, ⟨_, hR.sq⟩, tp, etb, tok, fun more tok' => ?_⟩
    have st1 : StepT T H (upd H T (.tbl (tp ++ more))) := StepT.grow tok'
    refine g_tup (K := K) (a := c) (xs := row.map V.int) (st := true) (fun i H2 => StepT T H H2 ∧ (row.take i).all (inB wb.length) = true) ⟨st1, rfl⟩ (fun i H2 _ ⟨s2, _⟩ => (hR.step tb s2).sq) ?_ ?_
    · rintro i y H2 hy ⟨s2, all⟩
      rw [List.getElem?_map] at hy
      obtain ⟨r, er, rfl⟩ := Option.map_eq_some_iff.mp hy
      refine ⟨rfl, ?_⟩
      have bad : inB wb.length r = false → leadB wa wb row = false := fun z => by
        unfold leadB
        have : row.all (inB wb.length) = false := by
          rw [List.all_eq_false]
          exact ⟨r, List.mem_of_getElem? er, by rw [z]; decide⟩
        rw [this, Bool.and_false, Bool.false_and]
      have good : inB wb.length r = true → (row.take (i + 1)).all (inB wb.length) = true := fun z => by
        rw [take_snoc er, List.all_append, all]
        simp [z]
      refine ⟨_, rfl, _, _, rfl, rfl, _, rfl, ?_⟩
      refine ite2 (fun z0 => ?_) (fun z0 => ?_)
      · have z0 : r < 0 := of_decide_eq_true z0
        refine ⟨_, rfl, ?_⟩
        rw [if_pos rfl]
        refine ⟨_, rfl, iteT ?_⟩
        have q := k _ s2
        rw [bad (by unfold inB; rw [decide_eq_false (by omega), Bool.false_and])] at q
        exact q
      · have z0 : ¬ r < 0 := fun q => z0 (decide_eq_true q)
        refine ⟨_, rfl, _, rfl, b, _, rfl, .inr (SqT.of (tup s2 hBa)), _, _, rfl, rfl, _, rfl, ?_⟩
        rw [List.length_map, gsl]
        refine ite2 (fun z1 => ?_) (fun z1 => ?_)
        · have z1 : (wb.length : Int) ≤ r := of_decide_eq_true z1
          refine ⟨_, rfl, iteT ?_⟩
          have q := k _ s2
          rw [bad (by unfold inB; rw [decide_eq_false (by omega : ¬ r < (wb.length : Int)), Bool.and_false])] at q
          exact q
        · have z1 : ¬ (wb.length : Int) ≤ r := fun q => z1 (decide_eq_true q)
          exact ⟨s2, good (by unfold inB; rw [decide_eq_true (by omega : 0 ≤ r), decide_eq_true (by omega : r < (wb.length : Int))]; rfl)⟩
    · rintro H2 ⟨s2, all⟩
      rw [List.length_map, List.take_length] at all
      have ok : RowOk wb.length row := rowOk_iff.mp all
      refine ⟨_, rfl, iteF ?_⟩
      obtain ⟨tp2, etb2, tok2⟩ := s2.tbl.ex
      refine ⟨_, rfl, a, _, rfl, .inr (SqT.of (tup s2 hAa)), _, rfl, (by rw [List.length_map]; omega), (by rw [List.length_map]; omega), tp2, etb2, tok2, fun more2 tok3 => ?_⟩
      have st3 := s2.trans (StepT.grow (H := H2) tok3)
      rw [List.length_map, hsl, Int.toNat_natCast]
      have val : leadB wa wb row = (List.range wa.length).all (agrAt wa wb row) := by
        unfold leadB
        rw [decide_eq_true heq, all, Bool.true_and, Bool.true_and]
      refine g_range (lo := 0) (n := wa.length) (st := false) (fun i H3 => StepT T H H3 ∧ (List.range i).all (agrAt wa wb row) = true) ⟨st3, rfl⟩ ?_ ?_
      · rintro i H3 hi ⟨s3, al3⟩
        refine ⟨rfl, ?_⟩
        rw [natZ]
        refine ⟨_, rfl, _, rfl, _, rfl, _, rfl, a, b, c, wa, wb, row, i, rfl, hA.tups (s3.tups tb), hB.tups (s3.tups tb), hR.step tb s3, shA, shB, heq, ok, hi, fun H4 s4 => ⟨_, rfl, ?_⟩⟩
        cases z : agrAt wa wb row i with
        | false =>
          rw [if_pos rfl]
          have q := k _ (s3.same s4)
          have : (List.range wa.length).all (agrAt wa wb row) = false := by
            rw [List.all_eq_false]
            exact ⟨i, List.mem_range.mpr hi, by rw [z]; decide⟩
          rw [val, this] at q
          exact q
        | true =>
          rw [if_neg (by decide)]
          refine ⟨s3.same s4, ?_⟩
          rw [List.range_succ, List.all_append, al3]
          simp [z]
      · rintro H3 ⟨s3, al3⟩
        have q := k _ s3
        rw [val, al3] at q
        exact q
end
end NH
set_option Elab.async false
set_option linter.all false
set_option maxRecDepth 100000
set_option maxHeartbeats 4000000
namespace NH
open PySem L2
abbrev sLdg : Stmt := top 3
abbrev nLdg : List Str := ["web", "other", "rows", "first", "row"]
theorem scLdg : FnScope nLdg ["web", "other"] (defScope sLdg) := ⟨rfl, rfl, rfl, by decide +kernel, rfl, by decide +kernel, by decide +kernel⟩
section
variable {P : Program} {w : World} {K : PySem.W.Frag} {mg : Str → Option Value} {base : Heap}
theorem ok_ldg {f : Addr} {fd : FuncData} {T : Addr} (F : Fun K "leadings" "leadings" sLdg f fd) (G : Dr P w K mg base) (CF : FnAt P w K mg base 1 "row_from" ["web", "other", "first"] spRfD) (CL : FnAt P w K mg base 4 "is_leading" ["web", "other", "row"] (spLeadR T)) : FnOk P w K mg base CX0 5 f fd ["web", "other"] (spLdgD T) := by
  obtain ⟨fF, fdF, GF, bF, mF, kF⟩ := CF
  obtain ⟨fL, fdL, GL, bL, mL, kL⟩ := CL
  refine F.ok scLdg (fun vs H Q E h => ?_) (fun cdv A outer s H vs Q E hr h => ?_)
  · obtain ⟨a, b, wa, wb, rfl, _⟩ := h
    rfl
  · obtain ⟨a, b, wa, wb, rfl, hA, hB, gA, gB, la, lb, tb, k⟩ := h
    have nd := scLdg.nd
    have hrF := hr.mono (show 1 ≤ 4 by decide)
    have hrL := hr
    refine ⟨_, (pss_cons (ps_setLc (i := 2) (own := [("first", 3)]) (g := (gName 3)) (tt := tYes) (te := (tCall spRfD [] E0 (tCons (tVar 0) (tCons (tVar 1) (tCons (tVar 3) tNil))))) (by rfl) nd rfl rfl (sw_true rfl rfl rfl (by decide +kernel)) (pi_range1 (by rfl) G.mrange (pa_cons (pe_callB call_len_seq (by rfl) G.mlen PySem.boot_len (pa_cons (pv 1) pa_nil)) pa_nil)) (blkOk_by (own := [("first", 3)]) (N := nLdg) (sc := defScope sLdg) (by decide +kernel))
            (fun _ _ _ _ _ => by exact (pg_name (i := 3) nd rfl (Or.inl rfl))) (fun _ _ _ _ _ => by exact pts_nil) (fun _ _ _ _ _ => by exact (pe_call GF hrF (by rfl) mF kF bF .nil pass0 (pa_cons (pv 0) (pa_cons (pv 1) (pa_cons (pv 3) pa_nil))))))
      (pss_one (ps_ret (pe_lc (own := [("row", 4)]) (g := (gName 4)) (tt := (tAnd (tTest (tOp (fun x y H Q => y = .non ∧ Q (.bl (!decide (x = .non))) H) (tVar 4) (tC .non))) (tB (tCall (spLeadR T) [] E0 (tCons (tVar 0) (tCons (tVar 1) (tCons (tVar 4) tNil))))))) (te := (tVar 4))
          (by rfl) nd (pi_list (pv 2)) (blkOk_by (own := [("row", 4)]) (N := nLdg) (sc := defScope sLdg) (by decide +kernel))
          (fun _ _ _ _ _ => by exact (pg_name (i := 4) nd rfl (Or.inl rfl))) (fun _ _ _ _ _ => by exact (pts_one (PW.pt (pw_and (pt_cmpR op_notN (pv 4) pe_non (nomark _)) (pw_and1 (pt_val (pe_call GL hrL (by rfl) mL kL bL .nil pass0 (pa_cons (pv 0) (pa_cons (pv 1) (pa_cons (pv 4) pa_nil)))))))))) (fun _ _ _ _ _ => by exact (pv 4)))))), ?_⟩
    obtain ⟨gs, hBa, hBP⟩ := id hB
    have gsl : gs.length = wb.length := Paired.length hBP
    refine ⟨_, rfl, b, _, rfl, .inr (SqT.of hBa), _, rfl, (by rw [List.length_map]; omega), (by rw [List.length_map]; omega), fun D nD => ?_⟩
    rw [List.length_map, gsl, Int.toNat_natCast]
    have neDT : D ≠ T := tb.ne nD
    refine lc_range (lo := 0) (fun i H2 => Same H H2 ∧ ∃ vs : List V, H2 D = some (.lst vs) ∧ Paired (RVD wa wb H2) vs (List.range i)) ⟨same_new nD, [], upd_same, .nil⟩ ?_ ?_
    · rintro i H2 hi ⟨s2, vs, hD, hvs⟩
      have vl : vs.length = i := by have := Paired.length hvs; rwa [List.length_range] at this
      refine ⟨rfl, ?_⟩
      dsimp only [tYes]
      rw [if_pos rfl, natZ]
      have fin : ∀ (v : V) (H3 : Hp), Same H2 H3 → RVD wa wb H3 v i → ∃ acc, H3 D = some (.lst acc) ∧ acc.length < sizeLine ∧ (Same H (upd H3 D (.lst (acc ++ [v]))) ∧ ∃ vs : List V, (upd H3 D (.lst (acc ++ [v]))) D = some (.lst vs) ∧ Paired (RVD wa wb (upd H3 D (.lst (acc ++ [v])))) vs (List.range (i + 1))) := fun v H3 s3 rv => by
        have hD3 := s3 _ _ hD
        have tt := tups_lst (o := HO.lst (vs ++ [v])) hD3
        refine ⟨vs, hD3, (by rw [vl, sizeLine_eq]; omega), same_upd (s2.trans s3) nD, vs ++ [v], upd_same, ?_⟩
        rw [List.range_succ]
        exact paired_snoc (R := RVD wa wb (upd H3 D (.lst (vs ++ [v])))) (rv.map fun _ _ z => TupD.upd z hD3) (Paired.mapP hvs fun _ _ z => RVD.map (fun _ _ z => TupD.upd (TupD.same s3 z) hD3) z)
      refine ⟨_, rfl, _, rfl, _, rfl, a, b, wa, wb, i, rfl, hA.tups (sTups s2), hB.tups (sTups s2), gA, gB, la, lb, hi, fun H3 s3 no => fin _ H3 s3 (.inl ⟨rfl, no⟩), fun r row H3 s3 e3 cd => fin _ H3 s3 (.inr ⟨r, row, rfl, e3, cd⟩)⟩
    rintro H2 ⟨s2, vs, hD, hvs⟩
    have vl : vs.length = wb.length := by have := Paired.length hvs; rwa [List.length_range] at this
    have tb2 : TblAt H2 T := tb.same s2
    have shA := Sh.of gA la
    have shB := Sh.of gB lb
    refine ⟨_, rfl, D, rfl, ⟨_, SqL.of hD⟩, fun L nL => ?_⟩
    have neLT : L ≠ T := tb2.ne nL
    have nLH : H L = none := s2.free nL
    have neLD : D ≠ L := fun z => by rw [← z, hD] at nL; cases nL
    have st0 : StepT T H2 (upd H2 L (.lst [])) := (StepT.refl tb2).put nL neLT
    refine lc_list (K := K) (a := D) (xs := vs) (fun i H3 => StepT T H2 H3 ∧ ∃ as : List Addr, H3 L = some (.lst (as.map V.ref)) ∧ Paired (RowD H3) as (leadsD wa wb i)) ⟨st0, [], upd_same, .nil⟩ (fun i H3 _ ⟨s3, _⟩ => SqL.of (s3.keep D _ neDT hD)) ?_ ?_
    · rintro i v H3 hv ⟨s3, as, hL, has⟩
      have il : i < wb.length := by rw [← vl]; exact (List.getElem?_eq_some_iff.mp hv).1
      have tu3 : Tups H2 H3 := s3.tups tb2
      obtain ⟨f', ef', rv⟩ := paired_get hvs hv
      have : f' = i := by
        rw [List.getElem?_range il] at ef'
        exact (Option.some.inj ef').symm
      subst this
      refine ⟨rfl, ?_⟩
      have al : as.length ≤ f' := by rw [Paired.length has]; exact leadsD_len f'
      have stay : lead1 wa wb f' = none → ∀ H4, StepT T H3 H4 → (StepT T H2 H4 ∧ ∃ as : List Addr, H4 L = some (.lst (as.map V.ref)) ∧ Paired (RowD H4) as (leadsD wa wb (f' + 1))) := fun no H4 s4 => by
        refine ⟨s3.trans s4, as, s4.keep L _ neLT hL, ?_⟩
        rw [leadsD_succ, no]
        show Paired _ as (leadsD wa wb f' ++ [])
        rw [List.append_nil]
        exact Paired.mapP has fun _ _ z => TupD.keep z s3.tbl s4
      rcases rv with ⟨rfl, no⟩ | ⟨r, row, rfl, er, cd⟩
      · refine ⟨_, rfl, rfl, _, rfl, ?_⟩
        refine iteF ?_
        refine iteF ?_
        exact stay (lead1_none no) H3 (StepT.refl s3.tbl)
      · refine ⟨_, rfl, rfl, _, rfl, ?_⟩
        refine iteT ?_
        refine ⟨_, rfl, _, rfl, _, rfl, a, b, r, wa, wb, row, rfl, hA.tups ((sTups s2).trans tu3), hB.tups ((sTups s2).trans tu3), .inr (TupD.keep er tb2 s3), shA, shB, s3.tbl, fun H4 s4 => ⟨_, rfl, ?_⟩⟩
        have t4 := s4.tups s3.tbl
        cases z : leadB wa wb row with
        | false =>
          refine iteF ?_
          exact stay (cd.no z) H4 s4
        | true =>
          refine iteT ?_
          have hL4 := s4.keep L _ neLT hL
          have tt := tups_lst (o := HO.lst (as.map V.ref ++ [V.ref r])) hL4
          refine ⟨_, rfl, _, hL4, (by rw [List.length_map, sizeLine_eq]; omega), (s3.trans s4).put nL neLT, as ++ [r], (by rw [List.map_append]; exact upd_same), ?_⟩
          rw [leadsD_succ, cd.yes gA z]
          show Paired _ (as ++ [r]) (leadsD wa wb f' ++ [row])
          exact paired_snoc (R := RowD (upd H4 L (.lst (as.map V.ref ++ [V.ref r])))) (TupD.upd (TupD.keep (TupD.keep er tb2 s3) s3.tbl s4) hL4) (Paired.mapP has fun _ _ z => TupD.upd (TupD.keep z s3.tbl s4) hL4)
    · rintro H3 ⟨s3, as, hL, has⟩
      rw [vl] at has
      refine k L H3 nLH ⟨fun c o n e => s3.keep c o n (s2 _ _ e), s3.tbl⟩ ⟨as, hL, has⟩
end
end NH
set_option Elab.async false
set_option linter.all false
set_option maxRecDepth 100000
set_option maxHeartbeats 4000000
namespace NH
open PySem L2
abbrev sSam : Stmt := top 6
abbrev nSam : List Str := ["one", "other", "rows"]
theorem scSam : FnScope nSam ["one", "other"] (defScope sSam) := ⟨rfl, rfl, rfl, by decide +kernel, rfl, by decide +kernel, by decide +kernel⟩
theorem len_eqS {a b : Nat} : decide (V.int (a : Int) = V.int (b : Int)) = decide (a = b) := by
  by_cases h : a = b
  · rw [decide_eq_true h, h, decide_eq_true rfl]
  · rw [decide_eq_false h]
    exact decide_eq_false fun z => h (by injection z with z; omega)
section
variable {P : Program} {w : World} {K : PySem.W.Frag} {mg : Str → Option Value} {base : Heap}
theorem ok_sam {f : Addr} {fd : FuncData} {T : Addr} (F : Fun K "same" "same" sSam f fd) (G : Dr P w K mg base) (CL : FnAt P w K mg base 5 "leadings" ["web", "other"] (spLdgD T)) : FnOk P w K mg base CX0 6 f fd ["one", "other"] (spSam T) := by
  obtain ⟨fL, fdL, GL, bL, mL, kL⟩ := CL
  refine F.ok scSam (fun vs H Q E h => ?_) (fun cdv A outer s H vs Q E hr h => ?_)
  · obtain ⟨a, b, wa, wb, rfl, _⟩ := h
    rfl
  · obtain ⟨a, b, wa, wb, rfl, hA, hB, gA, gB, la, lb, tb, k⟩ := h
    have nd := scSam.nd
    have hrL := hr
    refine ⟨_, (pss_cons (ps_if (pt_cmpR op_ne (pe_callB call_len_seq (by rfl) G.mlen PySem.boot_len (pa_cons (pv 0) pa_nil)) (pe_callB call_len_seq (by rfl) G.mlen PySem.boot_len (pa_cons (pv 1) pa_nil)) (nomark _)) (pss_one (ps_ret pe_non)) pss_nil)
      (pss_cons (ps_set (i := 2) nd rfl (Or.inl rfl) (pe_call GL hrL (by rfl) mL kL bL .nil pass0 (pa_cons (pv 0) (pa_cons (pv 1) pa_nil))))
      (pss_cons (ps_if (pt_not (pt_truth (pv 2) (fun _ => rfl))) (pss_one (ps_ret pe_non)) pss_nil)
      (pss_one (ps_ret (pe_ix ix_list (pv 2) pe_int (fun _ _ => rfl))))))), ?_⟩
    obtain ⟨hs, hAa, hAP⟩ := id hA
    have hsl : hs.length = wa.length := Paired.length hAP
    obtain ⟨gs, hBa, hBP⟩ := id hB
    have gsl : gs.length = wb.length := Paired.length hBP
    refine ⟨_, rfl, a, _, rfl, .inr (SqT.of hAa), _, rfl, b, _, rfl, .inr (SqT.of hBa), rfl, _, rfl, ?_⟩
    rw [List.length_map, List.length_map, hsl, gsl, len_eqS]
    by_cases e : wa.length = wb.length
    · rw [decide_eq_true e]
      refine iteF ?_
      refine ⟨_, rfl, _, rfl, a, b, wa, wb, rfl, hA, hB, gA, gB, la, lb, tb, fun L H1 nL s1 hR => ?_⟩
      obtain ⟨as, hL, hp⟩ := hR.ex
      refine ⟨_, rfl, _, .inl ⟨_, SqL.of hL, rfl⟩, ?_⟩
      cases hl : leadsD wa wb wb.length with
      | nil =>
        rw [hl] at hp
        cases hp
        refine iteT ?_
        exact k _ _ s1 (by unfold sameD; rw [if_pos e, hl]; rfl)
      | cons r rs =>
        rw [hl] at hp
        cases hp with
        | cons h0 ht =>
        refine iteF ?_
        refine ⟨_, rfl, L, _, _, _, rfl, rfl, SqL.of hL, atI_nat (j := 0) rfl, ?_⟩
        exact k _ _ s1 (by unfold sameD; rw [if_pos e, hl]; exact ⟨_, rfl, h0⟩)
    · rw [decide_eq_false e]
      refine iteT ?_
      exact k _ _ (StepT.refl tb) (by unfold sameD; rw [if_neg e]; rfl)
end
end NH
set_option Elab.async false
set_option linter.all false
set_option maxRecDepth 100000
set_option maxHeartbeats 4000000
namespace NH
open PySem L2
abbrev sIsl : Stmt := top 21
abbrev nIsl : List Str := ["_law_web_here", "_law_other", "_law_row", "_law_h", "_law_mark", "_law_pegs", "_law_g", "_law_q"]
theorem scIsl : FnScope nIsl ["_law_web_here", "_law_other", "_law_row"] (defScope sIsl) := ⟨rfl, rfl, rfl, by decide +kernel, rfl, by decide +kernel, by decide +kernel⟩
section
variable {P : Program} {w : World} {K : PySem.W.Frag} {mg : Str → Option Value} {base : Heap}
theorem ok_isl {f : Addr} {fd : FuncData} (F : Fun K "_law_is_leading" "_law_is_leading" sIsl f fd) (G : Dr P w K mg base) : FnOk P w K mg base CX0 1 f fd ["_law_web_here", "_law_other", "_law_row"] spIsl := by
  refine F.ok scIsl (fun vs H Q E h => ?_) (fun cdv A outer s H vs Q E hr h => ?_)
  · obtain ⟨a, b, c, wa, wb, row, rfl, _⟩ := h
    rfl
  · obtain ⟨a, b, c, wa, wb, row, rfl, hA, hB, hR, shA, shB, len, ok, k⟩ := h
    have nd := scIsl.nd
    refine ⟨_, (pss_cons (ps_for PassesOwn.never rfl (pi_enumT (by rfl) G.menum (pa_cons (pv 0) pa_nil)) (pg_tup (by rfl) (pgs_cons (pg_name (i := 3) nd rfl (Or.inl rfl)) (pgs_cons (pg_tup (by rfl) (pgs_cons (pg_name (i := 4) nd rfl (Or.inl rfl)) (pgs_cons (pg_name (i := 5) nd rfl (Or.inl rfl)) pgs_nil))) pgs_nil)))
        (pss_cons (ps_if (PW.pt (pw_or (pt_cmpR op_ne (pv 4) (pe_ix ix_tup (pe_ix ix_tup (pv 1) (pe_ix ix_tup (pv 2) (pv 3) (fun _ _ => rfl)) (fun _ _ => rfl)) pe_int (fun _ _ => rfl)) (nomark _)) (pw_or1 (pt_cmpR op_ne (pe_callB call_len_seq (by rfl) G.mlen PySem.boot_len (pa_cons (pv 5) pa_nil)) (pe_callB call_len_seq (by rfl) G.mlen PySem.boot_len (pa_cons (pe_ix ix_tup (pe_ix ix_tup (pv 1) (pe_ix ix_tup (pv 2) (pv 3) (fun _ _ => rfl)) (fun _ _ => rfl)) pe_int (fun _ _ => rfl)) pa_nil)) (nomark _))))) (pss_one (ps_ret pe_bl)) pss_nil)
        (pss_one (ps_if (pt_cmpR (op_neD hr.units) (pe_lc (own := [("_law_g", 6), ("_law_q", 7)]) (g := (gTup K 2 (gCons (gName 6) (gCons (gName 7) gNil)))) (tt := tYes) (te := (tTup (tCons (tOp (rIxT K) (tVar 2) (tVar 6)) (tCons (tVar 7) tNil))))
          (by rfl) nd (pi_tup (pv 5)) (blkOk_by (own := [("_law_g", 6), ("_law_q", 7)]) (N := nIsl) (sc := defScope sIsl) (by decide +kernel))
          (fun _ _ _ _ _ => by exact (pg_tup (by rfl) (pgs_cons (pg_name (i := 6) nd rfl (Or.inl rfl)) (pgs_cons (pg_name (i := 7) nd rfl (Or.inl rfl)) pgs_nil)))) (fun _ _ _ _ _ => by exact pts_nil) (fun _ _ _ _ _ => by exact (pe_tup (pa_cons (pe_ix ix_tup (pv 2) (pv 6) (fun _ _ => rfl)) (pa_cons (pv 7) pa_nil))))) (pe_callTy call_list_of (by rfl) G.mlist (by decide +kernel) (pa_cons (pe_ix ix_tup (pe_ix ix_tup (pv 1) (pe_ix ix_tup (pv 2) (pv 3) (fun _ _ => rfl)) (fun _ _ => rfl)) pe_int (fun _ _ => rfl)) pa_nil)) (nomark _)) (pss_one (ps_ret pe_bl)) pss_nil))))
      (pss_one (ps_ret (pe_cmpR op_gt (pe_callB call_len_seq (by rfl) G.mlen PySem.boot_len (pa_cons (pv 0) pa_nil)) pe_int (nomark _))))), ?_⟩
    obtain ⟨hs, hAa, hAP⟩ := id hA
    obtain ⟨gs, hBa, hBP⟩ := id hB
    have hsl : hs.length = wa.length := Paired.length hAP
    refine ⟨_, rfl, a, _, rfl, SqT.of hAa, for_enumT (K := K) (a := a) (xs := hs.map V.ref) (fun i σ H2 => Same H H2 ∧ ((List.range i).all (agrAt wa wb row) = true) ∧ ∃ (o3 o4 o5 o6 o7 : Option V), σ = [some (.ref a), some (.ref b), some (.ref c), o3, o4, o5, o6, o7])
      ⟨fun _ _ e => e, rfl, none, none, none, none, none, rfl⟩ (fun i σ H2 _ ⟨s2, _⟩ => SqT.of (s2 _ _ hAa)) ?_ ?_⟩
    · rintro h y T σ H2 hyi ⟨s2, all, o3, o4, o5, o6, o7, rfl⟩ nT
      rw [List.getElem?_map] at hyi
      obtain ⟨x1, ex1, rfl⟩ := Option.map_eq_some_iff.mp hyi
      obtain ⟨hd, e1, b1, e2, ps, e3, e4⟩ := paired_get hAP ex1
      have hl : h < wa.length := (List.getElem?_eq_some_iff.mp e1).1
      have sT := same_new (o := .tup [.int (h : Nat), .ref x1]) nT
      have s3 := s2.trans sT
      obtain ⟨r, er, rl⟩ := ok.get (h := h) (by omega)
      obtain ⟨x2, b2, hd2, qs, f1, at2', f2, f3, f4⟩ := web_hand (K := K) hBa hBP rl
      have val := agrAt_eq e1 er f1
      have no : agrAt wa wb row h = false → (List.range wa.length).all (agrAt wa wb row) = false := fun z => by
        rw [List.all_eq_false]
        exact ⟨h, List.mem_range.mpr hl, by rw [z]; decide⟩
      have yes : agrAt wa wb row h = true → (List.range (h + 1)).all (agrAt wa wb row) = true := fun z => by
        rw [List.range_succ, List.all_append, all]
        simp [z]
      refine ⟨T, _, rfl, SqT.of upd_same, rfl, _, _, rfl, _, _, rfl, ⟨x1, _, rfl, SqT.of (s3 _ _ e2), rfl, _, _, rfl, _, _, rfl, rfl, rfl, ?_⟩⟩
      generalize (upd H2 T (.tup [.int (h : Nat), .ref x1])) = H3 at sT s3 ⊢
      have hR3 := s3 _ _ hR
      refine ⟨_, rfl, _, rfl, _, rfl, _, rfl, c, _, _, _, rfl, rfl, SqT.of hR3, atI_nat (ints_get? er), b, _, _, _, rfl, rfl, SqT.of (s3 _ _ hBa), at2', x2, _, _, _, rfl, rfl, SqT.of (s3 _ _ f2), rfl, rfl, _, rfl, ?_⟩
      refine ite2 (fun ne => ?_) (fun eq => ?_)
      · have hne : ¬ hd.1 = hd2.1 := by simpa using ne
        have q := k H3 s3
        rw [no (by rw [val]; unfold agrB; rw [decide_eq_false hne]; rfl)] at q
        exact iteT q
      · have heq : hd.1 = hd2.1 := by simpa using eq
        refine ⟨_, rfl, b1, _, rfl, .inr (SqT.of (s3 _ _ e3)), _, rfl, _, rfl, _, rfl, c, _, _, _, rfl, rfl, SqT.of hR3, atI_nat (ints_get? er), b, _, _, _, rfl, rfl, SqT.of (s3 _ _ hBa), at2', x2, _, _, _, rfl, rfl, SqT.of (s3 _ _ f2), rfl, b2, _, rfl, .inr (SqT.of (s3 _ _ f3)), rfl, _, rfl, ?_⟩
        have pl1 : ps.length = hd.2.length := Paired.length e4
        have pl2 : qs.length = hd2.2.length := Paired.length f4
        refine ite2 (fun ne => ?_) (fun eq => ?_)
        · have hne : ¬ hd.2.length = hd2.2.length := by
            rw [List.length_map, List.length_map, pl1, pl2] at ne
            intro z
            rw [z] at ne
            simp at ne
          have dne : ¬ hd2.2 = mapRow row hd.2 := fun z => hne (by rw [z]; unfold mapRow; rw [List.length_map])
          have q := k H3 s3
          rw [no (by rw [val]; unfold agrB; rw [decide_eq_false dne, Bool.and_false])] at q
          exact q
        · refine ⟨_, rfl, b1, rfl, ⟨_, SqT.of (s3 _ _ e3)⟩, fun L nL => ?_⟩
          refine lc_tup (K := K) (a := b1) (xs := ps.map V.ref) (fun c' H4 => Same H3 H4 ∧ ∃ es : List Addr, H4 L = some (.lst (es.map V.ref)) ∧ es.length = c' ∧ PairsAt H4 es (mapRow row (hd.2.take c')))
            ⟨same_new nL, [], upd_same, rfl, .nil⟩ (fun c' H4 _ ⟨s4, _⟩ => SqT.of (s4 _ _ (s3 _ _ e3))) ?_ ?_
          · rintro c' y H4 hyc ⟨s4, es, hD, bl, hbs⟩
            rw [List.getElem?_map] at hyc
            obtain ⟨pa, epa, rfl⟩ := Option.map_eq_some_iff.mp hyc
            obtain ⟨x, ex, hpa⟩ := paired_get e4 epa
            have hpa4 := s4 _ _ (s3 _ _ hpa)
            obtain ⟨g, eg, gl⟩ := shA.near h hd e1 x (List.mem_of_getElem? ex)
            obtain ⟨r', er', _⟩ := ok.get (h := g) (by omega)
            refine ⟨pa, _, rfl, SqT.of hpa4, rfl, _, _, rfl, _, _, rfl, rfl, rfl, ?_⟩
            dsimp only [tYes]
            rw [if_pos rfl]
            refine ⟨_, rfl, _, rfl, c, _, _, _, rfl, rfl, SqT.of (s4 _ _ (s3 _ _ hR)), (by rw [eg]; exact atI_nat (ints_get? er')), _, rfl, (by show 2 ≤ sizeLine; decide), fun t nt => ?_⟩
            have st := same_new (o := .tup [.int (r' : Int), .int x.2]) nt
            have hD4 := st _ _ hD
            have cl : c' < hd.2.length := (List.getElem?_eq_some_iff.mp ex).1
            have pl := shA.few h hd e1
            refine ⟨_, hD4, (by rw [List.length_map, bl, sizeLine_eq]; omega), fun z o e => ?_, es ++ [t], (by rw [List.map_append]; exact upd_same), (by rw [List.length_append, bl]; rfl), ?_⟩
            · rw [upd_ne (ne_of_none e nL)]
              exact st _ _ (s4 _ _ e)
            · have tt := (sTups st).trans (tups_lst (o := .lst (es.map V.ref ++ [.ref t])) hD4)
              rw [mapRow_snoc ex, eg, Int.toNat_natCast, getD_of er']
              have hnew : PairAt (upd (upd H4 t (.tup [.int (r' : Int), .int x.2])) L (.lst (es.map V.ref ++ [.ref t]))) t ((r' : Int), x.2) := by
                show _ = _
                exact tups_lst (o := HO.lst (es.map V.ref ++ [V.ref t])) hD4 _ _ upd_same
              exact paired_snoc (R := PairAt (upd (upd H4 t (.tup [.int (r' : Int), .int x.2])) L (.lst (es.map V.ref ++ [.ref t])))) hnew (pairs_tups tt hbs)
          · rintro H4 ⟨s4, es, hD, bl, hbs⟩
            rw [List.length_map, pl1, List.take_length] at hbs
            have s5 := s3.trans s4
            refine ⟨_, rfl, _, rfl, _, rfl, c, _, _, _, rfl, rfl, SqT.of (s5 _ _ hR), atI_nat (ints_get? er), b, _, _, _, rfl, rfl, SqT.of (s5 _ _ hBa), at2', x2, _, _, _, rfl, rfl, SqT.of (s5 _ _ f2), rfl, b2, _, rfl, .inr (SqT.of (s5 _ _ f3)), fun l2 nl2 => ?_⟩
            have s6 := s5.trans (same_new (o := .lst (qs.map V.ref)) nl2)
            have st := same_new (o := .lst (qs.map V.ref)) nl2
            refine ⟨.list ((mapRow row hd.2).map pairD), .list (hd2.2.map pairD), dp_lpairs (st _ _ hD) (pairs_tups (sTups st) hbs), dp_lpairs upd_same (pairs_tups (sTups s6) f4), (enc_list enc_pairD).shaped (by decide) _, (enc_list enc_pairD).shaped (by decide) _, _, rfl, ?_⟩
            have ee := (enc_list enc_pairD).eq (mapRow row hd.2) hd2.2
            refine ite2 (fun ne => ?_) (fun eq => ?_)
            · have hne : ¬ hd2.2 = mapRow row hd.2 := fun z => by
                rw [show PyData.eqv (.list ((mapRow row hd.2).map pairD)) (.list (hd2.2.map pairD)) = true from ee.trans (decide_eq_true z.symm)] at ne
                cases ne
              have q := k _ s6
              rw [no (by rw [val]; unfold agrB; rw [decide_eq_false hne, Bool.and_false])] at q
              exact q
            · have heq2 : hd2.2 = mapRow row hd.2 := Decidable.byContradiction fun z => by
                rw [show PyData.eqv (.list ((mapRow row hd.2).map pairD)) (.list (hd2.2.map pairD)) = false from ee.trans (decide_eq_false fun y => z y.symm)] at eq
                exact eq rfl
              exact ⟨s6, yes (by rw [val]; unfold agrB; rw [decide_eq_true heq, decide_eq_true heq2]; rfl), _, _, _, _, _, rfl⟩
    · rintro σ H2 ⟨s2, all, o3, o4, o5, o6, o7, rfl⟩
      rw [List.length_map, hsl] at all
      refine ⟨_, rfl, a, _, rfl, .inr (SqT.of (s2 _ _ hAa)), _, _, rfl, rfl, ?_⟩
      have q := k _ s2
      rw [all] at q
      have pos := shA.pos
      rw [List.length_map, hsl]
      show Q (.bl (decide ((0 : Int) < (wa.length : Int)))) H2
      rw [decide_eq_true (by omega : (0 : Int) < (wa.length : Int))]
      exact q
end
end NH
set_option Elab.async false
set_option linter.all false
set_option maxRecDepth 100000
set_option maxHeartbeats 4000000
namespace NH
open PySem L2
abbrev sWan : Stmt := top 26
abbrev nWan : List Str := ["_law_one", "_law_other", "_law_place", "_law_row"]
theorem scWan : FnScope nWan ["_law_one", "_law_other"] (defScope sWan) := ⟨rfl, rfl, rfl, by decide +kernel, rfl, by decide +kernel, by decide +kernel⟩
def spWan : Sp := fun vs H Q _ => ∃ (a b : Addr) (wa wb : WebD), vs = [.ref a, .ref b] ∧ WebAt H a wa ∧ WebAt H b wb ∧ Good 4 wa ∧ Good 4 wb ∧ wa.length ≤ 100 ∧ wb.length ≤ 100 ∧
  ∀ (v : V) (H' : Hp), Same H H' → OptI H' v (sameD wa wb) → Q v H'
section
variable {P : Program} {w : World} {K : PySem.W.Frag} {mg : Str → Option Value} {base : Heap}
theorem ok_wan {f : Addr} {fd : FuncData} (F : Fun K "_law_wanted" "_law_wanted" sWan f fd) (G : Dr P w K mg base) (mset : mg "set" = none) (CF : FnAt P w K mg base 1 "_law_from" ["_law_one", "_law_other", "_law_place"] spFro) (CJ : FnAt P w K mg base 1 "_law_is_leading" ["_law_web_here", "_law_other", "_law_row"] spIsl) : FnOk P w K mg base CX0 2 f fd ["_law_one", "_law_other"] spWan := by
  obtain ⟨fF, fdF, GF, bF, mF, kF⟩ := CF
  obtain ⟨fJ, fdJ, GJ, bJ, mJ, kJ⟩ := CJ
  refine F.ok scWan (fun vs H Q E h => ?_) (fun cdv A outer s H vs Q E hr h => ?_)
  · obtain ⟨a, b, wa, wb, rfl, _⟩ := h
    rfl
  · obtain ⟨a, b, wa, wb, rfl, hA, hB, gA, gB, la, lb, k⟩ := h
    have nd := scWan.nd
    have hrF := hr
    have hrJ := hr
    refine ⟨_, (pss_cons (ps_if (pt_cmpR op_ne (pe_callB call_len_seq (by rfl) G.mlen PySem.boot_len (pa_cons (pv 0) pa_nil)) (pe_callB call_len_seq (by rfl) G.mlen PySem.boot_len (pa_cons (pv 1) pa_nil)) (nomark _)) (pss_one (ps_ret pe_non)) pss_nil)
      (pss_cons (ps_for PassesOwn.never rfl (pi_range1 (by rfl) G.mrange (pa_cons (pe_callB call_len_seq (by rfl) G.mlen PySem.boot_len (pa_cons (pv 1) pa_nil)) pa_nil)) (pg_name (i := 2) nd rfl (Or.inl rfl))
        (pss_cons (ps_set (i := 3) nd rfl (Or.inl rfl) (pe_call GF hrF (by rfl) mF kF bF .nil pass0 (pa_cons (pv 0) (pa_cons (pv 1) (pa_cons (pv 2) pa_nil)))))
        (pss_one (ps_if (PW.pt (pw_and (pt_cmpR op_notN (pv 3) pe_non (nomark _)) (pw_and (pt_cmpR op_eq (pe_lenSet (by rfl) (by rfl) G.mlen (by rfl) mset (pv 3)) (pe_callB call_len_seq (by rfl) G.mlen PySem.boot_len (pa_cons (pv 0) pa_nil)) (nomark _)) (pw_and1 (pt_val (pe_call GJ hrJ (by rfl) mJ kJ bJ .nil pass0 (pa_cons (pv 0) (pa_cons (pv 1) (pa_cons (pv 3) pa_nil))))))))) (pss_one (ps_ret (pv 3))) pss_nil))))
      (pss_one (ps_ret pe_non)))), ?_⟩
    obtain ⟨hs, hAa, hAP⟩ := id hA
    have hsl : hs.length = wa.length := Paired.length hAP
    obtain ⟨gs, hBa, hBP⟩ := id hB
    have gsl : gs.length = wb.length := Paired.length hBP
    have shA := Sh.of gA la
    have shB := Sh.of gB lb
    refine ⟨_, rfl, a, _, rfl, .inr (SqT.of hAa), _, rfl, b, _, rfl, .inr (SqT.of hBa), rfl, _, rfl, ?_⟩
    rw [List.length_map, List.length_map, hsl, gsl, len_eqS]
    by_cases e : wa.length = wb.length
    · rw [decide_eq_true e]
      refine iteF ?_
      have sd : sameD wa wb = (leadsD wa wb wb.length).head? := by unfold sameD; rw [if_pos e]
      refine ⟨_, rfl, b, _, rfl, .inr (SqT.of hBa), _, rfl, (by rw [List.length_map]; omega), (by rw [List.length_map]; omega), ?_⟩
      rw [List.length_map, gsl, Int.toNat_natCast]
      refine for_range (lo := 0) (n := wb.length) (fun i σ H1 => Same H H1 ∧ leadsD wa wb i = [] ∧ ∃ o2 o3 : Option V, σ = [some (.ref a), some (.ref b), o2, o3]) ⟨fun _ _ e => e, rfl, none, none, rfl⟩ ?_ ?_
      · rintro i σ H1 hi ⟨s1, em, o2, o3, rfl⟩
        rw [natZ]
        refine ⟨_, rfl, _, rfl, _, rfl, a, b, wa, wb, i, rfl, hA.tups (sTups s1), hB.tups (sTups s1), gA, gB, la, lb, hi, fun H2 s2 no => ?_, fun r row H2 s2 er cd => ?_⟩
        · refine ⟨_, rfl, rfl, _, rfl, ?_⟩
          refine iteF ?_
          refine iteF ?_
          exact ⟨s1.trans s2, leadsD_none em (lead1_none no), _, _, rfl⟩
        · have s12 := s1.trans s2
          have hA2 := s12 _ _ hAa
          refine ⟨_, rfl, rfl, _, rfl, ?_⟩
          refine iteT ?_
          refine ⟨_, rfl, r, row, rfl, .inr (SqT.of er), by rw [cd.len]; omega, fun ds d me => ⟨_, rfl, a, _, rfl, .inr (SqT.of hA2), rfl, _, rfl, ?_⟩⟩
          rw [List.length_map, hsl, len_eqS]
          by_cases c : ds.length = wa.length
          · rw [decide_eq_true c]
            refine iteT ?_
            refine ⟨_, rfl, _, rfl, _, rfl, a, b, r, wa, wb, row, rfl, hA.tups (sTups s12), hB.tups (sTups s12), er, shA, shB, cd.len, cd.ok, fun H3 s3 => ⟨_, rfl, ?_⟩⟩
            rw [← leadB_cand cd]
            cases z : leadB wa wb row with
            | true =>
              refine iteT ?_
              refine ⟨_, rfl, ?_⟩
              refine k _ H3 (s12.trans s3) ?_
              rw [sd, leadsD_new em (cd.yes gA z) hi]
              exact ⟨r, rfl, s3 _ _ er⟩
            | false =>
              refine iteF ?_
              exact ⟨s12.trans s3, leadsD_none em (cd.no z), _, _, rfl⟩
          · rw [decide_eq_false c]
            refine iteF ?_
            refine iteF ?_
            refine ⟨s12, leadsD_none em (cd.no ?_), _, _, rfl⟩
            cases z : leadB wa wb row with
            | false => rfl
            | true =>
              obtain ⟨ld, rfl, L⟩ := led_of_lead gA.bnd z
              exact absurd (dense_len' (ns := ld) (fun n hn => by
                obtain ⟨h, eh⟩ := List.getElem?_of_mem hn
                rw [e]
                exact (L.lt eh).2) (fun n hn => L.onto gA gB n (by omega)) d me) c
      · rintro σ H1 ⟨s1, em, o2, o3, rfl⟩
        refine k _ H1 s1 ?_
        rw [sd, em]
        rfl
    · rw [decide_eq_false e]
      refine iteT ?_
      exact k _ _ (fun _ _ e => e) (by unfold sameD; rw [if_neg e]; rfl)
end
end NH
set_option Elab.async false
set_option linter.all false
set_option maxRecDepth 100000
set_option maxHeartbeats 4000000
namespace NH
open PySem L2
abbrev sAlike : Stmt := top 12
abbrev nAlike : List Str := ["_law_found", "_law_due", "_law_one", "_law_other"]
section
variable {P : Program} {w : World} {K : PySem.W.Frag} {mg : Str → Option Value} {base : Heap}
theorem scAlike : FnScope nAlike ["_law_found", "_law_due"] (defScope sAlike) := ⟨rfl, rfl, rfl, by decide +kernel, rfl, by decide +kernel, by decide +kernel⟩
theorem all_rep (n : Nat) : (List.replicate n true).all id = true := by
  rw [List.all_eq_true]
  intro x hx
  rw [List.eq_of_mem_replicate hx]
  rfl
theorem ok_alike {f : Addr} {fd : FuncData} (F : Fun K "_law_alike" "_law_alike" sAlike f fd) (b : Binds K fd ["_law_found", "_law_due"] []) (m : mg "_law_alike" = some (.ref f)) (kp : PySem.W.keepIn K (.ref f) = true)
    (misi : mg "isinstance" = none) (mlist : mg "list" = none) (mtuple : mg "tuple" = none) (mbool : mg "bool" = none) (mlen : mg "len" = none) (mall : mg "all" = none) (mzip : mg "zip" = none) :
    ∀ n : Nat, FnOk P w K mg base CX0 n f fd ["_law_found", "_law_due"] (spAlikeD n)
  | 0 => ⟨fun vs H Q E h => by obtain ⟨x, y, _, h, _⟩ := h; exact h.elim, fun A outer s H args us vs Q E hr he hb hv h => by obtain ⟨x, y, _, h, _⟩ := h; exact h.elim⟩
  | n + 1 => by
    have ih := ok_alike F b m kp misi mlist mtuple mbool mlen mall mzip n
    refine F.ok scAlike (fun vs H Q E h => ?_) (fun cdv A outer s H vs Q E hr h => ?_)
    · obtain ⟨x, y, rfl, _⟩ := h
      rfl
    obtain ⟨x, y, rfl, hA, k⟩ := h
    have nd := scAlike.nd
    have bisi : bootBuiltins "isinstance" = some (.builtin "isinstance") := by decide +kernel
    have ball : bootBuiltins "all" = some (.builtin "all") := by decide +kernel
    have blist : bootBuiltins "list" = some (.type "list") := by decide +kernel
    have btuple : bootBuiltins "tuple" = some (.type "tuple") := by decide +kernel
    have bbool : bootBuiltins "bool" = some (.type "bool") := by decide +kernel
    refine ⟨_, pss_cons (ps_if (pt_val (pe_callB call_isiTD (by rfl) misi bisi (pa_cons (pv 1) (pa_cons (pe_tup (pa_cons (pe_bltn (v := .ty "list") (by rfl) mlist blist rfl) (pa_cons (pe_bltn (v := .ty "tuple") (by rfl) mtuple btuple rfl) pa_nil))) pa_nil))))
        (pss_cons (ps_if (PW.pt (pw_or (pt_cmpR op_ne (pe_callB call_isiD (by rfl) misi bisi (pa_cons (pv 0) (pa_cons (pe_bltn (v := .ty "tuple") (by rfl) mtuple btuple rfl) pa_nil))) (pe_callB call_isiD (by rfl) misi bisi (pa_cons (pv 1) (pa_cons (pe_bltn (v := .ty "tuple") (by rfl) mtuple btuple rfl) pa_nil))) (nomark _))
            (pw_or1 (pt_cmpR op_ne (pe_callB call_isiD (by rfl) misi bisi (pa_cons (pv 0) (pa_cons (pe_bltn (v := .ty "list") (by rfl) mlist blist rfl) pa_nil))) (pe_callB call_isiD (by rfl) misi bisi (pa_cons (pv 1) (pa_cons (pe_bltn (v := .ty "list") (by rfl) mlist blist rfl) pa_nil))) (nomark _)))))
          (pss_one (ps_ret pe_bl)) pss_nil)
        (pss_one (ps_ret (pe_and (pe_cmpR op_eq (pe_callB call_len_seq (by rfl) mlen PySem.boot_len (pa_cons (pv 0) pa_nil)) (pe_callB call_len_seq (by rfl) mlen PySem.boot_len (pa_cons (pv 1) pa_nil)) (nomark _))
          (pe_one (pe_callB (cr_all rfl) (by rfl) mall ball (pa_cons
            (pe_lc (own := [("_law_one", 2), ("_law_other", 3)]) (g := gTup K 2 (gCons (gName 2) (gCons (gName 3) gNil))) (te := tCall (spAlikeD n) [] E0 (tCons (tVar 2) (tCons (tVar 3) tNil)))
              (by rfl) nd (pi_zipA (by rfl) mzip (pa_cons (pv 0) (pa_cons (pv 1) pa_nil))) (blkOk_by (own := [("_law_one", 2), ("_law_other", 3)]) (N := nAlike) (sc := defScope sAlike) (by decide +kernel))
              (fun _ _ _ _ _ => by exact pg_tup (by rfl) (pgs_cons (pg_name (i := 2) nd rfl (Or.inl rfl)) (pgs_cons (pg_name (i := 3) nd rfl (Or.inl rfl)) pgs_nil))) (fun _ _ _ _ _ => pts_nil)
              (fun _ _ _ _ _ => by exact pe_call ih hr (by rfl) m kp b .nil pass0 (pa_cons (pv 2) (pa_cons (pv 3) pa_nil)))) pa_nil)))))))
        pss_nil)
      (pss_one (ps_ret (pe_and (pe_cmpR op_eq (pe_callB call_isiD (by rfl) misi bisi (pa_cons (pv 0) (pa_cons (pe_bltn (v := .ty "bool") (by rfl) mbool bbool rfl) pa_nil))) (pe_callB call_isiD (by rfl) misi bisi (pa_cons (pv 1) (pa_cons (pe_bltn (v := .ty "bool") (by rfl) mbool bbool rfl) pa_nil))) (nomark _))
        (pe_one (pe_cmpR op_eq (pv 0) (pv 1) (nomark _)))))), ?_⟩
    refine ⟨_, rfl, (by show 2 ≤ sizeLine; decide), fun T nT => ?_⟩
    have sT := same_new (o := .tup [V.ty "list", V.ty "tuple"]) nT
    have eT : (upd H T (.tup [V.ty "list", V.ty "tuple"])) T = some (.tup [V.ty "list", V.ty "tuple"]) := upd_same
    have hA1 := hA.same sT
    generalize (upd H T (.tup [V.ty "list", V.ty "tuple"])) = H1 at sT eT hA1 ⊢
    rcases hA1 with ⟨rfl, fl⟩ | ⟨a, c, xs, ys, rfl, rfl, hh, hl, hp⟩
    · -- a thing without parts
      have one : ∃ t bb, TyOf K H1 x t ∧ PySem.W.kitAny K t (["list", "tuple"].map Value.type) = some false ∧ PySem.W.kitOne K t (.type "bool") = some bb ∧ scal x x = true := by
        cases x with
        | non => exact ⟨_, _, .non, kaN, kNB, rfl⟩
        | bl b => exact ⟨_, _, .bl b, kaB, kBB, rfl⟩
        | int i => exact ⟨_, _, .int i, kaI, kIB, rfl⟩
        | str s => exact ⟨_, _, .str s, kaS, kSB, rfl⟩
        | _ => exact absurd (show false = true from fl) Bool.false_ne_true
      obtain ⟨t, bb, ty, k1, k2, k3⟩ := one
      refine ⟨x, T, t, false, ["list", "tuple"], rfl, .any ty, eT, k1, _, rfl, ?_⟩
      refine iteF ?_
      refine ⟨_, rfl, x, .ty "bool", t, _, bb, rfl, .any ty, rfl, k2, _, rfl, x, .ty "bool", t, _, bb, rfl, .any ty, rfl, k2, rfl, _, rfl, ?_⟩
      rw [decide_eq_true rfl]
      refine ⟨_, rfl, _, rfl, k3, ?_⟩
      rw [decide_eq_true rfl]
      exact k H1 sT
    · have same : xs.length = ys.length := Paired.length hp
      have lz : ∀ i : Nat, i < xs.length → i < sizeLine := fun i hi => by rw [sizeLine_eq]; omega
      rcases hh with ⟨ea, ec⟩ | ⟨ea, ec⟩
      · refine ⟨_, T, _, true, ["list", "tuple"], rfl, .any (.lst ec), eT, kaL, _, rfl, ?_⟩
        refine iteT ?_
        refine ⟨_, rfl, _, .ty "tuple", _, _, _, rfl, .any (.lst ea), rfl, kLT, _, rfl, _, .ty "tuple", _, _, _, rfl, .any (.lst ec), rfl, kLT, rfl, _, rfl, ?_⟩
        refine iteF ?_
        refine ⟨_, rfl, _, .ty "list", _, _, _, rfl, .any (.lst ea), rfl, kLL, _, rfl, _, .ty "list", _, _, _, rfl, .any (.lst ec), rfl, kLL, rfl, _, rfl, ?_⟩
        refine iteF ?_
        refine ⟨_, rfl, a, _, rfl, .inl (SqL.of ea), _, rfl, c, _, rfl, .inl (SqL.of ec), rfl, _, rfl, ?_⟩
        rw [same, decide_eq_true rfl]
        refine ⟨_, rfl, _, rfl, a, c, xs, ys, rfl, .inl ⟨SqL.of ea, SqL.of ec, fun D nD => ?_⟩⟩
        refine lc_zip (K := K) (a := a) (b := c) (xs := xs) (ys := ys) same (fun i H2 => Same H1 H2 ∧ H2 D = some (.lst (List.replicate i (V.bl true)))) ⟨same_new nD, upd_same⟩ (fun i H2 _ ⟨s2, _⟩ => ⟨SqL.of (s2 _ _ ea), SqL.of (s2 _ _ ec)⟩) ?_ ?_
        · rintro i p q U H2 ep eq ⟨s2, eD⟩ nU
          have il := (List.getElem?_eq_some_iff.mp ep).1
          have sU := same_new (o := .tup [p, q]) nU
          refine ⟨U, _, rfl, SqT.of upd_same, rfl, _, _, rfl, _, _, rfl, rfl, rfl, ?_⟩
          dsimp only [tYes]
          rw [if_pos rfl]
          obtain ⟨q', eq', hpq⟩ := paired_get hp ep
          rw [eq] at eq'
          cases eq'
          refine ⟨_, rfl, _, rfl, p, q, rfl, (hpq.same (s2.trans sU)), fun H3 s3 => ?_⟩
          refine ⟨_, s3 _ _ (sU _ _ eD), (by rw [List.length_replicate]; exact lz i il), fun z o e => ?_, (by rw [upd_same, ← List.replicate_succ'])⟩
          rw [upd_ne (ne_of_none e nD)]
          exact s3 _ _ (sU _ _ (s2 _ _ e))
        · rintro H2 ⟨s2, eD⟩
          refine ⟨D, List.replicate xs.length true, rfl, SqL.of (by rw [eD, List.map_replicate]), ?_⟩
          rw [all_rep]
          exact k H2 (sT.trans s2)
      · refine ⟨_, T, _, true, ["list", "tuple"], rfl, ec.ty, eT, kaT, _, rfl, ?_⟩
        refine iteT ?_
        refine ⟨_, rfl, _, .ty "tuple", _, _, _, rfl, ea.ty, rfl, kTT, _, rfl, _, .ty "tuple", _, _, _, rfl, ec.ty, rfl, kTT, rfl, _, rfl, ?_⟩
        refine iteF ?_
        refine ⟨_, rfl, _, .ty "list", _, _, _, rfl, ea.ty, rfl, kTL, _, rfl, _, .ty "list", _, _, _, rfl, ec.ty, rfl, kTL, rfl, _, rfl, ?_⟩
        refine iteF ?_
        refine ⟨_, rfl, a, _, rfl, .inr (ea.sq), _, rfl, c, _, rfl, .inr (ec.sq), rfl, _, rfl, ?_⟩
        rw [same, decide_eq_true rfl]
        refine ⟨_, rfl, _, rfl, a, c, xs, ys, rfl, .inr ⟨ea.sq, ec.sq, fun D nD => ?_⟩⟩
        refine lc_zipT (K := K) (a := a) (b := c) (xs := xs) (ys := ys) same (fun i H2 => Same H1 H2 ∧ H2 D = some (.lst (List.replicate i (V.bl true)))) ⟨same_new nD, upd_same⟩ (fun i H2 _ ⟨s2, _⟩ => ⟨(ea.same s2).sq, (ec.same s2).sq⟩) ?_ ?_
        · rintro i p q U H2 ep eq ⟨s2, eD⟩ nU
          have il := (List.getElem?_eq_some_iff.mp ep).1
          have sU := same_new (o := .tup [p, q]) nU
          refine ⟨U, _, rfl, SqT.of upd_same, rfl, _, _, rfl, _, _, rfl, rfl, rfl, ?_⟩
          dsimp only [tYes]
          rw [if_pos rfl]
          obtain ⟨q', eq', hpq⟩ := paired_get hp ep
          rw [eq] at eq'
          cases eq'
          refine ⟨_, rfl, _, rfl, p, q, rfl, (hpq.same (s2.trans sU)), fun H3 s3 => ?_⟩
          refine ⟨_, s3 _ _ (sU _ _ eD), (by rw [List.length_replicate]; exact lz i il), fun z o e => ?_, (by rw [upd_same, ← List.replicate_succ'])⟩
          rw [upd_ne (ne_of_none e nD)]
          exact s3 _ _ (sU _ _ (s2 _ _ e))
        · rintro H2 ⟨s2, eD⟩
          refine ⟨D, List.replicate xs.length true, rfl, SqL.of (by rw [eD, List.map_replicate]), ?_⟩
          rw [all_rep]
          exact k H2 (sT.trans s2)
end
end NH
set_option Elab.async false
set_option linter.all false
set_option maxRecDepth 100000
set_option maxHeartbeats 1000000
namespace NH
open PySem L2
structure TwoT (w : WebD) (a b c d : End) : Prop where
  ab : pegOf w a.1 a.2 = some (pegI b)
  cd : pegOf w c.1 c.2 = some (pegI d)
  lab : ltPeg (pegI a) (pegI b) = true
  lcd : ltPeg (pegI c) (pegI d) = true
  ac : a ≠ c
def bkD (a b c d : End) (x : End) : Option End := if x = a then some d else if x = d then some a else if x = c then some b else if x = b then some c else none
theorem pegI_one {x y : End} (h : pegI x = pegI y) : x = y := (pegI_inj (e := x) (g := y.1) (q := y.2) h).trans rfl
section
variable {w : WebD} {a b c d : End}
theorem TwoT.ba (t : TwoT w a b c d) (tie : ∀ (h p : Nat) x, pegOf w h p = some x → ∃ g q : Nat, x = ((g : Int), (q : Int)) ∧ pegOf w g q = some ((h : Int), (p : Int))) : pegOf w b.1 b.2 = some (pegI a) := by
  obtain ⟨g, q, e, k⟩ := tie _ _ _ t.ab
  have : b = (g, q) := pegI_one e
  rw [this]
  exact k
theorem TwoT.dc (t : TwoT w a b c d) (tie : ∀ (h p : Nat) x, pegOf w h p = some x → ∃ g q : Nat, x = ((g : Int), (q : Int)) ∧ pegOf w g q = some ((h : Int), (p : Int))) : pegOf w d.1 d.2 = some (pegI c) := by
  obtain ⟨g, q, e, k⟩ := tie _ _ _ t.cd
  have : d = (g, q) := pegI_one e
  rw [this]
  exact k
structure Four (a b c d : End) : Prop where
  ab : a ≠ b
  ac : a ≠ c
  ad : a ≠ d
  bc : b ≠ c
  bd : b ≠ d
  cd : c ≠ d
theorem TwoT.four (t : TwoT w a b c d) (tie : ∀ (h p : Nat) x, pegOf w h p = some x → ∃ g q : Nat, x = ((g : Int), (q : Int)) ∧ pegOf w g q = some ((h : Int), (p : Int))) : Four a b c d := by
  have ba := t.ba tie
  have dc := t.dc tie
  have irr : ∀ x : End, ltPeg (pegI x) (pegI x) ≠ true := fun x z => by rw [tot_peg.irr] at z; cases z
  have asym : ∀ x y : End, ltPeg (pegI x) (pegI y) = true → ltPeg (pegI y) (pegI x) = true → False := fun x y h h' => irr x (tot_peg.tr _ _ _ h h')
  refine ⟨fun z => ?_, t.ac, fun z => ?_, fun z => ?_, fun z => ?_, fun z => ?_⟩
  · have := t.lab; rw [z] at this; exact irr _ this
  · have e := t.ab
    rw [z, dc] at e
    have cb : c = b := pegI_one (Option.some.inj e)
    have l1 := t.lab
    rw [z, ← cb] at l1
    exact asym _ _ l1 t.lcd
  · have e := ba
    rw [z, t.cd] at e
    have da : d = a := pegI_one (Option.some.inj e)
    have l1 := t.lcd
    rw [da, ← z] at l1
    exact asym _ _ l1 t.lab
  · have e := ba
    rw [z, dc] at e
    exact t.ac (pegI_one (Option.some.inj e)).symm
  · have := t.lcd; rw [z] at this; exact irr _ this
end
structure CrossOf (bk : End → Option End) (w v : WebD) : Prop where
  len : v.length = w.length
  at_ : ∀ (h : Nat) hd, w[h]? = some hd → ∃ hd' : HandD, v[h]? = some hd' ∧ hd'.1 = hd.1 ∧ hd'.2.length = hd.2.length ∧ ∀ p x, hd.2[p]? = some x → hd'.2[p]? = some (match bk (h, p) with | some e => pegI e | none => x)
section
variable {w v : WebD} {a b c d : End}
theorem CrossOf.from_ {bk : End → Option End} (k : CrossOf bk w v) {h : Nat} {hd' : HandD} (e : v[h]? = some hd') : ∃ hd, w[h]? = some hd ∧ hd'.1 = hd.1 ∧ hd'.2.length = hd.2.length ∧ ∀ p x, hd.2[p]? = some x → hd'.2[p]? = some (match bk (h, p) with | some e => pegI e | none => x) := by
  have hl : h < w.length := by rw [← k.len]; exact (List.getElem?_eq_some_iff.mp e).1
  obtain ⟨hd, ehd⟩ : ∃ hd, w[h]? = some hd := ⟨_, List.getElem?_eq_getElem hl⟩
  obtain ⟨hd2, e2, r⟩ := k.at_ h hd ehd
  rw [e] at e2
  cases e2
  exact ⟨hd, ehd, r⟩
theorem CrossOf.peg {bk : End → Option End} (k : CrossOf bk w v) {h p : Nat} {x : PegD} (e : pegOf w h p = some x) : pegOf v h p = some (match bk (h, p) with | some e => pegI e | none => x) := by
  obtain ⟨hd, e1, e2⟩ := pegOf_some e
  obtain ⟨hd', f1, _, _, f4⟩ := k.at_ h hd e1
  unfold pegOf
  rw [f1]
  exact f4 p x e2
theorem CrossOf.peg_from {bk : End → Option End} (k : CrossOf bk w v) {h p : Nat} {z : PegD} (e : pegOf v h p = some z) : ∃ x, pegOf w h p = some x ∧ z = (match bk (h, p) with | some e => pegI e | none => x) := by
  obtain ⟨hd', e1, e2⟩ := pegOf_some e
  obtain ⟨hd, f1, _, f3, f4⟩ := k.from_ e1
  have pl : p < hd.2.length := by rw [← f3]; exact (List.getElem?_eq_some_iff.mp e2).1
  have g := f4 p _ (List.getElem?_eq_getElem pl)
  rw [e2] at g
  exact ⟨hd.2[p], by unfold pegOf; rw [f1]; exact List.getElem?_eq_getElem pl, Option.some.inj g⟩
theorem CrossOf.tie {n : Nat} (g : Good n w) (t : TwoT w a b c d) (k : CrossOf (bkD a b c d) w v) : ∀ (h p : Nat) x, pegOf v h p = some x → ∃ g q : Nat, x = ((g : Int), (q : Int)) ∧ pegOf v g q = some ((h : Int), (p : Int)) := by
  intro h p z e
  have ba := t.ba g.tie
  have dc := t.dc g.tie
  have f := t.four g.tie
  obtain ⟨x, ex, rfl⟩ := k.peg_from e
  have ba' : bkD a b c d a = some d := by unfold bkD; rw [if_pos rfl]
  have bd' : bkD a b c d d = some a := by unfold bkD; rw [if_neg f.ad.symm, if_pos rfl]
  have bc' : bkD a b c d c = some b := by unfold bkD; rw [if_neg f.ac.symm, if_neg f.cd, if_pos rfl]
  have bb' : bkD a b c d b = some c := by unfold bkD; rw [if_neg f.ab.symm, if_neg f.bd, if_neg f.bc, if_pos rfl]
  have pa := k.peg t.ab
  have pb := k.peg ba
  have pc := k.peg t.cd
  have pd := k.peg dc
  rw [show (a.1, a.2) = a from rfl, ba'] at pa
  rw [show (b.1, b.2) = b from rfl, bb'] at pb
  rw [show (c.1, c.2) = c from rfl, bc'] at pc
  rw [show (d.1, d.2) = d from rfl, bd'] at pd
  by_cases za : (h, p) = a
  · rw [za, ba']
    subst za
    exact ⟨d.1, d.2, rfl, pd⟩
  by_cases zd : (h, p) = d
  · rw [zd, bd']
    subst zd
    exact ⟨a.1, a.2, rfl, pa⟩
  by_cases zc : (h, p) = c
  · rw [zc, bc']
    subst zc
    exact ⟨b.1, b.2, rfl, pb⟩
  by_cases zb : (h, p) = b
  · rw [zb, bb']
    subst zb
    exact ⟨c.1, c.2, rfl, pc⟩
  have none_ : ∀ y : End, y ≠ a → y ≠ d → y ≠ c → y ≠ b → bkD a b c d y = none := fun y h1 h2 h3 h4 => by unfold bkD; rw [if_neg h1, if_neg h2, if_neg h3, if_neg h4]
  rw [none_ _ za zd zc zb]
  obtain ⟨g', q', rfl, k'⟩ := g.tie _ _ _ ex
  have back := k.peg k'
  refine ⟨g', q', rfl, ?_⟩
  have other : ∀ y y' : End, pegOf w y.1 y.2 = some (pegI y') → (h, p) ≠ y' → (g', q') ≠ y := fun y y' e1 n z => by
    subst z
    have e1 : pegOf w g' q' = some (pegI y') := e1
    rw [k'] at e1
    exact n (pegI_one (x := (h, p)) (Option.some.inj e1))
  rw [none_ (g', q') (other a b t.ab zb) (other d c dc zc) (other c d t.cd zd) (other b a ba za)] at back
  exact back
theorem CrossOf.good {n : Nat} (g : Good n w) (t : TwoT w a b c d) (k : CrossOf (bkD a b c d) w v) (conn : ∀ S : Nat → Prop, (∀ h p g q : Nat, pegOf v h p = some ((g : Int), (q : Int)) → S h → S g) → S 0 → ∀ h, h < v.length → S h) : Good n v := by
  have tie := k.tie g t
  refine ⟨by rw [k.len]; exact g.pos, fun h hd e => ?_, fun h hd e => ?_, tie, fun S cl x y hx hy sx => ?_⟩
  · obtain ⟨hd0, e1, e2, _⟩ := k.from_ e
    rw [e2]
    exact g.mark h hd0 e1
  · obtain ⟨hd0, e1, _, e3, _⟩ := k.from_ e
    rw [e3]
    exact g.pegs h hd0 e1
  · have s0 : S 0 := by
      apply Classical.byContradiction
      intro nz
      exact conn (fun i => ¬ S i) (fun h p g q e nh sg => by
        obtain ⟨g', q', z, t'⟩ := tie h p _ e
        obtain ⟨z1, z2⟩ := nat_pair (congrArg some z)
        subst z1 z2
        exact nh (cl _ _ _ _ t' sg)) nz x hx sx
    exact conn S cl s0 y hy
theorem CrossOf.bd {n : Nat} (g : Good n w) (t : TwoT w a b c d) (k : CrossOf (bkD a b c d) w v) : Bd v := fun h p x e => by
  obtain ⟨g', q', z, t'⟩ := k.tie g t h p x e
  exact ⟨g', q', z, pegOf_lt t'⟩
end
end NH
set_option Elab.async false
set_option linter.all false
set_option maxRecDepth 100000
set_option maxHeartbeats 1000000
namespace L2
open PySem PySem.Spec PyProof.Rows
def kv1 (ks : List Key) (y : V) : List (List Key × V) := [(ks, y)]
def tDisp4T (tk tv tk2 tv2 tk3 tv3 tk4 tv4 : TE) : TE := fun σ H Q => ∀ p, H p = none → tk σ (upd H p (.dT [])) fun x H1 => tv σ H1 fun y H2 => tk2 σ H2 fun x2 H3 => tv2 σ H3 fun y2 H4 => tk3 σ H4 fun x3 H5 => tv3 σ H5 fun y3 H6 => tk4 σ H6 fun x4 H7 => tv4 σ H7 fun y4 H8 =>
  ∃ (b b2 b3 b4 : Addr) (ks ks2 ks3 ks4 : List Key), x = .ref b ∧ x2 = .ref b2 ∧ x3 = .ref b3 ∧ x4 = .ref b4 ∧ H8 b = some (.tup (ks.map kV)) ∧ H8 b2 = some (.tup (ks2.map kV)) ∧ H8 b3 = some (.tup (ks3.map kV)) ∧ H8 b4 = some (.tup (ks4.map kV)) ∧ H8 p = some (.dT []) ∧
  ∀ H', (∀ c o, c ≠ p → H8 c = some o → H' c = some o) → (∀ c, H8 c = none → H' c = none) → H' p = some (.dT (putK (putK (putK (kv1 ks y) ks2 y2) ks3 y3) ks4 y4)) → Q (.ref p) H'
theorem pe_disp4T {X : Cx} {pos : Pos} {k v k2 v2 k3 v3 k4 v4 : Expr} {tk tv tk2 tv2 tk3 tv3 tk4 tv4 : TE} (hu : X.A.units + 1 < cLine) (hk : PE X k tk) (hv : PE X v tv) (hk2 : PE X k2 tk2) (hv2 : PE X v2 tv2) (hk3 : PE X k3 tk3) (hv3 : PE X v3 tv3) (hk4 : PE X k4 tk4) (hv4 : PE X v4 tv4) :
    PE X (.Dict [some k, some k2, some k3, some k4] [v, v2, v3, v4] pos) (tDisp4T tk tv tk2 tv2 tk3 tv3 tk4 tv4) := by
  intro pins s σ H Q I q
  have hn := I.hok.fresh (Nat.le_refl s.heap.objs.size)
  have I1 := I.laid (a := s.heap.objs.size) (o := .dT []) (h' := s.heap.push { cls := .type "dict", data := .dict #[] }) (t' := s.toks) (fun _ _ q => Heap.get?_push_of_some _ q) (Nat.le_refl _) (dt_empty s.heap I.big)
  have four : (pairTrees [some k, some k2, some k3, some k4] [v, v2, v3, v4] X.env pos).length = 4 := pairTrees_length [some k, some k2, some k3, some k4] [v, v2, v3, v4] X.env pos rfl rfl
  rw [arm_eval_Dict, zip_pairTrees [some k, some k2, some k3, some k4] [v, v2, v3, v4] X.env pos rfl rfl, dictDisplay_pairs _ (by intro z; rw [z] at four; cases four) (by rw [four]; decide)]
  refine wpAny_bind (wpAny_standAt (wpAny_bind ?_))
  unfold subDict
  refine wpAny_bind (wpAny_alloc (wpAny_bind (wpAny_holding ?_)))
  rw [if_pos (by rw [four]; decide)]
  refine wpAny_bind (pairTrees_cons_walk (thn (hk pins _ σ _ _ I1 (q _ hn)) fun u s1 ⟨x, H1, I2, rx, q1⟩ => thn (hv pins s1 σ H1 _ I2 q1) fun w1 s2 ⟨y, H2, I3, ry, q2⟩ =>
    pairTrees_cons_walk (thn (hk2 pins s2 σ H2 _ I3 q2) fun u2 s3 ⟨x2, H3, I4, rx2, q3⟩ => thn (hv2 pins s3 σ H3 _ I4 q3) fun w2 s4 ⟨y2, H4, I5, ry2, q4⟩ =>
    pairTrees_cons_walk (thn (hk3 pins s4 σ H4 _ I5 q4) fun u3 s5 ⟨x3, H5, I6, rx3, q5⟩ => thn (hv3 pins s5 σ H5 _ I6 q5) fun w3 s6 ⟨y3, H6, I7, ry3, q6⟩ =>
    pairTrees_cons_walk (thn (hk4 pins s6 σ H6 _ I7 q6) fun u4 s7 ⟨x4, H7, I8, rx4, q7⟩ => thn (hv4 pins s7 σ H7 _ I8 q7) fun w4 s8 ⟨y4, H8, I9, ry4, b, b2, b3, b4, ks, ks2, ks3, ks4, ex, ex2, ex3, ex4, eb, eb2, eb3, eb4, ep, qf⟩ => pairTrees_nil_walk ?_)))))
  subst ex ex2 ex3 ex4
  cases (show u = Value.ref b from rx)
  cases (show u2 = Value.ref b2 from rx2)
  cases (show u3 = Value.ref b3 from rx3)
  cases (show u4 = Value.ref b4 from rx4)
  have up : ∀ {Hx : Hp} {o : HO} {c : Addr} {ys : List V}, Hx c = some (.tup ys) → Hx s.heap.objs.size = some (.dT []) ∨ (∃ kvs, Hx s.heap.objs.size = some (.dT kvs)) → (upd Hx s.heap.objs.size o) c = some (.tup ys) := fun {Hx o c ys} e z => by
    have nc : c ≠ s.heap.objs.size := fun y => by
      rw [y] at e
      rcases z with z | ⟨_, z⟩ <;> rw [z] at e <;> cases e
    rw [upd_ne nc]
    exact e
  refine wpAny_holding ?_
  rw [List.forIn_cons]
  refine wpAny_bind (wpAny_bind (wpAny_bind (dset_tup hu I9 ep eb ry (by decide) fun s9 J1 => wpAny_pure ?_)))
  have p1 : (upd H8 s.heap.objs.size (.dT (putK [] ks y))) s.heap.objs.size = some (.dT (kv1 ks y)) := upd_same
  have eb2 := up (o := .dT (putK [] ks y)) eb2 (.inl ep)
  have eb3 := up (o := .dT (putK [] ks y)) eb3 (.inl ep)
  have eb4 := up (o := .dT (putK [] ks y)) eb4 (.inl ep)
  show wpAny _ _ (forIn [(Value.ref b2, w2), (Value.ref b3, w3), (Value.ref b4, w4)] _ _) _ _ _
  rw [List.forIn_cons]
  refine wpAny_bind (wpAny_bind (dset_tup hu J1 p1 eb2 ry2 (by show 1 < 100; decide) fun s10 J2 => wpAny_pure ?_))
  have l2 : (putK (kv1 ks y) ks2 y2).length ≤ 2 := length_putK _ _ _
  have eb3 := up (o := .dT (putK (kv1 ks y) ks2 y2)) eb3 (.inr ⟨_, p1⟩)
  have eb4 := up (o := .dT (putK (kv1 ks y) ks2 y2)) eb4 (.inr ⟨_, p1⟩)
  show wpAny _ _ (forIn [(Value.ref b3, w3), (Value.ref b4, w4)] _ _) _ _ _
  rw [List.forIn_cons]
  refine wpAny_bind (wpAny_bind (dset_tup hu J2 upd_same eb3 ry3 (by omega) fun s11 J3 => wpAny_pure ?_))
  have l3 : (putK (putK (kv1 ks y) ks2 y2) ks3 y3).length ≤ 3 := Nat.le_trans (length_putK _ _ _) (by omega)
  have eb4 := up (o := .dT (putK (putK (kv1 ks y) ks2 y2) ks3 y3)) eb4 (.inr ⟨_, upd_same⟩)
  show wpAny _ _ (forIn [(Value.ref b4, w4)] _ _) _ _ _
  rw [List.forIn_cons]
  refine wpAny_bind (wpAny_bind (dset_tup hu J3 upd_same eb4 ry4 (by omega) fun s12 J4 => wpAny_pure ?_))
  show wpAny _ _ (forIn [] _ _) _ _ _
  rw [List.forIn_nil]
  refine wpAny_pure (wpAny_pure (wpAny_pure (wpAny_pure ⟨.ref s.heap.objs.size, _, J4, rfl, qf _ (fun c o n e => ?_) (fun c e => ?_) upd_same⟩)))
  · rw [upd_ne n, upd_ne n, upd_ne n, upd_ne n]
    exact e
  · have n : c ≠ s.heap.objs.size := fun z => by rw [z, ep] at e; cases e
    rw [upd_ne n, upd_ne n, upd_ne n, upd_ne n]
    exact e
end L2
set_option Elab.async false
set_option linter.all false
set_option maxRecDepth 100000
set_option maxHeartbeats 4000000
namespace NH
open PySem L2
abbrev sCro : Stmt := top 22
abbrev nCro : List Str := ["_law_box_here", "_law_web_here", "_law_ties_here", "_law_h", "_law_mark", "_law_pegs", "_law_p", "_law_tie", "_law_one", "_law_other", "_law_a", "_law_b", "_law_c", "_law_d", "_law_back", "_law_found"]
theorem scCro : FnScope nCro ["_law_box_here", "_law_web_here"] (defScope sCro) := ⟨rfl, rfl, rfl, by decide +kernel, rfl, by decide +kernel, by decide +kernel⟩
def CTie (H : Hp) (t : Addr) (z : End × End) : Prop := ∃ k v : Addr, H t = some (.tup [.ref k, .ref v]) ∧ PairAt H k (pegI z.1) ∧ PairAt H v (pegI z.2)
theorem CTie.tups {H H' : Hp} {t : Addr} {z : End × End} (s : Tups H H') : CTie H t z → CTie H' t z
  | ⟨k, v, h1, h2, h3⟩ => ⟨k, v, s _ _ h1, s _ _ h2, s _ _ h3⟩
def CTieOk (w : WebD) (z : End × End) : Prop := pegOf w z.1.1 z.1.2 = some (pegI z.2) ∧ ltPeg (pegI z.1) (pegI z.2) = true
structure TiesUp (w : WebD) (tl : List (End × End)) (i j : Nat) : Prop where
  nd : (tl.map (·.1)).Nodup
  ok : ∀ z ∈ tl, CTieOk w z ∧ (z.1.1 < i ∨ (z.1.1 = i ∧ z.1.2 < j))
theorem TiesUp.new {w : WebD} {tl : List (End × End)} {i j : Nat} {y : End} (k : TiesUp w tl i j) (h : CTieOk w ((i, j), y)) : TiesUp w (tl ++ [((i, j), y)]) i (j + 1) := by
  refine ⟨?_, fun z hz => ?_⟩
  · rw [List.map_append]
    refine nd_snoc k.nd fun m => ?_
    obtain ⟨z, hz, e⟩ := List.mem_map.mp m
    have := (k.ok z hz).2
    rw [show z.1 = (i, j) from e] at this
    rcases this with q | q
    · exact absurd q (Nat.lt_irrefl _)
    · exact absurd q.2 (Nat.lt_irrefl _)
  · rcases List.mem_append.mp hz with m | m
    · refine ⟨(k.ok z m).1, ?_⟩
      rcases (k.ok z m).2 with q | q
      · exact .inl q
      · exact .inr ⟨q.1, by omega⟩
    · rw [List.mem_singleton.mp m]
      exact ⟨h, .inr ⟨rfl, Nat.lt_succ_self _⟩⟩
theorem TiesUp.old {w : WebD} {tl : List (End × End)} {i j : Nat} (k : TiesUp w tl i j) : TiesUp w tl i (j + 1) := ⟨k.nd, fun z m => ⟨(k.ok z m).1, by
  rcases (k.ok z m).2 with q | q
  · exact .inl q
  · exact .inr ⟨q.1, by omega⟩⟩⟩
theorem TiesUp.next {w : WebD} {tl : List (End × End)} {i j : Nat} (k : TiesUp w tl i j) : TiesUp w tl (i + 1) 0 := ⟨k.nd, fun z m => ⟨(k.ok z m).1, by
  rcases (k.ok z m).2 with q | q
  · exact .inl (by omega)
  · exact .inl (by omega)⟩⟩
theorem TiesUp.two {w : WebD} {tl : List (End × End)} {i j m n : Nat} {x y : End × End} (k : TiesUp w tl i j) (e1 : tl[m]? = some x) (e2 : tl[n]? = some y) (ne : m ≠ n) : TwoT w x.1 x.2 y.1 y.2 := by
  have o1 := (k.ok x (List.mem_of_getElem? e1)).1
  have o2 := (k.ok y (List.mem_of_getElem? e2)).1
  refine ⟨o1.1, o2.1, o1.2, o2.2, fun z => ne ?_⟩
  have f1 : (tl.map (·.1))[m]? = some x.1 := by rw [List.getElem?_map, e1]; rfl
  have f2 : (tl.map (·.1))[n]? = some x.1 := by rw [List.getElem?_map, e2, z]; rfl
  exact (List.getElem?_inj (List.getElem?_eq_some_iff.mp f1).1 k.nd).mp (f1.trans f2.symm)
def keyC (e : End) : List Key := [.inl (e.1 : Int), .inl (e.2 : Int)]
theorem keyC_inj {e f : End} (h : keyC e = keyC f) : e = f := by
  unfold keyC at h
  injection h with h1 h2
  injection h2 with h2 _
  injection h1 with h1
  injection h2 with h2
  exact Prod.ext (by omega) (by omega)
theorem valV_kv1 (k j : List Key) (y : V) : valV (kv1 k y) j = if j = k then some y else none := by
  unfold kv1
  by_cases c : j = k
  · rw [if_pos c]
    exact valV_pos (p := (k, y)) c.symm
  · rw [if_neg c, valV_neg (p := (k, y)) (fun z => c z.symm)]
    rfl
theorem bk_val {H : Hp} {a b c d : End} {ra rb rc rd : Addr} (f : Four a b c d) (ha : PairAt H ra (pegI a)) (hb : PairAt H rb (pegI b)) (hc : PairAt H rc (pegI c)) (hd : PairAt H rd (pegI d)) (x : End) (y : PegD) (t : Addr) (ht : PairAt H t y) :
    ∃ r, (valV (putK (putK (putK (kv1 (keyC a) (.ref rd)) (keyC d) (.ref ra)) (keyC c) (.ref rb)) (keyC b) (.ref rc)) (keyC x)).getD (.ref t) = .ref r ∧ PairAt H r (match bkD a b c d x with | some e => pegI e | none => y) := by
  have k : ∀ z w : End, z ≠ w → ¬ keyC z = keyC w := fun z w n q => n (keyC_inj q)
  rw [valV_put, valV_put, valV_put, valV_kv1]
  unfold bkD
  by_cases xa : x = a
  · subst xa
    rw [if_neg (k _ _ f.ab), if_neg (k _ _ f.ac), if_neg (k _ _ f.ad), if_pos rfl, if_pos rfl]
    exact ⟨rd, rfl, hd⟩
  by_cases xd : x = d
  · subst xd
    rw [if_neg (k _ _ f.bd.symm), if_neg (k _ _ f.cd.symm), if_pos rfl, if_neg xa, if_pos rfl]
    exact ⟨ra, rfl, ha⟩
  by_cases xc : x = c
  · subst xc
    rw [if_neg (k _ _ f.bc.symm), if_pos rfl, if_neg xa, if_neg xd, if_pos rfl]
    exact ⟨rb, rfl, hb⟩
  by_cases xb : x = b
  · subst xb
    rw [if_pos rfl, if_neg xa, if_neg xd, if_neg xc, if_pos rfl]
    exact ⟨rc, rfl, hc⟩
  rw [if_neg (k _ _ xb), if_neg (k _ _ xc), if_neg (k _ _ xd), if_neg (k _ _ xa), if_neg xa, if_neg xd, if_neg xc, if_neg xb]
  exact ⟨t, rfl, ht⟩
def crossH (bk : End → Option End) (h : Nat) (hd : HandD) : HandD := (hd.1, hd.2.mapIdx fun p x => match bk (h, p) with | some e => pegI e | none => x)
def crossW (bk : End → Option End) (w : WebD) : WebD := w.mapIdx fun h hd => crossH bk h hd
theorem crossW_len (bk : End → Option End) (w : WebD) : (crossW bk w).length = w.length := by unfold crossW; rw [List.length_mapIdx]
theorem crossW_at {bk : End → Option End} {w : WebD} {h : Nat} {hd : HandD} (e : w[h]? = some hd) : (crossW bk w)[h]? = some (crossH bk h hd) := by unfold crossW; rw [List.getElem?_mapIdx, e]; rfl
theorem crossH_at {bk : End → Option End} {h p : Nat} {hd : HandD} {x : PegD} (e : hd.2[p]? = some x) : (crossH bk h hd).2[p]? = some (match bk (h, p) with | some e => pegI e | none => x) := by
  unfold crossH
  show (List.mapIdx _ _)[p]? = _
  rw [List.getElem?_mapIdx, e]
  rfl
theorem crossH_len {bk : End → Option End} {h : Nat} {hd : HandD} : (crossH bk h hd).2.length = hd.2.length := by unfold crossH; show (List.mapIdx _ _).length = _; rw [List.length_mapIdx]
theorem crossW_of (bk : End → Option End) (w : WebD) : CrossOf bk w (crossW bk w) := ⟨crossW_len bk w, fun h hd e => ⟨_, crossW_at e, rfl, crossH_len, fun p x ex => crossH_at ex⟩⟩
section
variable {P : Program} {w : World} {K : PySem.W.Frag} {mg : Str → Option Value} {base : Heap}
def spCro : Sp := fun vs H Q _ => ∃ (p a : Addr) (w : WebD), vs = [.ref p, .ref a] ∧ BoxAt H p ∧ WebAt H a w ∧ Good 4 w ∧ w.length ≤ 8 ∧ ∀ (r : Addr) (v : WebD) (H' : Hp), Step p H H' → WebAt H' r v → v.length = w.length → Bd v → ((∀ S : Nat → Prop, (∀ h p g q : Nat, pegOf v h p = some ((g : Int), (q : Int)) → S h → S g) → S 0 → ∀ h, h < v.length → S h) → Good 4 v) → Q (.ref r) H'
theorem ok_cro {f : Addr} {fd : FuncData} (F : Fun K "_law_crossed" "_law_crossed" sCro f fd) (G : Dr P w K mg base) : FnOk P w K mg base CX0 2 f fd ["_law_box_here", "_law_web_here"] spCro := by
  obtain ⟨fT, fdT, GT, bT, mT, kT⟩ := G.take
  refine F.ok scCro (fun vs H Q E h => ?_) (fun cdv A outer s H vs Q E hr h => ?_)
  · obtain ⟨p, a, w, rfl, _⟩ := h
    rfl
  · obtain ⟨p, a, wb, rfl, hb, hW, gd, wl, k⟩ := h
    have nd := scCro.nd
    have hrT := hr
    refine ⟨_, (pss_cons (ps_set (i := 2) nd rfl (Or.inl rfl) (pe_lst pa_nil))
      (pss_cons (ps_for PassesOwn.never rfl (pi_enumT (by rfl) G.menum (pa_cons (pv 1) pa_nil)) (pg_tup (by rfl) (pgs_cons (pg_name (i := 3) nd rfl (Or.inr rfl)) (pgs_cons (pg_tup (by rfl) (pgs_cons (pg_name (i := 4) nd rfl (Or.inl rfl)) (pgs_cons (pg_name (i := 5) nd rfl (Or.inl rfl)) pgs_nil))) pgs_nil)))
        (pss_one (ps_expr (pe_bm PySem.F.plainAttrs_list PySem.F.slot_list_extend PySem.F.type_list_extend mt_extend (pv 2) (pa_cons (pe_lc (own := [("_law_p", 6), ("_law_tie", 7)]) (g := (gTup K 2 (gCons (gName 6) (gCons (gName 7) gNil)))) (tt := (tTest (tOp rLtP (tTup (tCons (tVar 3) (tCons (tVar 6) tNil))) (tVar 7)))) (te := (tTup (tCons (tTup (tCons (tVar 3) (tCons (tVar 6) tNil))) (tCons (tVar 7) tNil))))
          (by rfl) nd (pi_enumT (by rfl) G.menum (pa_cons (pv 5) pa_nil)) (blkOk_by (own := [("_law_p", 6), ("_law_tie", 7)]) (N := nCro) (sc := defScope sCro) (by decide +kernel))
          (fun _ _ _ _ _ => by exact (pg_tup (by rfl) (pgs_cons (pg_name (i := 6) nd rfl (Or.inl rfl)) (pgs_cons (pg_name (i := 7) nd rfl (Or.inl rfl)) pgs_nil)))) (fun _ _ _ _ _ => by exact (pts_one (pt_cmpR (op_ltP hr) (pe_tup (pa_cons (pv 3) (pa_cons (pv 6) pa_nil))) (pv 7) (nomark _)))) (fun _ _ _ _ _ => by exact (pe_tup (pa_cons (pe_tup (pa_cons (pv 3) (pa_cons (pv 6) pa_nil))) (pa_cons (pv 7) pa_nil))))) pa_nil)))))
      (pss_cons (ps_set (i := 8) nd rfl (Or.inl rfl) (pe_call GT hrT (by rfl) mT kT bT .nil pass0 (pa_cons (pv 0) (pa_cons (pe_callB (call_max2 (by rfl)) (by rfl) G.mmax (by decide +kernel) (pa_cons pe_int (pa_cons (pe_callB call_len_seq (by rfl) G.mlen PySem.boot_len (pa_cons (pv 2) pa_nil)) pa_nil))) pa_nil))))
      (pss_cons (ps_set (i := 9) nd rfl (Or.inl rfl) (pe_call GT hrT (by rfl) mT kT bT .nil pass0 (pa_cons (pv 0) (pa_cons (pe_callB (call_max2 (by rfl)) (by rfl) G.mmax (by decide +kernel) (pa_cons pe_int (pa_cons (pe_callB call_len_seq (by rfl) G.mlen PySem.boot_len (pa_cons (pv 2) pa_nil)) pa_nil))) pa_nil))))
      (pss_cons (ps_if (PW.pt (pw_or (pt_cmpR op_eq (pv 8) (pv 9) (nomark _)) (pw_or1 (pt_cmpR op_eq (pe_callB call_len_seq (by rfl) G.mlen PySem.boot_len (pa_cons (pv 2) pa_nil)) pe_int (nomark _))))) (pss_one (ps_ret (pv 1))) pss_nil)
      (pss_cons (ps_asg (pe_tup (pa_cons (pe_ix ix_list (pv 2) (pv 8) (fun _ _ => rfl)) (pa_cons (pe_ix ix_list (pv 2) (pv 9) (fun _ _ => rfl)) pa_nil))) (pg_tup (by rfl) (pgs_cons (pg_tup (by rfl) (pgs_cons (pg_name (i := 10) nd rfl (Or.inl rfl)) (pgs_cons (pg_name (i := 11) nd rfl (Or.inl rfl)) pgs_nil))) (pgs_cons (pg_tup (by rfl) (pgs_cons (pg_name (i := 12) nd rfl (Or.inl rfl)) (pgs_cons (pg_name (i := 13) nd rfl (Or.inl rfl)) pgs_nil))) pgs_nil))))
      (pss_cons (ps_set (i := 14) nd rfl (Or.inr rfl) (pe_disp4T hr.units1 (pv 10) (pv 13) (pv 13) (pv 10) (pv 12) (pv 11) (pv 11) (pv 12)))
      (pss_cons (ps_set (i := 15) nd rfl (Or.inl rfl) (pe_lst pa_nil))
      (pss_cons (ps_for PassesOwn.never rfl (pi_enumT (by rfl) G.menum (pa_cons (pv 1) pa_nil)) (pg_tup (by rfl) (pgs_cons (pg_name (i := 3) nd rfl (Or.inr rfl)) (pgs_cons (pg_tup (by rfl) (pgs_cons (pg_name (i := 4) nd rfl (Or.inl rfl)) (pgs_cons (pg_name (i := 5) nd rfl (Or.inl rfl)) pgs_nil))) pgs_nil)))
        (pss_one (ps_expr (pe_bm PySem.F.plainAttrs_list PySem.F.slot_list_append PySem.F.type_list_append mt_append (pv 15) (pa_cons (pe_tup (pa_cons (pv 4) (pa_cons (pe_callTy call_tuple_of (by rfl) G.mtuple (by decide +kernel) (pa_cons (pe_lc (own := [("_law_p", 6), ("_law_tie", 7)]) (g := (gTup K 2 (gCons (gName 6) (gCons (gName 7) gNil)))) (tt := tYes) (te := (tDGet2 (tVar 14) (tTup (tCons (tVar 3) (tCons (tVar 6) tNil))) (tVar 7)))
          (by rfl) nd (pi_enumT (by rfl) G.menum (pa_cons (pv 5) pa_nil)) (blkOk_by (own := [("_law_p", 6), ("_law_tie", 7)]) (N := nCro) (sc := defScope sCro) (by decide +kernel))
          (fun _ _ _ _ _ => by exact (pg_tup (by rfl) (pgs_cons (pg_name (i := 6) nd rfl (Or.inl rfl)) (pgs_cons (pg_name (i := 7) nd rfl (Or.inl rfl)) pgs_nil)))) (fun _ _ _ _ _ => by exact pts_nil) (fun _ _ _ _ _ => by exact (pe_dget2 hr.units1 (pv 14) (pe_tup (pa_cons (pv 3) (pa_cons (pv 6) pa_nil))) (pv 7) ⟨rfl, rfl, rfl, rfl⟩))) pa_nil)) pa_nil))) pa_nil)))))
      (pss_one (ps_ret (pe_callTy call_tuple_of (by rfl) G.mtuple (by decide +kernel) (pa_cons (pv 15) pa_nil))))))))))))), ?_⟩
    obtain ⟨hs, hWa, hWP⟩ := id hW
    have hsl : hs.length = wb.length := Paired.length hWP
    have wp := gd.pos
    refine ⟨Nat.zero_le _, fun L nL => ?_⟩
    have nLp : L ≠ p := hb.ne nL
    have s1 := same_new (o := .lst []) nL
    refine ⟨_, rfl, a, _, rfl, SqT.of (s1 _ _ hWa), ?_⟩
    refine for_enumT (K := K) (a := a) (xs := hs.map V.ref) (fun i σ H2 => Same H H2 ∧ ∃ (ts : List Addr) (tl : List (End × End)) (o3 o4 o5 : Option V), σ = [some (.ref p), some (.ref a), some (.ref L), o3, o4, o5, none, none, none, none, none, none, none, none, none, none] ∧ H2 L = some (.lst (ts.map V.ref)) ∧ Paired (CTie H2) ts tl ∧ TiesUp wb tl i 0 ∧ tl.length ≤ 4 * i)
      ⟨s1, [], [], none, none, none, rfl, upd_same, .nil, ⟨.nil, fun z hz => nomatch hz⟩, Nat.zero_le _⟩ (fun i σ H2 _ ⟨s2, _⟩ => SqT.of (s2 _ _ hWa)) ?_ ?_
    · rintro i y T σ H2 hyi ⟨s2, ts, tl, o3, o4, o5, rfl, hL, hts, tu, tb⟩ nT
      rw [List.getElem?_map] at hyi
      obtain ⟨ha, eha, rfl⟩ := Option.map_eq_some_iff.mp hyi
      obtain ⟨hd, ehd, b, eb', ps, hps, hpp⟩ := paired_get hWP eha
      have psl : ps.length = hd.2.length := Paired.length hpp
      have hdl := gd.pegs i hd ehd
      have il : i < wb.length := (List.getElem?_eq_some_iff.mp ehd).1
      have sT := same_new (o := .tup [.int (i : Nat), .ref ha]) nT
      have s3 := s2.trans sT
      have hL3 := sT _ _ hL
      refine ⟨T, _, rfl, SqT.of upd_same, rfl, _, _, rfl, _, _, rfl, ⟨ha, _, rfl, SqT.of (s3 _ _ eb'), rfl, _, _, rfl, _, _, rfl, rfl, rfl, ?_⟩⟩
      generalize (upd H2 T (.tup [.int (i : Nat), .ref ha])) = H3 at sT s3 hL3 ⊢
      refine ⟨_, rfl, .inl ⟨rfl, _, SqL.of hL3⟩, _, rfl, b, _, rfl, SqT.of (s3 _ _ hps), fun M nM => ?_⟩
      have nLM : L ≠ M := fun z => by rw [← z, hL3] at nM; cases nM
      refine lc_enumT (K := K) (a := b) (xs := ps.map V.ref) (fun j H4 => Same H3 H4 ∧ ∃ (ms : List Addr) (ml : List (End × End)), H4 M = some (.lst (ms.map V.ref)) ∧ Paired (CTie H4) ms ml ∧ TiesUp wb (tl ++ ml) i j ∧ ml.length ≤ j)
        ⟨same_new nM, [], [], upd_same, .nil, by rw [List.append_nil]; exact tu, Nat.le_refl _⟩ (fun j H4 _ ⟨s4, _⟩ => SqT.of (s4 _ _ (s3 _ _ hps))) ?_ ?_
      · rintro j x T2 H4 hx ⟨s4, ms, ml, hM, hms, tm, mj⟩ nT2
        rw [List.getElem?_map] at hx
        obtain ⟨pa, epa, rfl⟩ := Option.map_eq_some_iff.mp hx
        obtain ⟨z, ez, hpa⟩ := paired_get hpp epa
        have jl : j < hd.2.length := (List.getElem?_eq_some_iff.mp ez).1
        have epeg : pegOf wb i j = some z := by unfold pegOf; rw [ehd]; exact ez
        obtain ⟨g, q, rfl, gl⟩ := gd.bnd i j z epeg
        have sT2 := same_new (o := .tup [.int (j : Nat), .ref pa]) nT2
        have s5 := s4.trans sT2
        have hM5 := sT2 _ _ hM
        have hms5 : Paired (CTie _) ms ml := Paired.mapP hms fun _ _ z => CTie.tups (sTups sT2) z
        refine ⟨T2, _, rfl, SqT.of upd_same, rfl, _, _, rfl, _, _, rfl, rfl, rfl, ?_⟩
        generalize (upd H4 T2 (.tup [.int (j : Nat), .ref pa])) = H5 at sT2 s5 hM5 hms5 ⊢
        refine ⟨_, rfl, _, rfl, (by show 2 ≤ sizeLine; decide), fun U nU => ?_⟩
        have sU := same_new (o := .tup [.int ((i : Nat) : Int), .int ((j : Nat) : Int)]) nU
        have eU : PairAt (upd H5 U (.tup [.int ((i : Nat) : Int), .int ((j : Nat) : Int)])) U (pegI (i, j)) := upd_same
        generalize (upd H5 U (.tup [.int ((i : Nat) : Int), .int ((j : Nat) : Int)])) = H6 at sU eU ⊢
        have s6 := s5.trans sU
        have hpa6 : PairAt H6 pa (pegI (g, q)) := s6 _ _ (s3 _ _ hpa)
        refine ⟨_, rfl, U, pa, _, _, rfl, rfl, eU, hpa6, ?_⟩
        refine ⟨_, rfl, ?_⟩
        show (if ltPeg (pegI (i, j)) (pegI (g, q)) = true then _ else _)
        by_cases lt : ltPeg (pegI (i, j)) (pegI (g, q)) = true
        · rw [if_pos lt]
          refine ⟨_, rfl, _, rfl, (by show 2 ≤ sizeLine; decide), fun X nX => ?_⟩
          have sX := same_new (o := .tup [.int ((i : Nat) : Int), .int ((j : Nat) : Int)]) nX
          have eX : PairAt (upd H6 X (.tup [.int ((i : Nat) : Int), .int ((j : Nat) : Int)])) X (pegI (i, j)) := upd_same
          generalize (upd H6 X (.tup [.int ((i : Nat) : Int), .int ((j : Nat) : Int)])) = H7 at sX eX ⊢
          refine ⟨_, rfl, (by show 2 ≤ sizeLine; decide), fun Z nZ => ?_⟩
          have sZ := same_new (o := .tup [.ref X, .ref pa]) nZ
          have eZ : (upd H7 Z (.tup [.ref X, .ref pa])) Z = some (.tup [.ref X, .ref pa]) := upd_same
          generalize (upd H7 Z (.tup [.ref X, .ref pa])) = H8 at sZ eZ ⊢
          have s58 := (sU.trans sX).trans sZ
          have hM8 := s58 _ _ hM5
          have tM := tups_lst (o := .lst (ms.map V.ref ++ [V.ref Z])) hM8
          have hZ : CTie H8 Z ((i, j), (g, q)) := ⟨X, pa, eZ, sZ _ _ eX, sZ _ _ (sX _ _ hpa6)⟩
          refine ⟨_, hM8, (by rw [List.length_map, Paired.length hms5, sizeLine_eq]; omega), same_upd (s5.trans s58) nM, ms ++ [Z], ml ++ [((i, j), (g, q))], by rw [List.map_append]; exact upd_same, paired_snoc (R := CTie _) (hZ.tups tM) (Paired.mapP hms5 fun _ _ z => CTie.tups ((sTups s58).trans tM) z), ?_, by rw [List.length_append]; exact Nat.succ_le_succ mj⟩
          rw [← List.append_assoc]
          exact tm.new ⟨epeg, lt⟩
        · rw [if_neg lt]
          exact ⟨s6, ms, ml, sU _ _ hM5, Paired.mapP hms5 fun _ _ z => CTie.tups (sTups sU) z, tm.old, by omega⟩
      · rintro H4 ⟨s4, ms, ml, hM, hms, tm, mj⟩
        rw [List.length_map, psl] at tm mj
        have hL4 := s4 _ _ hL3
        have s34 := sT.trans s4
        refine ⟨L, M, _, _, rfl, rfl, hL4, hM, (by rw [List.length_map, List.length_map, Paired.length hts, Paired.length hms, sizeLine_eq]; omega), ?_⟩
        have tL := tups_lst (o := .lst (ts.map V.ref ++ ms.map V.ref)) hL4
        refine ⟨same_upd (s3.trans s4) nL, ts ++ ms, tl ++ ml, _, _, _, rfl, by rw [List.map_append]; exact upd_same, paired_app (Paired.mapP hts fun _ _ z => CTie.tups ((sTups s34).trans tL) z) (Paired.mapP hms fun _ _ z => CTie.tups tL z), tm.next, by rw [List.length_append]; omega⟩
    · rintro σ H2 ⟨s2, ts, tl, o3, o4, o5, rfl, hL, hts, tu, tb⟩
      rw [List.length_map, hsl] at tu tb
      have tsl : ts.length = tl.length := Paired.length hts
      have hb2 := hb.same s2
      have st2 : Step p H H2 := (Step.refl hb).same s2
      obtain ⟨N, eN⟩ : ∃ N : Int, N = (if (((ts.map V.ref).length : Nat) : Int) > 1 then (((ts.map V.ref).length : Nat) : Int) else 1) := ⟨_, rfl⟩
      have N1 : 0 < N ∧ N < 100 ∧ (tl.length ≠ 0 → N = (tl.length : Int)) := by
        rw [List.length_map, tsl] at eN
        rw [eN]
        split
        · exact ⟨by omega, by omega, fun _ => rfl⟩
        · exact ⟨by omega, by omega, fun _ => by omega⟩
      obtain ⟨xa, xb, hx, hx0, hx1⟩ := hb2.ex
      refine ⟨_, rfl, _, rfl, L, _, rfl, .inl (SqL.of hL), _, _, rfl, ?_⟩
      rw [← eN]
      refine ⟨p, xa, xb, _, rfl, hx, hx0, hx1, N1.1, by omega, fun m a1 b1 m0 m1 c1 c2 => ?_⟩
      obtain ⟨m, rfl⟩ := Int.eq_ofNat_of_zero_le m0
      have s3 := (Step.refl hb2).take (x := a1) c1 c2
      have t3 := s3.tups hb2
      have hL3 : (upd H2 p (.lst [.int a1, .int b1])) L = some (.lst (ts.map V.ref)) := by rw [upd_ne nLp]; exact hL
      have st3 := st2.trans s3
      have hts3 := Paired.mapP hts fun _ _ z => CTie.tups t3 z
      generalize (upd H2 p (.lst [.int a1, .int b1])) = H3 at s3 t3 hL3 st3 hts3 ⊢
      obtain ⟨xa, xb, hx, hx0, hx1⟩ := st3.box.ex
      refine ⟨_, rfl, _, rfl, L, _, rfl, .inl (SqL.of hL3), _, _, rfl, ?_⟩
      rw [← eN]
      refine ⟨p, xa, xb, _, rfl, hx, hx0, hx1, N1.1, by omega, fun n a2 b2 n0 n1 c3 c4 => ?_⟩
      obtain ⟨n, rfl⟩ := Int.eq_ofNat_of_zero_le n0
      have s4 := (Step.refl st3.box).take (x := a2) c3 c4
      have t4 := s4.tups st3.box
      have hL4 : (upd H3 p (.lst [.int a2, .int b2])) L = some (.lst (ts.map V.ref)) := by rw [upd_ne nLp]; exact hL3
      have st4 := st3.trans s4
      have hts4 := Paired.mapP hts3 fun _ _ z => CTie.tups t4 z
      generalize (upd H3 p (.lst [.int a2, .int b2])) = H4 at s4 t4 hL4 st4 hts4 ⊢
      have t04 := st4.tups hb
      have ret : ∀ P : Prop, P → P := fun _ h => h
      refine ⟨_, rfl, _, rfl, rfl, _, rfl, ?_⟩
      refine ite2 (fun _ => ?_) (fun ne => ?_)
      · refine iteT ⟨_, rfl, ?_⟩
        exact k a wb H4 st4 (hW.tups t04) rfl gd.bnd fun _ => gd
      refine ⟨_, rfl, L, _, rfl, .inl (SqL.of hL4), rfl, _, rfl, ?_⟩
      refine ite2 (fun _ => ?_) (fun nz => ?_)
      · refine ⟨_, rfl, ?_⟩
        exact k a wb H4 st4 (hW.tups t04) rfl gd.bnd fun _ => gd
      have ne : m ≠ n := fun z => ne (decide_eq_true (by rw [z]))
      have nz : tl.length ≠ 0 := fun z => nz (decide_eq_true (by rw [List.length_map, tsl, z]; rfl))
      have Nl := N1.2.2 nz
      rw [Nl] at m1 n1
      obtain ⟨z1, ez1⟩ : ∃ z, tl[m]? = some z := ⟨_, List.getElem?_eq_getElem (by omega)⟩
      obtain ⟨z2, ez2⟩ : ∃ z, tl[n]? = some z := ⟨_, List.getElem?_eq_getElem (by omega)⟩
      obtain ⟨t1, et1, ht1⟩ := paired_get' hts4 ez1
      obtain ⟨t2, et2, ht2⟩ := paired_get' hts4 ez2
      obtain ⟨ra, rb, q1, qa, qb⟩ := ht1
      obtain ⟨rc, rd, q2, qc, qd⟩ := ht2
      have TT := tu.two ez1 ez2 ne
      have f4 := TT.four gd.tie
      obtain ⟨ea, eb⟩ := z1
      obtain ⟨ec, ed⟩ := z2
      refine ⟨_, rfl, _, rfl, L, _, _, .ref t1, rfl, rfl, SqL.of hL4, at_of rfl (by rw [List.getElem?_map, et1]; rfl), _, rfl, _, rfl, L, _, _, .ref t2, rfl, rfl, SqL.of hL4, at_of rfl (by rw [List.getElem?_map, et2]; rfl), (by show 2 ≤ sizeLine; decide), fun X nX => ?_⟩
      have sX := same_new (o := .tup [.ref t1, .ref t2]) nX
      have eX : (upd H4 X (.tup [.ref t1, .ref t2])) X = some (.tup [.ref t1, .ref t2]) := upd_same
      generalize (upd H4 X (.tup [.ref t1, .ref t2])) = H5 at sX eX ⊢
      refine ⟨X, _, rfl, SqT.of eX, rfl, _, _, rfl, ⟨t1, _, rfl, SqT.of (sX _ _ q1), rfl, _, _, rfl, _, _, rfl, rfl, _, _, rfl, ⟨t2, _, rfl, SqT.of (sX _ _ q2), rfl, _, _, rfl, _, _, rfl, rfl, rfl, ?_⟩⟩⟩
      refine fun W nW => ⟨_, rfl, _, rfl, _, rfl, _, rfl, _, rfl, _, rfl, _, rfl, _, rfl, ra, rd, rc, rb, keyC ea, keyC ed, keyC ec, keyC eb, rfl, rfl, rfl, rfl, ?_⟩
      have sW := same_new (o := .dT []) nW
      refine ⟨sW _ _ (sX _ _ qa), sW _ _ (sX _ _ qd), sW _ _ (sX _ _ qc), sW _ _ (sX _ _ qb), upd_same, fun H6 keep free eW => ?_⟩
      have s56 : Same H5 H6 := fun c o e => keep c o (ne_of_none e nW) (sW _ _ e)
      have st6 := (st4.same sX).same s56
      have t06 := st6.tups hb
      have s46 := sX.trans s56
      obtain ⟨kvs, ekvs⟩ : ∃ kvs, kvs = putK (putK (putK (kv1 (keyC ea) (.ref rd)) (keyC ed) (.ref ra)) (keyC ec) (.ref rb)) (keyC eb) (.ref rc) := ⟨_, rfl⟩
      rw [← ekvs] at eW
      have hWa6 := t06 _ _ hWa
      have hWP6 := Paired.mapP hWP fun _ _ z => HandAt.tups t06 z
      refine ⟨Nat.zero_le _, fun R nR => ?_⟩
      have sR := same_new (o := .lst []) nR
      refine ⟨_, rfl, a, _, rfl, SqT.of (sR _ _ hWa6), ?_⟩
      refine for_enumT (K := K) (a := a) (xs := hs.map V.ref) (fun i σ H7 => Same H6 H7 ∧ ∃ (bs : List Addr) (o3 o4 o5 o6 o7 : Option V), σ = [some (.ref p), some (.ref a), some (.ref L), o3, o4, o5, o6, o7, some (natV m), some (natV n), some (.ref ra), some (.ref rb), some (.ref rc), some (.ref rd), some (.ref W), some (.ref R)] ∧ H7 R = some (.lst (bs.map V.ref)) ∧ Paired (HandAt H7) bs ((crossW (bkD ea eb ec ed) wb).take i))
        ⟨sR, [], _, _, _, none, none, rfl, upd_same, .nil⟩ (fun i σ H7 _ ⟨s7, _⟩ => SqT.of (s7 _ _ hWa6)) ?_ ?_
      · rintro i y T σ H7 hyi ⟨s7, bs, o3, o4, o5, o6, o7, rfl, hR, hbs⟩ nT
        rw [List.getElem?_map] at hyi
        obtain ⟨ha, eha, rfl⟩ := Option.map_eq_some_iff.mp hyi
        obtain ⟨hd, ehd, b, eb', ps, hps, hpp⟩ := paired_get hWP6 eha
        have psl : ps.length = hd.2.length := Paired.length hpp
        have hdl := gd.pegs i hd ehd
        have il : i < wb.length := (List.getElem?_eq_some_iff.mp ehd).1
        have bl : bs.length ≤ i := by
          rw [Paired.length hbs, List.length_take]
          omega
        have sT := same_new (o := .tup [.int (i : Nat), .ref ha]) nT
        have s8 := s7.trans sT
        have hR8 := sT _ _ hR
        refine ⟨T, _, rfl, SqT.of upd_same, rfl, _, _, rfl, _, _, rfl, ⟨ha, _, rfl, SqT.of (s8 _ _ eb'), rfl, _, _, rfl, _, _, rfl, rfl, rfl, ?_⟩⟩
        generalize (upd H7 T (.tup [.int (i : Nat), .ref ha])) = H8 at sT s8 hR8 ⊢
        refine ⟨_, rfl, .inl ⟨rfl, _, SqL.of hR8⟩, _, rfl, _, rfl, b, _, rfl, SqT.of (s8 _ _ hps), fun M nM => ?_⟩
        refine lc_enumT (K := K) (a := b) (xs := ps.map V.ref) (fun j H9 => Same H8 H9 ∧ ∃ es : List Addr, H9 M = some (.lst (es.map V.ref)) ∧ PairsAt H9 es ((crossH (bkD ea eb ec ed) i hd).2.take j))
          ⟨same_new nM, [], upd_same, .nil⟩ (fun j H9 _ ⟨s9, _⟩ => SqT.of (s9 _ _ (s8 _ _ hps))) ?_ ?_
        · rintro j x T2 H9 hx ⟨s9, es, hM, hes⟩ nT2
          rw [List.getElem?_map] at hx
          obtain ⟨pa, epa, rfl⟩ := Option.map_eq_some_iff.mp hx
          obtain ⟨z, ez, hpa⟩ := paired_get hpp epa
          have jl : j < hd.2.length := (List.getElem?_eq_some_iff.mp ez).1
          have esl : es.length ≤ j := by
            rw [Paired.length hes, List.length_take]
            omega
          have sT2 := same_new (o := .tup [.int (j : Nat), .ref pa]) nT2
          have s10 := s9.trans sT2
          have hM10 := sT2 _ _ hM
          refine ⟨T2, _, rfl, SqT.of upd_same, rfl, _, _, rfl, _, _, rfl, rfl, rfl, ?_⟩
          generalize (upd H9 T2 (.tup [.int (j : Nat), .ref pa])) = H10 at sT2 s10 hM10 ⊢
          dsimp only [tYes]
          rw [if_pos rfl]
          have s610 := s8.trans s10
          refine ⟨_, rfl, W, rfl, .inr ⟨_, .inl (s610 _ _ eW)⟩, _, rfl, _, rfl, (by show 2 ≤ sizeLine; decide), fun U nU => ?_⟩
          have sU := same_new (o := .tup [.int ((i : Nat) : Int), .int ((j : Nat) : Int)]) nU
          have eU : (upd H10 U (.tup [.int ((i : Nat) : Int), .int ((j : Nat) : Int)])) U = some (.tup ((keyC (i, j)).map kV)) := upd_same
          generalize (upd H10 U (.tup [.int ((i : Nat) : Int), .int ((j : Nat) : Int)])) = H11 at sU eU ⊢
          have s611 := s610.trans sU
          have s411 := s46.trans s611
          obtain ⟨r, er, hr11⟩ := bk_val f4 (s411 _ _ qa) (s411 _ _ qb) (s411 _ _ qc) (s411 _ _ qd) (i, j) z pa (s611 _ _ hpa)
          rw [← ekvs] at er
          refine ⟨_, rfl, _, DGet.t (s611 _ _ eW) eU, ?_⟩
          rw [er]
          have hM11 := sU _ _ hM10
          have tM := tups_lst (o := .lst (es.map V.ref ++ [V.ref r])) hM11
          refine ⟨_, hM11, (by rw [List.length_map, sizeLine_eq]; omega), same_upd (s10.trans sU) nM, es ++ [r], by rw [List.map_append]; exact upd_same, ?_⟩
          rw [List.take_succ, crossH_at ez]
          exact paired_snoc (R := PairAt _) (tM _ _ hr11) (pairs_tups (((sTups sT2).trans (sTups sU)).trans tM) hes)
        · rintro H9 ⟨s9, es, hM, hes⟩
          rw [List.length_map, psl, ← crossH_len (bk := bkD ea eb ec ed) (h := i) (hd := hd), List.take_length] at hes
          refine ⟨M, _, rfl, .inl ⟨SqL.of hM, fun B nB => ?_⟩⟩
          have sB := same_new (o := .tup (es.map V.ref)) nB
          have eB : (upd H9 B (.tup (es.map V.ref))) B = some (.tup (es.map V.ref)) := upd_same
          generalize (upd H9 B (.tup (es.map V.ref))) = H10 at sB eB ⊢
          refine ⟨(by show 2 ≤ sizeLine; decide), fun U nU => ?_⟩
          have sU := same_new (o := .tup [.int hd.1, .ref B]) nU
          have hU : HandAt (upd H10 U (.tup [.int hd.1, .ref B])) U (crossH (bkD ea eb ec ed) i hd) := ⟨B, upd_same, es, sU _ _ eB, pairs_tups (sTups (sB.trans sU)) hes⟩
          generalize (upd H10 U (.tup [.int hd.1, .ref B])) = H11 at sU hU ⊢
          have s811 := (s9.trans sB).trans sU
          have hR11 := s811 _ _ hR8
          have tL := tups_lst (o := .lst (bs.map V.ref ++ [V.ref U])) hR11
          refine ⟨R, _, _, rfl, rfl, hR11, (by rw [List.length_map, sizeLine_eq]; omega), same_upd (s8.trans s811) nR, bs ++ [U], _, _, _, _, _, rfl, by rw [List.map_append]; exact upd_same, ?_⟩
          rw [List.take_succ, crossW_at ehd]
          exact paired_snoc (R := HandAt _) (hU.tups tL) (Paired.mapP hbs fun _ _ z => z.tups ((sTups (sT.trans s811)).trans tL))
      · rintro σ H7 ⟨s7, bs, o3, o4, o5, o6, o7, rfl, hR, hbs⟩
        rw [List.length_map, hsl, ← crossW_len (bkD ea eb ec ed) wb, List.take_length] at hbs
        have CO := crossW_of (bkD ea eb ec ed) wb
        refine ⟨_, rfl, R, _, rfl, .inl ⟨SqL.of hR, fun B nB => ?_⟩⟩
        have sB := same_new (o := .tup (bs.map V.ref)) nB
        exact k B (crossW (bkD ea eb ec ed) wb) _ ((st6.same s7).same sB) ⟨bs, upd_same, Paired.mapP hbs fun _ _ z => z.tups (sTups sB)⟩ (crossW_len _ _) (CO.bd gd TT) fun conn => CO.good gd TT conn
end
end NH
set_option Elab.async false
set_option linter.all false
set_option maxRecDepth 100000
set_option maxHeartbeats 4000000
namespace NH
open PySem L2
abbrev sOne : Stmt := top 23
abbrev nOne : List Str := ["_law_web_here", "_law_there", "_law_at", "_law_g", "_law_q"]
theorem scOne : FnScope nOne ["_law_web_here"] (defScope sOne) := ⟨rfl, rfl, rfl, by decide +kernel, rfl, by decide +kernel, by decide +kernel⟩
theorem inV_nat (g : Nat) : ∀ l : List Nat, inV (natV g) (l.map natV) = decide (g ∈ l)
  | [] => by simp [inV]
  | x :: l => by
    have ih := inV_nat g l
    unfold inV at ih ⊢
    rw [List.map_cons, List.any_cons, ih, eqV_nat]
    by_cases c : x = g
    · subst c
      simp
    · have : ¬ g = x := fun z => c z.symm
      simp [c, this]
structure Piece (w : WebD) (l : List Nat) : Prop where
  nd : l.Nodup
  inb : ∀ h ∈ l, h < w.length
  reach : ∀ S : Nat → Prop, (∀ h p g q : Nat, pegOf w h p = some ((g : Int), (q : Int)) → S h → S g) → S 0 → ∀ h ∈ l, S h
theorem Piece.all {w : WebD} {l : List Nat} (k : Piece w l) (e : l.length = w.length) : ∀ S : Nat → Prop, (∀ h p g q : Nat, pegOf w h p = some ((g : Int), (q : Int)) → S h → S g) → S 0 → ∀ h, h < w.length → S h := fun S cl s0 h hl => by
  refine k.reach S cl s0 h ?_
  apply Classical.byContradiction
  intro n
  have := nd_len w.length (h :: l) (List.nodup_cons.mpr ⟨n, k.nd⟩) fun x hx => by
    rcases List.mem_cons.mp hx with z | z
    · rw [z]; exact hl
    · exact k.inb x z
  rw [List.length_cons] at this
  omega
section
variable {P : Program} {w : World} {K : PySem.W.Frag} {mg : Str → Option Value} {base : Heap}
def spOne : Sp := fun vs H Q _ => ∃ (a : Addr) (w : WebD), vs = [.ref a] ∧ WebAt H a w ∧ Bd w ∧ 0 < w.length ∧ w.length ≤ 1000 ∧ ∀ (b : Bool) (H' : Hp), Same H H' → (b = true → ∀ S : Nat → Prop, (∀ h p g q : Nat, pegOf w h p = some ((g : Int), (q : Int)) → S h → S g) → S 0 → ∀ h, h < w.length → S h) → Q (.bl b) H'
theorem ok_one {f : Addr} {fd : FuncData} (F : Fun K "_law_in_one_piece" "_law_in_one_piece" sOne f fd) (G : Dr P w K mg base) : FnOk P w K mg base CX0 1 f fd ["_law_web_here"] spOne := by
  refine F.ok scOne (fun vs H Q E h => ?_) (fun cdv A outer s H vs Q E hr h => ?_)
  · obtain ⟨a, w, rfl, _⟩ := h
    rfl
  · obtain ⟨a, wb, rfl, ⟨hs, hWa, hWP⟩, bd, w0, wl, k⟩ := h
    have nd := scOne.nd
    refine ⟨_, (pss_cons (ps_set (i := 1) nd rfl (Or.inl rfl) (pe_lst (pa_cons pe_int pa_nil)))
      (pss_cons (ps_set (i := 2) nd rfl (Or.inl rfl) pe_int)
      (pss_cons (ps_while PassesOwn.never (pt_cmpR op_lt (pv 2) (pe_callB call_len_seq (by rfl) G.mlen PySem.boot_len (pa_cons (pv 1) pa_nil)) (nomark _))
        (pss_cons (ps_for PassesOwn.never rfl (pi_tup (pe_ix ix_tup (pe_ix ix_tup (pv 0) (pe_ix ix_list (pv 1) (pv 2) (fun _ _ => rfl)) (fun _ _ => rfl)) pe_int (fun _ _ => rfl))) (pg_tup (by rfl) (pgs_cons (pg_name (i := 3) nd rfl (Or.inl rfl)) (pgs_cons (pg_name (i := 4) nd rfl (Or.inl rfl)) pgs_nil)))
          (pss_one (ps_if (pt_cmpR op_notIn_seq (pv 3) (pv 1) (by rfl)) (pss_one (ps_expr (pe_bm PySem.F.plainAttrs_list PySem.F.slot_list_append PySem.F.type_list_append mt_append (pv 1) (pa_cons (pv 3) pa_nil)))) pss_nil)))
        (pss_one (ps_set (i := 2) nd rfl (Or.inl rfl) (pe_op op_add (pv 2) pe_int)))))
      (pss_one (ps_ret (pe_cmpR op_eq (pe_callB call_len_seq (by rfl) G.mlen PySem.boot_len (pa_cons (pv 1) pa_nil)) (pe_callB call_len_seq (by rfl) G.mlen PySem.boot_len (pa_cons (pv 0) pa_nil)) (nomark _))))))), ?_⟩
    have hsl : hs.length = wb.length := Paired.length hWP
    refine ⟨(by show 1 ≤ sizeLine; decide), fun L nL => ?_⟩
    have s1 := same_new (o := .lst [.int 0]) nL
    have eL : (upd H L (.lst [.int 0])) L = some (.lst ([0].map natV)) := upd_same
    generalize (upd H L (.lst [.int 0])) = H1 at s1 eL ⊢
    refine ⟨fun m σ H4 => ∃ (i : Nat) (l : List Nat) (o3 o4 : Option V), m = 1001 - i ∧ σ = [some (.ref a), some (.ref L), some (natV i), o3, o4] ∧ Same H H4 ∧ H4 L = some (.lst (l.map natV)) ∧ Piece wb l ∧ i ≤ l.length,
      ⟨_, 0, [0], none, none, rfl, rfl, s1, eL, ⟨by simp, fun h hh => by rw [List.mem_singleton.mp hh]; exact w0, fun S _ s0 h hh => by rw [List.mem_singleton.mp hh]; exact s0⟩, Nat.zero_le _⟩, ?_⟩
    rintro m σ H4 ⟨i, l, o3, o4, rfl, rfl, s4, hL, pc, il⟩
    have ll : l.length ≤ wb.length := nd_len wb.length l pc.nd pc.inb
    refine ⟨_, rfl, _, rfl, L, _, rfl, .inl (SqL.of hL), _, _, rfl, rfl, _, rfl, ?_⟩
    rw [List.length_map]
    refine ite2 (fun hlt => ?_) (fun hlt => ?_)
    · have hlt : i < l.length := by
        have := of_decide_eq_true hlt
        omega
      obtain ⟨h, eh⟩ : ∃ h, l[i]? = some h := ⟨_, List.getElem?_eq_getElem hlt⟩
      have mh := List.mem_of_getElem? eh
      obtain ⟨ha, b, hd, ps, ehd, eat, eha, eb, hps⟩ := web_hand (K := K) hWa hWP (pc.inb h mh)
      have psl : ps.length = hd.2.length := Paired.length hps
      refine ⟨fun σ' H' => ∃ m', m' < 1001 - i ∧ ∃ (i : Nat) (l : List Nat) (o3 o4 : Option V), m' = 1001 - i ∧ σ' = [some (.ref a), some (.ref L), some (natV i), o3, o4] ∧ Same H H' ∧ H' L = some (.lst (l.map natV)) ∧ Piece wb l ∧ i ≤ l.length, fun _ _ z => z, ?_⟩
      refine ⟨_, rfl, _, rfl, _, rfl, L, _, _, natV h, rfl, rfl, SqL.of hL, at_of rfl (natV_get eh), a, _, _, _, rfl, rfl, SqT.of (s4 _ _ hWa), eat, ha, _, _, _, rfl, rfl, SqT.of (s4 _ _ eha), rfl, b, rfl, ⟨_, SqT.of (s4 _ _ eb)⟩, ?_⟩
      refine for_tup (K := K) (a := b) (xs := ps.map V.ref) (fun c σ H5 => ∃ (l : List Nat) (o3 o4 : Option V), σ = [some (.ref a), some (.ref L), some (natV i), o3, o4] ∧ Same H H5 ∧ H5 L = some (.lst (l.map natV)) ∧ Piece wb l ∧ i < l.length ∧ h ∈ l)
        ⟨l, _, _, rfl, s4, hL, pc, hlt, mh⟩ (fun c σ H5 _ ⟨_, _, _, _, s5, _⟩ => SqT.of (s5 _ _ eb)) ?_ ?_
      · rintro c y σ H5 hyc ⟨l, o3, o4, rfl, s5, hL, pc, hlt, mh⟩
        rw [List.getElem?_map] at hyc
        obtain ⟨pa, epa, rfl⟩ := Option.map_eq_some_iff.mp hyc
        obtain ⟨x, ex, hpa⟩ := paired_get hps epa
        have epeg : pegOf wb h c = some x := by unfold pegOf; rw [ehd]; exact ex
        obtain ⟨g, q, rfl, gl⟩ := bd h c x epeg
        have ll : l.length ≤ wb.length := nd_len wb.length l pc.nd pc.inb
        refine ⟨pa, _, rfl, SqT.of (s5 _ _ hpa), rfl, _, _, rfl, _, _, rfl, rfl, ?_⟩
        refine ⟨_, rfl, _, rfl, L, _, rfl, .inl (SqL.of hL), rfl, flat_nats l, _, rfl, ?_⟩
        show (if (!inV (natV g) (l.map natV)) = true then _ else _)
        rw [inV_nat]
        by_cases m : g ∈ l
        · rw [decide_eq_true m]
          refine iteF ?_
          exact ⟨l, _, _, rfl, s5, hL, pc, hlt, mh⟩
        · rw [decide_eq_false m]
          refine iteT ?_
          refine ⟨_, rfl, .inl ⟨rfl, _, SqL.of hL⟩, _, rfl, L, _, _, rfl, rfl, hL, (by rw [List.length_map, sizeLine_eq]; omega), ?_⟩
          refine ⟨l ++ [g], _, _, rfl, same_upd s5 nL, (by rw [List.map_append]; exact upd_same), ⟨nd_snoc pc.nd m, fun x hx => ?_, fun S cl s0 x hx => ?_⟩, by rw [List.length_append]; omega, List.mem_append_left _ mh⟩
          · rcases List.mem_append.mp hx with z | z
            · exact pc.inb x z
            · rw [List.mem_singleton.mp z]; exact gl
          · rcases List.mem_append.mp hx with z | z
            · exact pc.reach S cl s0 x z
            · rw [List.mem_singleton.mp z]
              exact cl h c g q epeg (pc.reach S cl s0 h mh)
      · rintro σ H5 ⟨l, o3, o4, rfl, s5, hL, pc, hlt, mh⟩
        have ll : l.length ≤ wb.length := nd_len wb.length l pc.nd pc.inb
        refine ⟨_, rfl, _, _, rfl, rfl, ?_⟩
        exact ⟨1001 - (i + 1), by omega, i + 1, l, _, _, rfl, rfl, s5, hL, pc, hlt⟩
    · refine ⟨_, rfl, L, _, rfl, .inl (SqL.of hL), _, rfl, a, _, rfl, .inr (SqT.of (s4 _ _ hWa)), rfl, ?_⟩
      refine k _ H4 s4 fun e => pc.all ?_
      have e := of_decide_eq_true e
      rw [List.length_map, List.length_map, hsl] at e
      injection e with e
      omega
end
end NH
set_option Elab.async false
set_option linter.all false
set_option maxRecDepth 100000
set_option maxHeartbeats 4000000
namespace NH
open PySem L2
abbrev sSec : Stmt := top 24
abbrev nSec : List Str := ["_law_box_here", "_law_web_here", "_law_form", "_law_at", "_law_other"]
theorem scSec : FnScope nSec ["_law_box_here", "_law_web_here"] (defScope sSec) := ⟨rfl, rfl, rfl, by decide +kernel, rfl, by decide +kernel, by decide +kernel⟩
theorem hget_eq' {w : WebD} {i : Nat} {hd : HandD} (e : w[i]? = some hd) : w.getD i (0, []) = hd := by
  rw [List.getD_eq_getElem?_getD, e]
  rfl
def setM (w : WebD) (i : Nat) (m : Int) : WebD := w.set i (m, (w.getD i (0, [])).2)
theorem setM_len (w : WebD) (i : Nat) (m : Int) : (setM w i m).length = w.length := by unfold setM; rw [List.length_set]
theorem cutV_lo {xs : List V} {n : Nat} (h : n ≤ xs.length) : cutV xs none (some (n : Int)) = xs.take n := by
  unfold cutV
  rw [show HT.sIx xs.length xs.length (some (n : Int)) = n by rw [HT.sIx_nat]; omega, show HT.sIx xs.length 0 none = 0 from rfl, List.drop_zero, Nat.sub_zero]
theorem cutV_hi {xs : List V} {n : Nat} (h : n ≤ xs.length) : cutV xs (some (n : Int)) none = xs.drop n := by
  unfold cutV
  rw [show HT.sIx xs.length 0 (some (n : Int)) = n by rw [HT.sIx_nat]; omega, show HT.sIx xs.length xs.length none = xs.length from rfl, List.take_of_length_le (by rw [List.length_drop]; omega)]
theorem setM_cut {w : WebD} {i : Nat} {m : Int} (l : i < w.length) : setM w i m = w.take i ++ ((m, (w.getD i (0, [])).2) :: w.drop (i + 1)) := by
  unfold setM
  rw [List.set_eq_take_append_cons_drop, if_pos l]
theorem setM_map {w : WebD} {i : Nat} {m : Int} (il : i < w.length) : MapOf (mkH [i] m) w (setM w i m) := by
  refine ⟨setM_len w i m, fun h hd e => ?_⟩
  unfold setM mkH
  by_cases z : i = h
  · subst z
    rw [List.getElem?_set_self il, if_pos (List.mem_singleton.mpr rfl), hget_eq' e]
  · rw [List.getElem?_set_ne z, if_neg (fun y => z (List.mem_singleton.mp y).symm)]
    exact e
section
variable {P : Program} {w : World} {K : PySem.W.Frag} {mg : Str → Option Value} {base : Heap}
def spSec : Sp := fun vs H Q _ => ∃ (p a : Addr) (w : WebD), vs = [.ref p, .ref a] ∧ BoxAt H p ∧ WebAt H a w ∧ Good 4 w ∧ w.length ≤ 8 ∧ ∀ (r : Addr) (v : WebD) (H' : Hp), Step p H H' → WebAt H' r v → Good 4 v → v.length ≤ 8 → Q (.ref r) H'
theorem ok_sec {f : Addr} {fd : FuncData} (F : Fun K "_law_second" "_law_second" sSec f fd) (G : Dr P w K mg base) (CR : FnAt P w K mg base 1 "_law_renamed" ["_law_web_here", "_law_row"] spRen) (CC : FnAt P w K mg base 2 "_law_crossed" ["_law_box_here", "_law_web_here"] spCro) (CI : FnAt P w K mg base 1 "_law_in_one_piece" ["_law_web_here"] spOne)
    (CX : FnAt P w K mg base 5 "_law_web" ["_law_box_here", "_law_most", "_law_room"] spPlain) : FnOk P w K mg base CX0 6 f fd ["_law_box_here", "_law_web_here"] spSec := by
  obtain ⟨fT, fdT, GT, bT, mT, kT⟩ := G.take
  obtain ⟨fH, fdH, GH, bH, mH, kH⟩ := G.shuf
  obtain ⟨fR, fdR, GR, bR, mR, kR⟩ := CR
  obtain ⟨fC, fdC, GC, bC, mC, kC⟩ := CC
  obtain ⟨fI, fdI, GI, bI, mI, kI⟩ := CI
  obtain ⟨fX, fdX, GX, bX, mX, kX⟩ := CX
  refine F.ok scSec (fun vs H Q E h => ?_) (fun cdv A outer s H vs Q E hr h => ?_)
  · obtain ⟨p, a, w, rfl, _⟩ := h
    rfl
  · obtain ⟨p, a, wb, rfl, hb, hW, gd, wl, k⟩ := h
    have nd := scSec.nd
    have hrT := hr.mono (show 1 ≤ 5 by decide)
    have hrH := hr.mono (show 2 ≤ 5 by decide)
    have hrR := hr.mono (show 1 ≤ 5 by decide)
    have hrC := hr.mono (show 2 ≤ 5 by decide)
    have hrI := hr.mono (show 1 ≤ 5 by decide)
    have hrX := hr
    refine ⟨_, (pss_cons (ps_set (i := 2) nd rfl (Or.inl rfl) (pe_call GT hrT (by rfl) mT kT bT .nil pass0 (pa_cons (pv 0) (pa_cons pe_int pa_nil))))
      (pss_cons (ps_set (i := 3) nd rfl (Or.inl rfl) (pe_call GT hrT (by rfl) mT kT bT .nil pass0 (pa_cons (pv 0) (pa_cons (pe_callB call_len_seq (by rfl) G.mlen PySem.boot_len (pa_cons (pv 1) pa_nil)) pa_nil))))
      (pss_cons (ps_if (pt_cmpR op_lt (pv 2) pe_int (nomark _)) (pss_one (ps_ret (pe_call GR hrR (by rfl) mR kR bR .nil pass0 (pa_cons (pv 1) (pa_cons (pe_call GH hrH (by rfl) mH kH bH .nil pass0 (pa_cons (pv 0) (pa_cons (pe_callB call_len_seq (by rfl) G.mlen PySem.boot_len (pa_cons (pv 1) pa_nil)) pa_nil))) pa_nil))))) pss_nil)
      (pss_cons (ps_if (pt_cmpR op_eq (pv 2) pe_int (nomark _)) (pss_cons (ps_set (i := 4) nd rfl (Or.inl rfl) (pe_op op_catA (pe_op op_catA (pe_slice sl_any (pv 1) po_none (po_some (pv 3))) (pe_tup (pa_cons (pe_tup (pa_cons (pe_call GT hrT (by rfl) mT kT bT .nil pass0 (pa_cons (pv 0) (pa_cons pe_int pa_nil))) (pa_cons (pe_ix ix_tup (pe_ix ix_tup (pv 1) (pv 3) (fun _ _ => rfl)) pe_int (fun _ _ => rfl)) pa_nil))) pa_nil))) (pe_slice sl_any (pv 1) (po_some (pe_op op_add (pv 3) pe_int)) po_none)))
          (pss_one (ps_ret (pe_call GR hrR (by rfl) mR kR bR .nil pass0 (pa_cons (pv 4) (pa_cons (pe_call GH hrH (by rfl) mH kH bH .nil pass0 (pa_cons (pv 0) (pa_cons (pe_callB call_len_seq (by rfl) G.mlen PySem.boot_len (pa_cons (pv 1) pa_nil)) pa_nil))) pa_nil)))))) pss_nil)
      (pss_cons (ps_if (pt_cmpR op_lt (pv 2) pe_int (nomark _)) (pss_cons (ps_set (i := 4) nd rfl (Or.inl rfl) (pe_call GC hrC (by rfl) mC kC bC .nil pass0 (pa_cons (pv 0) (pa_cons (pv 1) pa_nil))))
          (pss_one (ps_if (pt_val (pe_call GI hrI (by rfl) mI kI bI .nil pass0 (pa_cons (pv 4) pa_nil))) (pss_one (ps_ret (pe_call GR hrR (by rfl) mR kR bR .nil pass0 (pa_cons (pv 4) (pa_cons (pe_call GH hrH (by rfl) mH kH bH .nil pass0 (pa_cons (pv 0) (pa_cons (pe_callB call_len_seq (by rfl) G.mlen PySem.boot_len (pa_cons (pv 1) pa_nil)) pa_nil))) pa_nil))))) pss_nil))) pss_nil)
      (pss_one (ps_ret (pe_call GX hrX (by rfl) mX kX bX .nil pass0 (pa_cons (pv 0) (pa_cons pe_int (pa_cons pe_int pa_nil))))))))))), ?_⟩
    have wp := gd.pos
    obtain ⟨hs, hWa, hWP⟩ := id hW
    have hsl : hs.length = wb.length := Paired.length hWP
    obtain ⟨xa, xb, hx, hx0, hx1⟩ := hb.ex
    refine ⟨_, rfl, p, xa, xb, _, rfl, hx, hx0, hx1, by decide, by decide, fun u a1 b1 u0 u1 c1 c2 => ?_⟩
    have s1 := (Step.refl hb).take (x := a1) c1 c2
    have hA1 := s1.tups hb _ _ hWa
    generalize (upd H p (.lst [.int a1, .int b1])) = H1 at s1 hA1 ⊢
    obtain ⟨xa, xb, hx, hx0, hx1⟩ := s1.box.ex
    refine ⟨_, rfl, _, rfl, a, _, rfl, .inr (SqT.of hA1), p, xa, xb, _, rfl, hx, hx0, hx1, (by rw [List.length_map]; omega), (by rw [List.length_map]; omega), fun i a2 b2 i0 i1 c3 c4 => ?_⟩
    have s2 := s1.take (x := a2) c3 c4
    have t2 := s2.tups hb
    generalize (upd H1 p (.lst [.int a2, .int b2])) = H2 at s2 t2 ⊢
    rw [List.length_map, hsl] at i1
    obtain ⟨i, rfl⟩ := Int.eq_ofNat_of_zero_le i0
    have il : i < wb.length := by omega
    have hb2 := s2.box
    have hA2 := t2 _ _ hWa
    refine ⟨_, rfl, _, _, rfl, rfl, _, rfl, ?_⟩
    refine ite2 (fun _ => ?_) (fun _ => ?_)
    · refine ⟨_, rfl, _, rfl, _, rfl, a, _, rfl, .inr (SqT.of hA2), p, wb.length, (by rw [List.length_map, hsl]; rfl), hb2, (by omega), fun r π H4 nr s4 hπ perm => ?_⟩
      have t4 := s4.tups hb2
      refine ⟨a, r, wb, π, rfl, (hW.tups t2).tups t4, hπ, perm, (by omega), gd.bnd, (fun h hd e => by have := gd.pegs h hd e; omega), fun q w' H5 nq s5 hW5 ren => ?_⟩
      exact k q w' H5 ((s2.trans s4).same s5) hW5 (ren.good perm gd) (by rw [ren.len]; exact wl)
    have web : ∀ H9, Step p H H9 → spPlain [.ref p, .int 8, .int 4] H9 Q E0 := fun H9 s9 => by
      refine ⟨p, 8, 4, rfl, s9.box, by decide, by decide, by decide, by decide, fun r w' H4 nr s4 hW4 gd' wl' => ?_⟩
      exact k r w' H4 (s9.trans s4) hW4 gd' wl'
    refine ⟨_, rfl, rfl, _, rfl, ?_⟩
    refine ite2 (fun _ => ?_) (fun _ => ?_)
    · obtain ⟨ha, b, hd, ps, ehd, eat, eb, hps, hpp⟩ := web_hand (K := K) hWa hWP il
      have pl := gd.pegs _ _ ehd
      refine ⟨_, rfl, _, rfl, _, rfl, a, _, rfl, hA2, fun p1 H5 s5 hp1 => ?_⟩
      rw [cutV_lo (by rw [List.length_map]; omega)] at hp1
      have s45 := s2.same s5
      have hb5 := s45.box
      obtain ⟨ya, yb, hy, hy0, hy1⟩ := hb5.ex
      refine ⟨_, rfl, p, ya, yb, _, rfl, hy, hy0, hy1, by decide, by decide, fun mm a5 b5 w0 w1 c5 c6 => ?_⟩
      have s6 := s45.take (x := a5) c5 c6
      have t6 := ((Step.refl hb5).take (x := a5) c5 c6).tups hb5
      generalize (upd H5 p (.lst [.int a5, .int b5])) = H6 at s6 t6 ⊢
      have t46 := (sTups s5).trans t6
      have t06 := t2.trans t46
      refine ⟨_, rfl, _, rfl, a, _, _, .ref ha, rfl, rfl, SqT.of (t06 _ _ hWa), eat, ha, _, _, _, rfl, rfl, SqT.of (t06 _ _ eb), rfl, (by show 2 ≤ sizeLine; decide), fun U nU => ⟨(by show 1 ≤ sizeLine; decide), fun Y nY => ?_⟩⟩
      have sU := same_new (o := .tup [.int mm, .ref b]) nU
      have eU : (upd H6 U (.tup [.int mm, .ref b])) U = some (.tup [.int mm, .ref b]) := upd_same
      generalize (upd H6 U (.tup [.int mm, .ref b])) = H7 at sU eU nY ⊢
      have sY := same_new (o := .tup [.ref U]) nY
      have eY : (upd H7 Y (.tup [.ref U])) Y = some (.tup [.ref U]) := upd_same
      generalize (upd H7 Y (.tup [.ref U])) = H8 at sY eY ⊢
      have s68 := sU.trans sY
      have t08 := t06.trans (sTups s68)
      refine ⟨p1, Y, _, _, rfl, rfl, s68 _ _ (t6 _ _ hp1), eY, (by rw [List.length_take, List.length_map, sizeLine_eq]; show min i hs.length + 1 ≤ _; omega), fun p2 H9 s9 hp2 => ?_⟩
      refine ⟨_, rfl, _, rfl, _, _, rfl, rfl, _, rfl, a, _, rfl, s9 _ _ (t08 _ _ hWa), fun p3 H10 s10 hp3 => ?_⟩
      rw [show ((i : Int) + 1) = ((i + 1 : Nat) : Int) from rfl, cutV_hi (by rw [List.length_map]; omega)] at hp3
      refine ⟨p2, p3, _, _, rfl, rfl, s10 _ _ hp2, hp3, (by rw [List.length_append, List.length_take, List.length_drop, List.length_map, sizeLine_eq]; show min i hs.length + 1 + (hs.length - (i + 1)) ≤ _; omega), fun g H11 s11 hp4 => ?_⟩
      have s811 := (s9.trans s10).trans s11
      have st := (s6.same s68).same s811
      have T4R := t08.trans (sTups s811)
      have e4 : H11 g = some (.tup ((hs.take i ++ U :: hs.drop (i + 1)).map V.ref)) := by
        rw [hp4, List.map_append, List.map_cons, List.map_take, List.map_drop, List.append_assoc]
        rfl
      have hnew : HandAt H11 U (mm, (wb.getD i (0, [])).2) := by
        rw [hget_eq' ehd]
        exact ⟨b, s811 _ _ (sY _ _ eU), PegsAt.tups T4R ⟨ps, hps, hpp⟩⟩
      obtain ⟨v, ev⟩ : ∃ v, v = setM wb i mm := ⟨_, rfl⟩
      have hV : WebAt H11 g v := by
        rw [ev]
        refine ⟨_, e4, ?_⟩
        rw [setM_cut il]
        have all : Paired (HandAt H11) hs wb := Paired.mapP hWP fun _ _ z => z.tups T4R
        exact paired_app (paired_take i all) (.cons hnew (paired_drop (i + 1) all))
      have gv : Good 4 v := by rw [ev]; exact gd.marked (setM_map il) w0 (by omega)
      have vl : v.length = wb.length := by rw [ev, setM_len]
      obtain ⟨vs, hVa, hVP⟩ := id hV
      have vsl : vs.length = v.length := Paired.length hVP
      refine ⟨_, rfl, _, rfl, _, rfl, a, _, rfl, .inr (SqT.of ((T4R) _ _ hWa)), p, wb.length, (by rw [List.length_map, hsl]; rfl), (st).box, (by omega), fun r π H8 nr s8 hπ perm => ?_⟩
      have t8 := s8.tups (st).box
      refine ⟨g, r, v, π, rfl, hV.tups t8, hπ, (by rw [vl]; exact perm), (by omega), gv.bnd, (fun h hd e => by have := gv.pegs h hd e; omega), fun q w' H9 nq s9 hW9 ren => ?_⟩
      exact k q w' H9 (((st).trans s8).same s9) hW9 (ren.good (by rw [vl]; exact perm) gv) (by rw [ren.len, vl]; exact wl)
    refine ⟨_, rfl, _, _, rfl, rfl, _, rfl, ?_⟩
    refine ite2 (fun _ => ?_) (fun _ => ?_)
    · refine ⟨_, rfl, _, rfl, p, a, wb, rfl, hb2, hW.tups t2, gd, wl, fun g v H5 s5 hV vl bv good => ?_⟩
      have st := s2.trans s5
      refine ⟨_, rfl, g, v, rfl, hV, bv, by omega, by omega, fun b H6 s6 hc => ⟨_, rfl, ?_⟩⟩
      have st6 := st.same s6
      cases b with
      | true =>
        refine iteT ?_
        have gv := good (hc rfl)
        have hV := hV.tups (sTups s6)
        have T6 := st6.tups hb
        obtain ⟨vs, hVa, hVP⟩ := id hV
        have vsl : vs.length = v.length := Paired.length hVP
        refine ⟨_, rfl, _, rfl, _, rfl, a, _, rfl, .inr (SqT.of ((T6) _ _ hWa)), p, wb.length, (by rw [List.length_map, hsl]; rfl), (st6).box, (by omega), fun r π H8 nr s8 hπ perm => ?_⟩
        have t8 := s8.tups (st6).box
        refine ⟨g, r, v, π, rfl, hV.tups t8, hπ, (by rw [vl]; exact perm), (by omega), gv.bnd, (fun h hd e => by have := gv.pegs h hd e; omega), fun q w' H9 nq s9 hW9 ren => ?_⟩
        exact k q w' H9 (((st6).trans s8).same s9) hW9 (ren.good (by rw [vl]; exact perm) gv) (by rw [ren.len, vl]; exact wl)
      | false =>
        refine iteF ?_
        exact ⟨_, rfl, web H6 st6⟩
    · exact ⟨_, rfl, web H2 s2⟩
end
end NH
set_option Elab.async false
set_option linter.all false
set_option maxRecDepth 100000
set_option maxHeartbeats 4000000
namespace NH
open PySem L2
abbrev sRenP : Stmt := top 8
abbrev nRenP : List Str := ["web", "row", "hands", "hand", "mark", "pegs", "near", "place"]
section
variable {P : Program} {w : World} {K : PySem.W.Frag} {mg : Str → Option Value} {base : Heap}
theorem scRenP : FnScope nRenP ["web", "row"] (defScope sRenP) := ⟨rfl, rfl, rfl, by decide +kernel, rfl, by decide +kernel, by decide +kernel⟩
theorem ok_renP {f : Addr} {fd : FuncData} (F : Fun K "renamed" "renamed" sRenP f fd) (G : Dr P w K mg base) : FnOk P w K mg base CX0 1 f fd ["web", "row"] spRenR := by
  refine F.ok scRenP (fun vs H Q E h => ?_) (fun cdv A outer s H vs Q E hr h => ?_)
  · obtain ⟨a, r, w', π, rfl, _⟩ := h
    rfl
  · obtain ⟨a, r, wb, π, rfl, hW, hR, hp, wl, hpeg, hpl, k⟩ := h
    have nd := scRenP.nd
    refine ⟨_, pss_cons (ps_set (i := 2) nd rfl (Or.inl rfl) (pe_op op_rep (pe_lst (pa_cons pe_non pa_nil)) (pe_callB call_len_seq (by rfl) G.mlen PySem.boot_len (pa_cons (pv 0) pa_nil))))
      (pss_cons (ps_for PassesOwn.never rfl (pi_enumT (by rfl) G.menum (pa_cons (pv 0) pa_nil)) (pg_tup (by rfl) (pgs_cons (pg_name (i := 3) nd rfl (Or.inl rfl)) (pgs_cons (pg_tup (by rfl) (pgs_cons (pg_name (i := 4) nd rfl (Or.inl rfl)) (pgs_cons (pg_name (i := 5) nd rfl (Or.inl rfl)) pgs_nil))) pgs_nil)))
        (pss_one (ps_asg (pe_tup (pa_cons (pv 4) (pa_cons (pe_callTy call_tuple_of (by rfl) G.mtuple (by decide +kernel) (pa_cons (pe_lc (own := [("near", 6), ("place", 7)]) (g := gTup K 2 (gCons (gName 6) (gCons (gName 7) gNil))) (te := tTup (tCons (tOp (rIx K) (tVar 1) (tVar 6)) (tCons (tVar 7) tNil))) (by rfl) nd (pi_tup (pv 5)) (blkOk_by (own := [("near", 6), ("place", 7)]) (N := nRenP) (sc := defScope sRenP) (by decide +kernel))
            (fun _ _ _ _ _ => by exact pg_tup (by rfl) (pgs_cons (pg_name (i := 6) nd rfl (Or.inl rfl)) (pgs_cons (pg_name (i := 7) nd rfl (Or.inl rfl)) pgs_nil))) (fun _ _ _ _ _ => pts_nil)
            (fun _ _ _ _ _ => by exact pe_tup (pa_cons (pe_ix ix_seq (pv 1) (pv 6) (fun _ _ => rfl)) (pa_cons (pv 7) pa_nil)))) pa_nil)) pa_nil)))
          (pg_sub (pv 2) (pe_ix ix_seq (pv 1) (pv 3) (fun _ _ => rfl)) set_list))))
      (pss_one (ps_ret (pe_callTy call_tuple_of (by rfl) G.mtuple (by decide +kernel) (pa_cons (pv 2) pa_nil))))), ?_⟩
    obtain ⟨hs, hWa, hWP⟩ := hW
    have hsl : hs.length = wb.length := Paired.length hWP
    refine ⟨(by show 1 ≤ sizeLine; decide), fun a0 n0 => ⟨_, rfl, a, _, rfl, .inr (SqT.of (same_new n0 _ _ hWa)), a0, _, _, rfl, rfl, upd_same, by omega, (by rw [List.length_map]; omega), (by show 1 * ((hs.map V.ref).length : Int).toNat ≤ sizeLine; rw [List.length_map, sizeLine_eq]; omega), fun L nL => ?_⟩⟩
    have s1 := (same_new (o := .lst [.non]) n0).trans (same_new (o := .lst (List.replicate ((hs.map V.ref).length : Int).toNat [V.non]).flatten) nL)
    have nLH : H L = none := (same_new (o := .lst [.non]) n0).free nL
    have hL1 : (upd (upd H a0 (.lst [.non])) L (.lst (List.replicate ((hs.map V.ref).length : Int).toNat [V.non]).flatten)) L = some (.lst (List.replicate ((hs.map V.ref).length : Int).toNat [V.non]).flatten) := upd_same
    have hll : (List.replicate ((hs.map V.ref).length : Int).toNat [V.non]).flatten.length = wb.length := by rw [len_rep, List.length_map]; show ((hs.length : Int)).toNat * 1 = _; omega
    generalize (List.replicate ((hs.map V.ref).length : Int).toNat [V.non]).flatten = xs0 at s1 hL1 hll ⊢
    generalize (upd (upd H a0 (.lst [.non])) L (.lst xs0)) = H1 at s1 hL1 ⊢
    refine ⟨_, rfl, a, _, rfl, SqT.of (s1 _ _ hWa), for_enumT (K := K) (a := a) (xs := hs.map V.ref) (fun i σ H2 => Same H H2 ∧ ∃ (xs : List V) (o3 o4 o5 o6 o7 : Option V), σ = [some (.ref a), some (.ref r), some (.ref L), o3, o4, o5, o6, o7] ∧ H2 L = some (.lst xs) ∧ xs.length = wb.length ∧
        ∀ (h j : Nat), h < i → π[h]? = some j → ∃ b hd, xs[j]? = some (.ref b) ∧ wb[h]? = some hd ∧ HandAt H2 b (renH π hd))
      ⟨s1, xs0, none, none, none, none, none, rfl, hL1, hll, fun h j hh => absurd hh (Nat.not_lt_zero _)⟩ (fun i σ H2 _ ⟨s2, _⟩ => SqT.of (s2 _ _ hWa)) ?_ ?_⟩
    · rintro i y T σ H2 hyi ⟨s2, xs, o3, o4, o5, o6, o7, rfl, hL, xl, hx⟩ nT
      rw [List.getElem?_map] at hyi
      obtain ⟨ha, eha, rfl⟩ := Option.map_eq_some_iff.mp hyi
      obtain ⟨hd, ehd, b, eb, ps, hps, hpp⟩ := paired_get hWP eha
      have sT := same_new (o := .tup [.int (i : Nat), .ref ha]) nT
      have s3 := s2.trans sT
      have hL3 := sT _ _ hL
      have il : i < wb.length := (List.getElem?_eq_some_iff.mp ehd).1
      obtain ⟨j, ej⟩ := Pm.get hp il
      have jl := Pm.lt hp ej
      refine ⟨T, _, rfl, SqT.of upd_same, rfl, _, _, rfl, _, _, rfl, ⟨ha, _, rfl, SqT.of (s3 _ _ eb), rfl, _, _, rfl, _, _, rfl, rfl, rfl, ?_⟩⟩
      generalize (upd H2 T (.tup [.int (i : Nat), .ref ha])) = H3 at sT s3 hL3 ⊢
      -- the pegs, by their new numbers
      refine ⟨_, rfl, _, rfl, b, rfl, ⟨_, SqT.of (s3 _ _ hps)⟩, fun D nD => ?_⟩
      have psl : ps.length = hd.2.length := Paired.length hpp
      refine lc_tup (K := K) (a := b) (xs := ps.map V.ref) (fun c H4 => Same H3 H4 ∧ ∃ bs : List Addr, H4 D = some (.lst (bs.map V.ref)) ∧ bs.length = c ∧ PairsAt H4 bs ((hd.2.take c).map (renI π)))
        ⟨same_new nD, [], upd_same, rfl, .nil⟩ (fun c H4 _ ⟨s4, _⟩ => SqT.of (s4 _ _ (s3 _ _ hps))) ?_ ?_
      · rintro c y H4 hyc ⟨s4, bs, hD, bl, hbs⟩
        rw [List.getElem?_map] at hyc
        obtain ⟨pa, epa, rfl⟩ := Option.map_eq_some_iff.mp hyc
        obtain ⟨x, ex, hpa⟩ := paired_get hpp epa
        obtain ⟨g, q, rfl, gl⟩ := hpeg i c x (by unfold pegOf; rw [ehd]; exact ex)
        obtain ⟨g', eg'⟩ := Pm.get hp gl
        refine ⟨pa, _, rfl, SqT.of (s4 _ _ (s3 _ _ hpa)), rfl, _, _, rfl, _, _, rfl, rfl, rfl, ?_⟩
        dsimp only [tYes]
        rw [if_pos rfl]
        refine ⟨_, rfl, _, rfl, ix_row (hR.same (s3.trans s4)) (natV_at rfl eg') ⟨_, rfl, (by show 2 ≤ sizeLine; decide), fun t nt => ?_⟩⟩
        have st := same_new (o := .tup [natV g', .int (q : Int)]) nt
        have hD4 := st _ _ hD
        have pl := hpl i hd ehd
        have cl : c < hd.2.length := (List.getElem?_eq_some_iff.mp ex).1
        refine ⟨_, hD4, (by rw [List.length_map, bl, sizeLine_eq]; omega), fun z o e => ?_, bs ++ [t], (by rw [List.map_append]; exact upd_same), (by rw [List.length_append, bl]; rfl), ?_⟩
        · rw [upd_ne (ne_of_none e nD)]
          exact st _ _ (s4 _ _ e)
        · have tt := (sTups st).trans (tups_lst (o := .lst (bs.map V.ref ++ [.ref t])) hD4)
          rw [take_snoc ex, List.map_append]
          have hnew : PairAt (upd (upd H4 t (.tup [natV g', .int (q : Int)])) D (.lst (bs.map V.ref ++ [.ref t]))) t (renI π ((g : Int), (q : Int))) := by
            rw [renI_nat eg']
            exact tups_lst (o := .lst (bs.map V.ref ++ [.ref t])) hD4 _ _ upd_same
          exact paired_snoc (R := PairAt (upd (upd H4 t (.tup [natV g', .int (q : Int)])) D (.lst (bs.map V.ref ++ [.ref t])))) hnew (pairs_tups tt hbs)
      · rintro H4 ⟨s4, bs, hD, bl, hbs⟩
        rw [List.length_map, psl, List.take_length] at hbs
        refine ⟨D, _, rfl, .inl ⟨SqL.of hD, fun pt npt => ⟨(by show 2 ≤ sizeLine; decide), fun hn nhn => ?_⟩⟩⟩
        have q1 := (same_new (o := .tup (bs.map V.ref)) npt).trans (same_new (o := .tup [.int hd.1, .ref pt]) nhn)
        have ept := (same_new (o := .tup [.int hd.1, .ref pt]) nhn) _ _ (upd_same (H := H4) (a := pt) (o := .tup (bs.map V.ref)))
        have ehn : (upd (upd H4 pt (.tup (bs.map V.ref))) hn (.tup [.int hd.1, .ref pt])) hn = some (.tup [.int hd.1, .ref pt]) := upd_same
        generalize (upd (upd H4 pt (.tup (bs.map V.ref))) hn (.tup [.int hd.1, .ref pt])) = H5 at q1 ept ehn ⊢
        have s5 := s4.trans q1
        have hL5 := s5 _ _ hL3
        have hnew : HandAt H5 hn (renH π hd) := ⟨pt, ehn, bs, ept, pairs_tups (sTups q1) hbs⟩
        refine ⟨_, rfl, _, rfl, _, rfl, ix_row (hR.same (s3.trans s5)) (natV_at rfl ej) ⟨L, _, _, j, rfl, rfl, hL5, ixN_nat rfl (by omega), ?_⟩⟩
        have tL := tups_lst (o := .lst (xs.set j (.ref hn))) hL5
        refine ⟨same_upd (s3.trans s5) nLH, xs.set j (.ref hn), _, _, _, _, _, rfl, upd_same, by rw [List.length_set]; exact xl, fun h j' hh ej' => ?_⟩
        by_cases z : h = i
        · subst z
          rw [ej] at ej'
          cases ej'
          exact ⟨hn, hd, List.getElem?_set_self (by omega), ehd, hnew.tups tL⟩
        · obtain ⟨b', hd', e1, e2, e3⟩ := hx h j' (by omega) ej'
          refine ⟨b', hd', ?_, e2, (e3.tups (sTups (sT.trans s5))).tups tL⟩
          rw [List.getElem?_set_ne (fun y => z (Pm.inj hp ej' (by rw [← y]; exact ej)))]
          exact e1
    · rintro σ H2 ⟨s2, xs, o3, o4, o5, o6, o7, rfl, hL, xl, hx⟩
      rw [List.length_map, hsl] at hx
      obtain ⟨as, w', rfl, hP, hP2⟩ := collect (R := HandAt H2) xs (fun j y => ∀ (h : Nat) hd, π[h]? = some j → wb[h]? = some hd → y = renH π hd) fun j x e => by
        have jl : j < wb.length := by rw [← xl]; exact (List.getElem?_eq_some_iff.mp e).1
        obtain ⟨h, hh, eh⟩ := Pm.onto hp jl
        obtain ⟨b, hd, e1, e2, e3⟩ := hx h j hh eh
        rw [e] at e1
        cases e1
        refine ⟨b, renH π hd, rfl, e3, fun h' hd' eh' e' => ?_⟩
        have : h' = h := Pm.inj hp eh' eh
        subst this
        rw [e2] at e'
        cases e'
        rfl
      have wl' : w'.length = wb.length := by
        have := Paired.length hP
        rw [List.length_map] at xl
        omega
      refine ⟨_, rfl, L, _, rfl, .inl ⟨SqL.of hL, fun q nq => ?_⟩⟩
      refine k q w' _ (s2.free nq) (s2.trans (same_new nq)) ⟨as, upd_same, Paired.mapP hP fun _ _ z => z.tups (sTups (same_new nq))⟩ ⟨wl', fun h j hd eh e => ?_⟩
      have jl := Pm.lt hp eh
      have e1 : w'[j]? = some (w'[j]'(by omega)) := List.getElem?_eq_getElem (by omega)
      rw [e1, hP2 j _ e1 h hd eh e]
end
end NH
set_option Elab.async false
set_option linter.all false
set_option maxRecDepth 100000
set_option maxHeartbeats 1000000
set_option Elab.async false
set_option linter.all false
set_option maxRecDepth 100000
set_option maxHeartbeats 1000000
set_option Elab.async false
set_option linter.all false
set_option maxRecDepth 100000
set_option maxHeartbeats 1000000
namespace NH
open PySem L2
structure StepB (p T : Addr) (H H' : Hp) : Prop where
  keep : ∀ b o, b ≠ p → b ≠ T → H b = some o → H' b = some o
  box : BoxAt H' p
  tbl : TblAt H' T
section
variable {p T : Addr} {H H1 H2 : Hp}
theorem box_tbl (b : BoxAt H p) (t : TblAt H T) : T ≠ p := fun z => by
  obtain ⟨x, y, e, _⟩ := b.ex
  obtain ⟨ps, e', _⟩ := t.ex
  rw [z, e] at e'
  cases e'
theorem StepB.refl (b : BoxAt H p) (t : TblAt H T) : StepB p T H H := ⟨fun _ _ _ _ e => e, b, t⟩
theorem StepB.same (a : StepB p T H H1) (s : Same H1 H2) : StepB p T H H2 := ⟨fun c o n m e => s c o (a.keep c o n m e), a.box.same s, a.tbl.same s⟩
theorem StepB.step (a : StepB p T H H1) (s : Step p H1 H2) : StepB p T H H2 := ⟨fun c o n m e => s.keep c o n (a.keep c o n m e), s.box, by
  obtain ⟨ps, e, h⟩ := a.tbl.ex
  exact ⟨ps, s.keep _ _ (box_tbl a.box a.tbl) e, h⟩⟩
theorem StepB.tups (a : StepB p T H H1) (b : BoxAt H p) (t : TblAt H T) : Tups H H1 := fun c xs e => a.keep c _ (fun z => by
    obtain ⟨x, y, e', _⟩ := b.ex
    rw [z, e'] at e
    cases e) (fun z => by
    obtain ⟨ps, e', _⟩ := t.ex
    rw [z, e'] at e
    cases e) e
theorem StepB.out (z : StepT T H H1) (n : H p = none) (a : StepB p T H1 H2) : StepT T H H2 := ⟨fun b o m e => a.keep b o (ne_of_none e n) m (z.keep b o m e), a.tbl⟩
end
end NH
set_option Elab.async false
set_option linter.all false
set_option maxRecDepth 100000
set_option maxHeartbeats 4000000
namespace NH
open PySem L2
abbrev sLaw : Stmt := top 27
abbrev nLaw : List Str := ["_law_script", "_law_asked", "_law_k", "_law_box_here", "_law_web_here", "_law_one", "_law_other", "_law_row"]
theorem scLaw : FnScope nLaw ["_law_script"] (defScope sLaw) := ⟨rfl, rfl, rfl, by decide +kernel, rfl, by decide +kernel, by decide +kernel⟩
theorem cut_mem {xs : List V} {lo hi : Option Int} {v : V} (h : v ∈ cutV xs lo hi) : v ∈ xs := List.mem_of_mem_drop (List.mem_of_mem_take h)
def spLaw (K : PySem.W.Frag) (tabs : List (Addr × Addr)) : Sp := fun vs H Q _ => ∃ (a : Addr) (ns : List Int), vs = [.ref a] ∧ SqL K H a (ns.map V.int) ∧ ns.length ≤ 63 ∧ (∀ t ∈ tabs, H t.2 = some (.tbl #[])) ∧ ∀ H', Q (.bl true) H'
section
variable {P : Program} {w : World} {K : PySem.W.Frag} {mg : Str → Option Value} {base : Heap}
theorem ok_law {f : Addr} {fd : FuncData} {tabs : List (Addr × Addr)} {cc T : Addr} (hT : (cc, T) ∈ tabs) (F : Fun K "law" "law" sLaw f fd) (G : Dr P w K mg base) (CB : FnAt P w K mg base 1 "_law_box" ["_law_script", "_law_k"] (spBox K)) (CX : FnAt P w K mg base 5 "_law_web" ["_law_box_here", "_law_most", "_law_room"] spPlain)
    (CE : FnAt P w K mg base 6 "_law_second" ["_law_box_here", "_law_web_here"] spSec) (CA : FnAt P w K mg base 6 "_law_alike" ["_law_found", "_law_due"] (spAlikeD 6)) (CS : FnAt P w K mg base 6 "same" ["one", "other"] (spSam T)) (CW : FnAt P w K mg base 2 "_law_wanted" ["_law_one", "_law_other"] spWan) (CN : FnAt P w K mg base 1 "renamed" ["web", "row"] spRenR) :
    FnOk P w K mg base CX0 7 f fd ["_law_script"] (spLaw K tabs) := by
  obtain ⟨fB, fdB, GB, bB, mB, kB⟩ := CB
  obtain ⟨fX, fdX, GX, bX, mX, kX⟩ := CX
  obtain ⟨fE, fdE, GE, bE, mE, kE⟩ := CE
  obtain ⟨fA, fdA, GA, bA, mA, kA⟩ := CA
  obtain ⟨fS, fdS, GS, bS, mS, kS⟩ := CS
  obtain ⟨fW, fdW, GW, bW, mW, kW⟩ := CW
  obtain ⟨fN, fdN, GN, bN, mN, kN⟩ := CN
  refine F.ok scLaw (fun vs H Q E h => ?_) (fun cdv A outer s H vs Q E hr h => ?_)
  · obtain ⟨a, ns, rfl, _⟩ := h
    rfl
  · obtain ⟨a0, ns, rfl, hS, hlen, htb, k⟩ := h
    have nd := scLaw.nd
    have hrB := hr.mono (show 1 ≤ 6 by decide)
    have hrX := hr.mono (show 5 ≤ 6 by decide)
    have hrE := hr
    have hrA := hr
    have hrS := hr
    have hrW := hr.mono (show 2 ≤ 6 by decide)
    have hrN := hr.mono (show 1 ≤ 6 by decide)
    refine ⟨_, (pss_cons (ps_set (i := 1) nd rfl (Or.inl rfl) (pe_lst pa_nil))
      (pss_cons (ps_for PassesOwn.never rfl (pi_range1 (by rfl) G.mrange (pa_cons (pe_op op_add pe_int (pe_callB call_len_seq (by rfl) G.mlen PySem.boot_len (pa_cons (pe_slice sl_list (pv 0) po_none (po_some pe_int)) pa_nil))) pa_nil)) (pg_name (i := 2) nd rfl (Or.inl rfl))
        (pss_cons (ps_set (i := 3) nd rfl (Or.inl rfl) (pe_call GB hrB (by rfl) mB kB bB .nil pass0 (pa_cons (pv 0) (pa_cons (pv 2) pa_nil))))
        (pss_cons (ps_set (i := 4) nd rfl (Or.inl rfl) (pe_call GX hrX (by rfl) mX kX bX .nil pass0 (pa_cons (pv 3) (pa_cons pe_int (pa_cons pe_int pa_nil)))))
        (pss_one (ps_expr (pe_bm PySem.F.plainAttrs_list PySem.F.slot_list_append PySem.F.type_list_append mt_append (pv 1) (pa_cons (pe_tup (pa_cons (pv 4) (pa_cons (pe_call GE hrE (by rfl) mE kE bE .nil pass0 (pa_cons (pv 3) (pa_cons (pv 4) pa_nil))) pa_nil))) pa_nil)))))))
      (pss_cons (ps_for PassesOwn.never rfl (pi_list (pe_op op_cat (pv 1) (pe_slice sl_list (pv 1) po_none (po_some pe_int)))) (pg_tup (by rfl) (pgs_cons (pg_name (i := 5) nd rfl (Or.inl rfl)) (pgs_cons (pg_name (i := 6) nd rfl (Or.inl rfl)) pgs_nil)))
        (pss_cons (ps_if (pt_not (pt_val (pe_call GA hrA (by rfl) mA kA bA .nil pass0 (pa_cons (pe_call GS hrS (by rfl) mS kS bS .nil pass0 (pa_cons (pv 5) (pa_cons (pv 6) pa_nil))) (pa_cons (pe_call GW hrW (by rfl) mW kW bW .nil pass0 (pa_cons (pv 5) (pa_cons (pv 6) pa_nil))) pa_nil))))) (pss_one (ps_ret pe_bl)) pss_nil)
        (pss_cons (ps_if (pt_not (pt_val (pe_call GA hrA (by rfl) mA kA bA .nil pass0 (pa_cons (pe_call GS hrS (by rfl) mS kS bS .nil pass0 (pa_cons (pv 6) (pa_cons (pv 5) pa_nil))) (pa_cons (pe_call GW hrW (by rfl) mW kW bW .nil pass0 (pa_cons (pv 6) (pa_cons (pv 5) pa_nil))) pa_nil))))) (pss_one (ps_ret pe_bl)) pss_nil)
        (pss_cons (ps_if (pt_not (pt_val (pe_call GA hrA (by rfl) mA kA bA .nil pass0 (pa_cons (pe_call GS hrS (by rfl) mS kS bS .nil pass0 (pa_cons (pv 5) (pa_cons (pv 5) pa_nil))) (pa_cons (pe_callTy (call_tuple_rng (by rfl)) (by rfl) G.mtuple (by decide +kernel) (pa_cons (pe_callTy call_rng1 (by rfl) G.mrange (by decide +kernel) (pa_cons (pe_callB call_len_seq (by rfl) G.mlen PySem.boot_len (pa_cons (pv 5) pa_nil)) pa_nil)) pa_nil)) pa_nil))))) (pss_one (ps_ret pe_bl)) pss_nil)
        (pss_cons (ps_set (i := 7) nd rfl (Or.inl rfl) (pe_call GS hrS (by rfl) mS kS bS .nil pass0 (pa_cons (pv 5) (pa_cons (pv 6) pa_nil))))
        (pss_one (ps_if (PW.pt (pw_and (pt_cmpR op_notN (pv 7) pe_non (nomark _)) (pw_and1 (pt_cmpR (op_neD hr.units) (pe_call GN hrN (by rfl) mN kN bN .nil pass0 (pa_cons (pv 5) (pa_cons (pv 7) pa_nil))) (pv 6) (nomark _))))) (pss_one (ps_ret pe_bl)) pss_nil)))))))
      (pss_one (ps_ret pe_bl))))), ?_⟩
    have tb : TblAt H T := TblAt.zero (htb _ hT)
    have l2 : 2 ≤ sizeLine := by decide
    refine ⟨(by show 0 ≤ sizeLine; decide), fun L nL => ?_⟩
    have sL := same_new (o := .lst []) nL
    have eL : (upd H L (.lst [])) L = some (.lst []) := upd_same
    generalize (upd H L (.lst [])) = H0 at sL eL ⊢
    have tb0 : TblAt H0 T := tb.same sL
    have LT : L ≠ T := fun z => by
      obtain ⟨_, e, _⟩ := tb0.ex
      rw [z, e] at eL
      cases eL
    refine ⟨_, rfl, _, rfl, a0, _, rfl, ((StepT.refl tb).same sL).seqL tb hS, fun l0 nl0 => ?_⟩
    have s0 := same_new (o := .lst (cutV (ns.map V.int) none (some 3))) nl0
    have cl : (cutV (ns.map V.int) none (some 3)).length ≤ 63 := Nat.le_trans (cutV_length _ _ _) (by rw [List.length_map]; exact hlen)
    refine ⟨l0, _, rfl, .inl (SqL.of upd_same), _, _, rfl, rfl, _, rfl, (by omega), (by omega), ?_⟩
    refine for_range (lo := 0) (n := _) (fun i σ H1 => StepT T H H1 ∧ PrL H1 L i ∧ ∃ o2 o3 o4 o5 o6 o7 : Option V, σ = [some (.ref a0), some (.ref L), o2, o3, o4, o5, o6, o7]) ⟨(StepT.refl tb).same (sL.trans s0), ⟨[], s0 _ _ eL, rfl, fun v m => by cases m⟩, none, none, none, none, none, none, rfl⟩ ?_ ?_
    · rintro i σ H1 hi ⟨s1, ls, o2, o3, o4, o5, o6, o7, rfl⟩
      have hi' : (i : Int) < 64 := by omega
      obtain ⟨vs, eV, vl, hvs⟩ := ls.ex
      refine ⟨_, rfl, _, rfl, a0, ns, _, rfl, s1.seqL tb hS, by omega, by omega, fun p H2 np sb hb2 => ?_⟩
      have nH : H p = none := s1.free np
      have Lp : L ≠ p := fun z => by rw [← z, eV] at np; cases np
      have z2 := s1.same sb
      have tb2 : TblAt H2 T := z2.tbl
      have B2 : StepB p T H2 H2 := StepB.refl hb2 tb2
      refine ⟨_, rfl, p, 8, 4, rfl, hb2, by decide, by decide, by decide, by decide, fun g wb H3 ng s3 hW gd wl => ?_⟩
      have B3 := B2.step s3
      refine ⟨_, rfl, .inl ⟨rfl, _, SqL.of (B3.keep L _ Lp LT (sb _ _ eV))⟩, _, rfl, _, rfl, _, rfl, p, g, wb, rfl, B3.box, hW, gd, wl, fun r v H4 s4 hV gv vl' => ?_⟩
      have B4 := B3.step s4
      refine ⟨l2, fun t nt => ?_⟩
      have st := same_new (o := .tup [.ref g, .ref r]) nt
      have B5 := B4.same st
      have pr : Pr (upd H4 t (.tup [.ref g, .ref r])) (.ref t) := ⟨t, g, r, rfl, upd_same, ⟨wb, (hW.tups (s4.tups B3.box)).tups (sTups st), gd, wl⟩, ⟨v, hV.tups (sTups st), gv, vl'⟩⟩
      generalize (upd H4 t (.tup [.ref g, .ref r])) = H5 at st B5 pr ⊢
      have eV5 := B5.keep L _ Lp LT (sb _ _ eV)
      refine ⟨L, _, _, rfl, rfl, eV5, (by rw [vl, sizeLine_eq]; omega), ?_⟩
      have tt := tups_lst (o := HO.lst (vs ++ [.ref t])) eV5
      have z5 : StepT T H H5 := StepB.out z2 nH B5
      refine ⟨z5.put nL LT, ⟨_, upd_same, by rw [List.length_append, vl]; rfl, fun v m => ?_⟩, _, _, _, _, _, _, rfl⟩
      rcases List.mem_append.mp m with m | m
      · exact (hvs v m).tups (((sTups sb).trans (B5.tups hb2 tb2)).trans tt)
      · rw [List.mem_singleton.mp m]
        exact pr.tups tt
    · rintro σ H1 ⟨s1, ls, o2, o3, o4, o5, o6, o7, rfl⟩
      obtain ⟨xs, eX, xl, hxs⟩ := ls.ex
      have xl' : xs.length ≤ 1000 := by omega
      refine ⟨_, rfl, _, rfl, _, rfl, L, _, rfl, SqL.of eX, fun L4 nL4 => ?_⟩
      have q4' := same_new (o := HO.lst (cutV xs none (some 1))) nL4
      have cul := cutV_length xs none (some 1)
      refine ⟨L, L4, _, _, rfl, rfl, q4' _ _ eX, upd_same, (by rw [sizeLine_eq]; omega), fun L5 nL5 => ⟨L5, rfl, ⟨_, SqL.of upd_same⟩, ?_⟩⟩
      have sy := q4'.trans (same_new (o := HO.lst (xs ++ cutV xs none (some 1))) nL5)
      have eL5 : (upd (upd H1 L4 (HO.lst (cutV xs none (some 1)))) L5 (HO.lst (xs ++ cutV xs none (some 1)))) L5 = some (HO.lst (xs ++ cutV xs none (some 1))) := upd_same
      have hys : ∀ v ∈ xs ++ cutV xs none (some 1), Pr (upd (upd H1 L4 (HO.lst (cutV xs none (some 1)))) L5 (HO.lst (xs ++ cutV xs none (some 1)))) v := fun v m => by
        rcases List.mem_append.mp m with m | m
        · exact (hxs v m).tups (sTups sy)
        · exact (hxs v (cut_mem m)).tups (sTups sy)
      have tby : TblAt _ T := s1.tbl.same sy
      generalize (upd (upd H1 L4 (HO.lst (cutV xs none (some 1)))) L5 (HO.lst (xs ++ cutV xs none (some 1)))) = Hy at eL5 hys tby ⊢
      have neT : L5 ≠ T := fun z => by
        obtain ⟨_, e, _⟩ := tby.ex
        rw [z, e] at eL5
        cases eL5
      refine for_list (K := K) (a := L5) (xs := xs ++ cutV xs none (some 1)) (fun j σ Hc => StepT T Hy Hc ∧ ∃ o5 o6 o7 : Option V, σ = [some (.ref a0), some (.ref L), o2, o3, o4, o5, o6, o7])
        ⟨StepT.refl tby, _, _, _, rfl⟩ (fun j σ Hc _ ⟨sc, _⟩ => SqL.of (sc.keep L5 _ neT eL5)) ?_ ?_
      · rintro j v σ Hc hv ⟨sc, z5, z6, z7, rfl⟩
        have tu := sc.tups tby
        obtain ⟨tt, xa1, xb1, rfl, ett, A1, B1⟩ := ((hys v (List.mem_of_getElem? hv)).tups tu).ex
        obtain ⟨w1, hw1, g1, l1⟩ := A1.ex
        obtain ⟨w2, hw2, g2, l2'⟩ := B1.ex
        have t0 := sc.tbl
        refine ⟨tt, _, rfl, SqT.of ett, rfl, _, _, rfl, _, _, rfl, rfl, ?_⟩
        -- the row, one way
        refine ⟨_, rfl, _, rfl, xa1, xb1, w1, w2, rfl, hw1, hw2, g1, g2, by omega, by omega, t0, fun v1 Ha sa ov1 => ?_⟩
        have ua := sa.tups t0
        refine ⟨_, rfl, _, rfl, xa1, xb1, w1, w2, rfl, hw1.tups ua, hw2.tups ua, g1, g2, by omega, by omega, fun v2 Hb sb ov2 => ?_⟩
        refine ⟨_, _, rfl, (opt_alk (ov1.same sb) ov2 fun r h => by rw [same_len h]; omega).mono (by decide), fun Hd sd => ⟨_, rfl, ?_⟩⟩
        refine iteF ?_
        have S1 := sa.same (sb.trans sd)
        have u1 := S1.tups t0
        -- the other way
        refine ⟨_, rfl, _, rfl, xb1, xa1, w2, w1, rfl, hw2.tups u1, hw1.tups u1, g2, g1, by omega, by omega, S1.tbl, fun v3 Ha3 sa3 ov3 => ?_⟩
        have ua3 := u1.trans (sa3.tups S1.tbl)
        refine ⟨_, rfl, _, rfl, xb1, xa1, w2, w1, rfl, hw2.tups ua3, hw1.tups ua3, g2, g1, by omega, by omega, fun v4 Hb3 sb3 ov4 => ?_⟩
        refine ⟨_, _, rfl, (opt_alk (ov3.same sb3) ov4 fun r h => by rw [same_len h]; omega).mono (by decide), fun Hd3 sd3 => ⟨_, rfl, ?_⟩⟩
        refine iteF ?_
        have S2 := S1.trans (sa3.same (sb3.trans sd3))
        have u2 := S2.tups t0
        -- with itself
        refine ⟨_, rfl, _, rfl, xa1, xa1, w1, w1, rfl, hw1.tups u2, hw1.tups u2, g1, g1, by omega, by omega, S2.tbl, fun v5 Ha5 sa5 ov5 => ?_⟩
        have S3 := S2.trans sa5
        have u3 := S3.tups t0
        obtain ⟨as5, eA5, pA5⟩ := id (hw1.tups u3)
        have asl : as5.length = w1.length := Paired.length pA5
        refine ⟨_, rfl, xa1, _, rfl, .inr (SqT.of eA5), _, rfl, fun rg nrg => ⟨rg, (as5.map V.ref).length, rfl, upd_same, (by rw [List.length_map]; omega), fun tg ntg => ?_⟩⟩
        have qg := (same_new (o := .rng 0 ((as5.map V.ref).length : Nat)) nrg).trans (same_new (o := .tup (natsV (as5.map V.ref).length)) ntg)
        have rg6 : OptI (upd (upd Ha5 rg (.rng 0 ((as5.map V.ref).length : Nat))) tg (.tup (natsV (as5.map V.ref).length))) (.ref tg) (sameD w1 w1) := by
          rw [sameD_self g1]
          refine ⟨tg, rfl, ?_⟩
          show _ = _
          rw [upd_same, List.length_map, asl, asI_V]
          rfl
        generalize (upd (upd Ha5 rg (.rng 0 ((as5.map V.ref).length : Nat))) tg (.tup (natsV (as5.map V.ref).length))) = H6 at qg rg6 ⊢
        refine ⟨_, _, rfl, (opt_alk (ov5.same qg) rg6 fun r h => by rw [same_len h]; omega).mono (by decide), fun H7 s7 => ⟨_, rfl, ?_⟩⟩
        refine iteF ?_
        have S4 := S3.same (qg.trans s7)
        have u4 := S4.tups t0
        -- renamed by the row
        refine ⟨_, rfl, _, rfl, xa1, xb1, w1, w2, rfl, hw1.tups u4, hw2.tups u4, g1, g2, by omega, by omega, S4.tbl, fun v8 H8 s8 ov8 => ?_⟩
        have S5 := S4.trans s8
        have u5 := S5.tups t0
        cases so : sameD w1 w2 with
        | none =>
          rw [so] at ov8
          cases (show v8 = .non from ov8)
          refine ⟨_, rfl, rfl, _, rfl, ?_⟩
          refine iteF ?_
          refine iteF ?_
          exact ⟨sc.trans S5, _, _, _, rfl⟩
        | some row =>
          rw [so] at ov8
          obtain ⟨q, rfl, hq⟩ := ov8
          obtain ⟨ld, si⟩ := same_is g1 g2 so
          rw [show RowD H8 q row = TupD H8 q (row.map V.int) from rfl, si.eq, asI_V] at hq
          refine ⟨_, rfl, rfl, _, rfl, ?_⟩
          refine iteT ?_
          refine ⟨_, rfl, _, rfl, xa1, q, w1, ld, rfl, hw1.tups u5, .inr (.inr hq), si.pm, by omega, g1.bnd, (fun h hd e => by have := g1.pegs h hd e; omega), fun z w' H9 nz s9 hz rn => ?_⟩
          have e2 : w' = w2 := (RenOf.unique si.pm si.ren rn)
          subst e2
          refine ⟨_, rfl, ne_webs hz ((hw2.tups u5).tups (sTups s9)) ⟨_, rfl, ?_⟩⟩
          rw [decide_eq_true rfl]
          refine iteF ?_
          exact ⟨sc.trans (S5.same s9), _, _, _, rfl⟩
      · rintro σ Hc _
        exact k Hc
end
end NH
set_option Elab.async false
set_option linter.all false
set_option maxRecDepth 100000
set_option maxHeartbeats 4000000
namespace NH
open PySem L2
theorem all_mk {l : PySem.W.OpenLaw} {w : World} {K : PySem.W.Frag} {h : Heap} {mg : Str → Option Value} {fa : Addr} (X : K.In h) (G : h.Ns mainGlobals mg) (hfa : mg "law" = some (.ref fa))
    {fDbox : Addr} {ocDbox kVDbox dcDbox pmDbox cdDbox ctDbox : Value} {odDbox anDbox : Option Addr} {slDbox : Array (Option Value)}
    {fDtake : Addr} {ocDtake kVDtake dcDtake pmDtake cdDtake ctDtake : Value} {odDtake anDtake : Option Addr} {slDtake : Array (Option Value)}
    {fDshuf : Addr} {ocDshuf kVDshuf dcDshuf pmDshuf cdDshuf ctDshuf : Value} {odDshuf anDshuf : Option Addr} {slDshuf : Array (Option Value)}
    {fDties : Addr} {ocDties kVDties dcDties pmDties cdDties ctDties : Value} {odDties anDties : Option Addr} {slDties : Array (Option Value)}
    {fDmarks : Addr} {ocDmarks kVDmarks dcDmarks pmDmarks cdDmarks ctDmarks : Value} {odDmarks anDmarks : Option Addr} {slDmarks : Array (Option Value)}
    {fDplain : Addr} {ocDplain kVDplain dcDplain pmDplain cdDplain ctDplain : Value} {odDplain anDplain : Option Addr} {slDplain : Array (Option Value)}
    {fDren : Addr} {ocDren kVDren dcDren pmDren cdDren ctDren : Value} {odDren anDren : Option Addr} {slDren : Array (Option Value)}
    {fDturn : Addr} {ocDturn kVDturn dcDturn pmDturn cdDturn ctDturn : Value} {odDturn anDturn : Option Addr} {slDturn : Array (Option Value)}
    {fDcov : Addr} {ocDcov kVDcov dcDcov pmDcov cdDcov ctDcov : Value} {odDcov anDcov : Option Addr} {slDcov : Array (Option Value)}
    {fDweb : Addr} {ocDweb kVDweb dcDweb pmDweb cdDweb ctDweb : Value} {odDweb anDweb : Option Addr} {slDweb : Array (Option Value)}
    {fDalike : Addr} {ocDalike kVDalike dcDalike pmDalike cdDalike ctDalike : Value} {odDalike anDalike : Option Addr} {slDalike : Array (Option Value)}
    {fDagr : Addr} {ocDagr kVDagr dcDagr pmDagr cdDagr ctDagr : Value} {odDagr anDagr : Option Addr} {slDagr : Array (Option Value)}
    {fDlea : Addr} {ocDlea kVDlea dcDlea pmDlea cdDlea ctDlea : Value} {odDlea anDlea : Option Addr} {slDlea : Array (Option Value)}
    {fDrf : Addr} {ocDrf kVDrf dcDrf pmDrf cdDrf ctDrf : Value} {odDrf anDrf : Option Addr} {slDrf : Array (Option Value)}
    {fDldg : Addr} {ocDldg kVDldg dcDldg pmDldg cdDldg ctDldg : Value} {odDldg anDldg : Option Addr} {slDldg : Array (Option Value)}
    {fDsam : Addr} {ocDsam kVDsam dcDsam pmDsam cdDsam ctDsam : Value} {odDsam anDsam : Option Addr} {slDsam : Array (Option Value)}
    {fDrenP : Addr} {ocDrenP kVDrenP dcDrenP pmDrenP cdDrenP ctDrenP : Value} {odDrenP anDrenP : Option Addr} {slDrenP : Array (Option Value)}
    {fDisl : Addr} {ocDisl kVDisl dcDisl pmDisl cdDisl ctDisl : Value} {odDisl anDisl : Option Addr} {slDisl : Array (Option Value)}
    {fDone : Addr} {ocDone kVDone dcDone pmDone cdDone ctDone : Value} {odDone anDone : Option Addr} {slDone : Array (Option Value)}
    {fDcro : Addr} {ocDcro kVDcro dcDcro pmDcro cdDcro ctDcro : Value} {odDcro anDcro : Option Addr} {slDcro : Array (Option Value)}
    {fDsec : Addr} {ocDsec kVDsec dcDsec pmDsec cdDsec ctDsec : Value} {odDsec anDsec : Option Addr} {slDsec : Array (Option Value)}
    {fDfro : Addr} {ocDfro kVDfro dcDfro pmDfro cdDfro ctDfro : Value} {odDfro anDfro : Option Addr} {slDfro : Array (Option Value)}
    {fDwan : Addr} {ocDwan kVDwan dcDwan pmDwan cdDwan ctDwan : Value} {odDwan anDwan : Option Addr} {slDwan : Array (Option Value)}
    {fDlaw : Addr} {ocDlaw kVDlaw dcDlaw pmDlaw cdDlaw ctDlaw : Value} {odDlaw anDlaw : Option Addr} {slDlaw : Array (Option Value)}
    (z_len : PySem.W.nsIn K mainGlobals "len" = some none)
    (z_int : PySem.W.nsIn K mainGlobals "int" = some none)
    (z_range : PySem.W.nsIn K mainGlobals "range" = some none)
    (z_tuple : PySem.W.nsIn K mainGlobals "tuple" = some none)
    (z_list : PySem.W.nsIn K mainGlobals "list" = some none)
    (z_zip : PySem.W.nsIn K mainGlobals "zip" = some none)
    (z_enumerate : PySem.W.nsIn K mainGlobals "enumerate" = some none)
    (z_min : PySem.W.nsIn K mainGlobals "min" = some none)
    (z_max : PySem.W.nsIn K mainGlobals "max" = some none)
    (z_any : PySem.W.nsIn K mainGlobals "any" = some none)
    (z_all : PySem.W.nsIn K mainGlobals "all" = some none)
    (z_set : PySem.W.nsIn K mainGlobals "set" = some none)
    (z_isinstance : PySem.W.nsIn K mainGlobals "isinstance" = some none)
    (z_bool : PySem.W.nsIn K mainGlobals "bool" = some none)
    (aDbox : PySem.W.nsIn K mainGlobals "_law_box" = some (some (.ref fDbox)))
    (lDbox : K.lookup fDbox = some ⟨ocDbox, odDbox, .func (PySem.W.fnOf "_law_box" "_law_box" (defArgs sBox) (defBody sBox) (defScope sBox) .none kVDbox dcDbox pmDbox anDbox cdDbox ctDbox), slDbox⟩)
    (dDbox : PySem.W.codeIn K cdDbox "_law_box" = true)
    (kDbox : PySem.W.keepIn K (.ref fDbox) = true)
    (aDtake : PySem.W.nsIn K mainGlobals "_law_take" = some (some (.ref fDtake)))
    (lDtake : K.lookup fDtake = some ⟨ocDtake, odDtake, .func (PySem.W.fnOf "_law_take" "_law_take" (defArgs sTake) (defBody sTake) (defScope sTake) .none kVDtake dcDtake pmDtake anDtake cdDtake ctDtake), slDtake⟩)
    (dDtake : PySem.W.codeIn K cdDtake "_law_take" = true)
    (kDtake : PySem.W.keepIn K (.ref fDtake) = true)
    (aDshuf : PySem.W.nsIn K mainGlobals "_law_shuffled" = some (some (.ref fDshuf)))
    (lDshuf : K.lookup fDshuf = some ⟨ocDshuf, odDshuf, .func (PySem.W.fnOf "_law_shuffled" "_law_shuffled" (defArgs sShuf) (defBody sShuf) (defScope sShuf) .none kVDshuf dcDshuf pmDshuf anDshuf cdDshuf ctDshuf), slDshuf⟩)
    (dDshuf : PySem.W.codeIn K cdDshuf "_law_shuffled" = true)
    (kDshuf : PySem.W.keepIn K (.ref fDshuf) = true)
    (aDties : PySem.W.nsIn K mainGlobals "_law_ties" = some (some (.ref fDties)))
    (lDties : K.lookup fDties = some ⟨ocDties, odDties, .func (PySem.W.fnOf "_law_ties" "_law_ties" (defArgs sTies) (defBody sTies) (defScope sTies) .none kVDties dcDties pmDties anDties cdDties ctDties), slDties⟩)
    (dDties : PySem.W.codeIn K cdDties "_law_ties" = true)
    (kDties : PySem.W.keepIn K (.ref fDties) = true)
    (aDmarks : PySem.W.nsIn K mainGlobals "_law_marks" = some (some (.ref fDmarks)))
    (lDmarks : K.lookup fDmarks = some ⟨ocDmarks, odDmarks, .func (PySem.W.fnOf "_law_marks" "_law_marks" (defArgs sMarks) (defBody sMarks) (defScope sMarks) .none kVDmarks dcDmarks pmDmarks anDmarks cdDmarks ctDmarks), slDmarks⟩)
    (dDmarks : PySem.W.codeIn K cdDmarks "_law_marks" = true)
    (kDmarks : PySem.W.keepIn K (.ref fDmarks) = true)
    (aDplain : PySem.W.nsIn K mainGlobals "_law_plain_web" = some (some (.ref fDplain)))
    (lDplain : K.lookup fDplain = some ⟨ocDplain, odDplain, .func (PySem.W.fnOf "_law_plain_web" "_law_plain_web" (defArgs sPlain) (defBody sPlain) (defScope sPlain) .none kVDplain dcDplain pmDplain anDplain cdDplain ctDplain), slDplain⟩)
    (dDplain : PySem.W.codeIn K cdDplain "_law_plain_web" = true)
    (kDplain : PySem.W.keepIn K (.ref fDplain) = true)
    (aDren : PySem.W.nsIn K mainGlobals "_law_renamed" = some (some (.ref fDren)))
    (lDren : K.lookup fDren = some ⟨ocDren, odDren, .func (PySem.W.fnOf "_law_renamed" "_law_renamed" (defArgs sRen) (defBody sRen) (defScope sRen) .none kVDren dcDren pmDren anDren cdDren ctDren), slDren⟩)
    (dDren : PySem.W.codeIn K cdDren "_law_renamed" = true)
    (kDren : PySem.W.keepIn K (.ref fDren) = true)
    (aDturn : PySem.W.nsIn K mainGlobals "_law_turnings" = some (some (.ref fDturn)))
    (lDturn : K.lookup fDturn = some ⟨ocDturn, odDturn, .func (PySem.W.fnOf "_law_turnings" "_law_turnings" (defArgs sTurn) (defBody sTurn) (defScope sTurn) .none kVDturn dcDturn pmDturn anDturn cdDturn ctDturn), slDturn⟩)
    (dDturn : PySem.W.codeIn K cdDturn "_law_turnings" = true)
    (kDturn : PySem.W.keepIn K (.ref fDturn) = true)
    (aDcov : PySem.W.nsIn K mainGlobals "_law_cover" = some (some (.ref fDcov)))
    (lDcov : K.lookup fDcov = some ⟨ocDcov, odDcov, .func (PySem.W.fnOf "_law_cover" "_law_cover" (defArgs sCov) (defBody sCov) (defScope sCov) .none kVDcov dcDcov pmDcov anDcov cdDcov ctDcov), slDcov⟩)
    (dDcov : PySem.W.codeIn K cdDcov "_law_cover" = true)
    (kDcov : PySem.W.keepIn K (.ref fDcov) = true)
    (aDweb : PySem.W.nsIn K mainGlobals "_law_web" = some (some (.ref fDweb)))
    (lDweb : K.lookup fDweb = some ⟨ocDweb, odDweb, .func (PySem.W.fnOf "_law_web" "_law_web" (defArgs sWeb) (defBody sWeb) (defScope sWeb) .none kVDweb dcDweb pmDweb anDweb cdDweb ctDweb), slDweb⟩)
    (dDweb : PySem.W.codeIn K cdDweb "_law_web" = true)
    (kDweb : PySem.W.keepIn K (.ref fDweb) = true)
    (aDalike : PySem.W.nsIn K mainGlobals "_law_alike" = some (some (.ref fDalike)))
    (lDalike : K.lookup fDalike = some ⟨ocDalike, odDalike, .func (PySem.W.fnOf "_law_alike" "_law_alike" (defArgs sAlike) (defBody sAlike) (defScope sAlike) .none kVDalike dcDalike pmDalike anDalike cdDalike ctDalike), slDalike⟩)
    (dDalike : PySem.W.codeIn K cdDalike "_law_alike" = true)
    (kDalike : PySem.W.keepIn K (.ref fDalike) = true)
    (aDagr : PySem.W.nsIn K mainGlobals "agrees" = some (some (.ref fDagr)))
    (lDagr : K.lookup fDagr = some ⟨ocDagr, odDagr, .func (PySem.W.fnOf "agrees" "agrees" (defArgs sAgr) (defBody sAgr) (defScope sAgr) .none kVDagr dcDagr pmDagr anDagr cdDagr ctDagr), slDagr⟩)
    (dDagr : PySem.W.codeIn K cdDagr "agrees" = true)
    (kDagr : PySem.W.keepIn K (.ref fDagr) = true)
    (aDlea : PySem.W.nsIn K mainGlobals "is_leading" = some (some (.ref fDlea)))
    (lDlea : K.lookup fDlea = some ⟨ocDlea, odDlea, .func (PySem.W.fnOf "is_leading" "is_leading" (defArgs sLea) (defBody sLea) (defScope sLea) .none kVDlea dcDlea pmDlea anDlea cdDlea ctDlea), slDlea⟩)
    (dDlea : PySem.W.codeIn K cdDlea "is_leading" = true)
    (kDlea : PySem.W.keepIn K (.ref fDlea) = true)
    (aDrf : PySem.W.nsIn K mainGlobals "row_from" = some (some (.ref fDrf)))
    (lDrf : K.lookup fDrf = some ⟨ocDrf, odDrf, .func (PySem.W.fnOf "row_from" "row_from" (defArgs sRf) (defBody sRf) (defScope sRf) .none kVDrf dcDrf pmDrf anDrf cdDrf ctDrf), slDrf⟩)
    (dDrf : PySem.W.codeIn K cdDrf "row_from" = true)
    (kDrf : PySem.W.keepIn K (.ref fDrf) = true)
    (aDldg : PySem.W.nsIn K mainGlobals "leadings" = some (some (.ref fDldg)))
    (lDldg : K.lookup fDldg = some ⟨ocDldg, odDldg, .func (PySem.W.fnOf "leadings" "leadings" (defArgs sLdg) (defBody sLdg) (defScope sLdg) .none kVDldg dcDldg pmDldg anDldg cdDldg ctDldg), slDldg⟩)
    (dDldg : PySem.W.codeIn K cdDldg "leadings" = true)
    (kDldg : PySem.W.keepIn K (.ref fDldg) = true)
    (aDsam : PySem.W.nsIn K mainGlobals "same" = some (some (.ref fDsam)))
    (lDsam : K.lookup fDsam = some ⟨ocDsam, odDsam, .func (PySem.W.fnOf "same" "same" (defArgs sSam) (defBody sSam) (defScope sSam) .none kVDsam dcDsam pmDsam anDsam cdDsam ctDsam), slDsam⟩)
    (dDsam : PySem.W.codeIn K cdDsam "same" = true)
    (kDsam : PySem.W.keepIn K (.ref fDsam) = true)
    (aDrenP : PySem.W.nsIn K mainGlobals "renamed" = some (some (.ref fDrenP)))
    (lDrenP : K.lookup fDrenP = some ⟨ocDrenP, odDrenP, .func (PySem.W.fnOf "renamed" "renamed" (defArgs sRenP) (defBody sRenP) (defScope sRenP) .none kVDrenP dcDrenP pmDrenP anDrenP cdDrenP ctDrenP), slDrenP⟩)
    (dDrenP : PySem.W.codeIn K cdDrenP "renamed" = true)
    (kDrenP : PySem.W.keepIn K (.ref fDrenP) = true)
    (aDisl : PySem.W.nsIn K mainGlobals "_law_is_leading" = some (some (.ref fDisl)))
    (lDisl : K.lookup fDisl = some ⟨ocDisl, odDisl, .func (PySem.W.fnOf "_law_is_leading" "_law_is_leading" (defArgs sIsl) (defBody sIsl) (defScope sIsl) .none kVDisl dcDisl pmDisl anDisl cdDisl ctDisl), slDisl⟩)
    (dDisl : PySem.W.codeIn K cdDisl "_law_is_leading" = true)
    (kDisl : PySem.W.keepIn K (.ref fDisl) = true)
    (aDone : PySem.W.nsIn K mainGlobals "_law_in_one_piece" = some (some (.ref fDone)))
    (lDone : K.lookup fDone = some ⟨ocDone, odDone, .func (PySem.W.fnOf "_law_in_one_piece" "_law_in_one_piece" (defArgs sOne) (defBody sOne) (defScope sOne) .none kVDone dcDone pmDone anDone cdDone ctDone), slDone⟩)
    (dDone : PySem.W.codeIn K cdDone "_law_in_one_piece" = true)
    (kDone : PySem.W.keepIn K (.ref fDone) = true)
    (aDcro : PySem.W.nsIn K mainGlobals "_law_crossed" = some (some (.ref fDcro)))
    (lDcro : K.lookup fDcro = some ⟨ocDcro, odDcro, .func (PySem.W.fnOf "_law_crossed" "_law_crossed" (defArgs sCro) (defBody sCro) (defScope sCro) .none kVDcro dcDcro pmDcro anDcro cdDcro ctDcro), slDcro⟩)
    (dDcro : PySem.W.codeIn K cdDcro "_law_crossed" = true)
    (kDcro : PySem.W.keepIn K (.ref fDcro) = true)
    (aDsec : PySem.W.nsIn K mainGlobals "_law_second" = some (some (.ref fDsec)))
    (lDsec : K.lookup fDsec = some ⟨ocDsec, odDsec, .func (PySem.W.fnOf "_law_second" "_law_second" (defArgs sSec) (defBody sSec) (defScope sSec) .none kVDsec dcDsec pmDsec anDsec cdDsec ctDsec), slDsec⟩)
    (dDsec : PySem.W.codeIn K cdDsec "_law_second" = true)
    (kDsec : PySem.W.keepIn K (.ref fDsec) = true)
    (aDfro : PySem.W.nsIn K mainGlobals "_law_from" = some (some (.ref fDfro)))
    (lDfro : K.lookup fDfro = some ⟨ocDfro, odDfro, .func (PySem.W.fnOf "_law_from" "_law_from" (defArgs sFro) (defBody sFro) (defScope sFro) .none kVDfro dcDfro pmDfro anDfro cdDfro ctDfro), slDfro⟩)
    (dDfro : PySem.W.codeIn K cdDfro "_law_from" = true)
    (kDfro : PySem.W.keepIn K (.ref fDfro) = true)
    (aDwan : PySem.W.nsIn K mainGlobals "_law_wanted" = some (some (.ref fDwan)))
    (lDwan : K.lookup fDwan = some ⟨ocDwan, odDwan, .func (PySem.W.fnOf "_law_wanted" "_law_wanted" (defArgs sWan) (defBody sWan) (defScope sWan) .none kVDwan dcDwan pmDwan anDwan cdDwan ctDwan), slDwan⟩)
    (dDwan : PySem.W.codeIn K cdDwan "_law_wanted" = true)
    (kDwan : PySem.W.keepIn K (.ref fDwan) = true)
    (aDlaw : PySem.W.nsIn K mainGlobals "law" = some (some (.ref fDlaw)))
    (lDlaw : K.lookup fDlaw = some ⟨ocDlaw, odDlaw, .func (PySem.W.fnOf "law" "law" (defArgs sLaw) (defBody sLaw) (defScope sLaw) .none kVDlaw dcDlaw pmDlaw anDlaw cdDlaw ctDlaw), slDlaw⟩)
    (dDlaw : PySem.W.codeIn K cdDlaw "law" = true)
    (kDlaw : PySem.W.keepIn K (.ref fDlaw) = true) {cT T : Addr} (ht : PySem.W.tabIn K "is_leading" = some (cT, T)) :
    ∃ fd : FuncData, (∀ (s : Shared) (v : Value), BindsTo s fd ⟨[v], []⟩ [("_law_script", v)]) ∧ ∀ base : Heap, K.In base → base.Ns mainGlobals mg → (∀ t ∈ ([("is_leading" : Str)].filterMap (PySem.W.tabIn K)), PySem.W.CodeHd base t.1 t.2) → BltMod base mg → FnOk l.prog w K mg base CX0 7 fa fd ["_law_script"] (spLaw K ([("is_leading" : Str)].filterMap (PySem.W.tabIn K))) := by
  have e := hfa.symm.trans (PySem.W.mg_of X G aDlaw)
  cases e
  have FDbox := fun_mk (st := sBox) lDbox dDbox kDbox
  have bDbox := FDbox.binds (ps := ["_law_script", "_law_k"]) fun _ _ _ _ _ _ us hl => match us, hl with | [_, _], _ => rfl
  have FDtake := fun_mk (st := sTake) lDtake dDtake kDtake
  have bDtake := FDtake.binds (ps := ["_law_box_here", "_law_wide"]) fun _ _ _ _ _ _ us hl => match us, hl with | [_, _], _ => rfl
  have FDshuf := fun_mk (st := sShuf) lDshuf dDshuf kDshuf
  have bDshuf := FDshuf.binds (ps := ["_law_box_here", "_law_many"]) fun _ _ _ _ _ _ us hl => match us, hl with | [_, _], _ => rfl
  have FDties := fun_mk (st := sTies) lDties dDties kDties
  have bDties := FDties.binds (ps := ["_law_box_here", "_law_many", "_law_room"]) fun _ _ _ _ _ _ us hl => match us, hl with | [_, _, _], _ => rfl
  have FDmarks := fun_mk (st := sMarks) lDmarks dDmarks kDmarks
  have bDmarks := FDmarks.binds (ps := ["_law_box_here", "_law_many"]) fun _ _ _ _ _ _ us hl => match us, hl with | [_, _], _ => rfl
  have FDplain := fun_mk (st := sPlain) lDplain dDplain kDplain
  have bDplain := FDplain.binds (ps := ["_law_box_here", "_law_most", "_law_room"]) fun _ _ _ _ _ _ us hl => match us, hl with | [_, _, _], _ => rfl
  have FDren := fun_mk (st := sRen) lDren dDren kDren
  have bDren := FDren.binds (ps := ["_law_web_here", "_law_row"]) fun _ _ _ _ _ _ us hl => match us, hl with | [_, _], _ => rfl
  have FDturn := fun_mk (st := sTurn) lDturn dDturn kDturn
  have bDturn := FDturn.binds (ps := ["_law_box_here", "_law_web_here", "_law_sheets"]) fun _ _ _ _ _ _ us hl => match us, hl with | [_, _, _], _ => rfl
  have FDcov := fun_mk (st := sCov) lDcov dDcov kDcov
  have bDcov := FDcov.binds (ps := ["_law_box_here", "_law_web_here", "_law_sheets"]) fun _ _ _ _ _ _ us hl => match us, hl with | [_, _, _], _ => rfl
  have FDweb := fun_mk (st := sWeb) lDweb dDweb kDweb
  have bDweb := FDweb.binds (ps := ["_law_box_here", "_law_most", "_law_room"]) fun _ _ _ _ _ _ us hl => match us, hl with | [_, _, _], _ => rfl
  have FDalike := fun_mk (st := sAlike) lDalike dDalike kDalike
  have bDalike := FDalike.binds (ps := ["_law_found", "_law_due"]) fun _ _ _ _ _ _ us hl => match us, hl with | [_, _], _ => rfl
  have FDagr := fun_mk (st := sAgr) lDagr dDagr kDagr
  have bDagr := FDagr.binds (ps := ["web", "other", "row", "hand"]) fun _ _ _ _ _ _ us hl => match us, hl with | [_, _, _, _], _ => rfl
  have FDlea := fun_mk (st := sLea) lDlea dDlea kDlea
  have bDlea := FDlea.binds (ps := ["web", "other", "row"]) fun _ _ _ _ _ _ us hl => match us, hl with | [_, _, _], _ => rfl
  have FDrf := fun_mk (st := sRf) lDrf dDrf kDrf
  have bDrf := FDrf.binds (ps := ["web", "other", "first"]) fun _ _ _ _ _ _ us hl => match us, hl with | [_, _, _], _ => rfl
  have FDldg := fun_mk (st := sLdg) lDldg dDldg kDldg
  have bDldg := FDldg.binds (ps := ["web", "other"]) fun _ _ _ _ _ _ us hl => match us, hl with | [_, _], _ => rfl
  have FDsam := fun_mk (st := sSam) lDsam dDsam kDsam
  have bDsam := FDsam.binds (ps := ["one", "other"]) fun _ _ _ _ _ _ us hl => match us, hl with | [_, _], _ => rfl
  have FDrenP := fun_mk (st := sRenP) lDrenP dDrenP kDrenP
  have bDrenP := FDrenP.binds (ps := ["web", "row"]) fun _ _ _ _ _ _ us hl => match us, hl with | [_, _], _ => rfl
  have FDisl := fun_mk (st := sIsl) lDisl dDisl kDisl
  have bDisl := FDisl.binds (ps := ["_law_web_here", "_law_other", "_law_row"]) fun _ _ _ _ _ _ us hl => match us, hl with | [_, _, _], _ => rfl
  have FDone := fun_mk (st := sOne) lDone dDone kDone
  have bDone := FDone.binds (ps := ["_law_web_here"]) fun _ _ _ _ _ _ us hl => match us, hl with | [_], _ => rfl
  have FDcro := fun_mk (st := sCro) lDcro dDcro kDcro
  have bDcro := FDcro.binds (ps := ["_law_box_here", "_law_web_here"]) fun _ _ _ _ _ _ us hl => match us, hl with | [_, _], _ => rfl
  have FDsec := fun_mk (st := sSec) lDsec dDsec kDsec
  have bDsec := FDsec.binds (ps := ["_law_box_here", "_law_web_here"]) fun _ _ _ _ _ _ us hl => match us, hl with | [_, _], _ => rfl
  have FDfro := fun_mk (st := sFro) lDfro dDfro kDfro
  have bDfro := FDfro.binds (ps := ["_law_one", "_law_other", "_law_place"]) fun _ _ _ _ _ _ us hl => match us, hl with | [_, _, _], _ => rfl
  have FDwan := fun_mk (st := sWan) lDwan dDwan kDwan
  have bDwan := FDwan.binds (ps := ["_law_one", "_law_other"]) fun _ _ _ _ _ _ us hl => match us, hl with | [_, _], _ => rfl
  have FDlaw := fun_mk (st := sLaw) lDlaw dDlaw kDlaw
  have m_len := PySem.W.mg_none_of X G z_len
  have m_int := PySem.W.mg_none_of X G z_int
  have m_range := PySem.W.mg_none_of X G z_range
  have m_tuple := PySem.W.mg_none_of X G z_tuple
  have m_list := PySem.W.mg_none_of X G z_list
  have m_zip := PySem.W.mg_none_of X G z_zip
  have m_enumerate := PySem.W.mg_none_of X G z_enumerate
  have m_min := PySem.W.mg_none_of X G z_min
  have m_max := PySem.W.mg_none_of X G z_max
  have m_any := PySem.W.mg_none_of X G z_any
  have m_all := PySem.W.mg_none_of X G z_all
  have m_set := PySem.W.mg_none_of X G z_set
  have m_isinstance := PySem.W.mg_none_of X G z_isinstance
  have m_bool := PySem.W.mg_none_of X G z_bool
  have mDbox := PySem.W.mg_of X G aDbox
  have mDtake := PySem.W.mg_of X G aDtake
  have mDshuf := PySem.W.mg_of X G aDshuf
  have mDties := PySem.W.mg_of X G aDties
  have mDmarks := PySem.W.mg_of X G aDmarks
  have mDplain := PySem.W.mg_of X G aDplain
  have mDren := PySem.W.mg_of X G aDren
  have mDturn := PySem.W.mg_of X G aDturn
  have mDcov := PySem.W.mg_of X G aDcov
  have mDweb := PySem.W.mg_of X G aDweb
  have mDalike := PySem.W.mg_of X G aDalike
  have mDagr := PySem.W.mg_of X G aDagr
  have mDlea := PySem.W.mg_of X G aDlea
  have mDrf := PySem.W.mg_of X G aDrf
  have mDldg := PySem.W.mg_of X G aDldg
  have mDsam := PySem.W.mg_of X G aDsam
  have mDrenP := PySem.W.mg_of X G aDrenP
  have mDisl := PySem.W.mg_of X G aDisl
  have mDone := PySem.W.mg_of X G aDone
  have mDcro := PySem.W.mg_of X G aDcro
  have mDsec := PySem.W.mg_of X G aDsec
  have mDfro := PySem.W.mg_of X G aDfro
  have mDwan := PySem.W.mg_of X G aDwan
  have mDlaw := PySem.W.mg_of X G aDlaw
  refine ⟨PySem.W.fnOf "law" "law" (defArgs sLaw) (defBody sLaw) (defScope sLaw) .none kVDlaw dcDlaw pmDlaw anDlaw cdDlaw ctDlaw, fun s v => .of_eq rfl, fun base _ _ hCs hBM => ?_⟩
  have Gtake : FnOk l.prog w K mg base CX0 1 fDtake _ ["_law_box_here", "_law_wide"] spTake := ok_take FDtake
  have Ctake : FnAt l.prog w K mg base 1 "_law_take" ["_law_box_here", "_law_wide"] spTake := ⟨_, _, Gtake, bDtake, mDtake, kDtake⟩
  have Gshuf : FnOk l.prog w K mg base CX0 2 fDshuf _ ["_law_box_here", "_law_many"] spShuf := ok_shuf FDshuf Gtake bDtake mDtake kDtake m_range m_list
  have Cshuf : FnAt l.prog w K mg base 2 "_law_shuffled" ["_law_box_here", "_law_many"] spShuf := ⟨_, _, Gshuf, bDshuf, mDshuf, kDshuf⟩
  have DR : Dr l.prog w K mg base := ⟨⟨_, _, Gtake, bDtake, mDtake, kDtake⟩, ⟨_, _, Gshuf, bDshuf, mDshuf, kDshuf⟩, m_range, m_len, m_tuple, m_list, m_zip, m_enumerate, m_min, m_max⟩
  have Gbox : FnOk l.prog w K mg base CX0 1 fDbox _ ["_law_script", "_law_k"] (spBox K) := ok_box FDbox m_len m_int
  have Cbox : FnAt l.prog w K mg base 1 "_law_box" ["_law_script", "_law_k"] (spBox K) := ⟨_, _, Gbox, bDbox, mDbox, kDbox⟩
  have Gmarks : FnOk l.prog w K mg base CX0 2 fDmarks _ ["_law_box_here", "_law_many"] spMarks := ok_marks FDmarks Gtake bDtake mDtake kDtake m_range
  have Cmarks : FnAt l.prog w K mg base 2 "_law_marks" ["_law_box_here", "_law_many"] spMarks := ⟨_, _, Gmarks, bDmarks, mDmarks, kDmarks⟩
  have Gties : FnOk l.prog w K mg base CX0 2 fDties _ ["_law_box_here", "_law_many", "_law_room"] spTies := ok_ties FDties Gtake bDtake mDtake kDtake m_range m_len
  have Cties : FnAt l.prog w K mg base 2 "_law_ties" ["_law_box_here", "_law_many", "_law_room"] spTies := ⟨_, _, Gties, bDties, mDties, kDties⟩
  have Gplain : FnOk l.prog w K mg base CX0 3 fDplain _ ["_law_box_here", "_law_most", "_law_room"] spPlain := ok_plain FDplain ⟨DR, ⟨_, _, Gmarks, bDmarks, mDmarks, kDmarks⟩, ⟨_, _, Gties, bDties, mDties, kDties⟩⟩
  have Cplain : FnAt l.prog w K mg base 3 "_law_plain_web" ["_law_box_here", "_law_most", "_law_room"] spPlain := ⟨_, _, Gplain, bDplain, mDplain, kDplain⟩
  have Gren : FnOk l.prog w K mg base CX0 1 fDren _ ["_law_web_here", "_law_row"] spRen := ok_ren FDren DR
  have Cren : FnAt l.prog w K mg base 1 "_law_renamed" ["_law_web_here", "_law_row"] spRen := ⟨_, _, Gren, bDren, mDren, kDren⟩
  have Gturn : FnOk l.prog w K mg base CX0 3 fDturn _ ["_law_box_here", "_law_web_here", "_law_sheets"] spTurn := ok_turn FDturn DR
  have Cturn : FnAt l.prog w K mg base 3 "_law_turnings" ["_law_box_here", "_law_web_here", "_law_sheets"] spTurn := ⟨_, _, Gturn, bDturn, mDturn, kDturn⟩
  have Gcov : FnOk l.prog w K mg base CX0 4 fDcov _ ["_law_box_here", "_law_web_here", "_law_sheets"] spCover := ok_cov FDcov ⟨DR, ⟨_, _, Gturn, bDturn, mDturn, kDturn⟩, ⟨_, _, Gren, bDren, mDren, kDren⟩⟩
  have Ccov : FnAt l.prog w K mg base 4 "_law_cover" ["_law_box_here", "_law_web_here", "_law_sheets"] spCover := ⟨_, _, Gcov, bDcov, mDcov, kDcov⟩
  have Gweb : FnOk l.prog w K mg base CX0 5 fDweb _ ["_law_box_here", "_law_most", "_law_room"] spPlain := ok_web FDweb ⟨DR, ⟨_, _, Gplain, bDplain, mDplain, kDplain⟩, ⟨_, _, Gcov, bDcov, mDcov, kDcov⟩⟩
  have Cweb : FnAt l.prog w K mg base 5 "_law_web" ["_law_box_here", "_law_most", "_law_room"] spPlain := ⟨_, _, Gweb, bDweb, mDweb, kDweb⟩
  have Galike : FnOk l.prog w K mg base CX0 6 fDalike _ ["_law_found", "_law_due"] (spAlikeD 6) := ok_alike FDalike bDalike mDalike kDalike m_isinstance m_list m_tuple m_bool m_len m_all m_zip 6
  have Calike : FnAt l.prog w K mg base 6 "_law_alike" ["_law_found", "_law_due"] (spAlikeD 6) := ⟨_, _, Galike, bDalike, mDalike, kDalike⟩
  have Gagr : FnOk l.prog w K mg base CX0 1 fDagr _ ["web", "other", "row", "hand"] spAgrR := ok_agr FDagr DR
  have Cagr : FnAt l.prog w K mg base 1 "agrees" ["web", "other", "row", "hand"] spAgrR := ⟨_, _, Gagr, bDagr, mDagr, kDagr⟩
  have hm : (cT, T) ∈ [("is_leading" : Str)].filterMap (PySem.W.tabIn K) := List.mem_filterMap.mpr ⟨_, List.mem_singleton.mpr rfl, ht⟩
  have Glea : FnOk l.prog w K mg base CX0 4 fDlea _ ["web", "other", "row"] (spLeadR T) := ok_lea FDlea (PySem.W.law_code X G ht mDlea (X _ _ lDlea) rfl) (hCs _ hm) hBM m_len m_range m_any m_all Cagr
  have Clea : FnAt l.prog w K mg base 4 "is_leading" ["web", "other", "row"] (spLeadR T) := ⟨_, _, Glea, bDlea, mDlea, kDlea⟩
  have Grf : FnOk l.prog w K mg base CX0 1 fDrf _ ["web", "other", "first"] spRfD := ok_rf FDrf DR
  have Crf : FnAt l.prog w K mg base 1 "row_from" ["web", "other", "first"] spRfD := ⟨_, _, Grf, bDrf, mDrf, kDrf⟩
  have Gldg : FnOk l.prog w K mg base CX0 5 fDldg _ ["web", "other"] (spLdgD T) := ok_ldg FDldg DR Crf Clea
  have Cldg : FnAt l.prog w K mg base 5 "leadings" ["web", "other"] (spLdgD T) := ⟨_, _, Gldg, bDldg, mDldg, kDldg⟩
  have Gsam : FnOk l.prog w K mg base CX0 6 fDsam _ ["one", "other"] (spSam T) := ok_sam FDsam DR Cldg
  have Csam : FnAt l.prog w K mg base 6 "same" ["one", "other"] (spSam T) := ⟨_, _, Gsam, bDsam, mDsam, kDsam⟩
  have GrenP : FnOk l.prog w K mg base CX0 1 fDrenP _ ["web", "row"] spRenR := ok_renP FDrenP DR
  have CrenP : FnAt l.prog w K mg base 1 "renamed" ["web", "row"] spRenR := ⟨_, _, GrenP, bDrenP, mDrenP, kDrenP⟩
  have Gisl : FnOk l.prog w K mg base CX0 1 fDisl _ ["_law_web_here", "_law_other", "_law_row"] spIsl := ok_isl FDisl DR
  have Cisl : FnAt l.prog w K mg base 1 "_law_is_leading" ["_law_web_here", "_law_other", "_law_row"] spIsl := ⟨_, _, Gisl, bDisl, mDisl, kDisl⟩
  have Gone : FnOk l.prog w K mg base CX0 1 fDone _ ["_law_web_here"] spOne := ok_one FDone DR
  have Cone : FnAt l.prog w K mg base 1 "_law_in_one_piece" ["_law_web_here"] spOne := ⟨_, _, Gone, bDone, mDone, kDone⟩
  have Gcro : FnOk l.prog w K mg base CX0 2 fDcro _ ["_law_box_here", "_law_web_here"] spCro := ok_cro FDcro DR
  have Ccro : FnAt l.prog w K mg base 2 "_law_crossed" ["_law_box_here", "_law_web_here"] spCro := ⟨_, _, Gcro, bDcro, mDcro, kDcro⟩
  have Gsec : FnOk l.prog w K mg base CX0 6 fDsec _ ["_law_box_here", "_law_web_here"] spSec := ok_sec FDsec DR Cren Ccro Cone Cweb
  have Csec : FnAt l.prog w K mg base 6 "_law_second" ["_law_box_here", "_law_web_here"] spSec := ⟨_, _, Gsec, bDsec, mDsec, kDsec⟩
  have Gfro : FnOk l.prog w K mg base CX0 1 fDfro _ ["_law_one", "_law_other", "_law_place"] spFro := ok_fro FDfro DR
  have Cfro : FnAt l.prog w K mg base 1 "_law_from" ["_law_one", "_law_other", "_law_place"] spFro := ⟨_, _, Gfro, bDfro, mDfro, kDfro⟩
  have Gwan : FnOk l.prog w K mg base CX0 2 fDwan _ ["_law_one", "_law_other"] spWan := ok_wan FDwan DR m_set Cfro Cisl
  have Cwan : FnAt l.prog w K mg base 2 "_law_wanted" ["_law_one", "_law_other"] spWan := ⟨_, _, Gwan, bDwan, mDwan, kDwan⟩
  exact ok_law hm FDlaw DR Cbox Cweb Csec Calike Csam Cwan CrenP
theorem walk {l : PySem.W.OpenLaw} {q : Program} {loose : List Str} {XP : (Str → Option Value) → Heap → Prop} {YP : World → Heap → Prop} {d : DefRec} {K : Params → PySem.W.Frag} (hn : l.most = some 63) (hdf : d.params.defaults = [])
    (hY : ∀ (w : World) (h : Heap), YP w h → (K w.params).In h)
    (hx : ∀ y ∈ [("is_leading" : Str)], ∃ d', (PyProof.Rows.recsOf q).find? (fun e => e.name == y) = some d') (hnt : ∀ p, PySem.W.noTabs (K p) = true)
    (F : ∀ (w : World) (mg : Str → Option Value) (fa : Addr) (h : Heap), (K w.params).In h → h.Ns mainGlobals mg → mg d.name = some (.ref fa) →
      ∃ fd : FuncData, (∀ (s : Shared) (u : Value), BindsTo s fd ⟨[u], []⟩ [("_law_script", u)]) ∧ ∀ base : Heap, (K w.params).In base → base.Ns mainGlobals mg → (∀ t ∈ ([("is_leading" : Str)].filterMap (PySem.W.tabIn (K w.params))), PySem.W.CodeHd base t.1 t.2) → BltMod base mg → FnOk l.prog w (K w.params) mg base CX0 7 fa fd ["_law_script"] (spLaw (K w.params) ([("is_leading" : Str)].filterMap (PySem.W.tabIn (K w.params))))) :
    PySem.W.WalkO q loose XP YP l.row.toRowW d [] (fun f vs => PySem.call f vs) :=
  L2.walk_ofX (n := 63) (k := 7) (x := "_law_script") (sp := spLaw) ["is_leading"] hn (by decide) hdf ⟨rfl, rfl, by decide, by decide⟩ hY hx hnt F (fun _ _ _ a ns hl _ ht hS => ⟨a, ns, rfl, hS, hl, ht, fun _ => rfl⟩)
end NH
open PySem PySem.W PyProof.Rows
set_option maxRecDepth 100000 in
set_option maxHeartbeats 0 in
theorem PySem.Challenge.cw_namelesshall_k17_the_same_but_for_number_holds : PySem.Challenge.rw_namelesshall_k17_the_same_but_for_number.Holds := by
  w_on; o_law; k_head; (case hw => w_witness2)
  k_fill
  refine NH.walk (l := PySem.Challenge.rw_namelesshall_k17_the_same_but_for_number) rfl rfl (fun w h Y => PySem.W.kIn_of Y) ?hx ?hnt ?F
  case hx => intro y hy; cases List.mem_singleton.mp hy; exact ⟨_, rfl⟩
  case hnt => intro p; rfl
  case F =>
    intro w mg fa h KX G hmg
    refine' NH.all_mk KX G hmg ?z_len ?z_int ?z_range ?z_tuple ?z_list ?z_zip ?z_enumerate ?z_min ?z_max ?z_any ?z_all ?z_set ?z_isinstance ?z_bool ?aDbox ?lDbox ?dDbox ?kDbox ?aDtake ?lDtake ?dDtake ?kDtake ?aDshuf ?lDshuf ?dDshuf ?kDshuf ?aDties ?lDties ?dDties ?kDties ?aDmarks ?lDmarks ?dDmarks ?kDmarks ?aDplain ?lDplain ?dDplain ?kDplain ?aDren ?lDren ?dDren ?kDren ?aDturn ?lDturn ?dDturn ?kDturn ?aDcov ?lDcov ?dDcov ?kDcov ?aDweb ?lDweb ?dDweb ?kDweb ?aDalike ?lDalike ?dDalike ?kDalike ?aDagr ?lDagr ?dDagr ?kDagr ?aDlea ?lDlea ?dDlea ?kDlea ?aDrf ?lDrf ?dDrf ?kDrf ?aDldg ?lDldg ?dDldg ?kDldg ?aDsam ?lDsam ?dDsam ?kDsam ?aDrenP ?lDrenP ?dDrenP ?kDrenP ?aDisl ?lDisl ?dDisl ?kDisl ?aDone ?lDone ?dDone ?kDone ?aDcro ?lDcro ?dDcro ?kDcro ?aDsec ?lDsec ?dDsec ?kDsec ?aDfro ?lDfro ?dDfro ?kDfro ?aDwan ?lDwan ?dDwan ?kDwan ?aDlaw ?lDlaw ?dDlaw ?kDlaw ?ht
    (case z_len => k_is)
    (case z_int => k_is)
    (case z_range => k_is)
    (case z_tuple => k_is)
    (case z_list => k_is)
    (case z_zip => k_is)
    (case z_enumerate => k_is)
    (case z_min => k_is)
    (case z_max => k_is)
    (case z_any => k_is)
    (case z_all => k_is)
    (case z_set => k_is)
    (case z_isinstance => k_is)
    (case z_bool => k_is)
    (case aDbox => k_is)
    (case lDbox => k_is)
    (case dDbox => k_is)
    (case kDbox => k_is)
    (case aDtake => k_is)
    (case lDtake => k_is)
    (case dDtake => k_is)
    (case kDtake => k_is)
    (case aDshuf => k_is)
    (case lDshuf => k_is)
    (case dDshuf => k_is)
    (case kDshuf => k_is)
    (case aDties => k_is)
    (case lDties => k_is)
    (case dDties => k_is)
    (case kDties => k_is)
    (case aDmarks => k_is)
    (case lDmarks => k_is)
    (case dDmarks => k_is)
    (case kDmarks => k_is)
    (case aDplain => k_is)
    (case lDplain => k_is)
    (case dDplain => k_is)
    (case kDplain => k_is)
    (case aDren => k_is)
    (case lDren => k_is)
    (case dDren => k_is)
    (case kDren => k_is)
    (case aDturn => k_is)
    (case lDturn => k_is)
    (case dDturn => k_is)
    (case kDturn => k_is)
    (case aDcov => k_is)
    (case lDcov => k_is)
    (case dDcov => k_is)
    (case kDcov => k_is)
    (case aDweb => k_is)
    (case lDweb => k_is)
    (case dDweb => k_is)
    (case kDweb => k_is)
    (case aDalike => k_is)
    (case lDalike => k_is)
    (case dDalike => k_is)
    (case kDalike => k_is)
    (case aDagr => k_is)
    (case lDagr => k_is)
    (case dDagr => k_is)
    (case kDagr => k_is)
    (case aDlea => k_is)
    (case lDlea => k_is)
    (case dDlea => k_is)
    (case kDlea => k_is)
    (case aDrf => k_is)
    (case lDrf => k_is)
    (case dDrf => k_is)
    (case kDrf => k_is)
    (case aDldg => k_is)
    (case lDldg => k_is)
    (case dDldg => k_is)
    (case kDldg => k_is)
    (case aDsam => k_is)
    (case lDsam => k_is)
    (case dDsam => k_is)
    (case kDsam => k_is)
    (case aDrenP => k_is)
    (case lDrenP => k_is)
    (case dDrenP => k_is)
    (case kDrenP => k_is)
    (case aDisl => k_is)
    (case lDisl => k_is)
    (case dDisl => k_is)
    (case kDisl => k_is)
    (case aDone => k_is)
    (case lDone => k_is)
    (case dDone => k_is)
    (case kDone => k_is)
    (case aDcro => k_is)
    (case lDcro => k_is)
    (case dDcro => k_is)
    (case kDcro => k_is)
    (case aDsec => k_is)
    (case lDsec => k_is)
    (case dDsec => k_is)
    (case kDsec => k_is)
    (case aDfro => k_is)
    (case lDfro => k_is)
    (case dDfro => k_is)
    (case kDfro => k_is)
    (case aDwan => k_is)
    (case lDwan => k_is)
    (case dDwan => k_is)
    (case kDwan => k_is)
    (case aDlaw => k_is)
    (case lDlaw => k_is)
    (case dDlaw => k_is)
    (case kDlaw => k_is)
    (case ht => rfl)