import PyProof.Rows.All
import Wide.All
import OpenK.AllK
import Wide.FinOn
import PyProof.EqAt
import PyProof.EqKinds
import PyProof.TupleCall
import KE.BitLaws
import KE.KTryMore
import PyProof.NsDelKeeps
import KE.KSortTup
import PySem.SetOps
import PyProof.Rows.SetFrom
import KE.KSortTupG
import KE.KNest
import PyProof.GenQ
import PyProof.GenArm
import KE.KLam
import PyProof.Rows.CallKwBuiltin
import PyProof.DictCompW
import PySem.Challenge.RW_namelesshall_k18_all_lesser_webs
set_option Elab.async false
set_option linter.all false
set_option maxRecDepth 100000
namespace L2
open PySem PySem.Spec PyProof.Rows
abbrev Key := Sum Int Str
def keyIs : Key → Value → Bool
  | .inl k, v => Value.isInt k v
  | .inr x, v => Value.isStrOf x v
def keyH (w : World) : Key → Int
  | .inl k => hashInt k
  | .inr x => hashStr w x
theorem keyIs_shape : ∀ {k : Key} {v : Value}, keyIs k v = true → (∃ i t, k = Sum.inl i ∧ v = Value.int i t) ∨ (∃ x t, k = Sum.inr x ∧ v = Value.str x t)
  | .inl i, v, h => by
    obtain ⟨t, e⟩ := Value.isInt_shape (k := i) (v := v) h
    exact .inl ⟨i, t, rfl, e⟩
  | .inr x, v, h => by
    obtain ⟨t, e⟩ := Value.isStrOf_shape (x := x) (v := v) h
    exact .inr ⟨x, t, rfl, e⟩
theorem keyIs_int (i : Int) (t : Tok) : keyIs (.inl i) (.int i t) = true := by simp [keyIs, Value.isInt]
theorem keyIs_str (x : Str) (t : Tok) : keyIs (.inr x) (.str x t) = true := by simp [keyIs, Value.isStrOf]
theorem key_ll (a b : Int) : decide ((Sum.inl a : Key) = Sum.inl b) = (a == b) := by
  by_cases e : a = b
  · subst e; simp
  · have h : ¬ (Sum.inl a : Key) = Sum.inl b := fun q => e (Sum.inl.inj q)
    rw [decide_eq_false h]
    exact (beq_eq_false_iff_ne.mpr e).symm
theorem key_rr (a b : Str) : decide ((Sum.inr a : Key) = Sum.inr b) = decide (a = b) := by
  by_cases e : a = b
  · subst e; simp
  · have h : ¬ (Sum.inr a : Key) = Sum.inr b := fun q => e (Sum.inr.inj q)
    rw [decide_eq_false h, decide_eq_false e]
theorem key_lr (a : Int) (b : Str) : decide ((Sum.inl a : Key) = Sum.inr b) = false := decide_eq_false (fun q => nomatch q)
theorem key_rl (a : Str) (b : Int) : decide ((Sum.inr a : Key) = Sum.inl b) = false := decide_eq_false (fun q => nomatch q)
def mixKind (prog : Program) (w : World) : PySem.KeyKind prog w Key where
  is := keyIs
  hash := keyH w
  inj := fun v a b ha hb => by
    rcases keyIs_shape ha with ⟨i, t, rfl, rfl⟩ | ⟨x, t, rfl, rfl⟩
    · rcases keyIs_shape hb with ⟨j, u, rfl, e⟩ | ⟨y, u, rfl, e⟩
      · injection e with e1 _; rw [e1]
      · exact nomatch e
    · rcases keyIs_shape hb with ⟨j, u, rfl, e⟩ | ⟨y, u, rfl, e⟩
      · exact nomatch e
      · injection e with e1 _; rw [e1]
  byValue := fun k v h => by
    rcases keyIs_shape h with ⟨i, t, rfl, rfl⟩ | ⟨x, t, rfl, rfl⟩ <;> rfl
  pyHash := fun hv h => by
    rcases keyIs_shape hv with ⟨i, t, rfl, rfl⟩ | ⟨x, t, rfl, rfl⟩
    · exact wpAny_pyHash_int h
    · exact wpAny_pyHash_str h
  eqBool := fun hu hv h => by
    rcases keyIs_shape hu with ⟨i, t, rfl, rfl⟩ | ⟨x, t, rfl, rfl⟩
    · rcases keyIs_shape hv with ⟨j, u, rfl, rfl⟩ | ⟨y, u, rfl, rfl⟩
      · rw [key_ll] at h; exact wpAny_eqBool_int h
      · rw [key_lr] at h; exact SeqAt.EqAt.int_str i t y u _ _ _ _ h
    · rcases keyIs_shape hv with ⟨j, u, rfl, rfl⟩ | ⟨y, u, rfl, rfl⟩
      · rw [key_rl] at h; exact SeqAt.EqAt.str_int x t j u _ _ _ _ h
      · rw [key_rr] at h; exact wpAny_eqBool_str h
  «strs» := fun k x t v h => by
    rcases keyIs_shape h with ⟨i, u, rfl, e⟩ | ⟨y, u, rfl, e⟩
    · exact nomatch e
    · injection e with e1 _
      subst e1
      cases v <;> rfl
theorem mixKind_int (prog : Program) (w : World) (i : Int) (t : Tok) : (mixKind prog w).is (.inl i) (.int i t) = true := keyIs_int i t
theorem mixKind_str (prog : Program) (w : World) (x : Str) (t : Tok) : (mixKind prog w).is (.inr x) (.str x t) = true := keyIs_str x t
end L2
namespace L2
open PySem PySem.Spec PyProof.Rows
inductive V where
  | non | bl (b : Bool) | int (i : Int) | str (x : Str) | byt (b : Array UInt8) | flt (b : UInt64) | ref (a : Addr) | ty (n : String)
  deriving DecidableEq
def RelV : V → Value → Prop
  | .non, u => u = Value.none
  | .bl b, u => u = Value.bool b
  | .int i, u => ∃ t, u = Value.int i t
  | .str x, u => ∃ t, u = Value.str x t
  | .byt b, u => ∃ t, u = Value.bytes b t
  | .flt b, u => ∃ t, u = Value.float b t
  | .ref a, u => u = Value.ref a
  | .ty n, u => u = Value.type n
abbrev Vals : List V → List Value → Prop := Paired RelV
theorem Vals.length {xs : List V} {us : List Value} (r : Vals xs us) : xs.length = us.length := Paired.length r
theorem Vals.get : ∀ {xs : List V} {us : List Value} {i : Nat} {x : V}, Vals xs us → xs[i]? = some x → ∃ u, us[i]? = some u ∧ RelV x u
  | _, _, _, _, .nil, e => by simp at e
  | _, _, 0, _, .cons r _, e => by simp at e; subst e; exact ⟨_, rfl, r⟩
  | _, _, i + 1, x, .cons _ t, e => by
    obtain ⟨u, h1, h2⟩ := Vals.get (i := i) (x := x) t (by simpa using e)
    exact ⟨u, by simpa using h1, h2⟩
theorem Vals.set {x : V} {u : Value} (r : RelV x u) : ∀ {xs : List V} {us : List Value} (i : Nat), Vals xs us → Vals (xs.set i x) (us.set i u)
  | _, _, _, .nil => .nil
  | _, _, 0, .cons _ t => .cons r t
  | _, _, i + 1, .cons q t => .cons q (Vals.set r i t)
theorem Vals.append : ∀ {xs ys : List V} {us ws : List Value}, Vals xs us → Vals ys ws → Vals (xs ++ ys) (us ++ ws)
  | _, _, _, _, .nil, s => s
  | _, _, _, _, .cons r t, s => .cons r (Vals.append t s)
theorem Vals.take : ∀ {xs : List V} {us : List Value} (n : Nat), Vals xs us → Vals (xs.take n) (us.take n)
  | _, _, 0, _ => .nil
  | _, _, _ + 1, .nil => .nil
  | _, _, n + 1, .cons r t => .cons r (Vals.take n t)
theorem Vals.drop : ∀ {xs : List V} {us : List Value} (n : Nat), Vals xs us → Vals (xs.drop n) (us.drop n)
  | _, _, 0, r => r
  | _, _, _ + 1, .nil => .nil
  | _, _, n + 1, .cons _ t => Vals.drop n t
def RelO : Option V → Option Value → Prop
  | some v, some u => RelV v u
  | none, none => True
  | _, _ => False
def KV {κ : Type} : List (κ × V) → List (κ × Value) → Prop := Paired fun (p : κ × V) (q : κ × Value) => p.1 = q.1 ∧ RelV p.2 q.2
def kV : Key → V
  | .inl i => .int i
  | .inr x => .str x
inductive HO where
  /-- a list -/
  | lst (xs : List V)
  /-- a tuple (never changes) -/
  | tup (xs : List V)
  /-- a dict whose keys are ints and texts; one whose keys are tuples of ints and texts (the empty one is both) -/
  | dK (kvs : List (Key × V)) | dT (kvs : List (List Key × V))
  /-- a set of ints: its members, its size -/
  | set (S : Int → Bool) (n : Nat)
  /-- an instance of the class at C, its dict at dx, its attributes -/
  | ins (C dx : Addr) (fs : List (Str × V))
  /-- the dict of the instance at x -/
  | own (x : Addr)
  /-- the dict of an exception -/
  | xd (fs : List (Str × V))
  /-- a bound method, f of x -/
  | met (f x : Addr)
  /-- a range object lo, lo + 1, .. below hi -/
  | rng (lo hi : Int)
  /-- a thing that is known to the object (the script; a dict while a loop walks it): read, never written while it is so -/
  | frz (o : Obj) (u : HO)
  /-- a code object's table -/
  | tbl (ps : Array Value)
  /-- any other thing, by what is true of its one object (a def of one's own: SetO a S n := HO.ext fun h => ..) -/
  | ext (φ : Heap → Prop)
abbrev Hp := Addr → Option HO
def upd (H : Hp) (a : Addr) (o : HO) : Hp := fun b => if b = a then some o else H b
theorem upd_same {H : Hp} {a : Addr} {o : HO} : upd H a o a = some o := by unfold upd; rw [if_pos rfl]
theorem upd_ne {H : Hp} {a b : Addr} {o : HO} (h : b ≠ a) : upd H a o b = H b := by unfold upd; rw [if_neg h]
theorem ne_of {H : Hp} {a b : Addr} {o u : HO} (h : H a = some o) (h' : H b = some u) (d : o ≠ u) : a ≠ b := by
  intro e; subst e; rw [h] at h'; exact d (Option.some.inj h')
theorem ne_of_none {H : Hp} {a b : Addr} {o : HO} (h : H a = some o) (h' : H b = none) : a ≠ b := by
  intro e; subst e; rw [h] at h'; cases h'
section
variable (P : Program) (w : World)
def ObjOk (H : Hp) (h : Heap) (a : Addr) : HO → Prop
  | .lst xs => xs.length ≤ sizeLine ∧ ∃ (its : List Value) (n : Nat), Vals xs its ∧ h.get? a = some { cls := .type "list", data := .seq its.toArray n }
  | .tup xs => xs.length ≤ sizeLine ∧ ∃ its : List Value, Vals xs its ∧ IsTup h a its.toArray
  | .dK kvs => kvs.length ≤ sizeLine ∧ (a == sysModules) = false ∧ ∃ vs, KV kvs vs ∧ h.DictOf (mixKind P w) a vs
  | .dT kvs => kvs.length ≤ sizeLine ∧ (a == sysModules) = false ∧ ∃ xs : List (List Key × Addr × Value),
      Paired (fun (p : List Key × V) (q : List Key × Addr × Value) => p.1 = q.1 ∧ H q.2.1 = some (.tup (p.1.map kV)) ∧ RelV p.2 q.2.2) kvs xs ∧
      ∃ o es ep, h.get? a = some o ∧ o.ExactDict ∧ o.data = .dict es ep ∧ es.toList = xs.map (entryOfKey (tupleKind (mixKind P w))) ∧ (xs.map (·.1)).Nodup
  | .set S n => h.SetOf (intKind P w) a S n
  | .ins C dx fs => H dx = some (.own a) ∧ fs.length ≤ 1000 ∧ dx ≠ a ∧ h.get? a = some (PySem.W.instObj C dx) ∧
      ∃ mA, h.Ns1 dx mA ∧ (∀ f, RelO (fs.lookup f) (mA f)) ∧ PySem.Within mA (fs.map (·.1))
  | .own _ => ∃ o, h.get? a = some o
  | .xd fs => ∃ mA, h.Ns1 a mA ∧ (∀ f, RelO (fs.lookup f) (mA f)) ∧ PySem.Within mA (fs.map (·.1)) ∧ fs.length ≤ 1000
  | .rng lo hi => ∃ t u v, h.get? a = some { cls := .type "range", data := .fields #[.int lo t, .int hi u, .int 1 v] }
  | .frz o u => h.get? a = some o ∧ ObjOk H h a u
  | .tbl ps => h.get? a = some { cls := .none, data := .fields ps }
  | .met f x => h.get? a = some (PySem.W.methodObj (.ref f) (.ref x))
  | .ext φ => φ h ∧ (∃ o, h.get? a = some o) ∧ ∀ h1 h2 : Heap, φ h1 → (∀ o, h1.get? a = some o → h2.get? a = some o) → φ h2
def HOk (H : Hp) (h : Heap) : Prop := ∀ a o, H a = some o → ObjOk P w H h a o
end
section
variable {P : Program} {w : World} {H H' : Hp} {h h' : Heap} {a : Addr} {o : HO}
theorem ObjOk.lt (x : ObjOk P w H h a o) : a < h.objs.size := by
  cases o with
  | lst xs => obtain ⟨_, _, _, _, e⟩ := x; exact Heap.lt_size e
  | tup xs => obtain ⟨_, _, _, p⟩ := x; exact p.lt
  | dK kvs => obtain ⟨_, _, _, _, o, _, _, e, _⟩ := x; exact Heap.lt_size e
  | dT kvs => obtain ⟨_, _, _, _, o, _, _, e, _⟩ := x; exact Heap.lt_size e
  | set S n => obtain ⟨o, _, _, _, e, _⟩ := x; exact Heap.lt_size e
  | ins C dx fs => obtain ⟨_, _, _, e, _⟩ := x; exact Heap.lt_size e
  | own y => obtain ⟨_, e⟩ := x; exact Heap.lt_size e
  | xd fs => obtain ⟨_, ⟨_, _, _, e, _⟩, _⟩ := x; exact Heap.lt_size e
  | rng lo hi => obtain ⟨_, _, _, e⟩ := x; exact Heap.lt_size e
  | frz ob u => obtain ⟨e, _⟩ := x; exact Heap.lt_size e
  | tbl ps => exact Heap.lt_size (show h.get? a = some _ from x)
  | met f y => exact Heap.lt_size (show h.get? a = some _ from x)
  | ext φ => obtain ⟨_, ⟨_, e⟩, _⟩ := x; exact Heap.lt_size e
theorem Paired.mapP {α β : Type} {F G : α → β → Prop} : ∀ {l₁ : List α} {l₂ : List β}, Paired F l₁ l₂ → (∀ a b, F a b → G a b) → Paired G l₁ l₂
  | _, _, .nil, _ => .nil
  | _, _, .cons r t, f => .cons (f _ _ r) (Paired.mapP t f)
theorem ObjOk.stay (x : ObjOk P w H h a o) (k : ∀ b u, (b = a ∨ H b = some (.own a)) → h.get? b = some u → h'.get? b = some u)
    (ho : ∀ b, H b = some (.own a) → H' b = some (.own a)) (ht : ∀ b xs, H b = some (.tup xs) → H' b = some (.tup xs)) : ObjOk P w H' h' a o := by
  induction o with
  | lst xs => obtain ⟨z, its, n, r, e⟩ := x; exact ⟨z, its, n, r, k _ _ (.inl rfl) e⟩
  | tup xs => obtain ⟨z, its, r, ob, e, c⟩ := x; exact ⟨z, its, r, ob, k _ _ (.inl rfl) e, c⟩
  | dK kvs => obtain ⟨z, y, vs, r, ob, es, ep, e, c⟩ := x; exact ⟨z, y, vs, r, ob, es, ep, k _ _ (.inl rfl) e, c⟩
  | dT kvs =>
    obtain ⟨z, y, xs, r, ob, es, ep, e, c⟩ := x
    exact ⟨z, y, xs, Paired.mapP r fun p q z => ⟨z.1, ht _ _ z.2.1, z.2.2⟩, ob, es, ep, k _ _ (.inl rfl) e, c⟩
  | set S n => obtain ⟨ob, es, ep, t, e, c⟩ := x; exact ⟨ob, es, ep, t, k _ _ (.inl rfl) e, c⟩
  | ins C dx fs =>
    obtain ⟨d, z, ne, e, mA, ⟨od, es, ep, e2, c⟩, r⟩ := x
    exact ⟨ho _ d, z, ne, k _ _ (.inl rfl) e, mA, ⟨od, es, ep, k _ _ (.inr d) e2, c⟩, r⟩
  | own y => obtain ⟨ob, e⟩ := x; exact ⟨ob, k _ _ (.inl rfl) e⟩
  | xd fs => obtain ⟨mA, ⟨od, es, ep, e, c⟩, r⟩ := x; exact ⟨mA, ⟨od, es, ep, k _ _ (.inl rfl) e, c⟩, r⟩
  | rng lo hi => obtain ⟨t, u, v, e⟩ := x; exact ⟨t, u, v, k _ _ (.inl rfl) e⟩
  | frz ob u ih => obtain ⟨e, q⟩ := x; exact ⟨k _ _ (.inl rfl) e, ih q⟩
  | tbl ps =>
    have e : h.get? a = some { cls := .none, data := .fields ps } := x
    show h'.get? a = some { cls := .none, data := .fields ps }
    exact k a _ (.inl rfl) e
  | met f y =>
    have e : h.get? a = some (PySem.W.methodObj (.ref f) (.ref y)) := x
    show h'.get? a = some (PySem.W.methodObj (.ref f) (.ref y))
    exact k a _ (.inl rfl) e
  | ext φ => obtain ⟨p, ⟨o, e⟩, st⟩ := x; exact ⟨st _ _ p fun o q => k _ _ (.inl rfl) q, ⟨o, k _ _ (.inl rfl) e⟩, st⟩
theorem HOk.lt (x : HOk P w H h) (e : H a = some o) : a < h.objs.size := (x a o e).lt
theorem HOk.fresh (x : HOk P w H h) (e : h.objs.size ≤ a) : H a = none := by
  cases q : H a with
  | none => rfl
  | some u => exact absurd (Nat.lt_of_lt_of_le (x.lt q) e) (Nat.lt_irrefl _)
theorem HOk.kept (x : HOk P w H h) (k : ∀ b u, h.get? b = some u → h'.get? b = some u) : HOk P w H h' := fun a o e =>
  (x a o e).stay (fun b u _ q => k b u q) (fun _ q => q) fun _ _ q => q
theorem HOk.laid (x : HOk P w H h) (k : ∀ b u, h.get? b = some u → h'.get? b = some u) (hp : h.objs.size ≤ a) (new : ObjOk P w (upd H a o) h' a o) : HOk P w (upd H a o) h' := fun b u e => by
  have hn := x.fresh hp
  by_cases hb : b = a
  · subst hb; rw [upd_same] at e; cases e; exact new
  · rw [upd_ne hb] at e
    exact (x b u e).stay (fun c v _ q => k c v q) (fun c q => by rw [upd_ne (ne_of_none q hn)]; exact q) fun c xs q => by rw [upd_ne (ne_of_none q hn)]; exact q
end
def Rd (H : Hp) (a : Addr) (u : HO) : Prop := H a = some u ∨ ∃ o, H a = some (.frz o u)
theorem Rd.ok {P : Program} {w : World} {H : Hp} {h : Heap} {a : Addr} {u : HO} (r : Rd H a u) (x : HOk P w H h) : ObjOk P w H h a u := by
  rcases r with r | ⟨o, r⟩
  · exact x a u r
  · obtain ⟨_, q⟩ := x a _ r
    exact q
def Mut : Option HO → Prop
  | some (.lst _) => True
  | some (.dK _) => True
  | some (.dT _) => True
  | some (.set _ _) => True
  | some (.ins _ _ _) => True
  | some (.xd _) => True
  | some (.ext _) => True
  | _ => False
section
variable {P : Program} {w : World} {H : Hp} {h h' : Heap} {x e : Addr} {o' : HO}
theorem HOk.write (ok : HOk P w H h) (mu : Mut (H x)) (he : e = x ∨ H e = some (.own x)) (k : ∀ b u, b ≠ e → h.get? b = some u → h'.get? b = some u) (heo : ∃ u, h'.get? e = some u)
    (new : ObjOk P w (upd H x o') h' x o') : HOk P w (upd H x o') h' := fun b u q => by
  have nown : ∀ c y, H c = some (.own y) → c ≠ x := fun c y r z => by subst z; rw [r] at mu; exact mu
  have ntup : ∀ c xs, H c = some (.tup xs) → c ≠ x := fun c xs r z => by subst z; rw [r] at mu; exact mu
  by_cases hb : b = x
  · subst hb; rw [upd_same] at q; cases q; exact new
  · rw [upd_ne hb] at q
    by_cases hbe : b = e
    · have q' : H b = some (.own x) := by
        rcases he with z | z
        · exact absurd (hbe.trans z) hb
        · rw [hbe]; exact z
      rw [q] at q'; cases q'
      obtain ⟨v, hv⟩ := heo
      exact ⟨v, by rw [hbe]; exact hv⟩
    · refine (ok b u q).stay (fun c v hc r => k c v ?_ r) (fun c r => by rw [upd_ne (nown c b r)]; exact r) fun c xs r => by rw [upd_ne (ntup c xs r)]; exact r
      rcases hc with rfl | hc
      · exact hbe
      · rintro rfl
        rcases he with z | z
        · exact nown c b hc z
        · rw [hc] at z; cases z; exact hb rfl
end
structure Un (fs ex : List Addr) (H H' : Hp) (h h' : Heap) : Prop where
  keep : ∀ b o, h.get? b = some o → H b = none → b ∉ fs → b ∉ ex → h'.get? b = some o
  slot : ∀ b o, h.get? b = some o → H b = none → b ∈ fs → b ∉ ex → ∃ sl, h'.get? b = some { o with slots := sl }
  free : ∀ b o, h.get? b = some o → H b = none → b ∉ ex → H' b = none
  there : ∀ b o, h.get? b = some o → b ∉ ex → ∃ o', h'.get? b = some o'
  tups : ∀ b xs, H b = some (.tup xs) → H' b = some (.tup xs)
  frzs : ∀ b o u, H b = some (.frz o u) → H' b = some (.frz o u)
  tbls : ∀ b ps, H b = some (.tbl ps) → ∃ more, H' b = some (.tbl (ps ++ more))
section
variable {fs fs' ex ex' : List Addr} {H H1 H2 : Hp} {h h1 h2 h' : Heap} {a x e : Addr} {o : HO}
theorem Un.any (u : Un fs ex H H1 h h1) {b : Addr} {ob : Obj} (q : h.get? b = some ob) (n : H b = none) (hx : b ∉ ex) : ∃ sl, h1.get? b = some { ob with slots := sl } := by
  by_cases hb : b ∈ fs
  · exact u.slot b ob q n hb hx
  · exact ⟨ob.slots, u.keep b ob q n hb hx⟩
theorem Un.kept (k : ∀ b u, h.get? b = some u → h'.get? b = some u) : Un fs ex H H h h' :=
  ⟨fun b ob q _ _ _ => k b ob q, fun b ob q _ _ _ => ⟨ob.slots, k b ob q⟩, fun _ _ _ n _ => n, fun b ob q _ => ⟨ob, k b ob q⟩, fun _ _ q => q, fun _ _ _ q => q, fun _ ps q => ⟨#[], by rw [q]; simp⟩⟩
theorem Un.refl : Un fs ex H H h h := Un.kept fun _ _ q => q
theorem Un.laid (k : ∀ b u, h.get? b = some u → h'.get? b = some u) (hp : h.objs.size ≤ a) (hn : H a = none) : Un fs ex H (upd H a o) h h' where
  keep := fun b u q _ _ _ => k b u q
  slot := fun b u q _ _ _ => ⟨u.slots, k b u q⟩
  free := fun b u q n _ => by rw [upd_ne (Nat.ne_of_lt (Nat.lt_of_lt_of_le (Heap.lt_size q) hp))]; exact n
  there := fun b u q _ => ⟨u, k b u q⟩
  tups := fun b xs q => by rw [upd_ne (ne_of_none q hn)]; exact q
  frzs := fun b u xs q => by rw [upd_ne (ne_of_none q hn)]; exact q
  tbls := fun b ps q => ⟨#[], by rw [upd_ne (ne_of_none q hn), q]; simp⟩
theorem Un.write (mu : Mut (H x)) (he : e = x ∨ H e = some (.own x)) (k : ∀ b u, b ≠ e → h.get? b = some u → h'.get? b = some u) (heo : ∃ u, h'.get? e = some u) : Un fs ex H (upd H x o) h h' := by
  have hx : ∀ b, H b = none → b ≠ x := fun b n z => by subst z; rw [n] at mu; exact mu
  have hb : ∀ b, H b = none → b ≠ e := fun b n z => by
    subst z
    rcases he with r | r
    · exact hx b n r
    · rw [n] at r; cases r
  have hm : ∀ b u, H b = some u → ¬ Mut (some u) → b ≠ x := fun b u q nm z => by subst z; rw [q] at mu; exact nm mu
  refine ⟨fun b u q n _ _ => k b u (hb b n) q, fun b u q n _ _ => ⟨u.slots, k b u (hb b n) q⟩, fun b u q n _ => by rw [upd_ne (hx b n)]; exact n, fun b u q _ => ?_,
    fun b xs q => by rw [upd_ne (hm b _ q fun z => z)]; exact q, fun b u xs q => by rw [upd_ne (hm b _ q fun z => z)]; exact q, fun b ps q => ⟨#[], by rw [upd_ne (hm b _ q fun z => z), q]; simp⟩⟩
  by_cases hbe : b = e
  · subst hbe; exact heo
  · exact ⟨u, k b u hbe q⟩
end
def trk (h : Heap) (H : Hp) : List Addr := (List.range h.objs.size).filter fun a => (H a).isSome
def hidT (h : Heap) (H : Hp) : Heap := PySem.W.hideAll h (trk h H)
theorem hidT_size (h : Heap) (H : Hp) : (hidT h H).objs.size = h.objs.size := PySem.W.hideAll_size _ _
theorem hidT_get {h : Heap} {H : Hp} {b : Addr} {o : Obj} (e : h.get? b = some o) (n : H b = none) : (hidT h H).get? b = some o :=
  PySem.W.hideAll_get _ e fun hm => by
    have q : (H b).isSome = true := (List.mem_filter.mp hm).2
    rw [n] at q; simp at q
theorem of_hidT {h : Heap} {H : Hp} {b : Addr} {o : Obj} (e : (hidT h H).get? b = some o) : h.get? b = some o ∧ H b = none := by
  have e' : h.get? b = some o := PySem.W.of_hideAll (trk h H) e
  refine ⟨e', ?_⟩
  cases q : H b with
  | none => rfl
  | some x =>
    have hm : b ∈ trk h H := List.mem_filter.mpr ⟨List.mem_range.mpr (Heap.lt_size e'), by simp [q]⟩
    have z : (hidT h H).get? b = none := PySem.W.hideAll_none (trk h H) hm
    rw [z] at e; cases e
end L2
namespace L2
open PySem PySem.Spec PyProof.Rows
structure Mod (K : PySem.W.Frag) (mg : Str → Option Value) (base : Heap) : Prop where
  kin : K.In base
  glob : base.Ns mainGlobals mg
  blt : ∃ mb, base.Ns builtinsNs mb ∧ ∀ x : Str, x ≠ "__name__" → mb x = bootBuiltins x
  nolimit : base.NoLimit
structure Cx where
  prog : Program
  w : World
  K : PySem.W.Frag
  mg : Str → Option Value
  base : Heap
  A : Around
  N : List Str
  s_0 : Shared
  H_0 : Hp
  env : Env
  outer : List Env
  stack : List Env
  ex : List Addr
  fn : Str → Bool
  calm : Bool
  pn : List (Addr × Obj)
  xe : Value → Shared → Prop
def frs (l : List Env) : List Addr := l.filterMap (·.frame)
abbrev Cx.fs (X : Cx) : List Addr := frs X.outer
def Vis (sc : Scope) (x : Str) : Prop := sc.names.lookup x = some .local ∨ sc.names.lookup x = some .cell ∨ sc.names.lookup x = some .free
def Loc (sc : Scope) (x : Str) : Prop := sc.names.lookup x = some .local ∨ sc.names.lookup x = some .cell
def Look (env : Env) (h : Heap) (m : Str → Option Value) (x : Str) (u : Value) : Prop :=
  (env.kindOf x = some .local ∧ m x = some u) ∨ ((env.kindOf x = some .cell ∨ env.kindOf x = some .free) ∧ ∃ c, env.cells.lookup x = some c ∧ h.IsCell c (some u))
structure Cx.Ok (X : Cx) : Prop where
  mod : Mod X.K X.mg X.base
  kind : X.env.scope.kind = .function
  glob : X.env.globals = mainGlobals
  blt : X.env.builtins = builtinsNs
  above : X.s_0.heap.objs.size ≤ X.env.locals
  inj : ∀ x y c, X.env.cells.lookup x = some c → X.env.cells.lookup y = some c → x = y
  has : ∀ x, (X.env.kindOf x = some .cell ∨ X.env.kindOf x = some .free) → ∃ c, X.env.cells.lookup x = some c
  cab : ∀ x c, X.fn x = true → X.env.cells.lookup x = some c → X.s_0.heap.objs.size ≤ c
  hd : X.calm = true → X.A.handled = none
  frames : X.A.frames = some X.stack
  stk : X.stack = X.outer ∨ (X.stack = X.env :: X.outer ∧ X.env.frame = some X.env.locals)
  exf : ∀ b ∈ X.ex, b ≠ X.env.locals ∧ ∀ x c, X.env.cells.lookup x = some c → c ≠ b
  bs : ∀ b o, X.base.get? b = some o → X.s_0.heap.get? b = some o ∧ X.H_0 b = none
  bsz : X.base.objs.size ≤ X.s_0.heap.objs.size
  noex : ∀ b o, X.base.get? b = some o → b ∉ X.ex
  exfs : ∀ b ∈ X.ex, b ∉ X.fs
  funs : X.s_0.heap.FunFrames X.base X.outer
  frf : ∀ b ∈ X.fs, X.H_0 b = none
structure Inv (X : Cx) (pins : List (Addr × Obj)) (σ : List (Option V)) (H : Hp) (s : Shared) : Prop where
  ok : X.Ok
  os : s.os = X.s_0.os
  bare : AllBare s.gens
  base : Un X.fs X.ex X.H_0 H X.s_0.heap s.heap
  loc : ∃ m, s.heap.Ns X.env.locals m ∧ ∀ (i : Nat) (x : Str) (v : V), X.N[i]? = some x → σ[i]? = some (some v) → Vis X.env.scope x → ∃ u, RelV v u ∧ Look X.env s.heap m x u
  cell : ∀ x c, X.env.cells.lookup x = some c → ∃ v, s.heap.IsCell c v
  free : H X.env.locals = none
  freeC : ∀ x c, X.env.cells.lookup x = some c → H c = none
  pin : ∀ p ∈ X.pn ++ pins, s.heap.get? p.1 = some p.2 ∧ H p.1 = none ∧ p.1 ≠ X.env.locals ∧ p.1 ∉ X.fs ∧ ∀ v, p.2.data ≠ .cell v
  hok : HOk X.prog X.w H s.heap
  len : σ.length = X.N.length
section
variable {X : Cx} {pins : List (Addr × Obj)} {σ : List (Option V)} {H H' : Hp} {s : Shared} {h' : Heap}
theorem Cx.Ok.nofr (ok : X.Ok) {b : Addr} {o : Obj} (e : X.base.get? b = some o) : b ∉ X.fs := fun hb => by
  have := (ok.funs.mem hb).1
  rw [e] at this; cases this
theorem Inv.bs (I : Inv X pins σ H s) : ∀ b o, X.base.get? b = some o → s.heap.get? b = some o ∧ H b = none := fun b o e =>
  ⟨I.base.keep b o (I.ok.bs b o e).1 (I.ok.bs b o e).2 (I.ok.nofr e) (I.ok.noex b o e), I.base.free b o (I.ok.bs b o e).1 (I.ok.bs b o e).2 (I.ok.noex b o e)⟩
theorem Inv.bk (I : Inv X pins σ H s) : ∀ b o, X.base.get? b = some o → s.heap.get? b = some o := fun b o e => (I.bs b o e).1
theorem Inv.mod (I : Inv X pins σ H s) : Mod X.K X.mg X.base := I.ok.mod
theorem Inv.kIn (I : Inv X pins σ H s) : X.K.In s.heap := I.ok.mod.kin.keeps I.bk
theorem Inv.nolimit (I : Inv X pins σ H s) : s.heap.NoLimit := I.ok.mod.nolimit.keeps I.bk
theorem Inv.lt (I : Inv X pins σ H s) : X.env.locals < s.heap.objs.size := let ⟨_, hn, _⟩ := I.loc; hn.lt
theorem Inv.sz (I : Inv X pins σ H s) : X.s_0.heap.objs.size ≤ s.heap.objs.size := Nat.le_trans I.ok.above (Nat.le_of_lt I.lt)
theorem Inv.nofs (I : Inv X pins σ H s) {a : Addr} (h : s.heap.objs.size ≤ a) : a ∉ X.fs := fun hb => by
  obtain ⟨_, o, ho, _⟩ := I.ok.funs.mem hb
  exact absurd (Nat.lt_of_lt_of_le (Heap.lt_size ho) (Nat.le_trans I.sz h)) (Nat.lt_irrefl _)
theorem Inv.cne (I : Inv X pins σ H s) : ∀ x c, X.env.cells.lookup x = some c → c ≠ X.env.locals := fun x c e z => by
  obtain ⟨v, o, ho, hd⟩ := I.cell x c e
  obtain ⟨m, ⟨o', es, ep, ho', hd', _⟩, _⟩ := I.loc
  rw [z, ho'] at ho; cases ho; rw [hd'] at hd; cases hd
theorem Inv.funs (I : Inv X pins σ H s) : s.heap.FunFrames X.base X.outer := by
  have all : ∀ (l : List Env), (∀ b ∈ frs l, b ∈ X.fs) → X.s_0.heap.FunFrames X.base l → s.heap.FunFrames X.base l := by
    intro l
    induction l with
    | nil => intro _ _; trivial
    | cons env r ih =>
      intro hs hl
      obtain ⟨hk, ⟨L, o, hf, hn, ho, hd⟩, hr⟩ := hl
      have hL : L ∈ X.fs := hs L (by unfold frs; rw [List.filterMap_cons, hf]; exact List.mem_cons_self)
      obtain ⟨sl, e⟩ := I.base.slot L o ho (I.ok.frf L hL) hL fun z => I.ok.exfs L z hL
      exact ⟨hk, ⟨L, _, hf, hn, e, hd⟩, ih (fun b hb => hs b (by unfold frs; rw [List.filterMap_cons, hf]; exact List.mem_cons_of_mem _ hb)) hr⟩
  exact all X.outer (fun _ hb => hb) I.ok.funs
theorem Inv.stack (I : Inv X pins σ H s) : s.heap.FunFrames X.base X.stack := by
  rcases I.ok.stk with e | ⟨e, hf⟩
  · rw [e]; exact I.funs
  · rw [e]
    obtain ⟨m, hn, _⟩ := I.loc
    refine .cons (by rw [I.ok.kind]; decide) hf hn ?_ I.funs
    exact Heap.get?_none_of_le (Nat.le_trans I.ok.bsz I.ok.above)
theorem Inv.stkSub (I : Inv X pins σ H s) : ∀ b ∈ frs X.stack, b ∈ X.env.locals :: X.fs := fun b hb => by
  rcases I.ok.stk with e | ⟨e, hf⟩
  · rw [e] at hb; exact List.mem_cons_of_mem _ hb
  · rw [e] at hb
    unfold frs at hb
    rw [List.filterMap_cons, hf] at hb
    exact hb
theorem Inv.stkFree (I : Inv X pins σ H s) : ∀ b ∈ frs X.stack, H b = none := fun b hb => by
  rcases List.mem_cons.mp (I.stkSub b hb) with e | hb
  · rw [e]; exact I.free
  · obtain ⟨_, o, ho, _⟩ := I.ok.funs.mem hb
    exact I.base.free b o ho (I.ok.frf b hb) fun z => I.ok.exfs b z hb
theorem Inv.step {g' : Array GenState} {t' : Nat} {d' : Drawn} {ch : List Addr} (I : Inv X pins σ H s)
    (hch : ∀ b ∈ ch, (b ∈ X.ex ∨ X.s_0.heap.objs.size ≤ b) ∧ b ≠ X.env.locals ∧ (∀ x c, X.env.cells.lookup x = some c → c ≠ b) ∧ ∀ p ∈ X.pn ++ pins, p.1 ≠ b)
    (keep : ∀ b o, b ≠ X.env.locals → b ∉ X.fs → b ∉ ch → s.heap.get? b = some o → H b = none → h'.get? b = some o)
    (slot : ∀ b o, b ≠ X.env.locals → b ∈ X.fs → b ∉ ch → s.heap.get? b = some o → H b = none → ∃ sl, h'.get? b = some { o with slots := sl }) (free : ∀ b o, b ∉ ch → s.heap.get? b = some o → H b = none → H' b = none)
    (there : ∀ b o, b ∉ ch → s.heap.get? b = some o → ∃ o', h'.get? b = some o')
    (tups : ∀ b xs, H b = some (.tup xs) → H' b = some (.tup xs)) (frzs : ∀ b o u, H b = some (.frz o u) → H' b = some (.frz o u)) (tbls : ∀ b ps, H b = some (.tbl ps) → ∃ more, H' b = some (.tbl (ps ++ more)))
    (ns : ∀ m, s.heap.Ns X.env.locals m → h'.Ns X.env.locals m) (hok : HOk X.prog X.w H' h') (hg : AllBare g') :
    Inv X pins σ H' { s with heap := h', gens := g', drawn := d', toks := t' } := by
  have neL : ∀ b o, X.s_0.heap.get? b = some o → b ≠ X.env.locals := fun b o e => Nat.ne_of_lt (Nat.lt_of_lt_of_le (Heap.lt_size e) I.ok.above)
  have neC : ∀ b o, X.s_0.heap.get? b = some o → b ∉ X.ex → b ∉ ch := fun b o e hx hb => by
    rcases (hch b hb).1 with z | z
    · exact hx z
    · exact absurd (Nat.lt_of_lt_of_le (Heap.lt_size e) z) (Nat.lt_irrefl _)
  have cellK : ∀ x c, X.env.cells.lookup x = some c → ∀ v, s.heap.IsCell c v → h'.IsCell c v := fun x c e v ⟨o, ho, hd⟩ => by
    have nch : c ∉ ch := fun z => (hch c z).2.2.1 x c e rfl
    by_cases hc : c ∈ X.fs
    · obtain ⟨sl, q⟩ := slot c o (I.cne x c e) hc nch ho (I.freeC x c e)
      exact ⟨_, q, hd⟩
    · exact ⟨o, keep c o (I.cne x c e) hc nch ho (I.freeC x c e), hd⟩
  refine ⟨I.ok, I.os, hg, ⟨fun b o e n hb hx => ?_, fun b o e n hb hx => ?_, fun b o e n hx => ?_, fun b o e hx => ?_, fun b xs e => tups b xs (I.base.tups b xs e), fun b o xs e => frzs b o xs (I.base.frzs b o xs e), fun b ps e => ?_⟩, ?_, fun x c e => ?_, ?_, fun x c e => ?_, fun p hp => ?_, hok, I.len⟩
  · exact keep b o (neL b o e) hb (neC b o e hx) (I.base.keep b o e n hb hx) (I.base.free b o e n hx)
  · obtain ⟨sl, e1⟩ := I.base.slot b o e n hb hx
    obtain ⟨sl', e2⟩ := slot b _ (neL b o e) hb (neC b o e hx) e1 (I.base.free b o e n hx)
    exact ⟨sl', e2⟩
  · obtain ⟨o', e1⟩ := I.base.there b o e hx
    exact free b o' (neC b o e hx) e1 (I.base.free b o e n hx)
  · obtain ⟨o', e1⟩ := I.base.there b o e hx
    exact there b o' (neC b o e hx) e1
  · obtain ⟨m1, e1⟩ := I.base.tbls b ps e
    obtain ⟨m2, e2⟩ := tbls b _ e1
    exact ⟨m1 ++ m2, by rw [e2, Array.append_assoc]⟩
  · obtain ⟨m, hn, hl⟩ := I.loc
    refine ⟨m, ns m hn, fun i x v e1 e2 e3 => ?_⟩
    obtain ⟨u, r, l⟩ := hl i x v e1 e2 e3
    refine ⟨u, r, ?_⟩
    rcases l with l | ⟨k, c, e, z⟩
    · exact .inl l
    · exact .inr ⟨k, c, e, cellK x c e _ z⟩
  · obtain ⟨v, z⟩ := I.cell x c e
    exact ⟨v, cellK x c e v z⟩
  · obtain ⟨m, ⟨o, _, _, ho, _⟩, _⟩ := I.loc
    exact free _ o (fun z => (hch _ z).2.1 rfl) ho I.free
  · obtain ⟨v, o, ho, hd⟩ := I.cell x c e
    exact free c o (fun z => (hch c z).2.2.1 x c e rfl) ho (I.freeC x c e)
  · obtain ⟨e, n, ne, nf, d⟩ := I.pin p hp
    have nch : p.1 ∉ ch := fun z => (hch p.1 z).2.2.2 p hp rfl
    exact ⟨keep p.1 p.2 ne nf nch e n, free p.1 p.2 nch e n, ne, nf, d⟩
theorem Inv.un {t' : Nat} (I : Inv X pins σ H s) (u : Un X.fs [] H H' s.heap h') (hok : HOk X.prog X.w H' h') : Inv X pins σ H' { s with heap := h', toks := t' } := by
  obtain ⟨m, ⟨o, es, ep, ho, r⟩, _⟩ := id I.loc
  obtain ⟨sl, hL⟩ := u.any ho I.free (by simp)
  exact I.step (g' := s.gens) (d' := s.drawn) (ch := []) (fun _ z => nomatch z) (fun b o _ hb _ e n => u.keep b o e n hb (by simp)) (fun b o _ hb _ e n => u.slot b o e n hb (by simp)) (fun b o _ e n => u.free b o e n (by simp)) (fun b o _ e => u.there b o e (by simp)) u.tups u.frzs u.tbls (fun m' hm => by
    obtain ⟨o', es', ep', ho', r'⟩ := hm
    rw [ho] at ho'; cases ho'
    exact ⟨_, es', ep', hL, r'⟩) hok I.bare
theorem Inv.call {g' : Array GenState} {t' : Nat} {d' : Drawn} {ch : List Addr} (I : Inv X pins σ H s) (u : Un (frs X.stack) ch H H' s.heap h') (hok : HOk X.prog X.w H' h') (hg : AllBare g')
    (hch : ∀ b ∈ ch, (b ∈ X.ex ∨ X.s_0.heap.objs.size ≤ b) ∧ b ≠ X.env.locals ∧ (∀ x c, X.env.cells.lookup x = some c → c ≠ b) ∧ ∀ p ∈ X.pn ++ pins, p.1 ≠ b) :
    Inv X pins σ H' { s with heap := h', gens := g', drawn := d', toks := t' } := by
  obtain ⟨m, ⟨o, es, ep, ho, r⟩, _⟩ := id I.loc
  obtain ⟨sl, hL⟩ := u.any ho I.free fun z => (hch _ z).2.1 rfl
  exact I.step (ch := ch) hch (fun b o hL hb hc e n => u.keep b o e n (fun z => (List.mem_cons.mp (I.stkSub b z)).elim hL hb) hc) (fun b o _ _ hc e n => u.any e n hc) (fun b o hc e n => u.free b o e n hc) (fun b o hc e => u.there b o e hc) u.tups u.frzs u.tbls (fun m' hm => by
    obtain ⟨o', es', ep', ho', r'⟩ := hm
    rw [ho] at ho'; cases ho'
    exact ⟨_, es', ep', hL, r'⟩) hok hg
theorem Inv.turned {t' : Nat} {it : Addr} (I : Inv X pins σ H s) (k : ∀ b o, b ≠ it → s.heap.get? b = some o → h'.get? b = some o) (hn : H it = none) (hL : it ≠ X.env.locals)
    (h1 : it ∈ X.ex ∨ X.s_0.heap.objs.size ≤ it) (h2 : ∀ x c, X.env.cells.lookup x = some c → c ≠ it) (h3 : ∀ p ∈ X.pn ++ pins, p.1 ≠ it) : Inv X pins σ H { s with heap := h', toks := t' } := by
  have nit : ∀ b u, H b = some u → b ≠ it := fun b u e z => by rw [z, hn] at e; cases e
  refine I.step (g' := s.gens) (d' := s.drawn) (ch := [it]) (fun b hb => ?_) (fun b o _ _ hc e _ => k b o (fun z => hc (by simp [z])) e) (fun b o _ _ hc e _ => ⟨o.slots, k b o (fun z => hc (by simp [z])) e⟩) (fun _ _ _ _ n => n)
    (fun b o hc e => ⟨o, k b o (fun z => hc (by simp [z])) e⟩) (fun _ _ e => e) (fun _ _ _ e => e) (fun b ps e => ⟨#[], by rw [e]; simp⟩) (fun m hm => ?_) (fun b u e => ?_) I.bare
  · have e : b = it := by simpa using hb
    subst e
    exact ⟨h1, hL, h2, h3⟩
  · obtain ⟨o, es, ep, ho, r⟩ := hm
    exact ⟨o, es, ep, k _ o (Ne.symm hL) ho, r⟩
  · refine (I.hok b u e).stay (fun c v hc q => k c v ?_ q) (fun _ q => q) fun _ _ q => q
    rcases hc with z | z
    · rw [z]; exact nit b u e
    · exact nit c _ z
theorem Inv.tok (I : Inv X pins σ H s) (t : Nat) : Inv X pins σ H { s with toks := t } := I.un (h' := s.heap) (t' := t) Un.refl I.hok
theorem Inv.kept {t' : Nat} (I : Inv X pins σ H s) (k : ∀ b u, s.heap.get? b = some u → h'.get? b = some u) : Inv X pins σ H { s with heap := h', toks := t' } := I.un (Un.kept k) (I.hok.kept k)
theorem Inv.laid {a : Addr} {o : HO} {t' : Nat} (I : Inv X pins σ H s) (k : ∀ b u, s.heap.get? b = some u → h'.get? b = some u) (hp : s.heap.objs.size ≤ a) (new : ObjOk X.prog X.w (upd H a o) h' a o) :
    Inv X pins σ (upd H a o) { s with heap := h', toks := t' } := I.un (Un.laid k hp (I.hok.fresh hp)) (I.hok.laid k hp new)
theorem Inv.write {x e : Addr} {o : HO} {t' : Nat} (I : Inv X pins σ H s) (mu : Mut (H x)) (he : e = x ∨ H e = some (.own x)) (k : ∀ b u, b ≠ e → s.heap.get? b = some u → h'.get? b = some u) (heo : ∃ u, h'.get? e = some u)
    (new : ObjOk X.prog X.w (upd H x o) h' x o) : Inv X pins σ (upd H x o) { s with heap := h', toks := t' } := I.un (Un.write mu he k heo) (I.hok.write mu he k heo new)
theorem Inv.weak {σ' : List (Option V)} (I : Inv X pins σ H s) (hl : σ'.length = σ.length) (w : ∀ (i : Nat) v, σ'[i]? = some (some v) → σ[i]? = some (some v)) : Inv X pins σ' H s :=
  ⟨I.ok, I.os, I.bare, I.base, let ⟨m, hn, hl'⟩ := I.loc; ⟨m, hn, fun i x v e1 e2 e3 => hl' i x v e1 (w i v e2) e3⟩, I.cell, I.free, I.freeC, I.pin, I.hok, hl.trans I.len⟩
theorem Inv.pins_of {pins' : List (Addr × Obj)} (I : Inv X pins σ H s) (h : ∀ p ∈ pins', s.heap.get? p.1 = some p.2 ∧ H p.1 = none ∧ p.1 ≠ X.env.locals ∧ p.1 ∉ X.fs ∧ ∀ v, p.2.data ≠ .cell v) : Inv X pins' σ H s :=
  ⟨I.ok, I.os, I.bare, I.base, I.loc, I.cell, I.free, I.freeC, fun p hp => (List.mem_append.mp hp).elim (fun z => I.pin p (List.mem_append_left _ z)) (h p), I.hok, I.len⟩
theorem nodup_ix {N : List Str} (hN : N.Nodup) {i j : Nat} {x : Str} (a : N[i]? = some x) (b : N[j]? = some x) : i = j := by
  obtain ⟨h1, e1⟩ := List.getElem?_eq_some_iff.mp a
  obtain ⟨h2, e2⟩ := List.getElem?_eq_some_iff.mp b
  exact (List.getElem_inj hN).mp (e1.trans e2.symm)
theorem store_ok2 {M : Model} {A : Around} {E : Value → Shared → Prop} {i : Nat} {x : Str} {v : V} {u : Value} {Q : Unit → Shared → Prop} (I : Inv X pins σ H s) (hN : X.N.Nodup) (hi : X.N[i]? = some x) (hx : Loc X.env.scope x) (r : RelV v u)
    (h : ∀ s', Inv X pins (σ.set i (some v)) H s' → (∃ a, Heap.SameBut a s.heap s'.heap ∧ (a = X.env.locals ∨ X.env.cells.lookup x = some a)) → Q () s') (hf : X.fn x = true ∨ X.env.scope.names.lookup x = some .local := by first | exact .inl rfl | exact .inr rfl | assumption) : wpAny M A (storeName X.env x u) Q E s := by
  obtain ⟨m, hn, hl⟩ := id I.loc
  have hcls : (X.env.scope.kind == .class || (X.env.scope.kind == .module && X.env.locals != X.env.globals)) = false := by rw [I.ok.kind]; rfl
  have hiσ : i < σ.length := by rw [I.len]; exact (List.getElem?_eq_some_iff.mp hi).1
  have cne := I.cne
  have tracked : ∀ {a : Addr} {h' : Heap}, (∃ o, s.heap.get? a = some o ∧ H a = none) → Heap.SameBut a s.heap h' → HOk X.prog X.w H h' := fun {a h'} ha hs b ob e => by
    obtain ⟨_, _, hfree⟩ := ha
    refine (I.hok b ob e).stay (fun c w' hc q => (hs.2 c ?_).trans q) (fun _ q => q) fun _ _ q => q
    rintro rfl
    rcases hc with rfl | hc
    · rw [hfree] at e; cases e
    · rw [hfree] at hc; cases hc
  rcases hx with hk | hk
  · refine wpAny_storeName_local hk hn (fun h' hn' hs => ?_) hcls
    obtain ⟨oL, _, _, hoL, _⟩ := id hn
    refine h _ ⟨I.ok, I.os, I.bare, ⟨fun b o e n hb hx => ?_, fun b o e n hb hx => ?_, I.base.free, fun b o e hx => ?_, I.base.tups, I.base.frzs, I.base.tbls⟩, ⟨_, hn', fun j y v' e1 e2 e3 => ?_⟩, fun y c e => ?_, I.free, I.freeC, fun p hp => ?_, tracked ⟨oL, hoL, I.free⟩ hs, by simpa using I.len⟩ ⟨_, hs, .inl rfl⟩
    · exact (hs.2 b (Nat.ne_of_lt (Nat.lt_of_lt_of_le (Heap.lt_size e) I.ok.above))).trans (I.base.keep b o e n hb hx)
    · obtain ⟨sl, e1⟩ := I.base.slot b o e n hb hx
      exact ⟨sl, (hs.2 b (Nat.ne_of_lt (Nat.lt_of_lt_of_le (Heap.lt_size e) I.ok.above))).trans e1⟩
    · obtain ⟨o', e1⟩ := I.base.there b o e hx
      exact ⟨o', (hs.2 b (Nat.ne_of_lt (Nat.lt_of_lt_of_le (Heap.lt_size e) I.ok.above))).trans e1⟩
    · by_cases hj : j = i
      · subst hj
        rw [hi] at e1; cases e1
        rw [List.getElem?_set_self hiσ] at e2
        cases e2
        exact ⟨u, r, .inl ⟨hk, by simp⟩⟩
      · rw [List.getElem?_set_ne (Ne.symm hj)] at e2
        obtain ⟨u', r', q⟩ := hl j y v' e1 e2 e3
        refine ⟨u', r', ?_⟩
        rcases q with ⟨k, e⟩ | ⟨k, c, e, z⟩
        · refine .inl ⟨k, ?_⟩
          have : y ≠ x := fun e => hj (nodup_ix hN e1 (e ▸ hi))
          simp [this, e]
        · exact .inr ⟨k, c, e, z.sameBut hs (cne y c e)⟩
    · obtain ⟨w', z⟩ := I.cell y c e
      exact ⟨w', z.sameBut hs (cne y c e)⟩
    · obtain ⟨e, n, ne, nf, d⟩ := I.pin p hp
      exact ⟨(hs.2 p.1 ne).trans e, n, ne, nf, d⟩
  · have hfn : X.fn x = true := by
      rcases hf with z | z
      · exact z
      · rw [z] at hk; cases hk
    obtain ⟨c, hc⟩ := I.ok.has x (.inl hk)
    obtain ⟨w', z⟩ := I.cell x c hc
    refine wpAny_storeName_cell I.ok.kind hk hc z (fun h' hc' hs => ?_)
    obtain ⟨oc, hoc, hocd⟩ := id z
    refine h { s with heap := h' } ⟨I.ok, I.os, I.bare, ⟨fun b o e n hb hx => ?_, fun b o e n hb hx => ?_, I.base.free, fun b o e hx => ?_, I.base.tups, I.base.frzs, I.base.tbls⟩, ⟨m, hn.sameBut hs (Ne.symm (cne x c hc)), fun j y v' e1 e2 e3 => ?_⟩, fun y c' e => ?_, I.free, I.freeC, fun p hp => ?_, tracked ⟨oc, hoc, I.freeC x c hc⟩ hs, by simpa using I.len⟩ ⟨c, hs, .inr hc⟩
    · exact (hs.2 b (Nat.ne_of_lt (Nat.lt_of_lt_of_le (Heap.lt_size e) (I.ok.cab x c hfn hc)))).trans (I.base.keep b o e n hb hx)
    · obtain ⟨sl, e1⟩ := I.base.slot b o e n hb hx
      exact ⟨sl, (hs.2 b (Nat.ne_of_lt (Nat.lt_of_lt_of_le (Heap.lt_size e) (I.ok.cab x c hfn hc)))).trans e1⟩
    · obtain ⟨o', e1⟩ := I.base.there b o e hx
      exact ⟨o', (hs.2 b (Nat.ne_of_lt (Nat.lt_of_lt_of_le (Heap.lt_size e) (I.ok.cab x c hfn hc)))).trans e1⟩
    · by_cases hj : j = i
      · subst hj
        rw [hi] at e1; cases e1
        rw [List.getElem?_set_self hiσ] at e2
        cases e2
        exact ⟨u, r, .inr ⟨.inl hk, c, hc, hc'⟩⟩
      · rw [List.getElem?_set_ne (Ne.symm hj)] at e2
        obtain ⟨u', r', q⟩ := hl j y v' e1 e2 e3
        refine ⟨u', r', ?_⟩
        rcases q with q | ⟨k, c', e, z'⟩
        · exact .inl q
        · refine .inr ⟨k, c', e, z'.sameBut hs ?_⟩
          rintro rfl
          exact hj (nodup_ix hN e1 (I.ok.inj _ _ _ e hc ▸ hi))
    · by_cases hcc : c' = c
      · subst hcc; exact ⟨_, hc'⟩
      · obtain ⟨w2, z2⟩ := I.cell y c' e
        exact ⟨w2, z2.sameBut hs hcc⟩
    · obtain ⟨e, n, ne, nf, d⟩ := I.pin p hp
      refine ⟨(hs.2 p.1 ?_).trans e, n, ne, nf, d⟩
      intro q
      rw [q, hoc] at e
      have q' : oc = p.2 := Option.some.inj e
      exact d w' (by rw [← q']; exact hocd)
theorem store_ok {M : Model} {A : Around} {E : Value → Shared → Prop} {i : Nat} {x : Str} {v : V} {u : Value} {Q : Unit → Shared → Prop} (I : Inv X pins σ H s) (hN : X.N.Nodup) (hi : X.N[i]? = some x) (hx : Loc X.env.scope x) (r : RelV v u)
    (h : ∀ s', Inv X pins (σ.set i (some v)) H s' → Q () s') (hf : X.fn x = true ∨ X.env.scope.names.lookup x = some .local := by first | exact .inl rfl | exact .inr rfl | assumption) : wpAny M A (storeName X.env x u) Q E s :=
  store_ok2 I hN hi hx r (fun s' I' _ => h s' I') hf
theorem Inv.call' {s' : Shared} {ch : List Addr} (I : Inv X pins σ H s) (ho : s'.os = s.os) (u : Un (frs X.stack) ch H H' s.heap s'.heap) (hok : HOk X.prog X.w H' s'.heap) (hg : AllBare s'.gens)
    (hch : ∀ b ∈ ch, (b ∈ X.ex ∨ X.s_0.heap.objs.size ≤ b) ∧ b ≠ X.env.locals ∧ (∀ x c, X.env.cells.lookup x = some c → c ≠ b) ∧ ∀ p ∈ X.pn ++ pins, p.1 ≠ b) : Inv X pins σ H' s' := by
  obtain ⟨h', g', d', t', o'⟩ := s'
  have e : o' = s.os := ho
  subst e
  exact I.call (g' := g') (t' := t') (d' := d') u hok hg hch
end
abbrev XK := Value → Option Addr → Hp → Prop
abbrev St := List (Option V)
abbrev VK := V → Hp → Prop
abbrev TE := St → Hp → VK → Prop
abbrev TT := St → Hp → (Bool → Hp → Prop) → Prop
abbrev TA := St → Hp → (List V → Hp → Prop) → Prop
structure Ends where
  nx : St → Hp → Prop
  rt : VK
  bk : St → Hp → Prop := fun _ _ => False
  ct : St → Hp → Prop := fun _ _ => False
abbrev TS := Ends → St → Hp → Prop
def EP (X : Cx) (pins : List (Addr × Obj)) (σ : St) (Q : VK) (u : Value) (s' : Shared) : Prop := ∃ v H', Inv X pins σ H' s' ∧ RelV v u ∧ Q v H'
def TP (X : Cx) (pins : List (Addr × Obj)) (σ : St) (Q : Bool → Hp → Prop) (b : Bool) (s' : Shared) : Prop := ∃ H', Inv X pins σ H' s' ∧ Q b H'
def AP (X : Cx) (pins : List (Addr × Obj)) (σ : St) (Q : List V → Hp → Prop) (us : List Value) (s' : Shared) : Prop := ∃ vs H', Inv X pins σ H' s' ∧ Vals vs us ∧ Q vs H'
def SP (X : Cx) (pins : List (Addr × Obj)) (D : Ends) (f : Flow) (s' : Shared) : Prop :=
  match f with
  | .next => ∃ σ' H', Inv X pins σ' H' s' ∧ D.nx σ' H'
  | .brk => ∃ σ' H', Inv X pins σ' H' s' ∧ D.bk σ' H'
  | .cont => ∃ σ' H', Inv X pins σ' H' s' ∧ D.ct σ' H'
  | .ret u => ∃ v σ' H', Inv X pins σ' H' s' ∧ RelV v u ∧ D.rt v H'
def PE (X : Cx) (e : Expr) (t : TE) : Prop :=
  ∀ (pins : List (Addr × Obj)) (s : Shared) (σ : St) (H : Hp) (Q : VK), Inv X pins σ H s → t σ H Q → wpAny (model X.prog X.w) X.A (eval e X.env) (EP X pins σ Q) X.xe s
def PT (X : Cx) (e : Expr) (t : TT) : Prop :=
  ∀ (pins : List (Addr × Obj)) (s : Shared) (σ : St) (H : Hp) (Q : Bool → Hp → Prop), Inv X pins σ H s → t σ H Q → wpAny (model X.prog X.w) X.A (isTrue e X.env (eval e X.env)) (TP X pins σ Q) X.xe s
def PW (X : Cx) (e : Expr) (t : TT) : Prop :=
  ∀ (whole : Sem Value) (pins : List (Addr × Obj)) (s : Shared) (σ : St) (H : Hp) (Q : Bool → Hp → Prop), Inv X pins σ H s → t σ H Q → wpAny (model X.prog X.w) X.A (isTrue e X.env whole) (TP X pins σ Q) X.xe s
theorem PW.pt {X : Cx} {e : Expr} {t : TT} (h : PW X e t) : PT X e t := h _
def PA (X : Cx) (es : List Expr) (t : TA) : Prop :=
  ∀ (pos : Pos) (pins : List (Addr × Obj)) (s : Shared) (σ : St) (H : Hp) (Q : List V → Hp → Prop), Inv X pins σ H s → t σ H Q → wpAny (model X.prog X.w) X.A (spliced (backTo pos (starEach es X.env))) (AP X pins σ Q) X.xe s
def PS (X : Cx) (st : Stmt) (t : TS) : Prop :=
  ∀ (pins : List (Addr × Obj)) (s : Shared) (σ : St) (H : Hp) (D : Ends), Inv X pins σ H s → t D σ H → wpAny (model X.prog X.w) X.A (exec st X.env) (SP X pins D) X.xe s
def PSs (X : Cx) (st : List Stmt) (t : TS) : Prop :=
  ∀ (pins : List (Addr × Obj)) (s : Shared) (σ : St) (H : Hp) (D : Ends), Inv X pins σ H s → t D σ H → wpAny (model X.prog X.w) X.A (execs st X.env) (SP X pins D) X.xe s
theorem thn {α : Type} {t : Sem α} {Q Q' : α → Shared → Prop} {M : Model} {A : Around} {E : Value → Shared → Prop} {s : Shared} (h : wpAny M A t Q E s) (hQ : ∀ a s, Q a s → Q' a s) : wpAny M A t Q' E s := wpAny_mono h hQ fun _ _ x => x
end L2
namespace L2
open PySem PySem.Spec PyProof.Rows
section
variable {X : Cx}
def tVar (i : Nat) : TE := fun σ H Q => ∃ v, σ[i]? = some (some v) ∧ Q v H
def tC (v : V) : TE := fun _ H Q => Q v H
theorem pe_var {i : Nat} {x : Str} {pos : Pos} (hN : X.N[i]? = some x) (hv : Vis X.env.scope x) (hd : (x == ("__debug__" : Str)) = false := by decide) (hcd : (x == ("__classdict__" : Str)) = false := by decide) : PE X (.Name x pos) (tVar i) := by
  intro pins s σ H Q I h
  obtain ⟨v, e, h⟩ := h
  obtain ⟨m, hn, hl⟩ := I.loc
  obtain ⟨u, r, l⟩ := hl i x v hN e hv
  have fin : EP X pins σ Q u s := ⟨v, H, I, r, h⟩
  rcases l with ⟨hk, hm⟩ | ⟨hk, c, hc, hcell⟩
  · exact wpAny_Name (wpAny_loadName_local I.ok.kind hk hn hm fin) hd
  · rcases hk with hk | hk
    · exact wpAny_Name (wpAny_loadName_cell I.ok.kind hk hc hcell fin) hd
    · exact wpAny_Name (wpAny_loadName_free I.ok.kind hk hc hcell fin hcd) hd
theorem pe_int {i j pos} : PE X (.Constant (.int i) j pos) (tC (.int i)) := fun _ _ _ H _ I h => wpAny_Constant_int ⟨.int i, H, I.tok _, ⟨_, rfl⟩, h⟩
theorem pe_bl {b j pos} : PE X (.Constant (.bool b) j pos) (tC (.bl b)) := fun _ _ _ H _ I h => Constant_bool ⟨.bl b, H, I, rfl, h⟩
theorem pe_non {j pos} : PE X (.Constant .none j pos) (tC .non) := fun _ _ _ H _ I h => Constant_none ⟨.non, H, I, rfl, h⟩
def Gl (X : Cx) (x : Str) : Prop := X.env.kindOf x = some .globalImplicit
theorem ld_glob {E : Value → Shared → Prop} {pins : List (Addr × Obj)} {s : Shared} {σ : St} {H : Hp} {x : Str} {u : Value} {pos : Pos} {Q : Value → Shared → Prop} (I : Inv X pins σ H s) (hg : Gl X x) (hm : X.mg x = some u) (h : Q u s)
    (hd : (x == ("__debug__" : Str)) = false := by decide) : wpAny (model X.prog X.w) X.A (eval (.Name x pos) X.env) Q E s :=
  Calls.Name_function_global I.ok.kind hg (Calls.loadGlobal_global (by rw [I.ok.glob]; exact I.mod.glob.keeps I.bk) hm h) hd
theorem ld_blt {E : Value → Shared → Prop} {pins : List (Addr × Obj)} {s : Shared} {σ : St} {H : Hp} {x : Str} {u : Value} {pos : Pos} {Q : Value → Shared → Prop} (I : Inv X pins σ H s) (hg : Gl X x) (hm : X.mg x = none) (hv : bootBuiltins x = some u) (h : Q u s)
    (hn : x ≠ "__name__" := by decide) (hd : (x == ("__debug__" : Str)) = false := by decide) : wpAny (model X.prog X.w) X.A (eval (.Name x pos) X.env) Q E s := by
  obtain ⟨mb, h1, h2⟩ := I.mod.blt
  exact Calls.Name_function_global I.ok.kind hg (Calls.loadGlobal_builtin (by rw [I.ok.glob]; exact I.mod.glob.keeps I.bk) hm (by rw [I.ok.blt]; exact h1.keeps I.bk) ((h2 x hn).trans hv) h) hd
theorem pe_bltn {x : Str} {v : V} {u : Value} {pos : Pos} (hg : Gl X x) (hm : X.mg x = none) (hv : bootBuiltins x = some u) (r : RelV v u) (hn : x ≠ "__name__" := by decide) (hd : (x == ("__debug__" : Str)) = false := by decide) : PE X (.Name x pos) (tC v) :=
  fun _ _ _ H _ I h => ld_blt I hg hm hv ⟨v, H, I, r, h⟩ hn hd
variable {a b : Expr} {ta tb : TE} {pos : Pos}
def tB (t : TE) : TT := fun σ H Q => t σ H fun x H1 => ∃ c, x = .bl c ∧ Q c H1
theorem pt_val {e : Expr} {t : TE} (h : PE X e t) (he : ∀ whole, isTrue e X.env whole = (do let v ← whole; standAt e.pos; holding [v] (truthy v)) := by intro _; rfl) : PT X e (tB t) := by
  intro pins s σ H Q I hw
  refine isTrue_plain (thn (h pins s σ H _ I hw) fun v s1 ⟨x, H1, I1, r1, q1⟩ => ?_) (he _)
  obtain ⟨d, rfl, q⟩ := q1
  cases r1
  exact wpAny_truthy_bool ⟨H1, I1, q⟩
variable {tA tB' : TT} {rest : List Expr}
def tAnd (t u : TT) : TT := fun σ H Q => t σ H fun c H1 => if c = true then u σ H1 Q else Q false H1
def tOr (t u : TT) : TT := fun σ H Q => t σ H fun c H1 => if c = true then Q true H1 else u σ H1 Q
def tNot (t : TT) : TT := fun σ H Q => t σ H fun c H1 => Q (!c) H1
theorem pw_and1 (ha : PT X a tA) : PW X (.BoolOp .And [a] pos) tA := by
  intro wh pins s σ H Q I h
  refine isTrue_and (thn (ha pins s σ H Q I h) fun c s1 e => ?_)
  cases c with
  | true => exact isTrue_and_nil e
  | false => exact e
theorem pw_or1 (ha : PT X a tA) : PW X (.BoolOp .Or [a] pos) tA := by
  intro wh pins s σ H Q I h
  refine isTrue_or (thn (ha pins s σ H Q I h) fun c s1 e => ?_)
  cases c with
  | false => exact isTrue_or_nil e
  | true => exact e
theorem pw_and (ha : PT X a tA) (hb : PW X (.BoolOp .And (b :: rest) pos) tB') : PW X (.BoolOp .And (a :: b :: rest) pos) (tAnd tA tB') := by
  intro wh pins s σ H Q I h
  refine isTrue_and (thn (ha pins s σ H _ I h) fun c s1 ⟨H1, I1, q1⟩ => ?_)
  cases c with
  | true => exact hb wh pins s1 σ H1 Q I1 q1
  | false => exact ⟨H1, I1, q1⟩
theorem pw_or (ha : PT X a tA) (hb : PW X (.BoolOp .Or (b :: rest) pos) tB') : PW X (.BoolOp .Or (a :: b :: rest) pos) (tOr tA tB') := by
  intro wh pins s σ H Q I h
  refine isTrue_or (thn (ha pins s σ H _ I h) fun c s1 ⟨H1, I1, q1⟩ => ?_)
  cases c with
  | true => exact ⟨H1, I1, q1⟩
  | false => exact hb wh pins s1 σ H1 Q I1 q1
theorem pt_not (ha : PT X a tA) : PT X (.UnaryOp .Not a pos) (tNot tA) := by
  intro pins s σ H Q I h
  exact isTrue_not (ha pins s σ H (fun c H1 => Q (!c) H1) I h)
def tAndV (ta tb : TE) : TE := fun σ H Q => ta σ H fun x H1 => ∃ c, x = .bl c ∧ if c = true then tb σ H1 Q else Q (.bl false) H1
def tOrV (ta tb : TE) : TE := fun σ H Q => ta σ H fun x H1 => ∃ c, x = .bl c ∧ if c = true then Q (.bl true) H1 else tb σ H1 Q
theorem pe_one {op} {t : TE} (h : PE X a t) : PE X (.BoolOp op [a] pos) t := fun pins s σ H Q I hw => BoolOp_one (h pins s σ H Q I hw)
theorem pe_and (ha : PE X a ta) (hb : PE X (.BoolOp .And (b :: rest) pos) tb) : PE X (.BoolOp .And (a :: b :: rest) pos) (tAndV ta tb) := by
  intro pins s σ H Q I h
  refine BoolOp_and (thn (ha pins s σ H _ I h) fun v s1 ⟨x, H1, I1, r1, q1⟩ => ?_)
  obtain ⟨c, rfl, q1⟩ := q1
  cases r1
  refine wpAny_truthy_bool ?_
  cases c with
  | true => exact hb pins s1 σ H1 Q I1 q1
  | false => exact ⟨.bl false, H1, I1, rfl, q1⟩
theorem pe_or (ha : PE X a ta) (hb : PE X (.BoolOp .Or (b :: rest) pos) tb) : PE X (.BoolOp .Or (a :: b :: rest) pos) (tOrV ta tb) := by
  intro pins s σ H Q I h
  refine BoolOp_or (thn (ha pins s σ H _ I h) fun v s1 ⟨x, H1, I1, r1, q1⟩ => ?_)
  obtain ⟨c, rfl, q1⟩ := q1
  cases r1
  refine wpAny_truthy_bool ?_
  cases c with
  | false => exact hb pins s1 σ H1 Q I1 q1
  | true => exact ⟨.bl true, H1, I1, rfl, q1⟩
end
end L2
namespace L2
open PySem PySem.Spec PyProof.Rows
def SqL (K : PySem.W.Frag) (H : Hp) (a : Addr) (xs : List V) : Prop :=
  Rd H a (.lst xs) ∨
    ∃ (o : Obj) (its : Array Value) (n : Nat), K.lookup a = some o ∧ o.cls = .type "list" ∧ o.dict = none ∧ o.data = .seq its n ∧ its.size ≤ sizeLine ∧ Vals xs its.toList
def SqT (K : PySem.W.Frag) (H : Hp) (a : Addr) (xs : List V) : Prop :=
  Rd H a (.tup xs) ∨
    ∃ (o : Obj) (its : Array Value) (n : Nat), K.lookup a = some o ∧ o.cls = .type "tuple" ∧ o.data = .seq its n ∧ its.size ≤ sizeLine ∧ Vals xs its.toList
def absV : Value → Option V
  | .none => some .non
  | .bool b => some (.bl b)
  | .int i _ => some (.int i)
  | .str x _ => some (.str x)
  | .bytes b _ => some (.byt b)
  | .float b _ => some (.flt b)
  | .ref a => some (.ref a)
  | .type n => some (.ty n)
  | _ => none
theorem RelV.abs {x : V} {u : Value} (r : RelV x u) : absV u = some x := by
  cases x with
  | non => cases r; rfl
  | bl _ => cases r; rfl
  | int _ => obtain ⟨t, rfl⟩ := r; rfl
  | str _ => obtain ⟨t, rfl⟩ := r; rfl
  | byt _ => obtain ⟨t, rfl⟩ := r; rfl
  | flt _ => obtain ⟨t, rfl⟩ := r; rfl
  | ref _ => cases r; rfl
  | ty _ => cases r; rfl
theorem RelV.inj {x y : V} {u : Value} (r : RelV x u) (q : RelV y u) : x = y := Option.some.inj (r.abs.symm.trans q.abs)
theorem Vals.inj : ∀ {xs ys : List V} {us : List Value}, Vals xs us → Vals ys us → xs = ys
  | _, _, _, .nil, .nil => rfl
  | _, _, _, .cons r t, .cons r' t' => by rw [r.inj r', Vals.inj t t']
section
variable {X : Cx} {pins : List (Addr × Obj)} {σ : St} {H : Hp} {s : Shared} {a : Addr} {xs ys : List V}
theorem SqL.of {K : PySem.W.Frag} (h : H a = some (.lst xs)) : SqL K H a xs := .inl (.inl h)
theorem SqT.of {K : PySem.W.Frag} (h : H a = some (.tup xs)) : SqT K H a xs := .inl (.inl h)
theorem Inv.list (I : Inv X pins σ H s) (h : SqL X.K H a xs) : ∃ its : List Value, Vals xs its ∧ PlainL s.heap a its.toArray ∧ xs.length ≤ sizeLine := by
  rcases h with h | ⟨o, its, n, hk, hc, hd, hs, hz, r⟩
  · obtain ⟨z, its, n, r, e⟩ := h.ok I.hok
    exact ⟨its, r, ⟨_, n, e, rfl, rfl, rfl⟩, z⟩
  · refine ⟨its.toList, r, ⟨o, n, I.kIn a o hk, hc, hd, by simpa using hs⟩, ?_⟩
    have e := r.length
    simp only [Array.length_toList] at e
    omega
theorem Inv.tuple (I : Inv X pins σ H s) (h : SqT X.K H a xs) : ∃ its : List Value, Vals xs its ∧ IsTup s.heap a its.toArray ∧ xs.length ≤ sizeLine := by
  rcases h with h | ⟨o, its, n, hk, hc, hs, hz, r⟩
  · obtain ⟨z, its, r, p⟩ := h.ok I.hok
    exact ⟨its, r, p, z⟩
  · refine ⟨its.toList, r, ⟨o, I.kIn a o hk, hc, n, by simpa using hs⟩, ?_⟩
    have e := r.length
    simp only [Array.length_toList] at e
    omega
theorem Inv.list_inj (I : Inv X pins σ H s) (h : SqL X.K H a xs) (h' : SqL X.K H a ys) : xs = ys := by
  obtain ⟨its, r, ⟨o, n, e, _, _, d⟩, _⟩ := I.list h
  obtain ⟨its', r', ⟨o', n', e', _, _, d'⟩, _⟩ := I.list h'
  rw [e] at e'; cases e'
  rw [d] at d'
  injection d' with d1 _
  have : its = its' := by simpa using congrArg Array.toList d1
  subst this
  exact r.inj r'
theorem Inv.tuple_inj (I : Inv X pins σ H s) (h : SqT X.K H a xs) (h' : SqT X.K H a ys) : xs = ys := by
  obtain ⟨its, r, ⟨o, e, _, n, d⟩, _⟩ := I.tuple h
  obtain ⟨its', r', ⟨o', e', _, n', d'⟩, _⟩ := I.tuple h'
  rw [e] at e'; cases e'
  rw [d] at d'
  injection d' with d1 _
  have : its = its' := by simpa using congrArg Array.toList d1
  subst this
  exact r.inj r'
end
abbrev Cx.wish (X : Cx) (E : Value → Shared → Prop) : Cx := { X with xe := E }
abbrev Cx.nox (X : Cx) : Cx := X.wish fun _ _ => False
theorem Cx.Ok.wish {X : Cx} (ok : X.Ok) (E : Value → Shared → Prop) : (X.wish E).Ok :=
  ⟨ok.mod, ok.kind, ok.glob, ok.blt, ok.above, ok.inj, ok.has, ok.cab, ok.hd, ok.frames, ok.stk, ok.exf, ok.bs, ok.bsz, ok.noex, ok.exfs, ok.funs, ok.frf⟩
theorem Cx.Ok.unwish {X : Cx} {E : Value → Shared → Prop} (ok : (X.wish E).Ok) : X.Ok :=
  ⟨ok.mod, ok.kind, ok.glob, ok.blt, ok.above, ok.inj, ok.has, ok.cab, ok.hd, ok.frames, ok.stk, ok.exf, ok.bs, ok.bsz, ok.noex, ok.exfs, ok.funs, ok.frf⟩
section
variable {X : Cx} {pins : List (Addr × Obj)} {σ : St} {H : Hp} {s : Shared} {E : Value → Shared → Prop}
theorem Inv.wish (I : Inv X pins σ H s) (E : Value → Shared → Prop) : Inv (X.wish E) pins σ H s := ⟨I.ok.wish E, I.os, I.bare, I.base, I.loc, I.cell, I.free, I.freeC, I.pin, I.hok, I.len⟩
theorem Inv.unwish (I : Inv (X.wish E) pins σ H s) : Inv X pins σ H s := ⟨I.ok.unwish, I.os, I.bare, I.base, I.loc, I.cell, I.free, I.freeC, I.pin, I.hok, I.len⟩
theorem SP.unwish {D : Ends} {f : Flow} {s' : Shared} (h : SP (X.wish E) pins D f s') : SP X pins D f s' := by
  cases f with
  | next => obtain ⟨σ', H', I, q⟩ := h; exact ⟨σ', H', I.unwish, q⟩
  | brk => obtain ⟨σ', H', I, q⟩ := h; exact ⟨σ', H', I.unwish, q⟩
  | cont => obtain ⟨σ', H', I, q⟩ := h; exact ⟨σ', H', I.unwish, q⟩
  | ret u => obtain ⟨v, σ', H', I, r, q⟩ := h; exact ⟨v, σ', H', I.unwish, r, q⟩
theorem PE.nox {e : Expr} {t : TE} (h : PE X.nox e t) : PE X e t := fun pins s σ H Q I hw =>
  wpAny_mono (h pins s σ H Q (I.wish _) hw) (fun _ _ ⟨v, H', I', r, q⟩ => ⟨v, H', I'.unwish, r, q⟩) fun _ _ z => False.elim z
theorem PSs.nox {st : List Stmt} {t : TS} (h : PSs X.nox st t) : PSs X st t := fun pins s σ H D I hw =>
  wpAny_mono (h pins s σ H D (I.wish _) hw) (fun _ _ q => q.unwish) fun _ _ z => False.elim z
end
section
variable {X : Cx} {st : Stmt} {rest : List Stmt} {t u : TS} {e : Expr} {te : TE} {pos : Pos}
def tNext : TS := fun D σ H => D.nx σ H
def tSeq (t u : TS) : TS := fun D σ H => t { D with nx := u D } σ H
theorem pss_nil : PSs X [] tNext := fun _ _ σ H _ I h => wpAny_execs_nil ⟨σ, H, I, h⟩
theorem pss_cons (h1 : PS X st t) (h2 : PSs X rest u) : PSs X (st :: rest) (tSeq t u) := by
  intro pins s σ H D I h
  refine wpAny_execs_cons (thn (h1 pins s σ H { D with nx := u D } I h) fun f s1 q => ?_)
  cases f with
  | next =>
    obtain ⟨σ', H', I', q⟩ := q
    exact h2 pins s1 σ' H' D I' q
  | ret v => exact q
  | brk => exact q
  | cont => exact q
theorem pss_one (h1 : PS X st t) : PSs X [st] t := by
  intro pins s σ H D I h
  refine wpAny_execs_cons (thn (h1 pins s σ H D I h) fun f s1 q => ?_)
  cases f with
  | next => exact wpAny_execs_nil q
  | ret v => exact q
  | brk => exact q
  | cont => exact q
theorem Inv.quiet {pins : List (Addr × Obj)} {σ : St} {H : Hp} {s : Shared} (I : Inv X pins σ H s) : interactive X.env = false := by simp [interactive, I.ok.kind]
def tDrop (te : TE) : TS := fun D σ H => te σ H fun _ H1 => D.nx σ H1
theorem ps_expr (he : PE X e te) (hs : swapsWith e none pos.line X.env = pure false := by rfl) : PS X (.Expr e pos) (tDrop te) := by
  intro pins s σ H D I h
  exact wpAny_Expr_any (thn (he pins s σ H _ I h) fun v s1 ⟨x, H1, I1, r1, q1⟩ => ⟨σ, H1, I1, q1⟩) I.quiet hs
def tRet (te : TE) : TS := fun D σ H => te σ H D.rt
theorem ps_ret (he : PE X e te) : PS X (.Return (some e) pos) (tRet te) := by
  intro pins s σ H D I h
  exact wpAny_Return_some (thn (he pins s σ H _ I h) fun v s1 ⟨x, H1, I1, r1, q1⟩ => ⟨x, σ, H1, I1, r1, q1⟩)
def tIfS (c : TT) (t u : TS) : TS := fun D σ H => c σ H fun b H1 => if b = true then t D σ H1 else u D σ H1
theorem ps_if {c : Expr} {a b : List Stmt} {tc : TT} (hc : PT X c tc) (ha : PSs X a t) (hb : PSs X b u) : PS X (.If c a b pos) (tIfS tc t u) := by
  intro pins s σ H D I h
  refine wpAny_If (thn (hc pins s σ H _ I h) fun d s1 ⟨H1, I1, q1⟩ => ?_)
  cases d with
  | true => exact ha pins s1 σ H1 D I1 q1
  | false => exact hb pins s1 σ H1 D I1 q1
end
abbrev TG := V → St → Hp → (St → Hp → Prop) → Prop
abbrev TGs := List V → St → Hp → (St → Hp → Prop) → Prop
def PG (X : Cx) (target : Expr) (t : TG) : Prop :=
  ∀ (pins : List (Addr × Obj)) (s : Shared) (σ : St) (H : Hp) (v : V) (u : Value) (Q : St → Hp → Prop), Inv X pins σ H s → RelV v u → t v σ H Q →
    wpAny (model X.prog X.w) X.A (assign target X.env u) (fun _ s' => ∃ σ' H', Inv X pins σ' H' s' ∧ Q σ' H') X.xe s
def PGs (X : Cx) (ts : List Expr) (t : TGs) : Prop :=
  ∀ (pins : List (Addr × Obj)) (s : Shared) (σ : St) (H : Hp) (vs : List V) (us : List Value) (Q : St → Hp → Prop), Inv X pins σ H s → Vals vs us → t vs σ H Q →
    wpAny (model X.prog X.w) X.A (assignInOrder ((assignEach ts X.env).map (·.2)) us) (fun _ s' => ∃ σ' H', Inv X pins σ' H' s' ∧ Q σ' H') X.xe s
abbrev TSet := V → V → V → Hp → (Hp → Prop) → Prop
def PSet (X : Cx) (t : TSet) : Prop :=
  ∀ (pins : List (Addr × Obj)) (s : Shared) (σ : St) (H : Hp) (o i v : V) (ov iv u : Value) (Q : Hp → Prop), Inv X pins σ H s → RelV o ov → RelV i iv → RelV v u → t o i v H Q →
    wpAny (model X.prog X.w) X.A (setItem ov iv u) (fun _ s' => ∃ H', Inv X pins σ H' s' ∧ Q H') X.xe s
section
variable {X : Cx} {pos : Pos}
def gName (i : Nat) : TG := fun v σ H Q => Q (σ.set i (some v)) H
theorem pg_name {i : Nat} {x : Str} (hN : X.N.Nodup) (hi : X.N[i]? = some x) (hx : Loc X.env.scope x) (hf : X.fn x = true ∨ X.env.scope.names.lookup x = some .local := by first | exact .inl rfl | exact .inr rfl | assumption) : PG X (.Name x pos) (gName i) := by
  intro pins s σ H v u Q I r h
  exact wpAny_assign_Name (store_ok I hN hi hx r (fun s' I' => ⟨_, H, I', h⟩) hf)
def gNil : TGs := fun vs σ H Q => vs = [] ∧ Q σ H
def gCons (t : TG) (u : TGs) : TGs := fun vs σ H Q => ∃ v r, vs = v :: r ∧ t v σ H fun σ' H' => u r σ' H' Q
theorem pgs_nil : PGs X [] gNil := by
  intro pins s σ H vs us Q I r h
  obtain ⟨e, h⟩ := h
  subst e
  cases r
  exact assignInOrder_nil ⟨σ, H, I, h⟩
theorem pgs_cons {e : Expr} {es : List Expr} {t : TG} {u : TGs} (h1 : PG X e t) (h2 : PGs X es u)
    (hs : (assignEach (e :: es) X.env).map (·.2) = assign e X.env :: (assignEach es X.env).map (·.2) := by rfl) : PGs X (e :: es) (gCons t u) := by
  intro pins s σ H vs us Q I r h
  obtain ⟨v, vr, e1, h⟩ := h
  subst e1
  cases r with
  | cons r rr =>
    rw [hs]
    refine assignInOrder_cons (thn (h1 pins s σ H _ _ _ I r h) fun _ s1 ⟨σ1, H1, I1, q1⟩ => ?_)
    exact h2 pins s1 σ1 H1 _ _ Q I1 rr q1
def gTup (K : PySem.W.Frag) (n : Nat) (t : TGs) : TG := fun v σ H Q => ∃ a xs, v = .ref a ∧ SqT K H a xs ∧ xs.length = n ∧ t xs σ H Q
theorem pg_tup {es : List Expr} {k : Nat} {t : TGs} {n : Nat} (hc : X.calm = true) (h : PGs X es t)
    (hn : (assignEach es X.env).length = n := by rfl) (hst : (assignEach es X.env).findIdx? (·.1) = none := by rfl) : PG X (.Tuple es k pos) (gTup X.K n t) := by
  intro pins s σ H v u Q I r hw
  obtain ⟨a, xs, e1, hq, hl, hw⟩ := hw
  subst e1
  cases r
  obtain ⟨its, rv, ht, hz⟩ := I.tuple hq
  refine assign_Tuple_tuple (I.ok.hd hc) ht (by simp [hn, ← hl, rv.length]) hst fun h' hx => ?_
  have I1 : Inv X pins σ H { s with heap := h' } := I.kept (t' := s.toks) fun b o e => hx b o (Nat.ne_of_lt (Heap.lt_size e)) e
  exact h pins _ σ H xs _ Q I1 (by simpa using rv) hw
def gSub (to ti : TE) (t : TSet) : TG := fun v σ H Q => to σ H fun o H1 => ti σ H1 fun i H2 => t o i v H2 fun H3 => Q σ H3
theorem pg_sub {o i : Expr} {to ti : TE} {t : TSet} (ho : PE X o to) (hi : PE X i ti) (hs : PSet X t)
    (ha : ∀ v, assign (.Subscript o i pos) X.env v = (do
      let ov ← holding [v] (eval o X.env)
      let iv ← holding [v, ov] (eval i X.env)
      standAt pos
      holding [v, ov, iv] (setItem ov iv v)
      release [v, ov, iv] []) := by intro _; rfl) : PG X (.Subscript o i pos) (gSub to ti t) := by
  intro pins s σ H v u Q I r h
  rw [ha]
  refine wpAny_bind (wpAny_holding (thn (ho pins s σ H _ I h) fun ov s1 ⟨x, H1, I1, r1, q1⟩ => ?_))
  refine wpAny_bind (wpAny_holding (thn (hi pins s1 σ H1 _ I1 q1) fun iv s2 ⟨y, H2, I2, r2, q2⟩ => ?_))
  refine wpAny_bind (wpAny_standAt (wpAny_bind (wpAny_holding (thn (hs pins s2 σ H2 x y v ov iv u _ I2 r1 r2 r q2) fun _ s3 ⟨H3, I3, q3⟩ => ?_))))
  exact wpAny_release ⟨σ, H3, I3, q3⟩
def tAsg (te : TE) (g : TG) : TS := fun D σ H => te σ H fun x H1 => g x σ H1 D.nx
theorem ps_asg {tg e : Expr} {te : TE} {g : TG} (he : PE X e te) (hg : PG X tg g) (hs : swapsWithSole [tg] e pos.line X.env = pure false := by rfl) (hw : swappedStores [tg] e X.env = pure none := by rfl)
    (h1 : (assignEach [tg] X.env).map (·.2) = [assign tg X.env] := by rfl) : PS X (.Assign [tg] e pos) (tAsg te g) := by
  intro pins s σ H D I h
  refine wpAny_Assign_stores (thn (he pins s σ H _ I h) fun v s1 ⟨x, H1, I1, r1, q1⟩ => ?_) hs hw
  rw [h1]
  exact thn (hg pins s1 σ H1 x v _ I1 r1 q1) fun _ s2 q => q
theorem ps_set {i : Nat} {x : Str} {e : Expr} {te : TE} {pos' : Pos} (hN : X.N.Nodup) (hi : X.N[i]? = some x) (hx : Loc X.env.scope x) (he : PE X e te) (hs : swapsWith e (some (.Name x pos')) pos.line X.env = pure false := by rfl) (hf : X.fn x = true ∨ X.env.scope.names.lookup x = some .local := by first | exact .inl rfl | exact .inr rfl | assumption) :
    PS X (.Assign [.Name x pos'] e pos) (tAsg te (gName i)) := by
  intro pins s σ H D I h
  refine wpAny_Assign_Name (thn (he pins s σ H _ I h) fun v s1 ⟨y, H1, I1, r1, q1⟩ => ?_) hs
  exact store_ok I1 hN hi hx r1 (fun s2 I2 => ⟨_, H1, I2, q1⟩) hf
def tPar (i j : Nat) (ta : TA) : TS := fun D σ H => ta σ H fun vs H1 => ∃ v w, vs = [v, w] ∧ D.nx ((σ.set i (some v)).set j (some w)) H1
theorem ps_par {i j : Nat} {x y : Str} {a b : Expr} {ta : TA} {px py pt : Pos} {kt k2 pt2} (hc : X.calm = true) (hN : X.N.Nodup) (hi : X.N[i]? = some x) (hj : X.N[j]? = some y) (hij : i ≠ j)
    (hx : X.env.scope.names.lookup x = some .local) (hy : X.env.scope.names.lookup y = some .local) (ha : PA X [a, b] ta)
    (hw : swappedStores [.Tuple [.Name x px, .Name y py] kt pt] (.Tuple [a, b] k2 pt2) X.env = pure (some [x, y]))
    (hs : swapsWithSole [.Tuple [.Name x px, .Name y py] kt pt] (.Tuple [a, b] k2 pt2) pos.line X.env = pure false := by rfl) :
    PS X (.Assign [.Tuple [.Name x px, .Name y py] kt pt] (.Tuple [a, b] k2 pt2) pos) (tPar i j ta) := by
  intro pins s σ H D I h
  rw [exec_Assign_arm]
  refine wpAny_bind (wpAny_standAt ?_)
  rw [hs]
  refine wpAny_bind (wpAny_pure ?_)
  rw [if_neg (by decide)]
  refine wpAny_bind (Tuple_ (thn (ha _ pins s σ H _ I h) fun us s1 ⟨vs, H1, I1, r1, q1⟩ => ?_))
  obtain ⟨v, w, e1, q1⟩ := q1
  subst e1
  obtain ⟨u1, u2, rfl, rv, rw'⟩ : ∃ u1 u2, us = [u1, u2] ∧ RelV v u1 ∧ RelV w u2 := by
    cases r1 with
    | cons p q =>
      cases q with
      | cons p' q' =>
        cases q'
        exact ⟨_, _, rfl, p, p'⟩
  refine wpAny_newObj_type ?_ (by show 2 ≤ sizeLine; decide)
  have I2 : Inv X pins σ H1 { s1 with heap := s1.heap.push { cls := .type "tuple", data := .seq [u1, u2].toArray } } := I1.kept (t' := s1.toks) fun b o e => Heap.get?_push_of_some _ e
  rw [hw]
  refine wpAny_bind (wpAny_pure ?_)
  show wpAny (model X.prog X.w) X.A (do rule "assign.swapped-stores"; let items ← unpackItems (.ref s1.heap.objs.size) 2 none; assignInOrder [fun v => bindName X.env y v, fun v => bindName X.env x v] items.reverse; pure Flow.next) _ _ _
  refine wpAny_bind (wpAny_rule (wpAny_bind (unpackItems_tuple (items := #[u1, u2]) (I.ok.hd hc) (IsTup.new s1.heap _) fun h' hx' => ?_)))
  have I3 := I2.kept (h' := h') (t' := s1.toks) fun b o e => hx' b o (Nat.ne_of_lt (Heap.lt_size e)) e
  show wpAny _ _ (assignInOrder [fun v => bindName X.env y v, fun v => bindName X.env x v] [u2, u1] >>= fun _ => pure Flow.next) _ _ _
  refine wpAny_bind (assignInOrder_cons (wpAny_bindName (store_ok I3 hN hj (.inl hy) rw' (fun s2 I4 => ?_) (.inr hy))))
  refine assignInOrder_cons (wpAny_bindName (store_ok I4 hN hi (.inl hx) rv (fun s3 I5 => assignInOrder_nil (wpAny_pure ?_)) (.inr hx)))
  rw [List.set_comm _ _ (Ne.symm hij)] at I5
  exact ⟨_, H1, I5, q1⟩
end
section
variable {X : Cx} {pos : Pos}
def tWhile (c : TT) (tb : TS) : TS := fun D σ H => ∃ W : Nat → St → Hp → Prop, (∃ m, W m σ H) ∧ ∀ m σ H, W m σ H →
  c σ H fun b H1 => if b = true then ∃ N : St → Hp → Prop, (∀ σ' H', N σ' H' → ∃ m', m' < m ∧ W m' σ' H') ∧ tb { D with nx := N, ct := N, bk := D.nx } σ H1 else D.nx σ H1
theorem ps_while {c : Expr} {body : List Stmt} {tc : TT} {tb : TS} (hp : PassesOwn (model X.prog X.w) X.A X.env X.xe) (hc : PT X c tc) (hb : PSs X body tb) : PS X (.While c body [] pos) (tWhile tc tb) := by
  intro pins s σ H D I h
  obtain ⟨W, ⟨m0, w0⟩, turn⟩ := h
  refine wpAny_While (codeAny_whileLoop (fun n s' => ∃ σ' H', Inv X pins σ' H' s' ∧ W n σ' H') ?_ m0 ⟨σ, H, I, w0⟩)
  rintro n s1 ⟨σ1, H1, I1, w1⟩
  refine wpAny_passesOwn hp (thn (hc pins s1 σ1 H1 _ I1 (turn n σ1 H1 w1)) fun b s2 ⟨H2, I2, q2⟩ => ?_)
  cases b with
  | true =>
    obtain ⟨N, hN, q2⟩ := q2
    rw [if_pos rfl]
    refine wpAny_passesOwn hp (thn (hb pins s2 σ1 H2 _ I2 q2) fun f s3 q3 => ?_)
    cases f with
    | next =>
      obtain ⟨σ3, H3, I3, n3⟩ := q3
      obtain ⟨m', hm, w3⟩ := hN σ3 H3 n3
      exact ⟨m', hm, σ3, H3, I3, w3⟩
    | cont =>
      obtain ⟨σ3, H3, I3, n3⟩ := q3
      obtain ⟨m', hm, w3⟩ := hN σ3 H3 n3
      exact ⟨m', hm, σ3, H3, I3, w3⟩
    | brk => exact q3
    | ret v => exact q3
  | false =>
    rw [if_neg Bool.false_ne_true]
    exact wpAny_execs_nil ⟨σ1, H2, I2, q2⟩
end
structure It where
  go : Nat → Hp → Prop
  yld : Nat → Hp → V → Hp → Prop
  stop : Nat → Hp → Prop
def FpOk (X : Cx) (pins : List (Addr × Obj)) (H : Hp) (b : Addr) : Prop :=
  H b = none ∧ b ≠ X.env.locals ∧ b ∉ X.fs ∧ (b ∈ X.ex ∨ X.s_0.heap.objs.size ≤ b) ∧ (∀ x c, X.env.cells.lookup x = some c → c ≠ b) ∧ ∀ p ∈ X.pn ++ pins, p.1 ≠ b
theorem Inv.fpOk {X : Cx} {pins : List (Addr × Obj)} {σ : St} {H H' : Hp} {s : Shared} {b : Addr} (I : Inv X pins σ H s) (hb : s.heap.objs.size ≤ b) (hn : H' b = none) : FpOk X pins H' b := by
  refine ⟨hn, Nat.ne_of_gt (Nat.lt_of_lt_of_le I.lt hb), I.nofs hb, .inr (Nat.le_trans I.sz hb), fun x c e z => ?_, fun p hp z => ?_⟩
  · obtain ⟨v, q⟩ := I.cell x c e
    exact absurd (Nat.lt_of_lt_of_le q.lt (by rw [z]; exact hb)) (Nat.lt_irrefl _)
  · exact absurd (Nat.lt_of_lt_of_le (Heap.lt_size (I.pin p hp).1) (by rw [z]; exact hb)) (Nat.lt_irrefl _)
structure Turn (P : Program) (w : World) (K : PySem.W.Frag) (tg : Expr) (J : It) (fp : List Addr) (it : Addr) (tn : Nat → Heap → Prop) : Prop where
  mem : it ∈ fp
  obj : ∀ i h, tn i h → ∀ b ∈ fp, ∃ o, h.get? b = some o ∧ ∀ v, o.data ≠ .cell v
  keep : ∀ i h h', tn i h → (∀ b ∈ fp, ∀ o, h.get? b = some o → h'.get? b = some o) → tn i h'
  item : ∀ (X : Cx), X.prog = P → X.w = w → X.K = K → X.calm = true → ∀ (i : Nat) (pins : List (Addr × Obj)) (s : Shared) (σ : St) (H : Hp) (E : Value → Shared → Prop), Inv X pins σ H s → (∀ b ∈ fp, FpOk X pins H b) → tn i s.heap → J.go i H →
    wpAny (model P w) X.A (pyNext (.ref it)) (fun r s1 => ∃ u, r = some u ∧
      wpAny (model P w) X.A (letOwnedTupleGo tg (.ref it) u) (fun _ s2 => ∃ x H', Inv X pins σ H' s2 ∧ RelV x u ∧ J.yld i H x H' ∧ tn (i + 1) s2.heap ∧ ∀ b ∈ fp, H' b = none) E s1) E s
  done : ∀ (X : Cx), X.prog = P → X.w = w → X.K = K → X.calm = true → ∀ (i : Nat) (pins : List (Addr × Obj)) (s : Shared) (σ : St) (H : Hp) (E : Value → Shared → Prop), Inv X pins σ H s → (∀ b ∈ fp, FpOk X pins H b) → tn i s.heap → J.stop i H →
    wpAny (model P w) X.A (pyNext (.ref it)) (fun r s1 => r = none ∧ Inv X pins σ H s1) E s
  self : ∀ (A : Around) (i : Nat) (s : Shared) (Q : Value → Shared → Prop) (E : Value → Shared → Prop), tn i s.heap → Q (.ref it) s → wpAny (model P w) A (pyIter (.ref it)) Q E s
abbrev TI := St → Hp → (It → Hp → Prop) → Prop
def PIE (X : Cx) (pins : List (Addr × Obj)) (σ : St) (tg : Expr) (R : It → Hp → Prop) (itv : Value) (s2 : Shared) : Prop :=
  ∃ (it : Addr) (fp : List Addr) (tn : Nat → Heap → Prop) (J : It) (H' : Hp), itv = .ref it ∧ Inv X pins σ H' s2 ∧ Turn X.prog X.w X.K tg J fp it tn ∧ tn 0 s2.heap ∧ (∀ b ∈ fp, FpOk X pins H' b) ∧ R J H'
def PI (X : Cx) (tg iter : Expr) (wi : TI) : Prop :=
  ∀ (pins : List (Addr × Obj)) (s : Shared) (σ : St) (H : Hp) (R : It → Hp → Prop), Inv X pins σ H s → wi σ H R →
    wpAny (model X.prog X.w) X.A (eval iter X.env) (fun v s1 => wpAny (model X.prog X.w) X.A (pyIter v) (PIE X pins σ tg R) X.xe s1) X.xe s
theorem go_of {M : Model} {A : Around} {E : Value → Shared → Prop} {s : Shared} {tg : Expr} {it : Addr} {u : Value} {o : Obj} {n : String} {vs : Array Value} {Q : Unit → Shared → Prop} (ho : s.heap.get? it = some o) (hc : o.cls = .type n) (hd : o.data = .fields vs)
    (hn : ["enumerate", "zip", "dict_itemiterator", "dict_reverseitemiterator", "odict_iterator", "itertools.zip_longest", "itertools.pairwise"].contains n = false) (hQ : Q () s) : wpAny M A (letOwnedTupleGo tg (.ref it) u) Q E s := by
  unfold letOwnedTupleGo
  cases tg <;> first
    | exact wpAny_pure hQ
    | (cases u <;> first
        | exact wpAny_pure hQ
        | (refine wpAny_bind (wpAny_load ho ?_)
           rw [hc, hd]
           show wpAny M A (if (["enumerate", "zip", "dict_itemiterator", "dict_reverseitemiterator", "odict_iterator", "itertools.zip_longest", "itertools.pairwise"].contains n && vs[0]? == some (rawInt _)) = true then _ else _) Q E s
           rw [if_neg (by intro h; rw [hn, Bool.false_and] at h; cases h)]
           exact wpAny_pure hQ))
def Itl (K : PySem.W.Frag) (a : Addr) : It :=
  ⟨fun i H => ∃ xs x, SqL K H a xs ∧ xs[i]? = some x, fun i H x H' => H' = H ∧ ∀ xs, SqL K H a xs → xs[i]? = some x, fun i H => ∃ xs, SqL K H a xs ∧ xs.length ≤ i⟩
def Itt (K : PySem.W.Frag) (a : Addr) : It :=
  ⟨fun i H => ∃ xs x, SqT K H a xs ∧ xs[i]? = some x, fun i H x H' => H' = H ∧ ∀ xs, SqT K H a xs → xs[i]? = some x, fun i H => ∃ xs, SqT K H a xs ∧ xs.length ≤ i⟩
def Itr (lo : Int) (n : Nat) : It := ⟨fun i _ => i < n, fun i H x H' => H' = H ∧ x = .int (lo + i), fun i _ => n ≤ i⟩
theorem turn_list {P : Program} {w : World} {K : PySem.W.Frag} {tg : Expr} (a it : Addr) : Turn P w K tg (Itl K a) [it] it (fun i h => h.IsListIter it a i) where
  mem := by simp
  obj := fun i h st b hb => by
    have e : b = it := by simpa using hb
    subst e
    obtain ⟨o, e, c, d⟩ := st
    exact ⟨o, e, fun v z => by rw [d] at z; cases z⟩
  keep := fun i h h' st k => st.at fun o e => k it (by simp) o e
  item := by
    intro X hP hw hK hc i pins s σ H E I hf st hg
    subst hP hw hK
    obtain ⟨xs, x, hq, hx⟩ := hg
    obtain ⟨its, rv, p, hz⟩ := I.list hq
    obtain ⟨u, hu, ru⟩ := rv.get hx
    obtain ⟨f0, f1, f2, f3, f4, f5⟩ := hf it (by simp)
    refine wpAny_pyNext_list_item st p.isList (x := u) (by simpa using hu) fun h' st' sb => ?_
    have I1 : Inv X pins σ H { s with heap := h' } := I.turned (t' := s.toks) (fun b o hb e => (sb.2 b hb).trans e) f0 f1 f3 f4 f5
    obtain ⟨o, e, c, d⟩ := id st'
    exact ⟨u, rfl, go_of (s := { s with heap := h' }) e c d (by decide) ⟨x, H, I1, ru, ⟨rfl, fun ys hy => by rw [I.list_inj hy hq]; exact hx⟩, st', fun b hb => (hf b hb).1⟩⟩
  done := by
    intro X hP hw hK hc i pins s σ H E I hf st hg
    subst hP hw hK
    obtain ⟨xs, hq, hx⟩ := hg
    obtain ⟨its, rv, p, hz⟩ := I.list hq
    obtain ⟨f0, f1, f2, f3, f4, f5⟩ := hf it (by simp)
    have hl := rv.length
    exact wpAny_pyNext_list_end (I.ok.hd hc) st p.isList (by simp; omega) fun h' eb => ⟨rfl, I.turned (t' := s.toks) (fun b o hb e => eb b o hb e) f0 f1 f3 f4 f5⟩
  self := fun _ _ _ _ _ st h => wpAny_pyIter_listiter st h
theorem turn_tuple {P : Program} {w : World} {K : PySem.W.Frag} {tg : Expr} (a it : Addr) : Turn P w K tg (Itt K a) [it] it (fun i h => h.IsTupleIter it a i) where
  mem := by simp
  obj := fun i h st b hb => by
    have e : b = it := by simpa using hb
    subst e
    obtain ⟨o, e, c, d⟩ := st
    exact ⟨o, e, fun v z => by rw [d] at z; cases z⟩
  keep := fun i h h' st k => st.at fun o e => k it (by simp) o e
  item := by
    intro X hP hw hK hc i pins s σ H E I hf st hg
    subst hP hw hK
    obtain ⟨xs, x, hq, hx⟩ := hg
    obtain ⟨its, rv, p, hz⟩ := I.tuple hq
    obtain ⟨u, hu, ru⟩ := rv.get hx
    obtain ⟨f0, f1, f2, f3, f4, f5⟩ := hf it (by simp)
    refine wpAny_pyNext_tuple_item st (show s.heap.IsTuple a its.toArray from p) (x := u) (by simpa using hu) fun h' st' sb => ?_
    have I1 : Inv X pins σ H { s with heap := h' } := I.turned (t' := s.toks) (fun b o hb e => (sb.2 b hb).trans e) f0 f1 f3 f4 f5
    obtain ⟨o, e, c, d⟩ := id st'
    exact ⟨u, rfl, go_of (s := { s with heap := h' }) e c d (by decide) ⟨x, H, I1, ru, ⟨rfl, fun ys hy => by rw [I.tuple_inj hy hq]; exact hx⟩, st', fun b hb => (hf b hb).1⟩⟩
  done := by
    intro X hP hw hK hc i pins s σ H E I hf st hg
    subst hP hw hK
    obtain ⟨xs, hq, hx⟩ := hg
    obtain ⟨its, rv, p, hz⟩ := I.tuple hq
    obtain ⟨f0, f1, f2, f3, f4, f5⟩ := hf it (by simp)
    have hl := rv.length
    exact wpAny_pyNext_tuple_end (I.ok.hd hc) st (show s.heap.IsTuple a its.toArray from p) (by simp; omega) fun h' eb => ⟨rfl, I.turned (t' := s.toks) (fun b o hb e => eb b o hb e) f0 f1 f3 f4 f5⟩
  self := fun _ _ _ _ _ st h => wpAny_pyIter_tupleiter st h
theorem turn_range {P : Program} {w : World} {K : PySem.W.Frag} {tg : Expr} (it : Addr) (lo : Int) (n : Nat) : Turn P w K tg (Itr lo n) [it] it (fun i h => IsRangeIter h it (lo + (i : Nat) * 1) ((n : Int) - (i : Nat)) 1) where
  mem := by simp
  obj := fun i h st b hb => by
    have e : b = it := by simpa using hb
    subst e
    exact ⟨_, st, fun v z => by
      have z' : Data.fields _ = Data.cell v := z
      cases z'⟩
  keep := fun i h h' st k => k it (by simp) _ st
  item := by
    intro X hP hw hK hc i pins s σ H E I hf st hg
    subst hP hw hK
    obtain ⟨f0, f1, f2, f3, f4, f5⟩ := hf it (by simp)
    have W := Walks.range (prog := X.prog) (w := X.w) (I.ok.hd hc) it lo 1 n
    refine W.item i s _ _ hg st fun v h' tk hv st' kk => ?_
    obtain ⟨t, rfl⟩ := hv
    have I1 : Inv X pins σ H { s with heap := h', toks := tk } := I.turned (fun b o hb e => kk b o (by simpa using hb) e) f0 f1 f3 f4 f5
    refine ⟨_, rfl, go_of (s := { s with heap := h', toks := tk }) (n := "range_iterator") st' rfl rfl (by decide) ⟨.int (lo + i), H, I1, ⟨t, ?_⟩, ⟨rfl, rfl⟩, st', fun b hb => (hf b hb).1⟩⟩
    rw [Int.mul_one]
  done := by
    intro X hP hw hK hc i pins s σ H E I hf st hg
    subst hP hw hK
    obtain ⟨f0, f1, f2, f3, f4, f5⟩ := hf it (by simp)
    exact wpAny_pyNext_range_end (I.ok.hd hc) st (by have : n ≤ i := hg; omega) fun h' eb => ⟨rfl, I.turned (t' := s.toks) (fun b o hb e => eb b o hb e) f0 f1 f3 f4 f5⟩
  self := fun _ _ _ _ _ st h => wpAny_pyIter_rangeiter st h
end L2
namespace L2
open PySem PySem.Spec PyProof.Rows
section
variable {X : Cx} {tg : Expr}
def iList (K : PySem.W.Frag) (tl : TE) : TI := fun σ H R => tl σ H fun x H1 => ∃ a, x = .ref a ∧ (∃ xs, SqL K H1 a xs) ∧ R (Itl K a) H1
def iTup (K : PySem.W.Frag) (tl : TE) : TI := fun σ H R => tl σ H fun x H1 => ∃ a, x = .ref a ∧ (∃ xs, SqT K H1 a xs) ∧ R (Itt K a) H1
theorem pi_list {l : Expr} {tl : TE} (hl : PE X l tl) : PI X tg l (iList X.K tl) := by
  intro pins s σ H R I h
  refine thn (hl pins s σ H _ I h) fun v s1 ⟨x, H1, I1, r1, q1⟩ => ?_
  obtain ⟨a, e, ⟨xs, hq⟩, q⟩ := q1
  subst e
  cases r1
  obtain ⟨its, rv, p, hz⟩ := I1.list hq
  refine wpAny_pyIter_list p.isList ?_
  refine ⟨s1.heap.objs.size, [s1.heap.objs.size], _, _, H1, rfl, I1.kept (t' := s1.toks) fun b o e => Heap.get?_push_of_some _ e, turn_list a _, ⟨_, Heap.get?_push_size _ rfl, rfl, rfl⟩, fun b hb => ?_, q⟩
  have e : b = s1.heap.objs.size := by simpa using hb
  subst e
  exact I1.fpOk (Nat.le_refl _) (I1.hok.fresh (Nat.le_refl _))
theorem pi_tup {l : Expr} {tl : TE} (hl : PE X l tl) : PI X tg l (iTup X.K tl) := by
  intro pins s σ H R I h
  refine thn (hl pins s σ H _ I h) fun v s1 ⟨x, H1, I1, r1, q1⟩ => ?_
  obtain ⟨a, e, ⟨xs, hq⟩, q⟩ := q1
  subst e
  cases r1
  obtain ⟨its, rv, p, hz⟩ := I1.tuple hq
  refine wpAny_pyIter_tuple (show s1.heap.IsTuple a its.toArray from p) ?_
  refine ⟨s1.heap.objs.size, [s1.heap.objs.size], _, _, H1, rfl, I1.kept (t' := s1.toks) fun b o e => Heap.get?_push_of_some _ e, turn_tuple a _, ⟨_, Heap.get?_push_size _ rfl, rfl, rfl⟩, fun b hb => ?_, q⟩
  have e : b = s1.heap.objs.size := by simpa using hb
  subst e
  exact I1.fpOk (Nat.le_refl _) (I1.hok.fresh (Nat.le_refl _))
theorem range_it {pins : List (Addr × Obj)} {σ : St} {H : Hp} {s : Shared} {R : It → Hp → Prop} {E : Value → Shared → Prop} {lo hi : Int} {t u v : Tok} {tk : Nat} (I : Inv X pins σ H s) (h1 : -(2 ^ 62) ≤ lo) (h2 : lo < 2 ^ 62) (h3 : -(2 ^ 62) ≤ hi) (h4 : hi < 2 ^ 62)
    (q : R (Itr lo (hi - lo).toNat) H) : wpAny (model X.prog X.w) X.A (pyIter (.ref s.heap.objs.size)) (PIE X pins σ tg R) E { s with heap := s.heap.push { cls := .type "range", data := .fields #[.int lo t, .int hi u, .int 1 v] }, toks := tk } := by
  refine wpAny_pyIter_range (IsRange.new ..) (small_one h1 h2 h3 h4) ?_
  have I1 : Inv X pins σ H { s with heap := s.heap.push { cls := .type "range", data := .fields #[.int lo t, .int hi u, .int 1 v] }, toks := tk } := I.kept fun b o e => Heap.get?_push_of_some _ e
  refine ⟨(s.heap.push { cls := .type "range", data := .fields #[.int lo t, .int hi u, .int 1 v] }).objs.size, [(s.heap.push { cls := .type "range", data := .fields #[.int lo t, .int hi u, .int 1 v] }).objs.size], _, _, H, rfl,
    I1.kept (t' := tk) fun b o e => Heap.get?_push_of_some _ e, turn_range _ lo (hi - lo).toNat, ?_, fun b hb => ?_, q⟩
  · have e1 : lo + ((0 : Nat) : Int) * 1 = lo := by simp
    have e2 : (((hi - lo).toNat : Nat) : Int) - ((0 : Nat) : Int) = Builtin.Range.rangeSize lo hi 1 := by rw [rangeSize_one]; split <;> omega
    show IsRangeIter _ _ (lo + ((0 : Nat) : Int) * 1) ((((hi - lo).toNat : Nat) : Int) - ((0 : Nat) : Int)) 1
    rw [e1, e2]
    exact Heap.get?_push_size _ rfl
  · have e : b = (s.heap.push { cls := .type "range", data := .fields #[.int lo t, .int hi u, .int 1 v] }).objs.size := by simpa using hb
    subst e
    exact I1.fpOk (Nat.le_refl _) (I1.hok.fresh (Nat.le_refl _))
def iRng1 (ta : TA) : TI := fun σ H R => ta σ H fun vs H1 => ∃ j : Int, vs = [.int j] ∧ -(2 ^ 62) ≤ j ∧ j < 2 ^ 62 ∧ R (Itr 0 j.toNat) H1
def iRng2 (ta : TA) : TI := fun σ H R => ta σ H fun vs H1 => ∃ i j : Int, vs = [.int i, .int j] ∧ (-(2 ^ 62) ≤ i ∧ i < 2 ^ 62 ∧ -(2 ^ 62) ≤ j ∧ j < 2 ^ 62) ∧ R (Itr i (j - i).toNat) H1
theorem pi_range1 {a : Expr} {ta : TA} {p pos : Pos} (hg : Gl X "range") (hm : X.mg "range" = none) (ha : PA X [a] ta) (hs : starEach [a] X.env = [(false, eval a X.env)] := by rfl) : PI X tg (.Call (.Name "range" p) [a] [] pos) (iRng1 ta) := by
  intro pins s σ H R I h
  refine Call_ (ld_blt I hg hm boot_range (PyProof.Rows.callWith_type1 (thn (ha pos pins s σ H _ I h) fun us s1 ⟨vs, H1, I1, r1, q1⟩ => ?_) hs rfl))
  obtain ⟨j, e, q1, q2, q⟩ := q1
  subst e
  cases r1 with
  | cons r rr =>
    cases rr
    obtain ⟨t, rfl⟩ := r
    exact call_range_1 (range_it I1 (by omega) (by omega) q1 q2 (by simpa using q))
theorem pi_range2 {a b : Expr} {ta : TA} {p pos : Pos} (hg : Gl X "range") (hm : X.mg "range" = none) (ha : PA X [a, b] ta) (hs : starEach [a, b] X.env = [(false, eval a X.env), (false, eval b X.env)] := by rfl) (hs2 : starEach [b] X.env = [(false, eval b X.env)] := by rfl) :
    PI X tg (.Call (.Name "range" p) [a, b] [] pos) (iRng2 ta) := by
  intro pins s σ H R I h
  refine Call_ (ld_blt I hg hm boot_range (PyProof.Rows.callWith_type1 (thn (ha pos pins s σ H _ I h) fun us s1 ⟨vs, H1, I1, r1, q1⟩ => ?_) (by rw [hs, hs2]) (by rw [hs2]; rfl)))
  obtain ⟨i, j, e, ⟨q1, q2, q3, q4⟩, q⟩ := q1
  subst e
  cases r1 with
  | cons r rr =>
    cases rr with
    | cons r' rr =>
      cases rr
      obtain ⟨t, rfl⟩ := r
      obtain ⟨t', rfl⟩ := r'
      exact call_range_2 (range_it I1 q1 q2 q3 q4 q)
def tFor (wi : TI) (g : TG) (tb : TS) : TS := fun D σ H => wi σ H fun J H1 => ∃ W : Nat → Nat → St → Hp → Prop, (∃ m, W 0 m σ H1) ∧ ∀ i m σ H, W i m σ H →
  (J.stop i H ∧ D.nx σ H) ∨ (J.go i H ∧ ∃ N : St → Hp → Prop, (∀ σ' H', N σ' H' → ∃ m', m' < m ∧ W (i + 1) m' σ' H') ∧ ∀ x H', J.yld i H x H' → g x σ H' fun σ2 H2 => tb { D with nx := N, ct := N, bk := D.nx } σ2 H2)
def pinsAt (fp : List Addr) (h : Heap) : List (Addr × Obj) := fp.filterMap fun b => (h.get? b).map fun o => (b, o)
theorem mem_pinsAt {fp : List Addr} {h : Heap} {b : Addr} {o : Obj} (hb : b ∈ fp) (e : h.get? b = some o) : (b, o) ∈ pinsAt fp h := List.mem_filterMap.mpr ⟨b, hb, by rw [e]; rfl⟩
theorem of_pinsAt {fp : List Addr} {h : Heap} {p : Addr × Obj} (hp : p ∈ pinsAt fp h) : p.1 ∈ fp ∧ h.get? p.1 = some p.2 := by
  obtain ⟨b, hb, e⟩ := List.mem_filterMap.mp hp
  cases q : h.get? b with
  | none => rw [q] at e; cases e
  | some o =>
    rw [q] at e
    have e' : (b, o) = p := Option.some.inj e
    subst e'
    exact ⟨hb, q⟩
theorem Inv.pinned {pins : List (Addr × Obj)} {σ : St} {H : Hp} {s : Shared} {fp : List Addr} (I : Inv X pins σ H s) (hf : ∀ b ∈ fp, FpOk X pins H b) (ho : ∀ b ∈ fp, ∃ o, s.heap.get? b = some o ∧ ∀ v, o.data ≠ .cell v) : Inv X (pins ++ pinsAt fp s.heap) σ H s :=
  I.pins_of fun p hp => (List.mem_append.mp hp).elim (fun z => I.pin p (List.mem_append_right _ z)) fun z => by
    obtain ⟨hb, e⟩ := of_pinsAt z
    obtain ⟨f0, f1, f2, _⟩ := hf p.1 hb
    obtain ⟨o, e', d⟩ := ho p.1 hb
    rw [e] at e'; cases e'
    exact ⟨e, f0, f1, f2, d⟩
theorem Inv.unpinned {pins pl : List (Addr × Obj)} {σ : St} {H : Hp} {s : Shared} (I : Inv X (pins ++ pl) σ H s) : Inv X pins σ H s := I.pins_of fun p hp => I.pin p (List.mem_append_right _ (List.mem_append_left _ hp))
theorem ps_for {iter : Expr} {body : List Stmt} {wi : TI} {g : TG} {tb : TS} {pos : Pos} (hp : PassesOwn (model X.prog X.w) X.A X.env X.xe) (hc : X.calm = true) (hi : PI X tg iter wi) (hg : PG X tg g) (hb : PSs X body tb)
    (hs : ∀ x, foldedSetIterable iter X.env x = pure x := by intro _; rfl) : PS X (.For tg iter body [] pos) (tFor wi g tb) := by
  intro pins s σ H D I h
  refine wpAny_For (thn (hi pins s σ H _ I h) fun v s1 h1 => thn h1 fun itv s2 h2 => ?_) hs
  obtain ⟨it, fp, tn, J, H2, e, I2, T, st2, f2, W, ⟨m0, w0⟩, turn⟩ := h2
  subst e
  -- what stays true of the iterator's objects through the loop
  have stat : ∀ {H' : Hp}, (∀ b ∈ fp, H' b = none) → ∀ b ∈ fp, FpOk X pins H' b := fun hn b hb => ⟨hn b hb, (f2 b hb).2⟩
  refine codeAny_forLoop_any (fun n s' => ∃ i σ' H', Inv X pins σ' H' s' ∧ tn i s'.heap ∧ (∀ b ∈ fp, H' b = none) ∧ W i n σ' H') ?_ m0 ⟨0, σ, H2, I2, st2, fun b hb => (f2 b hb).1, w0⟩
  rintro n s3 ⟨i, σ3, H3, I3, st3, fr3, w3⟩
  rcases turn i n σ3 H3 w3 with ⟨stop, qn⟩ | ⟨go, N, hN, step⟩
  · refine wpAny_passesOwn hp (thn (T.done X rfl rfl rfl hc i pins s3 σ3 H3 X.xe I3 (stat fr3) st3 stop) fun r s4 ⟨hr, I4⟩ => ?_)
    subst hr
    exact wpAny_execs_nil ⟨σ3, H3, I4, qn⟩
  · refine wpAny_passesOwn hp (thn (T.item X rfl rfl rfl hc i pins s3 σ3 H3 X.xe I3 (stat fr3) st3 go) fun r s4 ⟨u, hr, h4⟩ => ?_)
    subst hr
    refine wpAny_passesOwn hp (thn h4 fun _ s5 ⟨x, H5, I5, r5, y5, st5, fr5⟩ => ?_)
    have I5' := I5.pinned (stat fr5) (T.obj _ _ st5)
    refine wpAny_passesOwn hp (thn (hg _ s5 σ3 H5 x u _ I5' r5 (step x H5 y5)) fun _ s6 ⟨σ6, H6, I6, q6⟩ => ?_)
    refine wpAny_passesOwn hp (thn (hb _ s6 σ6 H6 _ I6 q6) fun f s7 q7 => ?_)
    have again : ∀ {σ7 : St} {H7 : Hp}, Inv X (pins ++ pinsAt fp s5.heap) σ7 H7 s7 → N σ7 H7 → ∃ m, m < n ∧ ∃ i σ' H', Inv X pins σ' H' s7 ∧ tn i s7.heap ∧ (∀ b ∈ fp, H' b = none) ∧ W i m σ' H' := fun {σ7 H7} I7 n7 => by
      obtain ⟨m', hm, w7⟩ := hN σ7 H7 n7
      refine ⟨m', hm, i + 1, σ7, H7, I7.unpinned, T.keep _ _ _ st5 fun b hb o e => (I7.pin (b, o) (List.mem_append_right _ (List.mem_append_right _ (mem_pinsAt hb e)))).1, fun b hb => ?_, w7⟩
      obtain ⟨o, e, d⟩ := T.obj _ _ st5 b hb
      exact (I7.pin (b, o) (List.mem_append_right _ (List.mem_append_right _ (mem_pinsAt hb e)))).2.1
    cases f with
    | next => obtain ⟨σ7, H7, I7, n7⟩ := q7; exact again I7 n7
    | cont => obtain ⟨σ7, H7, I7, n7⟩ := q7; exact again I7 n7
    | brk => obtain ⟨σ7, H7, I7, q7⟩ := q7; exact ⟨σ7, H7, I7.unpinned, q7⟩
    | ret v => obtain ⟨x7, σ7, H7, I7, r7, q7⟩ := q7; exact ⟨x7, σ7, H7, I7.unpinned, r7, q7⟩
end
theorem for_list {K : PySem.W.Frag} {a : Addr} {xs : List V} {g : TG} {tb : TS} {D : Ends} {σ : St} {H : Hp} (Pv : Nat → St → Hp → Prop) (h0 : Pv 0 σ H) (hl : ∀ i σ H, i ≤ xs.length → Pv i σ H → SqL K H a xs)
    (hs : ∀ i x σ H, xs[i]? = some x → Pv i σ H → g x σ H fun σ2 H2 => tb { D with nx := Pv (i + 1), ct := Pv (i + 1), bk := D.nx } σ2 H2) (hd : ∀ σ H, Pv xs.length σ H → D.nx σ H) :
    ∃ W : Nat → Nat → St → Hp → Prop, (∃ m, W 0 m σ H) ∧ ∀ i m σ H, W i m σ H →
      ((Itl K a).stop i H ∧ D.nx σ H) ∨ ((Itl K a).go i H ∧ ∃ N : St → Hp → Prop, (∀ σ' H', N σ' H' → ∃ m', m' < m ∧ W (i + 1) m' σ' H') ∧ ∀ x H', (Itl K a).yld i H x H' → g x σ H' fun σ2 H2 => tb { D with nx := N, ct := N, bk := D.nx } σ2 H2) := by
  refine ⟨fun i m σ H => m = xs.length - i ∧ i ≤ xs.length ∧ Pv i σ H, ⟨xs.length, by simp, Nat.zero_le _, h0⟩, ?_⟩
  rintro i m σ H ⟨rfl, hi, p⟩
  have q := hl i σ H hi p
  by_cases hlt : i < xs.length
  · refine .inr ⟨⟨xs, xs[i], q, by simp [hlt]⟩, Pv (i + 1), fun σ' H' p' => ⟨xs.length - (i + 1), by omega, rfl, hlt, p'⟩, fun x H' y => ?_⟩
    obtain ⟨e, y⟩ := y
    subst e
    exact hs i x σ _ (y xs q) p
  · have e : i = xs.length := by omega
    subst e
    exact .inl ⟨⟨xs, q, Nat.le_refl _⟩, hd σ H p⟩
theorem for_range {lo : Int} {n : Nat} {g : TG} {tb : TS} {D : Ends} {σ : St} {H : Hp} (Pv : Nat → St → Hp → Prop) (h0 : Pv 0 σ H)
    (hs : ∀ i σ H, i < n → Pv i σ H → g (.int (lo + i)) σ H fun σ2 H2 => tb { D with nx := Pv (i + 1), ct := Pv (i + 1), bk := D.nx } σ2 H2) (hd : ∀ σ H, Pv n σ H → D.nx σ H) :
    ∃ W : Nat → Nat → St → Hp → Prop, (∃ m, W 0 m σ H) ∧ ∀ i m σ H, W i m σ H →
      ((Itr lo n).stop i H ∧ D.nx σ H) ∨ ((Itr lo n).go i H ∧ ∃ N : St → Hp → Prop, (∀ σ' H', N σ' H' → ∃ m', m' < m ∧ W (i + 1) m' σ' H') ∧ ∀ x H', (Itr lo n).yld i H x H' → g x σ H' fun σ2 H2 => tb { D with nx := N, ct := N, bk := D.nx } σ2 H2) := by
  refine ⟨fun i m σ H => m = n - i ∧ i ≤ n ∧ Pv i σ H, ⟨n, by simp, Nat.zero_le _, h0⟩, ?_⟩
  rintro i m σ H ⟨rfl, hi, p⟩
  by_cases hlt : i < n
  · refine .inr ⟨hlt, Pv (i + 1), fun σ' H' p' => ⟨n - (i + 1), by omega, rfl, hlt, p'⟩, fun x H' y => ?_⟩
    obtain ⟨e, y⟩ := y
    subst e y
    exact hs i σ _ hlt p
  · have e : i = n := by omega
    subst e
    exact .inl ⟨Nat.le_refl _, hd σ H p⟩
end L2
namespace L2
open PySem PySem.Spec PyProof.Rows
abbrev R2 := V → V → Hp → VK → Prop
def OpR (X : Cx) (f : Value → Value → Sem Value) (r : R2) : Prop :=
  ∀ (pins : List (Addr × Obj)) (s : Shared) (σ : St) (H : Hp) (x y : V) (v u : Value) (Q : VK), Inv X pins σ H s → RelV x v → RelV y u → r x y H Q →
    wpAny (model X.prog X.w) X.A (f v u) (EP X pins σ Q) X.xe s
def CallR (X : Cx) (f : Value) (r : List V → Hp → VK → Prop) : Prop :=
  ∀ (pins : List (Addr × Obj)) (s : Shared) (σ : St) (H : Hp) (xs : List V) (us : List Value) (Q : VK), Inv X pins σ H s → Vals xs us → r xs H Q →
    wpAny (model X.prog X.w) X.A (call f us) (EP X pins σ Q) X.xe s
def tOp (r : R2) (ta tb : TE) : TE := fun σ H Q => ta σ H fun x H1 => tb σ H1 fun y H2 => r x y H2 Q
def rI (C : Int → Int → Prop) (g : Int → Int → V) : R2 := fun x y H Q => ∃ i j, x = .int i ∧ y = .int j ∧ C i j ∧ Q (g i j) H
def rI0 (g : Int → Int → V) : R2 := fun x y H Q => ∃ i j, x = .int i ∧ y = .int j ∧ Q (g i j) H
section
variable {X : Cx} {a b c : Expr} {ta tb tc : TE} {pos : Pos}
theorem binT (ha : PE X a ta) (hb : PE X b tb) {pins : List (Addr × Obj)} {s : Shared} {σ : St} {H : Hp} {R : V → V → Hp → Prop} (I : Inv X pins σ H s)
    (h : ta σ H fun x H1 => tb σ H1 fun y H2 => R x y H2) {Q : Value → Shared → Prop} {f : Value → Value → Sem Value}
    (hf : ∀ v u s2 x y H2, Inv X pins σ H2 s2 → RelV x v → RelV y u → R x y H2 → wpAny (model X.prog X.w) X.A (f v u) Q X.xe s2) :
    wpAny (model X.prog X.w) X.A (eval a X.env) (fun v s₁ => wpAny (model X.prog X.w) X.A (eval b X.env) (fun u s₂ => wpAny (model X.prog X.w) X.A (f v u) Q X.xe s₂) X.xe s₁) X.xe s := by
  refine thn (ha pins s σ H _ I h) fun v s1 ⟨x, H1, I1, r1, q1⟩ => ?_
  refine thn (hb pins s1 σ H1 _ I1 q1) fun u s2 ⟨y, H2, I2, r2, q2⟩ => ?_
  exact hf v u s2 x y H2 I2 r1 r2 q2
theorem pe_op {op : Operator} {r : R2} (ho : OpR X (binaryOp op) r) (ha : PE X a ta) (hb : PE X b tb) : PE X (.BinOp a op b pos) (tOp r ta tb) := by
  intro pins s σ H Q I h
  exact wpAny_BinOp (binT ha hb I h fun v u s2 x y H2 I2 rx ry q => ho pins s2 σ H2 x y v u Q I2 rx ry q)
theorem opI {f : Value → Value → Sem Value} {C : Int → Int → Prop} {g : Int → Int → Int}
    (rule : ∀ (i j : Int) (t u : Tok) (s : Shared) (Q : Value → Shared → Prop) (E : Value → Shared → Prop), C i j → Q (.int (g i j) s.toks) { s with toks := s.toks + 1 } → wpAny (model X.prog X.w) X.A (f (.int i t) (.int j u)) Q E s) :
    OpR X f (rI C fun i j => .int (g i j)) := by
  intro pins s σ H x y v u Q I rx ry h
  obtain ⟨i, j, rfl, rfl, hc, q⟩ := h
  obtain ⟨t, rfl⟩ := rx
  obtain ⟨t', rfl⟩ := ry
  exact rule i j t t' s _ _ hc ⟨.int (g i j), H, I.tok _, ⟨_, rfl⟩, q⟩
theorem opI0 {f : Value → Value → Sem Value} {g : Int → Int → Int}
    (rule : ∀ (i j : Int) (t u : Tok) (s : Shared) (Q : Value → Shared → Prop) (E : Value → Shared → Prop), Q (.int (g i j) s.toks) { s with toks := s.toks + 1 } → wpAny (model X.prog X.w) X.A (f (.int i t) (.int j u)) Q E s) :
    OpR X f (rI0 fun i j => .int (g i j)) := by
  intro pins s σ H x y v u Q I rx ry h
  obtain ⟨i, j, rfl, rfl, q⟩ := h
  obtain ⟨t, rfl⟩ := rx
  obtain ⟨t', rfl⟩ := ry
  exact rule i j t t' s _ _ ⟨.int (g i j), H, I.tok _, ⟨_, rfl⟩, q⟩
theorem opB0 {f : Value → Value → Sem Value} {g : Int → Int → Bool}
    (rule : ∀ (i j : Int) (t u : Tok) (s : Shared) (Q : Value → Shared → Prop) (E : Value → Shared → Prop), Q (.bool (g i j)) s → wpAny (model X.prog X.w) X.A (f (.int i t) (.int j u)) Q E s) :
    OpR X f (rI0 fun i j => .bl (g i j)) := by
  intro pins s σ H x y v u Q I rx ry h
  obtain ⟨i, j, rfl, rfl, q⟩ := h
  obtain ⟨t, rfl⟩ := rx
  obtain ⟨t', rfl⟩ := ry
  exact rule i j t t' s _ _ ⟨.bl (g i j), H, I, rfl, q⟩
def CDiv (i j : Int) : Prop := 0 < j ∧ j < 1073741824
def CPow (i j : Int) : Prop := 0 ≤ j ∧ j ≤ 1000000 ∧ i.natAbs < 2 ^ 64
def CMul (i j : Int) : Prop := (-(2 ^ 64) < i ∧ i < 2 ^ 64) ∨ (-(2 ^ 64) < j ∧ j < 2 ^ 64)
theorem CMul.ok {i j : Int} (h : CMul i j) : IntMulOk i j := by
  rcases h with ⟨h1, h2⟩ | ⟨h1, h2⟩
  · exact .of_left (intBits_le_64 h1 h2)
  · exact .of_right (intBits_le_64 h1 h2)
theorem op_add : OpR X (binaryOp .Add) (rI0 fun i j => .int (i + j)) := opI0 fun _ _ _ _ _ _ _ q => add_int q
theorem op_sub : OpR X (binaryOp .Sub) (rI0 fun i j => .int (i - j)) := opI0 fun _ _ _ _ _ _ _ q => sub_int q
theorem op_mul : OpR X (binaryOp .Mult) (rI CMul fun i j => .int (i * j)) := opI fun _ _ _ _ _ _ _ hc q => mul_int q hc.ok
theorem op_fdiv : OpR X (binaryOp .FloorDiv) (rI CDiv fun i j => .int (i / j)) := opI fun i j _ _ _ _ _ hc q => by
  have h1 : (0 : Int) < j := hc.1
  have h2 : j < 1073741824 := hc.2
  exact floordiv_int (by omega) (by rw [Int.fdiv_eq_ediv_of_nonneg i (by omega)]; exact q) (.inl (PyProof.noPylong_small (by omega)))
theorem op_mod : OpR X (binaryOp .Mod) (rI (fun _ j => 0 < j) fun i j => .int (i % j)) := opI fun i j _ _ _ _ _ hc q => by
  have h1 : (0 : Int) < j := hc
  exact mod_int' (by omega) (by rw [Int.fmod_eq_emod_of_nonneg i (by omega)]; exact q)
theorem op_pow : OpR X (binaryOp .Pow) (rI CPow fun i j => .int (i ^ j.toNat)) := opI fun _ _ _ _ _ _ _ hc q => pow_int_small hc.1 hc.2.1 hc.2.2 q
end
def scal : V → V → Bool
  | .non, .non => true | .non, .int _ => true | .int _, .non => true | .non, .bl _ => true | .bl _, .non => true | .non, .str _ => true | .str _, .non => true
  | .int _, .int _ => true | .bl _, .bl _ => true | .str _, .str _ => true | .byt _, .byt _ => true
  | .int _, .str _ => true | .str _, .int _ => true | .bl _, .str _ => true | .str _, .bl _ => true
  | _, _ => false
def rEq : R2 := fun x y H Q => scal x y = true ∧ Q (.bl (decide (x = y))) H
def rNe : R2 := fun x y H Q => scal x y = true ∧ Q (.bl (!decide (x = y))) H
theorem dec_int {i j : Int} : decide (V.int i = V.int j) = (i == j) := by
  rw [Bool.eq_iff_iff]
  simp
theorem dec_bl {i j : Bool} : decide (V.bl i = V.bl j) = (i == j) := by
  rw [Bool.eq_iff_iff]
  simp
theorem dec_str {i j : Str} : decide (V.str i = V.str j) = (i == j) := by
  rw [Bool.eq_iff_iff]
  simp
theorem dec_byt {i j : Array UInt8} : decide (V.byt i = V.byt j) = (i.toList == j.toList) := by
  rw [Bool.eq_iff_iff]
  cases i
  cases j
  simp
section
variable {X : Cx} {a b c : Expr} {ta tb tc : TE} {pos : Pos}
theorem fin_bl {pins : List (Addr × Obj)} {σ : St} {H : Hp} {s : Shared} {Q : VK} {k k' : Bool} (I : Inv X pins σ H s) (q : Q (.bl k) H) (e : k = k') : EP X pins σ Q (.bool k') s := by
  subst e
  exact ⟨.bl k, H, I, rfl, q⟩
theorem op_eq : OpR X (compareOp .Eq) rEq := by
  intro pins s σ H x y v u Q I rx ry h
  obtain ⟨hs, q⟩ := h
  cases x with
  | non =>
    cases rx
    cases y with
    | non => cases ry; exact PySem.EqNone.eq_none_none (fin_bl I q (by simp))
    | bl j => cases ry; exact PySem.EqNone.eq_none_bool (fin_bl I q (by simp))
    | int j => obtain ⟨t', rfl⟩ := ry; exact PySem.EqNone.eq_none_int (fin_bl I q (by simp))
    | str j => obtain ⟨t', rfl⟩ := ry; exact PySem.EqNone.eq_none_str (fin_bl I q (by simp))
    | _ => exact absurd (show false = true from hs) Bool.false_ne_true
  | bl i =>
    cases rx
    cases y with
    | non => cases ry; exact PySem.EqNone.eq_bool_none (fin_bl I q (by simp))
    | bl j => cases ry; exact eq_bool (fin_bl I q dec_bl)
    | str j => obtain ⟨t', rfl⟩ := ry; exact PySem.EqMixed.eq_bool_str (fin_bl I q (by simp))
    | _ => exact absurd (show false = true from hs) Bool.false_ne_true
  | int i =>
    obtain ⟨t, rfl⟩ := rx
    cases y with
    | non => cases ry; exact PySem.EqNone.eq_int_none (fin_bl I q (by simp))
    | int j => obtain ⟨t', rfl⟩ := ry; exact eq_int (fin_bl I q dec_int)
    | str j => obtain ⟨t', rfl⟩ := ry; exact PySem.EqMixed.eq_int_str (fin_bl I q (by simp))
    | _ => exact absurd (show false = true from hs) Bool.false_ne_true
  | str i =>
    obtain ⟨t, rfl⟩ := rx
    cases y with
    | non => cases ry; exact PySem.EqNone.eq_str_none (fin_bl I q (by simp))
    | bl j => cases ry; exact PySem.EqMixed.eq_str_bool (fin_bl I q (by simp))
    | int j => obtain ⟨t', rfl⟩ := ry; exact PySem.EqMixed.eq_str_int (fin_bl I q (by simp))
    | str j => obtain ⟨t', rfl⟩ := ry; exact eq_str (fin_bl I q dec_str)
    | _ => exact absurd (show false = true from hs) Bool.false_ne_true
  | byt i =>
    obtain ⟨t, rfl⟩ := rx
    cases y with
    | byt j => obtain ⟨t', rfl⟩ := ry; exact PySem.W.eq_bytes (fin_bl I q dec_byt)
    | _ => exact absurd (show false = true from hs) Bool.false_ne_true
  | _ => cases y <;> exact absurd (show false = true from hs) Bool.false_ne_true
theorem op_ne : OpR X (compareOp .NotEq) rNe := by
  intro pins s σ H x y v u Q I rx ry h
  obtain ⟨hs, q⟩ := h
  cases x with
  | non =>
    cases rx
    cases y with
    | non => cases ry; exact PySem.EqNone.ne_none_none (fin_bl I q (by simp))
    | bl j => cases ry; exact PySem.EqNone.ne_none_bool (fin_bl I q (by simp))
    | int j => obtain ⟨t', rfl⟩ := ry; exact PySem.EqNone.ne_none_int (fin_bl I q (by simp))
    | str j => obtain ⟨t', rfl⟩ := ry; exact PySem.EqNone.ne_none_str (fin_bl I q (by simp))
    | _ => exact absurd (show false = true from hs) Bool.false_ne_true
  | bl i =>
    cases rx
    cases y with
    | non => cases ry; exact PySem.EqNone.ne_bool_none (fin_bl I q (by simp))
    | bl j => cases ry; exact ne_bool (fin_bl I q (congrArg not dec_bl))
    | str j => obtain ⟨t', rfl⟩ := ry; exact PySem.EqMixed.ne_bool_str (fin_bl I q (by simp))
    | _ => exact absurd (show false = true from hs) Bool.false_ne_true
  | int i =>
    obtain ⟨t, rfl⟩ := rx
    cases y with
    | non => cases ry; exact PySem.EqNone.ne_int_none (fin_bl I q (by simp))
    | int j => obtain ⟨t', rfl⟩ := ry; exact ne_int (fin_bl I q (congrArg not dec_int))
    | str j => obtain ⟨t', rfl⟩ := ry; exact PySem.EqMixed.ne_int_str (fin_bl I q (by simp))
    | _ => exact absurd (show false = true from hs) Bool.false_ne_true
  | str i =>
    obtain ⟨t, rfl⟩ := rx
    cases y with
    | non => cases ry; exact PySem.EqNone.ne_str_none (fin_bl I q (by simp))
    | bl j => cases ry; exact PySem.EqMixed.ne_str_bool (fin_bl I q (by simp))
    | int j => obtain ⟨t', rfl⟩ := ry; exact PySem.EqMixed.ne_str_int (fin_bl I q (by simp))
    | str j => obtain ⟨t', rfl⟩ := ry; exact ne_str (fin_bl I q (congrArg not dec_str))
    | _ => exact absurd (show false = true from hs) Bool.false_ne_true
  | byt i =>
    obtain ⟨t, rfl⟩ := rx
    cases y with
    | byt j => obtain ⟨t', rfl⟩ := ry; exact PySem.W.ne_bytes (fin_bl I q (congrArg not dec_byt))
    | _ => exact absurd (show false = true from hs) Bool.false_ne_true
  | _ => cases y <;> exact absurd (show false = true from hs) Bool.false_ne_true
theorem op_lt : OpR X (compareOp .Lt) (rI0 fun i j => .bl (decide (i < j))) := opB0 fun _ _ _ _ _ _ _ q => lt_int q
theorem op_gt : OpR X (compareOp .Gt) (rI0 fun i j => .bl (decide (j < i))) := opB0 fun _ _ _ _ _ _ _ q => gt_int q
theorem op_ge : OpR X (compareOp .GtE) (rI0 fun i j => .bl (decide (j ≤ i))) := opB0 fun _ _ _ _ _ _ _ q => ge_int q
theorem nomark (b : Expr) {op : CmpOp} (h : op ≠ .In := by decide) (h2 : op ≠ .NotIn := by decide) : behindInMarks op b = false := by
  have e1 : (op == CmpOp.In) = false := by cases op <;> first | rfl | exact absurd rfl h
  have e2 : (op == CmpOp.NotIn) = false := by cases op <;> first | rfl | exact absurd rfl h2
  cases b <;> simp [behindInMarks, e1, e2]
theorem pe_cmpR {op : CmpOp} {r : R2} (ho : OpR X (compareOp op) r) (ha : PE X a ta) (hb : PE X b tb) (hm : behindInMarks op b = false) : PE X (.Compare a [op] [b] pos) (tOp r ta tb) := by
  intro pins s σ H Q I h
  exact wpAny_Compare1 (binT ha hb I h fun v u s2 x y H2 I2 rx ry q => ho pins s2 σ H2 x y v u Q I2 rx ry q) hm
def tTest (t : TE) : TT := fun σ H Q => t σ H fun x H' => ∃ k, x = .bl k ∧ Q k H'
theorem pt_cmpR {op : CmpOp} {r : R2} (ho : OpR X (compareOp op) r) (ha : PE X a ta) (hb : PE X b tb) (hm : behindInMarks op b = false) : PT X (.Compare a [op] [b] pos) (tTest (tOp r ta tb)) := by
  intro pins s σ H Q I h
  refine wpAny_isTrue_Compare1 (thn (ha pins s σ H _ I h) fun v s1 ⟨x, H1, I1, r1, q1⟩ => thn (hb pins s1 σ H1 _ I1 q1) fun u s2 ⟨y, H2, I2, r2, q2⟩ =>
    thn (ho pins s2 σ H2 x y v u _ I2 r1 r2 q2) fun c s3 ⟨z, H3, I3, r3, k, e, q3⟩ => ?_) hm
  subst e
  cases r3
  exact wpAny_truthy_bool ⟨H3, I3, q3⟩
theorem line63 : (sizeLine : Nat) < 2 ^ 63 := by rw [sizeLine_eq]; decide
theorem vals1 {x : V} {us : List Value} (r : Vals [x] us) : ∃ u, us = [u] ∧ RelV x u := by
  cases r with
  | cons r1 r2 => cases r2; exact ⟨_, rfl, r1⟩
theorem vals2 {x y : V} {us : List Value} (r : Vals [x, y] us) : ∃ u w', us = [u, w'] ∧ RelV x u ∧ RelV y w' := by
  cases r with
  | cons r1 r2 =>
    cases r2 with
    | cons r3 r4 => cases r4; exact ⟨_, _, rfl, r1, r3⟩
theorem call_max2 (hc : X.calm = true) : CallR X (.builtin "max") (fun xs H Q => ∃ i j, xs = [.int i, .int j] ∧ Q (.int (if j > i then j else i)) H) := by
  intro pins s σ H xs us Q I r h
  obtain ⟨i, j, rfl, q⟩ := h
  obtain ⟨u, w', rfl, ⟨t, rfl⟩, ⟨t', rfl⟩⟩ := vals2 r
  refine max_two_ints (I.ok.hd hc) fun h' tk k => ⟨_, H, I.kept k, ?_, q⟩
  by_cases hj : j > i
  · rw [if_pos hj, if_pos hj]; exact ⟨_, rfl⟩
  · rw [if_neg hj, if_neg hj]; exact ⟨_, rfl⟩
theorem call_min2 (hc : X.calm = true) : CallR X (.builtin "min") (fun xs H Q => ∃ i j, xs = [.int i, .int j] ∧ Q (.int (if j < i then j else i)) H) := by
  intro pins s σ H xs us Q I r h
  obtain ⟨i, j, rfl, q⟩ := h
  obtain ⟨u, w', rfl, ⟨t, rfl⟩, ⟨t', rfl⟩⟩ := vals2 r
  refine min_two_ints (I.ok.hd hc) fun h' tk k => ⟨_, H, I.kept k, ?_, q⟩
  by_cases hj : j < i
  · rw [if_pos hj, if_pos hj]; exact ⟨_, rfl⟩
  · rw [if_neg hj, if_neg hj]; exact ⟨_, rfl⟩
theorem call_int1 : CallR X (.type "int") (fun xs H Q => (∃ i, xs = [.int i] ∧ Q (.int i) H) ∨ ∃ k, xs = [.bl k] ∧ Q (.int (if k then 1 else 0)) H) := by
  intro pins s σ H xs us Q I r h
  rcases h with ⟨i, rfl, q⟩ | ⟨k, rfl, q⟩
  · obtain ⟨u, rfl, t, rfl⟩ := vals1 r
    exact call_int_int ⟨.int i, H, I, ⟨_, rfl⟩, q⟩
  · obtain ⟨u, rfl, r1⟩ := vals1 r
    cases r1
    exact call_int_bool ⟨.int (if k then 1 else 0), H, I.tok _, ⟨_, rfl⟩, q⟩
end
end L2
namespace L2
open PySem PySem.Spec PyProof.Rows
structure ObjM (h : Heap) (x dx C : Addr) (mA : Str → Option Value) : Prop where
  obj : h.get? x = some (PySem.W.instObj C dx)
  ns : h.Ns1 dx mA
  ne : dx ≠ x
theorem lookIn_ns {h : Heap} {dx : Addr} {mA : Str → Option Value} (n : h.Ns1 dx mA) : ∃ od, h.get? dx = some od ∧ ∀ name, PySem.W.lookIn name od = some (mA name) := by
  obtain ⟨o, es, ep, ho, hd, hk, _, hm⟩ := n
  refine ⟨o, ho, fun name => ?_⟩
  have e := hm name
  unfold nsFind findBy at e
  rw [← Array.find?_toList] at e
  unfold PySem.W.lookIn
  rw [hd]
  dsimp only
  split
  · rename_i y q
    rw [q] at e
    exact congrArg some e
  · rename_i q
    rw [q] at e
    have a : es.toList.any (·.refKey) = false := by
      rw [List.any_eq_false]
      intro y hy
      obtain ⟨z, t, hkey⟩ := hk y (Array.mem_toList_iff.mp hy)
      simp [DictEntry.refKey, hkey]
    have a' : ¬ es.toList.any (·.refKey) = true := by rw [a]; exact Bool.false_ne_true
    rw [if_neg a']
    exact congrArg some e
theorem ObjM.look {h : Heap} {x dx C : Addr} {mA : Str → Option Value} (I : ObjM h x dx C mA) : ∃ od, PySem.W.InstAt h x (PySem.W.instObj C dx) C (some od) ∧ ∀ name, PySem.W.lookIn name od = some (mA name) :=
  let ⟨od, ho, hl⟩ := lookIn_ns I.ns
  ⟨od, ⟨I.obj, rfl, rfl, ho⟩, hl⟩
theorem RelO.some_of {v : V} {o : Option Value} (r : RelO (some v) o) : ∃ u, o = some u ∧ RelV v u := by
  cases o with
  | none => exact (show False from r).elim
  | some u => exact ⟨u, rfl, r⟩
section
variable {P : Program} {w : World} {H H' : Hp} {h h' : Heap} {a C dx : Addr} {fs fs' : List (Str × V)}
theorem ins_get (hok : HOk P w H h) (e : H a = some (.ins C dx fs)) : ∃ mA, ObjM h a dx C mA ∧ (∀ f, RelO (fs.lookup f) (mA f)) ∧ PySem.Within mA (fs.map (·.1)) ∧ fs.length ≤ 1000 ∧ H dx = some (.own a) := by
  obtain ⟨d, z, ne, ob, mA, n, r, q⟩ := (show ObjOk P w H h a (.ins C dx fs) from hok a _ e)
  exact ⟨mA, ⟨ob, n, ne⟩, r, q, z, d⟩
end
structure Cls (K : PySem.W.Frag) (C : Addr) : Prop where
  pg : PySem.W.plainGet K C Str.empty = true
  hd : PySem.W.hasDictIn K C = true
  po : PySem.W.plainOver K C = true
  sa : PySem.W.findIn K (.ref C) "__setattr__" = some (some (.builtin "object.__setattr__"))
theorem Cls.get {K : PySem.W.Frag} {C : Addr} (c : Cls K C) (f : Str) : PySem.W.plainGet K C f = true := c.pg
section
variable {X : Cx} {pins : List (Addr × Obj)} {σ : St} {H : Hp} {s : Shared} {A : Around} {E : Value → Shared → Prop} {Q : Value → Shared → Prop} {c : Value} {b : Bool}
inductive TyOf (K : PySem.W.Frag) (H : Hp) : V → Value → Prop where
  | non : TyOf K H .non (.type "NoneType")
  | bl (x : Bool) : TyOf K H (.bl x) (.type "bool")
  | int (i : Int) : TyOf K H (.int i) (.type "int")
  | str (x : Str) : TyOf K H (.str x) (.type "str")
  | flt (x : UInt64) : TyOf K H (.flt x) (.type "float")
  | lst {a : Addr} {xs : List V} (e : H a = some (.lst xs)) : TyOf K H (.ref a) (.type "list")
  | frz {a : Addr} {o : Obj} {xs : List V} (e : H a = some (.frz o (.lst xs))) : TyOf K H (.ref a) (.type "list")
  | tup {a : Addr} {xs : List V} (e : H a = some (.tup xs)) : TyOf K H (.ref a) (.type "tuple")
  | dK {a : Addr} {kvs : List (Key × V)} (e : H a = some (.dK kvs)) : TyOf K H (.ref a) (.type "dict")
  | dT {a : Addr} {kvs : List (List Key × V)} (e : H a = some (.dT kvs)) : TyOf K H (.ref a) (.type "dict")
  | ins {a C dx : Addr} {fs : List (Str × V)} (e : H a = some (.ins C dx fs)) (cl : Cls K C) (ha : PySem.W.findIn K (.ref C) "__class__" = some (some (.builtin "object.__class__")))
      (hn : PySem.W.specialIn K (.builtin "object.__class__") "__get__" = some (some (.builtin "getset_descriptor.__get__"))) (htk : PySem.W.takesIn K (.builtin "object.__class__") = some true)
      (hm : PySem.W.mroIn K C (.type "object") = some true) : TyOf K H (.ref a) (.ref C)
end
end L2
namespace L2
open PySem PySem.Spec PyProof.Rows
structure Room (k : Nat) (A : Around) : Prop where
  gd : A.guards = some []
  hd : A.handled = none
  dp : A.depth + 3 * k + 5 < recursionLimit
  un : A.units + 16 * k + 200 < cLine
theorem Room.mono {j k : Nat} {A : Around} (r : Room k A) (h : j ≤ k) : Room j A := ⟨r.gd, r.hd, by have := r.dp; omega, by have := r.un; omega⟩
theorem Room.deeper {k : Nat} {A : Around} (r : Room (k + 1) A) (env : Env) : Room k (A.deeper env) :=
  ⟨r.gd, r.hd, by have := r.dp; show A.depth + 1 + 3 * k + 5 < _; omega, by have := r.un; show A.units + 3 + 16 * k + 200 < _; omega⟩
theorem Room.in1 {k : Nat} {A : Around} (r : Room (k + 1) A) : Room k A.in1 :=
  ⟨r.gd, r.hd, by have := r.dp; show A.depth + 3 * k + 5 < _; omega, by have := r.un; show A.units + 1 + 16 * k + 200 < _; omega⟩
theorem Room.depth {k : Nat} {A : Around} (r : Room k A) : A.depth < recursionLimit := by have := r.dp; omega
theorem Room.units {k : Nat} {A : Around} (r : Room k A) : A.units + 64 < cLine := by have := r.un; omega
theorem Room.units0 {k : Nat} {A : Around} (r : Room k A) : A.units < cLine := by have := r.un; omega
def tNil : TA := fun _ H Q => Q [] H
def tCons (ta : TE) (tr : TA) : TA := fun σ H Q => ta σ H fun x H1 => tr σ H1 fun xs H2 => Q (x :: xs) H2
section
variable {X : Cx} {e : Expr} {es : List Expr} {te : TE} {t : TA} {pos : Pos}
theorem pa_nil : PA X [] tNil := fun _ _ _ _ H Q I h => Calls.spliced_nil ⟨[], H, I, .nil, h⟩
theorem pa_cons (ha : PE X e te) (hr : PA X es t) (hs : starEach (e :: es) X.env = (false, eval e X.env) :: starEach es X.env := by rfl) : PA X (e :: es) (tCons te t) := by
  intro pos pins s σ H Q I h
  rw [hs]
  show wpAny _ _ (spliced ((false, eval e X.env) :: backTo pos (starEach es X.env))) _ _ s
  refine Calls.spliced_cons (thn (ha pins s σ H _ I h) fun u s1 ⟨x, H1, I1, r1, q1⟩ => ?_)
  exact thn (hr pos pins s1 σ H1 _ I1 q1) fun us s2 ⟨xs, H2, I2, r2, q2⟩ => ⟨x :: xs, H2, I2, .cons r1 r2, q2⟩
def tTup (t : TA) : TE := fun σ H Q => t σ H fun xs H1 => xs.length ≤ sizeLine ∧ ∀ p, H1 p = none → Q (.ref p) (upd H1 p (.tup xs))
def tLst (t : TA) : TE := fun σ H Q => t σ H fun xs H1 => xs.length ≤ sizeLine ∧ ∀ p, H1 p = none → Q (.ref p) (upd H1 p (.lst xs))
theorem pe_tup {x1} (h : PA X es t) : PE X (.Tuple es x1 pos) (tTup t) := by
  intro pins s σ H Q I hq
  refine wpAny_Tuple_spliced (thn (h pos pins s σ H _ I hq) fun us s1 ⟨xs, H1, I1, r, z, q⟩ => ⟨by rw [← r.length]; exact z, ?_⟩)
  have hf : H1 s1.heap.objs.size = none := I1.hok.fresh (Nat.le_refl _)
  refine ⟨.ref s1.heap.objs.size, upd H1 s1.heap.objs.size (.tup xs), I1.laid (t' := s1.toks) (fun b u e => Heap.get?_push_of_some _ e) (Nat.le_refl _) ?_, rfl, q _ hf⟩
  exact ⟨z, us, r, ⟨_, Heap.get?_push_size _ rfl, rfl, _, rfl⟩⟩
theorem pe_lst (h : PA X es t) : PE X (.List es pos) (tLst t) := by
  intro pins s σ H Q I hq
  refine wpAny_List_spliced (thn (h pos pins s σ H _ I hq) fun us s1 ⟨xs, H1, I1, r, z, q⟩ => ⟨by rw [← r.length]; exact z, ?_⟩)
  have hf : H1 s1.heap.objs.size = none := I1.hok.fresh (Nat.le_refl _)
  refine ⟨.ref s1.heap.objs.size, upd H1 s1.heap.objs.size (.lst xs), I1.laid (t' := s1.toks) (fun b u e => Heap.get?_push_of_some _ e) (Nat.le_refl _) ?_, rfl, q _ hf⟩
  exact ⟨z, us, 0, r, Heap.get?_push_size _ rfl⟩
end
abbrev Sp := List V → Hp → VK → XK → Prop
abbrev CXT := List Env → Hp → Shared → XK → Value → Shared → Prop
structure Env0 (P : Program) (w : World) (K : PySem.W.Frag) (mg : Str → Option Value) (base : Heap) (A : Around) (outer : List Env) (s : Shared) (H : Hp) : Prop where
  frames : A.frames = some outer
  mod : Mod K mg base
  bs : ∀ b o, base.get? b = some o → s.heap.get? b = some o ∧ H b = none
  bsz : base.objs.size ≤ s.heap.objs.size
  funs : s.heap.FunFrames base outer
  frf : ∀ b ∈ frs outer, H b = none
  hok : HOk P w H s.heap
  bare : AllBare s.gens
def CE (outer : List Env) (P : Program) (w : World) (H : Hp) (s : Shared) (Q : VK) (u : Value) (s' : Shared) : Prop :=
  ∃ v H', s'.os = s.os ∧ AllBare s'.gens ∧ Un (frs outer) [] H H' s.heap s'.heap ∧ HOk P w H' s'.heap ∧ RelV v u ∧ Q v H'
def CR (CX : CXT) (outer : List Env) (P : Program) (w : World) (H : Hp) (s : Shared) (Q : VK) (E : XK) (r : Result) (s' : Shared) : Prop :=
  match r with
  | .ok (.ret u) => CE outer P w H s Q u s'
  | .ok _ => False
  | .error e => CX outer H s E e s'
structure FnOk (P : Program) (w : World) (K : PySem.W.Frag) (mg : Str → Option Value) (base : Heap) (CX : CXT) (k : Nat) (f : Addr) (fd : FuncData) (ps : List Str) (sp : Sp) : Prop where
  len : ∀ vs H Q E, sp vs H Q E → vs.length = ps.length
  run : ∀ (A : Around) (outer : List Env) (s : Shared) (H : Hp) (args : Args) (us : List Value) (vs : List V) (Q : VK) (E : XK), Room k A → Env0 P w K mg base A outer s H → BindsTo s fd args (ps.zip us) → Vals vs us → sp vs H Q E →
    codeAny (model P w) A (.call (.ref f) args) (CR CX outer P w H s Q E) s
theorem Env0.in1 {P : Program} {w : World} {K : PySem.W.Frag} {mg : Str → Option Value} {base : Heap} {A : Around} {outer : List Env} {s : Shared} {H : Hp} (e : Env0 P w K mg base A outer s H) :
    Env0 P w K mg base A.in1 outer s H := ⟨e.frames, e.mod, e.bs, e.bsz, e.funs, e.frf, e.hok, e.bare⟩
section
variable {X : Cx} {pins : List (Addr × Obj)} {σ : St} {H : Hp} {s s' : Shared}
theorem Inv.env0 (I : Inv X pins σ H s) : Env0 X.prog X.w X.K X.mg X.base X.A X.stack s H :=
  ⟨I.ok.frames, I.ok.mod, I.bs, Nat.le_trans I.ok.bsz I.sz, I.stack, I.stkFree, I.hok, I.bare⟩
theorem Inv.after {Q : VK} {u : Value} (I : Inv X pins σ H s) (h : CE X.stack X.prog X.w H s Q u s') : EP X pins σ Q u s' := by
  obtain ⟨v, H', os, bare, un, hok, r, q⟩ := h
  obtain ⟨hh, g, d, t, os'⟩ := s'
  obtain rfl : os' = s.os := os
  exact ⟨v, H', I.call (h' := hh) (g' := g) (d' := d) (t' := t) (ch := []) un hok bare (fun b z => absurd z (by simp)), r, q⟩
end
def tCall (sp : Sp) (dvs : List V) (E : XK) (t : TA) : TE := fun σ H Q => t σ H fun vs H1 => sp (vs ++ dvs) H1 Q E
def Binds (K : PySem.W.Frag) (fd : FuncData) (ps : List Str) (ds : List Value) : Prop :=
  ∀ (s : Shared) (us : List Value), K.In s.heap → (us ++ ds).length = ps.length → BindsTo s fd ⟨us, []⟩ (ps.zip (us ++ ds))
theorem Binds.all {K : PySem.W.Frag} {fd : FuncData} {ps : List Str} (h : ∀ us : List Value, us.length = ps.length → bindArgs fd ⟨us, []⟩ = pure (ps.zip us)) : Binds K fd ps [] := fun s us _ hl => by
  rw [List.append_nil] at hl ⊢
  exact .of_eq (h us hl)
def Passes (CX : CXT) (X : Cx) (E : XK) : Prop := ∀ (pins : List (Addr × Obj)) (σ : St) (H : Hp) (s : Shared) (e : Value) (s' : Shared), Inv X pins σ H s → CX X.stack H s E e s' → X.xe e s'
section
variable {X : Cx} {CX : CXT} {k : Nat} {f C : Addr} {fd : FuncData} {ps : List Str} {sp : Sp} {dvs : List V} {ds : List Value} {E : XK} {x m : Str} {p pos apos : Pos} {e o : Expr} {es : List Expr} {ta : TE} {t : TA}
theorem run_fn {pins : List (Addr × Obj)} {σ : St} {H : Hp} {s : Shared} {Q : VK} {us : List Value} {vs : List V} (F : FnOk X.prog X.w X.K X.mg X.base CX k f fd ps sp) (hr : Room k X.A) (hb : Binds X.K fd ps ds) (hd : Vals dvs ds) (hx : Passes CX X E)
    (I : Inv X pins σ H s) (r : Vals vs us) (h : sp (vs ++ dvs) H Q E) : wpAny (model X.prog X.w) X.A (call (.ref f) us) (EP X pins σ Q) X.xe s := by
  have r2 : Vals (vs ++ dvs) (us ++ ds) := r.append hd
  have hl : (us ++ ds).length = ps.length := by rw [← r2.length]; exact F.len _ _ _ _ h
  refine wpAny_call (codeAny_mono (F.run X.A X.stack s H ⟨us, []⟩ (us ++ ds) (vs ++ dvs) Q E hr I.env0 (hb s us I.kIn hl) r2 h) fun r s' hq => ?_)
  cases r with
  | error e => exact hx pins σ H s e s' I hq
  | ok fl =>
    cases fl with
    | ret u => exact I.after hq
    | next => exact False.elim hq
    | brk => exact False.elim hq
    | cont => exact False.elim hq
theorem pe_call (F : FnOk X.prog X.w X.K X.mg X.base CX k f fd ps sp) (hr : Room k X.A) (hg : Gl X x) (hm : X.mg x = some (.ref f)) (hk : PySem.W.keepIn X.K (.ref f) = true) (hb : Binds X.K fd ps ds) (hd : Vals dvs ds) (hx : Passes CX X E)
    (ha : PA X (e :: es) t) (hdb : (x == ("__debug__" : Str)) = false := by decide) (he : starEach (e :: es) X.env = (false, eval e X.env) :: starEach es X.env := by rfl) (hpl : (backTo pos (starEach es X.env)).any (·.1) = false := by rfl) :
    PE X (.Call (.Name x p) (e :: es) [] pos) (tCall sp dvs E t) := by
  intro pins s σ H Q I h
  refine wpAny_Call_Name_kw (ld_glob I hg hm ?_ hdb)
  refine PySem.W.callWith_K (h₀ := X.base) I.ok.mod.kin hk (thn (ha pos pins s σ H _ I h) fun us s1 ⟨vs, H1, I1, r, q⟩ => ⟨I1.kIn, ?_⟩) he hpl
  exact run_fn F hr hb hd hx I1 r q
end
structure FnScope (N P : List Str) (sc : Scope) : Prop where
  kind : sc.kind = .function
  co : sc.isCoroutine = false
  gen : sc.isGenerator = false
  nd : N.Nodup
  pre : N.take P.length = P
  par : ∀ x ∈ P, sc.names.lookup x = some .local ∨ sc.names.lookup x = some .cell
  nofree : ∀ y ∈ sc.names, y.2 ≠ .free
theorem bindL_out {kindOf : Str → Option NameKind} {x : Str} : ∀ {binds : List (Str × Value)} {m : Str → Option Value}, (∀ v, (x, v) ∉ binds) → bindL kindOf binds m x = m x
  | [], _, _ => rfl
  | (n, v) :: r, m, h => by
    unfold bindL
    rw [bindL_out fun w hw => h w (List.mem_cons_of_mem _ hw)]
    split
    · have : x ≠ n := by rintro rfl; exact h v List.mem_cons_self
      simp [this]
    · rfl
theorem bindC_out {kindOf : Str → Option NameKind} {x : Str} : ∀ {binds : List (Str × Value)} {m : Str → Option Value}, (∀ v, (x, v) ∉ binds) → bindC kindOf binds m x = m x
  | [], _, _ => rfl
  | (n, v) :: r, m, h => by
    unfold bindC
    rw [bindC_out fun w hw => h w (List.mem_cons_of_mem _ hw)]
    split
    · rfl
    · have : x ≠ n := by rintro rfl; exact h v List.mem_cons_self
      simp [this]
theorem bindL_get {kindOf : Str → Option NameKind} {x : Str} {v : Value} : ∀ {P : List Str} {vs : List Value} {i : Nat} {m : Str → Option Value}, P.Nodup → P[i]? = some x → vs[i]? = some v → kindOf x = some .local →
    bindL kindOf (P.zip vs) m x = some v
  | [], _, _, _, _, h, _, _ => by simp at h
  | _ :: _, [], _, _, _, _, h, _ => by simp at h
  | p :: P, w :: vs, 0, m, nd, h1, h2, hk => by
    simp at h1 h2; subst h1; subst h2
    show bindL kindOf ((p, w) :: P.zip vs) m p = _
    unfold bindL
    rw [bindL_out fun v hv => (List.nodup_cons.mp nd).1 (List.of_mem_zip hv).1, if_pos hk]
    simp
  | p :: P, w :: vs, i + 1, m, nd, h1, h2, hk => by
    show bindL kindOf ((p, w) :: P.zip vs) m x = _
    unfold bindL
    exact bindL_get (i := i) (List.nodup_cons.mp nd).2 (by simpa using h1) (by simpa using h2) hk
theorem bindC_get {kindOf : Str → Option NameKind} {x : Str} {v : Value} : ∀ {P : List Str} {vs : List Value} {i : Nat} {m : Str → Option Value}, P.Nodup → P[i]? = some x → vs[i]? = some v → kindOf x ≠ some .local →
    bindC kindOf (P.zip vs) m x = some v
  | [], _, _, _, _, h, _, _ => by simp at h
  | _ :: _, [], _, _, _, _, h, _ => by simp at h
  | p :: P, w :: vs, 0, m, nd, h1, h2, hk => by
    simp at h1 h2; subst h1; subst h2
    show bindC kindOf ((p, w) :: P.zip vs) m p = _
    unfold bindC
    rw [bindC_out fun v hv => (List.nodup_cons.mp nd).1 (List.of_mem_zip hv).1, if_neg hk]
    simp
  | p :: P, w :: vs, i + 1, m, nd, h1, h2, hk => by
    show bindC kindOf ((p, w) :: P.zip vs) m x = _
    unfold bindC
    exact bindC_get (i := i) (List.nodup_cons.mp nd).2 (by simpa using h1) (by simpa using h2) hk
def start (N : List Str) (vs : List V) : St := vs.map some ++ List.replicate (N.length - vs.length) none
def cxOf (CX : CXT) (P : Program) (w : World) (K : PySem.W.Frag) (mg : Str → Option Value) (base : Heap) (N : List Str) (qual : Str) (scope : Scope) (f : Addr) (cd : Value) (A : Around) (outer : List Env) (s : Shared) (H : Hp) (E : XK) : Cx where
  prog := P
  w := w
  K := K
  mg := mg
  base := base
  A := A.deeper (envOfC qual scope s.heap.objs.size f cd)
  N := N
  s_0 := s
  H_0 := H
  env := envOfC qual scope s.heap.objs.size f cd
  outer := outer
  stack := envOfC qual scope s.heap.objs.size f cd :: outer
  ex := []
  calm := true
  fn := fun _ => true
  pn := []
  xe := fun e s' => wpAny (model P w) (A.deeper (envOfC qual scope s.heap.objs.size f cd)) (leaving (envOfC qual scope s.heap.objs.size f cd) e) (fun _ s'' => CX outer H s E e s'') (fun e' s'' => CX outer H s E e' s'') s'
theorem cell_has {sc : Scope} {n : Nat} {x : Str} (h : sc.names.lookup x = some .cell) : ∃ c, (cellsFrom n sc.names []).lookup x = some c := by
  have q := PySem.W.cellsFrom_some sc.names n [] (.inl h)
  exact Option.isSome_iff_exists.mp q
theorem inv_start {CX : CXT} {P : Program} {w : World} {K : PySem.W.Frag} {mg : Str → Option Value} {base : Heap} {N ps : List Str} {qual : Str} {scope : Scope} {f : Addr} {cd : Value} {A : Around} {outer : List Env} {s s1 : Shared} {H : Hp} {E : XK} {us : List Value} {vs : List V}
    (S : FnScope N ps scope) (hd : A.handled = none) (e0 : Env0 P w K mg base A outer s H) (hl : vs.length = ps.length) (r : Vals vs us)
    (x : InCallC s s.heap.objs.size (bindL (envOfC qual scope s.heap.objs.size f cd).kindOf (ps.zip us) fun _ => none) (cellsFrom (s.heap.objs.size + 1) scope.names []) (bindC (envOfC qual scope s.heap.objs.size f cd).kindOf (ps.zip us) fun _ => none) s1) :
    Inv (cxOf CX P w K mg base N qual scope f cd A outer s H E) [] (start N vs) H s1 := by
  have hpl : ps.length ≤ N.length := by have := congrArg List.length S.pre; rw [List.length_take] at this; omega
  obtain ⟨h1, tk, rfl, hk⟩ := x.done
  have noA : ∀ b : Addr, b ∉ (cxOf CX P w K mg base N qual scope f cd A outer s H E).ex := fun b z => absurd (show b ∈ ([] : List Addr) from z) (by simp)
  refine ⟨⟨e0.mod, S.kind, rfl, rfl, Nat.le_refl _, fun y z c h1 h2 => ?_, fun y hy => ?_, fun y c _ h => ?_, fun _ => hd, Around.frames_deeper e0.frames, .inr ⟨rfl, rfl⟩, fun b z => absurd z (noA b), e0.bs, e0.bsz, fun b _ _ => noA b, fun b z => absurd z (noA b), e0.funs, e0.frf⟩,
    rfl, e0.bare, Un.kept hk, ⟨_, x.toInCall.ns, fun i y v h1 h2 h3 => ?_⟩, fun y c h => ⟨_, x.cell y c h⟩, e0.hok.fresh (Nat.le_refl _), fun y c h => ?_, fun p hp => absurd (show p ∈ ([] : List (Addr × Obj)) from hp) (by simp), e0.hok.kept hk, ?_⟩
  · exact name_of_addr x.apart (PySem.mem_of_lookup h1) (PySem.mem_of_lookup h2)
  · have hy : scope.names.lookup y = some .cell ∨ scope.names.lookup y = some .free := hy
    rcases hy with hy | hy
    · exact cell_has hy
    · exact absurd rfl (S.nofree _ (PySem.mem_of_lookup hy))
  · exact Nat.le_of_lt (x.above y c (PySem.mem_of_lookup h))
  · have hi : i < vs.length := by
      unfold start at h2
      by_cases hi : i < vs.length
      · exact hi
      · rw [List.getElem?_append_right (by simpa using hi)] at h2
        rw [List.getElem?_replicate] at h2
        split at h2 <;> cases h2
    have ha : vs[i]? = some v := by
      unfold start at h2
      rw [List.getElem?_append_left (by simpa using hi), List.getElem?_map] at h2
      cases e : vs[i]? with
      | none => rw [e] at h2; cases h2
      | some a => rw [e] at h2; cases h2; rfl
    obtain ⟨u, hu, rv⟩ := r.get ha
    have hp : ps[i]? = some y := by
      rw [← S.pre, List.getElem?_take_of_lt (by omega)]; exact h1
    have ndP : ps.Nodup := by rw [← S.pre]; exact S.nd.sublist (List.take_sublist _ _)
    refine ⟨u, rv, ?_⟩
    rcases S.par y (List.mem_of_getElem? hp) with k | k
    · exact .inl ⟨k, bindL_get ndP hp hu k⟩
    · obtain ⟨c, e⟩ := cell_has (n := s.heap.objs.size + 1) k
      refine .inr ⟨.inl k, c, e, ?_⟩
      have q := x.cell y c e
      rw [bindC_get ndP hp hu (by show scope.names.lookup y ≠ _; rw [k]; decide)] at q
      exact q
  · exact e0.hok.fresh (Nat.le_of_lt (x.above y c (PySem.mem_of_lookup h)))
  · unfold start
    show _ = N.length
    rw [List.length_append, List.length_map, List.length_replicate]
    omega
theorem fn_of {CX : CXT} {P : Program} {w : World} {K : PySem.W.Frag} {mg : Str → Option Value} {base : Heap} {k : Nat} {f : Addr} {name qual : Str} {params : Arguments} {body : List Stmt} {scope : Scope} {dV kV doc pm cdv ct oc : Value} {an od : Option Addr}
    {osl : Array (Option Value)} {N ps : List Str} {sp : Sp} (lk : K.lookup f = some ⟨oc, od, .func (PySem.W.fnOf name qual params body scope dV kV doc pm an cdv ct), osl⟩) (hcd : PySem.W.codeIn K cdv qual = true) (S : FnScope N ps scope)
    (len : ∀ vs H Q E, sp vs H Q E → vs.length = ps.length)
    (hbody : ∀ (A : Around) (outer : List Env) (s : Shared) (H : Hp) (vs : List V) (Q : VK) (E : XK), Room k (A.deeper (envOfC qual scope s.heap.objs.size f cdv)) → sp vs H Q E →
      ∃ t, PSs (cxOf CX P w K mg base N qual scope f cdv A outer s H E) body t ∧ t { nx := fun _ H' => Q .non H', rt := Q } (start N vs) H) :
    FnOk P w K mg base CX (k + 1) f (PySem.W.fnOf name qual params body scope dV kV doc pm an cdv ct) ps sp := by
  refine ⟨len, fun A outer s H args us vs Q E hr e0 hb r hsp => ?_⟩
  have hl := len _ _ _ _ hsp
  have KX : K.In s.heap := e0.mod.kin.keeps fun b o e => (e0.bs b o e).1
  have lim : s.heap.NoLimit := e0.mod.nolimit.keeps fun b o e => (e0.bs b o e).1
  have hkind : ∀ y ∈ ps.zip us, scope.names.lookup y.1 = some .local ∨ (scope.names.lookup y.1 = some .cell ∧ ((cellsFrom (s.heap.objs.size + 1) scope.names []).lookup y.1).isSome = true) := fun ⟨n, v⟩ hy => by
    rcases S.par n (List.of_mem_zip hy).1 with q | q
    · exact .inl q
    · exact .inr ⟨q, PySem.W.cellsFrom_some _ _ _ (.inl q)⟩
  refine codeAny_call_function hr.depth (KX _ _ lk) rfl S.co S.gen rfl (PySem.W.codeRec_of KX hcd) (hb _ _ _ _ ?_)
  refine wpAny_newFunctionEnv_cells S.kind hkind fun env he s1 x => ?_
  subst he
  refine ⟨lim.keeps x.toInCall.keep, codeAny_func ?_⟩
  obtain ⟨t, ht, hq⟩ := hbody A outer s H vs Q E (hr.deeper _) hsp
  have I : Inv (cxOf CX P w K mg base N qual scope f cdv A outer s H E) [] (start N vs) H s1 := inv_start S hr.hd e0 hl r x
  refine wpAny_mono (ht [] s1 (start N vs) H _ I hq) (fun fl s' hs => ?_) fun e s' hs => hs
  have fin : ∀ {σ' : St} {H' : Hp} {v : V} {u : Value}, Inv (cxOf CX P w K mg base N qual scope f cdv A outer s H E) [] σ' H' s' → RelV v u → Q v H' → CE outer P w H s Q u s' :=
    fun {σ' H' v u} J rv q => ⟨v, H', J.os, J.bare, J.base, J.hok, rv, q⟩
  cases fl with
  | ret u =>
    obtain ⟨v, σ', H', J, rv, q⟩ := hs
    exact fin J rv q
  | next =>
    obtain ⟨σ', H', J, q⟩ := hs
    exact fin (v := V.non) (u := Value.none) J rfl q
  | brk =>
    obtain ⟨_, _, _, q⟩ := hs
    exact False.elim q
  | cont =>
    obtain ⟨_, _, _, q⟩ := hs
    exact False.elim q
end L2
namespace L2
open PySem PySem.Spec PyProof.Rows
section
variable {X : Cx} {x : Str} {p pos : Pos} {e : Expr} {es : List Expr} {t : TA} {id T : String} {r : List V → Hp → VK → Prop}
def tCB (r : List V → Hp → VK → Prop) (t : TA) : TE := fun σ H Q => t σ H fun vs H1 => r vs H1 Q
theorem pe_callB (hc : CallR X (.builtin id) r) (hg : Gl X x) (hm : X.mg x = none) (hv : bootBuiltins x = some (.builtin id)) (ha : PA X (e :: es) t) (hn : x ≠ "__name__" := by decide) (hdb : (x == ("__debug__" : Str)) = false := by decide)
    (he : starEach (e :: es) X.env = (false, eval e X.env) :: starEach es X.env := by rfl) (hpl : (backTo pos (starEach es X.env)).any (·.1) = false := by rfl) : PE X (.Call (.Name x p) (e :: es) [] pos) (tCB r t) := by
  intro pins s σ H Q I h
  refine wpAny_Call_Name_kw (ld_blt I hg hm hv ?_ hn hdb)
  exact PyProof.Rows.callWith_builtin1 (thn (ha pos pins s σ H _ I h) fun us s1 ⟨vs, H1, I1, r1, q1⟩ => hc pins s1 σ H1 vs us Q I1 r1 q1) he hpl
theorem pe_callTy (hc : CallR X (.type T) r) (hg : Gl X x) (hm : X.mg x = none) (hv : bootBuiltins x = some (.type T)) (ha : PA X (e :: es) t) (hn : x ≠ "__name__" := by decide) (hdb : (x == ("__debug__" : Str)) = false := by decide)
    (he : starEach (e :: es) X.env = (false, eval e X.env) :: starEach es X.env := by rfl) (hpl : (backTo pos (starEach es X.env)).any (·.1) = false := by rfl) : PE X (.Call (.Name x p) (e :: es) [] pos) (tCB r t) := by
  intro pins s σ H Q I h
  refine wpAny_Call_Name_kw (ld_blt I hg hm hv ?_ hn hdb)
  exact PyProof.Rows.callWith_type1 (thn (ha pos pins s σ H _ I h) fun us s1 ⟨vs, H1, I1, r1, q1⟩ => hc pins s1 σ H1 vs us Q I1 r1 q1) he hpl
end
end L2
namespace HT
open PySem PyProof.Rows
def lexLt : List Int → List Int → Bool
  | [], [] => false
  | [], _ :: _ => true
  | _ :: _, [] => false
  | x :: xs, y :: ys => if x = y then lexLt xs ys else decide (x < y)
theorem lexLt_cons (x y : Int) (xs ys : List Int) : lexLt (x :: xs) (y :: ys) = if x = y then lexLt xs ys else decide (x < y) := rfl
theorem lexLt_nil_nil : lexLt [] [] = false := rfl
theorem lexLt_nil_cons (y : Int) (ys : List Int) : lexLt [] (y :: ys) = true := rfl
theorem lexLt_cons_nil (x : Int) (xs : List Int) : lexLt (x :: xs) [] = false := rfl
theorem eqAt_int (A : Around) (s : Shared) (a : Int) (t : Tok) (c : Int) (u : Tok) : ∃ e, SeqAt.EqAt A s (.int a t) (.int c u) e ∧ (e = true ↔ a = c) :=
  ⟨(a == c), SeqAt.EqAt.int_int a t c u, by simp⟩
theorem rcLt_int (A : Around) (s : Shared) (a : Int) (t : Tok) (c : Int) (u : Tok) (prog : Program) (w : World) (E : Value → Shared → Prop) (Q : Value → Shared → Prop) (h : Q (.bool (decide (a < c))) s) :
    wpAny (model prog w) A (richCompare .Lt (.int a t) (.int c u)) Q E s :=
  (PyProof.Rows.lt_int h : wpAny (model prog w) A (compareOp .Lt (.int a t) (.int c u)) Q E s)
section
open PySem.SeqAt
open PySem.AutoSeq1 (wpAny_loadPart')
open PySem.MeetsSeq PySem.MeetsSeq2 PySem.MeetsSeq3
theorem tuple_lt_ints (l b : Addr) (items items2 : Array Value) (n n2 : Nat) (dd dd2 : Option Addr) (sl sl2 : Array (Option Value)) (ns ms : List Int) (hi : IntsAre items.toList ns) (hj : IntsAre items2.toList ms) :
    Meets (Builtin.«tuple.__lt__» ⟨[.ref l, .ref b], []⟩)
      (fun _ R s => s.heap.get? l = some { cls := .type "tuple", dict := dd, data := .seq items n, slots := sl } ∧ s.heap.get? b = some { cls := .type "tuple", dict := dd2, data := .seq items2 n2, slots := sl2 } ∧
        R (.ok (.ret (.bool (lexLt ns ms)))) s) :=
  .of_wp fun prog w A R s h => by
    obtain ⟨hp, g, d, tk, os⟩ := s; obtain ⟨hl, hb, h⟩ := h
    have f2 := AutoSeq1.sub_tuple_tuple
    have z1 : items.size = ns.length := by rw [← hi.length]; simp
    have z2 : items2.size = ms.length := by rw [← hj.length]; simp
    wp_walk using wpAny_loadPart' hl, wpAny_loadPart' hb, wpAny_forIn_list _ (fun rest b s' => b.1 = none ∧ s' = ⟨hp, g, d, tk, os⟩ ∧ ∃ (vs ws : List Value) (ns' ms' : List Int), rest = vs.zip ws ∧
      IntsAre vs ns' ∧ IntsAre ws ms' ∧ ns'.length + items2.size = ms'.length + items.size ∧ R (.ok (.ret (.bool (lexLt ns' ms')))) ⟨hp, g, d, tk, os⟩) _
    case turn =>
      rintro ⟨y, x⟩ rest b s' ⟨hb', rfl, vs, ws, ns', ms', hz, hvi, hwi, hlen, hR⟩
      cases hvi with
      | nil => rw [List.zip_nil_left] at hz; cases hz
      | cons a t hvi' =>
        cases hwi with
        | nil => rw [List.zip_nil_right] at hz; cases hz
        | cons c u hwi' =>
          rw [List.zip_cons_cons] at hz
          injection hz with hyx hrest
          injection hyx with hy hx
          subst hy hx
          rw [lexLt_cons] at hR
          simp only [List.length_cons] at hlen
          obtain ⟨e, he, hiff⟩ := eqAt_int A.in1 ⟨hp, g, d, tk, os⟩ a t c u
          refine wpAny_bind (he prog w _ _ ?_)
          cases e with
          | true =>
            rw [if_pos (hiff.mp rfl)] at hR
            wp_walk
            exact ⟨rfl, rfl, _, _, _, _, hrest, hvi', hwi', by omega, hR⟩
          | false =>
            rw [if_neg (fun q => absurd (hiff.mpr q) Bool.false_ne_true)] at hR
            have hri := rcLt_int A.in1 ⟨hp, g, d, tk, os⟩ a t c u prog w
            wp_walk using hri
            exact ⟨_, rfl, by simpa using hR⟩
    case fin =>
      rintro ⟨b1, b2⟩ s' ⟨hb', rfl, vs, ws, ns', ms', hz, hvi, hwi, hlen, hR⟩
      simp only at hb'
      subst hb'
      have hv : lexLt ns' ms' = decide (items.size < items2.size) := by
        cases hvi with
        | nil =>
          cases hwi with
          | nil =>
            simp only [List.length_nil] at hlen
            rw [lexLt_nil_nil]
            exact (decide_eq_false (by omega)).symm
          | cons c u hw =>
            simp only [List.length_nil, List.length_cons] at hlen
            rw [lexLt_nil_cons]
            exact (decide_eq_true (by omega)).symm
        | cons a t hv =>
          cases hwi with
          | nil =>
            simp only [List.length_nil, List.length_cons] at hlen
            rw [lexLt_cons_nil]
            exact (decide_eq_false (by omega)).symm
          | cons c u hw =>
            rw [List.zip_cons_cons] at hz
            cases hz
      rw [hv] at hR
      wp_walk
      exact ⟨_, rfl, by simpa [Builtin.Tuple.tupleCompareSizes] using hR⟩
    case h =>
      exact ⟨rfl, rfl, items.toList, items2.toList, ns, ms, rfl, hi, hj, by omega, h⟩
end
section
variable {prog : Program} {w : World} {A : Around} {E : Value → Shared → Prop} {s : Shared}
theorem lt_tupInts {l b : Addr} {items items2 : Array Value} {ns ms : List Int} {Q : Value → Shared → Prop} (hl : IsTup s.heap l items) (hb : IsTup s.heap b items2) (hi : IntsAre items.toList ns) (hj : IntsAre items2.toList ms)
    (hu : A.units < cLine) (h : Q (.bool (lexLt ns ms)) s) : wpAny (model prog w) A (compareOp .Lt (.ref l) (.ref b)) Q E s := by
  obtain ⟨⟨cls, dd, data, sl⟩, ho, hc, n, hd⟩ := id hl
  obtain ⟨⟨cls2, dd2, data2, sl2⟩, ho2, hc2, n2, hd2⟩ := id hb
  simp only at hc hd hc2 hd2
  subst hc hd hc2 hd2
  exact richCompare_meets_room (op := .Lt) ⟨_, ho, rfl⟩ ⟨_, ho2, rfl⟩ PySem.F.slot_tuple_lt PySem.F.entry_tuple_lt (PySem.F.args_tuple_lt_2 _ _) (tuple_lt_ints l b items items2 n n2 dd dd2 sl sl2 ns ms hi hj)
    ⟨ho, ho2, show Value.bool (lexLt ns ms) ≠ Value.notImplemented ∧ Q (.bool (lexLt ns ms)) s from ⟨(fun x => nomatch x), h⟩⟩ hu
theorem cat_tup {t b : Addr} {vs ws : List Value} {Q : Value → Shared → Prop} (ht : IsTup s.heap t vs.toArray) (hb : IsTup s.heap b ws.toArray) (hv : vs ≠ [])
    (h1 : ws = [] → Q (.ref t) s) (h2 : ws ≠ [] → Q (.ref s.heap.objs.size) { s with heap := s.heap.push { cls := .type "tuple", data := .seq (vs ++ ws).toArray } })
    (hsz : vs.length + ws.length ≤ sizeLine) : wpAny (model prog w) A (binaryOp .Add (.ref t) (.ref b)) Q E s := by
  obtain ⟨⟨cls, dd, data, sl⟩, ho, hc, n, hd⟩ := id ht
  obtain ⟨⟨cls2, dd2, data2, sl2⟩, ho2, hc2, n2, hd2⟩ := id hb
  simp only at hc hd hc2 hd2
  subst hc hd hc2 hd2
  have e : vs.toArray ++ ws.toArray = (vs ++ ws).toArray := by simp
  by_cases hw : ws = []
  · exact concat_meets ⟨_, ho, rfl⟩ ⟨_, ho2, rfl⟩ noFill_tuple_add seq_tuple_add PySem.F.slot_tuple_add PySem.F.entry_tuple_add (PySem.F.args_tuple_add_2 _ _)
      (tuple_addW1 t b vs.toArray ws.toArray n n2 dd dd2 sl sl2 (by simpa using hv) (by simp [hw])) ⟨ho, ho2, h1 hw⟩
  · refine concat_meets ⟨_, ho, rfl⟩ ⟨_, ho2, rfl⟩ noFill_tuple_add seq_tuple_add PySem.F.slot_tuple_add PySem.F.entry_tuple_add (PySem.F.args_tuple_add_2 _ _)
      (tuple_addW2 t b vs.toArray ws.toArray n n2 dd dd2 sl sl2 (by simpa using hv) (by simpa using hw) (by rw [List.size_toArray, List.size_toArray]; exact hsz)) ⟨ho, ho2, ?_⟩
    rw [e]
    exact h2 hw
def sIx (n d : Nat) : Option Int → Nat
  | none => d
  | some v => if v < 0 then (v + (n : Int)).toNat else min v.toNat n
end
end HT
namespace L2
open PySem PySem.Spec PyProof.Rows
abbrev TO := St → Hp → (Option Int → Hp → Prop) → Prop
def PO (X : Cx) (e : Option Expr) (t : TO) : Prop :=
  ∀ (pins : List (Addr × Obj)) (s : Shared) (σ : St) (H : Hp) (Q : Option Int → Hp → Prop), Inv X pins σ H s → t σ H Q →
    wpAny (model X.prog X.w) X.A (evalPart e X.env) (fun u s' => ∃ o H', Inv X pins σ H' s' ∧ IsPart u o ∧ Q o H') X.xe s
def tNoPart : TO := fun _ H Q => Q none H
def tPart (t : TE) : TO := fun σ H Q => t σ H fun x H1 => ∃ i, x = .int i ∧ Q (some i) H1
theorem intsAre_of {ns : List Int} : ∀ {us : List Value}, Vals (ns.map V.int) us → IntsAre us ns := by
  induction ns with
  | nil => intro us r; rw [List.map_nil] at r; cases r; exact .nil
  | cons n ns ih =>
    intro us r
    rw [List.map_cons] at r
    cases r with
    | cons r1 r2 =>
      obtain ⟨t, e⟩ := r1
      subst e
      exact .cons n t (ih r2)
section
variable {X : Cx} {e : Expr} {te : TE} {lo hi : Option Expr} {tl th : TO} {pos p2 : Pos}
theorem po_none : PO X none tNoPart := by
  intro pins s σ H Q I h
  rw [evalPart_none]
  exact wpAny_pure ⟨none, H, I, .none, h⟩
theorem po_some (h : PE X e te) : PO X (some e) (tPart te) := by
  intro pins s σ H Q I hw
  rw [evalPart_some]
  refine thn (h pins s σ H _ I hw) fun u s1 ⟨x, H1, I1, r1, q1⟩ => ?_
  obtain ⟨i, rfl, q⟩ := q1
  obtain ⟨t, rfl⟩ := r1
  exact ⟨some i, H1, I1, .int i t, q⟩
def SlR (X : Cx) (r : V → Option Int → Option Int → Hp → VK → Prop) : Prop :=
  ∀ (pins : List (Addr × Obj)) (s : Shared) (σ : St) (H : Hp) (x : V) (v vl vu : Value) (lo hi : Option Int) (sl : Addr) (Q : VK), Inv X pins σ H s → RelV x v → s.heap.IsSliceOf sl vl vu .none → IsPart vl lo → IsPart vu hi → r x lo hi H Q →
    ∃ T id, typeLookup (.type T) "__getitem__" = pure (some (.builtin id)) ∧ s.TypeIs v T ∧ wpAny (model X.prog X.w) X.A (getItem v (.ref sl)) (EP X pins σ Q) X.xe s
def tSl (r : V → Option Int → Option Int → Hp → VK → Prop) (te : TE) (tl th : TO) : TE := fun σ H Q => te σ H fun x H1 => tl σ H1 fun l H2 => th σ H2 fun u H3 => r x l u H3 Q
theorem pe_slice {r : V → Option Int → Option Int → Hp → VK → Prop} (hr : SlR X r) (he : PE X e te) (hl : PO X lo tl) (hu : PO X hi th) : PE X (.Subscript e (.Slice lo hi none p2) pos) (tSl r te tl th) := by
  intro pins s σ H Q I h
  refine Subscript_ (thn (he pins s σ H _ I h) fun v s1 ⟨x, H1, I1, r1, q1⟩ => ?_)
  refine wpAny_Slice (thn (hl pins s1 σ H1 _ I1 q1) fun vl s2 ⟨l, H2, I2, pl, q2⟩ => thn (hu pins s2 σ H2 _ I2 q2) fun vu s3 ⟨u, H3, I3, pu, q3⟩ => ?_)
  rw [evalPart_none]
  refine wpAny_pure ?_
  have I4 : Inv X pins σ H3 { s3 with heap := s3.heap.push { cls := .type "slice", data := .fields #[vl, vu, .none] } } := I3.kept (t' := s3.toks) fun b ob q => Heap.get?_push_of_some _ q
  obtain ⟨T, id, hT, ht, hg⟩ := hr pins { s3 with heap := s3.heap.push { cls := .type "slice", data := .fields #[vl, vu, .none] } } σ H3 x v vl vu l u s3.heap.objs.size Q I4 r1 (Heap.IsSliceOf.new ..) pl pu q3
  show wpAny (model X.prog X.w) X.A (subscriptTail e (.Slice lo hi none p2) v (.ref s3.heap.objs.size)) (EP X pins σ Q) X.xe { s3 with heap := s3.heap.push { cls := .type "slice", data := .fields #[vl, vu, .none] } }
  exact tail_any (ops := [.ref s3.heap.objs.size, v]) ht hT hg (by with_unfolding_all rfl)
def cutV (xs : List V) (lo hi : Option Int) : List V := (xs.drop (HT.sIx xs.length 0 lo)).take (HT.sIx xs.length xs.length hi - HT.sIx xs.length 0 lo)
theorem cutV_length (xs : List V) (lo hi : Option Int) : (cutV xs lo hi).length ≤ xs.length := by
  unfold cutV
  rw [List.length_take, List.length_drop]
  omega
def rLtT (K : PySem.W.Frag) : R2 := fun x y H Q => ∃ a b ns ms, x = .ref a ∧ y = .ref b ∧ SqT K H a (ns.map V.int) ∧ SqT K H b (ms.map V.int) ∧ Q (.bl (HT.lexLt ns ms)) H
theorem op_ltT (hu : X.A.units < cLine) : OpR X (compareOp .Lt) (rLtT X.K) := by
  intro pins s σ H x y v u Q I rx ry h
  obtain ⟨a, b, ns, ms, rfl, rfl, ha, hb, q⟩ := h
  cases rx
  cases ry
  obtain ⟨its, r1, p1, _⟩ := I.tuple ha
  obtain ⟨its2, r2, p2, _⟩ := I.tuple hb
  have i1 : IntsAre its.toArray.toList ns := intsAre_of r1
  have i2 : IntsAre its2.toArray.toList ms := intsAre_of r2
  exact HT.lt_tupInts p1 p2 i1 i2 hu ⟨.bl (HT.lexLt ns ms), H, I, rfl, q⟩
theorem Vals.nil_iff {xs : List V} {us : List Value} (r : Vals xs us) : us = [] ↔ xs = [] := by
  cases r with
  | nil => simp
  | cons _ _ => simp
end
end L2
namespace L2
open PySem PySem.Spec PyProof.Rows
def ixN (n : Nat) (i : Int) : Option Nat := if 0 ≤ i then (if i < n then some i.toNat else none) else if -(n : Int) ≤ i then some (i + n).toNat else none
def atI {α : Type} (xs : List α) (i : Int) : Option α := (ixN xs.length i).bind fun j => xs[j]?
theorem ixN_seq {n : Nat} {i : Int} {j : Nat} (h : ixN n i = some j) : seqIndex? i n = some j ∧ j < n ∧ -(n : Int) ≤ i ∧ i < n := by
  unfold ixN at h
  by_cases h0 : 0 ≤ i
  · rw [if_pos h0] at h
    by_cases h1 : i < n
    · rw [if_pos h1] at h
      have e : i.toNat = j := Option.some.inj h
      exact ⟨by rw [seqIndex_of h0 h1, e], by omega, by omega, h1⟩
    · rw [if_neg h1] at h; cases h
  · rw [if_neg h0] at h
    by_cases h1 : -(n : Int) ≤ i
    · rw [if_pos h1] at h
      have e : (i + n).toNat = j := Option.some.inj h
      exact ⟨by rw [seqIndex_neg (by omega) h1, e], by omega, h1, by omega⟩
    · rw [if_neg h1] at h; cases h
theorem atI_get {α : Type} {xs : List α} {i : Int} {v : α} (h : atI xs i = some v) : ∃ j, seqIndex? i xs.length = some j ∧ xs[j]? = some v ∧ j < xs.length ∧ -(xs.length : Int) ≤ i ∧ i < xs.length := by
  unfold atI at h
  cases e : ixN xs.length i with
  | none => rw [e] at h; cases h
  | some j =>
    rw [e] at h
    obtain ⟨h1, h2, h3, h4⟩ := ixN_seq e
    exact ⟨j, h1, h, h2, h3, h4⟩
theorem atI_nat {α : Type} {xs : List α} {j : Nat} {v : α} (h : xs[j]? = some v) : atI xs (j : Int) = some v := by
  have hj : j < xs.length := (List.getElem?_eq_some_iff.mp h).1
  have e : ixN xs.length (j : Int) = some j := by
    unfold ixN
    rw [if_pos (by omega), if_pos (by omega)]; simp
  unfold atI; rw [e]; exact h
def PlainIx (b : Expr) : Prop := ∀ o i, subscripted b false o i = operate [o, i] (getItem o i)
def IxR (X : Cx) (r : R2) : Prop :=
  ∀ (value slice : Expr) (pins : List (Addr × Obj)) (s : Shared) (σ : St) (H : Hp) (x y : V) (v u : Value) (Q : VK), Inv X pins σ H s → RelV x v → RelV y u → r x y H Q →
    subscripted slice false v u = operate [v, u] (getItem v u) → wpAny (model X.prog X.w) X.A (subscriptTail value slice v u) (EP X pins σ Q) X.xe s
def MtR (X : Cx) (id : String) (r : V → List V → Hp → VK → Prop) : Prop :=
  ∀ (pins : List (Addr × Obj)) (s : Shared) (σ : St) (H : Hp) (x : V) (xs : List V) (v : Value) (us : List Value) (Q : VK), Inv X pins σ H s → RelV x v → Vals xs us → r x xs H Q →
    wpAny (model X.prog X.w) X.A (call (.builtin id) (v :: us)) (EP X pins σ Q) X.xe s
section
variable {X : Cx} {a b : Expr} {ta tb : TE} {pos : Pos}
theorem pe_ix {r : R2} (hr : IxR X r) (ha : PE X a ta) (hb : PE X b tb) (hs : PlainIx b) : PE X (.Subscript a b pos) (tOp r ta tb) := by
  intro pins s σ H Q I h
  exact Subscript_ (binT ha hb I h fun v u s2 x y H2 I2 rx ry q => hr a b pins s2 σ H2 x y v u Q I2 rx ry q (hs _ _))
def rIxL (K : PySem.W.Frag) : R2 := fun x y H Q => ∃ p xs i v, x = .ref p ∧ y = .int i ∧ SqL K H p xs ∧ atI xs i = some v ∧ Q v H
def rIxT (K : PySem.W.Frag) : R2 := fun x y H Q => ∃ p xs i v, x = .ref p ∧ y = .int i ∧ SqT K H p xs ∧ atI xs i = some v ∧ Q v H
theorem ix_list : IxR X (rIxL X.K) := by
  intro value slice pins s σ H x y v u Q I rx ry h hs
  obtain ⟨p, xs, i, z, rfl, rfl, hq, he, q⟩ := h
  cases rx
  obtain ⟨t, rfl⟩ := ry
  obtain ⟨its, r, pl, hz⟩ := I.list hq
  obtain ⟨j, h1, h2, h3, h4, h5⟩ := atI_get he
  obtain ⟨w, ew, rw'⟩ := r.get h2
  have hl := r.length
  have hn := line63
  have fin : EP X pins σ Q w s := ⟨z, H, I, rw', q⟩
  by_cases h0 : 0 ≤ i
  · have hj : i.toNat = j := by
      rw [seqIndex_of h0 h5] at h1
      exact Option.some.inj h1
    exact item_listR pl.isList h0 (by omega) (by rw [hj]; simpa using ew) fin hs
  · have hj : (i + (its.toArray.size : Int)).toNat = j := by
      rw [seqIndex_neg (by omega) h4] at h1
      rw [List.size_toArray, ← hl]
      exact Option.some.inj h1
    exact subscriptTail_builtinR (x := w) pl.isList.typeIs slot_list_getitem.lookup
      (wpAny_getItem_list_neg (Q := fun r s' => r = w ∧ EP X pins σ Q r s') pl.isList (by omega) (by rw [List.size_toArray] <;> omega) (by omega) (by rw [hj]; simpa using ew) ⟨rfl, fin⟩) hs
theorem ix_tup : IxR X (rIxT X.K) := by
  intro value slice pins s σ H x y v u Q I rx ry h hs
  obtain ⟨p, xs, i, z, rfl, rfl, hq, he, q⟩ := h
  cases rx
  obtain ⟨t, rfl⟩ := ry
  obtain ⟨its, r, pl, hz⟩ := I.tuple hq
  obtain ⟨j, h1, h2, h3, h4, h5⟩ := atI_get he
  obtain ⟨w, ew, rw'⟩ := r.get h2
  have hl := r.length
  have hn := line63
  have fin : EP X pins σ Q w s := ⟨z, H, I, rw', q⟩
  exact subscriptTail_builtinR (x := w) pl.typeIs slot_tuple_getitem.lookup
    (getItem_tuple (j := j) (Q := fun r s' => r = w ∧ EP X pins σ Q r s') pl (by omega) (by omega) (by rw [List.size_toArray, ← hl]; exact h1) (by simpa using ew) ⟨rfl, fin⟩) hs
theorem mapSeq_set (its : List Value) (n j : Nat) (u : Value) : Obj.mapSeq (·.setIfInBounds j u) { cls := .type "list", data := .seq its.toArray n } = { cls := .type "list", data := .seq (its.set j u).toArray n } := by
  simp [Obj.mapSeq]
theorem Inv.lst {pins : List (Addr × Obj)} {σ : St} {H : Hp} {s : Shared} {p : Addr} {xs : List V} (I : Inv X pins σ H s) (h : H p = some (.lst xs)) :
    ∃ (its : List Value) (n : Nat), Vals xs its ∧ s.heap.get? p = some { cls := .type "list", data := .seq its.toArray n } ∧ xs.length ≤ sizeLine := by
  obtain ⟨z, its, n, r, e⟩ := I.hok p _ h
  exact ⟨its, n, r, e, z⟩
theorem Inv.lstUpd {pins : List (Addr × Obj)} {σ : St} {H : Hp} {s : Shared} {p : Addr} {xs ys : List V} {its its' : List Value} {n n' : Nat} {f : Obj → Obj} (I : Inv X pins σ H s) (h : H p = some (.lst xs))
    (ho : s.heap.get? p = some { cls := .type "list", data := .seq its.toArray n }) (hf : f { cls := .type "list", data := .seq its.toArray n } = { cls := .type "list", data := .seq its'.toArray n' }) (r : Vals ys its') (hz : ys.length ≤ sizeLine) (t : Nat) :
    Inv X pins σ (upd H p (.lst ys)) { s with heap := s.heap.update p f, toks := t } := by
  have e : (s.heap.update p f).get? p = some { cls := .type "list", data := .seq its'.toArray n' } := by
    rw [Heap.get?_update_self f ho (by rw [hf] <;> rfl), hf]
  refine I.write (x := p) (e := p) (by rw [h]; trivial) (.inl rfl) (fun b u hb q => (Heap.get?_update_other _ _ (Ne.symm hb)).trans q) ⟨_, e⟩ ?_
  exact ⟨hz, its', n', r, e⟩
def rSetL : V → V → V → Hp → (Hp → Prop) → Prop := fun o i v H Q => ∃ p xs k j, o = .ref p ∧ i = .int k ∧ H p = some (.lst xs) ∧ ixN xs.length k = some j ∧ Q (upd H p (.lst (xs.set j v)))
theorem set_list : PSet X rSetL := by
  intro pins s σ H o i v ov iv u Q I ro ri rv h
  obtain ⟨p, xs, k, j, rfl, rfl, hp, hj, q⟩ := h
  cases ro
  obtain ⟨t, rfl⟩ := ri
  obtain ⟨its, n, r, ho, hz⟩ := I.lst hp
  obtain ⟨h1, h2, h3, h4⟩ := ixN_seq hj
  have hl := r.length
  have hn := line63
  have I' : Inv X pins σ (upd H p (.lst (xs.set j v))) { s with heap := s.heap.update p (Obj.mapSeq (·.setIfInBounds j u)) } :=
    I.lstUpd hp ho (mapSeq_set its n j u) (r.set rv j) (by rw [List.length_set]; exact hz) s.toks
  by_cases h0 : 0 ≤ k
  · have hk : k.toNat = j := by
      rw [seqIndex_of h0 h4] at h1
      exact Option.some.inj h1
    exact PySem.W.ki_setAt ho h0 (by omega) (by rw [List.size_toArray, ← hl]; exact h4) (by rw [hk]; exact ⟨_, I', q⟩)
  · have hk : (k + (its.toArray.size : Int)).toNat = j := by
      rw [seqIndex_neg (by omega) h3] at h1
      rw [List.size_toArray, ← hl]
      exact Option.some.inj h1
    exact PySem.W.ki_setBack ho (by omega) (by rw [List.size_toArray, ← hl]; exact h3) (by omega) (by rw [hk]; exact ⟨_, I', q⟩)
theorem slice_bounds (lo hi : Option Int) (n : Nat) : (sliceBounds lo hi none n).1 = ((HT.sIx n 0 lo : Nat) : Int) ∧ (sliceBounds lo hi none n).2.1 = ((HT.sIx n n hi : Nat) : Int) ∧ (sliceBounds lo hi none n).2.2 = 1 := by
  refine ⟨?_, ?_, rfl⟩
  · cases lo with
    | none => simp [sliceBounds, HT.sIx]
    | some i =>
      simp only [sliceBounds, HT.sIx, Option.getD_none, show (1 : Int) > 0 by decide, if_true]
      by_cases h : i < 0
      · simp only [h, if_true] <;> omega
      · simp only [h, if_false] <;> omega
  · cases hi with
    | none => simp [sliceBounds, HT.sIx]
    | some i =>
      simp only [sliceBounds, HT.sIx, Option.getD_none, show (1 : Int) > 0 by decide, if_true]
      by_cases h : i < 0
      · simp only [h, if_true] <;> omega
      · simp only [h, if_false] <;> omega
theorem slicePick_cut (its : List Value) (lo hi : Option Int) : slicePick its.toArray lo hi none = ((its.drop (HT.sIx its.length 0 lo)).take (HT.sIx its.length its.length hi - HT.sIx its.length 0 lo)).toArray := by
  obtain ⟨h1, h2, h3⟩ := slice_bounds lo hi its.toArray.size
  unfold slicePick
  rw [h1, h2, h3]
  simp only [sliceRange_one, pick_run, List.size_toArray] <;> rfl
def rSlL (K : PySem.W.Frag) : V → Option Int → Option Int → Hp → VK → Prop := fun x lo hi H Q => ∃ a xs, x = .ref a ∧ SqL K H a xs ∧ ∀ p, H p = none → Q (.ref p) (upd H p (.lst (cutV xs lo hi)))
theorem sl_list : SlR X (rSlL X.K) := by
  intro pins s σ H x v vl vu lo hi sl Q I rx hs pl pu h
  obtain ⟨a, xs, rfl, hx, q⟩ := h
  cases rx
  obtain ⟨its, r, ht, hz⟩ := I.list hx
  have hlen := r.length
  refine ⟨"list", _, slot_list_getitem.lookup, ht.isList.typeIs, ?_⟩
  refine wpAny_getItem_list_slice ht.isList hs pl pu .none (by simp) ?_ (by rw [List.size_toArray] <;> omega)
  rw [slicePick_cut, ← hlen]
  refine ⟨.ref s.heap.objs.size, _, I.laid (t' := s.toks) (o := .lst (cutV xs lo hi)) (fun b ob q => Heap.get?_push_of_some _ q) (Nat.le_refl _) ?_, rfl, q _ (I.hok.fresh (Nat.le_refl _))⟩
  exact ⟨Nat.le_trans (cutV_length xs lo hi) hz, _, 0, (r.drop (HT.sIx xs.length 0 lo)).take (HT.sIx xs.length xs.length hi - HT.sIx xs.length 0 lo), Heap.get?_push_size _ rfl⟩
def flatV : V → Bool
  | .non => true
  | .bl _ => true
  | .int _ => true
  | .str _ => true
  | _ => false
def eqV : V → V → Bool
  | .non, .non => true
  | .bl a, .bl b => a == b
  | .bl a, .int b => (if a then 1 else 0) == b
  | .int a, .bl b => a == (if b then 1 else 0)
  | .int a, .int b => a == b
  | .str a, .str b => a == b
  | _, _ => false
theorem eqAt_V {A : Around} {s : Shared} {y x : V} {u v : Value} (ry : RelV y u) (rx : RelV x v) (fy : flatV y = true) (fx : flatV x = true) : SeqAt.EqAt A s u v (eqV y x) := by
  cases y with
  | non =>
    cases ry
    cases x with
    | non => cases rx; exact SeqAt.EqAt.same _
    | bl b => cases rx; exact SeqAt.EqAt.none_bool b
    | int b => obtain ⟨t, rfl⟩ := rx; exact SeqAt.EqAt.none_int b t
    | str b => obtain ⟨t, rfl⟩ := rx; exact SeqAt.EqAt.none_str b t
    | _ => exact absurd (show false = true from fx) Bool.false_ne_true
  | bl a =>
    cases ry
    cases x with
    | non => cases rx; exact SeqAt.EqAt.bool_none a
    | bl b => cases rx; exact SeqAt.EqAt.bool_bool a b
    | int b => obtain ⟨t, rfl⟩ := rx; exact SeqAt.EqAt.bool_int a b t
    | str b => obtain ⟨t, rfl⟩ := rx; exact SeqAt.EqAt.bool_str a b t
    | _ => exact absurd (show false = true from fx) Bool.false_ne_true
  | int a =>
    obtain ⟨t', rfl⟩ := ry
    cases x with
    | non => cases rx; exact SeqAt.EqAt.int_none a t'
    | bl b => cases rx; exact SeqAt.EqAt.int_bool a t' b
    | int b => obtain ⟨t, rfl⟩ := rx; exact SeqAt.EqAt.int_int a t' b t
    | str b => obtain ⟨t, rfl⟩ := rx; exact SeqAt.EqAt.int_str a t' b t
    | _ => exact absurd (show false = true from fx) Bool.false_ne_true
  | str a =>
    obtain ⟨t', rfl⟩ := ry
    cases x with
    | non => cases rx; exact SeqAt.EqAt.str_none a t'
    | bl b => cases rx; exact SeqAt.EqAt.str_bool a t' b
    | int b => obtain ⟨t, rfl⟩ := rx; exact SeqAt.EqAt.str_int a t' b t
    | str b => obtain ⟨t, rfl⟩ := rx; exact SeqAt.EqAt.str_str a t' b t
    | _ => exact absurd (show false = true from fx) Bool.false_ne_true
  | _ => exact absurd (show false = true from fy) Bool.false_ne_true
def eqU (x : V) (u : Value) : Bool := match u with
  | .none => eqV .non x
  | .bool b => eqV (.bl b) x
  | .int i _ => eqV (.int i) x
  | .str z _ => eqV (.str z) x
  | _ => false
theorem eqU_of {x y : V} {u : Value} (r : RelV y u) (f : flatV y = true) : eqU x u = eqV y x := by
  cases y with
  | non => cases r; rfl
  | bl b => cases r; rfl
  | int i => obtain ⟨t, rfl⟩ := r; rfl
  | str z => obtain ⟨t, rfl⟩ := r; rfl
  | _ => exact absurd (show false = true from f) Bool.false_ne_true
theorem mem_eqAt {A : Around} {s : Shared} {x : V} {v : Value} (rx : RelV x v) (fx : flatV x = true) : ∀ {xs : List V} {us : List Value}, Vals xs us → xs.all flatV = true → ∀ u ∈ us, SeqAt.EqAt A s u v (eqU x u)
  | _, _, .nil, _ => fun u hu => by cases hu
  | y :: xs, u :: us, .cons r t, f => fun u' hu => by
    rw [List.all_cons, Bool.and_eq_true] at f
    rcases List.mem_cons.mp hu with rfl | hu
    · rw [eqU_of r f.1]; exact eqAt_V r rx f.1 fx
    · exact mem_eqAt rx fx t f.2 u' hu
theorem call_len_seq : CallR X (.builtin "len") (fun xs H Q => ∃ p ys, xs = [.ref p] ∧ (SqL X.K H p ys ∨ SqT X.K H p ys) ∧ Q (.int ys.length) H) := by
  intro pins s σ H xs us Q I r h
  obtain ⟨p, ys, rfl, hq, q⟩ := h
  obtain ⟨u, rfl, rx⟩ := vals1 r
  cases rx
  have hn := line63
  rcases hq with hq | hq
  · obtain ⟨its, r', pl, hz⟩ := I.list hq
    have hlen := r'.length
    exact Calls.call_len_list pl.isList (by simp only [List.size_toArray] <;> omega) ⟨.int ys.length, H, I.tok _, ⟨s.toks + 1, by rw [List.size_toArray, hlen]⟩, q⟩
  · obtain ⟨its, r', pl, hz⟩ := I.tuple hq
    have hlen := r'.length
    exact len_tuple pl (by simp only [List.size_toArray] <;> omega) ⟨.int ys.length, H, I.tok _, ⟨s.toks + 1, by rw [List.size_toArray, hlen]⟩, q⟩
theorem call_list_of : CallR X (.type "list") (fun xs H Q => ∃ p ys, xs = [.ref p] ∧ (SqL X.K H p ys ∨ SqT X.K H p ys) ∧ ∀ l, H l = none → Q (.ref l) (upd H l (.lst ys))) := by
  intro pins s σ H xs us Q I r h
  obtain ⟨p, ys, rfl, hq, q⟩ := h
  obtain ⟨u, rfl, rx⟩ := vals1 r
  cases rx
  have fin : ∀ (its : List Value), Vals ys its → ys.length ≤ sizeLine → ∀ (h' : Heap) (c' : Nat), (∀ b o', s.heap.get? b = some o' → h'.get? b = some o') →
      h'.get? s.heap.objs.size = some { cls := .type "list", dict := none, data := .seq its.toArray c', slots := #[] } → EP X pins σ Q (.ref s.heap.objs.size) { s with heap := h' } := fun its r' hz h' c' kp e =>
    ⟨.ref s.heap.objs.size, _, I.laid (t' := s.toks) kp (Nat.le_refl _) (show ObjOk X.prog X.w _ h' _ (.lst ys) from ⟨hz, its, c', r', e⟩), rfl, q _ (I.hok.fresh (Nat.le_refl _))⟩
  rcases hq with hq | hq
  · obtain ⟨its, r', pl, hz⟩ := I.list hq
    have hlen := r'.length
    obtain ⟨o, ho, hc, n, hd⟩ := pl.isList
    exact call_list_seq p (.inl rfl) ho hc hd (fun h' c' kp e => fin its r' hz h' c' kp e) (by simp only [List.size_toArray] <;> omega)
  · obtain ⟨its, r', pl, hz⟩ := I.tuple hq
    have hlen := r'.length
    obtain ⟨o, ho, hc, n, hd⟩ := pl
    exact call_list_seq p (.inr rfl) ho hc hd (fun h' c' kp e => fin its r' hz h' c' kp e) (by simp only [List.size_toArray] <;> omega)
theorem call_tuple_of : CallR X (.type "tuple") (fun xs H Q => ∃ p ys, xs = [.ref p] ∧ ((SqL X.K H p ys ∧ ∀ l, H l = none → Q (.ref l) (upd H l (.tup ys))) ∨ (SqT X.K H p ys ∧ Q (.ref p) H))) := by
  intro pins s σ H xs us Q I r h
  obtain ⟨p, ys, rfl, h⟩ := h
  obtain ⟨u, rfl, rx⟩ := vals1 r
  cases rx
  rcases h with ⟨hq, q⟩ | ⟨hq, q⟩
  · obtain ⟨its, r', pl, hz⟩ := I.list hq
    have hlen := r'.length
    refine call_tuple_list pl.isList (fun h' kp => ?_) (by simp only [List.size_toArray] <;> omega)
    have I1 : Inv X pins σ H { s with heap := h' } := I.kept (t' := s.toks) kp
    have I2 : Inv X pins σ (upd H h'.objs.size (.tup ys)) { s with heap := h'.push { cls := .type "tuple", data := .seq its.toArray } } :=
      I1.laid (t' := s.toks) (fun b o e => Heap.get?_push_of_some _ e) (Nat.le_refl _) (show ObjOk X.prog X.w _ _ _ (.tup ys) from ⟨hz, its, r', IsTup.new _ _⟩)
    exact ⟨.ref h'.objs.size, _, I2, rfl, q _ (I1.hok.fresh (Nat.le_refl _))⟩
  · obtain ⟨its, r', pl, hz⟩ := I.tuple hq
    exact call_tuple_same pl ⟨.ref p, H, I, rfl, q⟩
def tyV (K : PySem.W.Frag) (T : String) (x : V) (H : Hp) : Prop := match x with
  | .str _ => T = "str"
  | .int _ => T = "int"
  | .ref p => (T = "list" ∧ ∃ xs, SqL K H p xs) ∨ (T = "tuple" ∧ ∃ o, K.lookup p = some o ∧ o.cls = .type "tuple" ∧ o.dict = none) ∨
      (T = "dict" ∧ ((∃ kvs, H p = some (.dK kvs)) ∨ ∃ kvs, H p = some (.dT kvs))) ∨ (T = "set" ∧ ∃ S n, H p = some (.set S n))
  | _ => False
theorem tyV_is {pins : List (Addr × Obj)} {σ : St} {H : Hp} {s : Shared} {T : String} {x : V} {v : Value} (I : Inv X pins σ H s) (r : RelV x v) (ty : tyV X.K T x H) :
    s.TypeIs v T ∧ ∀ a, v = .ref a → ∃ ob, s.heap.get? a = some ob ∧ ob.dict = none := by
  cases x with
  | str z =>
    obtain ⟨t, rfl⟩ := r
    cases (show T = "str" from ty)
    exact ⟨typeIs_str s z t, fun _ e => nomatch e⟩
  | int i =>
    obtain ⟨t, rfl⟩ := r
    cases (show T = "int" from ty)
    exact ⟨typeIs_int s i t, fun _ e => nomatch e⟩
  | ref p =>
    cases r
    rcases ty with ⟨rfl, xs, hq⟩ | ⟨rfl, o, hk, hc, hd⟩ | ⟨rfl, hk⟩ | ⟨rfl, S, n, hk⟩
    · obtain ⟨its, _, pl, _⟩ := I.list hq
      refine ⟨pl.isList.typeIs, fun a e => ?_⟩
      cases e
      obtain ⟨o, n, e, c, hd, _⟩ := pl
      exact ⟨o, e, hd⟩
    · refine ⟨⟨o, I.kIn p o hk, hc⟩, fun a e => ?_⟩
      cases e
      exact ⟨o, I.kIn _ o hk, hd⟩
    · have z : ∃ o, s.heap.get? p = some o ∧ o.ExactDict := by
        rcases hk with ⟨kvs, hk⟩ | ⟨kvs, hk⟩
        · obtain ⟨_, _, _, _, o, _, _, e, ex, _⟩ := I.hok p _ hk
          exact ⟨o, e, ex⟩
        · obtain ⟨_, _, _, _, o, _, _, e, ex, _⟩ := I.hok p _ hk
          exact ⟨o, e, ex⟩
      obtain ⟨o, e, ex⟩ := z
      refine ⟨⟨o, e, ex.1⟩, fun a e2 => ?_⟩
      cases e2
      exact ⟨o, e, ex.2.1⟩
    · obtain ⟨o, _, _, _, e, ex, _⟩ := I.hok p _ hk
      refine ⟨⟨o, e, ex.1⟩, fun a e2 => ?_⟩
      cases e2
      exact ⟨o, e, ex.2.1⟩
  | _ => exact False.elim ty
def tBM0 (K : PySem.W.Frag) (T : String) (r : V → List V → Hp → VK → Prop) (to : TE) : TE := fun σ H Q => to σ H fun x H1 => tyV K T x H1 ∧ r x [] H1 Q
def tBM (K : PySem.W.Frag) (T : String) (r : V → List V → Hp → VK → Prop) (to : TE) (t : TA) : TE := fun σ H Q => to σ H fun x H1 => tyV K T x H1 ∧ t σ H1 fun xs H2 => r x xs H2 Q
variable {o e : Expr} {es : List Expr} {to : TE} {t : TA} {name : Str} {apos cpos : Pos} {T id : String} {r : V → List V → Hp → VK → Prop}
theorem pe_bm0 (pa : PlainAttrs T) (slot : Slot T name id) (hty : typeOf (.builtin id) = pure (.type "method_descriptor")) (hm : MtR X id r) (ho : PE X o to)
    (hbase : attributeBase o name X.env (eval o X.env) = eval o X.env := by rfl) (hline : (apos.endLine == cpos.line) = true := by rfl) : PE X (.Call (.Attribute o name apos) [] [] cpos) (tBM0 X.K T r to) := by
  intro pins s σ H Q I h
  refine wpAny_Call_method0_late hbase hline (thn (ho pins s σ H _ I h) fun v s1 ⟨x, H1, I1, r1, ty, q1⟩ => ?_)
  obtain ⟨h1, h2⟩ := tyV_is I1 r1 ty
  exact ⟨T, id, pa, slot, hty, h1, h2, Calls.callWith_builtin rfl (PySem.evalArgs_none (hm pins s1 σ H1 x [] v [] Q I1 r1 .nil q1))⟩
theorem pe_bm (pa : PlainAttrs T) (slot : Slot T name id) (hty : typeOf (.builtin id) = pure (.type "method_descriptor")) (hm : MtR X id r) (ho : PE X o to) (ha : PA X (e :: es) t)
    (hbase : attributeBase o name X.env (eval o X.env) = eval o X.env := by rfl)
    (hfew : ((backTo cpos (starEach (e :: es) X.env)).all (fun x => !x.1) && (backToKw cpos (keywordEach [] X.env)).all (fun x => x.1.isSome)
      && decide ((e :: es).length + ([] : List Keyword).length + (if ([] : List Keyword).isEmpty then 0 else 1) < 30)) = true := by rfl)
    (hline : (apos.endLine == cpos.line) = true := by rfl) (hs : starEach (e :: es) X.env = (false, eval e X.env) :: starEach es X.env := by rfl) (hplain : (backTo cpos (starEach es X.env)).any (·.1) = false := by rfl) :
    PE X (.Call (.Attribute o name apos) (e :: es) [] cpos) (tBM X.K T r to t) := by
  intro pins s σ H Q I h
  refine wpAny_Call_method_late hbase hfew hline rfl (thn (ho pins s σ H _ I h) fun v s1 ⟨x, H1, I1, r1, ty, q1⟩ => ?_)
  obtain ⟨h1, h2⟩ := tyV_is I1 r1 ty
  refine ⟨T, id, pa, slot, hty, h1, h2, ?_⟩
  have hA := ha cpos pins s1 σ H1 _ I1 q1
  rw [hs] at hA ⊢
  refine Calls.callWith_builtin (by show (false || (backTo cpos (starEach es X.env)).any (·.1)) = false; rw [hplain] <;> rfl) (Calls.evalArgs_plain ?_)
  exact thn hA fun us s2 ⟨vs, H2, I2, r2, q2⟩ => hm pins s2 σ H2 x vs v us Q I2 r1 r2 q2
end
end L2
namespace L2
open PySem PySem.Spec PyProof.Rows
def MtM (X : Cx) (id : String) (r : V → List V → Hp → VK → Prop) : Prop :=
  ∀ (pins : List (Addr × Obj)) (s : Shared) (σ : St) (H : Hp) (x : V) (xs : List V) (v : Value) (us : List Value) (Q : VK), Inv X pins σ H s → RelV x v → Vals xs us → r x xs H Q →
    wpAny (model X.prog X.w) X.A (call (.builtin id) (v :: us)) (EP X pins σ Q) X.xe s
theorem Vals.one : ∀ {x : V} {us : List Value}, Vals [x] us → ∃ u, us = [u] ∧ RelV x u
  | _, _, .cons r .nil => ⟨_, rfl, r⟩
theorem Vals.zero : ∀ {us : List Value}, Vals [] us → us = []
  | _, .nil => rfl
theorem Vals.eraseIdx : ∀ {xs : List V} {us : List Value} (i : Nat), Vals xs us → Vals (xs.eraseIdx i) (us.eraseIdx i)
  | _, _, _, .nil => .nil
  | _, _, 0, .cons _ t => t
  | _, _, i + 1, .cons r t => .cons r (Vals.eraseIdx i t)
theorem Vals.rep {xs : List V} {us : List Value} (h : Vals xs us) : ∀ k : Nat, Vals (List.replicate k xs).flatten (List.replicate k us).flatten
  | 0 => .nil
  | k + 1 => by
    rw [List.replicate_succ, List.replicate_succ, List.flatten_cons, List.flatten_cons]
    exact Vals.append h (Vals.rep h k)
theorem len_erase {α : Type} : ∀ (l : List α) (i : Nat), (l.eraseIdx i).length ≤ l.length
  | [], _ => Nat.le_refl _
  | _ :: _, 0 => Nat.le_succ _
  | _ :: r, i + 1 => Nat.succ_le_succ (len_erase r i)
theorem foldl_rep (its : List Value) : ∀ (k : Nat) (acc : List Value),
    List.foldl (fun x1 x2 => x1 ++ x2) acc.toArray (List.replicate k its.toArray) = (acc ++ (List.replicate k its).flatten).toArray
  | 0, acc => by simp
  | k + 1, acc => by
    have e : acc.toArray ++ its.toArray = (acc ++ its).toArray := by simp
    have e2 : (acc ++ its) ++ (List.replicate k its).flatten = acc ++ (List.replicate (k + 1) its).flatten := by
      rw [List.replicate_succ, List.flatten_cons, List.append_assoc]
    rw [← e2, ← foldl_rep its k (acc ++ its), ← e, List.replicate_succ, List.foldl_cons]
section
variable {X : Cx} {pins : List (Addr × Obj)} {σ : St} {H : Hp} {s : Shared} {l b : Addr} {xs ys zs : List V}
theorem Inv.lset {its its' : List Value} {n : Nat} {f : Array Value → Array Value} {t' : Nat} (I : Inv X pins σ H s) (hH : H l = some (.lst xs))
    (e : s.heap.get? l = some { cls := .type "list", data := .seq its.toArray n }) (hf : f its.toArray = its'.toArray) (hv : Vals ys its') (hz : ys.length ≤ sizeLine) :
    Inv X pins σ (upd H l (.lst ys)) { s with heap := s.heap.update l (Obj.mapSeq f), toks := t' } := by
  have q := PySem.IsL.update e f
  rw [hf] at q
  refine I.write (x := l) (e := l) (by rw [hH]; exact trivial) (.inl rfl) (fun b' u hb hu => (Heap.get?_update_other s.heap (Obj.mapSeq f) (Ne.symm hb)).trans hu) ⟨_, q⟩ ?_
  exact ⟨hz, its', _, hv, q⟩
theorem Inv.lnew {its : List Value} {t' : Nat} (I : Inv X pins σ H s) (hv : Vals ys its) (hz : ys.length ≤ sizeLine) :
    Inv X pins σ (upd H s.heap.objs.size (.lst ys)) { s with heap := s.heap.push { cls := .type "list", data := .seq its.toArray }, toks := t' } :=
  I.laid (fun _ _ q => Heap.get?_push_of_some _ q) (Nat.le_refl _) ⟨hz, its, 0, hv, Heap.get?_push_size _ rfl⟩
theorem Inv.fresh (I : Inv X pins σ H s) : H s.heap.objs.size = none := I.hok.fresh (Nat.le_refl _)
theorem Inv.lstM (I : Inv X pins σ H s) (hH : H l = some (.lst xs)) : xs.length ≤ sizeLine ∧ ∃ (its : List Value) (n : Nat), Vals xs its ∧ xs.length = its.length ∧ s.heap.get? l = some { cls := .type "list", data := .seq its.toArray n } := by
  obtain ⟨z, its, n, r, e⟩ := I.hok l _ hH
  exact ⟨z, its, n, r, r.length, e⟩
theorem notLongL {n : Nat} (h : n ≤ sizeLine) : Builtin.List.listTooLong n = false := by
  unfold Builtin.List.listTooLong
  exact decide_eq_false (by omega)
end
section
variable {X : Cx}
def rAppend : V → List V → Hp → VK → Prop := fun x vs H Q => ∃ l xs y, x = .ref l ∧ vs = [y] ∧ H l = some (.lst xs) ∧ xs.length < sizeLine ∧ Q .non (upd H l (.lst (xs ++ [y])))
theorem mt_append : MtM X "list.append" rAppend := by
  intro pins s σ H x vs v us Q I rx rv h
  obtain ⟨l, xs, y, rfl, rfl, hH, hz, q⟩ := h
  cases rx
  obtain ⟨u, rfl, ru⟩ := rv.one
  obtain ⟨z, its, n, r, hl, e⟩ := I.lstM hH
  refine call_meets F.slot_list_append ⟨_, e, rfl⟩ F.entry_list_append (F.args_list_append_2 _ _) (PySem.list_append l its.toArray n u (by rw [List.size_toArray]; omega)) ⟨e, ?_⟩
  refine ⟨.non, _, I.lset (its' := its ++ [u]) hH e (by simp) (r.append (.cons ru .nil)) ?_, rfl, q⟩
  rw [List.length_append, List.length_singleton]
  omega
def rExtend : V → List V → Hp → VK → Prop := fun x vs H Q => ∃ l b xs zs, x = .ref l ∧ vs = [.ref b] ∧ H l = some (.lst xs) ∧ H b = some (.lst zs) ∧ xs.length + zs.length ≤ sizeLine ∧ Q .non (upd H l (.lst (xs ++ zs)))
theorem mt_extend : MtM X "list.extend" rExtend := by
  intro pins s σ H x vs v us Q I rx rv h
  obtain ⟨l, b, xs, zs, rfl, rfl, hH, hB, hz, q⟩ := h
  cases rx
  obtain ⟨u, rfl, ru⟩ := rv.one
  cases ru
  obtain ⟨z, its, n, r, hl, e⟩ := I.lstM hH
  obtain ⟨z2, its2, n2, r2, hl2, e2⟩ := I.lstM hB
  have hsz : its.toArray.size + its2.toArray.size ≤ sizeLine := by rw [List.size_toArray, List.size_toArray]; omega
  have hlong : ¬ (!its.toArray.isEmpty && Builtin.List.listTooLong (its.toArray.size + its2.toArray.size)) = true := by
    rw [notLongL hsz, Bool.and_false]
    exact Bool.false_ne_true
  refine call_meets F.slot_list_extend ⟨_, e, rfl⟩ F.entry_list_extend (F.args_list_extend_2 _ _)
    (AutoSeq1.list_extend_list_list_0 l its.toArray n b its2.toArray n2 hlong (by rw [List.size_toArray]; omega) (by omega)) ⟨e, e2, ?_⟩
  refine ⟨.non, _, I.lset (its' := its ++ its2) hH e (by simp) (r.append r2) ?_, rfl, q⟩
  rw [List.length_append]
  omega
def rPopAt : V → List V → Hp → VK → Prop := fun x vs H Q => ∃ l xs i k y, x = .ref l ∧ vs = [.int i] ∧ H l = some (.lst xs) ∧ -(2 ^ 63) ≤ i ∧ i < 2 ^ 63 ∧ seqIndex? i xs.length = some k ∧ xs[k]? = some y ∧ Q y (upd H l (.lst (xs.eraseIdx k)))
theorem mt_popAt : MtM X "list.pop" rPopAt := by
  intro pins s σ H x vs v us Q I rx rv h
  obtain ⟨l, xs, i, k, y, rfl, rfl, hH, h1, h2, hk, hy, q⟩ := h
  cases rx
  obtain ⟨u, rfl, ru⟩ := rv.one
  obtain ⟨t, rfl⟩ := ru
  obtain ⟨z, its, n, r, hl, e⟩ := I.lstM hH
  obtain ⟨w, hw, rw'⟩ := r.get hy
  refine call_meets F.slot_list_pop ⟨_, e, rfl⟩ F.entry_list_pop (F.args_list_pop_2 _ _)
    (MeetsSeq.list_pop_at l its.toArray n i t k w (fitsIndex_both h1 h2) (by rw [List.size_toArray, ← hl]; exact hk) (by rw [← Array.getElem?_toList]; exact hw) (by rw [List.size_toArray]; omega)) ⟨e, ?_⟩
  refine ⟨y, _, I.lset (its' := its.eraseIdx k) hH e ?_ (r.eraseIdx k) ?_, rw', q⟩
  · show its.toArray.eraseIdxIfInBounds k = (its.eraseIdx k).toArray
    rw [List.eraseIdxIfInBounds_toArray]
  · have := len_erase xs k
    omega
def rClear : V → List V → Hp → VK → Prop := fun x vs H Q => ∃ l xs, x = .ref l ∧ vs = [] ∧ H l = some (.lst xs) ∧ Q .non (upd H l (.lst []))
theorem mt_clear : MtM X "list.clear" rClear := by
  intro pins s σ H x vs v us Q I rx rv h
  obtain ⟨l, xs, rfl, rfl, hH, q⟩ := h
  cases rx
  have hus := rv.zero
  subst hus
  obtain ⟨z, its, n, r, hl, e⟩ := I.lstM hH
  refine call_meets F.slot_list_clear ⟨_, e, rfl⟩ F.entry_list_clear (F.args_list_clear_1 _) (AutoSeq1.list_clear_list_0 l its.toArray n (by rw [List.size_toArray]; omega)) ⟨e, ?_⟩
  exact ⟨.non, _, I.lset (its' := []) (ys := []) hH e rfl .nil (Nat.zero_le _), rfl, q⟩
def rCat : R2 := fun x y H Q => ∃ l b xs zs, x = .ref l ∧ y = .ref b ∧ H l = some (.lst xs) ∧ H b = some (.lst zs) ∧ xs.length + zs.length ≤ sizeLine ∧ ∀ p, H p = none → Q (.ref p) (upd H p (.lst (xs ++ zs)))
theorem op_cat : OpR X (binaryOp .Add) rCat := by
  intro pins s σ H x y v u Q I rx ry h
  obtain ⟨l, b, xs, zs, rfl, rfl, hH, hB, hz, q⟩ := h
  cases rx
  cases ry
  obtain ⟨z, its, n, r, hl, e⟩ := I.lstM hH
  obtain ⟨z2, its2, n2, r2, hl2, e2⟩ := I.lstM hB
  refine PySem.P.add_list e e2 ?_ (by rw [List.size_toArray, List.size_toArray]; omega)
  have ea : its.toArray ++ its2.toArray = (its ++ its2).toArray := by simp
  rw [ea]
  exact ⟨.ref _, _, I.lnew (t' := s.toks) (r.append r2) (by rw [List.length_append]; omega), rfl, q _ I.fresh⟩
def rRep : R2 := fun x y H Q => ∃ l k xs, x = .ref l ∧ y = .int k ∧ H l = some (.lst xs) ∧ -(2 ^ 63) ≤ k ∧ k < 2 ^ 63 ∧ xs.length * k.toNat ≤ sizeLine ∧
  ∀ p, H p = none → Q (.ref p) (upd H p (.lst (List.replicate k.toNat xs).flatten))
theorem len_rep {α : Type} (xs : List α) (k : Nat) : (List.replicate k xs).flatten.length = k * xs.length := by
  induction k with
  | zero => simp
  | succ k ih => rw [List.replicate_succ, List.flatten_cons, List.length_append, ih, Nat.succ_mul, Nat.add_comm]
theorem op_rep : OpR X (binaryOp .Mult) rRep := by
  intro pins s σ H x y v u Q I rx ry h
  obtain ⟨l, k, xs, rfl, rfl, hH, h1, h2, hz, q⟩ := h
  cases rx
  obtain ⟨t, rfl⟩ := ry
  obtain ⟨z, its, n, r, hl, e⟩ := I.lstM hH
  have hlen : its.toArray.size * k.toNat ≤ sizeLine := by rw [List.size_toArray, ← hl]; exact hz
  have hcap : ¬ its.toArray.size * k.toNat > (2 ^ 63 - 1) / 8 := by
    have : (sizeLine : Nat) ≤ (2 ^ 63 - 1) / 8 := by decide
    omega
  have hfit : ¬ (!Builtin.List.listFitsIndex k) = true := by
    rw [fitsIndex_both h1 h2]
    exact Bool.false_ne_true
  have hlong : ¬ Builtin.List.listTooLong (its.toArray.size * k.toNat) = true := by
    rw [notLongL hlen]
    exact Bool.false_ne_true
  have hnew : List.foldl (fun x1 x2 => x1 ++ x2) #[] (List.replicate (if its.toArray.isEmpty = true then 0 else k.toNat) its.toArray) = (List.replicate k.toNat its).flatten.toArray := by
    have f0 : ∀ m : Nat, List.foldl (fun x1 x2 => x1 ++ x2) #[] (List.replicate m its.toArray) = (List.replicate m its).flatten.toArray := fun m => by
      have := foldl_rep its m []
      rw [List.nil_append] at this
      exact this
    rw [f0]
    cases its with
    | nil => simp
    | cons a r' => rw [if_neg (by simp)]
  refine wpAny_binaryOp_repeat_ref (T := "list") (U := "int") (by decide) ⟨_, e, rfl⟩ (fun s' => typeIs_int s' k t) noFill_list_mul F.fills_int_mul F.slot_int_rmul repeat_list F.slot_int_index.lookup
    (call_meets F.slot_int_rmul (typeIs_int s k t) F.entry_int_rmul (F.args_int_rmul_2 _ _) (int___rmul___int_list k t l its.toArray n)
      ⟨e, rfl, ⟨_, e, rfl⟩, call_meets F.slot_list_mul ⟨_, e, rfl⟩ F.entry_list_mul (F.args_list_mul_2 _ _) (AutoListH.list___mul___list_int_3 l its.toArray n k t hfit hcap hlong) ⟨e, ?_⟩⟩)
  rw [hnew]
  exact ⟨.ref _, _, I.lnew (t' := s.toks) (r.rep k.toNat) (by rw [len_rep, Nat.mul_comm]; exact hz), rfl, q _ I.fresh⟩
end
end L2
namespace L2
open PySem PySem.Spec PyProof.Rows
theorem Vals.bls : ∀ {bs : List Bool} {us : List Value}, Vals (bs.map V.bl) us → us = bs.map Value.bool
  | [], us, h => by
    rw [List.map_nil] at h
    cases h
    rfl
  | b :: bs, us, h => by
    rw [List.map_cons] at h
    cases h with
    | cons r t =>
      cases r
      rw [Vals.bls t, List.map_cons]
theorem Vals.ref1 {a : Addr} {us : List Value} (r : Vals [V.ref a] us) : us = [Value.ref a] := by
  cases r with
  | cons r t =>
    cases t
    cases r
    rfl
section
variable {X : Cx}
def rIndex (K : PySem.W.Frag) : V → List V → Hp → VK → Prop := fun x xs H Q => ∃ (a : Addr) (ys : List V) (y : V) (j : Nat) (z : V), x = V.ref a ∧ xs = [y] ∧ SqL K H a ys ∧ flatV y = true ∧ ys.all flatV = true ∧ ys[j]? = some z ∧ eqV z y = true ∧
  (∀ (m : Nat) (z' : V), m < j → ys[m]? = some z' → eqV z' y = false) ∧ Q (.int (j : Nat)) H
theorem flat_at {ys : List V} (f : ys.all flatV = true) {j : Nat} {z : V} (h : ys[j]? = some z) : flatV z = true := List.all_eq_true.mp f z (List.mem_of_getElem? h)
theorem mt_index : MtR X "list.index" (rIndex X.K) := by
  intro pins s σ H x xs v us Q I rx rxs h
  obtain ⟨a, ys, y, j, z, rfl, rfl, hs, fy, fys, hz, hzj, hno, q⟩ := h
  cases rx
  cases rxs with
  | cons ry rt =>
    rename_i uy ut
    cases rt
    obtain ⟨its, rv, ⟨⟨cls, dd, data, sl⟩, n, ho, hc, hdn, hd⟩, hlen⟩ := I.list hs
    simp only at hc hd
    subst hc hd
    obtain ⟨u, hu, ru⟩ := rv.get hz
    obtain ⟨hjl, hje⟩ := List.getElem?_eq_some_iff.mp hu
    have hvl := rv.length
    have hj : j < its.toArray.size := by simpa using hjl
    have hsl := sizeLine_eq
    refine call_meets PySem.F.slot_list_index ⟨_, ho, rfl⟩ PySem.F.entry_list_index (PySem.F.args_list_index_2 _ _)
      (SeqAt.list_indexAt a its.toArray n dd sl uy (eqU y) j hj (by omega) ?_ ?_) ⟨ho, fun u' hu' => mem_eqAt ry fy rv fys u' (by simpa using hu'), ?_⟩
    · have e1 : its.toArray[j] = u := by simpa using hje
      rw [e1, eqU_of ru (flat_at fys hz)]
      exact hzj
    · intro m hm hmj
      have hml : m < its.length := by simpa using hm
      have hmy : m < ys.length := by omega
      have hy' : ys[m]? = some ys[m] := List.getElem?_eq_getElem hmy
      obtain ⟨u2, hu2, ru2⟩ := rv.get hy'
      obtain ⟨_, hme⟩ := List.getElem?_eq_some_iff.mp hu2
      have e1 : its.toArray[m] = u2 := by simpa using hme
      rw [e1, eqU_of ru2 (flat_at fys hy')]
      exact hno m _ hmj hy'
    · exact ⟨.int (j : Nat), H, I.tok _, ⟨_, rfl⟩, q⟩
end
theorem iter_any {prog : Program} {w : World} {A : Around} {E : Value → Shared → Prop} {s : Shared} {l : Addr} {items : Array Value} {Q : Value → Shared → Prop} (hl : s.heap.IsList l items)
    (h : ∀ s₂ : Shared, s₂ = { s with heap := s.heap.push { cls := .type "list_iterator", data := .fields #[.ref l, .int 0 0] } } →
      (s₂.heap.IsListIter s.heap.objs.size l 0 ∧ s₂.heap.IsList l items) → l ≠ s.heap.objs.size → Q (.ref s.heap.objs.size) s₂) : wpAny (model prog w) A (pyIter (.ref l)) Q E s := by
  have hlt : l < s.heap.objs.size := by obtain ⟨_, e, _⟩ := hl; exact Heap.lt_size e
  exact wpAny_pyIter_list hl (h _ rfl ⟨⟨_, Heap.get?_push_size _ rfl, rfl, rfl⟩, hl.push _⟩ (Nat.ne_of_lt hlt))
theorem truth_bools {prog : Program} {w : World} {A : Around} {bs : List Bool} {its : List Value} (e : its = bs.map Value.bool) :
    TruthOf prog w A (fun i v => its.toArray[i]? = some v) (fun i => bs.getD i false) := fun i v s Q E hv hq => by
  have hv' : its[i]? = some v := by simpa using hv
  rw [e, List.getElem?_map] at hv'
  obtain ⟨b, hb, rfl⟩ := Option.map_eq_some_iff.mp hv'
  have hg : bs.getD i false = b := by rw [List.getD_eq_getElem?_getD, hb] <;> rfl
  have hq' : Q (bs.getD i false) s := hq
  rw [hg] at hq'
  exact wpAny_truthy_bool hq'
theorem all_range : ∀ bs : List Bool, (List.range bs.length).all (fun i => bs.getD i false) = bs.all id
  | [] => rfl
  | b :: bs => by
    rw [List.length_cons, List.range_succ_eq_map, List.all_cons, List.all_map, List.all_cons, ← all_range bs]
    all_goals rfl
section
variable {X : Cx}
def rAll (K : PySem.W.Frag) : List V → Hp → VK → Prop := fun vs H Q => ∃ (a : Addr) (bs : List Bool), vs = [V.ref a] ∧ SqL K H a (bs.map V.bl) ∧ Q (.bl (bs.all id)) H
theorem cr_all (hc : X.calm = true) : CallR X (.builtin "all") (rAll X.K) := by
  intro pins s σ H vs us Q I r h
  obtain ⟨a, bs, rfl, hs, q⟩ := h
  obtain ⟨its, rv, hl, _⟩ := I.list hs
  rw [Vals.ref1 r]
  have hb := rv.bls
  refine call_all_walk (iter_any hl.isList fun s₂ e2 st hne => ?_)
  subst e2
  refine ⟨_, _, _, _, _, _, _, rfl, Walks.list (A := X.A.in1) (I.ok.hd hc) _ a hne its.toArray, st, truth_bools hb, fun h' tk hk => ?_⟩
  refine ⟨.bl _, H, I.kept fun b o eo => hk b o (fun hmem => ?_) (Heap.get?_push_of_some _ eo), ?_, q⟩
  · rcases List.mem_cons.mp hmem with e1 | hmem
    · exact absurd (e1 ▸ Heap.lt_size eo) (Nat.lt_irrefl _)
    · cases hmem
  · show Value.bool _ = Value.bool _
    rw [← all_range, hb, List.size_toArray, List.length_map]
end
mutual
inductive Dp (K : PySem.W.Frag) (H : Hp) : V → PyData → Prop
  | non : Dp K H .non .none
  | bl (b : Bool) : Dp K H (.bl b) (.bool b)
  | int (i : Int) : Dp K H (.int i) (.int i)
  | str (x : Str) : Dp K H (.str x) (.str x)
  | lst {a : Addr} {xs : List V} {ds : List PyData} : SqL K H a xs → DpAll K H xs ds → Dp K H (.ref a) (.list ds)
  | tup {a : Addr} {xs : List V} {ds : List PyData} : SqT K H a xs → DpAll K H xs ds → Dp K H (.ref a) (.tuple ds)
inductive DpAll (K : PySem.W.Frag) (H : Hp) : List V → List PyData → Prop
  | nil : DpAll K H [] []
  | cons {v : V} {vs : List V} {d : PyData} {ds : List PyData} : Dp K H v d → DpAll K H vs ds → DpAll K H (v :: vs) (d :: ds)
end
section
variable {X : Cx} {pins : List (Addr × Obj)} {σ : St} {H : Hp} {s : Shared}
mutual
theorem Dp.reads (I : Inv X pins σ H s) : ∀ (d : PyData) (v : V) (u : Value), Dp X.K H v d → RelV v u → ∃ as, Reads s.heap u d as
  | .none, _, _, h, r => by
    cases h
    cases r
    exact ⟨_, Reads.none⟩
  | .bool b, _, _, h, r => by
    cases h
    cases r
    exact ⟨_, Reads.bool b⟩
  | .int i, _, _, h, r => by
    cases h
    obtain ⟨t, rfl⟩ := r
    exact ⟨_, Reads.int i t⟩
  | .str x, _, _, h, r => by
    cases h
    obtain ⟨t, rfl⟩ := r
    exact ⟨_, Reads.str x t⟩
  | .list ds, _, _, h, r => by
    cases h with
    | lst hs ha =>
      cases r
      obtain ⟨its, rv, ⟨o, n, ho, hc, _, hd⟩, _⟩ := I.list hs
      obtain ⟨as, hr⟩ := Dp.readsAll I ds _ its ha rv
      exact ⟨_, Reads.list ho hc hd hr⟩
  | .tuple ds, _, _, h, r => by
    cases h with
    | tup hs ha =>
      cases r
      obtain ⟨its, rv, ⟨o, ho, hc, n, hd⟩, _⟩ := I.tuple hs
      obtain ⟨as, hr⟩ := Dp.readsAll I ds _ its ha rv
      exact ⟨_, Reads.tuple ho hc hd hr⟩
  | .dict _, _, _, h, _ => by cases h
theorem Dp.readsAll (I : Inv X pins σ H s) : ∀ (ds : List PyData) (vs : List V) (us : List Value), DpAll X.K H vs ds → Vals vs us → ∃ as, ReadsAll s.heap us ds as
  | [], _, _, h, r => by
    cases h
    cases r
    exact ⟨_, ReadsAll.nil⟩
  | d :: ds, _, _, h, r => by
    cases h with
    | cons h1 h2 =>
      cases r with
      | cons r1 r2 =>
        obtain ⟨as, q1⟩ := Dp.reads I d _ _ h1 r1
        obtain ⟨bs, q2⟩ := Dp.readsAll I ds _ _ h2 r2
        exact ⟨_, ReadsAll.cons q1 q2⟩
end
end
section
variable {X : Cx}
def rEqD (K : PySem.W.Frag) : R2 := fun x y H Q => ∃ d e, Dp K H x d ∧ Dp K H y e ∧ SeqAt.shaped d = true ∧ SeqAt.shaped e = true ∧ Q (.bl (PyData.eqv d e)) H
def rNeD (K : PySem.W.Frag) : R2 := fun x y H Q => ∃ d e, Dp K H x d ∧ Dp K H y e ∧ SeqAt.shaped d = true ∧ SeqAt.shaped e = true ∧ Q (.bl (!PyData.eqv d e)) H
theorem op_eqD (hu : X.A.units + 64 < cLine) : OpR X (compareOp .Eq) (rEqD X.K) := by
  intro pins s σ H x y v u Q I rx ry h
  obtain ⟨d, e, hd, he, sd, se, q⟩ := h
  obtain ⟨as, r1⟩ := Dp.reads I d x v hd rx
  obtain ⟨bs, r2⟩ := Dp.reads I e y u he ry
  exact SeqAt.compareEq_shaped r1 r2 sd se hu ⟨.bl _, H, I, rfl, q⟩
theorem op_neD (hu : X.A.units + 64 < cLine) : OpR X (compareOp .NotEq) (rNeD X.K) := by
  intro pins s σ H x y v u Q I rx ry h
  obtain ⟨d, e, hd, he, sd, se, q⟩ := h
  obtain ⟨as, r1⟩ := Dp.reads I d x v hd rx
  obtain ⟨bs, r2⟩ := Dp.reads I e y u he ry
  exact SeqAt.compareNe_shaped r1 r2 sd se hu ⟨.bl _, H, I, rfl, q⟩
end
end L2
namespace L2
open PySem PySem.Spec PyProof.Rows
abbrev CellAt (h : Heap) (c : Addr) (v : Option Value) : Prop := h.IsCell c v
def relS (scope sc : Scope) : Scope :=
  { scope with names := scope.names.map fun (n, k) => if (k == .free && sc.kind == .function && sc.names.lookup n == some .cell) then (n, .cell) else (n, k) }
def cloFrom (cells : List (Str × Addr)) : List (Str × NameKind) → List (Str × Addr) → List (Str × Addr)
  | [], acc => acc
  | (n, k) :: r, acc => if k == .free then cloFrom cells r ((n, (cells.lookup n).getD 0) :: acc) else cloFrom cells r acc
theorem closure_loop (env : Env) (f : Str × NameKind → List (Str × Addr) → Sem (ForInStep (List (Str × Addr))))
    (hf : ∀ n k c, f (n, k) c = if k == .free then (do let a ← cellOf env n; pure (.yield ((n, a) :: c))) else pure (.yield c)) :
    ∀ (names : List (Str × NameKind)) (acc : List (Str × Addr)), (∀ y ∈ names, y.2 = .free → ∃ c, env.cells.lookup y.1 = some c) → forIn names acc f = pure (cloFrom env.cells names acc)
  | [], acc, _ => by rw [List.forIn_nil]; rfl
  | (n, k) :: r, acc, h => by
    rw [List.forIn_cons, hf]
    have ih := fun acc => closure_loop env f hf r acc fun y hy => h y (List.mem_cons_of_mem _ hy)
    unfold cloFrom
    by_cases hk : (k == NameKind.free) = true
    · rw [if_pos hk, if_pos hk]
      obtain ⟨c, hc⟩ := h (n, k) List.mem_cons_self (by simpa using hk)
      have e : cellOf env n = pure c := by unfold cellOf; rw [hc]
      rw [e]
      have e2 : (env.cells.lookup n).getD 0 = c := by rw [hc]; rfl
      rw [e2]
      exact ih _
    · rw [if_neg hk, if_neg hk]
      exact ih _
theorem closure_ok {scope : Scope} {env : Env} (h : ∀ y ∈ scope.names, y.2 = .free → ∃ c, env.cells.lookup y.1 = some c) : closureFor scope env = pure (cloFrom env.cells scope.names []) := by
  simp only [closureFor]
  rw [closure_loop env _ (fun n k c => rfl) scope.names [] h]
  rfl
theorem mem_lookup {α : Type} : ∀ {l : List (Str × α)} {n : Str} {c : α}, (n, c) ∈ l → ∃ c', l.lookup n = some c'
  | (k, v) :: r, n, c, h => by
    rw [List.lookup_cons]
    cases hb : n == k with
    | true => exact ⟨_, rfl⟩
    | false =>
      rcases List.mem_cons.mp h with e | h
      · cases e; simp at hb
      · exact mem_lookup h
theorem cloFrom_mem {cells : List (Str × Addr)} : ∀ {names : List (Str × NameKind)} {acc : List (Str × Addr)} {n : Str} {c : Addr}, (n, c) ∈ cloFrom cells names acc → (n, c) ∈ acc ∨ ((n, .free) ∈ names ∧ c = (cells.lookup n).getD 0)
  | [], _, _, _, h => .inl h
  | (m, k) :: r, acc, n, c, h => by
    unfold cloFrom at h
    split at h
    · rename_i hk
      have hk : k = .free := by simpa using hk
      rcases cloFrom_mem h with h | ⟨h1, h2⟩
      · rcases List.mem_cons.mp h with e | h
        · cases e; exact .inr ⟨hk ▸ List.mem_cons_self, rfl⟩
        · exact .inl h
      · exact .inr ⟨List.mem_cons_of_mem _ h1, h2⟩
    · rcases cloFrom_mem h with h | ⟨h1, h2⟩
      · exact .inl h
      · exact .inr ⟨List.mem_cons_of_mem _ h1, h2⟩
theorem cloFrom_acc {cells : List (Str × Addr)} : ∀ {names : List (Str × NameKind)} {acc : List (Str × Addr)} {p : Str × Addr}, p ∈ acc → p ∈ cloFrom cells names acc
  | [], _, _, h => h
  | (m, k) :: r, acc, p, h => by
    unfold cloFrom
    split
    · exact cloFrom_acc (List.mem_cons_of_mem _ h)
    · exact cloFrom_acc h
theorem cloFrom_has {cells : List (Str × Addr)} : ∀ {names : List (Str × NameKind)} {acc : List (Str × Addr)} {n : Str}, (n, .free) ∈ names → (n, (cells.lookup n).getD 0) ∈ cloFrom cells names acc
  | (m, k) :: r, acc, n, h => by
    unfold cloFrom
    rcases List.mem_cons.mp h with e | h
    · cases e
      exact cloFrom_acc List.mem_cons_self
    · split
      · exact cloFrom_has h
      · exact cloFrom_has h
theorem cells_mem : ∀ {names : List (Str × NameKind)} {h : Heap} {acc : List (Str × Addr)} {x : Str} {c : Addr}, (x, c) ∈ cellsFrom h.objs.size names acc →
    (x, c) ∈ acc ∨ ((x, .cell) ∈ names ∧ h.objs.size ≤ c ∧ CellAt (pushCells h names) c none)
  | [], _, _, _, _, h => .inl h
  | (n, k) :: r, h, acc, x, c, hm => by
    unfold cellsFrom at hm
    unfold pushCells
    split at hm
    · rename_i hk
      rw [if_pos hk]
      have hk : k = .cell := by simpa using hk
      rw [← Heap.size_push h { cls := .type "cell", data := .cell none }] at hm
      rcases cells_mem hm with hm | ⟨h1, h2, h3⟩
      · rcases List.mem_cons.mp hm with e | hm
        · cases e
          exact .inr ⟨hk ▸ List.mem_cons_self, Nat.le_refl _, _, pushCells_keeps r _ _ _ (Heap.get?_push_size _ rfl), rfl⟩
        · exact .inl hm
      · rw [Heap.size_push] at h2
        exact .inr ⟨List.mem_cons_of_mem _ h1, Nat.le_of_succ_le h2, h3⟩
    · rename_i hk
      rw [if_neg hk]
      rcases cells_mem hm with hm | ⟨h1, h2, h3⟩
      · exact .inl hm
      · exact .inr ⟨List.mem_cons_of_mem _ h1, h2, h3⟩
theorem cells_acc : ∀ {names : List (Str × NameKind)} {n : Nat} {acc : List (Str × Addr)} {p : Str × Addr}, p ∈ acc → p ∈ cellsFrom n names acc
  | [], _, _, _, h => h
  | (m, k) :: r, n, acc, p, h => by
    unfold cellsFrom
    split
    · exact cells_acc (List.mem_cons_of_mem _ h)
    · exact cells_acc h
theorem cells_has : ∀ {names : List (Str × NameKind)} {n : Nat} {acc : List (Str × Addr)} {x : Str}, (x, .cell) ∈ names → ∃ c, (x, c) ∈ cellsFrom n names acc
  | (m, k) :: r, n, acc, x, h => by
    unfold cellsFrom
    rcases List.mem_cons.mp h with e | h
    · cases e
      exact ⟨n, cells_acc List.mem_cons_self⟩
    · split
      · exact cells_has h
      · exact cells_has h
theorem cells_inj : ∀ {names : List (Str × NameKind)} {h : Heap} {acc : List (Str × Addr)} {x y : Str} {c : Addr}, (∀ p ∈ acc, p.2 < h.objs.size) → (∀ x y c, (x, c) ∈ acc → (y, c) ∈ acc → x = y) →
    (x, c) ∈ cellsFrom h.objs.size names acc → (y, c) ∈ cellsFrom h.objs.size names acc → x = y
  | [], _, _, _, _, _, _, hi, h1, h2 => hi _ _ _ h1 h2
  | (n, k) :: r, h, acc, x, y, c, hl, hi, h1, h2 => by
    unfold cellsFrom at h1 h2
    split at h1
    · rename_i hk
      rw [if_pos hk] at h2
      rw [← Heap.size_push h { cls := .type "cell", data := .cell none }] at h1 h2
      refine cells_inj (h := h.push _) (fun p hp => ?_) (fun x y c a b => ?_) h1 h2
      · rw [Heap.size_push]
        rcases List.mem_cons.mp hp with rfl | hp
        · exact Nat.lt_succ_self _
        · exact Nat.lt_succ_of_lt (hl p hp)
      · rcases List.mem_cons.mp a with e | a <;> rcases List.mem_cons.mp b with e' | b
        · cases e; cases e'; rfl
        · cases e; exact absurd (hl _ b) (Nat.lt_irrefl _)
        · cases e'; exact absurd (hl _ a) (Nat.lt_irrefl _)
        · exact hi _ _ _ a b
    · rename_i hk
      rw [if_neg hk] at h2
      exact cells_inj hl hi h1 h2
theorem newEnv_comp {M : Model} {A : Around} {E : Value → Shared → Prop} {s : Shared} {scope : Scope} {globals : Addr} {closure : List (Str × Addr)} {qual : Str} {func : Option Addr} {code : Value} {around : Env} {builtins : Addr} {Q : Env → Shared → Prop}
    (h : Q (newEnv scope s.heap.objs.size globals (cellsFrom (s.heap.objs.size + 1) scope.names closure) qual func code (some around) builtins)
      { s with heap := pushCells (s.heap.push { cls := .type "dict", data := .dict #[] }) scope.names }) :
    wpAny M A (newFunctionEnv scope globals closure [] qual func code (some around) builtins) Q E s := by
  simp only [newFunctionEnv, Option.isSome_some, if_true]
  refine wpAny_bind (wpAny_alloc ?_)
  refine wpAny_bind (wpAny_layCells _ (fun n k c => rfl) scope.names closure _ _ ?_)
  rw [show ({ s with heap := s.heap.push { cls := .type "dict", data := .dict #[] } } : Shared).heap.objs.size = s.heap.objs.size + 1 from Heap.size_push ..]
  rw [List.forIn_nil]
  exact wpAny_bind (wpAny_pure (wpAny_pure h))
theorem lookup_relS {sc : Scope} : ∀ {names : List (Str × NameKind)} {x : Str} {k : NameKind},
    (names.map fun (n, k) => if (k == NameKind.free && sc.kind == .function && sc.names.lookup n == some .cell) then (n, NameKind.cell) else (n, k)).lookup x = some k →
    ∃ k', names.lookup x = some k' ∧ (k = k' ∨ (k' = .free ∧ k = .cell))
  | [], _, _, h => by simp at h
  | (n, k₀) :: r, x, k, h => by
    have ih := @lookup_relS sc r x k
    have h' : List.lookup x ((if (k₀ == NameKind.free && sc.kind == .function && sc.names.lookup n == some .cell) = true then (n, NameKind.cell) else (n, k₀)) :: (r.map _)) = some k := h
    cases hx : x == n with
    | true =>
      simp only [List.lookup_cons, hx]
      by_cases hc : (k₀ == NameKind.free && sc.kind == .function && sc.names.lookup n == some .cell) = true
      · rw [if_pos hc] at h'
        simp only [List.lookup_cons, hx] at h'
        cases h'
        simp only [Bool.and_eq_true, beq_iff_eq] at hc
        exact ⟨k₀, rfl, .inr ⟨hc.1.1, rfl⟩⟩
      · rw [if_neg hc] at h'
        simp only [List.lookup_cons, hx] at h'
        cases h'
        exact ⟨_, rfl, .inl rfl⟩
    | false =>
      simp only [List.lookup_cons, hx]
      by_cases hc : (k₀ == NameKind.free && sc.kind == .function && sc.names.lookup n == some .cell) = true
      · rw [if_pos hc] at h'
        simp only [List.lookup_cons, hx] at h'
        exact ih h'
      · rw [if_neg hc] at h'
        simp only [List.lookup_cons, hx] at h'
        exact ih h'
structure BlkOk (N : List Str) (sc scope : Scope) (own : List (Str × Nat)) : Prop where
  kind : scope.kind = .function
  uniq : ∀ y ∈ scope.names, scope.names.lookup y.1 = some y.2
  ix : ∀ p ∈ own, N[p.2]? = some p.1
  free : ∀ y ∈ scope.names, y.2 = .free → sc.names.lookup y.1 = some .cell ∨ sc.names.lookup y.1 = some .free
  own : ∀ y ∈ scope.names, y.2 = .local ∨ y.2 = .cell → y.1 ∈ own.map (·.1) ∨ y.1 ∉ N
def wipe (σ : St) : List Nat → St
  | [] => σ
  | v :: vs => (wipe σ vs).set v none
theorem wipe_length (σ : St) : ∀ vs : List Nat, (wipe σ vs).length = σ.length
  | [] => rfl
  | v :: vs => by unfold wipe; rw [List.length_set, wipe_length σ vs]
theorem wipe_some {σ : St} {i : Nat} {x : V} : ∀ {vs : List Nat}, (wipe σ vs)[i]? = some (some x) → σ[i]? = some (some x) ∧ i ∉ vs
  | [], h => ⟨h, by simp⟩
  | v :: vs, h => by
    unfold wipe at h
    by_cases hi : v = i
    · subst hi
      by_cases hv : v < (wipe σ vs).length
      · rw [List.getElem?_set_self hv] at h; cases h
      · rw [List.getElem?_eq_none (by simpa using hv)] at h; cases h
    · rw [List.getElem?_set_ne hi] at h
      obtain ⟨h1, h2⟩ := wipe_some h
      exact ⟨h1, by simp only [List.mem_cons, not_or]; exact ⟨fun e => hi e.symm, h2⟩⟩
abbrev Cx.blk (X : Cx) (s : Shared) (H : Hp) (scope : Scope) (cenv : Env) (fp : List Addr) : Cx := { X with s_0 := s, H_0 := H, env := cenv, outer := X.stack, ex := fp, fn := fun x => scope.names.lookup x == some .cell, pn := [], xe := fun _ _ => False }
section
variable {X : Cx} {pins : List (Addr × Obj)} {σ : St} {H : Hp} {s : Shared}
theorem block_start {scope : Scope} {own : List (Str × Nat)} {fp : List Addr} (I : Inv X pins σ H s) (ok : BlkOk X.N X.env.scope scope own) (hN : X.N.Nodup) (hfp : ∀ b ∈ fp, FpOk X pins H b ∧ b < s.heap.objs.size) :
    Inv (X.blk s H scope (compEnvC scope (cellsFrom (s.heap.objs.size + 1) scope.names (cloFrom X.env.cells scope.names [])) s.heap.objs.size X.env) fp) [] (wipe σ (own.map (·.2))) H { s with heap := pushCells (s.heap.push { cls := .type "dict", data := .dict #[] }) scope.names } := by
  have hfree : ∀ y ∈ scope.names, y.2 = .free → ∃ c, X.env.cells.lookup y.1 = some c := fun y hy e => by
    rcases ok.free y hy e with k | k
    · exact I.ok.has _ (.inl k)
    · exact I.ok.has _ (.inr k)
  generalize hcenv : compEnvC scope (cellsFrom (s.heap.objs.size + 1) scope.names (cloFrom X.env.cells scope.names [])) s.heap.objs.size X.env = cenv
  have kp : ∀ b o, s.heap.get? b = some o → (pushCells (s.heap.push { cls := .type "dict", data := .dict #[] }) scope.names).get? b = some o := fun b o e => pushCells_keeps _ _ _ _ (Heap.get?_push_of_some _ e)
  have hL : cenv.locals = s.heap.objs.size := by rw [← hcenv]; rfl
  have hcl : cenv.cells = cellsFrom (s.heap.objs.size + 1) scope.names (cloFrom X.env.cells scope.names []) := by rw [← hcenv]; rfl
  have hsc : cenv.scope = relS scope X.env.scope := by rw [← hcenv]; rfl
  rw [← Heap.size_push s.heap { cls := .type "dict", data := .dict #[] }] at hcl
  have cm : ∀ {y c}, (y, c) ∈ cloFrom X.env.cells scope.names [] → X.env.cells.lookup y = some c ∧ c < s.heap.objs.size := fun {y c} hm => by
    rcases cloFrom_mem hm with hm | ⟨h1, rfl⟩
    · cases hm
    · obtain ⟨c, hc⟩ := hfree _ h1 rfl
      rw [hc]
      obtain ⟨w, z⟩ := I.cell _ _ hc
      exact ⟨rfl, z.lt⟩
  have mem : ∀ {y c}, cenv.cells.lookup y = some c → (X.env.cells.lookup y = some c ∧ c < s.heap.objs.size) ∨ (s.heap.objs.size + 1 ≤ c ∧ CellAt (pushCells (s.heap.push { cls := .type "dict", data := .dict #[] }) scope.names) c none) := fun {y c} e => by
    rw [hcl] at e
    rcases cells_mem (PySem.mem_of_lookup e) with hm | ⟨_, h2, h3⟩
    · exact .inl (cm hm)
    · rw [Heap.size_push] at h2; exact .inr ⟨h2, h3⟩
  have look : ∀ {y}, scope.names.lookup y = some .free → ∃ c, cenv.cells.lookup y = some c ∧ X.env.cells.lookup y = some c := fun {y} hl => by
    have hy : (y, NameKind.free) ∈ scope.names := PySem.mem_of_lookup hl
    obtain ⟨c', e'⟩ := mem_lookup (cells_acc (names := scope.names) (n := (s.heap.push { cls := .type "dict", data := .dict #[] }).objs.size) (cloFrom_has (cells := X.env.cells) (acc := []) hy))
    rw [← hcl] at e'
    refine ⟨c', e', ?_⟩
    rw [hcl] at e'
    rcases cells_mem (PySem.mem_of_lookup e') with hm | ⟨h1, _, _⟩
    · exact (cm hm).1
    · have := ok.uniq _ h1
      rw [hl] at this; cases this
  have okB : (X.blk s H scope cenv fp).Ok := by
    refine ⟨I.ok.mod, by show cenv.scope.kind = _; rw [hsc]; exact ok.kind, by show cenv.globals = _; rw [← hcenv]; exact I.ok.glob, by show cenv.builtins = _; rw [← hcenv]; exact I.ok.blt, by show s.heap.objs.size ≤ cenv.locals; rw [hL]; exact Nat.le_refl _,
      fun y z c e1 e2 => ?_, fun y hy => ?_, fun y c z e => ?_, I.ok.hd, I.ok.frames, .inl rfl, fun b hb => ⟨?_, fun y c e z => ?_⟩, I.bs, Nat.le_trans I.ok.bsz I.sz, fun b o e hb => ?_, fun b hb z => ?_, I.stack, I.stkFree⟩
    · have e1 : cenv.cells.lookup y = some c := e1
      have e2 : cenv.cells.lookup z = some c := e2
      rw [hcl] at e1 e2
      refine cells_inj (fun p hp => ?_) (fun y z c a b => I.ok.inj y z c (cm a).1 (cm b).1) (PySem.mem_of_lookup e1) (PySem.mem_of_lookup e2)
      rw [Heap.size_push]
      exact Nat.lt_succ_of_lt (cm (y := p.1) (c := p.2) hp).2
    · show ∃ c, cenv.cells.lookup y = some c
      have key : ∀ k, cenv.kindOf y = some k → (k = .cell ∨ k = .free) → ∃ c, cenv.cells.lookup y = some c := fun k hk hk' => by
        unfold Env.kindOf at hk
        rw [hsc] at hk
        obtain ⟨k', e, r⟩ := lookup_relS hk
        have : k' = .cell ∨ k' = .free := by
          rcases r with rfl | ⟨rfl, _⟩
          · exact hk'
          · exact .inr rfl
        rcases this with rfl | rfl
        · obtain ⟨c, hm⟩ := cells_has (n := (s.heap.push { cls := .type "dict", data := .dict #[] }).objs.size) (acc := cloFrom X.env.cells scope.names []) (PySem.mem_of_lookup e)
          obtain ⟨c', e'⟩ := mem_lookup hm
          exact ⟨c', by rw [hcl]; exact e'⟩
        · obtain ⟨c, h1, _⟩ := look e
          exact ⟨c, h1⟩
      rcases hy with hy | hy
      · exact key _ hy (.inl rfl)
      · exact key _ hy (.inr rfl)
    · have z : (scope.names.lookup y == some NameKind.cell) = true := z
      have z : scope.names.lookup y = some .cell := by simpa using z
      have e : cenv.cells.lookup y = some c := e
      rw [hcl] at e
      rcases cells_mem (PySem.mem_of_lookup e) with hm | ⟨_, h2, _⟩
      · rcases cloFrom_mem hm with hm | ⟨h1, _⟩
        · cases hm
        · have q := ok.uniq _ h1
          rw [z] at q; cases q
      · rw [Heap.size_push] at h2
        exact Nat.le_of_succ_le h2
    · show b ≠ cenv.locals
      rw [hL]; exact Nat.ne_of_lt (hfp b hb).2
    · have e : cenv.cells.lookup y = some c := e
      rcases mem e with ⟨h1, _⟩ | ⟨h1, _⟩
      · exact (hfp b hb).1.2.2.2.2.1 y c h1 z
      · have h2 : s.heap.objs.size + 1 ≤ b := by rw [← z]; exact h1
        exact absurd (Nat.lt_of_lt_of_le (hfp b hb).2 (Nat.le_of_succ_le h2)) (Nat.lt_irrefl _)
    · rcases (hfp b hb).1.2.2.2.1 with z | z
      · exact I.ok.noex b o e z
      · exact absurd (Nat.lt_of_lt_of_le (Heap.lt_size e) (Nat.le_trans I.ok.bsz z)) (Nat.lt_irrefl _)
    · rcases List.mem_cons.mp (I.stkSub b z) with z | z
      · exact (hfp b hb).1.2.1 z
      · exact (hfp b hb).1.2.2.1 z
  refine ⟨okB, rfl, I.bare, Un.kept kp, ⟨fun _ => none, ?_, fun i y av e1 e2 e3 => ?_⟩, fun y c e => ?_, ?_, fun y c e => ?_, fun p hp => ?_, I.hok.kept kp, by rw [wipe_length]; exact I.len⟩
  · show Heap.Ns _ cenv.locals _
    rw [hL]
    exact Heap.Ns.keeps (Heap.Ns.new ..) fun b o e => pushCells_keeps _ _ _ _ e
  · obtain ⟨e2, hne⟩ := wipe_some e2
    have hfr : scope.names.lookup y = some .free ∧ (cenv.kindOf y = some .cell ∨ cenv.kindOf y = some .free) := by
      have key : ∀ k, cenv.scope.names.lookup y = some k → k = .local ∨ k = .cell ∨ k = .free → scope.names.lookup y = some .free ∧ (cenv.kindOf y = some .cell ∨ cenv.kindOf y = some .free) := fun k hk hk' => by
        have hk0 := hk
        rw [hsc] at hk
        obtain ⟨k', e, r⟩ := lookup_relS hk
        have no : ¬ (k' = .local ∨ k' = .cell) := fun hh => by
          rcases ok.own _ (PySem.mem_of_lookup e) hh with e' | e'
          · obtain ⟨p, hp, hpy⟩ := List.mem_map.mp e'
            have e3 := ok.ix p hp
            have : p.1 = y := hpy
            rw [this] at e3
            exact hne (List.mem_map.mpr ⟨p, hp, nodup_ix hN e3 e1⟩)
          · exact e' (List.mem_of_getElem? e1)
        rcases r with rfl | ⟨rfl, rfl⟩
        · rcases hk' with rfl | rfl | rfl
          · exact absurd (.inl rfl) no
          · exact absurd (.inr rfl) no
          · exact ⟨e, .inr hk0⟩
        · exact ⟨e, .inl hk0⟩
      have e3 : Vis cenv.scope y := e3
      rcases e3 with e3 | e3 | e3
      · exact key _ e3 (.inl rfl)
      · exact key _ e3 (.inr (.inl rfl))
      · exact key _ e3 (.inr (.inr rfl))
    obtain ⟨m, hn, hl⟩ := I.loc
    have hvis : Vis X.env.scope y := (ok.free _ (PySem.mem_of_lookup hfr.1) rfl).elim (fun k => .inr (.inl k)) (fun k => .inr (.inr k))
    obtain ⟨w, r, q⟩ := hl i y av e1 e2 hvis
    refine ⟨w, r, .inr ⟨hfr.2, ?_⟩⟩
    obtain ⟨c, h1, h2⟩ := look hfr.1
    rcases q with ⟨k, _⟩ | ⟨_, c', e', z⟩
    · have k : X.env.scope.names.lookup y = some .local := k
      rcases ok.free _ (PySem.mem_of_lookup hfr.1) rfl with k' | k' <;> rw [show X.env.scope.names.lookup y = _ from k'] at k <;> cases k
    · rw [h2] at e'; cases e'
      exact ⟨c, h1, z.keeps kp⟩
  · have e : cenv.cells.lookup y = some c := e
    rcases mem e with ⟨h1, _⟩ | ⟨_, z⟩
    · obtain ⟨w, z⟩ := I.cell y c h1
      exact ⟨w, z.keeps kp⟩
    · exact ⟨_, z⟩
  · show H cenv.locals = none
    rw [hL]; exact I.hok.fresh (Nat.le_refl _)
  · have e : cenv.cells.lookup y = some c := e
    rcases mem e with ⟨h1, _⟩ | ⟨h1, _⟩
    · exact I.freeC y c h1
    · exact I.hok.fresh (Nat.le_of_succ_le h1)
  · exact absurd (show p ∈ ([] : List (Addr × Obj)) ++ [] from hp) (by simp)
theorem app_ok {E : Value → Shared → Prop} {D : Addr} {xs : List V} {y : V} {v : Value} {Q : Value → Shared → Prop} (I : Inv X pins σ H s) (hD : H D = some (.lst xs)) (hz : xs.length < sizeLine) (r : RelV y v)
    (h : ∀ s', Inv X pins σ (upd H D (.lst (xs ++ [y]))) s' → Q .none s') : wpAny (model X.prog X.w) X.A (call (.builtin "list.append") [.ref D, v]) Q E s := by
  obtain ⟨hz', its, n, ri, e⟩ := I.hok D _ hD
  have hl := ri.length
  refine append_at (hsz := by rw [List.size_toArray]; omega) e fun h' sb ho' => ?_
  refine h { s with heap := h' } (I.write (t' := s.toks) (by rw [hD]; trivial) (.inl rfl) (fun b u hb q => (sb.2 b hb).trans q) ⟨_, ho'⟩ ⟨by rw [List.length_append]; exact hz, its ++ [v], n + 1, ri.append (.cons r .nil), ?_⟩)
  rw [ho']
  simp
def PTs (X : Cx) (ifs : List Expr) (t : TT) : Prop :=
  ∀ (pins : List (Addr × Obj)) (s : Shared) (σ : St) (H : Hp) (Q : Bool → Hp → Prop), Inv X pins σ H s → t σ H Q →
    wpAny (model X.prog X.w) X.A (forIn ifs true fun c r => if r = true then do let ok ← isTrue c X.env (eval c X.env); pure (ForInStep.yield ok) else pure (ForInStep.yield r)) (TP X pins σ Q) X.xe s
def tYes : TT := fun _ H Q => Q true H
theorem pts_nil : PTs X [] tYes := fun _ _ _ H _ I h => wpAny_tests_nil ⟨H, I, h⟩
theorem pts_one {c : Expr} {t : TT} (h : PT X c t) : PTs X [c] t := fun pins s σ H Q I hw => wpAny_tests_one (h pins s σ H Q I hw)
end
theorem thnF {α : Type} {t : Sem α} {Q Q' : α → Shared → Prop} {M : Model} {A : Around} {E : Value → Shared → Prop} {s : Shared} (h : wpAny M A t Q (fun _ _ => False) s) (hQ : ∀ a s, Q a s → Q' a s) : wpAny M A t Q' E s := wpAny_mono h hQ fun _ _ z => False.elim z
theorem compLoop_any {prog : Program} {w : World} {A : Around} {R : Result → Shared → Prop} {s : Shared} {elt target iter : Expr} {ifs : List Expr} {scope : Scope} {pos : Pos} {it acc : Value} {env : Env} (I : Nat → Shared → Prop)
    (turn : ∀ n s, I n s → wpAny (model prog w) A (pyNext it) (fun r s₁ => match r with
      | none => R (.ok .next) s₁
      | some v => wpAny (model prog w) A (letOwnedTupleGo target it v) (fun _ s₁' => wpAny (model prog w) A (assign target env v) (fun _ s₂ =>
          wpAny (model prog w) A (forIn ifs true fun c r => if r = true then do let ok ← isTrue c env (eval c env); pure (ForInStep.yield ok) else pure (ForInStep.yield r)) (fun ok s₃ =>
            if ok = true then wpAny (model prog w) A (eval elt env) (fun x s₄ =>
              wpAny (model prog w) A (call (.builtin "list.append") [acc, x]) (fun _ s₅ => ∃ m, m < n ∧ I m s₅) (notedBy (model prog w) A env fun e s' => R (.error e) s') s₄) (notedBy (model prog w) A env fun e s' => R (.error e) s') s₃
            else ∃ m, m < n ∧ I m s₃) (notedBy (model prog w) A env fun e s' => R (.error e) s') s₂) (notedBy (model prog w) A env fun e s' => R (.error e) s') s₁') (notedBy (model prog w) A env fun e s' => R (.error e) s') s₁) (notedBy (model prog w) A env fun e s' => R (.error e) s') s)
    (n : Nat) (h : I n s) :
    codeAny (model prog w) A (.compLoop (.ListComp elt [⟨target, iter, ifs, 0⟩] scope pos) 0 it acc env) R s := by
  refine codeAny_loop rfl I (fun n s hI => ?_) n h
  show wpAny _ A ((compTurn (.ListComp elt [⟨target, iter, ifs, 0⟩] scope pos) 0 it acc env).onRaise (fun x => do noteFrame x env; theTreesLotGoes x)) _ _ s
  refine wpAny_noted ?_
  rw [compTurn_list]
  refine wpAny_bind (wpAny_standAt (wpAny_bind (wpAny_mono (turn n s hI) (fun r s₁ h₁ => ?_) fun _ _ h' => h')))
  cases r with
  | none => exact wpAny_pure h₁
  | some v =>
    refine wpAny_bind (wpAny_mono h₁ (fun _ s₁' h₁' => ?_) fun _ _ h' => h')
    refine wpAny_bind (wpAny_mono h₁' (fun _ s₂ h₂ => wpAny_bind (wpAny_mono h₂ (fun ok s₃ h₃ => ?_) fun _ _ h' => h')) fun _ _ h' => h')
    cases ok with
    | false => exact wpAny_pure ⟨rfl, h₃⟩
    | true =>
      exact wpAny_bind (wpAny_bind (wpAny_mono h₃ (fun x s₄ h₄ => wpAny_bind (wpAny_mono h₄ (fun _ s₅ h₅ => wpAny_pure (wpAny_pure ⟨rfl, h₅⟩)) fun _ _ h' => h')) fun _ _ h' => h'))
section
variable {X : Cx}
def tLc (wi : TI) (g : TG) (tt : TT) (te : TE) (vs : List Nat) : TE := fun σ H Q => wi σ H fun J H1 => ∀ D, H1 D = none → ∃ W : Nat → Nat → Hp → Prop, (∃ m, W 0 m (upd H1 D (.lst []))) ∧ ∀ i m H, W i m H →
  (J.stop i H ∧ Q (.ref D) H) ∨ (J.go i H ∧ ∃ Nx : Hp → Prop, (∀ H', Nx H' → ∃ m', m' < m ∧ W (i + 1) m' H') ∧ ∀ x H', J.yld i H x H' → g x (wipe σ vs) H' fun σ2 H2 => wipe σ2 vs = wipe σ vs ∧ tt σ2 H2 fun b H3 =>
    if b = true then te σ2 H3 fun y H4 => ∃ acc, H4 D = some (.lst acc) ∧ acc.length < sizeLine ∧ Nx (upd H4 D (.lst (acc ++ [y]))) else Nx H3)
theorem lc_core {pins : List (Addr × Obj)} {s : Shared} {σ : St} {H : Hp} {Q : VK} {elt tg iter : Expr} {ifs : List Expr} {scope : Scope} {own : List (Str × Nat)} {pos pos' : Pos} {wi : TI} {g : TG} {tt : TT} {te : TE} {use : Option (Value → Sem Unit)} {Qf : Value → Shared → Prop}
    (hc : X.calm = true) (hN : X.N.Nodup) (I : Inv X pins σ H s) (hi : PI X tg iter wi) (ok : BlkOk X.N X.env.scope scope own)
    (hg : ∀ (s : Shared) (H : Hp) (C : Addr) (cl : List (Str × Addr)) (fp : List Addr), PG (X.blk s H scope (compEnvC scope cl C X.env) fp) tg g) (ht : ∀ (s : Shared) (H : Hp) (C : Addr) (cl : List (Str × Addr)) (fp : List Addr), PTs (X.blk s H scope (compEnvC scope cl C X.env) fp) ifs tt)
    (he : ∀ (s : Shared) (H : Hp) (C : Addr) (cl : List (Str × Addr)) (fp : List Addr), PE (X.blk s H scope (compEnvC scope cl C X.env) fp) elt te) (hs : ∀ x, foldedSetIterable iter X.env x = pure x)
    (h : tLc wi g tt te (own.map (·.2)) σ H Q)
    (hRR : ∀ D C s' m H', Inv X pins σ H' s' → Q (.ref D) H' → s'.heap.Ns C m → FpOk X pins H' C → compPost (model X.prog X.w) X.A X.xe use Qf (.ref D) C (.ok .next) s') :
    wpAny (model X.prog X.w) X.A (comprehension (.ListComp elt [⟨tg, iter, ifs, 0⟩] scope pos) scope X.env pos' (newList []) false (eval iter X.env) use) Qf X.xe s := by
  have hfree : ∀ y ∈ scope.names, y.2 = .free → ∃ c, X.env.cells.lookup y.1 = some c := fun y hy e => by
    rcases ok.free y hy e with k | k
    · exact I.ok.has _ (.inl k)
    · exact I.ok.has _ (.inr k)
  refine wpAny_comprehension_free (use := use) rfl hs (closure_ok hfree) ok.kind (fun y hy e => by rw [ok.uniq y hy, e])
    (thn (hi pins s σ H _ I h) fun xv s1 hx => thn hx fun itv s2 h2 => ?_)
  obtain ⟨it, fp, tn, J, H2, e, I2, T, st2, f2, q⟩ := h2
  subst e
  refine wpAny_newObj_type (newEnv_comp ?_) (by show 0 ≤ sizeLine; decide)
  generalize hD : s2.heap.objs.size = D
  have hDn : H2 D = none := I2.hok.fresh (Nat.le_of_eq hD)
  obtain ⟨W, ⟨m0, w0⟩, turn⟩ := q D hDn
  -- the new list
  generalize hs3 : ({ s2 with heap := s2.heap.push { cls := .type "list", data := .seq ([] : List Value).toArray } } : Shared) = s3
  have I3 : Inv X pins σ (upd H2 D (.lst [])) s3 := by
    rw [← hs3]
    refine I2.laid (t' := s2.toks) (fun b o e => Heap.get?_push_of_some _ e) (Nat.le_of_eq hD) ⟨Nat.zero_le _, [], 0, .nil, ?_⟩
    rw [← hD]
    exact Heap.get?_push_size _ rfl
  have h3 : s3.heap = s2.heap.push { cls := .type "list", data := .seq ([] : List Value).toArray } := by rw [← hs3]
  have sz : ∀ b ∈ fp, b < s2.heap.objs.size := fun b hb => by
    obtain ⟨o, e, _⟩ := T.obj _ _ st2 b hb
    exact Heap.lt_size e
  have f3 : ∀ b ∈ fp, FpOk X pins (upd H2 D (.lst [])) b ∧ b < s3.heap.objs.size := fun b hb => by
    have hlt := sz b hb
    refine ⟨⟨?_, (f2 b hb).2⟩, by rw [h3, Heap.size_push]; exact Nat.lt_succ_of_lt hlt⟩
    rw [upd_ne (by rw [← hD]; exact Nat.ne_of_lt hlt)]
    exact (f2 b hb).1
  have st3 : tn 0 s3.heap := T.keep _ _ _ st2 fun b _ o e => by rw [h3]; exact Heap.get?_push_of_some _ e
  have I4 := block_start I3 ok hN f3
  have pg := hg s3 (upd H2 D (.lst [])) s3.heap.objs.size (cellsFrom (s3.heap.objs.size + 1) scope.names (cloFrom X.env.cells scope.names [])) fp
  have pt := ht s3 (upd H2 D (.lst [])) s3.heap.objs.size (cellsFrom (s3.heap.objs.size + 1) scope.names (cloFrom X.env.cells scope.names [])) fp
  have pe := he s3 (upd H2 D (.lst [])) s3.heap.objs.size (cellsFrom (s3.heap.objs.size + 1) scope.names (cloFrom X.env.cells scope.names [])) fp
  show codeAny _ _ (.compStart (.ListComp elt [⟨tg, iter, ifs, 0⟩] scope pos) 0 (.ref it) (.ref D) (compEnvC scope (cellsFrom (s3.heap.objs.size + 1) scope.names (cloFrom X.env.cells scope.names [])) s3.heap.objs.size X.env)) (compPost (model X.prog X.w) X.A X.xe use Qf (.ref D) s3.heap.objs.size) { s3 with heap := pushCells (s3.heap.push { cls := .type "dict", data := .dict #[] }) scope.names }
  have nfp : ∀ b ∈ fp, (upd H2 D (.lst [])) b = none := fun b hb => (f3 b hb).1.1
  generalize hce : compEnvC scope (cellsFrom (s3.heap.objs.size + 1) scope.names (cloFrom X.env.cells scope.names [])) s3.heap.objs.size X.env = ce at I4 pg pt pe ⊢
  have cL : ce.locals = s3.heap.objs.size := by subst hce; rfl
  generalize hH3 : upd H2 D (.lst []) = H3 at I3 I4 pg pt pe w0 nfp f3
  generalize hs4 : ({ s3 with heap := pushCells (s3.heap.push { cls := .type "dict", data := .dict #[] }) scope.names } : Shared) = s4 at I4 ⊢
  have st4 : tn 0 s4.heap := T.keep _ _ _ st3 fun b _ o e => by rw [← hs4]; exact pushCells_keeps _ _ _ _ (Heap.get?_push_of_some _ e)
  have stat : ∀ {σ' : St} {H' : Hp} {s' : Shared}, Inv (X.blk s3 H3 scope ce fp) [] σ' H' s' → (∀ b ∈ fp, H' b = none) → ∀ b ∈ fp, FpOk (X.blk s3 H3 scope ce fp) [] H' b := fun {σ' H' s'} I' hn b hb =>
    ⟨hn b hb, (I'.ok.exf b hb).1, I'.ok.exfs b hb, .inl hb, fun x c e => (I'.ok.exf b hb).2 x c e, fun p hp => absurd (show p ∈ ([] : List (Addr × Obj)) ++ [] from hp) (by simp)⟩
  have loop : codeAny (model X.prog X.w) X.A (.compLoop (.ListComp elt [⟨tg, iter, ifs, 0⟩] scope pos) 0 (.ref it) (.ref D) ce) (compPost (model X.prog X.w) X.A X.xe use Qf (.ref D) s3.heap.objs.size) s4 := by
    refine compLoop_any (fun n s' => ∃ i H', Inv (X.blk s3 H3 scope ce fp) [] (wipe σ (own.map (·.2))) H' s' ∧ tn i s'.heap ∧ (∀ b ∈ fp, H' b = none) ∧ W i n H') ?_ m0 ⟨0, H3, I4, st4, nfp, w0⟩
    rintro n s5 ⟨i, H5, I5, st5, n5, w5⟩
    rcases turn i n H5 w5 with ⟨stop, qq⟩ | ⟨go, Nx, hNx, step⟩
    · have td := T.done (X.blk s3 H3 scope ce fp) rfl rfl rfl hc i [] s5 _ H5 (fun _ _ => False) I5 (stat I5 n5) st5 stop
      refine thnF td fun r s6 ⟨hr, I6⟩ => ?_
      subst hr
      -- back in the def's context
      have I7 : Inv X pins σ H5 s6 := I3.call' (ch := fp) I6.os I6.base I6.hok I6.bare fun b hb => ⟨(f3 b hb).1.2.2.2.1, (f3 b hb).1.2.1, (f3 b hb).1.2.2.2.2.1, (f3 b hb).1.2.2.2.2.2⟩
      have nC : H5 s3.heap.objs.size = none := by
        have z : H5 ce.locals = none := I6.free
        rw [cL] at z
        exact z
      obtain ⟨m, hn, _⟩ := I6.loc
      have hn : s6.heap.Ns ce.locals m := hn
      rw [cL] at hn
      exact hRR D s3.heap.objs.size s6 m H5 I7 qq hn (I3.fpOk (Nat.le_refl _) nC)
    · have ti := T.item (X.blk s3 H3 scope ce fp) rfl rfl rfl hc i [] s5 _ H5 (fun _ _ => False) I5 (stat I5 n5) st5 go
      refine thnF ti fun r s6 ⟨u, hr, h6⟩ => ?_
      subst hr
      refine thnF h6 fun _ s7 ⟨x, H7, I7, r7, y7, st7, n7⟩ => ?_
      have I7' := I7.pinned (stat I7 n7) (T.obj _ _ st7)
      refine thnF (pg _ s7 _ H7 x u _ I7' r7 (step x H7 y7)) fun _ s8 ⟨σ8, H8, I8, hw8, q8⟩ => ?_
      refine thnF (pt _ s8 σ8 H8 _ I8 q8) fun b s9 ⟨H9, I9, q9⟩ => ?_
      -- the turn's end
      have fin : ∀ {s' : Shared} {H' : Hp}, Inv (X.blk s3 H3 scope ce fp) ([] ++ pinsAt fp s7.heap) σ8 H' s' → Nx H' → ∃ m, m < n ∧ ∃ i H', Inv (X.blk s3 H3 scope ce fp) [] (wipe σ (own.map (·.2))) H' s' ∧ tn i s'.heap ∧ (∀ b ∈ fp, H' b = none) ∧ W i m H' := fun {s' H'} I' nx => by
        obtain ⟨m', hm, w'⟩ := hNx H' nx
        have pin' : ∀ b ∈ fp, ∀ o, s7.heap.get? b = some o → s'.heap.get? b = some o ∧ H' b = none := fun b hb o e =>
          let z := I'.pin (b, o) (List.mem_append_right _ (List.mem_append_right _ (mem_pinsAt hb e)))
          ⟨z.1, z.2.1⟩
        have hl : (wipe σ (own.map (·.2))).length = σ8.length := by rw [← hw8, wipe_length]
        refine ⟨m', hm, i + 1, H', (I'.unpinned (pins := [])).weak hl (fun j v e => ?_), T.keep _ _ _ st7 fun b hb o e => (pin' b hb o e).1, fun b hb => ?_, w'⟩
        · rw [← hw8] at e
          exact (wipe_some e).1
        · obtain ⟨o, e, _⟩ := T.obj _ _ st7 b hb
          exact (pin' b hb o e).2
      cases b with
      | false =>
        simp only [Bool.false_eq_true, if_false] at q9 ⊢
        exact fin I9 q9
      | true =>
        simp only [if_true] at q9 ⊢
        refine thnF (pe _ s9 σ8 H9 _ I9 q9) fun z s10 ⟨yv, H10, I10, r10, acc, hD10, hz10, nx⟩ => ?_
        exact app_ok (X := X.blk s3 H3 scope ce fp) I10 hD10 hz10 r10 fun s11 I11 => fin I11 nx
  exact codeAny_compStart_list loop (T.self X.A 0 _ _ _ st4 loop)
theorem pe_lc {elt tg iter : Expr} {ifs : List Expr} {scope : Scope} {own : List (Str × Nat)} {pos : Pos} {wi : TI} {g : TG} {tt : TT} {te : TE} (hc : X.calm = true) (hN : X.N.Nodup) (hi : PI X tg iter wi) (ok : BlkOk X.N X.env.scope scope own)
    (hg : ∀ (s : Shared) (H : Hp) (C : Addr) (cl : List (Str × Addr)) (fp : List Addr), PG (X.blk s H scope (compEnvC scope cl C X.env) fp) tg g) (ht : ∀ (s : Shared) (H : Hp) (C : Addr) (cl : List (Str × Addr)) (fp : List Addr), PTs (X.blk s H scope (compEnvC scope cl C X.env) fp) ifs tt)
    (he : ∀ (s : Shared) (H : Hp) (C : Addr) (cl : List (Str × Addr)) (fp : List Addr), PE (X.blk s H scope (compEnvC scope cl C X.env) fp) elt te) (hs : ∀ x, foldedSetIterable iter X.env x = pure x := by intro _; rfl) :
    PE X (.ListComp elt [⟨tg, iter, ifs, 0⟩] scope pos) (tLc wi g tt te (own.map (·.2))) := by
  intro pins s σ H Q I h
  rw [eval_ListComp]
  refine lc_core hc hN I hi ok hg ht he hs h fun D C s' m H' I' q hn f => ⟨m, hn, fun h'' sb => ?_⟩
  obtain ⟨f0, f1, f2, f3, f4, f5⟩ := f
  exact ⟨.ref D, H', I'.turned (t' := s'.toks) (fun b o hb e => (sb.2 b hb).trans e) f0 f1 f3 f4 f5, rfl, q⟩
theorem ps_setLc {i : Nat} {y : Str} {py : Pos} {elt tg iter : Expr} {ifs : List Expr} {scope : Scope} {own : List (Str × Nat)} {pos spos : Pos} {wi : TI} {g : TG} {tt : TT} {te : TE} (hc : X.calm = true) (hN : X.N.Nodup) (hy : X.N[i]? = some y) (hyl : X.env.scope.names.lookup y = some .local)
    (hsw : swapsWith (.ListComp elt [⟨tg, iter, ifs, 0⟩] scope pos) (some (.Name y py)) spos.line X.env = pure true) (hi : PI X tg iter wi) (ok : BlkOk X.N X.env.scope scope own)
    (hg : ∀ (s : Shared) (H : Hp) (C : Addr) (cl : List (Str × Addr)) (fp : List Addr), PG (X.blk s H scope (compEnvC scope cl C X.env) fp) tg g) (ht : ∀ (s : Shared) (H : Hp) (C : Addr) (cl : List (Str × Addr)) (fp : List Addr), PTs (X.blk s H scope (compEnvC scope cl C X.env) fp) ifs tt)
    (he : ∀ (s : Shared) (H : Hp) (C : Addr) (cl : List (Str × Addr)) (fp : List Addr), PE (X.blk s H scope (compEnvC scope cl C X.env) fp) elt te) (hs : ∀ x, foldedSetIterable iter X.env x = pure x := by intro _; rfl) :
    PS X (.Assign [.Name y py] (.ListComp elt [⟨tg, iter, ifs, 0⟩] scope pos) spos) (tAsg (tLc wi g tt te (own.map (·.2))) (gName i)) := by
  intro pins s σ H D I h
  rw [exec_Assign_Name_used _ _ _ _ hsw]
  refine wpAny_bind (wpAny_standAt (wpAny_bind ?_))
  show wpAny _ X.A (do let _ ← comprehension (.ListComp elt [⟨tg, iter, ifs, 0⟩] scope pos) scope X.env (firstIterPos [⟨tg, iter, ifs, 0⟩] pos) (newList []) false (eval iter X.env) (some (assign (.Name y py) X.env))) _ _ s
  have h : tLc wi g tt te (own.map (·.2)) σ H (fun x H1 => gName i x σ H1 D.nx) := h
  refine wpAny_bind (thn (lc_core (Qf := fun _ s' => SP X pins D .next s') hc hN I hi ok hg ht he hs h fun L C s' m H' I' q hn f => ?_) fun _ s' hq => wpAny_pure (wpAny_pure hq))
  show wpAny _ _ (assign (.Name y py) X.env (.ref L)) _ _ _
  refine wpAny_assign_Name (store_ok2 (v := V.ref L) I' hN hy (.inl hyl) rfl (fun s2 I2 ⟨a, sb, ha⟩ => ?_) (.inr hyl))
  obtain ⟨f0, f1, f2, f3, f4, f5⟩ := f
  have haC : C ≠ a := by
    rcases ha with z | z
    · rw [z]; exact f1
    · exact fun e => f4 y a z e.symm
  refine ⟨m, hn.sameBut sb haC, fun h3 sb3 => ?_⟩
  exact ⟨_, H', I2.turned (t' := s2.toks) (fun b o hb e => (sb3.2 b hb).trans e) f0 f1 f3 f4 f5, q⟩
theorem sw_true {elt : Expr} {gs : List Comprehension} {scope : Scope} {pos py : Pos} {y : Str} {l : Nat} {env : Env} (hk : env.scope.kind = .function) (hy : env.scope.names.lookup y = some .local) (hl : (py.line == pos.line) = true)
    (ha : (scope.names.any fun (n, k) => n == y && (k == .local || k == .cell)) = false) : swapsWith (.ListComp elt gs scope pos) (some (.Name y py)) l env = pure true := by
  have ky : env.kindOf y = some .local := hy
  have hb : env.blockKind = .function := by unfold Env.blockKind; rw [hk]; rfl
  unfold swapsWith
  simp only [hb, ky, ha, Expr.pos, hl]
  rfl
end
theorem lc_range {lo : Int} {n : Nat} {g : TG} {tt : TT} {te : TE} {vs : List Nat} {σ : St} {H1 : Hp} {D : Addr} {Qd : Hp → Prop} (Pv : Nat → Hp → Prop) (h0 : Pv 0 (upd H1 D (.lst [])))
    (hs : ∀ i H, i < n → Pv i H → g (.int (lo + i)) (wipe σ vs) H fun σ2 H2 => wipe σ2 vs = wipe σ vs ∧ tt σ2 H2 fun b H3 =>
      if b = true then te σ2 H3 fun y H4 => ∃ acc, H4 D = some (.lst acc) ∧ acc.length < sizeLine ∧ Pv (i + 1) (upd H4 D (.lst (acc ++ [y]))) else Pv (i + 1) H3) (hd : ∀ H, Pv n H → Qd H) :
    ∃ W : Nat → Nat → Hp → Prop, (∃ m, W 0 m (upd H1 D (.lst []))) ∧ ∀ i m H, W i m H →
      ((Itr lo n).stop i H ∧ Qd H) ∨ ((Itr lo n).go i H ∧ ∃ Nx : Hp → Prop, (∀ H', Nx H' → ∃ m', m' < m ∧ W (i + 1) m' H') ∧ ∀ x H', (Itr lo n).yld i H x H' → g x (wipe σ vs) H' fun σ2 H2 => wipe σ2 vs = wipe σ vs ∧ tt σ2 H2 fun b H3 =>
        if b = true then te σ2 H3 fun y H4 => ∃ acc, H4 D = some (.lst acc) ∧ acc.length < sizeLine ∧ Nx (upd H4 D (.lst (acc ++ [y]))) else Nx H3) := by
  refine ⟨fun i m H => m = n - i ∧ i ≤ n ∧ Pv i H, ⟨n, by simp, Nat.zero_le _, h0⟩, ?_⟩
  rintro i m H ⟨rfl, hi, p⟩
  by_cases hlt : i < n
  · refine .inr ⟨hlt, Pv (i + 1), fun H' p' => ⟨n - (i + 1), by omega, rfl, hlt, p'⟩, fun x H' y => ?_⟩
    obtain ⟨e, y⟩ := y
    subst e y
    exact hs i _ hlt p
  · have e : i = n := by omega
    subst e
    exact .inl ⟨Nat.le_refl _, hd H p⟩
theorem lc_list {K : PySem.W.Frag} {a : Addr} {xs : List V} {g : TG} {tt : TT} {te : TE} {vs : List Nat} {σ : St} {H1 : Hp} {D : Addr} {Qd : Hp → Prop} (Pv : Nat → Hp → Prop) (h0 : Pv 0 (upd H1 D (.lst []))) (hl : ∀ i H, i ≤ xs.length → Pv i H → SqL K H a xs)
    (hs : ∀ i x H, xs[i]? = some x → Pv i H → g x (wipe σ vs) H fun σ2 H2 => wipe σ2 vs = wipe σ vs ∧ tt σ2 H2 fun b H3 =>
      if b = true then te σ2 H3 fun y H4 => ∃ acc, H4 D = some (.lst acc) ∧ acc.length < sizeLine ∧ Pv (i + 1) (upd H4 D (.lst (acc ++ [y]))) else Pv (i + 1) H3) (hd : ∀ H, Pv xs.length H → Qd H) :
    ∃ W : Nat → Nat → Hp → Prop, (∃ m, W 0 m (upd H1 D (.lst []))) ∧ ∀ i m H, W i m H →
      ((Itl K a).stop i H ∧ Qd H) ∨ ((Itl K a).go i H ∧ ∃ Nx : Hp → Prop, (∀ H', Nx H' → ∃ m', m' < m ∧ W (i + 1) m' H') ∧ ∀ x H', (Itl K a).yld i H x H' → g x (wipe σ vs) H' fun σ2 H2 => wipe σ2 vs = wipe σ vs ∧ tt σ2 H2 fun b H3 =>
        if b = true then te σ2 H3 fun y H4 => ∃ acc, H4 D = some (.lst acc) ∧ acc.length < sizeLine ∧ Nx (upd H4 D (.lst (acc ++ [y]))) else Nx H3) := by
  refine ⟨fun i m H => m = xs.length - i ∧ i ≤ xs.length ∧ Pv i H, ⟨xs.length, by simp, Nat.zero_le _, h0⟩, ?_⟩
  rintro i m H ⟨rfl, hi, p⟩
  have q := hl i H hi p
  by_cases hlt : i < xs.length
  · refine .inr ⟨⟨xs, xs[i], q, by simp [hlt]⟩, Pv (i + 1), fun H' p' => ⟨xs.length - (i + 1), by omega, rfl, hlt, p'⟩, fun x H' y => ?_⟩
    obtain ⟨e, y⟩ := y
    subst e
    exact hs i x _ (y xs q) p
  · have e : i = xs.length := by omega
    subst e
    exact .inl ⟨⟨xs, q, Nat.le_refl _⟩, hd H p⟩
theorem lc_tup {K : PySem.W.Frag} {a : Addr} {xs : List V} {g : TG} {tt : TT} {te : TE} {vs : List Nat} {σ : St} {H1 : Hp} {D : Addr} {Qd : Hp → Prop} (Pv : Nat → Hp → Prop) (h0 : Pv 0 (upd H1 D (.lst []))) (hl : ∀ i H, i ≤ xs.length → Pv i H → SqT K H a xs)
    (hs : ∀ i x H, xs[i]? = some x → Pv i H → g x (wipe σ vs) H fun σ2 H2 => wipe σ2 vs = wipe σ vs ∧ tt σ2 H2 fun b H3 =>
      if b = true then te σ2 H3 fun y H4 => ∃ acc, H4 D = some (.lst acc) ∧ acc.length < sizeLine ∧ Pv (i + 1) (upd H4 D (.lst (acc ++ [y]))) else Pv (i + 1) H3) (hd : ∀ H, Pv xs.length H → Qd H) :
    ∃ W : Nat → Nat → Hp → Prop, (∃ m, W 0 m (upd H1 D (.lst []))) ∧ ∀ i m H, W i m H →
      ((Itt K a).stop i H ∧ Qd H) ∨ ((Itt K a).go i H ∧ ∃ Nx : Hp → Prop, (∀ H', Nx H' → ∃ m', m' < m ∧ W (i + 1) m' H') ∧ ∀ x H', (Itt K a).yld i H x H' → g x (wipe σ vs) H' fun σ2 H2 => wipe σ2 vs = wipe σ vs ∧ tt σ2 H2 fun b H3 =>
        if b = true then te σ2 H3 fun y H4 => ∃ acc, H4 D = some (.lst acc) ∧ acc.length < sizeLine ∧ Nx (upd H4 D (.lst (acc ++ [y]))) else Nx H3) := by
  refine ⟨fun i m H => m = xs.length - i ∧ i ≤ xs.length ∧ Pv i H, ⟨xs.length, by simp, Nat.zero_le _, h0⟩, ?_⟩
  rintro i m H ⟨rfl, hi, p⟩
  have q := hl i H hi p
  by_cases hlt : i < xs.length
  · refine .inr ⟨⟨xs, xs[i], q, by simp [hlt]⟩, Pv (i + 1), fun H' p' => ⟨xs.length - (i + 1), by omega, rfl, hlt, p'⟩, fun x H' y => ?_⟩
    obtain ⟨e, y⟩ := y
    subst e
    exact hs i x _ (y xs q) p
  · have e : i = xs.length := by omega
    subst e
    exact .inl ⟨⟨xs, q, Nat.le_refl _⟩, hd H p⟩
def blkC (N : List Str) (sc scope : Scope) (own : List (Str × Nat)) : Bool :=
  (match scope.kind with | .function => true | _ => false) && (scope.names.all fun y => decide (scope.names.lookup y.1 = some y.2)) && (own.all fun p => decide (N[p.2]? = some p.1)) &&
    (scope.names.all fun y => match y.2 with
      | .free => (match sc.names.lookup y.1 with | some .cell => true | some .free => true | _ => false)
      | .local => decide (y.1 ∈ own.map (·.1)) || decide (y.1 ∉ N)
      | .cell => decide (y.1 ∈ own.map (·.1)) || decide (y.1 ∉ N)
      | _ => true)
theorem blkOk_by {N : List Str} {sc scope : Scope} {own : List (Str × Nat)} (h : blkC N sc scope own = true) : BlkOk N sc scope own := by
  unfold blkC at h
  simp only [Bool.and_eq_true, List.all_eq_true, decide_eq_true_eq] at h
  obtain ⟨⟨⟨h1, h2⟩, h3⟩, h4⟩ := h
  refine ⟨?_, h2, h3, fun y hy e => ?_, fun y hy e => ?_⟩
  · split at h1
    · assumption
    · cases h1
  · have q := h4 y hy
    simp only [e] at q
    split at q <;> first | exact .inl (by assumption) | exact .inr (by assumption) | cases q
  · have q := h4 y hy
    rcases e with e | e <;> (simp only [e, Bool.or_eq_true, decide_eq_true_eq] at q; exact q)
end L2
namespace L2
open PySem PySem.Spec PyProof.Rows
theorem compTurn2_out (elt t0 i0 t1 i1 : Expr) (ifs0 ifs1 : List Expr) (scope : Scope) (pos : Pos) (it acc : Value) (env : Env) :
    compTurn (.ListComp elt [⟨t0, i0, ifs0, 0⟩, ⟨t1, i1, ifs1, 0⟩] scope pos) 0 it acc env = (do
      standAt i0.pos
      match ← pyNext it with
      | none => pure (.done .next)
      | some v =>
        letOwnedTupleGo t0 it v
        assign t0 env v
        let mut ok := true
        for c in ifs0 do
          if ok then ok ← isTrue c env (eval c env)
        if ok then
          let x ← eval i1 env
          standAt i1.pos
          let x ← foldedSetIterable i1 env x
          let _ ← runOwn (.compStart (.ListComp elt [⟨t0, i0, ifs0, 0⟩, ⟨t1, i1, ifs1, 0⟩] scope pos) 1 (← holding [x] (pyIter x)) acc env) env
        again (.compLoop (.ListComp elt [⟨t0, i0, ifs0, 0⟩, ⟨t1, i1, ifs1, 0⟩] scope pos) 0 it acc env)) := by rfl
theorem compTurn2_in (elt t0 i0 t1 i1 : Expr) (ifs0 ifs1 : List Expr) (scope : Scope) (pos : Pos) (it acc : Value) (env : Env) :
    compTurn (.ListComp elt [⟨t0, i0, ifs0, 0⟩, ⟨t1, i1, ifs1, 0⟩] scope pos) 1 it acc env = (do
      standAt i1.pos
      match ← pyNext it with
      | none => pure (.done .next)
      | some v =>
        letOwnedTupleGo t1 it v
        assign t1 env v
        let mut ok := true
        for c in ifs1 do
          if ok then ok ← isTrue c env (eval c env)
        if ok then
          (do let _ ← call (.builtin "list.append") [acc, ← eval elt env])
        again (.compLoop (.ListComp elt [⟨t0, i0, ifs0, 0⟩, ⟨t1, i1, ifs1, 0⟩] scope pos) 1 it acc env)) := by rfl
section
variable {prog : Program} {w : World} {A : Around} {R : Result → Shared → Prop} {s : Shared} {elt t0 i0 t1 i1 : Expr} {ifs0 ifs1 : List Expr} {scope : Scope} {pos : Pos} {it acc : Value} {env : Env}
theorem compLoop2_out (hs : ∀ x, foldedSetIterable i1 env x = pure x) (I : Nat → Shared → Prop)
    (turn : ∀ n s, I n s → wpAny (model prog w) A (pyNext it) (fun r s₁ => match r with
      | none => R (.ok .next) s₁
      | some v => wpAny (model prog w) A (letOwnedTupleGo t0 it v) (fun _ s₁' => wpAny (model prog w) A (assign t0 env v) (fun _ s₂ =>
          wpAny (model prog w) A (forIn ifs0 true fun c r => if r = true then do let ok ← isTrue c env (eval c env); pure (ForInStep.yield ok) else pure (ForInStep.yield r)) (fun ok s₃ =>
            if ok = true then wpAny (model prog w) A (eval i1 env) (fun x s₄ => wpAny (model prog w) A (pyIter x) (fun it1 s₅ =>
              codeAny (model prog w) A (.compStart (.ListComp elt [⟨t0, i0, ifs0, 0⟩, ⟨t1, i1, ifs1, 0⟩] scope pos) 1 it1 acc env) (fun r s' => match r with
                | .ok _ => ∃ m, m < n ∧ I m s'
                | .error _ => False) s₅) (notedBy (model prog w) A env fun e s' => R (.error e) s') s₄) (notedBy (model prog w) A env fun e s' => R (.error e) s') s₃
            else ∃ m, m < n ∧ I m s₃) (notedBy (model prog w) A env fun e s' => R (.error e) s') s₂) (notedBy (model prog w) A env fun e s' => R (.error e) s') s₁') (notedBy (model prog w) A env fun e s' => R (.error e) s') s₁) (notedBy (model prog w) A env fun e s' => R (.error e) s') s)
    (n : Nat) (h : I n s) :
    codeAny (model prog w) A (.compLoop (.ListComp elt [⟨t0, i0, ifs0, 0⟩, ⟨t1, i1, ifs1, 0⟩] scope pos) 0 it acc env) R s := by
  refine codeAny_loop rfl I (fun n s hI => ?_) n h
  show wpAny _ A ((compTurn (.ListComp elt [⟨t0, i0, ifs0, 0⟩, ⟨t1, i1, ifs1, 0⟩] scope pos) 0 it acc env).onRaise (fun x => do noteFrame x env; theTreesLotGoes x)) _ _ s
  refine wpAny_noted ?_
  rw [compTurn2_out]
  refine wpAny_bind (wpAny_standAt (wpAny_bind (wpAny_mono (turn n s hI) (fun r s₁ h₁ => ?_) fun _ _ h' => h')))
  cases r with
  | none => exact wpAny_pure h₁
  | some v =>
    refine wpAny_bind (wpAny_mono h₁ (fun _ s₁' h₁' => ?_) fun _ _ h' => h')
    refine wpAny_bind (wpAny_mono h₁' (fun _ s₂ h₂ => wpAny_bind (wpAny_mono h₂ (fun ok s₃ h₃ => ?_) fun _ _ h' => h')) fun _ _ h' => h')
    cases ok with
    | false => exact wpAny_pure ⟨rfl, h₃⟩
    | true =>
      refine wpAny_bind (wpAny_mono h₃ (fun x s₄ h₄ => ?_) fun _ _ h' => h')
      refine wpAny_bind (wpAny_standAt (wpAny_bind (wpAny_of_eq (hs x) (wpAny_bind (wpAny_holding (wpAny_mono h₄ (fun it1 s₅ h₅ => ?_) fun _ _ h' => h'))))))
      refine wpAny_bind (wpAny_runOwn ?_)
      rw [Around.mark_none]
      refine codeAny_mono h₅ fun r s' hr => ?_
      cases r with
      | ok f =>
        first
          | exact wpAny_pure ⟨rfl, hr⟩
          | exact wpAny_bind (wpAny_pure (wpAny_pure ⟨rfl, hr⟩))
      | error e => exact hr.elim
theorem compLoop2_in (I : Nat → Shared → Prop)
    (turn : ∀ n s, I n s → wpAny (model prog w) A (pyNext it) (fun r s₁ => match r with
      | none => R (.ok .next) s₁
      | some v => wpAny (model prog w) A (letOwnedTupleGo t1 it v) (fun _ s₁' => wpAny (model prog w) A (assign t1 env v) (fun _ s₂ =>
          wpAny (model prog w) A (forIn ifs1 true fun c r => if r = true then do let ok ← isTrue c env (eval c env); pure (ForInStep.yield ok) else pure (ForInStep.yield r)) (fun ok s₃ =>
            if ok = true then wpAny (model prog w) A (eval elt env) (fun x s₄ =>
              wpAny (model prog w) A (call (.builtin "list.append") [acc, x]) (fun _ s₅ => ∃ m, m < n ∧ I m s₅) (notedBy (model prog w) A env fun e s' => R (.error e) s') s₄) (notedBy (model prog w) A env fun e s' => R (.error e) s') s₃
            else ∃ m, m < n ∧ I m s₃) (notedBy (model prog w) A env fun e s' => R (.error e) s') s₂) (notedBy (model prog w) A env fun e s' => R (.error e) s') s₁') (notedBy (model prog w) A env fun e s' => R (.error e) s') s₁) (notedBy (model prog w) A env fun e s' => R (.error e) s') s)
    (n : Nat) (h : I n s) :
    codeAny (model prog w) A (.compLoop (.ListComp elt [⟨t0, i0, ifs0, 0⟩, ⟨t1, i1, ifs1, 0⟩] scope pos) 1 it acc env) R s := by
  refine codeAny_loop rfl I (fun n s hI => ?_) n h
  show wpAny _ A ((compTurn (.ListComp elt [⟨t0, i0, ifs0, 0⟩, ⟨t1, i1, ifs1, 0⟩] scope pos) 1 it acc env).onRaise (fun x => do noteFrame x env; theTreesLotGoes x)) _ _ s
  refine wpAny_noted ?_
  rw [compTurn2_in]
  refine wpAny_bind (wpAny_standAt (wpAny_bind (wpAny_mono (turn n s hI) (fun r s₁ h₁ => ?_) fun _ _ h' => h')))
  cases r with
  | none => exact wpAny_pure h₁
  | some v =>
    refine wpAny_bind (wpAny_mono h₁ (fun _ s₁' h₁' => ?_) fun _ _ h' => h')
    refine wpAny_bind (wpAny_mono h₁' (fun _ s₂ h₂ => wpAny_bind (wpAny_mono h₂ (fun ok s₃ h₃ => ?_) fun _ _ h' => h')) fun _ _ h' => h')
    cases ok with
    | false => exact wpAny_pure ⟨rfl, h₃⟩
    | true =>
      exact wpAny_bind (wpAny_bind (wpAny_mono h₃ (fun x s₄ h₄ => wpAny_bind (wpAny_mono h₄ (fun _ s₅ h₅ => wpAny_pure (wpAny_pure ⟨rfl, h₅⟩)) fun _ _ h' => h')) fun _ _ h' => h'))
theorem compStart1_ok (h0 : codeAny (model prog w) A (.compLoop (.ListComp elt [⟨t0, i0, ifs0, 0⟩, ⟨t1, i1, ifs1, 0⟩] scope pos) 1 it acc env) R s)
    (h : wpAny (model prog w) A (pyIter it) (fun it' s' => codeAny (model prog w) A (.compLoop (.ListComp elt [⟨t0, i0, ifs0, 0⟩, ⟨t1, i1, ifs1, 0⟩] scope pos) 1 it' acc env) R s')
      (notedBy (model prog w) A env fun x s' => R (.error x) s') s) :
    codeAny (model prog w) A (.compStart (.ListComp elt [⟨t0, i0, ifs0, 0⟩, ⟨t1, i1, ifs1, 0⟩] scope pos) 1 it acc env) R s := by
  refine codeAny_of_tree ?_
  show wpAny _ _ ((compStart (.ListComp elt [⟨t0, i0, ifs0, 0⟩, ⟨t1, i1, ifs1, 0⟩] scope pos) 1 it acc env).onRaise (fun x => do noteFrame x env; standAt theWindowsPlace)) _ _ s
  refine wpAny_notedAt ?_
  unfold compStart
  show wpAny _ _ (ask >>= _) _ _ s
  refine wpAny_bind (wpAny_askSetting (wpAny_ite ?_))
  split
  · first
      | exact wpAny_bind (wpAny_pure (wpAny_pure (And.intro rfl h0)))
      | exact wpAny_pure (And.intro rfl h0)
  · first
      | exact wpAny_bind (wpAny_rule (wpAny_bind (wpAny_standAt (wpAny_bind (wpAny_mono h (fun it' s' h' => wpAny_pure (And.intro rfl h')) fun _ _ x => x)))))
      | (refine wpAny_bind (wpAny_rule ?_); show wpAny _ _ (standAt i1.pos >>= _) _ _ s; exact wpAny_bind (wpAny_standAt (wpAny_bind (wpAny_mono h (fun it' s' h' => wpAny_pure (And.intro rfl h')) fun _ _ x => x))))
end
theorem wipe_out {σ : St} {i : Nat} : ∀ {vs : List Nat}, i ∉ vs → (wipe σ vs)[i]? = σ[i]?
  | [], _ => rfl
  | v :: vs, h => by
    have h1 : v ≠ i := fun e => h (by rw [e]; exact List.mem_cons_self)
    have h2 : i ∉ vs := fun m => h (List.mem_cons_of_mem _ m)
    unfold wipe
    rw [List.getElem?_set_ne h1]
    exact wipe_out h2
section
variable {X : Cx}
def tLc2 (wi : TI) (g : TG) (tt : TT) (wi1 : TI) (g1 : TG) (tt1 : TT) (te : TE) (vs vs1 : List Nat) : TE := fun σ H Q => wi σ H fun J H1 => ∀ D, H1 D = none → ∃ W : Nat → Nat → Hp → Prop, (∃ m, W 0 m (upd H1 D (.lst []))) ∧ ∀ i m H, W i m H →
  (J.stop i H ∧ Q (.ref D) H) ∨ (J.go i H ∧ ∃ Nx : Hp → Prop, (∀ H', Nx H' → ∃ m', m' < m ∧ W (i + 1) m' H') ∧ ∀ x H', J.yld i H x H' → g x (wipe σ vs) H' fun σ2 H2 => wipe σ2 vs = wipe σ vs ∧ tt σ2 H2 fun b H3 =>
    if b = true then wi1 σ2 H3 fun J1 H4 => ∃ W1 : Nat → Nat → Hp → Prop, (∃ m, W1 0 m H4) ∧ ∀ j k H, W1 j k H →
      (J1.stop j H ∧ Nx H) ∨ (J1.go j H ∧ ∃ Nx1 : Hp → Prop, (∀ H', Nx1 H' → ∃ k', k' < k ∧ W1 (j + 1) k' H') ∧ ∀ x H', J1.yld j H x H' → g1 x (wipe σ2 vs1) H' fun σ3 H5 => wipe σ3 vs1 = wipe σ2 vs1 ∧ tt1 σ3 H5 fun b H6 =>
        if b = true then te σ3 H6 fun y H7 => ∃ acc, H7 D = some (.lst acc) ∧ acc.length < sizeLine ∧ Nx1 (upd H7 D (.lst (acc ++ [y]))) else Nx1 H6)
    else Nx H3)
theorem lc2_core {pins : List (Addr × Obj)} {s : Shared} {σ : St} {H : Hp} {Q : VK} {elt tg iter tg1 iter1 : Expr} {ifs ifs1 : List Expr} {scope : Scope} {own : List (Str × Nat)} {vs1 : List Nat} {pos pos' : Pos} {wi wi1 : TI} {g g1 : TG} {tt tt1 : TT} {te : TE} {use : Option (Value → Sem Unit)} {Qf : Value → Shared → Prop}
    (hc : X.calm = true) (hN : X.N.Nodup) (I : Inv X pins σ H s) (hi : PI X tg iter wi) (ok : BlkOk X.N X.env.scope scope own) (hv : ∀ i ∈ vs1, i ∈ own.map (·.2))
    (hg : ∀ (s : Shared) (H : Hp) (C : Addr) (cl : List (Str × Addr)) (fp : List Addr), PG (X.blk s H scope (compEnvC scope cl C X.env) fp) tg g) (ht : ∀ (s : Shared) (H : Hp) (C : Addr) (cl : List (Str × Addr)) (fp : List Addr), PTs (X.blk s H scope (compEnvC scope cl C X.env) fp) ifs tt)
    (he : ∀ (s : Shared) (H : Hp) (C : Addr) (cl : List (Str × Addr)) (fp : List Addr), PE (X.blk s H scope (compEnvC scope cl C X.env) fp) elt te) (hs : ∀ x, foldedSetIterable iter X.env x = pure x)
    (hi1 : ∀ (s : Shared) (H : Hp) (C : Addr) (cl : List (Str × Addr)) (fp : List Addr), PI (X.blk s H scope (compEnvC scope cl C X.env) fp) tg1 iter1 wi1)
    (hg1 : ∀ (s : Shared) (H : Hp) (C : Addr) (cl : List (Str × Addr)) (fp : List Addr), PG (X.blk s H scope (compEnvC scope cl C X.env) fp) tg1 g1)
    (ht1 : ∀ (s : Shared) (H : Hp) (C : Addr) (cl : List (Str × Addr)) (fp : List Addr), PTs (X.blk s H scope (compEnvC scope cl C X.env) fp) ifs1 tt1)
    (hs1 : ∀ env x, foldedSetIterable iter1 env x = pure x)
    (h : tLc2 wi g tt wi1 g1 tt1 te (own.map (·.2)) vs1 σ H Q)
    (hRR : ∀ D C s' m H', Inv X pins σ H' s' → Q (.ref D) H' → s'.heap.Ns C m → FpOk X pins H' C → compPost (model X.prog X.w) X.A X.xe use Qf (.ref D) C (.ok .next) s') :
    wpAny (model X.prog X.w) X.A (comprehension (.ListComp elt [⟨tg, iter, ifs, 0⟩, ⟨tg1, iter1, ifs1, 0⟩] scope pos) scope X.env pos' (newList []) false (eval iter X.env) use) Qf X.xe s := by
  have hfree : ∀ y ∈ scope.names, y.2 = .free → ∃ c, X.env.cells.lookup y.1 = some c := fun y hy e => by
    rcases ok.free y hy e with k | k
    · exact I.ok.has _ (.inl k)
    · exact I.ok.has _ (.inr k)
  refine wpAny_comprehension_free (use := use) rfl hs (closure_ok hfree) ok.kind (fun y hy e => by rw [ok.uniq y hy, e])
    (thn (hi pins s σ H _ I h) fun xv s1 hx => thn hx fun itv s2 h2 => ?_)
  obtain ⟨it, fp, tn, J, H2, e, I2, T, st2, f2, q⟩ := h2
  subst e
  refine wpAny_newObj_type (newEnv_comp ?_) (by show 0 ≤ sizeLine; decide)
  generalize hD : s2.heap.objs.size = D
  have hDn : H2 D = none := I2.hok.fresh (Nat.le_of_eq hD)
  obtain ⟨W, ⟨m0, w0⟩, turn⟩ := q D hDn
  -- the new list
  generalize hs3 : ({ s2 with heap := s2.heap.push { cls := .type "list", data := .seq ([] : List Value).toArray } } : Shared) = s3
  have I3 : Inv X pins σ (upd H2 D (.lst [])) s3 := by
    rw [← hs3]
    refine I2.laid (t' := s2.toks) (fun b o e => Heap.get?_push_of_some _ e) (Nat.le_of_eq hD) ⟨Nat.zero_le _, [], 0, .nil, ?_⟩
    rw [← hD]
    exact Heap.get?_push_size _ rfl
  have h3 : s3.heap = s2.heap.push { cls := .type "list", data := .seq ([] : List Value).toArray } := by rw [← hs3]
  have sz : ∀ b ∈ fp, b < s2.heap.objs.size := fun b hb => by
    obtain ⟨o, e, _⟩ := T.obj _ _ st2 b hb
    exact Heap.lt_size e
  have f3 : ∀ b ∈ fp, FpOk X pins (upd H2 D (.lst [])) b ∧ b < s3.heap.objs.size := fun b hb => by
    have hlt := sz b hb
    refine ⟨⟨?_, (f2 b hb).2⟩, by rw [h3, Heap.size_push]; exact Nat.lt_succ_of_lt hlt⟩
    rw [upd_ne (by rw [← hD]; exact Nat.ne_of_lt hlt)]
    exact (f2 b hb).1
  have st3 : tn 0 s3.heap := T.keep _ _ _ st2 fun b _ o e => by rw [h3]; exact Heap.get?_push_of_some _ e
  have I4 := block_start I3 ok hN f3
  have pg := hg s3 (upd H2 D (.lst [])) s3.heap.objs.size (cellsFrom (s3.heap.objs.size + 1) scope.names (cloFrom X.env.cells scope.names [])) fp
  have pt := ht s3 (upd H2 D (.lst [])) s3.heap.objs.size (cellsFrom (s3.heap.objs.size + 1) scope.names (cloFrom X.env.cells scope.names [])) fp
  have pe := he s3 (upd H2 D (.lst [])) s3.heap.objs.size (cellsFrom (s3.heap.objs.size + 1) scope.names (cloFrom X.env.cells scope.names [])) fp
  have pi1 := hi1 s3 (upd H2 D (.lst [])) s3.heap.objs.size (cellsFrom (s3.heap.objs.size + 1) scope.names (cloFrom X.env.cells scope.names [])) fp
  have pg1 := hg1 s3 (upd H2 D (.lst [])) s3.heap.objs.size (cellsFrom (s3.heap.objs.size + 1) scope.names (cloFrom X.env.cells scope.names [])) fp
  have pt1 := ht1 s3 (upd H2 D (.lst [])) s3.heap.objs.size (cellsFrom (s3.heap.objs.size + 1) scope.names (cloFrom X.env.cells scope.names [])) fp
  show codeAny _ _ (.compStart (.ListComp elt [⟨tg, iter, ifs, 0⟩, ⟨tg1, iter1, ifs1, 0⟩] scope pos) 0 (.ref it) (.ref D) (compEnvC scope (cellsFrom (s3.heap.objs.size + 1) scope.names (cloFrom X.env.cells scope.names [])) s3.heap.objs.size X.env)) (compPost (model X.prog X.w) X.A X.xe use Qf (.ref D) s3.heap.objs.size) { s3 with heap := pushCells (s3.heap.push { cls := .type "dict", data := .dict #[] }) scope.names }
  have nfp : ∀ b ∈ fp, (upd H2 D (.lst [])) b = none := fun b hb => (f3 b hb).1.1
  generalize hce : compEnvC scope (cellsFrom (s3.heap.objs.size + 1) scope.names (cloFrom X.env.cells scope.names [])) s3.heap.objs.size X.env = ce at I4 pg pt pe pi1 pg1 pt1 ⊢
  have cL : ce.locals = s3.heap.objs.size := by subst hce; rfl
  generalize hH3 : upd H2 D (.lst []) = H3 at I3 I4 pg pt pe pi1 pg1 pt1 w0 nfp f3
  generalize hs4 : ({ s3 with heap := pushCells (s3.heap.push { cls := .type "dict", data := .dict #[] }) scope.names } : Shared) = s4 at I4 ⊢
  have st4 : tn 0 s4.heap := T.keep _ _ _ st3 fun b _ o e => by rw [← hs4]; exact pushCells_keeps _ _ _ _ (Heap.get?_push_of_some _ e)
  have stat : ∀ {σ' : St} {H' : Hp} {s' : Shared}, Inv (X.blk s3 H3 scope ce fp) [] σ' H' s' → (∀ b ∈ fp, H' b = none) → ∀ b ∈ fp, FpOk (X.blk s3 H3 scope ce fp) [] H' b := fun {σ' H' s'} I' hn b hb =>
    ⟨hn b hb, (I'.ok.exf b hb).1, I'.ok.exfs b hb, .inl hb, fun x c e => (I'.ok.exf b hb).2 x c e, fun p hp => absurd (show p ∈ ([] : List (Addr × Obj)) ++ [] from hp) (by simp)⟩
  have loop : codeAny (model X.prog X.w) X.A (.compLoop (.ListComp elt [⟨tg, iter, ifs, 0⟩, ⟨tg1, iter1, ifs1, 0⟩] scope pos) 0 (.ref it) (.ref D) ce) (compPost (model X.prog X.w) X.A X.xe use Qf (.ref D) s3.heap.objs.size) s4 := by
    refine compLoop2_out (hs1 ce) (fun n s' => ∃ i H', Inv (X.blk s3 H3 scope ce fp) [] (wipe σ (own.map (·.2))) H' s' ∧ tn i s'.heap ∧ (∀ b ∈ fp, H' b = none) ∧ W i n H') ?_ m0 ⟨0, H3, I4, st4, nfp, w0⟩
    rintro n s5 ⟨i, H5, I5, st5, n5, w5⟩
    rcases turn i n H5 w5 with ⟨stop, qq⟩ | ⟨go, Nx, hNx, step⟩
    · have td := T.done (X.blk s3 H3 scope ce fp) rfl rfl rfl hc i [] s5 _ H5 (fun _ _ => False) I5 (stat I5 n5) st5 stop
      refine thnF td fun r s6 ⟨hr, I6⟩ => ?_
      subst hr
      -- back in the def's context
      have I7 : Inv X pins σ H5 s6 := I3.call' (ch := fp) I6.os I6.base I6.hok I6.bare fun b hb => ⟨(f3 b hb).1.2.2.2.1, (f3 b hb).1.2.1, (f3 b hb).1.2.2.2.2.1, (f3 b hb).1.2.2.2.2.2⟩
      have nC : H5 s3.heap.objs.size = none := by
        have z : H5 ce.locals = none := I6.free
        rw [cL] at z
        exact z
      obtain ⟨m, hn, _⟩ := I6.loc
      have hn : s6.heap.Ns ce.locals m := hn
      rw [cL] at hn
      exact hRR D s3.heap.objs.size s6 m H5 I7 qq hn (I3.fpOk (Nat.le_refl _) nC)
    · have ti := T.item (X.blk s3 H3 scope ce fp) rfl rfl rfl hc i [] s5 _ H5 (fun _ _ => False) I5 (stat I5 n5) st5 go
      refine thnF ti fun r s6 ⟨u, hr, h6⟩ => ?_
      subst hr
      refine thnF h6 fun _ s7 ⟨x, H7, I7, r7, y7, st7, n7⟩ => ?_
      have I7' := I7.pinned (stat I7 n7) (T.obj _ _ st7)
      refine thnF (pg _ s7 _ H7 x u _ I7' r7 (step x H7 y7)) fun _ s8 ⟨σ8, H8, I8, hw8, q8⟩ => ?_
      refine thnF (pt _ s8 σ8 H8 _ I8 q8) fun b s9 ⟨H9, I9, q9⟩ => ?_
      -- the turn's end, from any slots that know what the block knew at its start
      have fin : ∀ {σ9 : St} {s' : Shared} {H' : Hp}, Inv (X.blk s3 H3 scope ce fp) ([] ++ pinsAt fp s7.heap) σ9 H' s' → (wipe σ (own.map (·.2))).length = σ9.length → (∀ (j : Nat) v, (wipe σ (own.map (·.2)))[j]? = some (some v) → σ9[j]? = some (some v)) → Nx H' →
          ∃ m, m < n ∧ ∃ i H', Inv (X.blk s3 H3 scope ce fp) [] (wipe σ (own.map (·.2))) H' s' ∧ tn i s'.heap ∧ (∀ b ∈ fp, H' b = none) ∧ W i m H' := fun {σ9 s' H'} I' hl hk nx => by
        obtain ⟨m', hm, w'⟩ := hNx H' nx
        have pin' : ∀ b ∈ fp, ∀ o, s7.heap.get? b = some o → s'.heap.get? b = some o ∧ H' b = none := fun b hb o e =>
          let z := I'.pin (b, o) (List.mem_append_right _ (List.mem_append_right _ (mem_pinsAt hb e)))
          ⟨z.1, z.2.1⟩
        refine ⟨m', hm, i + 1, H', (I'.unpinned (pins := [])).weak hl hk, T.keep _ _ _ st7 fun b hb o e => (pin' b hb o e).1, fun b hb => ?_, w'⟩
        obtain ⟨o, e, _⟩ := T.obj _ _ st7 b hb
        exact (pin' b hb o e).2
      have hl8 : (wipe σ (own.map (·.2))).length = σ8.length := by rw [← hw8, wipe_length]
      have hk8 : ∀ (j : Nat) v, (wipe σ (own.map (·.2)))[j]? = some (some v) → σ8[j]? = some (some v) := fun j v e => by
        rw [← hw8] at e
        exact (wipe_some e).1
      have hk9 : ∀ (j : Nat) v, (wipe σ (own.map (·.2)))[j]? = some (some v) → (wipe σ8 vs1)[j]? = some (some v) := fun j v e => by
        rw [← hw8] at e
        obtain ⟨e1, e2⟩ := wipe_some e
        rw [wipe_out fun z => e2 (hv j z)]
        exact e1
      cases b with
      | false =>
        simp only [Bool.false_eq_true, if_false] at q9 ⊢
        exact fin I9 hl8 hk8 q9
      | true =>
        simp only [if_true] at q9 ⊢
        refine thnF (pi1 _ s9 σ8 H9 _ I9 q9) fun xv s10 hx => thnF hx fun itv s11 h11 => ?_
        obtain ⟨it1, fp1, tn1, J1, H11, e1, I11, T1, st11, f11, W1, ⟨m1, w1⟩, turn1⟩ := h11
        subst e1
        -- the inner loop
        have stat1 : ∀ {H' : Hp}, (∀ b ∈ fp1, H' b = none) → ∀ b ∈ fp1, FpOk (X.blk s3 H3 scope ce fp) ([] ++ pinsAt fp s7.heap) H' b := fun hn b hb => ⟨hn b hb, (f11 b hb).2⟩
        have loop1 : codeAny (model X.prog X.w) X.A (.compLoop (.ListComp elt [⟨tg, iter, ifs, 0⟩, ⟨tg1, iter1, ifs1, 0⟩] scope pos) 1 (.ref it1) (.ref D) ce)
            (fun r s' => match r with
              | .ok _ => ∃ m, m < n ∧ ∃ i H', Inv (X.blk s3 H3 scope ce fp) [] (wipe σ (own.map (·.2))) H' s' ∧ tn i s'.heap ∧ (∀ b ∈ fp, H' b = none) ∧ W i m H'
              | .error _ => False) s11 := by
          refine compLoop2_in (fun k s' => ∃ j H', Inv (X.blk s3 H3 scope ce fp) ([] ++ pinsAt fp s7.heap) (wipe σ8 vs1) H' s' ∧ tn1 j s'.heap ∧ (∀ b ∈ fp1, H' b = none) ∧ W1 j k H') ?_ m1 ⟨0, H11, I11.weak (wipe_length _ _) (fun j v e => (wipe_some e).1), st11, fun b hb => (f11 b hb).1, w1⟩
          rintro k s12 ⟨j, H12, I12, st12, n12, w12⟩
          rcases turn1 j k H12 w12 with ⟨stop1, nx1⟩ | ⟨go1, Nx1, hNx1, step1⟩
          · refine thnF (T1.done (X.blk s3 H3 scope ce fp) rfl rfl rfl hc j _ s12 (wipe σ8 vs1) H12 (fun _ _ => False) I12 (stat1 n12) st12 stop1) fun r s13 ⟨hr, I13⟩ => ?_
            subst hr
            exact fin I13 (hl8.trans (wipe_length σ8 vs1).symm) hk9 nx1
          · refine thnF (T1.item (X.blk s3 H3 scope ce fp) rfl rfl rfl hc j _ s12 (wipe σ8 vs1) H12 (fun _ _ => False) I12 (stat1 n12) st12 go1) fun r s13 ⟨u1, hr, h13⟩ => ?_
            subst hr
            refine thnF h13 fun _ s14 ⟨x1, H14, I14, r14, y14, st14, n14⟩ => ?_
            have I14' := I14.pinned (stat1 n14) (T1.obj _ _ st14)
            refine thnF (pg1 _ s14 (wipe σ8 vs1) H14 x1 u1 _ I14' r14 (step1 x1 H14 y14)) fun _ s15 ⟨σ15, H15, I15, hw15, q15⟩ => ?_
            refine thnF (pt1 _ s15 σ15 H15 _ I15 q15) fun b1 s16 ⟨H16, I16, q16⟩ => ?_
            have fin1 : ∀ {s' : Shared} {H' : Hp}, Inv (X.blk s3 H3 scope ce fp) (([] ++ pinsAt fp s7.heap) ++ pinsAt fp1 s14.heap) σ15 H' s' → Nx1 H' → ∃ m, m < k ∧ ∃ j H', Inv (X.blk s3 H3 scope ce fp) ([] ++ pinsAt fp s7.heap) (wipe σ8 vs1) H' s' ∧ tn1 j s'.heap ∧ (∀ b ∈ fp1, H' b = none) ∧ W1 j m H' := fun {s' H'} I' nx => by
              obtain ⟨m', hm, w'⟩ := hNx1 H' nx
              have pin' : ∀ b ∈ fp1, ∀ o, s14.heap.get? b = some o → s'.heap.get? b = some o ∧ H' b = none := fun b hb o e =>
                let z := I'.pin (b, o) (List.mem_append_right _ (List.mem_append_right _ (mem_pinsAt hb e)))
                ⟨z.1, z.2.1⟩
              refine ⟨m', hm, j + 1, H', I'.unpinned.weak (by rw [← hw15, wipe_length]) (fun j v e => by rw [← hw15] at e; exact (wipe_some e).1), T1.keep _ _ _ st14 fun b hb o e => (pin' b hb o e).1, fun b hb => ?_, w'⟩
              obtain ⟨o, e, _⟩ := T1.obj _ _ st14 b hb
              exact (pin' b hb o e).2
            cases b1 with
            | false =>
              simp only [Bool.false_eq_true, if_false] at q16 ⊢
              exact fin1 I16 q16
            | true =>
              simp only [if_true] at q16 ⊢
              refine thnF (pe _ s16 σ15 H16 _ I16 q16) fun z s17 ⟨yv, H17, I17, r17, acc, hD17, hz17, nx⟩ => ?_
              exact app_ok (X := X.blk s3 H3 scope ce fp) I17 hD17 hz17 r17 fun s18 I18 => fin1 I18 nx
        exact compStart1_ok loop1 (T1.self X.A 0 _ _ _ st11 loop1)
  exact codeAny_compStart_list loop (T.self X.A 0 _ _ _ st4 loop)
theorem ps_setLc2 {i : Nat} {y : Str} {py : Pos} {elt tg iter tg1 iter1 : Expr} {ifs ifs1 : List Expr} {scope : Scope} {own : List (Str × Nat)} {vs1 : List Nat} {pos spos : Pos} {wi wi1 : TI} {g g1 : TG} {tt tt1 : TT} {te : TE} (hc : X.calm = true) (hN : X.N.Nodup) (hy : X.N[i]? = some y) (hyl : X.env.scope.names.lookup y = some .local)
    (hsw : swapsWith (.ListComp elt [⟨tg, iter, ifs, 0⟩, ⟨tg1, iter1, ifs1, 0⟩] scope pos) (some (.Name y py)) spos.line X.env = pure true) (hi : PI X tg iter wi) (ok : BlkOk X.N X.env.scope scope own) (hv : ∀ i ∈ vs1, i ∈ own.map (·.2))
    (hg : ∀ (s : Shared) (H : Hp) (C : Addr) (cl : List (Str × Addr)) (fp : List Addr), PG (X.blk s H scope (compEnvC scope cl C X.env) fp) tg g) (ht : ∀ (s : Shared) (H : Hp) (C : Addr) (cl : List (Str × Addr)) (fp : List Addr), PTs (X.blk s H scope (compEnvC scope cl C X.env) fp) ifs tt)
    (hi1 : ∀ (s : Shared) (H : Hp) (C : Addr) (cl : List (Str × Addr)) (fp : List Addr), PI (X.blk s H scope (compEnvC scope cl C X.env) fp) tg1 iter1 wi1)
    (hg1 : ∀ (s : Shared) (H : Hp) (C : Addr) (cl : List (Str × Addr)) (fp : List Addr), PG (X.blk s H scope (compEnvC scope cl C X.env) fp) tg1 g1) (ht1 : ∀ (s : Shared) (H : Hp) (C : Addr) (cl : List (Str × Addr)) (fp : List Addr), PTs (X.blk s H scope (compEnvC scope cl C X.env) fp) ifs1 tt1)
    (he : ∀ (s : Shared) (H : Hp) (C : Addr) (cl : List (Str × Addr)) (fp : List Addr), PE (X.blk s H scope (compEnvC scope cl C X.env) fp) elt te) (hs : ∀ x, foldedSetIterable iter X.env x = pure x := by intro _; rfl) (hs1 : ∀ env x, foldedSetIterable iter1 env x = pure x := by intro _ _; rfl) :
    PS X (.Assign [.Name y py] (.ListComp elt [⟨tg, iter, ifs, 0⟩, ⟨tg1, iter1, ifs1, 0⟩] scope pos) spos) (tAsg (tLc2 wi g tt wi1 g1 tt1 te (own.map (·.2)) vs1) (gName i)) := by
  intro pins s σ H D I h
  rw [exec_Assign_Name_used _ _ _ _ hsw]
  refine wpAny_bind (wpAny_standAt (wpAny_bind ?_))
  show wpAny _ X.A (do let _ ← comprehension (.ListComp elt [⟨tg, iter, ifs, 0⟩, ⟨tg1, iter1, ifs1, 0⟩] scope pos) scope X.env (firstIterPos [⟨tg, iter, ifs, 0⟩, ⟨tg1, iter1, ifs1, 0⟩] pos) (newList []) false (eval iter X.env) (some (assign (.Name y py) X.env))) _ _ s
  have h : tLc2 wi g tt wi1 g1 tt1 te (own.map (·.2)) vs1 σ H (fun x H1 => gName i x σ H1 D.nx) := h
  refine wpAny_bind (thn (lc2_core (Qf := fun _ s' => SP X pins D .next s') hc hN I hi ok hv hg ht he hs hi1 hg1 ht1 hs1 h fun L C s' m H' I' q hn f => ?_) fun _ s' hq => wpAny_pure (wpAny_pure hq))
  show wpAny _ _ (assign (.Name y py) X.env (.ref L)) _ _ _
  refine wpAny_assign_Name (store_ok2 (v := V.ref L) I' hN hy (.inl hyl) rfl (fun s2 I2 ⟨a, sb, ha⟩ => ?_) (.inr hyl))
  obtain ⟨f0, f1, f2, f3, f4, f5⟩ := f
  have haC : C ≠ a := by
    rcases ha with z | z
    · rw [z]; exact f1
    · exact fun e => f4 y a z e.symm
  refine ⟨m, hn.sameBut sb haC, fun h3 sb3 => ?_⟩
  exact ⟨_, H', I2.turned (t' := s2.toks) (fun b o hb e => (sb3.2 b hb).trans e) f0 f1 f3 f4 f5, q⟩
end
end L2
namespace L2
open PySem PySem.Spec PyProof.Rows
section
variable {κ : Type} [DecidableEq κ]
def valV (kvs : List (κ × V)) (k : κ) : Option V := (kvs.find? fun kv => decide (kv.1 = k)).map (·.2)
def putK (kvs : List (κ × V)) (k : κ) (v : V) : List (κ × V) :=
  if (kvs.any fun kv => decide (kv.1 = k)) = true then kvs.map (fun kv => if kv.1 = k then (kv.1, v) else kv) else kvs ++ [(k, v)]
theorem valV_pos {p : κ × V} {r : List (κ × V)} {k : κ} (e : p.1 = k) : valV (p :: r) k = some p.2 := by simp [valV, List.find?_cons, e]
theorem valV_neg {p : κ × V} {r : List (κ × V)} {k : κ} (e : ¬ p.1 = k) : valV (p :: r) k = valV r k := by simp [valV, List.find?_cons, e]
theorem valV_any (k : κ) : ∀ kvs : List (κ × V), (kvs.any fun kv => decide (kv.1 = k)) = (valV kvs k).isSome
  | [] => rfl
  | p :: r => by
    rw [List.any_cons]
    by_cases e : p.1 = k
    · simp only [valV_pos e, decide_eq_true e, Bool.true_or, Option.isSome_some]
    · rw [valV_neg e, decide_eq_false e, Bool.false_or]; exact valV_any k r
theorem valV_map (k j : κ) (y : V) : ∀ kvs : List (κ × V), valV (kvs.map fun kv => if kv.1 = k then (kv.1, y) else kv) j = (valV kvs j).map fun x => if j = k then y else x
  | [] => rfl
  | p :: r => by
    have ih := valV_map k j y r
    rw [List.map_cons]
    by_cases h : p.1 = k
    · rw [if_pos h]
      by_cases e : p.1 = j
      · rw [valV_pos (p := (p.1, y)) e, valV_pos e, Option.map_some, if_pos (e.symm.trans h)]
      · rw [valV_neg (p := (p.1, y)) e, valV_neg e, ih]
    · rw [if_neg h]
      by_cases e : p.1 = j
      · rw [valV_pos (p := p) e, valV_pos e, Option.map_some, if_neg (fun z => h (e.trans z))]
      · rw [valV_neg (p := p) e, valV_neg e, ih]
theorem valV_snoc (k j : κ) (y : V) : ∀ kvs : List (κ × V), valV kvs k = none → valV (kvs ++ [(k, y)]) j = if j = k then some y else valV kvs j
  | [], _ => by
    by_cases e : k = j
    · rw [if_pos e.symm]; exact valV_pos (p := (k, y)) e
    · rw [if_neg (fun z => e z.symm)]; exact valV_neg (p := (k, y)) e
  | p :: r, hn => by
    rw [List.cons_append]
    have hk : ¬ p.1 = k := fun z => by rw [valV_pos z] at hn; cases hn
    rw [valV_neg hk] at hn
    have ih := valV_snoc k j y r hn
    by_cases e : p.1 = j
    · rw [valV_pos e, valV_pos e, if_neg (fun z => hk (e.trans z))]
    · rw [valV_neg e, valV_neg e, ih]
theorem valV_put (kvs : List (κ × V)) (k j : κ) (y : V) : valV (putK kvs k y) j = if j = k then some y else valV kvs j := by
  unfold putK
  by_cases a : (kvs.any fun kv => decide (kv.1 = k)) = true
  · rw [if_pos a, valV_map]
    rw [valV_any] at a
    by_cases e : j = k
    · obtain ⟨x, hx⟩ := Option.isSome_iff_exists.mp a
      rw [if_pos e, e, hx, Option.map_some, if_pos rfl]
    · rw [if_neg e]
      cases valV kvs j with
      | none => rfl
      | some x => rw [Option.map_some, if_neg e]
  · rw [if_neg a]
    refine valV_snoc k j y kvs ?_
    rw [valV_any] at a
    cases q : valV kvs k with
    | none => rfl
    | some x => rw [q] at a; exact (a rfl).elim
theorem length_putK (kvs : List (κ × V)) (k : κ) (v : V) : (putK kvs k v).length ≤ kvs.length + 1 := by
  unfold putK
  split
  · rw [List.length_map]; omega
  · rw [List.length_append, List.length_cons, List.length_nil]; omega
theorem RelO.isSome_eq {o : Option V} {u : Option Value} (r : RelO o u) : o.isSome = u.isSome := by
  cases o with
  | none => cases u with
    | none => rfl
    | some _ => exact (show False from r).elim
  | some _ => cases u with
    | none => exact (show False from r).elim
    | some _ => rfl
theorem KV.val {kvs : List (κ × V)} {vs : List (κ × Value)} (r : KV kvs vs) (k : κ) : RelO (valV kvs k) (valueAt vs k) := by
  unfold KV at r
  induction r with
  | nil => exact True.intro
  | @cons p q ps qs h t ih =>
    obtain ⟨h1, h2⟩ := h
    by_cases e : p.1 = k
    · have e' : q.1 = k := h1.symm.trans e
      have b : valueAt (q :: qs) k = some q.2 := by simp [valueAt, List.find?_cons, e']
      rw [valV_pos e, b]; exact h2
    · have e' : ¬ q.1 = k := fun z => e (h1.trans z)
      have b : valueAt (q :: qs) k = valueAt qs k := by simp [valueAt, List.find?_cons, e']
      rw [valV_neg e, b]; exact ih
theorem KV.any {kvs : List (κ × V)} {vs : List (κ × Value)} (r : KV kvs vs) (k : κ) : (kvs.any fun kv => decide (kv.1 = k)) = vs.any fun kv => decide (kv.1 = k) := by
  unfold KV at r
  induction r with
  | nil => rfl
  | cons h t ih => rw [List.any_cons, List.any_cons, ih, h.1]
theorem KV.repl {kvs : List (κ × V)} {vs : List (κ × Value)} (r : KV kvs vs) (k : κ) {y : V} {u : Value} (ry : RelV y u) :
    KV (kvs.map fun kv => if kv.1 = k then (kv.1, y) else kv) (vs.map fun kv => if kv.1 = k then (kv.1, u) else kv) := by
  unfold KV at r ⊢
  induction r with
  | nil => exact .nil
  | @cons p q ps qs h t ih =>
    rw [List.map_cons, List.map_cons]
    refine .cons ?_ ih
    obtain ⟨h1, h2⟩ := h
    by_cases e : p.1 = k
    · rw [if_pos e, if_pos (h1.symm.trans e)]; exact ⟨h1, ry⟩
    · rw [if_neg e, if_neg (fun z => e (h1.trans z))]; exact ⟨h1, h2⟩
theorem KV.put {kvs : List (κ × V)} {vs : List (κ × Value)} (r : KV kvs vs) (k : κ) {y : V} {u : Value} (ry : RelV y u) : KV (putK kvs k y) (stored vs k u) := by
  unfold putK stored
  rw [r.any k]
  by_cases e : (vs.any fun kv => decide (kv.1 = k)) = true
  · rw [if_pos e, if_pos e]; exact r.repl k ry
  · rw [if_neg e, if_neg e]; exact Paired.snoc r ⟨rfl, ry⟩
theorem KV.length {kvs : List (κ × V)} {vs : List (κ × Value)} (r : KV kvs vs) : kvs.length = vs.length := Paired.length r
end
theorem kV_is {P : Program} {w : World} {k : Key} {u : Value} (r : RelV (kV k) u) : (mixKind P w).is k u = true := by
  cases k with
  | inl i => obtain ⟨t, e⟩ := (show ∃ t, u = Value.int i t from r); subst e; exact mixKind_int P w i t
  | inr x => obtain ⟨t, e⟩ := (show ∃ t, u = Value.str x t from r); subst e; exact mixKind_str P w x t
theorem items_are {P : Program} {w : World} : ∀ {ks : List Key} {us : List Value}, Vals (ks.map kV) us → ItemsAre (mixKind P w) ks us
  | [], _, r => by rw [List.map_nil] at r; cases r; exact .nil
  | k :: ks, _, r => by
    rw [List.map_cons] at r
    cases r with
    | cons h t => exact .cons (kV_is h) (items_are t)
abbrev KT (H : Hp) : List (List Key × V) → List (List Key × Addr × Value) → Prop := Paired fun p q => p.1 = q.1 ∧ H q.2.1 = some (.tup (p.1.map kV)) ∧ RelV p.2 q.2.2
theorem KT.val {H : Hp} {kvs : List (List Key × V)} {xs : List (List Key × Addr × Value)} (r : KT H kvs xs) (k : List Key) : RelO (valV kvs k) ((atKey xs k).map (·.2)) := by
  induction r with
  | nil => exact True.intro
  | @cons p q ps qs h t ih =>
    obtain ⟨h1, _, h2⟩ := h
    by_cases e : p.1 = k
    · have e' : q.1 = k := h1.symm.trans e
      have b : atKey (q :: qs) k = some q.2 := by simp [atKey, List.find?_cons, e']
      rw [valV_pos e, b]; exact h2
    · have e' : ¬ q.1 = k := fun z => e (h1.trans z)
      have b : atKey (q :: qs) k = atKey qs k := by simp [atKey, List.find?_cons, e']
      rw [valV_neg e, b]; exact ih
theorem KT.repl {H : Hp} {kvs : List (List Key × V)} {xs : List (List Key × Addr × Value)} (r : KT H kvs xs) (k : List Key) {y : V} {u : Value} (ry : RelV y u) :
    KT H (kvs.map fun kv => if kv.1 = k then (kv.1, y) else kv) (xs.map (putAt k u)) := by
  induction r with
  | nil => exact .nil
  | @cons p q ps qs h t ih =>
    rw [List.map_cons, List.map_cons]
    refine .cons ?_ ih
    obtain ⟨h1, h2, h3⟩ := h
    unfold putAt
    by_cases e : p.1 = k
    · rw [if_pos e, if_pos (h1.symm.trans e)]; exact ⟨h1, h2, ry⟩
    · rw [if_neg e, if_neg (fun z => e (h1.trans z))]; exact ⟨h1, h2, h3⟩
theorem KT.put {H : Hp} {kvs : List (List Key × V)} {xs : List (List Key × Addr × Value)} (r : KT H kvs xs) (k : List Key) {b : Addr} {y : V} {u : Value} (hb : H b = some (.tup (k.map kV))) (ry : RelV y u) :
    KT H (putK kvs k y) (storedH xs k b u) := by
  have e : (kvs.any fun kv => decide (kv.1 = k)) = (atKey xs k).isSome := by
    rw [valV_any, (r.val k).isSome_eq, Option.isSome_map]
  unfold putK storedH
  rw [e]
  by_cases q : (atKey xs k).isSome = true
  · rw [if_pos q, if_pos q]; exact r.repl k ry
  · rw [if_neg q, if_neg q]; exact Paired.snoc r ⟨rfl, hb, ry⟩
theorem KT.keeps {H H' : Hp} {kvs : List (List Key × V)} {xs : List (List Key × Addr × Value)} (r : KT H kvs xs) (ht : ∀ b ys, H b = some (.tup ys) → H' b = some (.tup ys)) : KT H' kvs xs :=
  Paired.mapP r fun _ _ z => ⟨z.1, ht _ _ z.2.1, z.2.2⟩
section
variable {P : Program} {w : World} {H : Hp} {h : Heap} {a : Addr}
theorem rd_of {u : HO} (ok : HOk P w H h) (e : Rd H a u) : ObjOk P w H h a u := e.ok ok
theorem dk_rd {kvs : List (Key × V)} (ok : HOk P w H h) (e : Rd H a (.dK kvs)) : kvs.length ≤ sizeLine ∧ (a == sysModules) = false ∧ ∃ vs, KV kvs vs ∧ h.DictOf (mixKind P w) a vs :=
  show ObjOk P w H h a (.dK kvs) from rd_of ok e
theorem dk_of {kvs : List (Key × V)} (ok : HOk P w H h) (e : H a = some (.dK kvs)) : kvs.length ≤ sizeLine ∧ (a == sysModules) = false ∧ ∃ vs, KV kvs vs ∧ h.DictOf (mixKind P w) a vs := dk_rd ok (.inl e)
theorem key_of {ks : List Key} (ok : HOk P w H h) (e : H a = some (.tup (ks.map kV))) : (tupleKind (mixKind P w)).is h ks a := by
  obtain ⟨_, its, r, o, h1, h2, n, h3⟩ := (show ObjOk P w H h a (.tup (ks.map kV)) from ok a _ e)
  exact ⟨o, its.toArray, n, h1, h2, h3, by simpa using items_are r⟩
theorem dt_rd {kvs : List (List Key × V)} (ok : HOk P w H h) (e : Rd H a (.dT kvs)) : kvs.length ≤ sizeLine ∧ (a == sysModules) = false ∧
    ∃ xs, KT H kvs xs ∧ h.DictOfH (tupleKind (mixKind P w)) a xs := by
  obtain ⟨z, y, xs, r, o, es, ep, h1, h2, h3, h4, h5⟩ := (show ObjOk P w H h a (.dT kvs) from rd_of ok e)
  refine ⟨z, y, xs, r, o, es, ep, h1, h2, h3, h4, fun x hx => ?_, h5⟩
  have all : ∀ {l : List (List Key × V)} {m : List (List Key × Addr × Value)}, KT H l m → ∀ x ∈ m, (tupleKind (mixKind P w)).is h x.1 x.2.1 := by
    intro l m q
    induction q with
    | nil => intro x hx; exact nomatch hx
    | @cons p q ps qs hq t ih =>
      intro x hx
      rcases List.mem_cons.mp hx with e | hx
      · subst e
        exact key_of ok (by rw [← hq.1]; exact hq.2.1)
      · exact ih x hx
  exact all r x hx
theorem dt_of {kvs : List (List Key × V)} (ok : HOk P w H h) (e : H a = some (.dT kvs)) : kvs.length ≤ sizeLine ∧ (a == sysModules) = false ∧
    ∃ xs, KT H kvs xs ∧ h.DictOfH (tupleKind (mixKind P w)) a xs := dt_rd ok (.inl e)
end
def DGet (H : Hp) (a : Addr) (y : V) (r : Option V) : Prop :=
  (∃ kvs k, Rd H a (.dK kvs) ∧ y = kV k ∧ r = valV kvs k) ∨ ∃ kvs k b, Rd H a (.dT kvs) ∧ y = .ref b ∧ H b = some (.tup (k.map kV)) ∧ r = valV kvs k
def DPut (H : Hp) (a : Addr) (y v : V) (H' : Hp) : Prop :=
  (∃ kvs k, H a = some (.dK kvs) ∧ y = kV k ∧ kvs.length < sizeLine ∧ H' = upd H a (.dK (putK kvs k v))) ∨
  ∃ kvs k b, H a = some (.dT kvs) ∧ y = .ref b ∧ H b = some (.tup (k.map kV)) ∧ kvs.length < sizeLine ∧ H' = upd H a (.dT (putK kvs k v))
theorem DGet.t {H : Hp} {a b : Addr} {kvs : List (List Key × V)} {k : List Key} (e : H a = some (.dT kvs)) (eb : H b = some (.tup (k.map kV))) : DGet H a (.ref b) (valV kvs k) := .inr ⟨kvs, k, b, .inl e, rfl, eb, rfl⟩
theorem DPut.t {H : Hp} {a b : Addr} {kvs : List (List Key × V)} {k : List Key} {v : V} (e : H a = some (.dT kvs)) (eb : H b = some (.tup (k.map kV))) (hl : kvs.length < sizeLine) :
    DPut H a (.ref b) v (upd H a (.dT (putK kvs k v))) := .inr ⟨kvs, k, b, e, rfl, eb, hl, rfl⟩
section
variable {X : Cx} {pins : List (Addr × Obj)} {σ : St} {H : Hp} {s : Shared} {a : Addr} {y v : V} {u r : Value} {o : Option V} {A : Around} {E : Value → Shared → Prop}
theorem Inv.big (I : Inv X pins σ H s) : sysModules < s.heap.objs.size := by
  have h : mainGlobals < s.heap.objs.size := (I.mod.glob.keeps I.bk).lt
  exact Nat.lt_trans (by decide) h
theorem d_getItem {Q : Value → Shared → Prop} (hu : A.units + 1 < cLine) (I : Inv X pins σ H s) (g : DGet H a y (some v)) (ry : RelV y u) (h : ∀ w' s', Inv X pins σ H s' → RelV v w' → Q w' s') :
    wpAny (model X.prog X.w) A (getItem (.ref a) u) Q E s := by
  rcases g with ⟨kvs, k, e, ey, l⟩ | ⟨kvs, k, b, e, ey, eb, l⟩
  · subst ey
    obtain ⟨z, hd, vs, rel, dd⟩ := dk_rd I.hok e
    obtain ⟨w', hw, rw'⟩ := RelO.some_of (v := v) (o := valueAt vs k) (by rw [l]; exact rel.val k)
    exact wpAny_getItem_of (kV_is ry) dd.mapOf hw (h w' _ (I.tok _) rw')
  · subst ey
    cases (show u = Value.ref b from ry)
    obtain ⟨z, hd, xs, rel, dd⟩ := dt_rd I.hok e
    obtain ⟨w', hw, rw'⟩ := RelO.some_of (v := v) (o := (atKey xs k).map (·.2)) (by rw [l]; exact rel.val k)
    obtain ⟨p, hp, hp2⟩ := Option.map_eq_some_iff.mp hw
    refine wpAny_getItem_heap (tupleKind_room_in1 hu) (key_of I.hok eb) dd hp ?_
    rw [hp2]
    exact h w' _ (I.tok _) rw'
theorem d_write {h' : Heap} {t' : Nat} {ob : HO} (I : Inv X pins σ H s) (mu : Mut (H a)) (hs : Heap.SameBut a s.heap h') (he : ∃ q, h'.get? a = some q) (new : ObjOk X.prog X.w (upd H a ob) h' a ob) :
    Inv X pins σ (upd H a ob) { s with heap := h', toks := t' } :=
  I.write (x := a) (e := a) mu (.inl rfl) (fun b q hb z => (hs.2 b hb).trans z) he new
theorem dk_new {P : Program} {w : World} {H' : Hp} {h' : Heap} {kvs : List (Key × V)} {vs : List (Key × Value)} (z : kvs.length ≤ sizeLine) (hd : (a == sysModules) = false) (rel : KV kvs vs) (dd : h'.DictOf (mixKind P w) a vs) :
    ObjOk P w H' h' a (.dK kvs) := ⟨z, hd, vs, rel, dd⟩
theorem d_setItem {H' : Hp} {Q : Unit → Shared → Prop} (hu : A.units + 1 < cLine) (I : Inv X pins σ H s) (g : DPut H a y v H') (ry : RelV y u) (rv : RelV v r) (h : ∀ s', Inv X pins σ H' s' → Q () s') :
    wpAny (model X.prog X.w) A (setItem (.ref a) u r) Q E s := by
  rcases g with ⟨kvs, k, e, ey, l, eH⟩ | ⟨kvs, k, b, e, ey, eb, l, eH⟩
  · subst ey eH
    obtain ⟨z, hd, vs, rel, dd⟩ := dk_of I.hok e
    have hz : vs.length ≤ sizeLine := by rw [← rel.length]; exact z
    have hl : (putK kvs k v).length ≤ sizeLine := by have := length_putK kvs k v; omega
    refine wpAny_setItem_pairs (hsz := hz) (kV_is ry) dd fun h' dd' hs => h _ ?_
    have he : ∃ q, h'.get? a = some q := let ⟨q, _, _, hq, _⟩ := dd'; ⟨q, hq⟩
    exact d_write I (by rw [e]; exact True.intro) hs he (dk_new hl hd (rel.put k rv) dd')
  · subst ey eH
    cases (show u = Value.ref b from ry)
    obtain ⟨z, hd, xs, rel, dd⟩ := dt_of I.hok e
    have hz : xs.length ≤ sizeLine := by rw [← Paired.length rel]; exact z
    have hl : (putK kvs k v).length ≤ sizeLine := by have := length_putK kvs k v; omega
    refine wpAny_setItem_heap (hsz := hz) (tupleKind_room_in1 hu) (key_of I.hok eb) dd fun h' dd' hs => h _ ?_
    obtain ⟨q, es, ep, hq, h2, h3, h4, _, h5⟩ := dd'
    refine d_write I (by rw [e]; exact True.intro) hs ⟨q, hq⟩ ⟨hl, hd, _, (rel.put k eb rv).keeps fun c ys ec => ?_, q, es, ep, hq, h2, h3, h4, h5⟩
    rw [upd_ne (ne_of ec e (fun z => nomatch z))]
    exact ec
end
def NoSl (i : Expr) : Prop := ∀ ov iv, subscripted i false ov iv = operate [ov, iv] (getItem ov iv)
theorem subD_of {prog : Program} {w : World} {A : Around} {E : Value → Shared → Prop} {s : Shared} {env : Env} {value slice : Expr} {pos : Pos} {T id : String} {Q : Value → Shared → Prop}
    (hl : typeLookup (.type T) "__getitem__" = pure (some (.builtin id))) (hs : NoSl slice)
    (h : wpAny (model prog w) A (eval value env) (fun o s₁ => wpAny (model prog w) A (eval slice env) (fun i s₂ => s₂.TypeIs o T ∧ wpAny (model prog w) A (getItem o i) Q E s₂) E s₁) E s) :
    wpAny (model prog w) A (eval (.Subscript value slice pos) env) Q E s := by
  refine Subscript_ (wpAny_mono h (fun o s₁ h₁ => wpAny_mono h₁ (fun i s₂ h₂ => ?_) fun _ _ x => x) fun _ _ x => x)
  obtain ⟨hT, h₂⟩ := h₂
  unfold subscriptTail
  refine wpAny_bind ?_
  rw [getitemInPython_of_ne hT.not_modules]
  refine wpAny_bind (wpAny_specialOf hT hl ?_)
  have fin : wpAny (model prog w) A (subscripted slice false o i) (fun r s₃ => wpAny (model prog w) A (letTemporaryGo value o r >>= fun _ => pure r) Q E s₃) E s₂ := by
    rw [hs o i]
    exact wpAny_operating (wpAny_mono h₂ (fun r s₃ h₃ => wpAny_bind (wpAny_letTemporaryGo (wpAny_pure h₃))) fun _ _ x => x)
  first
    | exact wpAny_pure (wpAny_bind fin)
    | exact wpAny_bind (wpAny_pure (wpAny_bind fin))
    | exact wpAny_bind fin
theorem dict_typeIs {X : Cx} {pins : List (Addr × Obj)} {σ : St} {H : Hp} {s : Shared} {a : Addr} {y : V} {o : Option V} (I : Inv X pins σ H s) (g : DGet H a y o) : s.TypeIs (.ref a) "dict" := by
  rcases g with ⟨kvs, k, e, _, _⟩ | ⟨kvs, k, b, e, _, _, _⟩
  · obtain ⟨_, _, vs, _, dd⟩ := dk_rd I.hok e
    exact dd.typeIs
  · obtain ⟨_, _, xs, _, dd⟩ := dt_rd I.hok e
    exact dd.typeIs
def tDGet (td ty : TE) : TE := fun σ H Q => td σ H fun x H1 => ty σ H1 fun y H2 => ∃ a v, x = .ref a ∧ DGet H2 a y (some v) ∧ Q v H2
def sDPut (td ty tv : TE) : TS := fun D σ H => tv σ H fun v H1 => td σ H1 fun x H2 => ty σ H2 fun y H3 => ∃ a H4, x = .ref a ∧ DPut H3 a y v H4 ∧ D.nx σ H4
section
variable {X : Cx} {o i e value : Expr} {pos pos' tpos : Pos} {td ty tv : TE}
theorem pe_dget (hu : X.A.units + 1 < cLine) (ho : PE X o td) (hi : PE X i ty) (hs : NoSl i) : PE X (.Subscript o i pos) (tDGet td ty) := by
  intro pins s σ H Q I h
  refine subD_of PySem.F.slot_dict_getitem.lookup hs (thn (ho pins s σ H _ I h) fun u s1 ⟨x, H1, I1, rx, q1⟩ => thn (hi pins s1 σ H1 _ I1 q1) fun iv s2 ⟨y, H2, I2, ry, a, v, ex, g, q2⟩ => ?_)
  subst ex
  obtain rfl : u = Value.ref a := rx
  exact ⟨dict_typeIs I2 g, d_getItem hu I2 g ry fun w' s3 I3 rw' => ⟨v, H2, I3, rw', q2⟩⟩
theorem ps_dput (hu : X.A.units + 1 < cLine) (ho : PE X o td) (hi : PE X i ty) (hv : PE X value tv) (hs : swapsWith value (some (.Subscript o i pos')) pos.line X.env = pure false) :
    PS X (.Assign [.Subscript o i pos'] value pos) (sDPut td ty tv) := by
  intro pins s σ H D I h
  refine wpAny_Assign_Subscript (thn (hv pins s σ H _ I h) fun r s1 ⟨v, H1, I1, rv, q1⟩ => thn (ho pins s1 σ H1 _ I1 q1) fun u s2 ⟨x, H2, I2, rx, q2⟩ => thn (hi pins s2 σ H2 _ I2 q2) fun iv s3 ⟨y, H3, I3, ry, a, H4, ex, g, q3⟩ => ?_) hs
  subst ex
  obtain rfl : u = Value.ref a := rx
  exact d_setItem hu I3 g ry rv fun s4 I4 => ⟨σ, H4, I4, q3⟩
end
theorem dt_empty {P : Program} {w : World} {H : Hp} (h : Heap) (hb : sysModules < h.objs.size) : ObjOk P w H (h.push { cls := .type "dict", data := .dict #[] }) h.objs.size (.dT []) :=
  ⟨Nat.zero_le _, beq_eq_false_iff_ne.mpr (Ne.symm (Nat.ne_of_lt hb)), [], .nil, _, #[], 0, Heap.get?_push_size _ rfl, ⟨rfl, rfl, rfl⟩, rfl, rfl, List.nodup_nil⟩
def tDNewT : TE := fun _ H Q => ∀ p, H p = none → Q (.ref p) (upd H p (.dT []))
section
variable {X : Cx} {pos : Pos}
theorem pe_dnewT : PE X (.Dict [] [] pos) tDNewT := fun pins s σ H Q I h =>
  wpAny_Dict_empty ⟨.ref s.heap.objs.size, _, I.laid (a := s.heap.objs.size) (o := .dT []) (t' := s.toks) (fun _ _ q => Heap.get?_push_of_some _ q) (Nat.le_refl _) (dt_empty s.heap I.big), rfl, h _ (I.hok.fresh (Nat.le_refl _))⟩
end
end L2
namespace L2
open PySem PySem.Spec PyProof.Rows
section
variable {X : Cx} {pins : List (Addr × Obj)} {σ : St} {H : Hp} {s : Shared} {h' : Heap}
theorem Inv.turnedL {t' : Nat} {ch : List Addr} (I : Inv X pins σ H s) (k : ∀ b o, b ∉ ch → s.heap.get? b = some o → h'.get? b = some o) (hf : ∀ b ∈ ch, FpOk X pins H b) : Inv X pins σ H { s with heap := h', toks := t' } := by
  have nit : ∀ b u, H b = some u → b ∉ ch := fun b u e z => by
    have q := (hf b z).1
    rw [q] at e; cases e
  refine I.step (g' := s.gens) (d' := s.drawn) (ch := ch) (fun b hb => ⟨(hf b hb).2.2.2.1, (hf b hb).2.1, (hf b hb).2.2.2.2.1, (hf b hb).2.2.2.2.2⟩) (fun b o _ _ hc e _ => k b o hc e) (fun b o _ _ hc e _ => ⟨o.slots, k b o hc e⟩)
    (fun _ _ _ _ n => n) (fun b o hc e => ⟨o, k b o hc e⟩) (fun _ _ e => e) (fun _ _ _ e => e) (fun b ps e => ⟨#[], by rw [e]; simp⟩) (fun m hm => ?_) (fun b u e => ?_) I.bare
  · obtain ⟨o, es, ep, ho, r⟩ := hm
    exact ⟨o, es, ep, k _ o (fun z => (hf _ z).2.1 rfl) ho, r⟩
  · refine (I.hok b u e).stay (fun c v hc q => k c v ?_ q) (fun _ q => q) fun _ _ q => q
    rcases hc with z | z
    · rw [z]; exact nit b u e
    · exact nit c _ z
theorem Inv.turnedNew {t' : Nat} {ch : List Addr} {T : Addr} {ob : HO} (I : Inv X pins σ H s) (k : ∀ b o, b ∉ ch → s.heap.get? b = some o → h'.get? b = some o) (hf : ∀ b ∈ ch, FpOk X pins H b) (hT : s.heap.objs.size ≤ T)
    (new : ObjOk X.prog X.w (upd H T ob) h' T ob) : Inv X pins σ (upd H T ob) { s with heap := h', toks := t' } := by
  have hn : H T = none := I.hok.fresh hT
  have nit : ∀ b u, H b = some u → b ∉ ch := fun b u e z => by
    have q := (hf b z).1
    rw [q] at e; cases e
  refine I.step (g' := s.gens) (d' := s.drawn) (ch := ch) (fun b hb => ⟨(hf b hb).2.2.2.1, (hf b hb).2.1, (hf b hb).2.2.2.2.1, (hf b hb).2.2.2.2.2⟩) (fun b o _ _ hc e _ => k b o hc e) (fun b o _ _ hc e _ => ⟨o.slots, k b o hc e⟩)
    (fun b o _ e n => ?_) (fun b o hc e => ⟨o, k b o hc e⟩) (fun b xs e => ?_) (fun b o u e => ?_) (fun b ps e => ⟨#[], ?_⟩) (fun m hm => ?_) (fun b u e => ?_) I.bare
  · rw [upd_ne (Nat.ne_of_lt (Nat.lt_of_lt_of_le (Heap.lt_size e) hT))]; exact n
  · rw [upd_ne (ne_of_none e hn)]; exact e
  · rw [upd_ne (ne_of_none e hn)]; exact e
  · rw [upd_ne (ne_of_none e hn), e]; simp
  · obtain ⟨o, es, ep, ho, r⟩ := hm
    exact ⟨o, es, ep, k _ o (fun z => (hf _ z).2.1 rfl) ho, r⟩
  · by_cases hb : b = T
    · subst hb
      rw [upd_same] at e
      cases e
      exact new
    · rw [upd_ne hb] at e
      refine (I.hok b u e).stay (fun c v hc q => k c v ?_ q) (fun c q => by rw [upd_ne (ne_of_none q hn)]; exact q) fun c xs q => by rw [upd_ne (ne_of_none q hn)]; exact q
      rcases hc with z | z
      · rw [z]; exact nit b u e
      · exact nit c _ z
end
def Ite (K : PySem.W.Frag) (a : Addr) : It :=
  ⟨fun i H => ∃ (xs : List V) (x : V), SqL K H a xs ∧ xs[i]? = some x, fun i H v H' => ∃ T x, v = .ref T ∧ H T = none ∧ H' = upd H T (.tup [.int (i : Nat), x]) ∧ ∀ xs, SqL K H a xs → xs[i]? = some x, fun i H => ∃ xs : List V, SqL K H a xs ∧ xs.length ≤ i⟩
theorem turn_enum {P : Program} {w : World} {K : PySem.W.Frag} {elts : List Expr} {kk : Nat} {tpos : Pos} (a e it : Addr) :
    Turn P w K (.Tuple elts kk tpos) (Ite K a) [e, it] e (fun i h => (∃ old, IsEnum h e it ((i : Nat) : Int) old) ∧ h.IsListIter it a i ∧ e ≠ it) where
  mem := by simp
  obj := fun i h st b hb => by
    obtain ⟨⟨old, he⟩, ⟨o, ho, hc, hd⟩, _⟩ := st
    have e' : b = e ∨ b = it := by simpa using hb
    rcases e' with z | z
    · rw [z]; exact ⟨_, he, fun v q => nomatch q⟩
    · rw [z]; exact ⟨o, ho, fun v q => by rw [hd] at q; cases q⟩
  keep := fun i h h' st k => let ⟨⟨old, he⟩, hi, hne⟩ := st; ⟨⟨old, k e (by simp) _ he⟩, hi.at fun o q => k it (by simp) o q, hne⟩
  item := by
    intro X hP hw hK hc i pins s σ H E I hf st hg
    subst hP hw hK
    obtain ⟨⟨old, he⟩, hit, hne⟩ := st
    obtain ⟨xs, x, hq, hx⟩ := hg
    obtain ⟨its, rv, p, hz⟩ := I.list hq
    obtain ⟨u, hu, ru⟩ := rv.get hx
    have hel : e < s.heap.objs.size := Heap.lt_size he
    have hil : it < s.heap.objs.size := by obtain ⟨_, q, _⟩ := hit; exact Heap.lt_size q
    refine wpAny_pyNext_enum_item he hit p.isList (x := u) (by simpa using hu) hne fun h' ho hit' hT hsz hk => ?_
    refine ⟨_, rfl, wpAny_letOwnedTupleGo_enum (s := { s with heap := h', toks := s.toks + 1 }) ho fun h'' he' sb => ?_⟩
    have hT2 : h''.get? s.heap.objs.size = some { cls := .type "tuple", data := .seq #[.int i s.toks, u] } := (sb.2 _ (Nat.ne_of_gt hel)).trans hT
    have new : ObjOk X.prog X.w (upd H s.heap.objs.size (.tup [.int (i : Nat), x])) h'' s.heap.objs.size (.tup [.int (i : Nat), x]) :=
      ⟨by show 2 ≤ sizeLine; decide, [.int i s.toks, u], .cons ⟨_, rfl⟩ (.cons ru .nil), ⟨_, hT2, rfl, _, rfl⟩⟩
    have I1 : Inv X pins σ (upd H s.heap.objs.size (.tup [.int (i : Nat), x])) { s with heap := h'', toks := s.toks + 1 } :=
      I.turnedNew (ch := [e, it]) (fun b ob hb q => (sb.2 b (fun z => hb (by simp [z]))).trans (hk b ob (fun z => hb (by simp [z])) (fun z => hb (by simp [z])) q)) hf (Nat.le_refl _) new
    refine ⟨.ref s.heap.objs.size, _, I1, rfl, ⟨_, x, rfl, I.hok.fresh (Nat.le_refl _), rfl, fun ys hy => by rw [I.list_inj hy hq]; exact hx⟩, ⟨⟨u, ?_⟩, hit'.at fun o q => (sb.2 it (Ne.symm hne)).trans q, hne⟩, fun b hb => ?_⟩
    · have e1 : ((i + 1 : Nat) : Int) = (i : Int) + 1 := by omega
      rw [e1]; exact he'
    · have hb' : b < s.heap.objs.size := by
        have e' : b = e ∨ b = it := by simpa using hb
        rcases e' with z | z
        · rw [z]; exact hel
        · rw [z]; exact hil
      rw [upd_ne (Nat.ne_of_lt hb')]
      exact (hf b hb).1
  done := by
    intro X hP hw hK hc i pins s σ H E I hf st hg
    subst hP hw hK
    obtain ⟨⟨old, he⟩, hit, hne⟩ := st
    obtain ⟨xs, hq, hx⟩ := hg
    obtain ⟨its, rv, p, hz⟩ := I.list hq
    obtain ⟨f0, f1, f2, f3, f4, f5⟩ := hf it (by simp)
    have hl := rv.length
    exact wpAny_pyNext_enum_end (I.ok.hd hc) he hit p.isList (by simp; omega) fun h' eb => ⟨rfl, I.turned (t' := s.toks) (fun b o hb q => eb b o hb q) f0 f1 f3 f4 f5⟩
  self := fun A i s Q E st h => let ⟨⟨_, he⟩, _⟩ := st; wpAny_pyIter_enum he h
def iEnum (K : PySem.W.Frag) (ta : TA) : TI := fun σ H R => ta σ H fun vs H1 => ∃ a xs, vs = [.ref a] ∧ SqL K H1 a xs ∧ R (Ite K a) H1
theorem pi_enum {X : Cx} {e : Expr} {ta : TA} {p pos tpos : Pos} {elts : List Expr} {kk : Nat} (hg : Gl X "enumerate") (hm : X.mg "enumerate" = none) (ha : PA X [e] ta) (hs : starEach [e] X.env = [(false, eval e X.env)] := by rfl) :
    PI X (.Tuple elts kk tpos) (.Call (.Name "enumerate" p) [e] [] pos) (iEnum X.K ta) := by
  intro pins s σ H R I h
  refine Call_ (ld_blt I hg hm boot_enumerate (PyProof.Rows.callWith_type1 (thn (ha pos pins s σ H _ I h) fun us s1 ⟨vs, H1, I1, r1, q1⟩ => ?_) hs rfl))
  obtain ⟨a, xs, ex, hq, q⟩ := q1
  subst ex
  cases r1 with
  | cons r rr =>
    cases rr
    cases r
    obtain ⟨its, rv, p', hz⟩ := I1.list hq
    refine call_enumerate_list p'.isList fun h' he hit hsz hk => wpAny_pyIter_enum he ?_
    have I2 : Inv X pins σ H1 { s1 with heap := h' } := I1.kept (t' := s1.toks) hk
    refine ⟨s1.heap.objs.size + 1, [s1.heap.objs.size + 1, s1.heap.objs.size], _, _, H1, rfl, I2, turn_enum a (s1.heap.objs.size + 1) s1.heap.objs.size, ⟨⟨.none, he⟩, hit, Nat.succ_ne_self _⟩, fun b hb => ?_, q⟩
    have e' : b = s1.heap.objs.size + 1 ∨ b = s1.heap.objs.size := by simpa using hb
    have hle : s1.heap.objs.size ≤ b := by
      rcases e' with z | z
      · rw [z]; exact Nat.le_add_right _ _
      · rw [z]; exact Nat.le_refl _
    exact I1.fpOk hle (I1.hok.fresh hle)
theorem boot_zip5 : bootBuiltins "zip" = some (.type "zip") := by decide +kernel
def Itz (K : PySem.W.Frag) (a b : Addr) : It :=
  ⟨fun i H => ∃ (xs ys : List V) (x y : V), SqL K H a xs ∧ SqL K H b ys ∧ xs[i]? = some x ∧ ys[i]? = some y,
    fun i H v H' => ∃ T x y, v = .ref T ∧ H T = none ∧ H' = upd H T (.tup [x, y]) ∧ (∀ xs, SqL K H a xs → xs[i]? = some x) ∧ ∀ ys, SqL K H b ys → ys[i]? = some y,
    fun i H => ∃ xs ys : List V, SqL K H a xs ∧ SqL K H b ys ∧ (xs.length ≤ i ∨ ys.length ≤ i)⟩
theorem turn_zip {P : Program} {w : World} {K : PySem.W.Frag} {elts : List Expr} {kk : Nat} {tpos : Pos} {a b z TI TO i1 i2 : Addr} (D : ZipApart z TI TO i1 i2 a b) :
    Turn P w K (.Tuple elts kk tpos) (Itz K a b) [z, TI, TO, i1, i2] z (fun i h => IsZip h z TI TO .none ∧ IsPair h TI (.ref i1) (.ref i2) ∧ (∃ x y, IsPair h TO x y) ∧ h.IsListIter i1 a i ∧ h.IsListIter i2 b i) where
  mem := by simp
  obj := fun i h st c hc => by
    obtain ⟨hz, hTI, ⟨x, y, hTO⟩, ⟨o1, e1, _, d1⟩, ⟨o2, e2, _, d2⟩⟩ := st
    have e' : c = z ∨ c = TI ∨ c = TO ∨ c = i1 ∨ c = i2 := by simpa using hc
    rcases e' with q | q | q | q | q
    · rw [q]; exact ⟨_, hz, fun v q => nomatch q⟩
    · rw [q]; exact ⟨_, hTI, fun v q => nomatch q⟩
    · rw [q]; exact ⟨_, hTO, fun v q => nomatch q⟩
    · rw [q]; exact ⟨o1, e1, fun v q => by rw [d1] at q; cases q⟩
    · rw [q]; exact ⟨o2, e2, fun v q => by rw [d2] at q; cases q⟩
  keep := fun i h h' st k => by
    obtain ⟨hz, hTI, ⟨x, y, hTO⟩, h1, h2⟩ := st
    exact ⟨k z (by simp) _ hz, k TI (by simp) _ hTI, ⟨x, y, k TO (by simp) _ hTO⟩, h1.at fun o q => k i1 (by simp) o q, h2.at fun o q => k i2 (by simp) o q⟩
  item := by
    intro X hP hw hK hc i pins s σ H E I hf st hg
    subst hP hw hK
    obtain ⟨hz, hTI, ⟨x0, y0, hTO⟩, h1, h2⟩ := st
    obtain ⟨xs, ys, x, y, hqx, hqy, hx, hy⟩ := hg
    obtain ⟨its, rv, p, _⟩ := I.list hqx
    obtain ⟨its2, rv2, p2, _⟩ := I.list hqy
    obtain ⟨u, hu, ru⟩ := rv.get hx
    obtain ⟨u2, hu2, ru2⟩ := rv2.get hy
    have hzl : z < s.heap.objs.size := Heap.lt_size hz
    refine wpAny_pyNext_zip_item D hz hTI hTO h1 h2 p.isList p2.isList (x := u) (y := u2) (by simpa using hu) (by simpa using hu2) fun h' z' TO' h1' h2' hT hsz hk => ?_
    refine ⟨_, rfl, wpAny_letOwnedTupleGo_zip (s := { s with heap := h' }) z' fun h'' z'' sb => ?_⟩
    have hT2 : h''.get? s.heap.objs.size = some { cls := .type "tuple", data := .seq #[u, u2] } := (sb.2 _ (Nat.ne_of_gt hzl)).trans hT
    have new : ObjOk X.prog X.w (upd H s.heap.objs.size (.tup [x, y])) h'' s.heap.objs.size (.tup [x, y]) :=
      ⟨by show 2 ≤ sizeLine; decide, [u, u2], .cons ru (.cons ru2 .nil), ⟨_, hT2, rfl, _, rfl⟩⟩
    have I1 : Inv X pins σ (upd H s.heap.objs.size (.tup [x, y])) { s with heap := h'' } :=
      I.turnedNew (t' := s.toks) (ch := [z, TI, TO, i1, i2]) (fun c o hb q => (sb.2 c (fun q' => hb (by simp [q']))).trans (hk c o (fun q' => hb (by simp [q'])) (fun q' => hb (by simp [q'])) (fun q' => hb (by simp [q'])) (fun q' => hb (by simp [q'])) q)) hf (Nat.le_refl _) new
    refine ⟨.ref s.heap.objs.size, _, I1, rfl, ⟨_, x, y, rfl, I.hok.fresh (Nat.le_refl _), rfl, fun l hl => by rw [I.list_inj hl hqx]; exact hx, fun l hl => by rw [I.list_inj hl hqy]; exact hy⟩, ⟨z'', ?_, ⟨u, u2, ?_⟩, ?_, ?_⟩, fun c hcm => ?_⟩
    · exact (sb.2 _ D.TIz).trans (hk _ _ D.TIz D.TITO D.TIi1 D.TIi2 hTI)
    · exact (sb.2 _ D.TOz).trans TO'
    · exact h1'.at fun o q => (sb.2 _ D.i1z).trans q
    · exact h2'.at fun o q => (sb.2 _ D.i2z).trans q
    · have hlt : c < s.heap.objs.size := by
        have e' : c = z ∨ c = TI ∨ c = TO ∨ c = i1 ∨ c = i2 := by simpa using hcm
        rcases e' with q | q | q | q | q
        · rw [q]; exact hzl
        · rw [q]; exact Heap.lt_size hTI
        · rw [q]; exact Heap.lt_size hTO
        · rw [q]; obtain ⟨_, e1, _⟩ := h1; exact Heap.lt_size e1
        · rw [q]; obtain ⟨_, e2, _⟩ := h2; exact Heap.lt_size e2
      rw [upd_ne (Nat.ne_of_lt hlt)]
      exact (hf c hcm).1
  done := by
    intro X hP hw hK hc i pins s σ H E I hf st hg
    subst hP hw hK
    obtain ⟨hz, hTI, ⟨x0, y0, hTO⟩, h1, h2⟩ := st
    obtain ⟨xs, ys, hqx, hqy, hend⟩ := hg
    obtain ⟨its, rv, p, _⟩ := I.list hqx
    obtain ⟨its2, rv2, p2, _⟩ := I.list hqy
    have l1 := rv.length
    have l2 := rv2.length
    have he : its.toArray[i]? = none ∨ its2.toArray[i]? = none := by
      rcases hend with q | q
      · exact .inl (by simp; omega)
      · exact .inr (by simp; omega)
    exact wpAny_pyNext_zip_end (I.ok.hd hc) D hz hTI hTO h1 h2 p.isList p2.isList he fun h' hk => ⟨rfl, I.turnedL (t' := s.toks) (ch := [z, TI, TO, i1, i2]) (fun c o hb q =>
      hk c o (fun q' => hb (by simp [q'])) (fun q' => hb (by simp [q'])) (fun q' => hb (by simp [q'])) (fun q' => hb (by simp [q'])) q) hf⟩
  self := fun A i s Q E st h => wpAny_pyIter_zip st.1 h
def iZip (K : PySem.W.Frag) (ta : TA) : TI := fun σ H R => ta σ H fun vs H1 => ∃ a b xs ys, vs = [.ref a, .ref b] ∧ SqL K H1 a xs ∧ SqL K H1 b ys ∧ R (Itz K a b) H1
theorem pi_zip {X : Cx} {e e2 : Expr} {ta : TA} {p pos tpos : Pos} {elts : List Expr} {kk : Nat} (hg : Gl X "zip") (hm : X.mg "zip" = none) (ha : PA X [e, e2] ta)
    (hs : starEach [e, e2] X.env = (false, eval e X.env) :: starEach [e2] X.env := by rfl) (hpl : (backTo pos (starEach [e2] X.env)).any (·.1) = false := by rfl) :
    PI X (.Tuple elts kk tpos) (.Call (.Name "zip" p) [e, e2] [] pos) (iZip X.K ta) := by
  intro pins s σ H R I h
  refine Call_ (ld_blt I hg hm boot_zip5 (PyProof.Rows.callWith_type1 (thn (ha pos pins s σ H _ I h) fun us s1 ⟨vs, H1, I1, r1, q1⟩ => ?_) hs hpl))
  obtain ⟨a, b, xs, ys, ex, hqx, hqy, q⟩ := q1
  subst ex
  cases r1 with
  | cons r rr =>
    cases rr with
    | cons r' rr =>
      cases rr
      cases r
      cases r'
      obtain ⟨its, rv, p1, _⟩ := I1.list hqx
      obtain ⟨its2, rv2, p2, _⟩ := I1.list hqy
      have la : a < s1.heap.objs.size := p1.lt
      have lb : b < s1.heap.objs.size := p2.lt
      refine call_zip_2 p1.isList p2.isList fun h' hz hTI hTO h1 h2 hsz hk => wpAny_pyIter_zip hz ?_
      have I2 : Inv X pins σ H1 { s1 with heap := h' } := I1.kept (t' := s1.toks) hk
      refine ⟨s1.heap.objs.size + 4, [s1.heap.objs.size + 4, s1.heap.objs.size + 2, s1.heap.objs.size + 3, s1.heap.objs.size, s1.heap.objs.size + 1], _, _, H1, rfl, I2, turn_zip (PySem.W.ktu_apart s1.heap.objs.size a b la lb), ⟨hz, hTI, ⟨_, _, hTO⟩, h1, h2⟩, fun c hcm => ?_, q⟩
      have e' : c = s1.heap.objs.size + 4 ∨ c = s1.heap.objs.size + 2 ∨ c = s1.heap.objs.size + 3 ∨ c = s1.heap.objs.size ∨ c = s1.heap.objs.size + 1 := by simpa using hcm
      have hle : s1.heap.objs.size ≤ c := by
        rcases e' with z | z | z | z | z
        · rw [z]; exact Nat.le_add_right _ _
        · rw [z]; exact Nat.le_add_right _ _
        · rw [z]; exact Nat.le_add_right _ _
        · rw [z]; exact Nat.le_refl _
        · rw [z]; exact Nat.le_add_right _ _
      exact I1.fpOk hle (I1.hok.fresh hle)
end L2
namespace Att
open PySem PySem.W PySem.Calls PyProof.Rows
theorem ints_of_wellAll {P : Params} {h : Heap} : ∀ (ns : List Int) (vs : List Value), WellAll P h vs (ns.map WData.int) → IntsAre vs ns := by
  intro ns
  induction ns with
  | nil =>
    intro vs w
    rw [List.map_nil] at w
    cases w
    exact .nil
  | cons n ns ih =>
    intro vs w
    rw [List.map_cons] at w
    cases w with
    | cons a b =>
      cases a
      exact .cons _ _ (ih _ b)
theorem script_of {l : OpenLaw} {n : Nat} (hn : l.most = some n) {P : Params} {h : Heap} {args : List WData} {vals : List Value}
    (hpre : l.row.toRowW.claim.pre args = true) (hwl : WellAll P h vals args) :
    ∃ a vs ns, vals = [Value.ref a] ∧ args = [WData.list (ns.map WData.int)] ∧ h.get? a = some { cls := .type "list", data := .seq vs.toArray } ∧ IntsAre vs ns ∧ ns.length ≤ n := by
  have hsh : WShape.hasAll [] args [.list .int] = true := (pre_splitW hpre).1
  have hc : l.pre.holds [] { args := args } = true := (pre_splitW hpre).2
  obtain ⟨d, r, rfl, h1, h2⟩ := hasAllW_cons hsh
  obtain rfl := hasAllW_nil h2
  obtain ⟨xs, rfl, h3⟩ := hasW_list h1
  obtain ⟨ns, rfl⟩ := items_int h3
  have hlen : ns.length ≤ n := by
    unfold OpenLaw.pre at hc
    have h4 : (WTm.not (.lt (.lit (.int (n : Int))) (.len (.arg 0)))).holds [] { args := [.list (ns.map .int)] } = true := by
      have h4 := (holds_andW hc).1
      rw [hn] at h4
      exact h4
    have h5 := condW_of h4 (w_not (w_lt w_lit (w_len_list (w_arg rfl))))
    rw [List.length_map] at h5
    refine Nat.le_of_not_lt fun q => ?_
    have q' : (n : Int) < ((ns.length : Nat) : Int) := by omega
    first
      | (rw [decide_eq_true q'] at h5; exact absurd h5 (by decide))
      | (simp at h5; omega)
  cases hwl with
  | cons w1 w2 =>
    cases w2
    cases w1 with
    | list ho hall => exact ⟨_, _, ns, rfl, rfl, ho, ints_of_wellAll ns _ hall, hlen⟩
theorem post_true (l : OpenLaw) (args : List WData) : l.row.toRowW.claim.post args (.bool true) args = true :=
  postW_of (r := l.row.toRowW) (X := (true == true))
    (show WShape.has [] (.bool true) .bool = true by first | rfl | decide | simp [WShape.has, WShape.arms, WShape.armsAll])
    (show (WTm.eq .res (.lit (.bool true))).value [] { args := args, res := some (.bool true), after := args } = some (.bool (true == true)) from w_eq_bool (w_res rfl) w_lit) rfl
theorem attach_call {l : OpenLaw} {n : Nat} {q : Program} {loose : List Str} {XP : (Str → Option Value) → Heap → Prop} {YP : World → Heap → Prop} {d : DefRec}
    (hn : l.most = some n) (hdf : d.params.defaults = [])
    (call : ∀ (w : World) (s₀ s₁ : Shared) (mg mb : Str → Option Value) (fa : Addr) (o : Obj) (pm cd doc : Value) (a : Addr) (vs : List Value) (ns : List Int),
      Ground q loose [] XP w s₀ mg mb s₁.heap → YP w s₁.heap →
      s₁.heap.get? fa = some o → o.data = .func (docDef d.name d.params d.body d.scope pm cd doc) → s₁.heap.CodeRec cd d.name → mg d.name = some (.ref fa) →
      s₁.heap.get? a = some { cls := .type "list", data := .seq vs.toArray } → IntsAre vs ns → ns.length ≤ n → s₁.gens = #[] →
      codeAny (model l.prog w) callerA (.call (.ref fa) ⟨[.ref a], []⟩) (fun r s' => r = .ok (.ret (.bool true)) ∧ OldK s₁.heap s'.heap ∧ s'.os = s₁.os ∧ AllBare s'.gens) s₁) :
    WalkO q loose XP YP l.row.toRowW d [] (fun f vs => PySem.call f vs) := by
  intro w s₀ s₁ mg mb G Y fa o pm cd doc dV kV ho hd hcd hD hmg hg args vals as hpre hlay hrd hwl hlo
  obtain rfl : dV = .none := Dflts.none hD hdf
  obtain rfl : kV = .none := Dflts.noKw hD
  obtain ⟨a, vs, ns, rfl, rfl, hobj, hints, hlen⟩ := script_of hn hpre hwl
  refine enter_call (codeAny_mono (call w s₀ s₁ mg mb fa o pm cd doc a vs ns G Y ho (fd_plain hd) hcd hmg hobj hints hlen hg) fun r s' hq => ?_)
  obtain ⟨rfl, h2, h3, h4⟩ := hq
  exact ⟨.inl ⟨.bool true, .bool true, [], rfl, fun _ => rfl, .bool true, post_true l _, fun _ => ⟨List.Pairwise.nil, fun _ hm => (nomatch hm)⟩⟩, h2, h3, h4⟩
end Att
namespace L2
open PySem PySem.Spec PyProof.Rows
theorem vals_ints : ∀ {vs : List Value} {ns : List Int}, IntsAre vs ns → Vals (ns.map V.int) vs
  | _, _, .nil => .nil
  | _, _, .cons n t h => .cons ⟨t, rfl⟩ (vals_ints h)
end L2
namespace L2
open PySem PySem.Spec PyProof.Rows
def defArgs (s : Stmt) : Arguments := match s with
  | .FunctionDef _ a _ _ _ _ _ _ _ _ => a
  | _ => { posonlyargs := [], args := [], vararg := none, kwonlyargs := [], kw_defaults := [], kwarg := none, defaults := [] }
def defBody (s : Stmt) : List Stmt := match s with
  | .FunctionDef _ _ b _ _ _ _ _ _ _ => b
  | _ => []
def defScope (s : Stmt) : Scope := match s with
  | .FunctionDef _ _ _ _ _ _ sc _ _ _ => sc
  | _ => { kind := .function, names := [], isGenerator := false, isCoroutine := false }
abbrev CX0 : CXT := fun _ _ _ _ _ _ => False
abbrev E0 : XK := fun _ _ _ => False
theorem pass0 {X : Cx} : Passes CX0 X E0 := fun _ _ _ _ _ _ _ h => h.elim
structure Fun (K : PySem.W.Frag) (x qual : Str) (st : Stmt) (f : Addr) (fd : FuncData) : Prop where
  ex : ∃ (oc : Value) (od : Option Addr) (kV doc pm : Value) (an : Option Addr) (cdv ct : Value) (osl : Array (Option Value)),
    fd = PySem.W.fnOf x qual (defArgs st) (defBody st) (defScope st) .none kV doc pm an cdv ct ∧ K.lookup f = some ⟨oc, od, .func fd, osl⟩ ∧ PySem.W.codeIn K cdv qual = true
  kp : PySem.W.keepIn K (.ref f) = true
section
variable {P : Program} {w : World} {K : PySem.W.Frag} {mg : Str → Option Value} {base : Heap}
theorem Fun.ok {x qual : Str} {st : Stmt} {f : Addr} {fd : FuncData} {N ps : List Str} {k : Nat} {sp : Sp} (F : Fun K x qual st f fd) (S : FnScope N ps (defScope st)) (len : ∀ vs H Q E, sp vs H Q E → vs.length = ps.length)
    (hbody : ∀ (cdv : Value) (A : Around) (outer : List Env) (s : Shared) (H : Hp) (vs : List V) (Q : VK) (E : XK), Room k (A.deeper (envOfC qual (defScope st) s.heap.objs.size f cdv)) → sp vs H Q E →
      ∃ t, PSs (cxOf CX0 P w K mg base N qual (defScope st) f cdv A outer s H E).nox (defBody st) t ∧ t { nx := fun _ H' => Q .non H', rt := Q } (start N vs) H) : FnOk P w K mg base CX0 (k + 1) f fd ps sp := by
  obtain ⟨oc, od, kV, doc, pm, an, cdv, ct, osl, rfl, lk, hcd⟩ := F.ex
  refine fn_of lk hcd S len fun A outer s H vs Q E hr hsp => ?_
  obtain ⟨t, h, q⟩ := hbody cdv A outer s H vs Q E hr hsp
  exact ⟨t, h.nox, q⟩
theorem Fun.binds {x qual : Str} {st : Stmt} {f : Addr} {fd : FuncData} {ps : List Str} (F : Fun K x qual st f fd)
    (h : ∀ (kV doc pm : Value) (an : Option Addr) (cdv ct : Value) (us : List Value), us.length = ps.length → bindArgs (PySem.W.fnOf x qual (defArgs st) (defBody st) (defScope st) .none kV doc pm an cdv ct) ⟨us, []⟩ = pure (ps.zip us)) : Binds K fd ps [] := by
  obtain ⟨oc, od, kV, doc, pm, an, cdv, ct, osl, rfl, lk, hcd⟩ := F.ex
  exact .all (h kV doc pm an cdv ct)
theorem fun_mk {x qual : Str} {st : Stmt} {f : Addr} {oc : Value} {od an : Option Addr} {osl : Array (Option Value)} {kV doc pm cdv ct : Value} (l : K.lookup f = some ⟨oc, od, .func (PySem.W.fnOf x qual (defArgs st) (defBody st) (defScope st) .none kV doc pm an cdv ct), osl⟩)
    (c : PySem.W.codeIn K cdv qual = true) (k : PySem.W.keepIn K (.ref f) = true) : Fun K x qual st f (PySem.W.fnOf x qual (defArgs st) (defBody st) (defScope st) .none kV doc pm an cdv ct) := ⟨⟨oc, od, kV, doc, pm, an, cdv, ct, osl, rfl, l, c⟩, k⟩
end
section
variable {X : Cx}
theorem pv (i : Nat) {x : Str} {pos : Pos} (hN : X.N[i]? = some x := by rfl) (hv : Vis X.env.scope x := by first | exact Or.inl rfl | exact Or.inr (Or.inl rfl) | exact Or.inr (Or.inr rfl)) (hd : (x == ("__debug__" : Str)) = false := by decide)
    (hcd : (x == ("__classdict__" : Str)) = false := by decide) : PE X (.Name x pos) (tVar i) := pe_var hN hv hd hcd
end
theorem iteF {A B : Prop} (h : B) : if false = true then A else B := by
  rw [if_neg Bool.false_ne_true]
  exact h
theorem iteT {A B : Prop} (h : A) : if true = true then A else B := by
  rw [if_pos rfl]
  exact h
theorem ite2 {c A B : Prop} [Decidable c] (h1 : c → A) (h2 : ¬ c → B) : if c then A else B := by
  by_cases h : c
  · rw [if_pos h]
    exact h1 h
  · rw [if_neg h]
    exact h2 h
def Same (H H' : Hp) : Prop := ∀ b o, H b = some o → H' b = some o
theorem Same.refl (H : Hp) : Same H H := fun _ _ h => h
theorem Same.trans {H H1 H2 : Hp} (a : Same H H1) (b : Same H1 H2) : Same H H2 := fun c o h => b c o (a c o h)
theorem Same.free {H H' : Hp} (e : Same H H') {l : Addr} (h : H' l = Option.none) : H l = Option.none := by
  cases q : H l with
  | none => rfl
  | some o =>
    rw [e l o q] at h
    cases h
theorem Same.seq {K : PySem.W.Frag} {H H' : Hp} {a : Addr} {xs : List V} (e : Same H H') (h : SqL K H a xs) : SqL K H' a xs := by
  rcases h with (h | ⟨o, h⟩) | h
  · exact .inl (.inl (e _ _ h))
  · exact .inl (.inr ⟨o, e _ _ h⟩)
  · exact .inr h
section
variable {κ : Type} [DecidableEq κ]
theorem nd_snoc : ∀ {l : List κ} {k : κ}, l.Nodup → ¬ k ∈ l → (l ++ [k]).Nodup
  | [], k, _, _ => by simp
  | a :: r, k, h, hk => by
    obtain ⟨h1, h2⟩ := List.nodup_cons.mp h
    show (a :: (r ++ [k])).Nodup
    refine List.nodup_cons.mpr ⟨fun m => ?_, nd_snoc h2 fun m => hk (List.mem_cons.mpr (Or.inr m))⟩
    rcases List.mem_append.mp m with q | q
    · exact h1 q
    · exact hk (List.mem_cons.mpr (Or.inl (List.mem_singleton.mp q).symm))
end
theorem at_of {xs : List V} {z : Int} {j : Nat} {v : V} (e : z = (j : Int)) (h : xs[j]? = some v) : atI xs z = some v := by
  rw [e]
  exact atI_nat h
theorem nd_ix {α : Type} {l : List α} (hN : l.Nodup) {i j : Nat} {x : α} (a : l[i]? = some x) (b : l[j]? = some x) : i = j := by
  obtain ⟨h1, e1⟩ := List.getElem?_eq_some_iff.mp a
  obtain ⟨h2, e2⟩ := List.getElem?_eq_some_iff.mp b
  exact (List.getElem_inj hN).mp (e1.trans e2.symm)
end L2
set_option Elab.async false
set_option linter.all false
set_option maxRecDepth 100000
set_option Elab.async false
set_option linter.all false
set_option maxRecDepth 100000
namespace L2
open PySem PySem.Spec PyProof.Rows
def clsV : V → Value → Prop
  | .ref a, u => u = .ref a
  | .ty n, u => u = .type n
  | _, _ => False
end L2
set_option Elab.async false
set_option linter.all false
set_option maxRecDepth 100000
set_option maxHeartbeats 1000000
namespace L2
open PySem PySem.Spec PyProof.Rows
section
variable {prog : Program} {w : World} {A : Around} {E : Value → Shared → Prop} {s : Shared}
theorem nextOf_tup_item {it t : Addr} {i : Nat} {items : Array Value} {x : Value} {Q : Value → Shared → Prop} (hit : s.heap.IsTupleIter it t i) (ht : s.heap.IsTuple t items) (hx : items[i]? = some x)
    (hQ : ∀ h', h'.IsTupleIter it t (i + 1) → Heap.SameBut it s.heap h' → Q x { s with heap := h' }) : wpAny (model prog w) A (Builtin.SmallTypes.nextOf (.ref it)) Q E s := by
  have ty := hit.typeIs
  obtain ⟨hp, gs, dr, tk, os⟩ := s
  obtain ⟨⟨c, d, dt, sl⟩, ho, hc, hd⟩ := hit
  obtain ⟨⟨c2, d2, dt2, sl2⟩, ho2, hc2, n, hd2⟩ := ht
  cases hc; cases hd; cases hc2; cases hd2
  replace ho : hp.get? it = some _ := ho
  replace ho2 : hp.get? t = some _ := ho2
  refine wpAny_bind (wpAny_callSpecial?_slot (name := Str.ofString "__next__") ty F.slot_tuple_iterator_next (wpAny_call_entry F.slot_tuple_iterator_next ty F.entry_tuple_iterator_next ?_ (F.args_tuple_iterator_next_1 _)))
  wp_walk
  rw [Int.toNat_natCast, hx]
  wp_walk
  refine ⟨x, rfl, ?_⟩
  wp_walk
  refine hQ _ ⟨_, Heap.get?_update_self _ ho rfl, rfl, ?_⟩ (Heap.SameBut.update ..)
  simp [Obj.mapFields, rawInt]
theorem nextOf_tup_end {it t : Addr} {i : Nat} {items : Array Value} {Q : Value → Shared → Prop} (hh : A.handled = none) (hit : s.heap.IsTupleIter it t i) (ht : s.heap.IsTuple t items) (hx : items[i]? = none)
    (hE : ∀ h' e, Heap.ExtBut it s.heap h' → (∃ o, h'.get? e = some o ∧ o.cls = .type "StopIteration") → E (.ref e) { s with heap := h' }) : wpAny (model prog w) A (Builtin.SmallTypes.nextOf (.ref it)) Q E s := by
  have ty := hit.typeIs
  obtain ⟨hp, gs, dr, tk, os⟩ := s
  obtain ⟨⟨c, d, dt, sl⟩, ho, hc, hd⟩ := hit
  obtain ⟨⟨c2, d2, dt2, sl2⟩, ho2, hc2, n, hd2⟩ := ht
  cases hc; cases hd; cases hc2; cases hd2
  replace ho : hp.get? it = some _ := ho
  replace ho2 : hp.get? t = some _ := ho2
  refine wpAny_bind (wpAny_callSpecial?_slot (name := Str.ofString "__next__") ty F.slot_tuple_iterator_next (wpAny_call_entry F.slot_tuple_iterator_next ty F.entry_tuple_iterator_next ?_ (F.args_tuple_iterator_next_1 _)))
  wp_walk
  rw [Int.toNat_natCast, hx]
  have hh' : A.in1.handled = none := hh
  wp_walk
  unfold raiseNew
  wp_walk
  exact hE _ _ (fun b o hb e => Heap.get?_push_of_some _ (Heap.get?_push_of_some _ ((Heap.get?_update_ne _ _ _ _ hb).trans e))) ⟨_, Heap.get?_push_size _ rfl, rfl⟩
end
theorem tupIter_at {h h' : Heap} {it t : Addr} {i : Nat} (x : h.IsTupleIter it t i) (k : ∀ o, h.get? it = some o → h'.get? it = some o) : h'.IsTupleIter it t i := let ⟨o, ho, r⟩ := x; ⟨o, k o ho, r⟩
theorem tup_at {h h' : Heap} {t : Addr} {items : Array Value} (x : h.IsTuple t items) (k : ∀ o, h.get? t = some o → h'.get? t = some o) : h'.IsTuple t items := let ⟨o, ho, r⟩ := x; ⟨o, k o ho, r⟩
theorem draws_tuple {prog : Program} {w : World} {A : Around} (hh : A.handled = none) (it l : Addr) (hne : l ≠ it) (items : Array Value) :
    Draws prog w A it [it, l] items.size (fun i v => items[i]? = some v) (fun i h => h.IsTupleIter it l i ∧ h.IsTuple l items) := by
  constructor
  · rintro i h ⟨⟨o, e, _⟩, _⟩; exact ⟨o, e⟩
  · rintro i h h' ⟨p, q⟩ k; exact ⟨tupIter_at p (k it (by simp)), tup_at q (k l (by simp))⟩
  · rintro i s Q E lt ⟨p, q⟩ k
    have e : items[i]? = some items[i] := by simp [lt]
    exact nextOf_tup_item p q e fun h' p' sb => k _ h' s.toks e ⟨p', tup_at q fun o z => (sb.2 l hne).trans z⟩ sb
  · rintro s Q E ⟨p, q⟩ k; exact nextOf_tup_end hh p q (by simp) k
theorem draws_over {prog : Program} {w : World} {A : Around} (hh : A.handled = none) (it l : Addr) (items : Array Value) (n : Nat) (hx : items[n]? = none) :
    Draws prog w A it [it, l] n (fun _ _ => False) (fun i h => i = n ∧ h.IsTupleIter it l n ∧ h.IsTuple l items) := by
  constructor
  · rintro i h ⟨_, ⟨o, e, _⟩, _⟩; exact ⟨o, e⟩
  · rintro i h h' ⟨z, p, q⟩ k; exact ⟨z, tupIter_at p (k it (by simp)), tup_at q (k l (by simp))⟩
  · rintro i s Q E lt ⟨z, _⟩ k; omega
  · rintro s Q E ⟨_, p, q⟩ k; exact nextOf_tup_end hh p q hx k
abbrev te1 (h : Heap) (l : Addr) : Heap := h.push { cls := .type "tuple_iterator", data := .fields #[.ref l, .int 0 0] }
abbrev te2 (h : Heap) (l : Addr) : Heap := (te1 h l).push { cls := .type "enumerate", data := .fields #[.none, .bool false, .ref h.objs.size, rawInt 0, .none, .none] }
theorem meets_te (l : Addr) (items : Array Value) : Meets (Builtin.«enumerate.__new__» ⟨[.type "enumerate", .ref l], []⟩) (fun _ R s => s.heap.IsTuple l items ∧ R (.ok (.ret (.ref (te1 s.heap l).objs.size))) { s with heap := te2 s.heap l }) :=
  .of_wp fun prog w A R s h => by
    obtain ⟨hp, gs, dr, tk, os⟩ := s
    obtain ⟨tp, h⟩ := h
    have self := sub_enumerate
    replace tp : Heap.IsTuple (Shared.heap ⟨hp, gs, dr, tk, os⟩) l items := tp
    wp_walk using wpAny_stack_any
    intro st
    refine wpAny_pure ?_
    split
    · rename_i c _ _ _ _ _
      cases c == .type "enumerate" <;> (wp_walk using wpAny_pyIter_tuple tp; exact ⟨_, rfl, h⟩)
    · wp_walk using wpAny_pyIter_tuple tp
      exact ⟨_, rfl, h⟩
section
variable {prog : Program} {w : World} {A : Around} {E : Value → Shared → Prop} {s : Shared}
theorem call_enum_tuple {l : Addr} {items : Array Value} {Q : Value → Shared → Prop} (tp : s.heap.IsTuple l items)
    (h : ∀ h', IsEnum h' (s.heap.objs.size + 1) s.heap.objs.size 0 .none → h'.IsTupleIter s.heap.objs.size l 0 → h'.objs.size = s.heap.objs.size + 2 → (∀ b o, s.heap.get? b = some o → h'.get? b = some o) →
      Q (.ref (s.heap.objs.size + 1)) { s with heap := h' }) : wpAny (model prog w) A (call (.type "enumerate") [.ref l]) Q E s := by
  refine callType_new F.called_enumerate (by decide) (F.typeCall_enumerate_1 _) (F.newCall_enumerate_1 _) (fun obj => F.args_object_init_2 obj _) F.entry_enumerate_new (meets_te l items) ⟨tp, ?_⟩
  have z : (te1 s.heap l).objs.size = s.heap.objs.size + 1 := Heap.size_push ..
  have g2 : (te2 s.heap l).get? (te1 s.heap l).objs.size = some _ := Heap.get?_push_size _ rfl
  have g1 : (te2 s.heap l).get? s.heap.objs.size = some _ := Heap.get?_push_of_some _ (Heap.get?_push_size _ rfl)
  rw [z] at g2
  show _ ∧ _
  rw [z]
  exact ⟨⟨_, g2, rfl⟩, h _ g2 ⟨_, g1, rfl, rfl⟩ (by rw [Heap.size_push, z]) fun b o e => Heap.get?_push_of_some _ (Heap.get?_push_of_some _ e)⟩
theorem next_enumT_end {e it l : Addr} {i : Nat} {j : Int} {items : Array Value} {old : Value} {Q : Option Value → Shared → Prop} (hh : A.handled = none)
    (he : IsEnum s.heap e it j old) (hit : s.heap.IsTupleIter it l i) (hl : s.heap.IsTuple l items) (hx : items[i]? = none)
    (q : ∀ h', Heap.ExtBut it s.heap h' → Q none { s with heap := h' }) : wpAny (model prog w) A (pyNext (.ref e)) Q E s :=
  wpAny_pyNext_enum_endD (draws_over (A := A.in1) hh it l items i hx) he ⟨rfl, hit, hl⟩ q
end
def ItT (K : PySem.W.Frag) (a : Addr) : It :=
  ⟨fun i H => ∃ (xs : List V) (x : V), SqT K H a xs ∧ xs[i]? = some x, fun i H v H' => ∃ T x, v = .ref T ∧ H T = none ∧ H' = upd H T (.tup [.int (i : Nat), x]) ∧ ∀ xs, SqT K H a xs → xs[i]? = some x, fun i H => ∃ xs : List V, SqT K H a xs ∧ xs.length ≤ i⟩
theorem turn_enumT {P : Program} {w : World} {K : PySem.W.Frag} {elts : List Expr} {kk : Nat} {tpos : Pos} (a e it : Addr) :
    Turn P w K (.Tuple elts kk tpos) (ItT K a) [e, it] e (fun i h => (∃ old, IsEnum h e it ((i : Nat) : Int) old) ∧ h.IsTupleIter it a i ∧ e ≠ it ∧ a ≠ it ∧ a ≠ e) where
  mem := by simp
  obj := fun i h st b hb => by
    obtain ⟨⟨old, he⟩, ⟨o, ho, hc, hd⟩, _⟩ := st
    have e' : b = e ∨ b = it := by simpa using hb
    rcases e' with z | z
    · rw [z]; exact ⟨_, he, fun v q => nomatch q⟩
    · rw [z]; exact ⟨o, ho, fun v q => by rw [hd] at q; cases q⟩
  keep := fun i h h' st k => let ⟨⟨old, he⟩, hi, hne⟩ := st; ⟨⟨old, k e (by simp) _ he⟩, tupIter_at hi fun o q => k it (by simp) o q, hne⟩
  item := by
    intro X hP hw hK hc i pins s σ H E I hf st hg
    subst hP hw hK
    obtain ⟨⟨old, he⟩, hit, hne, hai, hae⟩ := st
    obtain ⟨xs, x, hq, hx⟩ := hg
    obtain ⟨its, rv, p, hz⟩ := I.tuple hq
    obtain ⟨u, hu, ru⟩ := rv.get hx
    have hel : e < s.heap.objs.size := Heap.lt_size he
    have hil : it < s.heap.objs.size := by obtain ⟨_, q, _⟩ := hit; exact Heap.lt_size q
    have hlt : i < its.toArray.size := by
      have := (List.getElem?_eq_some_iff.mp hu).1
      simpa using this
    refine wpAny_pyNext_enum_itemD (draws_tuple (A := X.A.in1) (I.ok.hd hc) it a hai its.toArray) he ⟨hit, p⟩ hlt hne (by simp [hne, Ne.symm hae]) fun x' h' tk hP ho hst hT hsz hk => ?_
    obtain rfl : u = x' := by
      have : its.toArray[i]? = some u := by simpa using hu
      rw [this] at hP
      exact Option.some.inj hP
    refine ⟨_, rfl, wpAny_letOwnedTupleGo_enum (s := { s with heap := h', toks := tk + 1 }) ho fun h'' he' sb => ?_⟩
    have hT2 : h''.get? s.heap.objs.size = some { cls := .type "tuple", data := .seq #[.int i tk, u] } := (sb.2 _ (Nat.ne_of_gt hel)).trans hT
    have new : ObjOk X.prog X.w (upd H s.heap.objs.size (.tup [.int (i : Nat), x])) h'' s.heap.objs.size (.tup [.int (i : Nat), x]) :=
      ⟨by show 2 ≤ sizeLine; decide, [.int i tk, u], .cons ⟨_, rfl⟩ (.cons ru .nil), ⟨_, hT2, rfl, _, rfl⟩⟩
    have I1 : Inv X pins σ (upd H s.heap.objs.size (.tup [.int (i : Nat), x])) { s with heap := h'', toks := tk + 1 } :=
      I.turnedNew (ch := [e, it]) (fun b ob hb q => (sb.2 b (fun z => hb (by simp [z]))).trans (hk b ob (fun z => hb (by simp [z])) (fun z => hb (by simp [z])) q)) hf (Nat.le_refl _) new
    refine ⟨.ref s.heap.objs.size, _, I1, rfl, ⟨_, x, rfl, I.hok.fresh (Nat.le_refl _), rfl, fun ys hy => by rw [I.tuple_inj hy hq]; exact hx⟩, ⟨⟨u, ?_⟩, tupIter_at hst.1 fun o q => (sb.2 it (Ne.symm hne)).trans q, hne, hai, hae⟩, fun b hb => ?_⟩
    · have e1 : ((i + 1 : Nat) : Int) = (i : Int) + 1 := by omega
      rw [e1]; exact he'
    · have hb' : b < s.heap.objs.size := by
        have e' : b = e ∨ b = it := by simpa using hb
        rcases e' with z | z
        · rw [z]; exact hel
        · rw [z]; exact hil
      rw [upd_ne (Nat.ne_of_lt hb')]
      exact (hf b hb).1
  done := by
    intro X hP hw hK hc i pins s σ H E I hf st hg
    subst hP hw hK
    obtain ⟨⟨old, he⟩, hit, hne, hai, hae⟩ := st
    obtain ⟨xs, hq, hx⟩ := hg
    obtain ⟨its, rv, p, hz⟩ := I.tuple hq
    obtain ⟨f0, f1, f2, f3, f4, f5⟩ := hf it (by simp)
    have hl := rv.length
    exact next_enumT_end (I.ok.hd hc) he hit p (by simp; omega) fun h' eb => ⟨rfl, I.turned (t' := s.toks) (fun b o hb q => eb b o hb q) f0 f1 f3 f4 f5⟩
  self := fun A i s Q E st h => let ⟨⟨_, he⟩, _⟩ := st; wpAny_pyIter_enum he h
def iEnumT (K : PySem.W.Frag) (ta : TA) : TI := fun σ H R => ta σ H fun vs H1 => ∃ a xs, vs = [.ref a] ∧ SqT K H1 a xs ∧ R (ItT K a) H1
theorem pi_enumT {X : Cx} {e : Expr} {ta : TA} {p pos tpos : Pos} {elts : List Expr} {kk : Nat} (hg : Gl X "enumerate") (hm : X.mg "enumerate" = none) (ha : PA X [e] ta) (hs : starEach [e] X.env = [(false, eval e X.env)] := by rfl) :
    PI X (.Tuple elts kk tpos) (.Call (.Name "enumerate" p) [e] [] pos) (iEnumT X.K ta) := by
  intro pins s σ H R I h
  refine Call_ (ld_blt I hg hm boot_enumerate (PyProof.Rows.callWith_type1 (thn (ha pos pins s σ H _ I h) fun us s1 ⟨vs, H1, I1, r1, q1⟩ => ?_) hs rfl))
  obtain ⟨a, xs, ex, hq, q⟩ := q1
  subst ex
  cases r1 with
  | cons r rr =>
    cases rr
    cases r
    obtain ⟨its, rv, p', hz⟩ := I1.tuple hq
    have hal : a < s1.heap.objs.size := by obtain ⟨_, z, _⟩ := p'; exact Heap.lt_size z
    refine call_enum_tuple p' fun h' he hit hsz hk => wpAny_pyIter_enum he ?_
    have I2 : Inv X pins σ H1 { s1 with heap := h' } := I1.kept (t' := s1.toks) hk
    refine ⟨s1.heap.objs.size + 1, [s1.heap.objs.size + 1, s1.heap.objs.size], _, _, H1, rfl, I2, turn_enumT a (s1.heap.objs.size + 1) s1.heap.objs.size, ⟨⟨.none, he⟩, hit, Nat.succ_ne_self _, Nat.ne_of_lt hal, Nat.ne_of_lt (Nat.lt_succ_of_lt hal)⟩, fun b hb => ?_, q⟩
    have e' : b = s1.heap.objs.size + 1 ∨ b = s1.heap.objs.size := by simpa using hb
    have hle : s1.heap.objs.size ≤ b := by
      rcases e' with z | z
      · rw [z]; exact Nat.le_add_right _ _
      · rw [z]; exact Nat.le_refl _
    exact I1.fpOk hle (I1.hok.fresh hle)
theorem for_enumT {K : PySem.W.Frag} {a : Addr} {xs : List V} {g : TG} {tb : TS} {D : Ends} {σ : St} {H : Hp} (Pv : Nat → St → Hp → Prop) (h0 : Pv 0 σ H) (hl : ∀ i σ H, i ≤ xs.length → Pv i σ H → SqT K H a xs)
    (hs : ∀ i x T σ H, xs[i]? = some x → Pv i σ H → H T = none → g (.ref T) σ (upd H T (.tup [.int (i : Nat), x])) fun σ2 H2 => tb { D with nx := Pv (i + 1), ct := Pv (i + 1), bk := D.nx } σ2 H2) (hd : ∀ σ H, Pv xs.length σ H → D.nx σ H) :
    ∃ W : Nat → Nat → St → Hp → Prop, (∃ m, W 0 m σ H) ∧ ∀ i m σ H, W i m σ H →
      ((ItT K a).stop i H ∧ D.nx σ H) ∨ ((ItT K a).go i H ∧ ∃ N : St → Hp → Prop, (∀ σ' H', N σ' H' → ∃ m', m' < m ∧ W (i + 1) m' σ' H') ∧ ∀ x H', (ItT K a).yld i H x H' → g x σ H' fun σ2 H2 => tb { D with nx := N, ct := N, bk := D.nx } σ2 H2) := by
  refine ⟨fun i m σ H => m = xs.length - i ∧ i ≤ xs.length ∧ Pv i σ H, ⟨xs.length, by simp, Nat.zero_le _, h0⟩, ?_⟩
  rintro i m σ H ⟨rfl, hi, p⟩
  have q := hl i σ H hi p
  by_cases hlt : i < xs.length
  · refine .inr ⟨⟨xs, xs[i], q, by simp [hlt]⟩, Pv (i + 1), fun σ' H' p' => ⟨xs.length - (i + 1), by omega, rfl, hlt, p'⟩, fun x H' y => ?_⟩
    obtain ⟨T, x', rfl, nT, rfl, hx⟩ := y
    exact hs i x' T σ H (hx xs q) p nT
  · have e : i = xs.length := by omega
    subst e
    exact .inl ⟨⟨xs, q, Nat.le_refl _⟩, hd σ H p⟩
theorem for_enum {K : PySem.W.Frag} {a : Addr} {xs : List V} {g : TG} {tb : TS} {D : Ends} {σ : St} {H : Hp} (Pv : Nat → St → Hp → Prop) (h0 : Pv 0 σ H) (hl : ∀ i σ H, i ≤ xs.length → Pv i σ H → SqL K H a xs)
    (hs : ∀ i x T σ H, xs[i]? = some x → Pv i σ H → H T = none → g (.ref T) σ (upd H T (.tup [.int (i : Nat), x])) fun σ2 H2 => tb { D with nx := Pv (i + 1), ct := Pv (i + 1), bk := D.nx } σ2 H2) (hd : ∀ σ H, Pv xs.length σ H → D.nx σ H) :
    ∃ W : Nat → Nat → St → Hp → Prop, (∃ m, W 0 m σ H) ∧ ∀ i m σ H, W i m σ H →
      ((Ite K a).stop i H ∧ D.nx σ H) ∨ ((Ite K a).go i H ∧ ∃ N : St → Hp → Prop, (∀ σ' H', N σ' H' → ∃ m', m' < m ∧ W (i + 1) m' σ' H') ∧ ∀ x H', (Ite K a).yld i H x H' → g x σ H' fun σ2 H2 => tb { D with nx := N, ct := N, bk := D.nx } σ2 H2) := by
  refine ⟨fun i m σ H => m = xs.length - i ∧ i ≤ xs.length ∧ Pv i σ H, ⟨xs.length, by simp, Nat.zero_le _, h0⟩, ?_⟩
  rintro i m σ H ⟨rfl, hi, p⟩
  have q := hl i σ H hi p
  by_cases hlt : i < xs.length
  · refine .inr ⟨⟨xs, xs[i], q, by simp [hlt]⟩, Pv (i + 1), fun σ' H' p' => ⟨xs.length - (i + 1), by omega, rfl, hlt, p'⟩, fun x H' y => ?_⟩
    obtain ⟨T, x', rfl, nT, rfl, hx⟩ := y
    exact hs i x' T σ H (hx xs q) p nT
  · have e : i = xs.length := by omega
    subst e
    exact .inl ⟨⟨xs, q, Nat.le_refl _⟩, hd σ H p⟩
theorem lc_enumT {K : PySem.W.Frag} {a : Addr} {xs : List V} {g : TG} {tt : TT} {te : TE} {vs : List Nat} {σ : St} {H1 : Hp} {D : Addr} {Qd : Hp → Prop} (Pv : Nat → Hp → Prop) (h0 : Pv 0 (upd H1 D (.lst []))) (hl : ∀ i H, i ≤ xs.length → Pv i H → SqT K H a xs)
    (hs : ∀ i x T H, xs[i]? = some x → Pv i H → H T = none → g (.ref T) (wipe σ vs) (upd H T (.tup [.int (i : Nat), x])) fun σ2 H2 => wipe σ2 vs = wipe σ vs ∧ tt σ2 H2 fun b H3 =>
      if b = true then te σ2 H3 fun y H4 => ∃ acc, H4 D = some (.lst acc) ∧ acc.length < sizeLine ∧ Pv (i + 1) (upd H4 D (.lst (acc ++ [y]))) else Pv (i + 1) H3) (hd : ∀ H, Pv xs.length H → Qd H) :
    ∃ W : Nat → Nat → Hp → Prop, (∃ m, W 0 m (upd H1 D (.lst []))) ∧ ∀ i m H, W i m H →
      ((ItT K a).stop i H ∧ Qd H) ∨ ((ItT K a).go i H ∧ ∃ Nx : Hp → Prop, (∀ H', Nx H' → ∃ m', m' < m ∧ W (i + 1) m' H') ∧ ∀ x H', (ItT K a).yld i H x H' → g x (wipe σ vs) H' fun σ2 H2 => wipe σ2 vs = wipe σ vs ∧ tt σ2 H2 fun b H3 =>
        if b = true then te σ2 H3 fun y H4 => ∃ acc, H4 D = some (.lst acc) ∧ acc.length < sizeLine ∧ Nx (upd H4 D (.lst (acc ++ [y]))) else Nx H3) := by
  refine ⟨fun i m H => m = xs.length - i ∧ i ≤ xs.length ∧ Pv i H, ⟨xs.length, by simp, Nat.zero_le _, h0⟩, ?_⟩
  rintro i m H ⟨rfl, hi, p⟩
  have q := hl i H hi p
  by_cases hlt : i < xs.length
  · refine .inr ⟨⟨xs, xs[i], q, by simp [hlt]⟩, Pv (i + 1), fun H' p' => ⟨xs.length - (i + 1), by omega, rfl, hlt, p'⟩, fun x H' y => ?_⟩
    obtain ⟨T, x', rfl, nT, rfl, hx⟩ := y
    exact hs i x' T H (hx xs q) p nT
  · have e : i = xs.length := by omega
    subst e
    exact .inl ⟨⟨xs, q, Nat.le_refl _⟩, hd H p⟩
theorem lc_zip {K : PySem.W.Frag} {a b : Addr} {xs ys : List V} {g : TG} {tt : TT} {te : TE} {vs : List Nat} {σ : St} {H1 : Hp} {D : Addr} {Qd : Hp → Prop} (hxy : xs.length = ys.length) (Pv : Nat → Hp → Prop) (h0 : Pv 0 (upd H1 D (.lst [])))
    (hl : ∀ i H, i ≤ xs.length → Pv i H → SqL K H a xs ∧ SqL K H b ys)
    (hs : ∀ i x y T H, xs[i]? = some x → ys[i]? = some y → Pv i H → H T = none → g (.ref T) (wipe σ vs) (upd H T (.tup [x, y])) fun σ2 H2 => wipe σ2 vs = wipe σ vs ∧ tt σ2 H2 fun b H3 =>
      if b = true then te σ2 H3 fun y H4 => ∃ acc, H4 D = some (.lst acc) ∧ acc.length < sizeLine ∧ Pv (i + 1) (upd H4 D (.lst (acc ++ [y]))) else Pv (i + 1) H3) (hd : ∀ H, Pv xs.length H → Qd H) :
    ∃ W : Nat → Nat → Hp → Prop, (∃ m, W 0 m (upd H1 D (.lst []))) ∧ ∀ i m H, W i m H →
      ((Itz K a b).stop i H ∧ Qd H) ∨ ((Itz K a b).go i H ∧ ∃ Nx : Hp → Prop, (∀ H', Nx H' → ∃ m', m' < m ∧ W (i + 1) m' H') ∧ ∀ x H', (Itz K a b).yld i H x H' → g x (wipe σ vs) H' fun σ2 H2 => wipe σ2 vs = wipe σ vs ∧ tt σ2 H2 fun b H3 =>
        if b = true then te σ2 H3 fun y H4 => ∃ acc, H4 D = some (.lst acc) ∧ acc.length < sizeLine ∧ Nx (upd H4 D (.lst (acc ++ [y]))) else Nx H3) := by
  refine ⟨fun i m H => m = xs.length - i ∧ i ≤ xs.length ∧ Pv i H, ⟨xs.length, by simp, Nat.zero_le _, h0⟩, ?_⟩
  rintro i m H ⟨rfl, hi, p⟩
  obtain ⟨q1, q2⟩ := hl i H hi p
  by_cases hlt : i < xs.length
  · have hlt2 : i < ys.length := by omega
    refine .inr ⟨⟨xs, ys, xs[i], ys[i], q1, q2, by simp [hlt], by simp [hlt2]⟩, Pv (i + 1), fun H' p' => ⟨xs.length - (i + 1), by omega, rfl, hlt, p'⟩, fun x H' y => ?_⟩
    obtain ⟨T, x', y', rfl, nT, rfl, hx, hy⟩ := y
    exact hs i x' y' T H (hx xs q1) (hy ys q2) p nT
  · have e : i = xs.length := by omega
    subst e
    exact .inl ⟨⟨xs, ys, q1, q2, .inl (Nat.le_refl _)⟩, hd H p⟩
end L2
set_option Elab.async false
set_option linter.all false
set_option maxRecDepth 100000
set_option maxHeartbeats 1000000
namespace L2
open PySem PySem.Spec PyProof.Rows
section
variable {X : Cx}
theorem call_rng1 : CallR X (.type "range") (fun xs H Q => ∃ j, xs = [.int j] ∧ ∀ r, H r = none → Q (.ref r) (upd H r (.rng 0 j))) := by
  intro pins s σ H xs us Q I r h
  obtain ⟨j, rfl, q⟩ := h
  obtain ⟨u, rfl, t, rfl⟩ := vals1 r
  have hn : H s.heap.objs.size = none := I.hok.fresh (Nat.le_refl _)
  refine call_range_1 ⟨.ref s.heap.objs.size, upd H s.heap.objs.size (.rng 0 j), I.laid (fun b o e => Heap.get?_push_of_some _ e) (Nat.le_refl _) ⟨_, _, _, Heap.get?_push_size _ rfl⟩, rfl, q _ hn⟩
def natsV (n : Nat) : List V := (List.range n).map fun (i : Nat) => V.int (i : Int)
theorem vals_items : ∀ (n : Nat) (l : List Value), l.length = n → (∀ (j : Nat) v, l[j]? = some v → ∃ t, v = Value.int (0 + (j : Int) * 1) t) → Vals (natsV n) l := by
  intro n
  induction n with
  | zero => intro l hl _; rw [List.length_eq_zero_iff.mp hl]; exact .nil
  | succ n ih =>
    intro l hl h
    have hne : l ≠ [] := fun z => by rw [z] at hl; cases hl
    have e : l = l.dropLast ++ [l.getLast hne] := (List.dropLast_concat_getLast hne).symm
    have e2 : natsV (n + 1) = natsV n ++ [V.int (n : Int)] := by
      unfold natsV
      rw [List.range_succ, List.map_append]
      rfl
    rw [e, e2]
    refine Vals.append (ih _ (by rw [List.length_dropLast, hl]; rfl) fun j v hj => ?_) (.cons ?_ .nil)
    · have hjl : j < l.dropLast.length := (List.getElem?_eq_some_iff.mp hj).1
      refine h j v ?_
      rw [e, List.getElem?_append_left hjl]
      exact hj
    · obtain ⟨t, ht⟩ := h n (l.getLast hne) (by
        rw [List.getLast_eq_getElem, List.getElem?_eq_getElem (by omega)]
        congr 2
        omega)
      exact ⟨t, by rw [ht]; congr 1; omega⟩
theorem call_list_rng (hc : X.calm = true) : CallR X (.type "list") (fun xs H Q => ∃ r n, xs = [.ref r] ∧ H r = some (.rng 0 (n : Nat)) ∧ n ≤ 1000000 ∧ ∀ l, H l = none → Q (.ref l) (upd H l (.lst (natsV n)))) := by
  intro pins s σ H xs us Q I r h
  obtain ⟨ra, n, rfl, hr, hn, q⟩ := h
  obtain ⟨u, rfl, ru⟩ := vals1 r
  cases (show u = Value.ref ra from ru)
  obtain ⟨t, u', v, hx⟩ := (show ObjOk X.prog X.w H s.heap ra (.rng 0 n) from I.hok ra _ hr)
  have hnew : H s.heap.objs.size = none := I.hok.fresh (Nat.le_refl _)
  refine call_list_range (n := n) (I.ok.hd hc) (show IsRange s.heap ra 0 (n : Int) 1 t u' v from hx) ?_ ?_ (by omega) fun h' tk acc' c' hk hS' hacc => ?_
  · exact small_one (by omega) (by omega) (by omega) (by omega)
  · unfold Builtin.Range.rangeSize
    simp only [show (1 : Int) > 0 by decide, if_true]
    by_cases hz : n = 0
    · subst hz; rfl
    · rw [if_pos (by omega)]; omega
  · refine ⟨.ref s.heap.objs.size, upd H s.heap.objs.size (.lst (natsV n)), I.laid hk (Nat.le_refl _) ⟨?_, acc'.toList, c', ?_, ?_⟩, rfl, q _ hnew⟩
    · unfold natsV
      rw [List.length_map, List.length_range, sizeLine_eq]
      omega
    · exact vals_items n acc'.toList (by simpa using hacc.1) fun j v hj => by
        have := hacc.2 j v (by simpa using hj)
        exact this
    · rw [hS']
end
abbrev pairD (p : Int × Int) : PyData := .tuple [.int p.1, .int p.2]
def PairAt (H : Hp) (a : Addr) (p : Int × Int) : Prop := H a = some (.tup [.int p.1, .int p.2])
def PairsAt (H : Hp) (as : List Addr) (ps : List (Int × Int)) : Prop := Paired (PairAt H) as ps
theorem eqv_pair (p q : Int × Int) : PyData.eqv (pairD p) (pairD q) = decide (p = q) := by
  obtain ⟨a, b⟩ := p
  obtain ⟨c, d⟩ := q
  simp only [pairD, PyData.eqv, PyData.eqvAll, Bool.and_true]
  by_cases h : a = c
  · by_cases h' : b = d
    · subst h h'; simp
    · simp [h, h']
  · simp [h]
theorem dp_pair {K : PySem.W.Frag} {H : Hp} {a : Addr} {p : Int × Int} (h : PairAt H a p) : Dp K H (.ref a) (pairD p) := .tup (SqT.of h) (.cons (.int _) (.cons (.int _) .nil))
theorem dp_pairs {K : PySem.W.Frag} {H : Hp} : ∀ {as : List Addr} {ps : List (Int × Int)}, PairsAt H as ps → DpAll K H (as.map V.ref) (ps.map pairD)
  | _, _, .nil => .nil
  | _, _, .cons r t => .cons (dp_pair r) (dp_pairs t)
theorem can_pairs : ∀ ps : List (Int × Int), PyData.canLayAll0 (ps.map pairD) = true
  | [] => by simp only [List.map_nil, PyData.canLayAll0]
  | p :: ps => by simp only [List.map_cons, PyData.canLayAll0, pairD, PyData.canLay0, Bool.and_true, Bool.true_and, can_pairs ps]
theorem any_pairs (q : Int × Int) : ∀ ps : List (Int × Int), (ps.map pairD).any (fun y => PyData.eqv y (pairD q)) = decide (q ∈ ps)
  | [] => rfl
  | p :: ps => by
    rw [List.map_cons, List.any_cons, any_pairs q ps, eqv_pair]
    by_cases h : p = q
    · subst h; simp
    · have h' : ¬ q = p := fun z => h z.symm
      simp [h, h', List.mem_cons]
theorem depth_pair (p : Int × Int) : (pairD p).depth = 1 := by simp only [pairD, PyData.depth, PyData.depthAll]; rfl
def rInP (neg : Bool) : R2 := fun x y H Q => ∃ a l as ps p, x = .ref a ∧ y = .ref l ∧ PairAt H a p ∧ H l = some (.lst (as.map V.ref)) ∧ PairsAt H as ps ∧ Q (.bl (if neg then !decide (p ∈ ps) else decide (p ∈ ps))) H
section
variable {X : Cx}
theorem op_notInP {k : Nat} (hr : Room k X.A) : OpR X (compareOp .NotIn) (rInP true) := by
  intro pins s σ H x y v u Q I rx ry h
  obtain ⟨a, l, as, ps, p, rfl, rfl, ha, hl, hps, q⟩ := h
  obtain ⟨cs, r1⟩ := Dp.reads I _ _ v (dp_pair ha) rx
  obtain ⟨bs, r2⟩ := Dp.reads I _ _ u (Dp.lst (K := X.K) (SqL.of hl) (dp_pairs hps)) ry
  have hu := hr.units
  refine SeqAt.notIn_list_reads r2 r1 (can_pairs ps) (by simp only [pairD, PyData.canLay0, PyData.canLayAll0]; rfl) ?_ ?_
  · have := Nat.min_le_right (PyData.depthAll (ps.map pairD)) (pairD p).depth
    rw [depth_pair] at this
    rw [depth_pair]
    omega
  · rw [any_pairs]
    exact ⟨.bl _, H, I, rfl, q⟩
def rIndexP : V → List V → Hp → VK → Prop := fun x xs H Q => ∃ l a as ps p j, x = .ref l ∧ xs = [.ref a] ∧ PairAt H a p ∧ H l = some (.lst (as.map V.ref)) ∧ PairsAt H as ps ∧ ps[j]? = some p ∧ (∀ m, m < j → ps[m]? ≠ some p) ∧ Q (.int (j : Nat)) H
theorem mt_indexP {k : Nat} (hr : Room k X.A) : MtR X "list.index" rIndexP := by
  intro pins s σ H x xs v us Q I rx rxs h
  obtain ⟨l, a, as, ps, p, j, rfl, rfl, ha, hl, hps, hj, hno, q⟩ := h
  cases (show v = Value.ref l from rx)
  obtain ⟨uy, rfl, ry⟩ := vals1 rxs
  obtain ⟨cs, r1⟩ := Dp.reads I _ _ uy (dp_pair ha) ry
  obtain ⟨its, rv, ⟨⟨cls, dd, data, sl⟩, n, ho, hc, hdn, hd⟩, hlen⟩ := I.list (SqL.of (K := X.K) hl)
  simp only at hc hd
  subst hc hd
  obtain ⟨bs, r2⟩ := Dp.readsAll I (ps.map pairD) _ its (dp_pairs hps) rv
  have hmap := SeqAt.readsAll_map (ps.map pairD) its bs (can_pairs ps) r2
  have hu := hr.units
  have hlp : its.length = ps.length := by
    have := congrArg List.length hmap
    simpa using this
  have hjl : j < ps.length := (List.getElem?_eq_some_iff.mp hj).1
  have hj' : j < its.toArray.size := by simpa [hlp] using hjl
  have hsl := sizeLine_eq
  have hal : as.length = ps.length := Paired.length hps
  have rd : ∀ (m : Nat) (hm : m < its.toArray.size) (hm2 : m < ps.length), SeqAt.readOf s.heap its.toArray[m] = pairD ps[m] := fun m hm hm2 => by
    have e1 : (its.map (SeqAt.readOf s.heap))[m]? = (ps.map pairD)[m]? := by rw [hmap]
    have hm3 : m < its.length := by simpa using hm
    rw [List.getElem?_map, List.getElem?_map, List.getElem?_eq_getElem hm3, List.getElem?_eq_getElem hm2] at e1
    simpa using e1
  refine call_meets PySem.F.slot_list_index ⟨_, ho, rfl⟩ PySem.F.entry_list_index (PySem.F.args_list_index_2 _ _)
    (SeqAt.list_indexAt l its.toArray n dd sl uy (fun y => PyData.eqv (SeqAt.readOf s.heap y) (pairD p)) j hj' (by rw [List.length_map, hal] at hlen; omega) ?_ ?_)
    ⟨ho, SeqAt.items_eqAt (vs := its.toArray) (by simpa using r2) r1 (can_pairs ps) (by simp only [pairD, PyData.canLay0, PyData.canLayAll0]; rfl) ?_, ⟨.int (j : Nat), H, I.tok _, ⟨_, rfl⟩, q⟩⟩
  · rw [rd j hj' hjl, eqv_pair]
    have := (List.getElem?_eq_some_iff.mp hj).2
    rw [this]
    exact decide_eq_true rfl
  · intro m hm hmj
    have hm2 : m < ps.length := by omega
    rw [rd m hm hm2, eqv_pair]
    refine decide_eq_false fun z => hno m hmj ?_
    rw [List.getElem?_eq_getElem hm2, z]
  · have := Nat.min_le_right (PyData.depthAll (ps.map pairD)) (pairD p).depth
    rw [depth_pair] at this
    rw [depth_pair]
    omega
end
end L2
set_option Elab.async false
set_option linter.all false
set_option maxRecDepth 100000
set_option maxHeartbeats 4000000
namespace NH
open PySem L2
theorem same_new {H : Hp} {p : Addr} {o : HO} (n : H p = none) : Same H (upd H p o) := fun b u e => by rw [upd_ne (ne_of_none e n)]; exact e
theorem same_upd {H H1 : Hp} {p : Addr} {o : HO} (s : Same H H1) (n : H p = none) : Same H (upd H1 p o) := fun b u e => by
  rw [upd_ne (ne_of_none e n)]
  exact s _ _ e
structure BoxAt (H : Hp) (p : Addr) : Prop where
  ex : ∃ a b : Int, H p = some (.lst [.int a, .int b]) ∧ 0 ≤ b ∧ b < 2 ^ 40
theorem BoxAt.same {H H' : Hp} {p : Addr} (s : Same H H') (b : BoxAt H p) : BoxAt H' p := by
  obtain ⟨x, y, e, h0, h1⟩ := b.ex
  exact ⟨x, y, s _ _ e, h0, h1⟩
theorem box_upd {H : Hp} {p : Addr} {x y : Int} (h0 : 0 ≤ y) (h1 : y < 2 ^ 40) : BoxAt (upd H p (.lst [.int x, .int y])) p := ⟨x, y, upd_same, h0, h1⟩
theorem BoxAt.ne {H : Hp} {p q : Addr} (b : BoxAt H p) (h : H q = none) : q ≠ p := fun z => by
  obtain ⟨_, _, e, _⟩ := b.ex
  rw [← z, h] at e
  cases e
structure Step (p : Addr) (H H' : Hp) : Prop where
  keep : ∀ b o, b ≠ p → H b = some o → H' b = some o
  box : BoxAt H' p
theorem Step.refl {p : Addr} {H : Hp} (b : BoxAt H p) : Step p H H := ⟨fun _ _ _ e => e, b⟩
theorem Step.trans {p : Addr} {H H1 H2 : Hp} (a : Step p H H1) (b : Step p H1 H2) : Step p H H2 := ⟨fun c o n e => b.keep c o n (a.keep c o n e), b.box⟩
theorem Step.same {p : Addr} {H H1 H2 : Hp} (a : Step p H H1) (b : Same H1 H2) : Step p H H2 := ⟨fun c o n e => b c o (a.keep c o n e), a.box.same b⟩
theorem Step.free {p : Addr} {H H1 : Hp} {q : Addr} (a : Step p H H1) (n : H1 q = none) : H q = none := by
  cases e : H q with
  | none => rfl
  | some o =>
    rw [a.keep q o (a.box.ne n) e] at n
    cases n
theorem Step.new {p q : Addr} {H H1 : Hp} {o : HO} (a : Step p H H1) (n : H1 q = none) : Step p H (upd H1 q o) := a.same (same_new n)
theorem Step.take {p : Addr} {H H1 : Hp} {x y : Int} (a : Step p H H1) (h0 : 0 ≤ y) (h1 : y < 2 ^ 40) : Step p H (upd H1 p (.lst [.int x, .int y])) :=
  ⟨fun c o n e => by rw [upd_ne n]; exact a.keep c o n e, box_upd h0 h1⟩
theorem Step.put {p q : Addr} {H H1 : Hp} {o : HO} (a : Step p H H1) (n : H q = none) (hq : q ≠ p) : Step p H (upd H1 q o) := by
  refine ⟨fun c u hc e => ?_, ?_⟩
  · rw [upd_ne (ne_of_none e n)]
    exact a.keep c u hc e
  · obtain ⟨x, y, e, h0, h1⟩ := a.box.ex
    exact ⟨x, y, by rw [upd_ne hq.symm]; exact e, h0, h1⟩
def natV (i : Nat) : V := .int (i : Int)
theorem natsV_eq (n : Nat) : natsV n = (List.range n).map natV := rfl
theorem natV_get {l : List Nat} {i : Nat} {x : Nat} (h : l[i]? = some x) : (l.map natV)[i]? = some (natV x) := by rw [List.getElem?_map, h]; rfl
theorem natV_at {l : List Nat} {z : Int} {i : Nat} {x : Nat} (e : z = (i : Int)) (h : l[i]? = some x) : atI (l.map natV) z = some (natV x) := at_of e (natV_get h)
theorem ixN_nat {n : Nat} {z : Int} {i : Nat} (e : z = (i : Int)) (h : i < n) : ixN n z = some i := by
  subst e
  unfold ixN
  rw [if_pos (by omega), if_pos (by omega)]
  simp
def spTake : Sp := fun vs H Q _ => ∃ (p : Addr) (a b w : Int), vs = [.ref p, .int w] ∧ H p = some (.lst [.int a, .int b]) ∧ 0 ≤ b ∧ b < 2 ^ 40 ∧ 0 < w ∧ w < 2 ^ 30 ∧
  ∀ r a' b' : Int, 0 ≤ r → r < w → 0 ≤ b' → b' < 2 ^ 40 → Q (.int r) (upd H p (.lst [.int a', .int b']))
def spBox (K : PySem.W.Frag) : Sp := fun vs H Q _ => ∃ (a : Addr) (ns : List Int) (k : Int), vs = [.ref a, .int k] ∧ SqL K H a (ns.map V.int) ∧ 0 ≤ k ∧ k < 1000 ∧
  ∀ (p : Addr) (H' : Hp), H p = none → Same H H' → BoxAt H' p → Q (.ref p) H'
def spShuf : Sp := fun vs H Q _ => ∃ (p : Addr) (n : Nat), vs = [.ref p, natV n] ∧ BoxAt H p ∧ n < 100000 ∧
  ∀ (r : Addr) (π : List Nat) (H' : Hp), H r = none → Step p H H' → H' r = some (.lst (π.map natV)) → π.Perm (List.range n) → Q (.ref r) H'
theorem ints_at {ns : List Int} {j : Nat} (h : j < ns.length) : ∃ z, (ns.map V.int)[j]? = some (.int z) := by
  refine ⟨ns[j], ?_⟩
  rw [List.getElem?_map, List.getElem?_eq_getElem h]
  rfl
theorem ints_atI {ns : List Int} {k : Int} (h0 : 0 ≤ k) (h : k < ns.length) : ∃ z, atI (ns.map V.int) k = some (.int z) := by
  obtain ⟨z, e⟩ := ints_at (ns := ns) (j := k.toNat) (by omega)
  exact ⟨z, at_of (by omega) e⟩
theorem pow_ok (c : Int) {k : Int} (k0 : 0 ≤ k) (k1 : k < 1000) : (c % 2147483629 + 104729 * k + 12).natAbs < 2 ^ 64 := by
  have h1 := Int.emod_nonneg c (show (2147483629 : Int) ≠ 0 by decide)
  have h2 := Int.emod_lt_of_pos c (show (0 : Int) < 2147483629 by decide)
  omega
theorem seed_ok (x : Int) : 0 ≤ x % 2147483647 + 1 ∧ x % 2147483647 + 1 < 2 ^ 40 := by
  have h1 := Int.emod_nonneg x (show (2147483647 : Int) ≠ 0 by decide)
  have h2 := Int.emod_lt_of_pos x (show (0 : Int) < 2147483647 by decide)
  omega
theorem pick2 (b : Bool) (x y : Int) : atI [V.int x, V.int y] (if b = true then 1 else 0) = some (.int (if b = true then y else x)) := by cases b <;> rfl
theorem box_end {H H1 : Hp} {q p : Addr} {o : HO} {x y : Int} (nq : H1 q = none) (np : (upd H1 q o) p = none) (s1 : Same H H1) (h0 : 0 ≤ y) (h1 : y < 2 ^ 40) :
    H p = none ∧ Same H (upd (upd H1 q o) p (.lst [.int x, .int y])) ∧ BoxAt (upd (upd H1 q o) p (.lst [.int x, .int y])) p := by
  have s2 : Same H1 (upd H1 q o) := same_new nq
  have s3 : Same H (upd H1 q o) := s1.trans s2
  exact ⟨s3.free np, s3.trans (same_new np), ⟨x, y, upd_same, h0, h1⟩⟩
theorem erase_map {α β : Type} (f : α → β) : ∀ (l : List α) (k : Nat), (l.map f).eraseIdx k = (l.eraseIdx k).map f
  | [], _ => rfl
  | a :: r, 0 => rfl
  | a :: r, k + 1 => by
    show f a :: (r.map f).eraseIdx k = f a :: (r.eraseIdx k).map f
    rw [erase_map f r k]
theorem perm_erase : ∀ {l : List Nat} {k y : Nat}, l[k]? = some y → (y :: l.eraseIdx k).Perm l
  | [], k, y, h => by simp at h
  | a :: r, 0, y, h => by
    have e : a = y := by simpa using h
    subst e
    exact List.Perm.refl _
  | a :: r, k + 1, y, h => by
    have ih := perm_erase (l := r) (k := k) (y := y) (by simpa using h)
    show (y :: a :: r.eraseIdx k).Perm (a :: r)
    exact (List.Perm.swap a y _).trans (ih.cons a)
theorem perm_pop {n : Nat} {done rest : List Nat} {k y : Nat} (h : (done ++ rest).Perm (List.range n)) (hy : rest[k]? = some y) : ((done ++ [y]) ++ rest.eraseIdx k).Perm (List.range n) := by
  refine List.Perm.trans ?_ h
  rw [List.append_assoc]
  refine List.Perm.append_left done ?_
  exact perm_erase hy
end NH
set_option Elab.async false
set_option linter.all false
set_option maxRecDepth 100000
set_option maxHeartbeats 4000000
namespace NH
open PySem L2
def top (i : Nat) : Stmt := PySem.Challenge.pw_namelesshall_k18_all_lesser_webs.main.body.getD i (.Pass ⟨0, 0, 0, 0⟩)
abbrev sBox : Stmt := top 8
abbrev sTake : Stmt := top 9
abbrev sShuf : Stmt := top 11
section
variable {P : Program} {w : World} {K : PySem.W.Frag} {mg : Str → Option Value} {base : Heap}
theorem scTake : FnScope ["_law_box_here", "_law_wide", "_law_digit", "_law_one"] ["_law_box_here", "_law_wide"] (defScope sTake) := ⟨rfl, rfl, rfl, by decide +kernel, rfl, by decide +kernel, by decide +kernel⟩
theorem ok_take {f : Addr} {fd : FuncData} (F : Fun K "_law_take" "_law_take" sTake f fd) : FnOk P w K mg base CX0 1 f fd ["_law_box_here", "_law_wide"] spTake := by
  refine F.ok scTake (fun vs H Q E h => ?_) (fun cdv A outer s H vs Q E hr h => ?_)
  · obtain ⟨p, a, b, w, rfl, _⟩ := h
    rfl
  · obtain ⟨p, a, b, wd, rfl, hp, b0, b1, w0, w1, k⟩ := h
    have nd := scTake.nd
    refine ⟨_, pss_cons (ps_if (pt_cmpR op_gt (pe_ix ix_list (pv 0) pe_int (fun _ _ => rfl)) pe_int (nomark _))
        (pss_cons (ps_set (i := 2) nd rfl (Or.inl rfl) (pe_op op_mod (pe_ix ix_list (pv 0) pe_int (fun _ _ => rfl)) (pv 1)))
        (pss_cons (ps_asg (pe_op op_fdiv (pe_ix ix_list (pv 0) pe_int (fun _ _ => rfl)) (pv 1)) (pg_sub (pv 0) pe_int set_list))
        (pss_one (ps_ret (pv 2)))))
        pss_nil)
      (pss_cons (ps_set (i := 3) nd rfl (Or.inl rfl) (pe_op op_mod (pe_op op_mul (pe_ix ix_list (pv 0) pe_int (fun _ _ => rfl)) pe_int) pe_int))
      (pss_cons (ps_asg (pe_op op_add (pe_op op_mod (pe_op op_add (pe_op op_mul (pv 3) pe_int) pe_int) pe_int) pe_int) (pg_sub (pv 0) pe_int set_list))
      (pss_one (ps_ret (pe_op op_mod (pe_op op_fdiv (pe_op op_add (pe_op op_mul (pv 3) pe_int) (pe_ix ix_list (pv 0) pe_int (fun _ _ => rfl))) pe_int) (pv 1)))))), ?_⟩
    refine ⟨_, rfl, p, _, _, _, rfl, rfl, SqL.of hp, rfl, _, _, rfl, rfl, _, rfl, ?_⟩
    refine ite2 (fun ha => ?_) (fun ha => ?_)
    · refine ⟨_, rfl, p, _, _, _, rfl, rfl, SqL.of hp, rfl, _, rfl, _, _, rfl, rfl, w0, ?_⟩
      refine ⟨_, rfl, p, _, _, _, rfl, rfl, SqL.of hp, rfl, _, rfl, _, _, rfl, rfl, ⟨w0, w1⟩, ?_⟩
      refine ⟨_, rfl, p, _, _, _, rfl, rfl, hp, rfl, ?_⟩
      refine ⟨_, rfl, ?_⟩
      exact k _ _ _ (Int.emod_nonneg _ (by omega)) (Int.emod_lt_of_pos _ w0) b0 b1
    · refine ⟨_, rfl, p, _, _, _, rfl, rfl, SqL.of hp, rfl, _, _, rfl, rfl, .inl ⟨by omega, by omega⟩, _, _, rfl, rfl, (by show (0 : Int) < 2147483647; decide), ?_⟩
      have h1 := Int.emod_nonneg (b * 69623) (show (2147483647 : Int) ≠ 0 by decide)
      have h2 := Int.emod_lt_of_pos (b * 69623) (show (0 : Int) < 2147483647 by decide)
      refine ⟨_, rfl, _, _, rfl, rfl, .inl ⟨by omega, by omega⟩, _, _, rfl, rfl, _, _, rfl, rfl, (by show (0 : Int) < 2147483629; decide), _, _, rfl, rfl, ?_⟩
      have h3 := Int.emod_nonneg (b * 69623 % 2147483647 * 48271 + 30103) (show (2147483629 : Int) ≠ 0 by decide)
      have h4 := Int.emod_lt_of_pos (b * 69623 % 2147483647 * 48271 + 30103) (show (0 : Int) < 2147483629 by decide)
      refine ⟨_, rfl, p, _, _, _, rfl, rfl, hp, rfl, ?_⟩
      refine ⟨_, rfl, _, _, rfl, rfl, .inl ⟨by omega, by omega⟩, _, rfl, p, _, _, _, rfl, rfl, SqL.of upd_same, rfl, _, _, rfl, rfl, _, _, rfl, rfl, ⟨by decide, by decide⟩, _, rfl, _, _, rfl, rfl, w0, ?_⟩
      exact k _ _ _ (Int.emod_nonneg _ (by omega)) (Int.emod_lt_of_pos _ w0) (by omega) (by omega)
theorem scBox : FnScope ["_law_script", "_law_k", "_law_cell", "_law_seed"] ["_law_script", "_law_k"] (defScope sBox) := ⟨rfl, rfl, rfl, by decide +kernel, rfl, by decide +kernel, by decide +kernel⟩
theorem ok_box {f : Addr} {fd : FuncData} (F : Fun K "_law_box" "_law_box" sBox f fd) (mlen : mg "len" = none) (mint : mg "int" = none) : FnOk P w K mg base CX0 1 f fd ["_law_script", "_law_k"] (spBox K) := by
  refine F.ok scBox (fun vs H Q E h => ?_) (fun cdv A outer s H vs Q E hr h => ?_)
  · obtain ⟨a, ns, k, rfl, _⟩ := h
    rfl
  · obtain ⟨a, ns, k, rfl, hS, k0, k1, kk⟩ := h
    have nd := scBox.nd
    refine ⟨_, pss_cons (ps_set (i := 2) nd rfl (Or.inl rfl) (pe_op op_mod (pe_op op_pow (pe_op op_add (pe_op op_mul pe_int (pv 1)) pe_int) pe_int) pe_int))
      (pss_cons (ps_if (pt_cmpR op_lt (pv 1) (pe_callB call_len_seq (by rfl) mlen PySem.boot_len (pa_cons (pv 0) pa_nil)) (nomark _))
        (pss_one (ps_set (i := 2) nd rfl (Or.inl rfl) (pe_ix ix_list (pv 0) (pv 1) (fun _ _ => rfl))))
        (pss_one (ps_if (pt_cmpR op_gt (pe_callB call_len_seq (by rfl) mlen PySem.boot_len (pa_cons (pv 0) pa_nil)) pe_int (nomark _))
          (pss_one (ps_set (i := 2) nd rfl (Or.inl rfl) (pe_op op_add (pv 2) (pe_op op_mul (pe_op op_mod (pe_ix ix_list (pv 0) (pe_op op_mod (pv 1) (pe_callB call_len_seq (by rfl) mlen PySem.boot_len (pa_cons (pv 0) pa_nil))) (fun _ _ => rfl)) pe_int) pe_int))))
          pss_nil)))
      (pss_cons (ps_set (i := 3) nd rfl (Or.inl rfl) (pe_op op_add (pe_op op_mod (pe_op op_pow (pe_op op_add (pe_op op_add (pe_op op_mod (pv 2) pe_int) (pe_op op_mul pe_int (pv 1))) pe_int) pe_int) pe_int) pe_int))
      (pss_one (ps_ret (pe_lst (pa_cons (pe_ix ix_list (pe_lst (pa_cons pe_int (pa_cons (pv 2) pa_nil))) (pe_callTy call_int1 (by rfl) mint (by decide +kernel) (pa_cons (pe_cmpR op_ge (pv 2) (pe_op op_pow pe_int pe_int) (nomark _)) pa_nil)) (fun _ _ => rfl)) (pa_cons (pv 3) pa_nil))))))), ?_⟩
    refine ⟨_, rfl, _, _, rfl, rfl, .inl ⟨by decide, by decide⟩, _, _, rfl, rfl, _, _, rfl, rfl, ⟨by decide, by decide, by omega⟩, _, _, rfl, rfl, (by show (0 : Int) < 2147483647; decide), ?_⟩
    refine ⟨_, rfl, _, rfl, a, _, rfl, .inl hS, _, _, rfl, rfl, _, rfl, ?_⟩
    refine ite2 (fun h1 => ?_) (fun h1 => ?_)
    · have h1 : k < ns.length := by simpa using of_decide_eq_true h1
      obtain ⟨z, ez⟩ := ints_atI k0 h1
      refine ⟨_, rfl, _, rfl, a, _, _, _, rfl, rfl, hS, ez, ?_⟩
      refine ⟨_, rfl, _, _, rfl, rfl, (by show (0 : Int) < 2147483629; decide), _, rfl, _, _, rfl, rfl, .inl ⟨by decide, by decide⟩, _, _, rfl, rfl, _, _, rfl, rfl, _, _, rfl, rfl, ⟨by decide, by decide, pow_ok _ k0 k1⟩, _, _, rfl, rfl, (by show (0 : Int) < 2147483647; decide), _, _, rfl, rfl, ?_⟩
      refine ⟨_, rfl, (by show 2 ≤ sizeLine; decide), fun q nq => ?_⟩
      refine ⟨_, rfl, _, _, rfl, rfl, ⟨by decide, by decide, by decide⟩, _, _, rfl, rfl, .inr ⟨_, rfl, ?_⟩⟩
      refine ⟨q, _, _, _, rfl, rfl, SqL.of upd_same, pick2 _ _ _, _, rfl, (by show 2 ≤ sizeLine; decide), fun p np => ?_⟩
      obtain ⟨e1, e2, e3⟩ := box_end (H := H) nq np (Same.refl H) (seed_ok _).1 (seed_ok _).2
      exact kk p _ e1 e2 e3
    · refine ⟨_, rfl, a, _, rfl, .inl hS, _, _, rfl, rfl, _, rfl, ?_⟩
      refine ite2 (fun h2 => ?_) (fun h2 => ?_)
      · have h2 : (0 : Int) < ns.length := by simpa using of_decide_eq_true h2
        obtain ⟨z, ez⟩ := ints_atI (ns := ns) (Int.emod_nonneg k (show (ns.length : Int) ≠ 0 by omega)) (Int.emod_lt_of_pos k h2)
        refine ⟨_, rfl, _, rfl, _, rfl, _, rfl, a, _, rfl, .inl hS, _, _, rfl, rfl, (by rw [List.length_map]; exact h2), a, _, _, _, rfl, rfl, hS, (by rw [List.length_map]; exact ez), _, _, rfl, rfl, (by show (0 : Int) < 2147483629; decide), _, _, rfl, rfl, .inr ⟨by decide, by decide⟩, _, _, rfl, rfl, ?_⟩
        refine ⟨_, rfl, _, _, rfl, rfl, (by show (0 : Int) < 2147483629; decide), _, rfl, _, _, rfl, rfl, .inl ⟨by decide, by decide⟩, _, _, rfl, rfl, _, _, rfl, rfl, _, _, rfl, rfl, ⟨by decide, by decide, pow_ok _ k0 k1⟩, _, _, rfl, rfl, (by show (0 : Int) < 2147483647; decide), _, _, rfl, rfl, ?_⟩
        refine ⟨_, rfl, (by show 2 ≤ sizeLine; decide), fun q nq => ?_⟩
        refine ⟨_, rfl, _, _, rfl, rfl, ⟨by decide, by decide, by decide⟩, _, _, rfl, rfl, .inr ⟨_, rfl, ?_⟩⟩
        refine ⟨q, _, _, _, rfl, rfl, SqL.of upd_same, pick2 _ _ _, _, rfl, (by show 2 ≤ sizeLine; decide), fun p np => ?_⟩
        obtain ⟨e1, e2, e3⟩ := box_end (H := H) nq np (Same.refl H) (seed_ok _).1 (seed_ok _).2
        exact kk p _ e1 e2 e3
      · 
        refine ⟨_, rfl, _, _, rfl, rfl, (by show (0 : Int) < 2147483629; decide), _, rfl, _, _, rfl, rfl, .inl ⟨by decide, by decide⟩, _, _, rfl, rfl, _, _, rfl, rfl, _, _, rfl, rfl, ⟨by decide, by decide, pow_ok _ k0 k1⟩, _, _, rfl, rfl, (by show (0 : Int) < 2147483647; decide), _, _, rfl, rfl, ?_⟩
        refine ⟨_, rfl, (by show 2 ≤ sizeLine; decide), fun q nq => ?_⟩
        refine ⟨_, rfl, _, _, rfl, rfl, ⟨by decide, by decide, by decide⟩, _, _, rfl, rfl, .inr ⟨_, rfl, ?_⟩⟩
        refine ⟨q, _, _, _, rfl, rfl, SqL.of upd_same, pick2 _ _ _, _, rfl, (by show 2 ≤ sizeLine; decide), fun p np => ?_⟩
        obtain ⟨e1, e2, e3⟩ := box_end (H := H) nq np (Same.refl H) (seed_ok _).1 (seed_ok _).2
        exact kk p _ e1 e2 e3
theorem scShuf : FnScope ["_law_box_here", "_law_many", "_law_left", "_law_k"] ["_law_box_here", "_law_many"] (defScope sShuf) := ⟨rfl, rfl, rfl, by decide +kernel, rfl, by decide +kernel, by decide +kernel⟩
theorem ok_shuf {f fT : Addr} {fd fdT : FuncData} (F : Fun K "_law_shuffled" "_law_shuffled" sShuf f fd) (GT : FnOk P w K mg base CX0 1 fT fdT ["_law_box_here", "_law_wide"] spTake) (bT : Binds K fdT ["_law_box_here", "_law_wide"] []) (mT : mg "_law_take" = some (.ref fT)) (kT : PySem.W.keepIn K (.ref fT) = true)
    (mrange : mg "range" = none) (mlist : mg "list" = none) : FnOk P w K mg base CX0 2 f fd ["_law_box_here", "_law_many"] spShuf := by
  refine F.ok scShuf (fun vs H Q E h => ?_) (fun cdv A outer s H vs Q E hr h => ?_)
  · obtain ⟨p, n, rfl, _⟩ := h
    rfl
  · obtain ⟨p, n, rfl, hb, hn, k⟩ := h
    have nd := scShuf.nd
    refine ⟨_, pss_cons (ps_set (i := 2) nd rfl (Or.inr rfl) (pe_callTy (call_list_rng (by rfl)) (by rfl) mlist (by decide +kernel) (pa_cons (pe_callTy call_rng1 (by rfl) mrange (by decide +kernel) (pa_cons (pv 1) pa_nil)) pa_nil)))
      (pss_one (ps_ret (pe_lc (own := [("_law_k", 3)]) (g := gName 3) (te := tBM K "list" rPopAt (tVar 2) (tCons (tCall spTake [] E0 (tCons (tVar 0) (tCons (tOp (rI0 fun i j => .int (i - j)) (tVar 1) (tVar 3)) tNil))) tNil)) (by rfl) nd (pi_range1 (by rfl) mrange (pa_cons (pv 1) pa_nil)) (blkOk_by (own := [("_law_k", 3)]) (N := ["_law_box_here", "_law_many", "_law_left", "_law_k"]) (sc := defScope sShuf) (by decide +kernel))
        (fun _ _ _ _ _ => pg_name (i := 3) nd rfl (Or.inl rfl)) (fun _ _ _ _ _ => pts_nil)
        (fun _ _ _ _ _ => by exact pe_bm PySem.F.plainAttrs_list PySem.F.slot_list_pop PySem.F.type_list_pop mt_popAt (pv 2) (pa_cons (pe_call GT hr (by rfl) mT kT bT .nil pass0 (pa_cons (pv 0) (pa_cons (pe_op op_sub (pv 1) (pv 3)) pa_nil))) pa_nil))))), ?_⟩
    refine ⟨_, rfl, _, rfl, fun r0 n0 => ⟨r0, n, rfl, upd_same, by omega, fun L nL => ?_⟩⟩
    have s1 := (Step.refl hb).new (o := .rng 0 n) n0
    have neL : L ≠ p := s1.box.ne nL
    have nLH : H L = none := s1.free nL
    have s2 := s1.new (o := .lst (natsV n)) nL
    refine ⟨_, rfl, _, rfl, by omega, by omega, fun D nD => ?_⟩
    have neD : D ≠ p := s2.box.ne nD
    have nDH : H D = none := s2.free nD
    have neDL : D ≠ L := fun z => by rw [z, upd_same] at nD; cases nD
    refine lc_range (lo := 0) (n := _) (fun i H1 => Step p H H1 ∧ ∃ rest done : List Nat, H1 L = some (.lst (rest.map natV)) ∧ H1 D = some (.lst (done.map natV)) ∧ (done ++ rest).Perm (List.range n) ∧ done.length = i)
      ⟨s2.new nD, List.range n, [], (by rw [upd_ne neDL.symm, upd_same, natsV_eq]), upd_same, List.Perm.refl _, rfl⟩ ?_ ?_
    · rintro i H1 hi ⟨s3, rest, done, hL, hD, hp, hl⟩
      have hi' : i < n := by omega
      have lens : done.length + rest.length = n := by
        have := hp.length_eq
        rw [List.length_append, List.length_range] at this
        exact this
      refine ⟨rfl, ?_⟩
      dsimp only [tYes]
      rw [if_pos rfl]
      obtain ⟨xa, xb, hx, hx0, hx1⟩ := s3.box.ex
      refine ⟨_, rfl, .inl ⟨rfl, _, SqL.of hL⟩, _, rfl, _, rfl, _, rfl, _, _, rfl, rfl, p, xa, xb, _, rfl, hx, hx0, hx1, by omega, by omega, fun r a' b' r0 r1 c0 c1 => ?_⟩
      have s4 := s3.take (x := a') c0 c1
      have hrl : r.toNat < rest.length := by omega
      have hy : rest[r.toNat]? = some rest[r.toNat] := List.getElem?_eq_getElem hrl
      refine ⟨L, _, r, r.toNat, _, rfl, rfl, (by rw [upd_ne neL]; exact hL), by omega, by omega, ?_, natV_get hy, ?_⟩
      · rw [List.length_map]
        exact (ixN_seq (ixN_nat (by omega) hrl)).1
      · have s5 := (s4.put (o := .lst ((rest.map natV).eraseIdx r.toNat)) nLH neL)
        refine ⟨done.map natV, (by rw [upd_ne neDL, upd_ne neD]; exact hD), (by rw [List.length_map, hl, sizeLine_eq]; omega), s5.put nDH neD, rest.eraseIdx r.toNat, done ++ [rest[r.toNat]], (by rw [upd_ne neDL.symm, upd_same, erase_map]), (by rw [List.map_append]; exact upd_same), perm_pop hp hy, (by rw [List.length_append, hl]; rfl)⟩
    · rintro H1 ⟨s3, rest, done, hL, hD, hp, hl⟩
      have lens : done.length + rest.length = n := by
        have := hp.length_eq
        rw [List.length_append, List.length_range] at this
        exact this
      have e : rest = [] := List.length_eq_zero_iff.mp (by omega)
      subst e
      rw [List.append_nil] at hp
      exact k D done H1 nDH s3 hD hp
end
end NH
set_option Elab.async false
set_option linter.all false
set_option maxRecDepth 100000
set_option maxHeartbeats 4000000
namespace NH
open PySem L2
abbrev End := Nat × Nat
abbrev Tie := End × End
def endsOf (t : Tie) : List End := if t.1 = t.2 then [t.1] else [t.1, t.2]
def ends (ties : List Tie) : List End := ties.flatMap endsOf
structure EndsOk (n room : Nat) (es : List End) (cnt : List Nat) : Prop where
  len : cnt.length = n
  le : ∀ (h c : Nat), cnt[h]? = some c → c ≤ room
  nd : es.Nodup
  mem : ∀ h s, (h, s) ∈ es ↔ ∃ c, cnt[h]? = some c ∧ s < c
theorem set_get {l : List Nat} {i j x : Nat} {c : Nat} (h : (l.set i x)[j]? = some c) : (j = i ∧ c = x) ∨ (j ≠ i ∧ l[j]? = some c) := by
  by_cases e : i = j
  · subst e
    have hl : i < l.length := by
      have := (List.getElem?_eq_some_iff.mp h).1
      simpa using this
    rw [List.getElem?_set_self hl] at h
    exact .inl ⟨rfl, (Option.some.inj h).symm⟩
  · rw [List.getElem?_set_ne e] at h
    exact .inr ⟨fun z => e z.symm, h⟩
theorem EndsOk.add {n room : Nat} {es : List End} {cnt : List Nat} {g c : Nat} (k : EndsOk n room es cnt) (hc : cnt[g]? = some c) (hr : c < room) : EndsOk n room (es ++ [(g, c)]) (cnt.set g (c + 1)) := by
  have hl : g < cnt.length := (List.getElem?_eq_some_iff.mp hc).1
  have hs : (cnt.set g (c + 1))[g]? = some (c + 1) := List.getElem?_set_self hl
  refine ⟨by rw [List.length_set, k.len], fun h d e => ?_, ?_, fun h s => ?_⟩
  · rcases set_get e with ⟨_, z⟩ | ⟨_, z⟩
    · omega
    · exact k.le h d z
  · refine nd_snoc k.nd fun m => ?_
    obtain ⟨d, e, hd⟩ := (k.mem g c).mp m
    rw [hc] at e
    cases e
    exact Nat.lt_irrefl _ hd
  · rw [List.mem_append, List.mem_singleton, k.mem]
    constructor
    · rintro (⟨d, e, hd⟩ | e)
      · by_cases z : g = h
        · subst z
          rw [hc] at e
          cases e
          exact ⟨_, hs, by omega⟩
        · exact ⟨d, by rw [List.getElem?_set_ne z]; exact e, hd⟩
      · cases e
        exact ⟨_, hs, by omega⟩
    · rintro ⟨d, e, hd⟩
      rcases set_get e with ⟨z, y⟩ | ⟨z, y⟩
      · subst z y
        by_cases q : s = c
        · exact .inr (by rw [q])
        · exact .inl ⟨c, hc, by omega⟩
      · exact .inl ⟨d, y, hd⟩
structure TiesOk (n room : Nat) (ties : List Tie) (cnt : List Nat) : Prop where
  ok : EndsOk n room (ends ties) cnt
theorem ends_snoc (ties : List Tie) (t : Tie) : ends (ties ++ [t]) = ends ties ++ endsOf t := by
  unfold ends
  rw [List.flatMap_append]
  simp
theorem TiesOk.nil (n room : Nat) : TiesOk n room [] (List.replicate n 0) := by
  refine ⟨⟨List.length_replicate, fun h c e => ?_, List.nodup_nil, fun h s => ?_⟩⟩
  · have := List.getElem?_eq_some_iff.mp e
    obtain ⟨_, z⟩ := this
    rw [List.getElem_replicate] at z
    omega
  · constructor
    · intro z
      exact absurd z (by simp [ends])
    · rintro ⟨c, e, hc⟩
      obtain ⟨_, z⟩ := List.getElem?_eq_some_iff.mp e
      rw [List.getElem_replicate] at z
      omega
section
variable {n room : Nat} {ties : List Tie} {cnt : List Nat} {g h c d : Nat}
theorem TiesOk.self (k : TiesOk n room ties cnt) (hc : cnt[g]? = some c) (hr : c < room) : TiesOk n room (ties ++ [((g, c), (g, c))]) (cnt.set g (c + 1)) := by
  refine ⟨?_⟩
  rw [ends_snoc, show endsOf ((g, c), (g, c)) = [(g, c)] from if_pos rfl]
  exact k.ok.add hc hr
theorem TiesOk.own (k : TiesOk n room ties cnt) (hc : cnt[g]? = some c) (hr : c + 1 < room) : TiesOk n room (ties ++ [((g, c), (g, c + 1))]) ((cnt.set g (c + 1)).set g (c + 1 + 1)) := by
  refine ⟨?_⟩
  have hl : g < cnt.length := (List.getElem?_eq_some_iff.mp hc).1
  have ne : ¬ ((g, c) : End) = (g, c + 1) := fun z => by
    have := congrArg Prod.snd z
    simp at this
  rw [ends_snoc, show endsOf ((g, c), (g, c + 1)) = [(g, c), (g, c + 1)] from if_neg ne]
  rw [show [((g, c) : End), (g, c + 1)] = [(g, c)] ++ [(g, c + 1)] from rfl, ← List.append_assoc]
  exact (k.ok.add hc (by omega)).add (List.getElem?_set_self hl) hr
theorem TiesOk.two (k : TiesOk n room ties cnt) (hgh : g ≠ h) (hc : cnt[g]? = some c) (hd : cnt[h]? = some d) (hr : c < room) (hr2 : d < room) : TiesOk n room (ties ++ [((g, c), (h, d))]) ((cnt.set h (d + 1)).set g (c + 1)) := by
  refine ⟨?_⟩
  have ne : ¬ ((g, c) : End) = (h, d) := fun z => hgh (congrArg Prod.fst z)
  rw [ends_snoc, show endsOf ((g, c), (h, d)) = [(g, c), (h, d)] from if_neg ne]
  rw [show [((g, c) : End), (h, d)] = [(g, c)] ++ [(h, d)] from rfl, ← List.append_assoc, List.set_comm _ _ hgh.symm]
  exact (k.ok.add hc hr).add (by rw [List.getElem?_set_ne hgh]; exact hd) hr2
theorem TiesOk.tree (k : TiesOk n room ties cnt) (hgh : h ≠ g) (hc : cnt[g]? = some c) (hd : cnt[h]? = some 0) (hr : c < room) (hr2 : 0 < room) : TiesOk n room (ties ++ [((h, 0), (g, c))]) ((cnt.set h 1).set g (c + 1)) := by
  refine ⟨?_⟩
  have ne : ¬ ((h, 0) : End) = (g, c) := fun z => hgh (congrArg Prod.fst z)
  rw [ends_snoc, show endsOf ((h, 0), (g, c)) = [(h, 0), (g, c)] from if_neg ne]
  rw [show [((h, 0) : End), (g, c)] = [(h, 0)] ++ [(g, c)] from rfl, ← List.append_assoc]
  exact (k.ok.add hd hr2).add (by rw [List.getElem?_set_ne hgh]; exact hc) hr
end
theorem sum_setN : ∀ {l : List Nat} {j z y : Nat}, l[j]? = some z → (l.set j y).sum + z = l.sum + y
  | [], j, z, y, h => by simp at h
  | a :: r, 0, z, y, h => by
    have e : a = z := by simpa using h
    subst e
    show (y :: r).sum + a = (a :: r).sum + y
    rw [List.sum_cons, List.sum_cons]
    omega
  | a :: r, j + 1, z, y, h => by
    have ih := sum_setN (l := r) (j := j) (z := z) (y := y) (by simpa using h)
    show (a :: r.set j y).sum + z = (a :: r).sum + y
    rw [List.sum_cons, List.sum_cons]
    omega
theorem sum_two : ∀ {h : Nat} {l : List Nat}, (∀ g, g < h → ∃ c, l[g]? = some c ∧ 2 ≤ c) → 2 * h ≤ l.sum
  | 0, _, _ => Nat.zero_le _
  | h + 1, [], k => by
    obtain ⟨c, e, _⟩ := k 0 (by omega)
    simp at e
  | h + 1, a :: r, k => by
    obtain ⟨c, e, hc⟩ := k 0 (by omega)
    have ea : a = c := by simpa using e
    have ih := sum_two (h := h) (l := r) fun g hg => by
      obtain ⟨c, e, hc⟩ := k (g + 1) (by omega)
      exact ⟨c, by simpa using e, hc⟩
    rw [List.sum_cons]
    omega
theorem room_left {room h : Nat} {l : List Nat} (hr : 2 ≤ room) (hl : h ≤ l.length) (hs : l.sum < 2 * h) : ∃ g c, g < h ∧ l[g]? = some c ∧ c < room := by
  apply Classical.byContradiction
  intro no
  have := sum_two (h := h) (l := l) fun g hg => by
    have hgl : g < l.length := by omega
    refine ⟨l[g], List.getElem?_eq_getElem hgl, ?_⟩
    apply Classical.byContradiction
    intro lt
    exact no ⟨g, l[g], hg, List.getElem?_eq_getElem hgl, by omega⟩
  omega
def Tree (n : Nat) (ties : List Tie) : Prop := ∀ h, 0 < h → h < n → ∃ g s t, g < h ∧ ((h, s), (g, t)) ∈ ties
theorem Tree.more {n : Nat} {ties : List Tie} {t : Tie} (k : Tree n ties) : Tree n (ties ++ [t]) := fun h h0 h1 => by
  obtain ⟨g, s, t', hg, m⟩ := k h h0 h1
  exact ⟨g, s, t', hg, List.mem_append_left _ m⟩
def PairN (H : Hp) (a : Addr) (e : End) : Prop := H a = some (.tup [natV e.1, natV e.2])
def TieAt (H : Hp) (a : Addr) (t : Tie) : Prop := ∃ x y, H a = some (.tup [.ref x, .ref y]) ∧ PairN H x t.1 ∧ PairN H y t.2
def Tups (H H' : Hp) : Prop := ∀ b xs, H b = some (.tup xs) → H' b = some (.tup xs)
theorem Tups.trans {H H1 H2 : Hp} (a : Tups H H1) (b : Tups H1 H2) : Tups H H2 := fun c xs e => b c xs (a c xs e)
theorem sTups {H H' : Hp} (s : Same H H') : Tups H H' := fun b xs e => s b _ e
theorem Step.tups {p : Addr} {H H' : Hp} (s : Step p H H') (hb : BoxAt H p) : Tups H H' := fun b xs e => s.keep b _ (fun z => by
  obtain ⟨_, _, e', _⟩ := hb.ex
  rw [z, e'] at e
  cases e) e
theorem tups_lst {H : Hp} {l : Addr} {xs : List V} {o : HO} (h : H l = some (.lst xs)) : Tups H (upd H l o) := fun b ys e => by
  rw [upd_ne (ne_of e h (fun z => nomatch z))]
  exact e
theorem TieAt.tups {H H' : Hp} {a : Addr} {t : Tie} (s : Tups H H') (h : TieAt H a t) : TieAt H' a t := by
  obtain ⟨x, y, e, e1, e2⟩ := h
  exact ⟨x, y, s _ _ e, s _ _ e1, s _ _ e2⟩
theorem paired_snoc {α β : Type} {R : α → β → Prop} {x : α} {y : β} (r : R x y) : ∀ {xs : List α} {ys : List β}, Paired R xs ys → Paired R (xs ++ [x]) (ys ++ [y])
  | _, _, .nil => .cons r .nil
  | _, _, .cons q t => .cons q (paired_snoc r t)
theorem paired_get {α β : Type} {R : α → β → Prop} : ∀ {xs : List α} {ys : List β} {i : Nat} {x : α}, Paired R xs ys → xs[i]? = some x → ∃ y, ys[i]? = some y ∧ R x y
  | _, _, _, _, .nil, e => by simp at e
  | _, _, 0, _, .cons r _, e => by simp at e; subst e; exact ⟨_, rfl, r⟩
  | _, _, i + 1, x, .cons _ t, e => by
    obtain ⟨u, h1, h2⟩ := paired_get (i := i) (x := x) t (by simpa using e)
    exact ⟨u, by simpa using h1, h2⟩
theorem paired_get' {α β : Type} {R : α → β → Prop} : ∀ {xs : List α} {ys : List β} {i : Nat} {y : β}, Paired R xs ys → ys[i]? = some y → ∃ x, xs[i]? = some x ∧ R x y
  | _, _, _, _, .nil, e => by simp at e
  | _, _, 0, _, .cons r _, e => by simp at e; subst e; exact ⟨_, rfl, r⟩
  | _, _, i + 1, x, .cons _ t, e => by
    obtain ⟨u, h1, h2⟩ := paired_get' (i := i) (y := x) t (by simpa using e)
    exact ⟨u, by simpa using h1, h2⟩
theorem take_snoc {α : Type} {l : List α} {i : Nat} {d : α} (h : l[i]? = some d) : l.take (i + 1) = l.take i ++ [d] := by
  rw [List.take_add_one, h]
  rfl
structure TiesAt (H : Hp) (l : Addr) (ties : List Tie) : Prop where
  ex : ∃ as : List Addr, H l = some (.lst (as.map V.ref)) ∧ Paired (TieAt H) as ties
theorem TiesAt.put {H H' : Hp} {l a : Addr} {as : List Addr} {ties : List Tie} {t : Tie} (e : H l = some (.lst (as.map V.ref))) (h : Paired (TieAt H) as ties) (s : Tups H H') (ht : TieAt H' a t) (hl : H' l = some (.lst (as.map V.ref ++ [.ref a]))) : TiesAt H' l (ties ++ [t]) := by
  refine ⟨as ++ [a], by rw [List.map_append]; exact hl, ?_⟩
  exact paired_snoc (R := TieAt H') ht (Paired.mapP h fun _ _ q => q.tups s)
def spTies : Sp := fun vs H Q _ => ∃ (p : Addr) (n room : Nat), vs = [.ref p, natV n, natV room] ∧ BoxAt H p ∧ 1 ≤ n ∧ n ≤ 1000 ∧ 2 ≤ room ∧ room ≤ 1000 ∧
  ∀ (r lt lc : Addr) (ties : List Tie) (cnt : List Nat) (H' : Hp), H r = none → Step p H H' → H' r = some (.tup [.ref lt, .ref lc]) → H lt = none → H lc = none → TiesAt H' lt ties → H' lc = some (.lst (cnt.map natV)) →
    TiesOk n room ties cnt → Tree n ties → Q (.ref r) H'
end NH
set_option Elab.async false
set_option linter.all false
set_option maxRecDepth 100000
set_option maxHeartbeats 4000000
namespace NH
open PySem L2
abbrev sTies : Stmt := top 12
structure Sel (cnt : List Nat) (room i : Nat) (sel : List Nat) : Prop where
  len : sel.length ≤ i
  has : ∀ x ∈ sel, x < i ∧ ∃ c, cnt[x]? = some c ∧ c < room
  all : ∀ g c, g < i → cnt[g]? = some c → c < room → g ∈ sel
theorem Sel.nil (cnt : List Nat) (room : Nat) : Sel cnt room 0 [] := ⟨Nat.le_refl _, (fun x hx => nomatch hx), fun g c h => absurd h (Nat.not_lt_zero _)⟩
theorem Sel.yes {cnt : List Nat} {room i c : Nat} {sel : List Nat} (s : Sel cnt room i sel) (e : cnt[i]? = some c) (h : c < room) : Sel cnt room (i + 1) (sel ++ [i]) := by
  refine ⟨by rw [List.length_append]; have := s.len; show sel.length + 1 ≤ i + 1; omega, fun x hx => ?_, fun g d hg ed hd => ?_⟩
  · rcases List.mem_append.mp hx with z | z
    · obtain ⟨a, b⟩ := s.has x z
      exact ⟨by omega, b⟩
    · rw [List.mem_singleton.mp z]
      exact ⟨by omega, c, e, h⟩
  · by_cases q : g = i
    · exact List.mem_append_right _ (by rw [q]; exact List.mem_singleton.mpr rfl)
    · exact List.mem_append_left _ (s.all g d (by omega) ed hd)
theorem Sel.no {cnt : List Nat} {room i c : Nat} {sel : List Nat} (s : Sel cnt room i sel) (e : cnt[i]? = some c) (h : ¬ c < room) : Sel cnt room (i + 1) sel := by
  refine ⟨Nat.le_succ_of_le s.len, fun x hx => ?_, fun g d hg ed hd => ?_⟩
  · obtain ⟨a, b⟩ := s.has x hx
    exact ⟨by omega, b⟩
  · refine s.all g d ?_ ed hd
    rcases Nat.lt_succ_iff_lt_or_eq.mp hg with q | q
    · exact q
    · subst q
      rw [e] at ed
      cases ed
      exact absurd hd h
abbrev nTies : List Str := ["_law_box_here", "_law_many", "_law_room", "_law_count", "_law_ties_here", "_law_h", "_law_g", "_law_some", "_law_k", "_law_form"]
section
variable {P : Program} {w : World} {K : PySem.W.Frag} {mg : Str → Option Value} {base : Heap}
theorem scTies : FnScope nTies ["_law_box_here", "_law_many", "_law_room"] (defScope sTies) := ⟨rfl, rfl, rfl, by decide +kernel, rfl, by decide +kernel, by decide +kernel⟩
abbrev ttSel (K : PySem.W.Frag) : TT := tTest (tOp (rI0 fun i j => .bl (decide (i < j))) (tOp (rIxL K) (tVar 3) (tVar 6)) (tVar 2))
theorem sel_lc {σ : St} {H1 : Hp} {Lc D : Addr} {cnt : List Nat} {room m : Nat} {Qd : Hp → Prop} (h3 : σ[3]? = some (some (.ref Lc))) (h2 : σ[2]? = some (some (natV room))) (h6 : 6 < σ.length) (hL : H1 Lc = some (.lst (cnt.map natV))) (hm : m ≤ cnt.length) (hm2 : m ≤ 1000) (nD : H1 D = none)
    (k : ∀ sel H2, Same H1 H2 → H2 D = some (.lst (sel.map natV)) → Sel cnt room m sel → Qd H2) :
    ∃ W : Nat → Nat → Hp → Prop, (∃ m, W 0 m (upd H1 D (.lst []))) ∧ ∀ i m' H, W i m' H →
      ((Itr 0 m).stop i H ∧ Qd H) ∨ ((Itr 0 m).go i H ∧ ∃ Nx : Hp → Prop, (∀ H', Nx H' → ∃ m'', m'' < m' ∧ W (i + 1) m'' H') ∧ ∀ x H', (Itr 0 m).yld i H x H' → gName 6 x (wipe σ [6]) H' fun σ2 H2 => wipe σ2 [6] = wipe σ [6] ∧ ttSel K σ2 H2 fun b H3 =>
        if b = true then tVar 6 σ2 H3 fun y H4 => ∃ acc, H4 D = some (.lst acc) ∧ acc.length < sizeLine ∧ Nx (upd H4 D (.lst (acc ++ [y]))) else Nx H3) := by
  have neD : Lc ≠ D := ne_of_none hL nD
  refine lc_range (lo := 0) (n := m) (σ := σ) (vs := [6]) (te := tVar 6) (tt := ttSel K) (g := gName 6) (fun i H2 => Same H1 H2 ∧ ∃ sel, H2 D = some (.lst (sel.map natV)) ∧ Sel cnt room i sel) ⟨same_new nD, [], upd_same, Sel.nil _ _⟩ ?_ ?_
  · rintro i H2 hi ⟨s2, sel, hD, hs⟩
    obtain ⟨c, ec⟩ : ∃ c, cnt[i]? = some c := ⟨cnt[i], List.getElem?_eq_getElem (by omega)⟩
    have e3 : ((σ.set 6 none).set 6 (some (.int (0 + (i : Int)))))[3]? = some (some (.ref Lc)) := by
      rw [List.getElem?_set_ne (by decide), List.getElem?_set_ne (by decide)]; exact h3
    have e2 : ((σ.set 6 none).set 6 (some (.int (0 + (i : Int)))))[2]? = some (some (natV room)) := by
      rw [List.getElem?_set_ne (by decide), List.getElem?_set_ne (by decide)]; exact h2
    have e6 : ((σ.set 6 none).set 6 (some (.int (0 + (i : Int)))))[6]? = some (some (.int (0 + (i : Int)))) := List.getElem?_set_self (by rw [List.length_set]; exact h6)
    refine ⟨?_, ?_⟩
    · show ((σ.set 6 none).set 6 (some (.int (0 + (i : Int))))).set 6 none = σ.set 6 none
      rw [List.set_set, List.set_set]
    · refine ⟨_, e3, _, e6, Lc, _, _, _, rfl, rfl, SqL.of (s2 _ _ hL), natV_at (by omega) ec, _, e2, _, _, rfl, rfl, _, rfl, ?_⟩
      refine ite2 (fun h => ?_) (fun h => ?_)
      · have h' : c < room := by
          have := of_decide_eq_true h
          omega
        refine ⟨_, e6, _, hD, (by rw [List.length_map, sizeLine_eq]; have := hs.len; omega), fun b o e => ?_, sel ++ [i], ?_, hs.yes ec h'⟩
        · rw [upd_ne (ne_of_none e nD)]
          exact s2 _ _ e
        · rw [upd_same, List.map_append]
          show _ = some (HO.lst (sel.map natV ++ [V.int ((i : Nat) : Int)]))
          rw [Int.zero_add]
      · have h' : ¬ c < room := fun z => h (decide_eq_true (by omega))
        exact ⟨s2, sel, hD, hs.no ec h'⟩
  · rintro H2 ⟨s2, sel, hD, hs⟩
    exact k sel H2 s2 hD hs
theorem app_tie {p Lt Lc t1 t2 t3 : Addr} {H H8 : Hp} {as : List Addr} {ties : List Tie} {cnt : List Nat} {x y : End} (s8 : Step p H H8) (hLc : H8 Lc = some (.lst (cnt.map natV))) (hLt : H8 Lt = some (.lst (as.map V.ref))) (hP : Paired (TieAt H8) as ties)
    (nLt : H Lt = none) (neLt : Lt ≠ p) (neLL : Lt ≠ Lc) (m1 : H8 t1 = none) (m2 : (upd H8 t1 (.tup [natV x.1, natV x.2])) t2 = none) (m3 : (upd (upd H8 t1 (.tup [natV x.1, natV x.2])) t2 (.tup [natV y.1, natV y.2])) t3 = none) :
    (upd (upd (upd H8 t1 (.tup [natV x.1, natV x.2])) t2 (.tup [natV y.1, natV y.2])) t3 (.tup [.ref t1, .ref t2])) Lt = some (.lst (as.map V.ref)) ∧
    Step p H (upd (upd (upd (upd H8 t1 (.tup [natV x.1, natV x.2])) t2 (.tup [natV y.1, natV y.2])) t3 (.tup [.ref t1, .ref t2])) Lt (.lst (as.map V.ref ++ [.ref t3]))) ∧
    (upd (upd (upd (upd H8 t1 (.tup [natV x.1, natV x.2])) t2 (.tup [natV y.1, natV y.2])) t3 (.tup [.ref t1, .ref t2])) Lt (.lst (as.map V.ref ++ [.ref t3]))) Lc = some (.lst (cnt.map natV)) ∧
    TiesAt (upd (upd (upd (upd H8 t1 (.tup [natV x.1, natV x.2])) t2 (.tup [natV y.1, natV y.2])) t3 (.tup [.ref t1, .ref t2])) Lt (.lst (as.map V.ref ++ [.ref t3]))) Lt (ties ++ [(x, y)]) := by
  have s67 := ((same_new (o := .tup [natV x.1, natV x.2]) m1).trans (same_new (o := .tup [natV y.1, natV y.2]) m2)).trans (same_new (o := .tup [.ref t1, .ref t2]) m3)
  have e1 := ((same_new (o := .tup [natV y.1, natV y.2]) m2).trans (same_new (o := .tup [.ref t1, .ref t2]) m3)) t1 _ upd_same
  have e2 := (same_new (o := .tup [.ref t1, .ref t2]) m3) t2 _ (upd_same (H := upd H8 t1 (.tup [natV x.1, natV x.2])) (o := .tup [natV y.1, natV y.2]))
  have e3 : (upd (upd (upd H8 t1 (.tup [natV x.1, natV x.2])) t2 (.tup [natV y.1, natV y.2])) t3 (.tup [.ref t1, .ref t2])) t3 = some (.tup [.ref t1, .ref t2]) := upd_same
  generalize (upd (upd (upd H8 t1 (.tup [natV x.1, natV x.2])) t2 (.tup [natV y.1, natV y.2])) t3 (.tup [.ref t1, .ref t2])) = H7 at s67 e1 e2 e3 ⊢
  have hLt7 := s67 _ _ hLt
  have tt8 := tups_lst (o := .lst (as.map V.ref ++ [.ref t3])) hLt7
  refine ⟨hLt7, (s8.same s67).put nLt neLt, by rw [upd_ne neLL.symm]; exact s67 _ _ hLc, ?_⟩
  exact TiesAt.put hLt hP ((sTups s67).trans tt8) ⟨t1, t2, tt8 _ _ e3, tt8 _ _ e1, tt8 _ _ e2⟩ upd_same
theorem rep0 (n : Nat) : (List.replicate n [V.int 0]).flatten = (List.replicate n 0).map natV := by
  induction n with
  | zero => rfl
  | succ n ih => rw [List.replicate_succ, List.replicate_succ, List.flatten_cons, ih]; rfl
theorem ok_ties {f fT : Addr} {fd fdT : FuncData} (F : Fun K "_law_ties" "_law_ties" sTies f fd) (GT : FnOk P w K mg base CX0 1 fT fdT ["_law_box_here", "_law_wide"] spTake) (bT : Binds K fdT ["_law_box_here", "_law_wide"] []) (mT : mg "_law_take" = some (.ref fT)) (kT : PySem.W.keepIn K (.ref fT) = true)
    (mrange : mg "range" = none) (mlen : mg "len" = none) : FnOk P w K mg base CX0 2 f fd ["_law_box_here", "_law_many", "_law_room"] spTies := by
  refine F.ok scTies (fun vs H Q E h => ?_) (fun cdv A outer s H vs Q E hr h => ?_)
  · obtain ⟨p, n, room, rfl, _⟩ := h
    rfl
  · obtain ⟨p, n, room, rfl, hb, n0, n1, r0, r1, k⟩ := h
    have nd := scTies.nd
    refine ⟨_, pss_cons (ps_set (i := 3) nd rfl (Or.inr rfl) (pe_op op_rep (pe_lst (pa_cons pe_int pa_nil)) (pv 1)))
      (pss_cons (ps_set (i := 4) nd rfl (Or.inl rfl) (pe_lst pa_nil))
      (pss_cons (ps_for PassesOwn.never rfl (pi_range2 (by rfl) mrange (pa_cons pe_int (pa_cons (pv 1) pa_nil))) (pg_name (i := 5) nd rfl (Or.inl rfl))
        (pss_cons (ps_setLc (i := 7) (own := [("_law_g", 6)]) (g := gName 6) (tt := ttSel K) (te := tVar 6) (by rfl) nd rfl rfl (sw_true rfl rfl rfl (by decide +kernel)) (pi_range1 (by rfl) mrange (pa_cons (pv 5) pa_nil)) (blkOk_by (own := [("_law_g", 6)]) (N := nTies) (sc := defScope sTies) (by decide +kernel))
          (fun _ _ _ _ _ => pg_name (i := 6) nd rfl (Or.inl rfl)) (fun _ _ _ _ _ => pts_one (pt_cmpR op_lt (pe_ix ix_list (pv 3) (pv 6) (fun _ _ => rfl)) (pv 2) (nomark _))) (fun _ _ _ _ _ => pv 6))
        (pss_cons (ps_set (i := 6) nd rfl (Or.inl rfl) (pe_ix ix_list (pv 7) (pe_call GT hr (by rfl) mT kT bT .nil pass0 (pa_cons (pv 0) (pa_cons (pe_callB call_len_seq (by rfl) mlen PySem.boot_len (pa_cons (pv 7) pa_nil)) pa_nil))) (fun _ _ => rfl)))
        (pss_cons (ps_expr (pe_bm PySem.F.plainAttrs_list PySem.F.slot_list_append PySem.F.type_list_append mt_append (pv 4) (pa_cons (pe_tup (pa_cons (pe_tup (pa_cons (pv 5) (pa_cons pe_int pa_nil))) (pa_cons (pe_tup (pa_cons (pv 6) (pa_cons (pe_ix ix_list (pv 3) (pv 6) (fun _ _ => rfl)) pa_nil))) pa_nil))) pa_nil)))
        (pss_one (ps_asg (pe_tup (pa_cons pe_int (pa_cons (pe_op op_add (pe_ix ix_list (pv 3) (pv 6) (fun _ _ => rfl)) pe_int) pa_nil))) (pg_tup (by rfl) (pgs_cons (pg_sub (pv 3) (pv 5) set_list) (pgs_cons (pg_sub (pv 3) (pv 6) set_list) pgs_nil)))))))))
      (pss_cons (ps_for PassesOwn.never rfl (pi_range1 (by rfl) mrange (pa_cons (pe_call GT hr (by rfl) mT kT bT .nil pass0 (pa_cons (pv 0) (pa_cons pe_int pa_nil))) pa_nil)) (pg_name (i := 8) nd rfl (Or.inl rfl))
        (pss_cons (ps_setLc (i := 7) (own := [("_law_g", 6)]) (g := gName 6) (tt := ttSel K) (te := tVar 6) (by rfl) nd rfl rfl (sw_true rfl rfl rfl (by decide +kernel)) (pi_range1 (by rfl) mrange (pa_cons (pv 1) pa_nil)) (blkOk_by (own := [("_law_g", 6)]) (N := nTies) (sc := defScope sTies) (by decide +kernel))
          (fun _ _ _ _ _ => pg_name (i := 6) nd rfl (Or.inl rfl)) (fun _ _ _ _ _ => pts_one (pt_cmpR op_lt (pe_ix ix_list (pv 3) (pv 6) (fun _ _ => rfl)) (pv 2) (nomark _))) (fun _ _ _ _ _ => pv 6))
        (pss_one (ps_if (pt_cmpR op_gt (pe_callB call_len_seq (by rfl) mlen PySem.boot_len (pa_cons (pv 7) pa_nil)) pe_int (nomark _))
          (pss_cons (ps_set (i := 9) nd rfl (Or.inl rfl) (pe_call GT hr (by rfl) mT kT bT .nil pass0 (pa_cons (pv 0) (pa_cons pe_int pa_nil))))
          (pss_cons (ps_par (i := 6) (j := 5) (by rfl) nd rfl rfl (by decide) rfl rfl (pa_cons (pe_ix ix_list (pv 7) (pe_call GT hr (by rfl) mT kT bT .nil pass0 (pa_cons (pv 0) (pa_cons (pe_callB call_len_seq (by rfl) mlen PySem.boot_len (pa_cons (pv 7) pa_nil)) pa_nil))) (fun _ _ => rfl))
            (pa_cons (pe_ix ix_list (pv 7) (pe_call GT hr (by rfl) mT kT bT .nil pass0 (pa_cons (pv 0) (pa_cons (pe_callB call_len_seq (by rfl) mlen PySem.boot_len (pa_cons (pv 7) pa_nil)) pa_nil))) (fun _ _ => rfl)) pa_nil)) (by rfl))
          (pss_cons (ps_if (PW.pt (pw_or (pt_cmpR op_eq (pv 9) pe_int (nomark _)) (pw_or1 (PW.pt (pw_and (pt_cmpR op_eq (pv 6) (pv 5) (nomark _)) (pw_and1 (pt_cmpR op_eq (pe_op op_add (pe_ix ix_list (pv 3) (pv 6) (fun _ _ => rfl)) pe_int) (pv 2) (nomark _))))))))
            (pss_cons (ps_set (i := 5) nd rfl (Or.inl rfl) (pv 6))
            (pss_one (ps_expr (pe_bm PySem.F.plainAttrs_list PySem.F.slot_list_append PySem.F.type_list_append mt_append (pv 4) (pa_cons (pe_tup (pa_cons (pe_tup (pa_cons (pv 6) (pa_cons (pe_ix ix_list (pv 3) (pv 6) (fun _ _ => rfl)) pa_nil))) (pa_cons (pe_tup (pa_cons (pv 6) (pa_cons (pe_ix ix_list (pv 3) (pv 6) (fun _ _ => rfl)) pa_nil))) pa_nil))) pa_nil)))))
            (pss_one (ps_if (pt_cmpR op_eq (pv 6) (pv 5) (nomark _))
              (pss_cons (ps_expr (pe_bm PySem.F.plainAttrs_list PySem.F.slot_list_append PySem.F.type_list_append mt_append (pv 4) (pa_cons (pe_tup (pa_cons (pe_tup (pa_cons (pv 6) (pa_cons (pe_ix ix_list (pv 3) (pv 6) (fun _ _ => rfl)) pa_nil))) (pa_cons (pe_tup (pa_cons (pv 6) (pa_cons (pe_op op_add (pe_ix ix_list (pv 3) (pv 6) (fun _ _ => rfl)) pe_int) pa_nil))) pa_nil))) pa_nil)))
              (pss_one (ps_asg (pe_op op_add (pe_ix ix_list (pv 3) (pv 6) (fun _ _ => rfl)) pe_int) (pg_sub (pv 3) (pv 6) set_list))))
              (pss_cons (ps_expr (pe_bm PySem.F.plainAttrs_list PySem.F.slot_list_append PySem.F.type_list_append mt_append (pv 4) (pa_cons (pe_tup (pa_cons (pe_tup (pa_cons (pv 6) (pa_cons (pe_ix ix_list (pv 3) (pv 6) (fun _ _ => rfl)) pa_nil))) (pa_cons (pe_tup (pa_cons (pv 5) (pa_cons (pe_ix ix_list (pv 3) (pv 5) (fun _ _ => rfl)) pa_nil))) pa_nil))) pa_nil)))
              (pss_one (ps_asg (pe_op op_add (pe_ix ix_list (pv 3) (pv 5) (fun _ _ => rfl)) pe_int) (pg_sub (pv 3) (pv 5) set_list)))))))
          (pss_one (ps_asg (pe_op op_add (pe_ix ix_list (pv 3) (pv 6) (fun _ _ => rfl)) pe_int) (pg_sub (pv 3) (pv 6) set_list))))))
          pss_nil))))
      (pss_one (ps_ret (pe_tup (pa_cons (pv 4) (pa_cons (pv 3) pa_nil)))))))), ?_⟩
    refine ⟨(by show 1 ≤ sizeLine; decide), fun a0 na0 => ⟨_, rfl, a0, _, _, rfl, rfl, upd_same, by omega, by omega, (by show 1 * (n : Int).toNat ≤ sizeLine; rw [sizeLine_eq]; omega), fun Lc nLc => ?_⟩⟩
    have s1 := (Step.refl hb).new (o := .lst [.int 0]) na0
    have nLcH : H Lc = none := s1.free nLc
    have neLc : Lc ≠ p := s1.box.ne nLc
    have hLc0 : (upd (upd H a0 (.lst [.int 0])) Lc (.lst (List.replicate (n : Int).toNat [V.int 0]).flatten)) Lc = some (.lst ((List.replicate n 0).map natV)) := by rw [upd_same, Int.toNat_natCast, rep0]
    have s2 := s1.new (o := .lst (List.replicate (n : Int).toNat [V.int 0]).flatten) nLc
    generalize (upd (upd H a0 (.lst [.int 0])) Lc (.lst (List.replicate (n : Int).toNat [V.int 0]).flatten)) = H2 at hLc0 s2 ⊢
    refine ⟨Nat.zero_le _, fun Lt nLt => ?_⟩
    have nLtH : H Lt = none := s2.free nLt
    have neLt : Lt ≠ p := s2.box.ne nLt
    have neLL : Lt ≠ Lc := fun z => by rw [z, hLc0] at nLt; cases nLt
    have s3 := s2.new (o := .lst []) nLt
    refine ⟨_, rfl, _, _, rfl, ⟨by decide, by decide, by omega, by omega⟩, ?_⟩
    refine for_range (lo := 1) (n := _) (fun i σ H1 => Step p H H1 ∧ ∃ (ties : List Tie) (cnt : List Nat) (o5 o6 o7 o8 o9 : Option V), σ = [some (.ref p), some (natV n), some (natV room), some (.ref Lc), some (.ref Lt), o5, o6, o7, o8, o9] ∧
        H1 Lc = some (.lst (cnt.map natV)) ∧ TiesAt H1 Lt ties ∧ TiesOk n room ties cnt ∧ cnt.sum = 2 * i ∧ (∀ j, i < j → j < n → cnt[j]? = some 0) ∧ Tree (i + 1) ties ∧ ties.length ≤ i)
      ⟨s3, [], List.replicate n 0, none, none, none, none, none, rfl, (by rw [upd_ne neLL.symm]; exact hLc0), ⟨[], upd_same, .nil⟩, TiesOk.nil n room, by simp, fun j _ hj => by simp [List.getElem?_replicate, hj], fun h h0 h1 => by omega, Nat.le_refl _⟩ ?_ ?_
    · rintro i σ H1 hi ⟨s4, ties, cnt, o5, o6, o7, o8, o9, rfl, hLc, ⟨as, hLt, hP⟩, ok, sum, zer, tree, tl⟩
      have hin : i + 1 < n := by omega
      have em : (1 + (i : Int)).toNat = i + 1 := by omega
      have cl := ok.ok.len
      refine ⟨_, rfl, _, rfl, by omega, by omega, fun D nD => sel_lc (K := K) (cnt := cnt) (room := room) (m := (1 + (i : Int)).toNat) rfl rfl (by simp) hLc (by omega) (by omega) nD fun sel H5 s5 hD hs => ?_⟩
      rw [em] at hs
      obtain ⟨g0, c0, hg0, e0, hc0⟩ := room_left r0 (show i + 1 ≤ cnt.length by omega) (by omega)
      have hsel : 0 < sel.length := List.length_pos_of_mem (hs.all g0 c0 hg0 e0 hc0)
      have s45 := s4.same s5
      have neD : D ≠ p := s4.box.ne nD
      have nDH : H D = none := s4.free nD
      have hLc5 := s5 _ _ hLc
      have hLt5 := s5 _ _ hLt
      have hP5 : Paired (TieAt H5) as ties := Paired.mapP hP fun _ _ q => q.tups (sTups s5)
      obtain ⟨xa, xb, hx, hx0, hx1⟩ := s45.box.ex
      have sl := hs.len
      refine ⟨_, rfl, _, rfl, _, rfl, D, _, rfl, .inl (SqL.of hD), p, xa, xb, _, rfl, hx, hx0, hx1, (by rw [List.length_map]; omega), (by rw [List.length_map]; omega), fun r a' b' q0 q1 c1 c2 => ?_⟩
      rw [List.length_map] at q1
      have hrl : r.toNat < sel.length := by omega
      have eg : sel[r.toNat]? = some sel[r.toNat] := List.getElem?_eq_getElem hrl
      obtain ⟨hgi, c, ec, hc⟩ := hs.has sel[r.toNat] (List.getElem_mem hrl)
      generalize sel[r.toNat] = g at eg hgi ec
      refine ⟨D, _, _, _, rfl, rfl, SqL.of (by rw [upd_ne neD]; exact hD), natV_at (by omega) eg, ?_⟩
      have s6 := s45.take (x := a') c1 c2
      have hLc6 : (upd H5 p (.lst [.int a', .int b'])) Lc = some (.lst (cnt.map natV)) := by rw [upd_ne neLc]; exact hLc5
      have hLt6 : (upd H5 p (.lst [.int a', .int b'])) Lt = some (.lst (as.map V.ref)) := by rw [upd_ne neLt]; exact hLt5
      have hP6 : Paired (TieAt (upd H5 p (.lst [.int a', .int b']))) as ties := Paired.mapP hP5 fun _ _ q => q.tups (tups_lst hx)
      generalize (upd H5 p (.lst [.int a', .int b'])) = H6 at s6 hLc6 hLt6 hP6 ⊢
      -- ties_here.append(((h, 0), (g, count[g])))
      refine ⟨_, rfl, .inl ⟨rfl, _, SqL.of hLt6⟩, _, rfl, (by show 2 ≤ sizeLine; decide), fun t1 m1 => ?_⟩
      refine ⟨_, rfl, _, rfl, _, rfl, Lc, _, _, _, rfl, rfl, SqL.of (same_new m1 _ _ hLc6), natV_at rfl ec, (by show 2 ≤ sizeLine; decide), fun t2 m2 => ⟨(by show 2 ≤ sizeLine; decide), fun t3 m3 => ?_⟩⟩
      have s67 := ((same_new (o := .tup [.int (1 + (i : Int)), .int 0]) m1).trans (same_new (o := .tup [natV g, natV c]) m2)).trans (same_new (o := .tup [.ref t1, .ref t2]) m3)
      have e1 := ((same_new (o := .tup [natV g, natV c]) m2).trans (same_new (o := .tup [.ref t1, .ref t2]) m3)) t1 _ upd_same
      have e2 := (same_new (o := .tup [.ref t1, .ref t2]) m3) t2 _ (upd_same (H := upd H6 t1 (.tup [.int (1 + (i : Int)), .int 0])) (o := .tup [natV g, natV c]))
      have e3 : (upd (upd (upd H6 t1 (.tup [.int (1 + (i : Int)), .int 0])) t2 (.tup [natV g, natV c])) t3 (.tup [.ref t1, .ref t2])) t3 = some (.tup [.ref t1, .ref t2]) := upd_same
      generalize (upd (upd (upd H6 t1 (.tup [.int (1 + (i : Int)), .int 0])) t2 (.tup [natV g, natV c])) t3 (.tup [.ref t1, .ref t2])) = H7 at s67 e1 e2 e3 ⊢
      have s7 := s6.same s67
      have hLc7 := s67 _ _ hLc6
      have hLt7 := s67 _ _ hLt6
      have al : as.length = ties.length := Paired.length hP
      refine ⟨Lt, _, _, rfl, rfl, hLt7, (by rw [List.length_map, sizeLine_eq]; omega), ?_⟩
      have s8 := s7.put (o := .lst (as.map V.ref ++ [.ref t3])) nLtH neLt
      have hLc8 : (upd H7 Lt (.lst (as.map V.ref ++ [.ref t3]))) Lc = some (.lst (cnt.map natV)) := by rw [upd_ne neLL.symm]; exact hLc7
      have tt8 := tups_lst (o := .lst (as.map V.ref ++ [.ref t3])) hLt7
      have hT8 : TiesAt (upd H7 Lt (.lst (as.map V.ref ++ [.ref t3]))) Lt (ties ++ [((i + 1, 0), (g, c))]) :=
        TiesAt.put hLt6 hP6 ((sTups s67).trans tt8) ⟨t1, t2, tt8 _ _ e3, tt8 _ _ (by rw [e1]; show some (HO.tup [V.int (1 + (i : Int)), V.int 0]) = some (HO.tup [V.int ((i + 1 : Nat) : Int), V.int ((0 : Nat) : Int)]); rw [show ((i + 1 : Nat) : Int) = 1 + (i : Int) by omega]; rfl), tt8 _ _ e2⟩ upd_same
      generalize (upd H7 Lt (.lst (as.map V.ref ++ [.ref t3]))) = H8 at s8 hLc8 hT8 ⊢
      -- count[h], count[g] = (1, count[g] + 1)
      have hgh : i + 1 ≠ g := by omega
      refine ⟨_, rfl, _, rfl, Lc, _, _, _, rfl, rfl, SqL.of hLc8, natV_at rfl ec, _, _, rfl, rfl, (by show 2 ≤ sizeLine; decide), fun t4 m4 => ?_⟩
      have s9 := s8.new (o := .tup [.int 1, .int ((c : Int) + 1)]) m4
      have hLc9 := same_new (o := .tup [.int 1, .int ((c : Int) + 1)]) m4 _ _ hLc8
      have hT9 : TiesAt (upd H8 t4 (.tup [.int 1, .int ((c : Int) + 1)])) Lt (ties ++ [((i + 1, 0), (g, c))]) := by
        obtain ⟨as', h1, h2⟩ := hT8.ex
        exact ⟨as', same_new m4 _ _ h1, Paired.mapP h2 fun _ _ q => q.tups (sTups (same_new m4))⟩
      have et : (upd H8 t4 (.tup [.int 1, .int ((c : Int) + 1)])) t4 = some (.tup [.int 1, .int ((c : Int) + 1)]) := upd_same
      generalize (upd H8 t4 (.tup [.int 1, .int ((c : Int) + 1)])) = H9 at s9 hLc9 hT9 et ⊢
      refine ⟨t4, _, rfl, SqT.of et, rfl, _, _, rfl, _, rfl, _, rfl, Lc, _, _, i + 1, rfl, rfl, hLc9, ixN_nat (by omega) (by rw [List.length_map]; omega), ?_⟩
      refine ⟨_, _, rfl, _, rfl, _, rfl, Lc, _, _, g, rfl, rfl, upd_same, ixN_nat rfl (by rw [List.length_set, List.length_map]; omega), rfl, ?_⟩
      have ez : cnt[i + 1]? = some 0 := zer (i + 1) (by omega) hin
      refine ⟨(s9.put nLcH neLc).put nLcH neLc, ties ++ [((i + 1, 0), (g, c))], (cnt.set (i + 1) 1).set g (c + 1), _, _, _, _, _, rfl, ?_, ?_, ok.tree hgh ec ez hc (by omega), ?_, fun j h1 h2 => ?_, ?_, by rw [List.length_append]; show ties.length + 1 ≤ i + 1; omega⟩
      · rw [upd_same, List.map_set, List.map_set]
        rfl
      · obtain ⟨as', h1, h2⟩ := hT9.ex
        have tt := (tups_lst (o := .lst ((cnt.map natV).set (i + 1) (.int 1))) hLc9).trans (tups_lst (o := .lst (((cnt.map natV).set (i + 1) (.int 1)).set g (.int ((c : Int) + 1)))) (upd_same (H := H9) (a := Lc) (o := .lst ((cnt.map natV).set (i + 1) (.int 1)))))
        exact ⟨as', by rw [upd_ne neLL, upd_ne neLL]; exact h1, Paired.mapP h2 fun _ _ q => q.tups tt⟩
      · have q1 := sum_setN (y := 1) ez
        have q2 := sum_setN (l := cnt.set (i + 1) 1) (j := g) (z := c) (y := c + 1) (by rw [List.getElem?_set_ne hgh]; exact ec)
        omega
      · rw [List.getElem?_set_ne (by omega), List.getElem?_set_ne (by omega)]
        exact zer j (by omega) h2
      · intro h h0 h1
        by_cases q : h = i + 1
        · subst q
          exact ⟨g, 0, c, hgi, List.mem_append_right _ (List.mem_singleton.mpr rfl)⟩
        · exact Tree.more (t := ((i + 1, 0), (g, c))) tree h h0 (by omega)
    · rintro σ H1 ⟨s4, ties, cnt, o5, o6, o7, o8, o9, rfl, hLc, hT, ok, _, _, tree, tl⟩
      have tree' : Tree n ties := fun h h0 h1 => tree h h0 (by omega)
      clear tree
      obtain ⟨xa, xb, hx, hx0, hx1⟩ := s4.box.ex
      refine ⟨_, rfl, p, xa, xb, _, rfl, hx, hx0, hx1, by decide, by decide, fun rr a' b' rr0 rr1 c1 c2 => ⟨_, rfl, by omega, by omega, ?_⟩⟩
      have s5 := s4.take (x := a') c1 c2
      have hLc5 : (upd H1 p (.lst [.int a', .int b'])) Lc = some (.lst (cnt.map natV)) := by rw [upd_ne neLc]; exact hLc
      have hT5 : TiesAt (upd H1 p (.lst [.int a', .int b'])) Lt ties := by
        obtain ⟨as, h1, h2⟩ := hT.ex
        exact ⟨as, by rw [upd_ne neLt]; exact h1, Paired.mapP h2 fun _ _ q => q.tups (tups_lst hx)⟩
      generalize (upd H1 p (.lst [.int a', .int b'])) = H5 at s5 hLc5 hT5 ⊢
      refine for_range (lo := 0) (n := _) (fun i σ H1 => Step p H H1 ∧ ∃ (ties : List Tie) (cnt : List Nat) (o5 o6 o7 o8 o9 : Option V), σ = [some (.ref p), some (natV n), some (natV room), some (.ref Lc), some (.ref Lt), o5, o6, o7, o8, o9] ∧
          H1 Lc = some (.lst (cnt.map natV)) ∧ TiesAt H1 Lt ties ∧ TiesOk n room ties cnt ∧ Tree n ties ∧ ties.length ≤ n + i)
        ⟨s5, ties, cnt, _, _, _, _, _, rfl, hLc5, hT5, ok, tree', by omega⟩ ?_ ?_
      · clear hx hx0 hx1 s4 hLc hT ok tree' tl s5 hLc5 hT5
        rintro i σ H1 hi ⟨s4, ties, cnt, o5, o6, o7, o8, o9, rfl, hLc, ⟨as, hLt, hP⟩, ok, tree, tl⟩
        have cl := ok.ok.len
        have hi4 : i < 4 := by omega
        refine ⟨_, rfl, _, rfl, by omega, by omega, fun D nD => sel_lc (K := K) (cnt := cnt) (room := room) (m := (n : Int).toNat) rfl rfl (by simp) hLc (by omega) (by omega) nD fun sel H5 s5 hD hs => ?_⟩
        rw [Int.toNat_natCast] at hs
        have s45 := s4.same s5
        have neD : D ≠ p := s4.box.ne nD
        have hLc5 := s5 _ _ hLc
        have hLt5 := s5 _ _ hLt
        have hP5 : Paired (TieAt H5) as ties := Paired.mapP hP fun _ _ q => q.tups (sTups s5)
        have sl := hs.len
        have al : as.length = ties.length := Paired.length hP
        refine ⟨_, rfl, D, _, rfl, .inl (SqL.of hD), _, _, rfl, rfl, _, rfl, ?_⟩
        refine ite2 (fun hpos => ?_) (fun hpos => ?_)
        · have hpos : 0 < sel.length := by
            have := of_decide_eq_true hpos
            rw [List.length_map] at this
            omega
          -- form
          obtain ⟨xa, xb, hx, hx0, hx1⟩ := s45.box.ex
          refine ⟨_, rfl, p, xa, xb, _, rfl, hx, hx0, hx1, by decide, by decide, fun fm a1 b1 f0 f1 c1 c2 => ?_⟩
          have s6 := s45.take (x := a1) c1 c2
          -- g, h
          refine ⟨_, rfl, _, rfl, _, rfl, D, _, rfl, .inl (SqL.of (by rw [upd_ne neD]; exact hD)), p, a1, b1, _, rfl, upd_same, c1, c2, (by rw [List.length_map]; omega), (by rw [List.length_map]; omega), fun rg a2 b2 g0 g1 c3 c4 => ?_⟩
          rw [List.length_map] at g1
          have s7 := s6.take (x := a2) c3 c4
          have hgl : rg.toNat < sel.length := by omega
          have eg : sel[rg.toNat]? = some sel[rg.toNat] := List.getElem?_eq_getElem hgl
          obtain ⟨hgi, c, ec, hc⟩ := hs.has sel[rg.toNat] (List.getElem_mem hgl)
          refine ⟨D, _, _, _, rfl, rfl, SqL.of (by rw [upd_ne neD, upd_ne neD]; exact hD), natV_at (by omega) eg, ?_⟩
          refine ⟨_, rfl, _, rfl, _, rfl, D, _, rfl, .inl (SqL.of (by rw [upd_ne neD, upd_ne neD]; exact hD)), p, a2, b2, _, rfl, upd_same, c3, c4, (by rw [List.length_map]; omega), (by rw [List.length_map]; omega), fun rh a3 b3 h0 h1 c5 c6 => ?_⟩
          rw [List.length_map] at h1
          have s8 := s7.take (x := a3) c5 c6
          have hhl : rh.toNat < sel.length := by omega
          have eh : sel[rh.toNat]? = some sel[rh.toNat] := List.getElem?_eq_getElem hhl
          obtain ⟨hhi, d, ed, hd⟩ := hs.has sel[rh.toNat] (List.getElem_mem hhl)
          refine ⟨D, _, _, _, rfl, rfl, SqL.of (by rw [upd_ne neD, upd_ne neD, upd_ne neD]; exact hD), natV_at (by omega) eh, _, _, rfl, ?_⟩
          have hLc8 : (upd (upd (upd H5 p (.lst [.int a1, .int b1])) p (.lst [.int a2, .int b2])) p (.lst [.int a3, .int b3])) Lc = some (.lst (cnt.map natV)) := by rw [upd_ne neLc, upd_ne neLc, upd_ne neLc]; exact hLc5
          have hLt8 : (upd (upd (upd H5 p (.lst [.int a1, .int b1])) p (.lst [.int a2, .int b2])) p (.lst [.int a3, .int b3])) Lt = some (.lst (as.map V.ref)) := by rw [upd_ne neLt, upd_ne neLt, upd_ne neLt]; exact hLt5
          have hP8 : Paired (TieAt (upd (upd (upd H5 p (.lst [.int a1, .int b1])) p (.lst [.int a2, .int b2])) p (.lst [.int a3, .int b3]))) as ties :=
            Paired.mapP hP5 fun _ _ q => ((q.tups (tups_lst hx)).tups (tups_lst upd_same)).tups (tups_lst upd_same)
          generalize (upd (upd (upd H5 p (.lst [.int a1, .int b1])) p (.lst [.int a2, .int b2])) p (.lst [.int a3, .int b3])) = H8 at s8 hLc8 hLt8 hP8 ⊢
          generalize sel[rg.toNat] = g at eg hgi ec
          generalize sel[rh.toNat] = h at eh hhi ed
          clear s45 s6 s7 s4 hx hx0 hx1 hLc5 hLt5 hP5 hLc hLt hP hD hs s5 nD eg eh
          -- what the last statement makes of it
          have last : ∀ (H9 : Hp) (ties' : List Tie) (cnt' : List Nat) (c' : Nat) (o5 : Option V), Step p H H9 → H9 Lc = some (.lst (cnt'.map natV)) → TiesAt H9 Lt ties' → cnt'[g]? = some c' → TiesOk n room ties' (cnt'.set g (c' + 1)) → Tree n ties' → ties'.length ≤ n + (i + 1) →
              Step p H (upd H9 Lc (.lst ((cnt'.map natV).set g (.int ((c' : Int) + 1))))) ∧ (upd H9 Lc (.lst ((cnt'.map natV).set g (.int ((c' : Int) + 1))))) Lc = some (.lst ((cnt'.set g (c' + 1)).map natV)) ∧ TiesAt (upd H9 Lc (.lst ((cnt'.map natV).set g (.int ((c' : Int) + 1))))) Lt ties' := by
            intro H9 ties' cnt' c' o5 t1 t2 t3 t4 t5 t6 t7
            refine ⟨t1.put nLcH neLc, by rw [upd_same, List.map_set]; rfl, ?_⟩
            obtain ⟨as', q1, q2⟩ := t3.ex
            exact ⟨as', by rw [upd_ne neLL]; exact q1, Paired.mapP q2 fun _ _ q => q.tups (tups_lst t2)⟩
          refine ⟨_, rfl, rfl, _, rfl, ?_⟩
          refine ite2 (fun hf => ?_) (fun hf => ?_)
          · refine iteT ?_
            refine ⟨_, rfl, ?_⟩
            refine ⟨_, rfl, .inl ⟨rfl, _, SqL.of hLt8⟩, _, rfl, _, rfl, _, rfl, Lc, _, _, _, rfl, rfl, SqL.of hLc8, natV_at rfl ec, (by show 2 ≤ sizeLine; decide), fun t1 m1 => ?_⟩
            refine ⟨_, rfl, _, rfl, _, rfl, Lc, _, _, _, rfl, rfl, SqL.of (same_new m1 _ _ hLc8), natV_at rfl ec, (by show 2 ≤ sizeLine; decide), fun t2 m2 => ⟨(by show 2 ≤ sizeLine; decide), fun t3 m3 => ?_⟩⟩
            obtain ⟨w1, w2, w3, w4⟩ := app_tie (x := (g, c)) (y := (g, c)) s8 hLc8 hLt8 hP8 nLtH neLt neLL m1 m2 m3
            refine ⟨Lt, _, _, rfl, rfl, w1, (by rw [List.length_map, sizeLine_eq]; omega), ?_⟩
            refine ⟨_, rfl, _, rfl, Lc, _, _, _, rfl, rfl, SqL.of w3, natV_at rfl ec, _, _, rfl, rfl, _, rfl, _, rfl, Lc, _, _, g, rfl, rfl, w3, ixN_nat rfl (by rw [List.length_map]; omega), ?_⟩
            obtain ⟨z1, z2, z3⟩ := last _ _ _ _ none w2 w3 w4 ec (ok.self ec hc) (Tree.more tree) (by rw [List.length_append]; show ties.length + 1 ≤ n + (i + 1); omega)
            exact ⟨z1, _, _, _, _, _, _, _, rfl, z2, z3, ok.self ec hc, Tree.more tree, by rw [List.length_append]; show ties.length + 1 ≤ n + (i + 1); omega⟩
          · refine ⟨_, rfl, _, rfl, rfl, _, rfl, ?_⟩
            refine ite2 (fun hgh => ?_) (fun hgh => ?_)
            · have hgh : g = h := by
                have := of_decide_eq_true hgh
                injection this with this
                omega
              subst hgh
              refine ⟨_, rfl, _, rfl, Lc, _, _, _, rfl, rfl, SqL.of hLc8, natV_at rfl ec, _, _, rfl, rfl, _, rfl, rfl, _, rfl, ?_⟩
              refine ite2 (fun hroom => ?_) (fun hroom => ?_)
              · 
                refine ⟨_, rfl, ?_⟩
                refine ⟨_, rfl, .inl ⟨rfl, _, SqL.of hLt8⟩, _, rfl, _, rfl, _, rfl, Lc, _, _, _, rfl, rfl, SqL.of hLc8, natV_at rfl ec, (by show 2 ≤ sizeLine; decide), fun t1 m1 => ?_⟩
                refine ⟨_, rfl, _, rfl, _, rfl, Lc, _, _, _, rfl, rfl, SqL.of (same_new m1 _ _ hLc8), natV_at rfl ec, (by show 2 ≤ sizeLine; decide), fun t2 m2 => ⟨(by show 2 ≤ sizeLine; decide), fun t3 m3 => ?_⟩⟩
                obtain ⟨w1, w2, w3, w4⟩ := app_tie (x := (g, c)) (y := (g, c)) s8 hLc8 hLt8 hP8 nLtH neLt neLL m1 m2 m3
                refine ⟨Lt, _, _, rfl, rfl, w1, (by rw [List.length_map, sizeLine_eq]; omega), ?_⟩
                refine ⟨_, rfl, _, rfl, Lc, _, _, _, rfl, rfl, SqL.of w3, natV_at rfl ec, _, _, rfl, rfl, _, rfl, _, rfl, Lc, _, _, g, rfl, rfl, w3, ixN_nat rfl (by rw [List.length_map]; omega), ?_⟩
                obtain ⟨z1, z2, z3⟩ := last _ _ _ _ none w2 w3 w4 ec (ok.self ec hc) (Tree.more tree) (by rw [List.length_append]; show ties.length + 1 ≤ n + (i + 1); omega)
                exact ⟨z1, _, _, _, _, _, _, _, rfl, z2, z3, ok.self ec hc, Tree.more tree, by rw [List.length_append]; show ties.length + 1 ≤ n + (i + 1); omega⟩
              · have hroom' : ¬ c + 1 = room := fun z => hroom (decide_eq_true (by show V.int ((c : Int) + 1) = V.int (room : Int); rw [← z]; rfl))
                refine ⟨_, rfl, _, rfl, rfl, _, rfl, ?_⟩
                refine ite2 (fun _ => ?_) (fun z => absurd (decide_eq_true rfl) z)
                refine ⟨_, rfl, .inl ⟨rfl, _, SqL.of hLt8⟩, _, rfl, _, rfl, _, rfl, Lc, _, _, _, rfl, rfl, SqL.of hLc8, natV_at rfl ec, (by show 2 ≤ sizeLine; decide), fun t1 m1 => ?_⟩
                refine ⟨_, rfl, _, rfl, _, rfl, Lc, _, _, _, rfl, rfl, SqL.of (same_new m1 _ _ hLc8), natV_at rfl ec, _, _, rfl, rfl, (by show 2 ≤ sizeLine; decide), fun t2 m2 => ⟨(by show 2 ≤ sizeLine; decide), fun t3 m3 => ?_⟩⟩
                obtain ⟨w1, w2, w3, w4⟩ := app_tie (x := (g, c)) (y := (g, c + 1)) s8 hLc8 hLt8 hP8 nLtH neLt neLL m1 m2 m3
                refine ⟨Lt, _, _, rfl, rfl, w1, (by rw [List.length_map, sizeLine_eq]; omega), ?_⟩
                refine ⟨_, rfl, _, rfl, Lc, _, _, _, rfl, rfl, SqL.of w3, natV_at rfl ec, _, _, rfl, rfl, _, rfl, _, rfl, Lc, _, _, g, rfl, rfl, w3, ixN_nat rfl (by rw [List.length_map]; omega), ?_⟩
                have w5 := w2.put (o := .lst ((cnt.map natV).set g (.int ((c : Int) + 1)))) nLcH neLc
                have w6 : (upd (upd (upd (upd (upd H8 t1 (.tup [natV g, natV c])) t2 (.tup [natV g, natV (c + 1)])) t3 (.tup [.ref t1, .ref t2])) Lt (.lst (as.map V.ref ++ [.ref t3]))) Lc (.lst ((cnt.map natV).set g (.int ((c : Int) + 1))))) Lc = some (.lst ((cnt.set g (c + 1)).map natV)) := by rw [upd_same, List.map_set]; rfl
                have w7 : TiesAt (upd (upd (upd (upd (upd H8 t1 (.tup [natV g, natV c])) t2 (.tup [natV g, natV (c + 1)])) t3 (.tup [.ref t1, .ref t2])) Lt (.lst (as.map V.ref ++ [.ref t3]))) Lc (.lst ((cnt.map natV).set g (.int ((c : Int) + 1))))) Lt (ties ++ [((g, c), (g, c + 1))]) := by
                  obtain ⟨as', q1, q2⟩ := w4.ex
                  exact ⟨as', by rw [upd_ne neLL]; exact q1, Paired.mapP q2 fun _ _ q => q.tups (tups_lst w3)⟩
                have ec' : (cnt.set g (c + 1))[g]? = some (c + 1) := List.getElem?_set_self (by omega)
                refine ⟨_, rfl, _, rfl, Lc, _, _, _, rfl, rfl, SqL.of w6, natV_at rfl ec', _, _, rfl, rfl, _, rfl, _, rfl, Lc, _, _, g, rfl, rfl, w6, ixN_nat rfl (by rw [List.length_map, List.length_set]; omega), ?_⟩
                obtain ⟨z1, z2, z3⟩ := last _ _ _ _ none w5 w6 w7 ec' (ok.own ec (by omega)) (Tree.more tree) (by rw [List.length_append]; show ties.length + 1 ≤ n + (i + 1); omega)
                exact ⟨z1, _, _, _, _, _, _, _, rfl, z2, z3, ok.own ec (by omega), Tree.more tree, by rw [List.length_append]; show ties.length + 1 ≤ n + (i + 1); omega⟩
            · have hgh : g ≠ h := fun z => hgh (decide_eq_true (by rw [z]))
              refine iteF ?_
              refine ⟨_, rfl, _, rfl, rfl, _, rfl, ?_⟩
              refine ite2 (fun z => absurd (show g = h by have := of_decide_eq_true z; injection this with this; omega) hgh) (fun _ => ?_)
              refine ⟨_, rfl, .inl ⟨rfl, _, SqL.of hLt8⟩, _, rfl, _, rfl, _, rfl, Lc, _, _, _, rfl, rfl, SqL.of hLc8, natV_at rfl ec, (by show 2 ≤ sizeLine; decide), fun t1 m1 => ?_⟩
              refine ⟨_, rfl, _, rfl, _, rfl, Lc, _, _, _, rfl, rfl, SqL.of (same_new m1 _ _ hLc8), natV_at rfl ed, (by show 2 ≤ sizeLine; decide), fun t2 m2 => ⟨(by show 2 ≤ sizeLine; decide), fun t3 m3 => ?_⟩⟩
              obtain ⟨w1, w2, w3, w4⟩ := app_tie (x := (g, c)) (y := (h, d)) s8 hLc8 hLt8 hP8 nLtH neLt neLL m1 m2 m3
              refine ⟨Lt, _, _, rfl, rfl, w1, (by rw [List.length_map, sizeLine_eq]; omega), ?_⟩
              refine ⟨_, rfl, _, rfl, Lc, _, _, _, rfl, rfl, SqL.of w3, natV_at rfl ed, _, _, rfl, rfl, _, rfl, _, rfl, Lc, _, _, h, rfl, rfl, w3, ixN_nat rfl (by rw [List.length_map]; omega), ?_⟩
              have w5 := w2.put (o := .lst ((cnt.map natV).set h (.int ((d : Int) + 1)))) nLcH neLc
              have w6 : (upd (upd (upd (upd (upd H8 t1 (.tup [natV g, natV c])) t2 (.tup [natV h, natV d])) t3 (.tup [.ref t1, .ref t2])) Lt (.lst (as.map V.ref ++ [.ref t3]))) Lc (.lst ((cnt.map natV).set h (.int ((d : Int) + 1))))) Lc = some (.lst ((cnt.set h (d + 1)).map natV)) := by rw [upd_same, List.map_set]; rfl
              have w7 : TiesAt (upd (upd (upd (upd (upd H8 t1 (.tup [natV g, natV c])) t2 (.tup [natV h, natV d])) t3 (.tup [.ref t1, .ref t2])) Lt (.lst (as.map V.ref ++ [.ref t3]))) Lc (.lst ((cnt.map natV).set h (.int ((d : Int) + 1))))) Lt (ties ++ [((g, c), (h, d))]) := by
                obtain ⟨as', q1, q2⟩ := w4.ex
                exact ⟨as', by rw [upd_ne neLL]; exact q1, Paired.mapP q2 fun _ _ q => q.tups (tups_lst w3)⟩
              have ec' : (cnt.set h (d + 1))[g]? = some c := by rw [List.getElem?_set_ne (fun z => hgh z.symm)]; exact ec
              refine ⟨_, rfl, _, rfl, Lc, _, _, _, rfl, rfl, SqL.of w6, natV_at rfl ec', _, _, rfl, rfl, _, rfl, _, rfl, Lc, _, _, g, rfl, rfl, w6, ixN_nat rfl (by rw [List.length_map, List.length_set]; omega), ?_⟩
              obtain ⟨z1, z2, z3⟩ := last _ _ _ _ none w5 w6 w7 ec' (ok.two hgh ec ed hc hd) (Tree.more tree) (by rw [List.length_append]; show ties.length + 1 ≤ n + (i + 1); omega)
              exact ⟨z1, _, _, _, _, _, _, _, rfl, z2, z3, ok.two hgh ec ed hc hd, Tree.more tree, by rw [List.length_append]; show ties.length + 1 ≤ n + (i + 1); omega⟩
        · exact ⟨s45, ties, cnt, _, _, _, _, _, rfl, hLc5, ⟨as, hLt5, hP5⟩, ok, tree, by omega⟩
      · rintro σ H1 ⟨s6, ties, cnt, o5, o6, o7, o8, o9, rfl, hLc, hT, ok, tree, tl⟩
        refine ⟨_, rfl, _, rfl, (by show 2 ≤ sizeLine; decide), fun r nr => ?_⟩
        refine k r Lt Lc ties cnt _ (s6.free nr) (s6.new nr) upd_same nLtH nLcH ?_ (same_new nr _ _ hLc) ok tree
        obtain ⟨as, h1, h2⟩ := hT.ex
        exact ⟨as, same_new nr _ _ h1, Paired.mapP h2 fun _ _ q => q.tups (sTups (same_new nr))⟩
end
end NH
set_option Elab.async false
set_option linter.all false
set_option maxRecDepth 100000
set_option maxHeartbeats 4000000
namespace NH
open PySem L2
abbrev PegD := Int × Int
abbrev HandD := Int × List PegD
abbrev WebD := List HandD
def PegsAt (H : Hp) (a : Addr) (ps : List PegD) : Prop := ∃ as : List Addr, H a = some (.tup (as.map V.ref)) ∧ PairsAt H as ps
def HandAt (H : Hp) (a : Addr) (hd : HandD) : Prop := ∃ b, H a = some (.tup [.int hd.1, .ref b]) ∧ PegsAt H b hd.2
def WebAt (H : Hp) (a : Addr) (w : WebD) : Prop := ∃ as : List Addr, H a = some (.tup (as.map V.ref)) ∧ Paired (HandAt H) as w
theorem pairs_tups {H H' : Hp} {as : List Addr} {ps : List PegD} (s : Tups H H') (h : PairsAt H as ps) : PairsAt H' as ps := Paired.mapP h fun _ _ e => s _ _ e
theorem PegsAt.tups {H H' : Hp} {a : Addr} {ps : List PegD} (s : Tups H H') (h : PegsAt H a ps) : PegsAt H' a ps := by
  obtain ⟨as, e, k⟩ := h
  exact ⟨as, s _ _ e, pairs_tups s k⟩
theorem HandAt.tups {H H' : Hp} {a : Addr} {hd : HandD} (s : Tups H H') (h : HandAt H a hd) : HandAt H' a hd := by
  obtain ⟨b, e, k⟩ := h
  exact ⟨b, s _ _ e, k.tups s⟩
theorem WebAt.tups {H H' : Hp} {a : Addr} {w : WebD} (s : Tups H H') (h : WebAt H a w) : WebAt H' a w := by
  obtain ⟨as, e, k⟩ := h
  exact ⟨as, s _ _ e, Paired.mapP k fun _ _ q => q.tups s⟩
def pegOf (w : WebD) (h p : Nat) : Option PegD := (w[h]?).bind fun hd => hd.2[p]?
structure Good (room : Nat) (w : WebD) : Prop where
  pos : 0 < w.length
  mark : ∀ (h : Nat) hd, w[h]? = some hd → 0 ≤ hd.1 ∧ hd.1 ≤ 9
  pegs : ∀ (h : Nat) hd, w[h]? = some hd → hd.2.length ≤ room
  tie : ∀ (h p : Nat) x, pegOf w h p = some x → ∃ g q : Nat, x = ((g : Int), (q : Int)) ∧ pegOf w g q = some ((h : Int), (p : Int))
  conn : ∀ S : Nat → Prop, (∀ h p g q : Nat, pegOf w h p = some ((g : Int), (q : Int)) → S h → S g) → ∀ a b, a < w.length → b < w.length → S a → S b
theorem pegOf_some {w : WebD} {h p : Nat} {x : PegD} (e : pegOf w h p = some x) : ∃ hd, w[h]? = some hd ∧ hd.2[p]? = some x := Option.bind_eq_some_iff.mp e
theorem pegOf_lt {w : WebD} {h p : Nat} {x : PegD} (e : pegOf w h p = some x) : h < w.length := by
  obtain ⟨hd, e1, _⟩ := pegOf_some e
  exact (List.getElem?_eq_some_iff.mp e1).1
abbrev Rows := List (List End)
def at2 (r : Rows) (h q : Nat) : Option End := (r[h]?).bind fun row => row[q]?
def put2 (r : Rows) (h q : Nat) (e : End) : Rows := r.set h ((r.getD h []).set q e)
theorem at2_put {r : Rows} {h q h' q' : Nat} {e x : End} (hx : at2 r h q = some x) : at2 (put2 r h q e) h' q' = if h' = h ∧ q' = q then some e else at2 r h' q' := by
  obtain ⟨row, e1, e2⟩ := Option.bind_eq_some_iff.mp hx
  obtain ⟨hl, e1'⟩ := List.getElem?_eq_some_iff.mp e1
  obtain ⟨ql, _⟩ := List.getElem?_eq_some_iff.mp e2
  have eg : r.getD h [] = row := by rw [List.getD_eq_getElem?_getD, e1]; rfl
  unfold at2 put2
  rw [eg]
  by_cases z : h = h'
  · subst z
    rw [List.getElem?_set_self hl, e1]
    show (row.set q e)[q']? = if h = h ∧ q' = q then some e else row[q']?
    by_cases y : q = q'
    · subst y
      rw [List.getElem?_set_self ql, if_pos ⟨rfl, rfl⟩]
    · rw [List.getElem?_set_ne y, if_neg (fun k => y k.2.symm)]
  · rw [List.getElem?_set_ne z, if_neg (fun k => z k.1.symm)]
structure NumOk (n : Nat) (cnt : List Nat) (num : List (List Nat)) : Prop where
  len : num.length = n
  perm : ∀ (h c : Nat) (π : List Nat), cnt[h]? = some c → num[h]? = some π → π.Perm (List.range c)
def numOf (num : List (List Nat)) (e : End) : Option Nat := (num[e.1]?).bind fun π => π[e.2]?
theorem numOf_inj {n : Nat} {cnt : List Nat} {num : List (List Nat)} (k : NumOk n cnt num) (hl : cnt.length = n) {h s s' q : Nat} (e : numOf num (h, s) = some q) (e' : numOf num (h, s') = some q) : s = s' := by
  obtain ⟨π, e1, e2⟩ := Option.bind_eq_some_iff.mp e
  obtain ⟨π', e1', e2'⟩ := Option.bind_eq_some_iff.mp e'
  dsimp only at e1 e1' e2 e2'
  rw [e1] at e1'
  cases e1'
  have hln : h < num.length := (List.getElem?_eq_some_iff.mp e1).1
  have hlc : h < cnt.length := by rw [hl, ← k.len]; exact hln
  have hc : cnt[h]? = some cnt[h] := List.getElem?_eq_getElem hlc
  have nd : π.Nodup := (k.perm h _ π hc e1).nodup_iff.mpr List.nodup_range
  exact nd_ix nd e2 e2'
theorem numOf_lt {n : Nat} {cnt : List Nat} {num : List (List Nat)} (k : NumOk n cnt num) {h s q c : Nat} (hc : cnt[h]? = some c) (e : numOf num (h, s) = some q) : q < c := by
  obtain ⟨π, e1, e2⟩ := Option.bind_eq_some_iff.mp e
  have := (k.perm h c π hc e1).mem_iff.mp (List.mem_of_getElem? e2)
  exact List.mem_range.mp this
theorem numOf_some {n : Nat} {cnt : List Nat} {num : List (List Nat)} (k : NumOk n cnt num) (hl : cnt.length = n) {h s c : Nat} (hc : cnt[h]? = some c) (hs : s < c) : ∃ q, numOf num (h, s) = some q := by
  have hlt : h < num.length := by rw [k.len, ← hl]; exact (List.getElem?_eq_some_iff.mp hc).1
  have e : num[h]? = some num[h] := List.getElem?_eq_getElem hlt
  have pl := (k.perm h c _ hc e).length_eq
  rw [List.length_range] at pl
  refine ⟨num[h][s]'(by omega), ?_⟩
  show (num[h]?).bind (fun π => π[s]?) = _
  rw [e]
  exact List.getElem?_eq_getElem (by omega)
theorem numOf_onto {n : Nat} {cnt : List Nat} {num : List (List Nat)} (k : NumOk n cnt num) (hl : cnt.length = n) {h q c : Nat} (hc : cnt[h]? = some c) (hq : q < c) : ∃ s, s < c ∧ numOf num (h, s) = some q := by
  have hlt : h < num.length := by rw [k.len, ← hl]; exact (List.getElem?_eq_some_iff.mp hc).1
  have e : num[h]? = some num[h] := List.getElem?_eq_getElem hlt
  have p := k.perm h c _ hc e
  have m : q ∈ num[h] := p.mem_iff.mpr (List.mem_range.mpr hq)
  obtain ⟨s, es⟩ := List.getElem?_of_mem m
  have pl := p.length_eq
  rw [List.length_range] at pl
  refine ⟨s, by have := (List.getElem?_eq_some_iff.mp es).1; omega, ?_⟩
  show (num[h]?).bind (fun π => π[s]?) = _
  rw [e]
  exact es
structure Filled (num : List (List Nat)) (ties : List Tie) (r : Rows) : Prop where
  fill : ∀ t ∈ ties, ∀ q q', numOf num t.1 = some q → numOf num t.2 = some q' → at2 r t.1.1 q = some (t.2.1, q') ∧ at2 r t.2.1 q' = some (t.1.1, q)
def Shape (cnt : List Nat) (r : Rows) : Prop := r.length = cnt.length ∧ ∀ (h c : Nat) row, cnt[h]? = some c → r[h]? = some row → row.length = c
theorem shape_at {cnt : List Nat} {r : Rows} (k : Shape cnt r) {h c q : Nat} (hc : cnt[h]? = some c) (hq : q < c) : ∃ x, at2 r h q = some x := by
  have hl : h < r.length := by rw [k.1]; exact (List.getElem?_eq_some_iff.mp hc).1
  have e : r[h]? = some r[h] := List.getElem?_eq_getElem hl
  have := k.2 h c _ hc e
  refine ⟨r[h][q]'(by omega), ?_⟩
  unfold at2
  rw [e]
  exact List.getElem?_eq_getElem (by omega)
theorem at2_lt {cnt : List Nat} {r : Rows} (k : Shape cnt r) {h q : Nat} {x : End} (e : at2 r h q = some x) : ∃ c, cnt[h]? = some c ∧ q < c := by
  obtain ⟨row, e1, e2⟩ := Option.bind_eq_some_iff.mp e
  have hl : h < cnt.length := by rw [← k.1]; exact (List.getElem?_eq_some_iff.mp e1).1
  have hc : cnt[h]? = some cnt[h] := List.getElem?_eq_getElem hl
  have := k.2 h _ row hc e1
  exact ⟨_, hc, by have := (List.getElem?_eq_some_iff.mp e2).1; omega⟩
theorem Shape.put {cnt : List Nat} {r : Rows} (k : Shape cnt r) {h q : Nat} {e : End} : Shape cnt (put2 r h q e) := by
  refine ⟨by unfold put2; rw [List.length_set]; exact k.1, fun h' c row hc hr => ?_⟩
  unfold put2 at hr
  by_cases z : h = h'
  · subst z
    have hl : h < r.length := by
      have := (List.getElem?_eq_some_iff.mp hr).1
      simpa using this
    rw [List.getElem?_set_self hl] at hr
    have e' := Option.some.inj hr
    rw [← e', List.length_set, List.getD_eq_getElem?_getD, List.getElem?_eq_getElem hl]
    exact k.2 h c _ hc (List.getElem?_eq_getElem hl)
  · rw [List.getElem?_set_ne z] at hr
    exact k.2 h' c row hc hr
theorem Filled.add {n room : Nat} {cnt : List Nat} {num : List (List Nat)} {pre : List Tie} {t : Tie} {r : Rows} {q q' : Nat} (kn : NumOk n cnt num) (kl : cnt.length = n) (nd : (ends (pre ++ [t])).Nodup) (ks : Shape cnt r) (kf : Filled num pre r)
    {x y : End} (e1 : numOf num t.1 = some q) (e2 : numOf num t.2 = some q') (a1 : at2 r t.1.1 q = some x) (a2 : at2 (put2 r t.1.1 q (t.2.1, q')) t.2.1 q' = some y) :
    Filled num (pre ++ [t]) (put2 (put2 r t.1.1 q (t.2.1, q')) t.2.1 q' (t.1.1, q)) := by
  have new : at2 (put2 (put2 r t.1.1 q (t.2.1, q')) t.2.1 q' (t.1.1, q)) t.1.1 q = some (t.2.1, q') ∧ at2 (put2 (put2 r t.1.1 q (t.2.1, q')) t.2.1 q' (t.1.1, q)) t.2.1 q' = some (t.1.1, q) := by
    refine ⟨?_, by rw [at2_put a2, if_pos ⟨rfl, rfl⟩]⟩
    rw [at2_put a2]
    by_cases z : t.1.1 = t.2.1 ∧ q = q'
    · rw [if_pos z, ← z.1, ← z.2]
    · rw [if_neg z, at2_put a1, if_pos ⟨rfl, rfl⟩]
  -- the places of an elder tie's ends are others
  have apart : ∀ (u : Tie), u ∈ pre → ∀ (e : End) (p : Nat), e ∈ endsOf u → numOf num e = some p → ∀ v, at2 r e.1 p = some v → at2 (put2 (put2 r t.1.1 q (t.2.1, q')) t.2.1 q' (t.1.1, q)) e.1 p = some v := by
    intro u hu e p he hp v hv
    have ndd : ∀ d ∈ endsOf t, d ≠ e := by
      intro d hd z
      subst z
      rw [ends_snoc] at nd
      exact (List.nodup_append.mp nd).2.2 d (List.mem_flatMap.mpr ⟨u, hu, he⟩) d hd rfl
    have m1 : t.1 ∈ endsOf t := by unfold endsOf; split <;> simp
    have m2 : t.2 ∈ endsOf t := by
      unfold endsOf
      split
      · rename_i z; rw [← z]; simp
      · simp
    have d1 : ¬ (e.1 = t.1.1 ∧ p = q) := fun z => ndd t.1 m1 (by
      have : numOf num (e.1, t.1.2) = some p := by rw [z.1, z.2]; exact e1
      have ee := numOf_inj kn kl this (show numOf num (e.1, e.2) = some p from hp)
      exact Prod.ext z.1.symm ee)
    have d2 : ¬ (e.1 = t.2.1 ∧ p = q') := fun z => ndd t.2 m2 (by
      have : numOf num (e.1, t.2.2) = some p := by rw [z.1, z.2]; exact e2
      have ee := numOf_inj kn kl this (show numOf num (e.1, e.2) = some p from hp)
      exact Prod.ext z.1.symm ee)
    rw [at2_put a2, if_neg d2, at2_put a1, if_neg d1]
    exact hv
  refine ⟨fun u hu p p' h1 h2 => ?_⟩
  rcases List.mem_append.mp hu with hu | hu
  · obtain ⟨k1, k2⟩ := kf.fill u hu p p' h1 h2
    have m1 : u.1 ∈ endsOf u := by unfold endsOf; split <;> simp
    have m2 : u.2 ∈ endsOf u := by
      unfold endsOf
      split
      · rename_i z; rw [← z]; simp
      · simp
    exact ⟨apart u hu u.1 p m1 h1 _ k1, apart u hu u.2 p' m2 h2 _ k2⟩
  · rw [List.mem_singleton.mp hu] at h1 h2 ⊢
    rw [e1] at h1
    rw [e2] at h2
    cases h1
    cases h2
    exact new
def pegI (e : End) : PegD := ((e.1 : Int), (e.2 : Int))
def webOf (ms : List Nat) (r : Rows) : WebD := List.zipWith (fun (m : Nat) (row : List End) => ((m : Int), row.map pegI)) ms r
theorem webOf_get {ms : List Nat} {r : Rows} {h : Nat} {hd : HandD} (e : (webOf ms r)[h]? = some hd) : ∃ m row, ms[h]? = some m ∧ r[h]? = some row ∧ hd = ((m : Int), row.map pegI) := by
  unfold webOf at e
  rw [List.getElem?_zipWith] at e
  cases e1 : ms[h]? with
  | none => rw [e1] at e; cases e
  | some m =>
    cases e2 : r[h]? with
    | none => rw [e1, e2] at e; cases e
    | some row =>
      rw [e1, e2] at e
      exact ⟨m, row, rfl, rfl, (Option.some.inj e).symm⟩
theorem pegOf_web {ms : List Nat} {r : Rows} (hl : ms.length = r.length) (h p : Nat) : pegOf (webOf ms r) h p = (at2 r h p).map pegI := by
  unfold pegOf at2 webOf
  rw [List.getElem?_zipWith]
  cases e2 : r[h]? with
  | none =>
    cases e1 : ms[h]? <;> rfl
  | some row =>
    have hm : h < ms.length := by rw [hl]; exact (List.getElem?_eq_some_iff.mp e2).1
    rw [List.getElem?_eq_getElem hm]
    show (row.map pegI)[p]? = (row[p]?).map pegI
    rw [List.getElem?_map]
theorem pegI_inj {e : End} {g q : Nat} (h : pegI e = ((g : Int), (q : Int))) : e = (g, q) := by
  have h1 := congrArg Prod.fst h
  have h2 := congrArg Prod.snd h
  simp only [pegI] at h1 h2
  exact Prod.ext (by exact_mod_cast h1) (by exact_mod_cast h2)
theorem plain_good {n room : Nat} {ties : List Tie} {cnt ms : List Nat} {num : List (List Nat)} {r : Rows} (n0 : 1 ≤ n) (ok : TiesOk n room ties cnt) (tree : Tree n ties) (kn : NumOk n cnt num) (ks : Shape cnt r) (kf : Filled num ties r)
    (ml : ms.length = n) (mk : ∀ m ∈ ms, m ≤ 9) : Good room (webOf ms r) ∧ (webOf ms r).length = n := by
  have cl := ok.ok.len
  have rl : r.length = n := by rw [ks.1, cl]
  have wl : (webOf ms r).length = n := by unfold webOf; rw [List.length_zipWith, ml, rl]; exact Nat.min_self _
  have hml : ms.length = r.length := by rw [ml, rl]
  -- a tie's two places lead to one another
  have back : ∀ h p x, at2 r h p = some x → at2 r x.1 x.2 = some (h, p) := by
    intro h p x hx
    obtain ⟨c, hc, hp⟩ := at2_lt ks hx
    obtain ⟨s, hs, es⟩ := numOf_onto kn cl hc hp
    have hm : (h, s) ∈ ends ties := (ok.ok.mem h s).mpr ⟨c, hc, hs⟩
    obtain ⟨t, ht, he⟩ := List.mem_flatMap.mp hm
    have two : (h, s) = t.1 ∨ (h, s) = t.2 := by
      unfold endsOf at he
      split at he
      · exact .inl (List.mem_singleton.mp he)
      · rcases List.mem_cons.mp he with z | z
        · exact .inl z
        · exact .inr (List.mem_singleton.mp z)
    have there : ∀ d ∈ endsOf t, ∃ q, numOf num d = some q := by
      intro d hd
      obtain ⟨c', hc', hs'⟩ := (ok.ok.mem d.1 d.2).mp (List.mem_flatMap.mpr ⟨t, ht, hd⟩)
      exact numOf_some kn cl hc' hs'
    have m1 : t.1 ∈ endsOf t := by unfold endsOf; split <;> simp
    have m2 : t.2 ∈ endsOf t := by
      unfold endsOf
      split
      · rename_i z; rw [← z]; simp
      · simp
    obtain ⟨q, e1⟩ := there t.1 m1
    obtain ⟨q', e2⟩ := there t.2 m2
    obtain ⟨f1, f2⟩ := kf.fill t ht q q' e1 e2
    rcases two with z | z
    · have eq : q = p := by rw [← z, es] at e1; exact (Option.some.inj e1).symm
      rw [← z] at f1 f2
      rw [eq, hx] at f1
      cases f1
      rw [eq] at f2
      exact f2
    · have eq : q' = p := by rw [← z, es] at e2; exact (Option.some.inj e2).symm
      rw [← z] at f1 f2
      rw [eq, hx] at f2
      cases f2
      rw [eq] at f1
      exact f1
  refine ⟨⟨by omega, fun h hd e => ?_, fun h hd e => ?_, fun h p x e => ?_, fun S hS a b ha hb => ?_⟩, wl⟩
  · obtain ⟨m, row, e1, _, rfl⟩ := webOf_get e
    have := mk m (List.mem_of_getElem? e1)
    exact ⟨by show (0 : Int) ≤ (m : Int); omega, by show (m : Int) ≤ 9; omega⟩
  · obtain ⟨m, row, _, e2, rfl⟩ := webOf_get e
    have hl : h < cnt.length := by rw [← ks.1]; exact (List.getElem?_eq_some_iff.mp e2).1
    have hc : cnt[h]? = some cnt[h] := List.getElem?_eq_getElem hl
    have := ks.2 h _ row hc e2
    have := ok.ok.le h _ hc
    show (row.map pegI).length ≤ room
    rw [List.length_map]
    omega
  · rw [pegOf_web hml] at e
    obtain ⟨x', e1, rfl⟩ := Option.map_eq_some_iff.mp e
    refine ⟨x'.1, x'.2, rfl, ?_⟩
    rw [pegOf_web hml, back h p x' e1]
    rfl
  · have adj : ∀ h p g q, at2 r h p = some (g, q) → S h → S g := fun h p g q e => hS h p g q (by rw [pegOf_web hml, e]; rfl)
    have root : ∀ h, h < n → (S h ↔ S 0) := by
      intro h
      induction h using Nat.strongRecOn with
      | ind h ih =>
        intro hn
        by_cases z : h = 0
        · rw [z]
        · obtain ⟨g, s, t, hg, hm⟩ := tree h (by omega) hn
          have mm : ∀ d ∈ endsOf ((h, s), (g, t)), d ∈ ends ties := fun d hd => List.mem_flatMap.mpr ⟨_, hm, hd⟩
          have ne : ¬ ((h, s) : End) = (g, t) := fun z => by
            have := congrArg Prod.fst z
            simp only at this
            omega
          have i1 : (h, s) ∈ ends ties := mm _ (by unfold endsOf; rw [if_neg ne]; simp)
          have i2 : (g, t) ∈ ends ties := mm _ (by unfold endsOf; rw [if_neg ne]; simp)
          obtain ⟨c1, hc1, hs1⟩ := (ok.ok.mem h s).mp i1
          obtain ⟨c2, hc2, hs2⟩ := (ok.ok.mem g t).mp i2
          obtain ⟨q, e1⟩ := numOf_some kn cl hc1 hs1
          obtain ⟨q', e2⟩ := numOf_some kn cl hc2 hs2
          obtain ⟨f1, f2⟩ := kf.fill _ hm q q' e1 e2
          have ihg := ih g hg (by omega)
          exact ⟨fun sh => ihg.mp (adj h q g q' f1 sh), fun s0 => adj g q' h q f2 (ihg.mpr s0)⟩
    intro sa
    rw [wl] at ha hb
    exact (root b hb).mpr ((root a ha).mp sa)
end NH
set_option Elab.async false
set_option linter.all false
set_option maxRecDepth 100000
set_option maxHeartbeats 4000000
namespace NH
open PySem L2
def RowAt (H : Hp) (l : Addr) (row : List End) : Prop := ∃ as : List Addr, H l = some (.lst (as.map V.ref)) ∧ Paired (PairN H) as row
structure PegSt (Hb H : Hp) (Lp : Addr) (rows : Rows) : Prop where
  ex : ∃ ls : List Addr, H Lp = some (.lst (ls.map V.ref)) ∧ ls.Nodup ∧ (∀ l ∈ ls, Hb l = none ∧ l ≠ Lp) ∧ Paired (RowAt H) ls rows
theorem RowAt.upd_other {H : Hp} {l m : Addr} {row : List End} {o : HO} {xs : List V} (h : RowAt H l row) (hm : H m = some (.lst xs)) (ne : l ≠ m) : RowAt (upd H m o) l row := by
  obtain ⟨as, e, k⟩ := h
  exact ⟨as, by rw [upd_ne ne]; exact e, Paired.mapP k fun _ _ q => tups_lst hm _ _ q⟩
theorem RowAt.same {H H' : Hp} {l : Addr} {row : List End} (s : Same H H') (h : RowAt H l row) : RowAt H' l row := by
  obtain ⟨as, e, k⟩ := h
  exact ⟨as, s _ _ e, Paired.mapP k fun _ _ q => s _ _ q⟩
theorem PegSt.same {Hb H H' : Hp} {Lp : Addr} {rows : Rows} (s : Same H H') (k : PegSt Hb H Lp rows) : PegSt Hb H' Lp rows := by
  obtain ⟨ls, e, nd, fr, p⟩ := k.ex
  exact ⟨ls, s _ _ e, nd, fr, Paired.mapP p fun _ _ q => q.same s⟩
theorem paired_set {α β : Type} {R R' : α → β → Prop} {x : α} {y : β} : ∀ {xs : List α} {ys : List β} {i : Nat}, Paired R xs ys → xs[i]? = some x → (∀ (j : Nat) a b, j ≠ i → xs[j]? = some a → ys[j]? = some b → R a b → R' a b) → R' x y → Paired R' xs (ys.set i y)
  | _, _, _, .nil, e, _, _ => by simp at e
  | _, _, 0, .cons r t, e, k, h => by
    simp at e
    subst e
    refine .cons h ?_
    clear h r
    have k' : ∀ (j : Nat) a b, _ → _ → R a b → R' a b := fun j a b e1 e2 q => k (j + 1) a b (by omega) e1 e2 q
    clear k
    induction t with
    | nil => exact .nil
    | cons r t ih => exact .cons (k' 0 _ _ rfl rfl r) (ih fun j a b e1 e2 q => k' (j + 1) a b e1 e2 q)
  | _, _, i + 1, .cons r t, e, k, h => .cons (k 0 _ _ (by omega) rfl rfl r) (paired_set (i := i) t (by simpa using e) (fun j a b hj e1 e2 q => k (j + 1) a b (by omega) e1 e2 q) h)
theorem paired_setv {α β : Type} {R R' : α → β → Prop} {x : α} {y : β} (up : ∀ a b, R a b → R' a b) (h : R' x y) : ∀ {xs : List α} {ys : List β} (i : Nat), Paired R xs ys → Paired R' (xs.set i x) (ys.set i y)
  | _, _, _, .nil => .nil
  | _, _, 0, .cons _ t => .cons h (Paired.mapP t up)
  | _, _, i + 1, .cons r t => .cons (up _ _ r) (paired_setv up h i t)
theorem PegSt.put {Hb H : Hp} {Lp t1 : Addr} {rows : Rows} {h q : Nat} {e x : End} (k : PegSt Hb H Lp rows) (hx : at2 rows h q = some x) (m1 : H t1 = none) :
    ∃ (ls : List Addr) (l : Addr) (as : List Addr), (upd H t1 (.tup [natV e.1, natV e.2])) Lp = some (.lst (ls.map V.ref)) ∧ ls[h]? = some l ∧ (upd H t1 (.tup [natV e.1, natV e.2])) l = some (.lst (as.map V.ref)) ∧ q < as.length ∧ Hb l = none ∧
      PegSt Hb (upd (upd H t1 (.tup [natV e.1, natV e.2])) l (.lst ((as.map V.ref).set q (.ref t1)))) Lp (put2 rows h q e) := by
  obtain ⟨row, e1, e2⟩ := Option.bind_eq_some_iff.mp hx
  have k' := k.same (same_new (o := .tup [natV e.1, natV e.2]) m1)
  have et : (upd H t1 (.tup [natV e.1, natV e.2])) t1 = some (.tup [natV e.1, natV e.2]) := upd_same
  generalize (upd H t1 (.tup [natV e.1, natV e.2])) = H1 at k' et ⊢
  obtain ⟨ls, hLp, nd, fr, hP⟩ := k'.ex
  obtain ⟨l, hl, as, hla, hPa⟩ := paired_get' hP e1
  have al : as.length = row.length := Paired.length hPa
  have ql : q < row.length := (List.getElem?_eq_some_iff.mp e2).1
  have lm := List.mem_of_getElem? hl
  have eg : rows.getD h [] = row := by rw [List.getD_eq_getElem?_getD, e1]; rfl
  refine ⟨ls, l, as, hLp, hl, hla, by omega, (fr l lm).1, ls, by rw [upd_ne (fun z => (fr l lm).2 z.symm)]; exact hLp, nd, fr, ?_⟩
  unfold put2
  rw [eg]
  refine paired_set (i := h) hP hl (fun j a b hj ea eb q' => ?_) ?_
  · exact q'.upd_other hla fun z => hj (by subst z; exact nd_ix nd ea hl)
  · refine ⟨as.set q t1, by rw [upd_same, List.map_set], ?_⟩
    have tt := tups_lst (o := .lst ((as.map V.ref).set q (.ref t1))) hla
    have up : ∀ a b, PairN H1 a b → PairN (upd H1 l (.lst ((as.map V.ref).set q (.ref t1)))) a b := fun a b z => tt _ _ z
    have new : PairN (upd H1 l (.lst ((as.map V.ref).set q (.ref t1)))) t1 e := tt _ _ et
    exact paired_setv up new q hPa
theorem paired_mem {α β : Type} {R R' : α → β → Prop} : ∀ {xs : List α} {ys : List β}, Paired R xs ys → (∀ a b, a ∈ xs → R a b → R' a b) → Paired R' xs ys
  | _, _, .nil, _ => .nil
  | _, _, .cons r t, k => .cons (k _ _ List.mem_cons_self r) (paired_mem t fun a b h => k a b (List.mem_cons_of_mem _ h))
theorem paired_mapI {H : Hp} : ∀ {as : List Addr} {row : List End}, Paired (PairN H) as row → PairsAt H as (row.map pegI)
  | _, _, .nil => .nil
  | _, _, .cons r t => .cons r (paired_mapI t)
theorem ends_take : ∀ (ties : List Tie) (i : Nat), (ends (ties.take i)).Sublist (ends ties)
  | [], i => by simp [ends]
  | t :: r, 0 => by
    rw [List.take_zero]
    exact List.nil_sublist _
  | t :: r, i + 1 => by
    show (endsOf t ++ ends (r.take i)).Sublist (endsOf t ++ ends r)
    exact List.Sublist.append_left (ends_take r i) _
def spMarks : Sp := fun vs H Q _ => ∃ (p : Addr) (n : Nat), vs = [.ref p, natV n] ∧ BoxAt H p ∧ n ≤ 1000 ∧
  ∀ (r : Addr) (ms : List Nat) (H' : Hp), H r = none → Step p H H' → H' r = some (.lst (ms.map natV)) → ms.length = n → (∀ m ∈ ms, m ≤ 9) → Q (.ref r) H'
def spPlain : Sp := fun vs H Q _ => ∃ (p : Addr) (most room : Nat), vs = [.ref p, natV most, natV room] ∧ BoxAt H p ∧ 1 ≤ most ∧ most ≤ 500 ∧ 2 ≤ room ∧ room ≤ 500 ∧
  ∀ (r : Addr) (w : WebD) (H' : Hp), H r = none → Step p H H' → WebAt H' r w → Good room w → w.length ≤ most → Q (.ref r) H'
theorem repN (n x : Nat) : (List.replicate n [natV x]).flatten = (List.replicate n x).map natV := by
  induction n with
  | zero => rfl
  | succ n ih => rw [List.replicate_succ, List.replicate_succ, List.flatten_cons, ih]; rfl
theorem repA (n : Nat) (x : Addr) : (List.replicate n [V.ref x]).flatten = (List.replicate n x).map V.ref := by
  induction n with
  | zero => rfl
  | succ n ih => rw [List.replicate_succ, List.replicate_succ, List.flatten_cons, ih]; rfl
theorem paired_rep {α β : Type} {R : α → β → Prop} {x : α} {y : β} (r : R x y) : ∀ n : Nat, Paired R (List.replicate n x) (List.replicate n y)
  | 0 => .nil
  | n + 1 => by rw [List.replicate_succ, List.replicate_succ]; exact .cons r (paired_rep r n)
def NumsAt (H : Hp) (nl : List Addr) (num : List (List Nat)) : Prop := Paired (fun l π => H l = some (.lst (π.map natV))) nl num
abbrev rTupOf (K : PySem.W.Frag) : List V → Hp → VK → Prop := fun xs H Q => ∃ p ys, xs = [.ref p] ∧ ((SqL K H p ys ∧ ∀ l, H l = none → Q (.ref l) (upd H l (.tup ys))) ∨ (SqT K H p ys ∧ Q (.ref p) H))
end NH
set_option Elab.async false
set_option linter.all false
set_option maxRecDepth 100000
set_option maxHeartbeats 4000000
namespace NH
open PySem L2
abbrev sMarks : Stmt := top 13
abbrev sPlain : Stmt := top 14
abbrev nMarks : List Str := ["_law_box_here", "_law_many", "_law_form", "_law_two", "_law_k"]
abbrev nPlain : List Str := ["_law_box_here", "_law_most", "_law_room", "_law_many", "_law_marks_here", "_law_ties_here", "_law_count", "_law_number", "_law_pegs", "_law_h", "_law_s", "_law_g", "_law_t", "_law_one", "_law_mark", "_law_some"]
section
variable {P : Program} {w : World} {K : PySem.W.Frag} {mg : Str → Option Value} {base : Heap}
theorem scMarks : FnScope nMarks ["_law_box_here", "_law_many"] (defScope sMarks) := ⟨rfl, rfl, rfl, by decide +kernel, rfl, by decide +kernel, by decide +kernel⟩
abbrev tTk (i : Nat) (z : Int) : TE := tCall spTake [] E0 (tCons (tVar i) (tCons (tC (.int z)) tNil))
theorem ok_marks {f fT : Addr} {fd fdT : FuncData} (F : Fun K "_law_marks" "_law_marks" sMarks f fd) (GT : FnOk P w K mg base CX0 1 fT fdT ["_law_box_here", "_law_wide"] spTake) (bT : Binds K fdT ["_law_box_here", "_law_wide"] []) (mT : mg "_law_take" = some (.ref fT)) (kT : PySem.W.keepIn K (.ref fT) = true)
    (mrange : mg "range" = none) : FnOk P w K mg base CX0 2 f fd ["_law_box_here", "_law_many"] spMarks := by
  refine F.ok scMarks (fun vs H Q E h => ?_) (fun cdv A outer s H vs Q E hr h => ?_)
  · obtain ⟨p, n, rfl, _⟩ := h
    rfl
  · obtain ⟨p, n, rfl, hb, hn, k⟩ := h
    have nd := scMarks.nd
    refine ⟨_, pss_cons (ps_set (i := 2) nd rfl (Or.inr rfl) (pe_call GT hr (by rfl) mT kT bT .nil pass0 (pa_cons (pv 0) (pa_cons pe_int pa_nil))))
      (pss_cons (ps_set (i := 3) nd rfl (Or.inr rfl) (pe_tup (pa_cons (pe_call GT hr (by rfl) mT kT bT .nil pass0 (pa_cons (pv 0) (pa_cons pe_int pa_nil))) (pa_cons (pe_call GT hr (by rfl) mT kT bT .nil pass0 (pa_cons (pv 0) (pa_cons pe_int pa_nil))) pa_nil))))
      (pss_cons (ps_if (pt_cmpR op_lt (pv 2) pe_int (nomark _)) (pss_one (ps_ret (pe_op op_rep (pe_lst (pa_cons (pe_ix ix_tup (pv 3) pe_int (fun _ _ => rfl)) pa_nil)) (pv 1)))) pss_nil)
      (pss_one (ps_ret (pe_lc (own := [("_law_k", 4)]) (g := gName 4)
        (te := tOp (rIxL K) (tLst (tCons (tOp (rIxT K) (tVar 3) (tTk 0 2)) (tCons (tTk 0 10) tNil))) (tOp (rI0 fun i j => .int (i - j)) (tVar 2) (tC (.int 2)))) (by rfl) nd (pi_range1 (by rfl) mrange (pa_cons (pv 1) pa_nil)) (blkOk_by (own := [("_law_k", 4)]) (N := nMarks) (sc := defScope sMarks) (by decide +kernel))
        (fun _ _ _ _ _ => pg_name (i := 4) nd rfl (Or.inl rfl)) (fun _ _ _ _ _ => pts_nil)
        (fun _ _ _ _ _ => by exact pe_ix ix_list (pe_lst (pa_cons (pe_ix ix_tup (pv 3) (pe_call GT hr (by rfl) mT kT bT .nil pass0 (pa_cons (pv 0) (pa_cons pe_int pa_nil))) (fun _ _ => rfl)) (pa_cons (pe_call GT hr (by rfl) mT kT bT .nil pass0 (pa_cons (pv 0) (pa_cons pe_int pa_nil))) pa_nil))) (pe_op op_sub (pv 2) pe_int) (fun _ _ => rfl))))))), ?_⟩
    obtain ⟨xa, xb, hx, hx0, hx1⟩ := hb.ex
    refine ⟨_, rfl, p, xa, xb, _, rfl, hx, hx0, hx1, by decide, by decide, fun fm a1 b1 f0 f1 c1 c2 => ?_⟩
    refine ⟨_, rfl, p, a1, b1, _, rfl, upd_same, c1, c2, by decide, by decide, fun x a2 b2 x0 x1 c3 c4 => ?_⟩
    refine ⟨_, rfl, p, a2, b2, _, rfl, upd_same, c3, c4, by decide, by decide, fun y a3 b3 y0 y1 c5 c6 => ⟨(by show 2 ≤ sizeLine; decide), fun T nT => ?_⟩⟩
    obtain ⟨x', rfl⟩ := Int.eq_ofNat_of_zero_le x0
    obtain ⟨y', rfl⟩ := Int.eq_ofNat_of_zero_le y0
    have s1 := ((((Step.refl hb).take (x := a1) c1 c2).take (x := a2) c3 c4).take (x := a3) c5 c6).new (o := .tup [.int (x' : Int), .int (y' : Int)]) nT
    have hT : (upd (upd (upd (upd H p (.lst [.int a1, .int b1])) p (.lst [.int a2, .int b2])) p (.lst [.int a3, .int b3])) T (.tup [.int (x' : Int), .int (y' : Int)])) T = some (.tup [.int (x' : Int), .int (y' : Int)]) := upd_same
    refine ⟨_, rfl, _, _, rfl, rfl, _, rfl, ?_⟩
    refine ite2 (fun hf => ?_) (fun hf => ?_)
    · refine ⟨_, rfl, T, _, _, _, rfl, rfl, SqT.of upd_same, rfl, (by show 1 ≤ sizeLine; decide), fun a0 n0 => ?_⟩
      have s2 := s1.new (o := .lst [natV x']) n0
      refine ⟨_, rfl, a0, _, _, rfl, rfl, upd_same, by omega, by omega, (by show 1 * (n : Int).toNat ≤ sizeLine; rw [sizeLine_eq]; omega), fun r nr => ?_⟩
      refine k r (List.replicate n x') _ (s2.free nr) (s2.new nr) ?_ List.length_replicate fun m hm => ?_
      · rw [upd_same, Int.toNat_natCast, ← repN]
        rfl
      · rw [(List.mem_replicate.mp hm).2]
        omega
    · have hf' : ¬ fm < 2 := fun z => hf (decide_eq_true z)
      generalize (upd (upd (upd (upd H p (.lst [.int a1, .int b1])) p (.lst [.int a2, .int b2])) p (.lst [.int a3, .int b3])) T (.tup [.int (x' : Int), .int (y' : Int)])) = H1 at s1 hT ⊢
      refine ⟨_, rfl, _, rfl, by omega, by omega, fun D nD => ?_⟩
      have neD : D ≠ p := s1.box.ne nD
      have nDH : H D = none := s1.free nD
      have neTp : T ≠ p := fun z => by obtain ⟨_, _, e, _⟩ := s1.box.ex; rw [← z, hT] at e; cases e
      refine lc_range (lo := 0) (n := _) (fun i H2 => Step p H H2 ∧ H2 T = some (.tup [natV x', natV y']) ∧ ∃ ms : List Nat, H2 D = some (.lst (ms.map natV)) ∧ ms.length = i ∧ ∀ m ∈ ms, m ≤ 9)
        ⟨s1.new nD, same_new nD _ _ hT, [], upd_same, rfl, (fun m hm => nomatch hm)⟩ ?_ ?_
      · rintro i H2 hi ⟨s2, hT2, ms, hD, ml, mk⟩
        refine ⟨rfl, ?_⟩
        dsimp only [tYes]
        rw [if_pos rfl]
        obtain ⟨xa, xb, hx, hx0, hx1⟩ := s2.box.ex
        refine ⟨_, rfl, _, rfl, p, xa, xb, _, rfl, hx, hx0, hx1, by decide, by decide, fun u a4 b4 u0 u1 c7 c8 => ?_⟩
        obtain ⟨v, ev, hv⟩ : ∃ v : Nat, atI [natV x', natV y'] u = some (natV v) ∧ v ≤ 9 := by
          have h : u = 0 ∨ u = 1 := by omega
          rcases h with rfl | rfl
          · exact ⟨x', rfl, by omega⟩
          · exact ⟨y', rfl, by omega⟩
        have s3 := s2.take (x := a4) c7 c8
        refine ⟨T, _, _, _, rfl, rfl, SqT.of (by rw [upd_ne neTp]; exact hT2), ev, ?_⟩
        refine ⟨_, rfl, p, a4, b4, _, rfl, upd_same, c7, c8, by decide, by decide, fun y2 a5 b5 y20 y21 c9 c10 => ⟨(by show 2 ≤ sizeLine; decide), fun a0 n0 => ?_⟩⟩
        obtain ⟨y3, rfl⟩ := Int.eq_ofNat_of_zero_le y20
        have s4 := (s3.take (x := a5) c9 c10).new (o := .lst [natV v, natV y3]) n0
        obtain ⟨z, ez, hz⟩ : ∃ z : Nat, atI [natV v, natV y3] (fm - 2) = some (natV z) ∧ z ≤ 9 := by
          have h : fm - 2 = 0 ∨ fm - 2 = 1 := by omega
          rcases h with h | h <;> rw [h]
          · exact ⟨v, rfl, hv⟩
          · exact ⟨y3, rfl, by omega⟩
        refine ⟨_, rfl, _, _, rfl, rfl, a0, _, _, _, rfl, rfl, SqL.of upd_same, ez, ?_⟩
        have hD4 : (upd (upd (upd H2 p (.lst [.int a4, .int b4])) p (.lst [.int a5, .int b5])) a0 (.lst [natV v, natV y3])) D = some (.lst (ms.map natV)) := by
          rw [upd_ne (fun z => by rw [← z, upd_ne neD, upd_ne neD, hD] at n0; cases n0), upd_ne neD, upd_ne neD]; exact hD
        have hT4 : (upd (upd (upd H2 p (.lst [.int a4, .int b4])) p (.lst [.int a5, .int b5])) a0 (.lst [natV v, natV y3])) T = some (.tup [natV x', natV y']) := by
          rw [upd_ne (fun z => by rw [← z, upd_ne neTp, upd_ne neTp, hT2] at n0; cases n0), upd_ne neTp, upd_ne neTp]; exact hT2
        refine ⟨_, hD4, (by rw [List.length_map, ml, sizeLine_eq]; omega), s4.put nDH neD, (by rw [upd_ne (ne_of hT4 hD4 (fun z => nomatch z))]; exact hT4), ms ++ [z], (by rw [List.map_append]; exact upd_same), (by rw [List.length_append, ml]; rfl), fun m hm => ?_⟩
        rcases List.mem_append.mp hm with q | q
        · exact mk m q
        · rw [List.mem_singleton.mp q]; exact hz
      · rintro H2 ⟨s2, hT2, ms, hD, ml, mk⟩
        exact k D ms H2 nDH s2 hD (by omega) mk
end
end NH
set_option Elab.async false
set_option linter.all false
set_option maxRecDepth 100000
set_option maxHeartbeats 4000000
namespace NH
open PySem L2
section
variable {P : Program} {w : World} {K : PySem.W.Frag} {mg : Str → Option Value} {base : Heap}
theorem scPlain : FnScope nPlain ["_law_box_here", "_law_most", "_law_room"] (defScope sPlain) := ⟨rfl, rfl, rfl, by decide +kernel, rfl, by decide +kernel, by decide +kernel⟩
structure Dr (P : Program) (w : World) (K : PySem.W.Frag) (mg : Str → Option Value) (base : Heap) : Prop where
  take : ∃ (f : Addr) (fd : FuncData), FnOk P w K mg base CX0 1 f fd ["_law_box_here", "_law_wide"] spTake ∧ Binds K fd ["_law_box_here", "_law_wide"] [] ∧ mg "_law_take" = some (.ref f) ∧ PySem.W.keepIn K (.ref f) = true
  shuf : ∃ (f : Addr) (fd : FuncData), FnOk P w K mg base CX0 2 f fd ["_law_box_here", "_law_many"] spShuf ∧ Binds K fd ["_law_box_here", "_law_many"] [] ∧ mg "_law_shuffled" = some (.ref f) ∧ PySem.W.keepIn K (.ref f) = true
  mrange : mg "range" = none
  mlen : mg "len" = none
  mtuple : mg "tuple" = none
  mlist : mg "list" = none
  mzip : mg "zip" = none
  menum : mg "enumerate" = none
  mmin : mg "min" = none
  mmax : mg "max" = none
structure Dr2 (P : Program) (w : World) (K : PySem.W.Frag) (mg : Str → Option Value) (base : Heap) : Prop extends Dr P w K mg base where
  marks : ∃ (f : Addr) (fd : FuncData), FnOk P w K mg base CX0 2 f fd ["_law_box_here", "_law_many"] spMarks ∧ Binds K fd ["_law_box_here", "_law_many"] [] ∧ mg "_law_marks" = some (.ref f) ∧ PySem.W.keepIn K (.ref f) = true
  ties : ∃ (f : Addr) (fd : FuncData), FnOk P w K mg base CX0 2 f fd ["_law_box_here", "_law_many", "_law_room"] spTies ∧ Binds K fd ["_law_box_here", "_law_many", "_law_room"] [] ∧ mg "_law_ties" = some (.ref f) ∧ PySem.W.keepIn K (.ref f) = true
theorem ok_plain {f : Addr} {fd : FuncData} (F : Fun K "_law_plain_web" "_law_plain_web" sPlain f fd) (G : Dr2 P w K mg base) : FnOk P w K mg base CX0 3 f fd ["_law_box_here", "_law_most", "_law_room"] spPlain := by
  obtain ⟨fT, fdT, GT, bT, mT, kT⟩ := G.take
  obtain ⟨fS, fdS, GS, bS, mS, kS⟩ := G.shuf
  obtain ⟨fM, fdM, GM, bM, mM, kM⟩ := G.marks
  obtain ⟨fI, fdI, GI, bI, mI, kI⟩ := G.ties
  refine F.ok scPlain (fun vs H Q E h => ?_) (fun cdv A outer s H vs Q E hr h => ?_)
  · obtain ⟨p, most, room, rfl, _⟩ := h
    rfl
  · obtain ⟨p, most, room, rfl, hb, o0, o1, r0, r1, k⟩ := h
    have nd := scPlain.nd
    have hr1 := hr.mono (show 1 ≤ 2 by decide)
    refine ⟨_, pss_cons (ps_set (i := 3) nd rfl (Or.inl rfl) (pe_op op_add pe_int (pe_call GT hr1 (by rfl) mT kT bT .nil pass0 (pa_cons (pv 0) (pa_cons (pv 1) pa_nil)))))
      (pss_cons (ps_set (i := 4) nd rfl (Or.inl rfl) (pe_call GM hr (by rfl) mM kM bM .nil pass0 (pa_cons (pv 0) (pa_cons (pv 3) pa_nil))))
      (pss_cons (ps_asg (pe_call GI hr (by rfl) mI kI bI .nil pass0 (pa_cons (pv 0) (pa_cons (pv 3) (pa_cons (pv 2) pa_nil)))) (pg_tup (by rfl) (pgs_cons (pg_name (i := 5) nd rfl (Or.inl rfl)) (pgs_cons (pg_name (i := 6) nd rfl (Or.inl rfl)) pgs_nil))))
      (pss_cons (ps_setLc (i := 7) (own := [("_law_one", 13)]) (g := gName 13) (te := tCall spShuf [] E0 (tCons (tVar 0) (tCons (tVar 13) tNil))) (by rfl) nd rfl rfl (sw_true rfl rfl rfl (by decide +kernel)) (pi_list (pv 6)) (blkOk_by (own := [("_law_one", 13)]) (N := nPlain) (sc := defScope sPlain) (by decide +kernel))
          (fun _ _ _ _ _ => pg_name (i := 13) nd rfl (Or.inl rfl)) (fun _ _ _ _ _ => pts_nil) (fun _ _ _ _ _ => pe_call GS hr (by rfl) mS kS bS .nil pass0 (pa_cons (pv 0) (pa_cons (pv 13) pa_nil))))
      (pss_cons (ps_setLc (i := 8) (own := [("_law_one", 13)]) (g := gName 13) (te := tOp rRep (tLst (tCons (tTup (tCons (tC (.int 0)) (tCons (tC (.int 0)) tNil))) tNil)) (tVar 13)) (by rfl) nd rfl rfl (sw_true rfl rfl rfl (by decide +kernel)) (pi_list (pv 6)) (blkOk_by (own := [("_law_one", 13)]) (N := nPlain) (sc := defScope sPlain) (by decide +kernel))
          (fun _ _ _ _ _ => pg_name (i := 13) nd rfl (Or.inl rfl)) (fun _ _ _ _ _ => pts_nil) (fun _ _ _ _ _ => by exact pe_op op_rep (pe_lst (pa_cons (pe_tup (pa_cons pe_int (pa_cons pe_int pa_nil))) pa_nil)) (pv 13)))
      (pss_cons (ps_for PassesOwn.never rfl (pi_list (pv 5)) (pg_tup (by rfl) (pgs_cons (pg_tup (by rfl) (pgs_cons (pg_name (i := 9) nd rfl (Or.inl rfl)) (pgs_cons (pg_name (i := 10) nd rfl (Or.inl rfl)) pgs_nil))) (pgs_cons (pg_tup (by rfl) (pgs_cons (pg_name (i := 11) nd rfl (Or.inl rfl)) (pgs_cons (pg_name (i := 12) nd rfl (Or.inl rfl)) pgs_nil))) pgs_nil)))
        (pss_cons (ps_asg (pe_tup (pa_cons (pv 11) (pa_cons (pe_ix ix_list (pe_ix ix_list (pv 7) (pv 11) (fun _ _ => rfl)) (pv 12) (fun _ _ => rfl)) pa_nil))) (pg_sub (pe_ix ix_list (pv 8) (pv 9) (fun _ _ => rfl)) (pe_ix ix_list (pe_ix ix_list (pv 7) (pv 9) (fun _ _ => rfl)) (pv 10) (fun _ _ => rfl)) set_list))
        (pss_one (ps_asg (pe_tup (pa_cons (pv 9) (pa_cons (pe_ix ix_list (pe_ix ix_list (pv 7) (pv 9) (fun _ _ => rfl)) (pv 10) (fun _ _ => rfl)) pa_nil))) (pg_sub (pe_ix ix_list (pv 8) (pv 11) (fun _ _ => rfl)) (pe_ix ix_list (pe_ix ix_list (pv 7) (pv 11) (fun _ _ => rfl)) (pv 12) (fun _ _ => rfl)) set_list)))))
      (pss_one (ps_ret (pe_callTy call_tuple_of (by rfl) G.mtuple (by decide +kernel) (pa_cons (pe_lc (own := [("_law_mark", 14), ("_law_some", 15)]) (g := gTup K 2 (gCons (gName 14) (gCons (gName 15) gNil))) (te := tTup (tCons (tVar 14) (tCons (tCB (rTupOf K) (tCons (tVar 15) tNil)) tNil))) (by rfl) nd
          (pi_zip (by rfl) G.mzip (pa_cons (pv 4) (pa_cons (pv 8) pa_nil))) (blkOk_by (own := [("_law_mark", 14), ("_law_some", 15)]) (N := nPlain) (sc := defScope sPlain) (by decide +kernel))
          (fun _ _ _ _ _ => by exact pg_tup (by rfl) (pgs_cons (pg_name (i := 14) nd rfl (Or.inl rfl)) (pgs_cons (pg_name (i := 15) nd rfl (Or.inl rfl)) pgs_nil))) (fun _ _ _ _ _ => pts_nil)
          (fun _ _ _ _ _ => by exact pe_tup (pa_cons (pv 14) (pa_cons (pe_callTy call_tuple_of (by rfl) G.mtuple (by decide +kernel) (pa_cons (pv 15) pa_nil)) pa_nil)))) pa_nil))))))))), ?_⟩
    obtain ⟨xa, xb, hx, hx0, hx1⟩ := hb.ex
    refine ⟨_, rfl, _, rfl, p, xa, xb, _, rfl, hx, hx0, hx1, by omega, by omega, fun r a1 b1 rz rl c1 c2 => ⟨_, _, rfl, rfl, ?_⟩⟩
    obtain ⟨r', rfl⟩ := Int.eq_ofNat_of_zero_le rz
    have s1 := (Step.refl hb).take (x := a1) c1 c2
    generalize (upd H p (.lst [.int a1, .int b1])) = H1 at s1 ⊢
    -- marks
    refine ⟨_, rfl, _, rfl, p, 1 + r', rfl, s1.box, by omega, fun Lm ms H2 nLm s2 hLm ml mk => ?_⟩
    have neLm : Lm ≠ p := s1.box.ne nLm
    -- ties
    refine ⟨_, rfl, _, rfl, _, rfl, p, 1 + r', room, rfl, s2.box, by omega, by omega, r0, by omega, fun rt Lt Lc ties cnt H3 nrt s3 hrt nLt nLc hT hLc ok tree => ?_⟩
    have neLt : Lt ≠ p := s2.box.ne nLt
    have neLc : Lc ≠ p := s2.box.ne nLc
    have hLm3 := s3.keep _ _ neLm hLm
    have s13 := s1.trans (s2.trans s3)
    refine ⟨rt, _, rfl, SqT.of hrt, rfl, _, _, rfl, _, _, rfl, rfl, ?_⟩
    have cl := ok.ok.len
    -- number
    refine ⟨_, rfl, Lc, rfl, ⟨_, SqL.of hLc⟩, fun D nD => ?_⟩
    have neD : D ≠ p := s3.box.ne nD
    refine lc_list (K := K) (a := Lc) (xs := cnt.map natV) (fun i H4 => Step p H3 H4 ∧ ∃ (nl : List Addr) (num : List (List Nat)), H4 D = some (.lst (nl.map V.ref)) ∧ NumsAt H4 nl num ∧ num.length = i ∧ (∀ l ∈ nl, l ≠ D ∧ l ≠ p) ∧
        ∀ (j c : Nat) (π : List Nat), cnt[j]? = some c → num[j]? = some π → π.Perm (List.range c))
      ⟨(Step.refl s3.box).new nD, [], [], upd_same, .nil, rfl, (fun l hl => nomatch hl), fun j c π _ e => by simp at e⟩ (fun i H4 _ ⟨s4, _⟩ => SqL.of (s4.keep _ _ neLc hLc)) ?_ ?_
    · rintro i x H4 hxi ⟨s4, nl, num, hD, hN, nlen, nfr, nperm⟩
      rw [List.getElem?_map] at hxi
      obtain ⟨c, ec, rfl⟩ := Option.map_eq_some_iff.mp hxi
      have hil : i < cnt.length := (List.getElem?_eq_some_iff.mp ec).1
      have cr := ok.ok.le i c ec
      refine ⟨rfl, ?_⟩
      dsimp only [tYes]
      rw [if_pos rfl]
      refine ⟨_, rfl, _, rfl, p, c, rfl, s4.box, by omega, fun q π H5 nq s5 hq hp => ?_⟩
      have nqD : q ≠ D := fun z => by rw [z, hD] at nq; cases nq
      have nll : nl.length = num.length := Paired.length hN
      have hD5 := s5.keep _ _ neD hD
      refine ⟨_, hD5, (by rw [List.length_map, nll, nlen, sizeLine_eq]; omega), (s4.trans s5).put (o := .lst (nl.map V.ref ++ [.ref q])) nD neD, nl ++ [q], num ++ [π], (by rw [List.map_append]; exact upd_same), ?_, (by rw [List.length_append, nlen]; rfl), fun l hl => ?_, fun j c' π' e1 e2 => ?_⟩
      · have up : ∀ (l : Addr) (π' : List Nat), l ∈ nl → H4 l = some (.lst (π'.map natV)) → (upd H5 D (.lst (nl.map V.ref ++ [.ref q]))) l = some (.lst (π'.map natV)) := fun l π' hl e => by
          rw [upd_ne (nfr l hl).1]
          exact s5.keep _ _ (nfr l hl).2 e
        have hN2 : NumsAt (upd H5 D (.lst (nl.map V.ref ++ [.ref q]))) nl num := paired_mem hN fun l π' hl e => up l π' hl e
        have hnew : (upd H5 D (HO.lst (nl.map V.ref ++ [V.ref q]))) q = some (HO.lst (π.map natV)) := by rw [upd_ne nqD]; exact hq
        exact paired_snoc (R := fun (l : Addr) (π' : List Nat) => (upd H5 D (HO.lst (nl.map V.ref ++ [V.ref q]))) l = some (HO.lst (π'.map natV))) hnew hN2
      · rcases List.mem_append.mp hl with z | z
        · exact nfr l z
        · rw [List.mem_singleton.mp z]
          exact ⟨nqD, s4.box.ne nq⟩
      · by_cases z : j < num.length
        · rw [List.getElem?_append_left z] at e2
          exact nperm j c' π' e1 e2
        · rw [List.getElem?_append_right (by omega)] at e2
          have ej : j = i := by
            have := (List.getElem?_eq_some_iff.mp e2).1
            simp at this
            omega
          subst ej
          rw [nlen, Nat.sub_self] at e2
          rw [ec] at e1
          cases e1
          cases e2
          exact hp
    rintro H4 ⟨s4, nl, num, hD, hN, nlen, nfr, nperm⟩
    rw [List.length_map] at nlen
    have kn : NumOk (1 + r') cnt num := ⟨by omega, nperm⟩
    have hLc4 := s4.keep _ _ neLc hLc
    have hLm4 := s4.keep _ _ neLm hLm3
    have hT4 : TiesAt H4 Lt ties := by
      obtain ⟨as, h1, h2⟩ := hT.ex
      exact ⟨as, s4.keep _ _ neLt h1, Paired.mapP h2 fun _ _ q => q.tups (s4.tups s3.box)⟩
    -- pegs
    refine ⟨_, rfl, Lc, rfl, ⟨_, SqL.of hLc4⟩, fun Lp nLp => ?_⟩
    have neLp : Lp ≠ p := s4.box.ne nLp
    refine lc_list (K := K) (a := Lc) (xs := cnt.map natV) (fun i H6 => Step p H4 H6 ∧ ∃ rows : Rows, PegSt H4 H6 Lp rows ∧ rows.length = i ∧ ∀ (j c : Nat) row, cnt[j]? = some c → rows[j]? = some row → row.length = c)
      ⟨(Step.refl s4.box).new nLp, [], ⟨[], upd_same, List.nodup_nil, (fun l hl => nomatch hl), .nil⟩, rfl, fun j c row _ e => by simp at e⟩ (fun i H6 _ ⟨s6, _⟩ => SqL.of (s6.keep _ _ neLc hLc4)) ?_ ?_
    · rintro i x H6 hxi ⟨s6, rows, hPg, rlen, rsh⟩
      rw [List.getElem?_map] at hxi
      obtain ⟨c, ec, rfl⟩ := Option.map_eq_some_iff.mp hxi
      have hil : i < cnt.length := (List.getElem?_eq_some_iff.mp ec).1
      have cr := ok.ok.le i c ec
      refine ⟨rfl, ?_⟩
      dsimp only [tYes]
      rw [if_pos rfl]
      refine ⟨(by show 2 ≤ sizeLine; decide), fun z mz => ⟨(by show 1 ≤ sizeLine; decide), fun a0 m0 => ⟨_, rfl, a0, _, _, rfl, rfl, upd_same, by omega, by omega, (by show 1 * (c : Int).toNat ≤ sizeLine; rw [sizeLine_eq]; omega), fun l nl' => ?_⟩⟩⟩
      have q1 := (same_new (o := .tup [.int 0, .int 0]) mz).trans (same_new (o := .lst [.ref z]) m0)
      have q2 := same_new (o := .lst (List.replicate (c : Int).toNat [V.ref z]).flatten) nl'
      have q := q1.trans q2
      have nl6 : H6 l = none := q1.free nl'
      have ez := q2 _ _ ((same_new (o := .lst [.ref z]) m0) _ _ (upd_same (H := H6) (a := z) (o := .tup [.int 0, .int 0])))
      have el : (upd (upd (upd H6 z (.tup [.int 0, .int 0])) a0 (.lst [.ref z])) l (.lst (List.replicate (c : Int).toNat [V.ref z]).flatten)) l = some (.lst ((List.replicate c z).map V.ref)) := by rw [upd_same, Int.toNat_natCast, repA]
      generalize (upd (upd (upd H6 z (.tup [.int 0, .int 0])) a0 (.lst [.ref z])) l (.lst (List.replicate (c : Int).toNat [V.ref z]).flatten)) = H7 at q q2 ez el ⊢
      obtain ⟨ls, hLp, lnd, lfr, hP⟩ := hPg.ex
      have hLp7 := q _ _ hLp
      have lll : ls.length = rows.length := Paired.length hP
      have neLl : l ≠ Lp := fun z => by rw [z, hLp] at nl6; cases nl6
      refine ⟨_, hLp7, (by rw [List.length_map, lll, rlen, sizeLine_eq]; omega), (s6.same q).put nLp neLp, rows ++ [List.replicate c (0, 0)], ⟨ls ++ [l], (by rw [List.map_append]; exact upd_same), ?_, fun m hm => ?_, ?_⟩, (by rw [List.length_append, rlen]; rfl), fun j c' row e1 e2 => ?_⟩
      · refine nd_snoc lnd fun hm => ?_
        obtain ⟨j, ej⟩ := List.getElem?_of_mem hm
        obtain ⟨row, _, as, e, _⟩ := paired_get hP ej
        rw [nl6] at e
        cases e
      · rcases List.mem_append.mp hm with y | y
        · exact lfr m y
        · rw [List.mem_singleton.mp y]
          exact ⟨s6.free nl6, neLl⟩
      · have hP2 : Paired (RowAt (upd H7 Lp (.lst (ls.map V.ref ++ [.ref l])))) ls rows := paired_mem hP fun m row hm e => (e.same q).upd_other hLp7 (lfr m hm).2
        refine paired_snoc (R := RowAt (upd H7 Lp (.lst (ls.map V.ref ++ [.ref l])))) (RowAt.upd_other ⟨List.replicate c z, el, ?_⟩ hLp7 neLl) hP2
        exact paired_rep (R := PairN H7) (by show H7 z = some (.tup [natV 0, natV 0]); exact ez) c
      · by_cases y : j < rows.length
        · rw [List.getElem?_append_left y] at e2
          exact rsh j c' row e1 e2
        · rw [List.getElem?_append_right (by omega)] at e2
          have ej : j = i := by
            have := (List.getElem?_eq_some_iff.mp e2).1
            simp at this
            omega
          subst ej
          rw [rlen, Nat.sub_self] at e2
          rw [ec] at e1
          cases e1
          cases e2
          exact List.length_replicate
    rintro H6 ⟨s6, rows, hPg, rlen, rsh⟩
    rw [List.length_map] at rlen
    -- the ties
    obtain ⟨as, hLt4, hTP⟩ := hT4.ex
    have hLt6 := s6.keep _ _ neLt hLt4
    refine ⟨_, rfl, Lt, rfl, ⟨_, SqL.of hLt6⟩, for_list (K := K) (a := Lt) (xs := as.map V.ref) (fun i σ H7 => ∃ (rows : Rows) (o9 o10 o11 o12 o13 o14 o15 : Option V), σ = [some (.ref p), some (natV most), some (natV room), some (natV (1 + r')), some (.ref Lm), some (.ref Lt), some (.ref Lc), some (.ref D), some (.ref Lp), o9, o10, o11, o12, o13, o14, o15] ∧
        Step p H4 H7 ∧ PegSt H4 H7 Lp rows ∧ Shape cnt rows ∧ Filled num (ties.take i) rows)
      ⟨rows, none, none, none, none, none, none, none, rfl, s6, hPg, ⟨by omega, rsh⟩, ⟨fun t ht => by simp at ht⟩⟩ (fun i σ H7 _ ⟨_, _, _, _, _, _, _, _, _, s7, _⟩ => SqL.of (s7.keep _ _ neLt hLt4)) ?_ ?_⟩
    · clear hPg rsh rlen s6 hLt6
      rintro i y σ H7 hyi ⟨rows, o9, o10, o11, o12, o13, o14, o15, rfl, s7, hPg, sh, fl⟩
      rw [List.getElem?_map] at hyi
      obtain ⟨ta, eta, rfl⟩ := Option.map_eq_some_iff.mp hyi
      obtain ⟨t, et, x, y, e0, e1, e2⟩ := paired_get hTP eta
      have tt7 := s7.tups s4.box
      have hD7 := s7.keep _ _ neD hD
      have hN7 : NumsAt H7 nl num := paired_mem hN fun l π hl e => s7.keep _ _ (nfr l hl).2 e
      refine ⟨ta, _, rfl, SqT.of (tt7 _ _ e0), rfl, _, _, rfl, ⟨x, _, rfl, SqT.of (tt7 _ _ e1), rfl, _, _, rfl, _, _, rfl, rfl, ?_⟩⟩
      refine ⟨_, _, rfl, ⟨y, _, rfl, SqT.of (tt7 _ _ e2), rfl, _, _, rfl, _, _, rfl, rfl, rfl, ?_⟩⟩
      -- the numbers of its ends
      have tm : t ∈ ties := List.mem_of_getElem? et
      have m1 : t.1 ∈ endsOf t := by unfold endsOf; split <;> simp
      have m2 : t.2 ∈ endsOf t := by
        unfold endsOf
        split
        · rename_i z; rw [← z]; simp
        · simp
      obtain ⟨ch, ech, hsh⟩ := (ok.ok.mem t.1.1 t.1.2).mp (List.mem_flatMap.mpr ⟨t, tm, m1⟩)
      obtain ⟨cg, ecg, hsg⟩ := (ok.ok.mem t.2.1 t.2.2).mp (List.mem_flatMap.mpr ⟨t, tm, m2⟩)
      obtain ⟨q, eq⟩ := numOf_some kn cl ech hsh
      obtain ⟨q', eq'⟩ := numOf_some kn cl ecg hsg
      have qlt := numOf_lt kn ech eq
      have qlt' := numOf_lt kn ecg eq'
      obtain ⟨π, ep, eqq⟩ := Option.bind_eq_some_iff.mp eq
      obtain ⟨π', ep', eqq'⟩ := Option.bind_eq_some_iff.mp eq'
      obtain ⟨lh, elh, hlh⟩ := paired_get' hN7 ep
      obtain ⟨lg, elg, hlg⟩ := paired_get' hN7 ep'
      have glh : (nl.map V.ref)[t.1.1]? = some (.ref lh) := by rw [List.getElem?_map, elh]; rfl
      have glg : (nl.map V.ref)[t.2.1]? = some (.ref lg) := by rw [List.getElem?_map, elg]; rfl
      obtain ⟨x1, ex1⟩ := shape_at sh ech qlt
      -- pegs[h][number[h][s]] = (g, number[g][t])
      refine ⟨_, rfl, _, rfl, _, rfl, D, _, _, _, rfl, rfl, SqL.of hD7, at_of rfl glg, _, rfl, lg, _, _, _, rfl, rfl, SqL.of hlg, natV_at rfl eqq', (by show 2 ≤ sizeLine; decide), fun t1 n1 => ?_⟩
      obtain ⟨ls, l, as', hLp8, ell, hl8, ql8, nl8, hPg8⟩ := hPg.put (e := (t.2.1, q')) ex1 n1
      have sm1 := same_new (o := .tup [natV t.2.1, natV q']) n1
      have nelp : l ≠ p := s4.box.ne nl8
      have gl : (ls.map V.ref)[t.1.1]? = some (.ref l) := by rw [List.getElem?_map, ell]; rfl
      refine ⟨_, rfl, _, rfl, Lp, _, _, _, rfl, rfl, SqL.of hLp8, at_of rfl gl, _, rfl, _, rfl, D, _, _, _, rfl, rfl, SqL.of (sm1 _ _ hD7), at_of rfl glh, _, rfl, lh, _, _, _, rfl, rfl, SqL.of (sm1 _ _ hlh), natV_at rfl eqq, l, _, _, q, rfl, rfl, hl8, ixN_nat rfl (by rw [List.length_map]; omega), ?_⟩
      have s8 := (s7.same sm1).put (o := .lst ((as'.map V.ref).set q (.ref t1))) nl8 nelp
      generalize (upd (upd H7 t1 (.tup [natV t.2.1, natV q'])) l (.lst ((as'.map V.ref).set q (.ref t1)))) = H8 at s8 hPg8 ⊢
      have sh8 := sh.put (h := t.1.1) (q := q) (e := (t.2.1, q'))
      obtain ⟨x2, ex2⟩ := shape_at sh8 ecg qlt'
      have hD8 := s8.keep _ _ neD hD
      have hN8 : NumsAt H8 nl num := paired_mem hN fun l π hl e => s8.keep _ _ (nfr l hl).2 e
      have hlh8 : H8 lh = some (.lst (π.map natV)) := by
        obtain ⟨a, b, c⟩ := paired_get hN8 elh
        rw [ep] at b
        cases b
        exact c
      have hlg8 : H8 lg = some (.lst (π'.map natV)) := by
        obtain ⟨a, b, c⟩ := paired_get hN8 elg
        rw [ep'] at b
        cases b
        exact c
      -- pegs[g][number[g][t]] = (h, number[h][s])
      refine ⟨_, rfl, _, rfl, _, rfl, D, _, _, _, rfl, rfl, SqL.of hD8, at_of rfl glh, _, rfl, lh, _, _, _, rfl, rfl, SqL.of hlh8, natV_at rfl eqq, (by show 2 ≤ sizeLine; decide), fun t2 n2 => ?_⟩
      obtain ⟨ls2, l2, as2, hLp9, ell2, hl9, ql9, nl9, hPg9⟩ := hPg8.put (e := (t.1.1, q)) ex2 n2
      have sm2 := same_new (o := .tup [natV t.1.1, natV q]) n2
      have nelp2 : l2 ≠ p := s4.box.ne nl9
      have gl2 : (ls2.map V.ref)[t.2.1]? = some (.ref l2) := by rw [List.getElem?_map, ell2]; rfl
      refine ⟨_, rfl, _, rfl, Lp, _, _, _, rfl, rfl, SqL.of hLp9, at_of rfl gl2, _, rfl, _, rfl, D, _, _, _, rfl, rfl, SqL.of (sm2 _ _ hD8), at_of rfl glg, _, rfl, lg, _, _, _, rfl, rfl, SqL.of (sm2 _ _ hlg8), natV_at rfl eqq', l2, _, _, q', rfl, rfl, hl9, ixN_nat rfl (by rw [List.length_map]; omega), ?_⟩
      have s9 := (s8.same sm2).put (o := .lst ((as2.map V.ref).set q' (.ref t2))) nl9 nelp2
      refine ⟨_, _, _, _, _, _, _, _, rfl, s9, hPg9, sh8.put, ?_⟩
      rw [take_snoc et]
      refine Filled.add (room := room) kn cl ?_ sh fl eq eq' ex1 ex2
      rw [← take_snoc et]
      exact (ok.ok.nd).sublist (ends_take _ _)
    -- the web
    · rintro σ H7 ⟨rows, o9, o10, o11, o12, o13, o14, o15, rfl, s7, hPg, sh, fl⟩
      rw [List.length_map, Paired.length hTP, List.take_length] at fl
      obtain ⟨gd, wl⟩ := plain_good (ms := ms) (by omega) ok tree kn sh fl ml mk
      obtain ⟨ls, hLp, lnd, lfr, hP⟩ := hPg.ex
      have hLm7 := s7.keep _ _ neLm hLm4
      have rl : rows.length = 1 + r' := by rw [sh.1, cl]
      have lll : ls.length = rows.length := Paired.length hP
      refine ⟨_, rfl, _, rfl, Lm, Lp, _, _, rfl, SqL.of hLm7, SqL.of hLp, fun D3 n3 => ?_⟩
      refine lc_zip (K := K) (a := Lm) (b := Lp) (xs := ms.map natV) (ys := ls.map V.ref) (by rw [List.length_map, List.length_map]; omega) (fun i H8 => Same H7 H8 ∧ ∃ hs : List Addr, H8 D3 = some (.lst (hs.map V.ref)) ∧ hs.length = i ∧ Paired (HandAt H8) hs ((webOf ms rows).take i))
        ⟨same_new n3, [], upd_same, rfl, .nil⟩ (fun i H8 _ ⟨s8, _⟩ => ⟨SqL.of (s8 _ _ hLm7), SqL.of (s8 _ _ hLp)⟩) ?_ ?_
      · rintro i x y T H8 hxi hyi ⟨s8, hs, hD3, hl, hH⟩ nT
        rw [List.getElem?_map] at hxi hyi
        obtain ⟨m, em, rfl⟩ := Option.map_eq_some_iff.mp hxi
        obtain ⟨l, el, rfl⟩ := Option.map_eq_some_iff.mp hyi
        obtain ⟨row, er, as', hla, hra⟩ := paired_get hP el
        have s9 := s8.trans (same_new (o := .tup [natV m, .ref l]) nT)
        have sT := same_new (o := .tup [natV m, .ref l]) nT
        refine ⟨T, _, rfl, SqT.of upd_same, rfl, _, _, rfl, _, _, rfl, rfl, rfl, ?_⟩
        dsimp only [tYes]
        rw [if_pos rfl]
        refine ⟨_, rfl, _, rfl, l, _, rfl, .inl ⟨SqL.of (s9 _ _ hla), fun q nq => ⟨(by show 2 ≤ sizeLine; decide), fun hd nh => ?_⟩⟩⟩
        have q1 := (same_new (o := .tup (as'.map V.ref)) nq).trans (same_new (o := .tup [natV m, .ref q]) nh)
        have q0 := sT.trans q1
        have eq1 := (same_new (o := .tup [natV m, .ref q]) nh) _ _ (upd_same (a := q) (o := .tup (as'.map V.ref)) (H := upd H8 T (.tup [natV m, .ref l])))
        have eh : (upd (upd (upd H8 T (.tup [natV m, .ref l])) q (.tup (as'.map V.ref))) hd (.tup [natV m, .ref q])) hd = some (.tup [natV m, .ref q]) := upd_same
        generalize (upd (upd (upd H8 T (.tup [natV m, .ref l])) q (.tup (as'.map V.ref))) hd (.tup [natV m, .ref q])) = H9 at q1 q0 eq1 eh ⊢
        have hD9 := q0 _ _ hD3
        have il : i < ms.length := (List.getElem?_eq_some_iff.mp em).1
        refine ⟨_, hD9, (by rw [List.length_map, hl, sizeLine_eq]; omega), fun b o e => ?_, hs ++ [hd], (by rw [List.map_append]; exact upd_same), (by rw [List.length_append, hl]; rfl), ?_⟩
        · rw [upd_ne (ne_of_none e n3)]
          exact q0 _ _ (s8 _ _ e)
        · have ew : (webOf ms rows)[i]? = some ((m : Int), row.map pegI) := by
            unfold webOf
            rw [List.getElem?_zipWith, em, er]
          rw [take_snoc ew]
          have tt := (sTups q0).trans (tups_lst (o := .lst (hs.map V.ref ++ [.ref hd])) hD9)
          have tt9 := tups_lst (o := .lst (hs.map V.ref ++ [.ref hd])) hD9
          have hra9 : Paired (PairN (upd H9 D3 (.lst (hs.map V.ref ++ [.ref hd])))) as' row := Paired.mapP hra fun a b z => tt _ _ (s8 _ _ z)
          have hnew : HandAt (upd H9 D3 (.lst (hs.map V.ref ++ [.ref hd]))) hd ((m : Int), row.map pegI) := ⟨q, tt9 _ _ eh, as', tt9 _ _ eq1, paired_mapI hra9⟩
          exact paired_snoc (R := HandAt (upd H9 D3 (.lst (hs.map V.ref ++ [.ref hd])))) hnew (Paired.mapP hH fun _ _ z => z.tups tt)
      · rintro H8 ⟨s8, hs, hD3, hl, hH⟩
        rw [List.length_map, ml] at hH
        rw [List.take_of_length_le (by omega)] at hH
        refine ⟨D3, _, rfl, .inl ⟨SqL.of hD3, fun r nr => ?_⟩⟩
        have sAll : Step p H (upd H8 r (.tup (hs.map V.ref))) := (((s13.trans s4).trans s7).same s8).new nr
        refine k r (webOf ms rows) _ ((((s13.trans s4).trans s7).same s8).free nr) sAll ⟨hs, upd_same, Paired.mapP hH fun _ _ z => z.tups (sTups (same_new nr))⟩ gd (by omega)
end
end NH
set_option Elab.async false
set_option linter.all false
set_option maxRecDepth 100000
set_option maxHeartbeats 4000000
namespace NH
open PySem L2
def renI (π : List Nat) (x : PegD) : PegD := ((((π[x.1.toNat]?).getD 0 : Nat) : Int), x.2)
def renH (π : List Nat) (hd : HandD) : HandD := (hd.1, hd.2.map (renI π))
structure RenOf (w : WebD) (π : List Nat) (w' : WebD) : Prop where
  len : w'.length = w.length
  at_ : ∀ (h j : Nat) hd, π[h]? = some j → w[h]? = some hd → w'[j]? = some (renH π hd)
theorem perm_onto {n j : Nat} {π : List Nat} (h : π.Perm (List.range n)) (hj : j < n) : ∃ i, i < n ∧ π[i]? = some j := by
  have m : j ∈ π := h.mem_iff.mpr (List.mem_range.mpr hj)
  obtain ⟨i, e⟩ := List.getElem?_of_mem m
  have := h.length_eq
  rw [List.length_range] at this
  exact ⟨i, by have := (List.getElem?_eq_some_iff.mp e).1; omega, e⟩
theorem perm_lt {n i j : Nat} {π : List Nat} (h : π.Perm (List.range n)) (e : π[i]? = some j) : j < n := List.mem_range.mp (h.mem_iff.mp (List.mem_of_getElem? e))
theorem perm_get {n i : Nat} {π : List Nat} (h : π.Perm (List.range n)) (hi : i < n) : ∃ j, π[i]? = some j := by
  have := h.length_eq
  rw [List.length_range] at this
  exact ⟨π[i]'(by omega), List.getElem?_eq_getElem (by omega)⟩
theorem perm_inj {n i i' j : Nat} {π : List Nat} (h : π.Perm (List.range n)) (e : π[i]? = some j) (e' : π[i']? = some j) : i = i' := nd_ix (h.nodup_iff.mpr List.nodup_range) e e'
theorem RenOf.peg {w w' : WebD} {π : List Nat} (r : RenOf w π w') {h j p : Nat} (e : π[h]? = some j) (hh : h < w.length) : pegOf w' j p = (pegOf w h p).map (renI π) := by
  have e1 : w[h]? = some w[h] := List.getElem?_eq_getElem hh
  unfold pegOf
  rw [e1, r.at_ h j _ e e1]
  show ((w[h]).2.map (renI π))[p]? = ((w[h]).2[p]?).map (renI π)
  rw [List.getElem?_map]
theorem renI_nat {π : List Nat} {g j q : Nat} (e : π[g]? = some j) : renI π ((g : Int), (q : Int)) = ((j : Int), (q : Int)) := by
  unfold renI
  simp only [Int.toNat_natCast, e, Option.getD_some]
theorem RenOf.good {room : Nat} {w w' : WebD} {π : List Nat} (r : RenOf w π w') (hp : π.Perm (List.range w.length)) (g : Good room w) : Good room w' := by
  have hl := r.len
  -- each hand of the new web comes from one of the old
  have from_ : ∀ (j : Nat) hd', w'[j]? = some hd' → ∃ (h : Nat) (hd : HandD), π[h]? = some j ∧ w[h]? = some hd ∧ hd' = renH π hd := by
    intro j hd' e
    have hj : j < w.length := by rw [← hl]; exact (List.getElem?_eq_some_iff.mp e).1
    obtain ⟨h, hh, eh⟩ := perm_onto hp hj
    have e1 : w[h]? = some w[h] := List.getElem?_eq_getElem hh
    rw [r.at_ h j _ eh e1] at e
    exact ⟨h, _, eh, e1, (Option.some.inj e).symm⟩
  refine ⟨by rw [hl]; exact g.pos, fun j hd' e => ?_, fun j hd' e => ?_, fun j p x e => ?_, fun S hS a b ha hb sa => ?_⟩
  · obtain ⟨h, hd, _, e1, rfl⟩ := from_ j hd' e
    exact g.mark h hd e1
  · obtain ⟨h, hd, _, e1, rfl⟩ := from_ j hd' e
    show (hd.2.map (renI π)).length ≤ room
    rw [List.length_map]
    exact g.pegs h hd e1
  · have hj : j < w.length := by rw [← hl]; exact pegOf_lt e
    obtain ⟨h, hh, eh⟩ := perm_onto hp hj
    rw [r.peg eh hh] at e
    obtain ⟨x0, e0, rfl⟩ := Option.map_eq_some_iff.mp e
    obtain ⟨g', q, rfl, back⟩ := g.tie h p x0 e0
    have hg := pegOf_lt back
    obtain ⟨j', ej'⟩ := perm_get hp hg
    refine ⟨j', q, renI_nat ej', ?_⟩
    rw [r.peg ej' hg, back]
    show some (renI π ((h : Int), (p : Int))) = _
    rw [renI_nat eh]
  · have closed : ∀ h p g' q : Nat, pegOf w h p = some ((g' : Int), (q : Int)) → (∃ j, π[h]? = some j ∧ S j) → ∃ j, π[g']? = some j ∧ S j := by
      rintro h p g' q e ⟨j, ej, sj⟩
      obtain ⟨g2, q2, e2, back⟩ := g.tie h p _ e
      have hg : g' < w.length := by
        have z := congrArg Prod.fst e2
        simp only at z
        have : g' = g2 := by exact_mod_cast z
        rw [this]
        exact pegOf_lt back
      obtain ⟨j', ej'⟩ := perm_get hp hg
      refine ⟨j', ej', hS j p j' q ?_ sj⟩
      rw [r.peg ej (pegOf_lt e), e]
      show some (renI π ((g' : Int), (q : Int))) = _
      rw [renI_nat ej']
    rw [hl] at ha hb
    obtain ⟨ia, hia, ea⟩ := perm_onto hp ha
    obtain ⟨ib, hib, eb⟩ := perm_onto hp hb
    obtain ⟨j, ej, sj⟩ := g.conn (fun h => ∃ j, π[h]? = some j ∧ S j) closed ia ib hia hib ⟨a, ea, sa⟩
    rw [eb] at ej
    cases ej
    exact sj
theorem collect {β : Type} {R : Addr → β → Prop} : ∀ (xs : List V) (P : Nat → β → Prop), (∀ (j : Nat) x, xs[j]? = some x → ∃ a y, x = .ref a ∧ R a y ∧ P j y) → ∃ (as : List Addr) (ys : List β), xs = as.map V.ref ∧ Paired R as ys ∧ ∀ (j : Nat) y, ys[j]? = some y → P j y
  | [], P, _ => ⟨[], [], rfl, .nil, fun j y e => by simp at e⟩
  | x :: xs, P, h => by
    obtain ⟨a, y, rfl, r, p⟩ := h 0 x rfl
    obtain ⟨as, ys, e, k, q⟩ := collect xs (fun j => P (j + 1)) fun j x e => h (j + 1) x (by simpa using e)
    refine ⟨a :: as, y :: ys, by rw [e]; rfl, .cons r k, fun j z ez => ?_⟩
    cases j with
    | zero => simp at ez; rw [← ez]; exact p
    | succ j => exact q j z (by simpa using ez)
def spRen : Sp := fun vs H Q _ => ∃ (a r : Addr) (w : WebD) (π : List Nat), vs = [.ref a, .ref r] ∧ WebAt H a w ∧ H r = some (.lst (π.map natV)) ∧ π.Perm (List.range w.length) ∧ w.length ≤ 1000 ∧
  (∀ (h p : Nat) x, pegOf w h p = some x → ∃ g q : Nat, x = ((g : Int), (q : Int)) ∧ g < w.length) ∧ (∀ (h : Nat) hd, w[h]? = some hd → hd.2.length ≤ 1000) ∧
  ∀ (q : Addr) (w' : WebD) (H' : Hp), H q = none → Same H H' → WebAt H' q w' → RenOf w π w' → Q (.ref q) H'
end NH
set_option Elab.async false
set_option linter.all false
set_option maxRecDepth 100000
set_option maxHeartbeats 4000000
namespace NH
open PySem L2
abbrev sRen : Stmt := top 15
abbrev nRen : List Str := ["_law_web_here", "_law_row", "_law_found", "_law_h", "_law_mark", "_law_pegs", "_law_g", "_law_q"]
section
variable {P : Program} {w : World} {K : PySem.W.Frag} {mg : Str → Option Value} {base : Heap}
theorem scRen : FnScope nRen ["_law_web_here", "_law_row"] (defScope sRen) := ⟨rfl, rfl, rfl, by decide +kernel, rfl, by decide +kernel, by decide +kernel⟩
theorem ok_ren {f : Addr} {fd : FuncData} (F : Fun K "_law_renamed" "_law_renamed" sRen f fd) (G : Dr P w K mg base) : FnOk P w K mg base CX0 1 f fd ["_law_web_here", "_law_row"] spRen := by
  refine F.ok scRen (fun vs H Q E h => ?_) (fun cdv A outer s H vs Q E hr h => ?_)
  · obtain ⟨a, r, w', π, rfl, _⟩ := h
    rfl
  · obtain ⟨a, r, wb, π, rfl, hW, hR, hp, wl, hpeg, hpl, k⟩ := h
    have nd := scRen.nd
    refine ⟨_, pss_cons (ps_set (i := 2) nd rfl (Or.inl rfl) (pe_op op_rep (pe_lst (pa_cons pe_non pa_nil)) (pe_callB call_len_seq (by rfl) G.mlen PySem.boot_len (pa_cons (pv 0) pa_nil))))
      (pss_cons (ps_for PassesOwn.never rfl (pi_enumT (by rfl) G.menum (pa_cons (pv 0) pa_nil)) (pg_tup (by rfl) (pgs_cons (pg_name (i := 3) nd rfl (Or.inl rfl)) (pgs_cons (pg_tup (by rfl) (pgs_cons (pg_name (i := 4) nd rfl (Or.inl rfl)) (pgs_cons (pg_name (i := 5) nd rfl (Or.inl rfl)) pgs_nil))) pgs_nil)))
        (pss_one (ps_asg (pe_tup (pa_cons (pv 4) (pa_cons (pe_callTy call_tuple_of (by rfl) G.mtuple (by decide +kernel) (pa_cons (pe_lc (own := [("_law_g", 6), ("_law_q", 7)]) (g := gTup K 2 (gCons (gName 6) (gCons (gName 7) gNil))) (te := tTup (tCons (tOp (rIxL K) (tVar 1) (tVar 6)) (tCons (tVar 7) tNil))) (by rfl) nd (pi_tup (pv 5)) (blkOk_by (own := [("_law_g", 6), ("_law_q", 7)]) (N := nRen) (sc := defScope sRen) (by decide +kernel))
            (fun _ _ _ _ _ => by exact pg_tup (by rfl) (pgs_cons (pg_name (i := 6) nd rfl (Or.inl rfl)) (pgs_cons (pg_name (i := 7) nd rfl (Or.inl rfl)) pgs_nil))) (fun _ _ _ _ _ => pts_nil)
            (fun _ _ _ _ _ => by exact pe_tup (pa_cons (pe_ix ix_list (pv 1) (pv 6) (fun _ _ => rfl)) (pa_cons (pv 7) pa_nil)))) pa_nil)) pa_nil)))
          (pg_sub (pv 2) (pe_ix ix_list (pv 1) (pv 3) (fun _ _ => rfl)) set_list))))
      (pss_one (ps_ret (pe_callTy call_tuple_of (by rfl) G.mtuple (by decide +kernel) (pa_cons (pv 2) pa_nil))))), ?_⟩
    obtain ⟨hs, hWa, hWP⟩ := hW
    have hsl : hs.length = wb.length := Paired.length hWP
    refine ⟨(by show 1 ≤ sizeLine; decide), fun a0 n0 => ⟨_, rfl, a, _, rfl, .inr (SqT.of (same_new n0 _ _ hWa)), a0, _, _, rfl, rfl, upd_same, by omega, (by rw [List.length_map]; omega), (by show 1 * ((hs.map V.ref).length : Int).toNat ≤ sizeLine; rw [List.length_map, sizeLine_eq]; omega), fun L nL => ?_⟩⟩
    have s1 := (same_new (o := .lst [.non]) n0).trans (same_new (o := .lst (List.replicate ((hs.map V.ref).length : Int).toNat [V.non]).flatten) nL)
    have nLH : H L = none := (same_new (o := .lst [.non]) n0).free nL
    have hL1 : (upd (upd H a0 (.lst [.non])) L (.lst (List.replicate ((hs.map V.ref).length : Int).toNat [V.non]).flatten)) L = some (.lst (List.replicate ((hs.map V.ref).length : Int).toNat [V.non]).flatten) := upd_same
    have hll : (List.replicate ((hs.map V.ref).length : Int).toNat [V.non]).flatten.length = wb.length := by rw [len_rep, List.length_map]; show ((hs.length : Int)).toNat * 1 = _; omega
    generalize (List.replicate ((hs.map V.ref).length : Int).toNat [V.non]).flatten = xs0 at s1 hL1 hll ⊢
    generalize (upd (upd H a0 (.lst [.non])) L (.lst xs0)) = H1 at s1 hL1 ⊢
    refine ⟨_, rfl, a, _, rfl, SqT.of (s1 _ _ hWa), for_enumT (K := K) (a := a) (xs := hs.map V.ref) (fun i σ H2 => Same H H2 ∧ ∃ (xs : List V) (o3 o4 o5 o6 o7 : Option V), σ = [some (.ref a), some (.ref r), some (.ref L), o3, o4, o5, o6, o7] ∧ H2 L = some (.lst xs) ∧ xs.length = wb.length ∧
        ∀ (h j : Nat), h < i → π[h]? = some j → ∃ b hd, xs[j]? = some (.ref b) ∧ wb[h]? = some hd ∧ HandAt H2 b (renH π hd))
      ⟨s1, xs0, none, none, none, none, none, rfl, hL1, hll, fun h j hh => absurd hh (Nat.not_lt_zero _)⟩ (fun i σ H2 _ ⟨s2, _⟩ => SqT.of (s2 _ _ hWa)) ?_ ?_⟩
    · rintro i y T σ H2 hyi ⟨s2, xs, o3, o4, o5, o6, o7, rfl, hL, xl, hx⟩ nT
      rw [List.getElem?_map] at hyi
      obtain ⟨ha, eha, rfl⟩ := Option.map_eq_some_iff.mp hyi
      obtain ⟨hd, ehd, b, eb, ps, hps, hpp⟩ := paired_get hWP eha
      have sT := same_new (o := .tup [.int (i : Nat), .ref ha]) nT
      have s3 := s2.trans sT
      have hL3 := sT _ _ hL
      have il : i < wb.length := (List.getElem?_eq_some_iff.mp ehd).1
      obtain ⟨j, ej⟩ := perm_get hp il
      have jl := perm_lt hp ej
      refine ⟨T, _, rfl, SqT.of upd_same, rfl, _, _, rfl, _, _, rfl, ⟨ha, _, rfl, SqT.of (s3 _ _ eb), rfl, _, _, rfl, _, _, rfl, rfl, rfl, ?_⟩⟩
      generalize (upd H2 T (.tup [.int (i : Nat), .ref ha])) = H3 at sT s3 hL3 ⊢
      -- the pegs, by their new numbers
      refine ⟨_, rfl, _, rfl, b, rfl, ⟨_, SqT.of (s3 _ _ hps)⟩, fun D nD => ?_⟩
      have psl : ps.length = hd.2.length := Paired.length hpp
      refine lc_tup (K := K) (a := b) (xs := ps.map V.ref) (fun c H4 => Same H3 H4 ∧ ∃ bs : List Addr, H4 D = some (.lst (bs.map V.ref)) ∧ bs.length = c ∧ PairsAt H4 bs ((hd.2.take c).map (renI π)))
        ⟨same_new nD, [], upd_same, rfl, .nil⟩ (fun c H4 _ ⟨s4, _⟩ => SqT.of (s4 _ _ (s3 _ _ hps))) ?_ ?_
      · rintro c y H4 hyc ⟨s4, bs, hD, bl, hbs⟩
        rw [List.getElem?_map] at hyc
        obtain ⟨pa, epa, rfl⟩ := Option.map_eq_some_iff.mp hyc
        obtain ⟨x, ex, hpa⟩ := paired_get hpp epa
        obtain ⟨g, q, rfl, gl⟩ := hpeg i c x (by unfold pegOf; rw [ehd]; exact ex)
        obtain ⟨g', eg'⟩ := perm_get hp gl
        refine ⟨pa, _, rfl, SqT.of (s4 _ _ (s3 _ _ hpa)), rfl, _, _, rfl, _, _, rfl, rfl, rfl, ?_⟩
        dsimp only [tYes]
        rw [if_pos rfl]
        refine ⟨_, rfl, _, rfl, r, _, _, _, rfl, rfl, SqL.of (s4 _ _ (s3 _ _ hR)), natV_at rfl eg', _, rfl, (by show 2 ≤ sizeLine; decide), fun t nt => ?_⟩
        have st := same_new (o := .tup [natV g', .int (q : Int)]) nt
        have hD4 := st _ _ hD
        have pl := hpl i hd ehd
        have cl : c < hd.2.length := (List.getElem?_eq_some_iff.mp ex).1
        refine ⟨_, hD4, (by rw [List.length_map, bl, sizeLine_eq]; omega), fun z o e => ?_, bs ++ [t], (by rw [List.map_append]; exact upd_same), (by rw [List.length_append, bl]; rfl), ?_⟩
        · rw [upd_ne (ne_of_none e nD)]
          exact st _ _ (s4 _ _ e)
        · have tt := (sTups st).trans (tups_lst (o := .lst (bs.map V.ref ++ [.ref t])) hD4)
          rw [take_snoc ex, List.map_append]
          have hnew : PairAt (upd (upd H4 t (.tup [natV g', .int (q : Int)])) D (.lst (bs.map V.ref ++ [.ref t]))) t (renI π ((g : Int), (q : Int))) := by
            rw [renI_nat eg']
            exact tups_lst (o := .lst (bs.map V.ref ++ [.ref t])) hD4 _ _ upd_same
          exact paired_snoc (R := PairAt (upd (upd H4 t (.tup [natV g', .int (q : Int)])) D (.lst (bs.map V.ref ++ [.ref t])))) hnew (pairs_tups tt hbs)
      · rintro H4 ⟨s4, bs, hD, bl, hbs⟩
        rw [List.length_map, psl, List.take_length] at hbs
        refine ⟨D, _, rfl, .inl ⟨SqL.of hD, fun pt npt => ⟨(by show 2 ≤ sizeLine; decide), fun hn nhn => ?_⟩⟩⟩
        have q1 := (same_new (o := .tup (bs.map V.ref)) npt).trans (same_new (o := .tup [.int hd.1, .ref pt]) nhn)
        have ept := (same_new (o := .tup [.int hd.1, .ref pt]) nhn) _ _ (upd_same (H := H4) (a := pt) (o := .tup (bs.map V.ref)))
        have ehn : (upd (upd H4 pt (.tup (bs.map V.ref))) hn (.tup [.int hd.1, .ref pt])) hn = some (.tup [.int hd.1, .ref pt]) := upd_same
        generalize (upd (upd H4 pt (.tup (bs.map V.ref))) hn (.tup [.int hd.1, .ref pt])) = H5 at q1 ept ehn ⊢
        have s5 := s4.trans q1
        have hL5 := s5 _ _ hL3
        have hnew : HandAt H5 hn (renH π hd) := ⟨pt, ehn, bs, ept, pairs_tups (sTups q1) hbs⟩
        refine ⟨_, rfl, _, rfl, _, rfl, r, _, _, _, rfl, rfl, SqL.of (s5 _ _ (s3 _ _ hR)), natV_at rfl ej, L, _, _, j, rfl, rfl, hL5, ixN_nat rfl (by omega), ?_⟩
        have tL := tups_lst (o := .lst (xs.set j (.ref hn))) hL5
        refine ⟨same_upd (s3.trans s5) nLH, xs.set j (.ref hn), _, _, _, _, _, rfl, upd_same, by rw [List.length_set]; exact xl, fun h j' hh ej' => ?_⟩
        by_cases z : h = i
        · subst z
          rw [ej] at ej'
          cases ej'
          exact ⟨hn, hd, List.getElem?_set_self (by omega), ehd, hnew.tups tL⟩
        · obtain ⟨b', hd', e1, e2, e3⟩ := hx h j' (by omega) ej'
          refine ⟨b', hd', ?_, e2, (e3.tups (sTups (sT.trans s5))).tups tL⟩
          rw [List.getElem?_set_ne (fun y => z (perm_inj hp ej' (by rw [← y]; exact ej)))]
          exact e1
    · rintro σ H2 ⟨s2, xs, o3, o4, o5, o6, o7, rfl, hL, xl, hx⟩
      rw [List.length_map, hsl] at hx
      obtain ⟨as, w', rfl, hP, hP2⟩ := collect (R := HandAt H2) xs (fun j y => ∀ (h : Nat) hd, π[h]? = some j → wb[h]? = some hd → y = renH π hd) fun j x e => by
        have jl : j < wb.length := by rw [← xl]; exact (List.getElem?_eq_some_iff.mp e).1
        obtain ⟨h, hh, eh⟩ := perm_onto hp jl
        obtain ⟨b, hd, e1, e2, e3⟩ := hx h j hh eh
        rw [e] at e1
        cases e1
        refine ⟨b, renH π hd, rfl, e3, fun h' hd' eh' e' => ?_⟩
        have : h' = h := perm_inj hp eh' eh
        subst this
        rw [e2] at e'
        cases e'
        rfl
      have wl' : w'.length = wb.length := by
        have := Paired.length hP
        rw [List.length_map] at xl
        omega
      refine ⟨_, rfl, L, _, rfl, .inl ⟨SqL.of hL, fun q nq => ?_⟩⟩
      refine k q w' _ (s2.free nq) (s2.trans (same_new nq)) ⟨as, upd_same, Paired.mapP hP fun _ _ z => z.tups (sTups (same_new nq))⟩ ⟨wl', fun h j hd eh e => ?_⟩
      have jl := perm_lt hp eh
      have e1 : w'[j]? = some (w'[j]'(by omega)) := List.getElem?_eq_getElem (by omega)
      rw [e1, hP2 j _ e1 h hd eh e]
end
end NH
set_option Elab.async false
set_option linter.all false
set_option maxRecDepth 100000
set_option maxHeartbeats 4000000
namespace NH
open PySem L2
structure Inv2 (n : Nat) (a b : List Nat) : Prop where
  la : a.length = n
  lb : b.length = n
  ab : ∀ s, s < n → ∃ t, t < n ∧ a[s]? = some t ∧ b[t]? = some s
  ba : ∀ t, t < n → ∃ s, s < n ∧ b[t]? = some s ∧ a[s]? = some t
theorem Inv2.symm {n : Nat} {a b : List Nat} (k : Inv2 n a b) : Inv2 n b a := ⟨k.lb, k.la, k.ba, k.ab⟩
theorem Inv2.of_perm {n : Nat} {a b : List Nat} (hp : a.Perm (List.range n)) (lb : b.length = n) (h : ∀ s i : Nat, b[s]? = some i → a[i]? = some s) : Inv2 n a b := by
  have la := hp.length_eq
  rw [List.length_range] at la
  refine ⟨la, lb, fun s hs => ?_, fun t ht => ?_⟩
  · obtain ⟨t, et⟩ := perm_get hp hs
    have tl := perm_lt hp et
    have e : b[t]? = some (b[t]'(by omega)) := List.getElem?_eq_getElem (by omega)
    have e2 := h t _ e
    have : b[t]'(by omega) = s := perm_inj hp e2 et
    exact ⟨t, tl, et, by rw [e, this]⟩
  · have e : b[t]? = some (b[t]'(by omega)) := List.getElem?_eq_getElem (by omega)
    have e2 := h t _ e
    have sl : b[t]'(by omega) < n := by
      have := (List.getElem?_eq_some_iff.mp e2).1
      omega
    exact ⟨_, sl, e, e2⟩
structure Invo (n : Nat) (a : List Nat) : Prop where
  len : a.length = n
  inv : ∀ s, s < n → ∃ t, t < n ∧ a[s]? = some t ∧ a[t]? = some s
theorem invo_range (n : Nat) : Invo n (List.range n) := ⟨List.length_range, fun s hs => ⟨s, hs, by rw [List.getElem?_range hs], by rw [List.getElem?_range hs]⟩⟩
theorem Invo.swap {n : Nat} {a : List Nat} {i : Nat} (k : Invo n a) (h1 : i + 1 < n) (e0 : a[i]? = some i) (e1 : a[i + 1]? = some (i + 1)) : Invo n ((a.set i (i + 1)).set (i + 1) i) := by
  have la := k.len
  refine ⟨by rw [List.length_set, List.length_set]; exact la, fun s hs => ?_⟩
  have g0 : ((a.set i (i + 1)).set (i + 1) i)[i]? = some (i + 1) := by rw [List.getElem?_set_ne (by omega), List.getElem?_set_self (by omega)]
  have g1 : ((a.set i (i + 1)).set (i + 1) i)[i + 1]? = some i := List.getElem?_set_self (by rw [List.length_set]; omega)
  have go : ∀ s, s ≠ i → s ≠ i + 1 → ((a.set i (i + 1)).set (i + 1) i)[s]? = a[s]? := fun s z0 z1 => by rw [List.getElem?_set_ne (by omega), List.getElem?_set_ne (by omega)]
  by_cases z0 : s = i
  · subst z0
    exact ⟨s + 1, h1, g0, g1⟩
  · by_cases z1 : s = i + 1
    · subst z1
      exact ⟨i, by omega, g1, g0⟩
    · obtain ⟨t, tl, a1, a2⟩ := k.inv s hs
      have t0 : t ≠ i := fun z => by rw [z, e0] at a2; exact z0 (Option.some.inj a2).symm
      have t1 : t ≠ i + 1 := fun z => by rw [z, e1] at a2; exact z1 (Option.some.inj a2).symm
      exact ⟨t, tl, by rw [go s z0 z1]; exact a1, by rw [go t t0 t1]; exact a2⟩
theorem mod_back {n c x : Int} (hn : 0 < n) (h0 : 0 ≤ x) (h1 : x < n) : ((x - c) % n + c) % n = x := by
  rw [Int.emod_add_emod, Int.sub_add_cancel, Int.emod_eq_of_lt h0 h1]
theorem mod_back2 {n c x : Int} (hn : 0 < n) (h0 : 0 ≤ x) (h1 : x < n) : ((x + c) % n - c) % n = x := by
  rw [Int.emod_sub_emod, Int.add_sub_cancel, Int.emod_eq_of_lt h0 h1]
def tuV (n c : Nat) (row : List Nat) (s : Nat) : Nat := ((((row.getD (((s : Int) + c) % n).toNat 0 : Nat) : Int) - c) % n).toNat
def tuRow (n c : Nat) (row : List Nat) : List Nat := (List.range n).map (tuV n c row)
theorem tuRow_get {n c s : Nat} {row : List Nat} (h : s < n) : (tuRow n c row)[s]? = some (tuV n c row s) := by
  unfold tuRow
  rw [List.getElem?_map, List.getElem?_range h]
  rfl
theorem tuV_at {n c s : Nat} {row : List Nat} (k : Invo n row) (h : s < n) : ∃ u v : Nat, ((s : Int) + c) % n = (u : Int) ∧ u < n ∧ row[u]? = some v ∧ v < n ∧ row[v]? = some u ∧ ((v : Int) - c) % n = (tuV n c row s : Int) ∧ tuV n c row s < n := by
  have hn : (0 : Int) < n := by omega
  have a0 := Int.emod_nonneg ((s : Int) + c) (show (n : Int) ≠ 0 by omega)
  have a1 := Int.emod_lt_of_pos ((s : Int) + c) hn
  obtain ⟨u, eu⟩ := Int.eq_ofNat_of_zero_le a0
  have ul : u < n := by omega
  obtain ⟨v, vl, e1, e2⟩ := k.inv u ul
  have b0 := Int.emod_nonneg ((v : Int) - c) (show (n : Int) ≠ 0 by omega)
  have b1 := Int.emod_lt_of_pos ((v : Int) - c) hn
  have et : tuV n c row s = (((v : Int) - c) % n).toNat := by
    unfold tuV
    rw [eu, Int.toNat_natCast, List.getD_eq_getElem?_getD, e1]
    rfl
  exact ⟨u, v, eu, ul, e1, vl, e2, by omega, by omega⟩
theorem Invo.turned {n c : Nat} {row : List Nat} (k : Invo n row) : Inv2 n (tuRow n c row) (tuRow n c row) := by
  have hl : (tuRow n c row).length = n := by unfold tuRow; rw [List.length_map, List.length_range]
  have key : ∀ s, s < n → ∃ t, t < n ∧ (tuRow n c row)[s]? = some t ∧ (tuRow n c row)[t]? = some s := fun s hs => by
    obtain ⟨u, v, eu, ul, e1, vl, e2, et, tl⟩ := tuV_at (c := c) k hs
    refine ⟨tuV n c row s, tl, tuRow_get hs, ?_⟩
    rw [tuRow_get tl]
    obtain ⟨u', v', eu', ul', e1', vl', e2', et', tl'⟩ := tuV_at (c := c) k tl
    have hn : (0 : Int) < n := by omega
    have q1 : (u' : Int) = v := by
      rw [← eu', ← et]
      exact mod_back hn (by omega) (by omega)
    have q2 : u' = v := by omega
    subst q2
    rw [e2] at e1'
    cases e1'
    have q3 : (tuV n c row (tuV n c row s) : Int) = s := by
      rw [← et', ← eu]
      exact mod_back2 hn (by omega) (by omega)
    congr 1
    omega
  exact ⟨hl, hl, key, key⟩
abbrev Turns := Nat → Nat → Option (List Nat)
def putF (F : Turns) (h p : Nat) (r : List Nat) : Turns := fun h' p' => if h' = h ∧ p' = p then some r else F h' p'
theorem putF_self {F : Turns} {h p : Nat} {r : List Nat} : putF F h p r h p = some r := if_pos ⟨rfl, rfl⟩
theorem putF_ne {F : Turns} {h p h' p' : Nat} {r : List Nat} (z : ¬ (h' = h ∧ p' = p)) : putF F h p r h' p' = F h' p' := if_neg z
structure TurnP (n : Nat) (w : WebD) (F : Turns) (i j : Nat) : Prop where
  dom : ∀ h p r, F h p = some r → ∃ g q r', pegOf w h p = some (((g : Nat) : Int), ((q : Nat) : Int)) ∧ F g q = some r' ∧ Inv2 n r r'
  cov : ∀ h p x, (h < i ∨ (h = i ∧ p < j)) → pegOf w h p = some x → ∃ r, F h p = some r
theorem TurnP.nil {n : Nat} {w : WebD} : TurnP n w (fun _ _ => none) 0 0 := ⟨fun h p r e => (nomatch e), fun h p x hh _ => by omega⟩
section
variable {n room : Nat} {w : WebD} {F : Turns} {i j : Nat}
theorem peg_nat {g q g' q' : Nat} (h : some (((g : Nat) : Int), ((q : Nat) : Int)) = some (((g' : Nat) : Int), ((q' : Nat) : Int))) : g = g' ∧ q = q' := by
  have := Option.some.inj h
  injection this with a b
  omega
theorem TurnP.self (gd : Good room w) (k : TurnP n w F i j) {r : List Nat} (e : pegOf w i j = some ((i : Int), (j : Int))) (hr : Inv2 n r r) : TurnP n w (putF F i j r) i (j + 1) := by
  refine ⟨fun h p r0 e0 => ?_, fun h p x hh e0 => ?_⟩
  · by_cases z : h = i ∧ p = j
    · obtain ⟨rfl, rfl⟩ := z
      rw [putF_self] at e0
      cases e0
      exact ⟨h, p, r, e, putF_self, hr⟩
    · rw [putF_ne z] at e0
      obtain ⟨g, q, r', e1, e2, e3⟩ := k.dom h p r0 e0
      refine ⟨g, q, r', e1, ?_, e3⟩
      rw [putF_ne]
      · exact e2
      · rintro ⟨rfl, rfl⟩
        obtain ⟨g', q', x1, x2⟩ := gd.tie h p _ e1
        obtain ⟨rfl, rfl⟩ := peg_nat (congrArg some x1)
        rw [e] at x2
        obtain ⟨rfl, rfl⟩ := peg_nat x2
        exact z ⟨rfl, rfl⟩
  · by_cases z : h = i ∧ p = j
    · obtain ⟨rfl, rfl⟩ := z
      exact ⟨r, putF_self⟩
    · rw [putF_ne z]
      exact k.cov h p x (by omega) e0
theorem TurnP.pair (gd : Good room w) (k : TurnP n w F i j) {r r' : List Nat} {g q : Nat} (e : pegOf w i j = some ((g : Int), (q : Int))) (ne : ¬ (g = i ∧ q = j)) (hr : Inv2 n r r') : TurnP n w (putF (putF F i j r) g q r') i (j + 1) := by
  have eb : pegOf w g q = some ((i : Int), (j : Int)) := by
    obtain ⟨g', q', x1, x2⟩ := gd.tie i j _ e
    obtain ⟨rfl, rfl⟩ := peg_nat (congrArg some x1)
    exact x2
  have a1 : putF (putF F i j r) g q r' i j = some r := by rw [putF_ne (fun z => ne ⟨z.1.symm, z.2.symm⟩), putF_self]
  refine ⟨fun h p r0 e0 => ?_, fun h p x hh e0 => ?_⟩
  · by_cases z : h = g ∧ p = q
    · obtain ⟨rfl, rfl⟩ := z
      rw [putF_self] at e0
      cases e0
      exact ⟨i, j, r, eb, a1, hr.symm⟩
    · by_cases z2 : h = i ∧ p = j
      · obtain ⟨rfl, rfl⟩ := z2
        rw [a1] at e0
        cases e0
        exact ⟨g, q, r', e, putF_self, hr⟩
      · rw [putF_ne z, putF_ne z2] at e0
        obtain ⟨a, b, r2, e1, e2, e3⟩ := k.dom h p r0 e0
        obtain ⟨a', b', x1, x2⟩ := gd.tie h p _ e1
        obtain ⟨rfl, rfl⟩ := peg_nat (congrArg some x1)
        refine ⟨a, b, r2, e1, ?_, e3⟩
        rw [putF_ne, putF_ne]
        · exact e2
        · rintro ⟨rfl, rfl⟩
          rw [e] at x2
          obtain ⟨rfl, rfl⟩ := peg_nat x2
          exact z ⟨rfl, rfl⟩
        · rintro ⟨rfl, rfl⟩
          rw [eb] at x2
          obtain ⟨rfl, rfl⟩ := peg_nat x2
          exact z2 ⟨rfl, rfl⟩
  · by_cases z : h = g ∧ p = q
    · obtain ⟨rfl, rfl⟩ := z
      exact ⟨r', putF_self⟩
    · by_cases z2 : h = i ∧ p = j
      · obtain ⟨rfl, rfl⟩ := z2
        exact ⟨r, a1⟩
      · rw [putF_ne z, putF_ne z2]
        exact k.cov h p x (by omega) e0
theorem TurnP.skip (gd : Good room w) (k : TurnP n w F i j) {g q : Nat} (e : pegOf w i j = some ((g : Int), (q : Int))) (lt : g < i ∨ (g = i ∧ q < j)) : TurnP n w F i (j + 1) := by
  refine ⟨k.dom, fun h p x hh e0 => ?_⟩
  by_cases z2 : h = i ∧ p = j
  · obtain ⟨rfl, rfl⟩ := z2
    obtain ⟨g', q', x1, x2⟩ := gd.tie h p _ e
    obtain ⟨rfl, rfl⟩ := peg_nat (congrArg some x1)
    obtain ⟨r, er⟩ := k.cov g q _ lt x2
    obtain ⟨a, b, r', y1, y2, _⟩ := k.dom g q r er
    rw [x2] at y1
    obtain ⟨rfl, rfl⟩ := peg_nat y1
    exact ⟨r', y2⟩
  · exact k.cov h p x (by omega) e0
theorem TurnP.row (k : TurnP n w F i j) (hj : ∀ hd, w[i]? = some hd → hd.2.length = j) : TurnP n w F (i + 1) 0 := by
  refine ⟨k.dom, fun h p x hh e0 => k.cov h p x ?_ e0⟩
  by_cases z : h = i
  · subst z
    obtain ⟨hd, e1, e2⟩ := pegOf_some e0
    have := hj hd e1
    have := (List.getElem?_eq_some_iff.mp e2).1
    omega
  · omega
structure TurnOk (n : Nat) (w : WebD) (F : Turns) : Prop where
  all : ∀ h p x, pegOf w h p = some x → ∃ (g q : Nat) (r r' : List Nat), x = ((g : Int), (q : Int)) ∧ F h p = some r ∧ F g q = some r' ∧ Inv2 n r r'
theorem TurnP.ok (k : TurnP n w F w.length 0) : TurnOk n w F := ⟨fun h p x e => by
  obtain ⟨r, er⟩ := k.cov h p x (.inl (pegOf_lt e)) e
  obtain ⟨g, q, r', e1, e2, e3⟩ := k.dom h p r er
  rw [e] at e1
  exact ⟨g, q, r, r', Option.some.inj e1, er, e2, e3⟩⟩
end
abbrev keyP (h p : Nat) : List Key := [.inl (h : Int), .inl (p : Int)]
theorem keyP_eq {h p h' p' : Nat} : keyP h p = keyP h' p' ↔ h = h' ∧ p = p' := by
  constructor
  · intro e
    injection e with a b
    injection b with b _
    injection a with a
    injection b with b
    omega
  · rintro ⟨rfl, rfl⟩
    rfl
structure TurnAt (H0 H : Hp) (D : Addr) (F : Turns) (m : Nat) : Prop where
  ex : ∃ kvs : List (List Key × V), H D = some (.dT kvs) ∧ kvs.length ≤ m ∧ ∀ h p r, F h p = some r → ∃ l, valV kvs (keyP h p) = some (.ref l) ∧ H l = some (.lst (r.map natV)) ∧ H0 l = none ∧ l ≠ D
theorem TurnAt.put {H0 H H' : Hp} {D l : Addr} {F : Turns} {m h p : Nat} {r : List Nat} {kvs : List (List Key × V)} (k : ∀ h p r, F h p = some r → ∃ l, valV kvs (keyP h p) = some (.ref l) ∧ H l = some (.lst (r.map natV)) ∧ H0 l = none ∧ l ≠ D)
    (s : ∀ l xs, H0 l = none → l ≠ D → H l = some (.lst xs) → H' l = some (.lst xs)) (hm : kvs.length ≤ m) (hl : H' l = some (.lst (r.map natV))) (n0 : H0 l = none) (ne : l ≠ D) : TurnAt H0 (upd H' D (.dT (putK kvs (keyP h p) (.ref l)))) D (putF F h p r) (m + 1) := by
  refine ⟨_, upd_same, by have := length_putK kvs (keyP h p) (.ref l); omega, fun h' p' r' e => ?_⟩
  rw [valV_put]
  by_cases z : h' = h ∧ p' = p
  · obtain ⟨rfl, rfl⟩ := z
    rw [putF_self] at e
    cases e
    exact ⟨l, if_pos rfl, by rw [upd_ne ne]; exact hl, n0, ne⟩
  · rw [putF_ne z] at e
    obtain ⟨l', e1, e2, e3, e4⟩ := k h' p' r' e
    exact ⟨l', by rw [if_neg (fun y => z (keyP_eq.mp y))]; exact e1, by rw [upd_ne e4]; exact s _ _ e3 e4 e2, e3, e4⟩
def spTurn : Sp := fun vs H Q _ => ∃ (p a : Addr) (wb : WebD) (n room : Nat), vs = [.ref p, .ref a, natV n] ∧ BoxAt H p ∧ WebAt H a wb ∧ Good room wb ∧ wb.length ≤ 1000 ∧ room ≤ 1000 ∧ 1 ≤ n ∧ n ≤ 1000 ∧
  ∀ (D : Addr) (F : Turns) (H' : Hp), H D = none → Step p H H' → TurnAt H H' D F 4000000 → TurnOk n wb F → Q (.ref D) H'
end NH
set_option Elab.async false
set_option linter.all false
set_option maxRecDepth 100000
set_option maxHeartbeats 4000000
theorem L2.Room.units1 {k : Nat} {A : PySem.Around} (r : L2.Room k A) : A.units + 1 < PySem.cLine := by have := r.un; omega
namespace NH
open PySem L2
section
variable {X : Cx}
def rEqP : R2 := fun x y H Q => ∃ a b p q, x = .ref a ∧ y = .ref b ∧ PairAt H a p ∧ PairAt H b q ∧ Q (.bl (decide (p = q))) H
def rLtP : R2 := fun x y H Q => ∃ a b p q, x = .ref a ∧ y = .ref b ∧ PairAt H a p ∧ PairAt H b q ∧ Q (.bl (decide (p.1 < q.1 ∨ (p.1 = q.1 ∧ p.2 < q.2)))) H
theorem shaped_pair (p : Int × Int) : SeqAt.shaped (pairD p) = true := by rfl
theorem op_eqP {k : Nat} (hr : Room k X.A) : OpR X (compareOp .Eq) rEqP := by
  intro pins s σ H x y v u Q I rx ry h
  obtain ⟨a, b, p, q, rfl, rfl, ha, hb, k⟩ := h
  refine op_eqD hr.units pins s σ H _ _ v u Q I rx ry ⟨_, _, dp_pair ha, dp_pair hb, shaped_pair p, shaped_pair q, ?_⟩
  rw [eqv_pair]
  exact k
theorem lex_pair (p q : Int × Int) : HT.lexLt [p.1, p.2] [q.1, q.2] = decide (p.1 < q.1 ∨ (p.1 = q.1 ∧ p.2 < q.2)) := by
  rw [HT.lexLt_cons, HT.lexLt_cons, HT.lexLt_nil_nil]
  by_cases h : p.1 = q.1
  · rw [if_pos h]
    by_cases h2 : p.2 = q.2
    · rw [if_pos h2]
      symm
      rw [decide_eq_false_iff_not]
      omega
    · rw [if_neg h2]
      rw [decide_eq_decide]
      omega
  · rw [if_neg h, decide_eq_decide]
    omega
theorem op_ltP {k : Nat} (hr : Room k X.A) : OpR X (compareOp .Lt) rLtP := by
  intro pins s σ H x y v u Q I rx ry h
  obtain ⟨a, b, p, q, rfl, rfl, ha, hb, k⟩ := h
  refine op_ltT hr.units0 pins s σ H _ _ v u Q I rx ry ⟨a, b, [p.1, p.2], [q.1, q.2], rfl, rfl, SqT.of ha, SqT.of hb, ?_⟩
  rw [lex_pair]
  exact k
end
theorem flat_nats (l : List Nat) : (l.map natV).all flatV = true := by
  rw [List.all_eq_true]
  intro x hx
  obtain ⟨n, _, rfl⟩ := List.mem_map.mp hx
  rfl
theorem eqV_nat (a b : Nat) : eqV (natV a) (natV b) = decide (a = b) := by
  show ((a : Int) == (b : Int)) = _
  by_cases h : a = b
  · subst h; simp
  · have : ¬ (a : Int) = b := by omega
    simp [h, this]
theorem index_nats {K : PySem.W.Frag} {H : Hp} {a : Addr} {l : List Nat} {j y : Nat} {Q : VK} (h : SqL K H a (l.map natV)) (nd : l.Nodup) (e : l[j]? = some y) (q : Q (.int (j : Nat)) H) : rIndex K (.ref a) [natV y] H Q := by
  refine ⟨a, _, natV y, j, natV y, rfl, rfl, h, rfl, flat_nats l, natV_get e, by rw [eqV_nat]; simp, fun m z' hm ez => ?_, q⟩
  rw [List.getElem?_map] at ez
  obtain ⟨z, e1, rfl⟩ := Option.map_eq_some_iff.mp ez
  rw [eqV_nat, decide_eq_false_iff_not]
  rintro rfl
  have := nd_ix nd e1 e
  omega
theorem TurnAt.same {H0 H1 H2 : Hp} {D : Addr} {F : Turns} {m : Nat} (s : Same H1 H2) (k : TurnAt H0 H1 D F m) : TurnAt H0 H2 D F m := by
  obtain ⟨kvs, e, hl, h⟩ := k.ex
  refine ⟨kvs, s _ _ e, hl, fun h' p r f => ?_⟩
  obtain ⟨l, a, b, c, d⟩ := h h' p r f
  exact ⟨l, a, s _ _ b, c, d⟩
theorem TurnAt.step {p : Addr} {H0 H1 H2 : Hp} {D : Addr} {F : Turns} {m : Nat} (hb : BoxAt H0 p) (nD : H0 D = none) (s : Step p H1 H2) (k : TurnAt H0 H1 D F m) : TurnAt H0 H2 D F m := by
  obtain ⟨kvs, e, hl, h⟩ := k.ex
  refine ⟨kvs, s.keep _ _ (hb.ne nD) e, hl, fun h' p r f => ?_⟩
  obtain ⟨l, a, b, c, d⟩ := h h' p r f
  exact ⟨l, a, s.keep _ _ (hb.ne c) b, c, d⟩
theorem TurnAt.mono {H0 H1 : Hp} {D : Addr} {F : Turns} {m m' : Nat} (h : m ≤ m') (k : TurnAt H0 H1 D F m) : TurnAt H0 H1 D F m' := by
  obtain ⟨kvs, e, hl, r⟩ := k.ex
  exact ⟨kvs, e, by omega, r⟩
theorem range_get {n i : Nat} (h : i < n) : (List.range n)[i]? = some i := List.getElem?_range h
end NH
set_option Elab.async false
set_option linter.all false
set_option maxRecDepth 100000
set_option maxHeartbeats 4000000
namespace NH
open PySem L2
abbrev sTurn : Stmt := top 16
abbrev nTurn : List Str := ["_law_box_here", "_law_web_here", "_law_sheets", "_law_found", "_law_h", "_law_mark", "_law_pegs", "_law_p", "_law_g", "_law_q", "_law_row", "_law_k", "_law_shift", "_law_s"]
section
variable {P : Program} {w : World} {K : PySem.W.Frag} {mg : Str → Option Value} {base : Heap}
theorem scTurn : FnScope nTurn ["_law_box_here", "_law_web_here", "_law_sheets"] (defScope sTurn) := ⟨rfl, rfl, rfl, by decide +kernel, rfl, by decide +kernel, by decide +kernel⟩
theorem ok_turn {f : Addr} {fd : FuncData} (F : Fun K "_law_turnings" "_law_turnings" sTurn f fd) (G : Dr P w K mg base) : FnOk P w K mg base CX0 3 f fd ["_law_box_here", "_law_web_here", "_law_sheets"] spTurn := by
  obtain ⟨fT, fdT, GT, bT, mT, kT⟩ := G.take
  obtain ⟨fS, fdS, GS, bS, mS, kS⟩ := G.shuf
  refine F.ok scTurn (fun vs H Q E h => ?_) (fun cdv A outer s H vs Q E hr h => ?_)
  · obtain ⟨p, a, wb, n, room, rfl, _⟩ := h
    rfl
  · obtain ⟨p, a, wb, n, room, rfl, hb, hW, gd, wl, rl, n1, n2, k⟩ := h
    have nd := scTurn.nd
    have hr1 := hr.mono (show 1 ≤ 2 by decide)
    refine ⟨_, pss_cons (ps_set (i := 3) nd rfl (Or.inl rfl) pe_dnewT)
      (pss_cons (ps_for PassesOwn.never rfl (pi_enumT (by rfl) G.menum (pa_cons (pv 1) pa_nil)) (pg_tup (by rfl) (pgs_cons (pg_name (i := 4) nd rfl (Or.inl rfl)) (pgs_cons (pg_tup (by rfl) (pgs_cons (pg_name (i := 5) nd rfl (Or.inl rfl)) (pgs_cons (pg_name (i := 6) nd rfl (Or.inl rfl)) pgs_nil))) pgs_nil)))
        (pss_one (ps_for PassesOwn.never rfl (pi_enumT (by rfl) G.menum (pa_cons (pv 6) pa_nil)) (pg_tup (by rfl) (pgs_cons (pg_name (i := 7) nd rfl (Or.inl rfl)) (pgs_cons (pg_tup (by rfl) (pgs_cons (pg_name (i := 8) nd rfl (Or.inl rfl)) (pgs_cons (pg_name (i := 9) nd rfl (Or.inl rfl)) pgs_nil))) pgs_nil)))
          (pss_one (ps_if (pt_cmpR (op_eqP hr) (pe_tup (pa_cons (pv 8) (pa_cons (pv 9) pa_nil))) (pe_tup (pa_cons (pv 4) (pa_cons (pv 7) pa_nil))) (nomark _))
            (pss_cons (ps_set (i := 10) nd rfl (Or.inr rfl) (pe_callTy (call_list_rng (by rfl)) (by rfl) G.mlist (by decide +kernel) (pa_cons (pe_callTy call_rng1 (by rfl) G.mrange (by decide +kernel) (pa_cons (pv 2) pa_nil)) pa_nil)))
            (pss_cons (ps_for PassesOwn.never rfl (pi_range1 (by rfl) G.mrange (pa_cons (pe_op op_fdiv (pv 2) pe_int) pa_nil)) (pg_name (i := 11) nd rfl (Or.inl rfl))
              (pss_one (ps_if (pt_cmpR op_gt (pe_call GT hr1 (by rfl) mT kT bT .nil pass0 (pa_cons (pv 0) (pa_cons pe_int pa_nil))) pe_int (nomark _))
                (pss_one (ps_asg (pe_tup (pa_cons (pe_op op_add (pe_op op_mul pe_int (pv 11)) pe_int) (pa_cons (pe_op op_mul pe_int (pv 11)) pa_nil))) (pg_tup (by rfl) (pgs_cons (pg_sub (pv 10) (pe_op op_mul pe_int (pv 11)) set_list) (pgs_cons (pg_sub (pv 10) (pe_op op_add (pe_op op_mul pe_int (pv 11)) pe_int) set_list) pgs_nil))))) pss_nil)))
            (pss_cons (ps_set (i := 12) nd rfl (Or.inr rfl) (pe_call GT hr1 (by rfl) mT kT bT .nil pass0 (pa_cons (pv 0) (pa_cons (pv 2) pa_nil))))
            (pss_one (ps_dput hr.units1 (pv 3) (pe_tup (pa_cons (pv 4) (pa_cons (pv 7) pa_nil)))
              (pe_lc (own := [("_law_s", 13)]) (g := gName 13) (te := tOp (rI (fun _ j => 0 < j) fun i j => .int (i % j)) (tOp (rI0 fun i j => .int (i - j)) (tOp (rIxL K) (tVar 10) (tOp (rI (fun _ j => 0 < j) fun i j => .int (i % j)) (tOp (rI0 fun i j => .int (i + j)) (tVar 13) (tVar 12)) (tVar 2))) (tVar 12)) (tVar 2)) (by rfl) nd (pi_range1 (by rfl) G.mrange (pa_cons (pv 2) pa_nil)) (blkOk_by (own := [("_law_s", 13)]) (N := nTurn) (sc := defScope sTurn) (by decide +kernel))
                (fun _ _ _ _ _ => pg_name (i := 13) nd rfl (Or.inl rfl)) (fun _ _ _ _ _ => pts_nil)
                (fun _ _ _ _ _ => by exact pe_op op_mod (pe_op op_sub (pe_ix ix_list (pv 10) (pe_op op_mod (pe_op op_add (pv 13) (pv 12)) (pv 2)) (fun _ _ => rfl)) (pv 12)) (pv 2))) rfl)))))
            (pss_one (ps_if (pt_cmpR (op_ltP hr) (pe_tup (pa_cons (pv 4) (pa_cons (pv 7) pa_nil))) (pe_tup (pa_cons (pv 8) (pa_cons (pv 9) pa_nil))) (nomark _))
              (pss_cons (ps_set (i := 10) nd rfl (Or.inr rfl) (pe_call GS hr (by rfl) mS kS bS .nil pass0 (pa_cons (pv 0) (pa_cons (pv 2) pa_nil))))
              (pss_cons (ps_dput hr.units1 (pv 3) (pe_tup (pa_cons (pv 4) (pa_cons (pv 7) pa_nil))) (pv 10) rfl)
              (pss_one (ps_dput hr.units1 (pv 3) (pe_tup (pa_cons (pv 8) (pa_cons (pv 9) pa_nil)))
                (pe_lc (own := [("_law_s", 13)]) (g := gName 13) (te := tBM K "list" (rIndex K) (tVar 10) (tCons (tVar 13) tNil)) (by rfl) nd (pi_range1 (by rfl) G.mrange (pa_cons (pv 2) pa_nil)) (blkOk_by (own := [("_law_s", 13)]) (N := nTurn) (sc := defScope sTurn) (by decide +kernel))
                  (fun _ _ _ _ _ => pg_name (i := 13) nd rfl (Or.inl rfl)) (fun _ _ _ _ _ => pts_nil)
                  (fun _ _ _ _ _ => by exact pe_bm PySem.F.plainAttrs_list PySem.F.slot_list_index PySem.F.type_list_index mt_index (pv 10) (pa_cons (pv 13) pa_nil))) rfl)))) pss_nil)))))))
      (pss_one (ps_ret (pv 3)))), ?_⟩
    obtain ⟨hs, hWa, hWP⟩ := hW
    have hsl : hs.length = wb.length := Paired.length hWP
    intro D nD
    have neD : D ≠ p := hb.ne nD
    have hn0 : (n : Int) ≠ 0 := by omega
    refine ⟨_, rfl, a, _, rfl, SqT.of (same_new nD _ _ hWa), for_enumT (K := K) (a := a) (xs := hs.map V.ref) (fun i σ H2 => Step p H H2 ∧ ∃ (F : Turns) (o4 o5 o6 o7 o8 o9 o10 o11 o12 o13 : Option V), σ = [some (.ref p), some (.ref a), some (natV n), some (.ref D), o4, o5, o6, o7, o8, o9, o10, o11, o12, o13] ∧ TurnAt H H2 D F (2 * (1000 * i)) ∧ TurnP n wb F i 0)
      ⟨(Step.refl hb).new nD, fun _ _ => none, none, none, none, none, none, none, none, none, none, none, rfl, ⟨[], upd_same, Nat.zero_le _, fun _ _ _ e => nomatch e⟩, TurnP.nil⟩ (fun i σ H2 _ ⟨s2, _⟩ => SqT.of (s2.tups hb _ _ hWa)) ?_ ?_⟩
    · rintro i y T σ H2 hyi ⟨s2, F, o4, o5, o6, o7, o8, o9, o10, o11, o12, o13, rfl, tA, tP⟩ nT
      rw [List.getElem?_map] at hyi
      obtain ⟨ha, eha, rfl⟩ := Option.map_eq_some_iff.mp hyi
      obtain ⟨hd, ehd, b, eb, ps, hps, hpp⟩ := paired_get hWP eha
      have s3 := s2.new (o := .tup [.int (i : Nat), .ref ha]) nT
      have tA3 := tA.same (same_new (o := .tup [.int (i : Nat), .ref ha]) nT)
      have il : i < wb.length := (List.getElem?_eq_some_iff.mp ehd).1
      have pl := gd.pegs i hd ehd
      have psl : ps.length = hd.2.length := Paired.length hpp
      refine ⟨T, _, rfl, SqT.of upd_same, rfl, _, _, rfl, _, _, rfl, ⟨ha, _, rfl, SqT.of (s3.tups hb _ _ eb), rfl, _, _, rfl, _, _, rfl, rfl, rfl, ?_⟩⟩
      generalize (upd H2 T (.tup [.int (i : Nat), .ref ha])) = H3 at s3 tA3 ⊢
      refine ⟨_, rfl, b, _, rfl, SqT.of (s3.tups hb _ _ hps), for_enumT (K := K) (a := b) (xs := ps.map V.ref) (fun j σ H4 => Step p H H4 ∧ ∃ (F : Turns) (o7 o8 o9 o10 o11 o12 o13 : Option V), σ = [some (.ref p), some (.ref a), some (natV n), some (.ref D), some (natV i), some (.int hd.1), some (.ref b), o7, o8, o9, o10, o11, o12, o13] ∧ TurnAt H H4 D F (2 * (1000 * i + j)) ∧ TurnP n wb F i j)
        ⟨s3, F, _, _, _, _, _, _, _, rfl, tA3, tP⟩ (fun j σ H4 _ ⟨s4, _⟩ => SqT.of (s4.tups hb _ _ hps)) ?_ ?_⟩
      · clear tA tP tA3 s2 s3
        rintro j y T2 σ H4 hyj ⟨s4, F, o7, o8, o9, o10, o11, o12, o13, rfl, tA, tP⟩ nT2
        rw [List.getElem?_map] at hyj
        obtain ⟨pa, epa, rfl⟩ := Option.map_eq_some_iff.mp hyj
        obtain ⟨x, ex, hpa⟩ := paired_get hpp epa
        have epeg : pegOf wb i j = some x := by unfold pegOf; rw [ehd]; exact ex
        obtain ⟨g, q, rfl, eback⟩ := gd.tie i j x epeg
        have jl : j < hd.2.length := (List.getElem?_eq_some_iff.mp ex).1
        have s5 := s4.new (o := .tup [.int (j : Nat), .ref pa]) nT2
        have tA5 := tA.same (same_new (o := .tup [.int (j : Nat), .ref pa]) nT2)
        refine ⟨T2, _, rfl, SqT.of upd_same, rfl, _, _, rfl, _, _, rfl, ⟨pa, _, rfl, SqT.of (s5.tups hb _ _ hpa), rfl, _, _, rfl, _, _, rfl, rfl, rfl, ?_⟩⟩
        clear tA
        generalize (upd H4 T2 (.tup [.int (j : Nat), .ref pa])) = H5 at s5 tA5 ⊢
        refine ⟨_, rfl, _, rfl, (by show 2 ≤ sizeLine; decide), fun t1 m1 => ⟨_, rfl, _, rfl, (by show 2 ≤ sizeLine; decide), fun t2 m2 => ?_⟩⟩
        have q1 := same_new (o := .tup [.int (g : Int), .int (q : Int)]) m1
        have q2 := same_new (o := .tup [natV i, .int (j : Int)]) m2
        have e1 := q2 _ _ (upd_same (H := H5) (a := t1) (o := .tup [.int (g : Int), .int (q : Int)]))
        have e2 : (upd (upd H5 t1 (.tup [.int (g : Int), .int (q : Int)])) t2 (.tup [natV i, .int (j : Int)])) t2 = some (.tup [natV i, .int (j : Int)]) := upd_same
        have s6 := s5.same (q1.trans q2)
        have tA6 := tA5.same (q1.trans q2)
        refine ⟨t1, t2, ((g : Int), (q : Int)), ((i : Int), (j : Int)), rfl, rfl, e1, e2, _, rfl, ?_⟩
        clear tA5 s5 q1 
        generalize (upd (upd H5 t1 (.tup [.int (g : Int), .int (q : Int)])) t2 (.tup [natV i, .int (j : Int)])) = H6 at s6 tA6 e1 e2 ⊢
        refine ite2 (fun hc => ?_) (fun hc => ?_)
        · have hc := of_decide_eq_true hc
          injection hc with hc1 hc2
          have hc1 : g = i := by omega
          have hc2 : q = j := by omega
          subst hc1 hc2
          refine ⟨_, rfl, _, rfl, fun r nr => ⟨r, n, rfl, upd_same, by omega, fun L nL => ?_⟩⟩
          have q3 := same_new (o := .rng 0 (n : Int)) nr
          have s7 := s6.same q3
          have tA7 := tA6.same q3
          clear tA6 s6 e1 e2 q2 q3
          generalize (upd H6 r (.rng 0 (n : Int))) = H7 at s7 tA7 nL ⊢
          have nLH : H L = none := s7.free nL
          have neL : L ≠ p := hb.ne nLH
          have neLD : L ≠ D := fun z => by
            obtain ⟨_, e, _⟩ := tA7.ex
            rw [← z, nL] at e
            cases e
          have eL : (upd H7 L (.lst (natsV n))) L = some (.lst ((List.range n).map natV)) := upd_same
          refine ⟨_, rfl, _, _, rfl, rfl, ⟨by decide, by decide⟩, _, rfl, by omega, by omega, for_range (lo := 0) (n := _) (fun c σ H8 => Step p H7 H8 ∧ ∃ (row : List Nat) (o11 : Option V), σ = [some (.ref p), some (.ref a), some (natV n), some (.ref D), some (natV g), some (.int hd.1), some (.ref b), some (natV q), some (natV g), some (natV q), some (.ref L), o11, o12, o13] ∧ H8 L = some (.lst (row.map natV)) ∧ Invo n row ∧ ∀ s : Nat, 2 * c ≤ s → s < n → row[s]? = some s)
            ⟨(Step.refl s7.box).new nL, List.range n, _, rfl, eL, invo_range n, fun s _ hs => range_get hs⟩ ?_ ?_⟩
          · rintro c σ H8 hcl ⟨s8, row, o11, rfl, eL8, iv, rest⟩
            have hc2 : 2 * c + 1 < n := by omega
            obtain ⟨xa, xb, hx, hx0, hx1⟩ := s8.box.ex
            refine ⟨_, rfl, p, xa, xb, _, rfl, hx, hx0, hx1, by decide, by decide, fun u a1 b1 u0 u1 c1 c2 => ?_⟩
            have s9 := s8.take (x := a1) c1 c2
            have eL9 : (upd H8 p (.lst [.int a1, .int b1])) L = some (.lst (row.map natV)) := by rw [upd_ne neL]; exact eL8
            generalize (upd H8 p (.lst [.int a1, .int b1])) = H9 at s9 eL9 ⊢
            refine ⟨_, _, rfl, rfl, _, rfl, ?_⟩
            refine ite2 (fun _ => ?_) (fun _ => ?_)
            · have cm : CMul 2 (0 + (c : Int)) := .inl ⟨by decide, by decide⟩
              have z1 : V.int (2 * (0 + (c : Int)) + 1) = natV (2 * c + 1) := by unfold natV; congr 1; omega
              have z0 : V.int (2 * (0 + (c : Int))) = natV (2 * c) := by unfold natV; congr 1; omega
              have ll : (row.map natV).length = n := by rw [List.length_map]; exact iv.len
              refine ⟨_, rfl, _, _, rfl, rfl, cm, _, _, rfl, rfl, _, rfl, _, _, rfl, rfl, cm, (by show 2 ≤ sizeLine; decide), fun T3 nT3 => ?_⟩
              have eL10 := (same_new (o := .tup [.int (2 * (0 + (c : Int)) + 1), .int (2 * (0 + (c : Int)))]) nT3) _ _ eL9
              have s10 := s9.new (o := .tup [.int (2 * (0 + (c : Int)) + 1), .int (2 * (0 + (c : Int)))]) nT3
              refine ⟨T3, _, rfl, SqT.of upd_same, rfl, _, _, rfl, _, rfl, _, rfl, _, _, rfl, rfl, cm, L, _, _, 2 * c, rfl, rfl, eL10, ixN_nat (by omega) (by omega), ?_⟩
              refine ⟨_, _, rfl, _, rfl, _, rfl, _, _, rfl, rfl, cm, _, _, rfl, rfl, L, _, _, 2 * c + 1, rfl, rfl, upd_same, ixN_nat (by omega) (by rw [List.length_set]; omega), rfl, ?_⟩
              have hX : ((row.map natV).set (2 * c) (.int (2 * (0 + (c : Int)) + 1))).set (2 * c + 1) (.int (2 * (0 + (c : Int)))) = ((row.set (2 * c) (2 * c + 1)).set (2 * c + 1) (2 * c)).map natV := by rw [z1, z0, ← List.map_set, ← List.map_set]
              refine ⟨(s10.put nL neL).put nL neL, (row.set (2 * c) (2 * c + 1)).set (2 * c + 1) (2 * c), _, rfl, (by rw [← hX]; exact upd_same), iv.swap hc2 (rest _ (by omega) (by omega)) (rest _ (by omega) (by omega)), fun s h1 h2 => ?_⟩
              rw [List.getElem?_set_ne (by omega), List.getElem?_set_ne (by omega)]
              exact rest s (by omega) h2
            · exact ⟨s9, row, _, rfl, eL9, iv, fun s h1 h2 => rest s (by omega) h2⟩
          · rintro σ H8 ⟨s8, row, o11, rfl, eL8, iv, _⟩
            obtain ⟨xa, xb, hx, hx0, hx1⟩ := s8.box.ex
            refine ⟨_, rfl, _, rfl, p, xa, xb, _, rfl, hx, hx0, hx1, by omega, by omega, fun u a1 b1 u0 u1 c1 c2 => ?_⟩
            obtain ⟨u, rfl⟩ := Int.eq_ofNat_of_zero_le u0
            have s9 := s8.take (x := a1) c1 c2
            have eL9 : (upd H8 p (.lst [.int a1, .int b1])) L = some (.lst (row.map natV)) := by rw [upd_ne neL]; exact eL8
            generalize (upd H8 p (.lst [.int a1, .int b1])) = H9 at s9 eL9 ⊢
            have tA9 := tA7.step hb nD s9
            refine ⟨_, rfl, _, rfl, by omega, by omega, fun D2 nD2 => ?_⟩
            have s79 := s7.trans s9
            have nD2H : H D2 = none := s79.free nD2
            have neD2 : D2 ≠ D := fun z => by
              obtain ⟨_, e, _⟩ := tA9.ex
              rw [← z, nD2] at e
              cases e
            have neDL : L ≠ D2 := fun z => by rw [z, nD2] at eL9; cases eL9
            refine lc_range (lo := 0) (n := _) (fun c H10 => Same H9 H10 ∧ H10 D2 = some (.lst (((tuRow n u row).take c).map natV))) ⟨same_new nD2, upd_same⟩ ?_ ?_
            · rintro c H10 hcl ⟨s10, eD2⟩
              obtain ⟨u', v', eu', ul', ev', vl', _, et', tl'⟩ := tuV_at (c := u) (s := c) iv (by omega)
              refine ⟨rfl, ?_⟩
              dsimp only [tYes]
              rw [if_pos rfl]
              refine ⟨_, rfl, _, rfl, _, rfl, _, _, rfl, rfl, _, rfl, _, _, rfl, rfl, (by omega), L, _, _, _, rfl, rfl, SqL.of (s10 _ _ eL9), natV_at (i := u') (by rw [Int.zero_add]; exact eu') ev', _, rfl, _, _, rfl, rfl, _, rfl, _, _, rfl, rfl, (by omega), ?_⟩
              refine ⟨_, eD2, (by rw [List.length_map, List.length_take, sizeLine_eq]; omega), same_upd s10 nD2, ?_⟩
              rw [upd_same, take_snoc (tuRow_get (by omega)), List.map_append]
              show some (HO.lst (_ ++ [V.int (((v' : Int) - u) % n)])) = some (HO.lst (_ ++ [V.int (tuV n u row c : Int)]))
              rw [et']
            · rintro H10 ⟨s10, eD2⟩
              rw [Int.toNat_natCast, List.take_of_length_le (by unfold tuRow; rw [List.length_map, List.length_range]; omega)] at eD2
              refine ⟨_, rfl, _, rfl, _, rfl, (by show 2 ≤ sizeLine; decide), fun t3 m3 => ?_⟩
              have q4 := same_new (o := .tup [natV g, natV q]) m3
              have tA11 := (tA9.same s10).same q4
              have eD11 := q4 _ _ eD2
              have s11 := (s79.same s10).same q4
              have e11 : (upd H10 t3 (.tup [natV g, natV q])) t3 = some (.tup [natV g, natV q]) := upd_same
              generalize (upd H10 t3 (.tup [natV g, natV q])) = H11 at tA11 eD11 s11 e11 ⊢
              obtain ⟨kvs, eD, hl, kk⟩ := tA11.ex
              refine ⟨D, _, rfl, DPut.t (k := keyP g q) eD e11 (by rw [sizeLine_eq]; omega), ?_⟩
              exact ⟨s11.put nD neD, putF F g q (tuRow n u row), _, _, _, _, _, _, _, rfl, (TurnAt.put kk (fun _ _ _ _ e => e) hl eD11 nD2H neD2).mono (by omega), tP.self gd epeg iv.turned⟩
        · refine ⟨_, rfl, _, rfl, (by show 2 ≤ sizeLine; decide), fun t3 m3 => ⟨_, rfl, _, rfl, (by show 2 ≤ sizeLine; decide), fun t4 m4 => ?_⟩⟩
          have q3 := same_new (o := .tup [natV i, .int (j : Int)]) m3
          have q4 := same_new (o := .tup [.int (g : Int), .int (q : Int)]) m4
          have e3 := q4 _ _ (upd_same (H := H6) (a := t3) (o := .tup [natV i, .int (j : Int)]))
          have e4 : (upd (upd H6 t3 (.tup [natV i, .int (j : Int)])) t4 (.tup [.int (g : Int), .int (q : Int)])) t4 = some (.tup [.int (g : Int), .int (q : Int)]) := upd_same
          have s7 := s6.same (q3.trans q4)
          have tA7 := tA6.same (q3.trans q4)
          refine ⟨t3, t4, ((i : Int), (j : Int)), ((g : Int), (q : Int)), rfl, rfl, e3, e4, _, rfl, ?_⟩
          clear tA6 s6 q3
          generalize (upd (upd H6 t3 (.tup [natV i, .int (j : Int)])) t4 (.tup [.int (g : Int), .int (q : Int)])) = H7 at s7 tA7 e3 e4 ⊢
          have ne : ¬ (g = i ∧ q = j) := fun z => hc (decide_eq_true (by rw [z.1, z.2]))
          refine ite2 (fun hlt => ?_) (fun hlt => ?_)
          · refine ⟨_, rfl, _, rfl, p, n, rfl, s7.box, by omega, fun L π H8 nL s8 eL hp => ?_⟩
            have tA8 := tA7.step hb nD s8
            have nLH : H L = none := s7.free nL
            have neLD : L ≠ D := fun z => by
              obtain ⟨_, e, _⟩ := tA7.ex
              rw [← z, nL] at e
              cases e
            refine ⟨_, rfl, _, rfl, _, rfl, _, rfl, (by show 2 ≤ sizeLine; decide), fun t5 m5 => ?_⟩
            have q5 := same_new (o := .tup [natV i, .int (j : Int)]) m5
            have tA9 := tA8.same q5
            have eL9 := q5 _ _ eL
            have s9 := (s7.trans s8).same q5
            have e9 : (upd H8 t5 (.tup [natV i, .int (j : Int)])) t5 = some (.tup [natV i, .int (j : Int)]) := upd_same
            generalize (upd H8 t5 (.tup [natV i, .int (j : Int)])) = H9 at tA9 eL9 s9 e9 ⊢
            obtain ⟨kvs, eD, hl, kk⟩ := tA9.ex
            refine ⟨D, _, rfl, DPut.t (k := keyP i j) eD e9 (by rw [sizeLine_eq]; omega), ?_⟩
            have tA10 := TurnAt.put (h := i) (p := j) (r := π) kk (fun _ _ _ _ e => e) hl eL9 nLH neLD
            have s10 : Step p H (upd H9 D (.dT (putK kvs (keyP i j) (.ref L)))) := s9.put nD neD
            have eL10 : (upd H9 D (.dT (putK kvs (keyP i j) (.ref L)))) L = some (.lst (π.map natV)) := by rw [upd_ne neLD]; exact eL9
            generalize (upd H9 D (.dT (putK kvs (keyP i j) (.ref L)))) = H10 at tA10 s10 eL10 ⊢
            refine ⟨_, rfl, _, rfl, by omega, by omega, fun D2 nD2 => ?_⟩
            have nD2H : H D2 = none := s10.free nD2
            have neD2 : D2 ≠ D := fun z => by
              obtain ⟨_, e, _⟩ := tA10.ex
              rw [← z, nD2] at e
              cases e
            have pnd : π.Nodup := hp.nodup_iff.mpr List.nodup_range
            refine lc_range (lo := 0) (n := _) (fun c H11 => Same H10 H11 ∧ ∃ xs : List Nat, H11 D2 = some (.lst (xs.map natV)) ∧ xs.length = c ∧ ∀ s i : Nat, xs[s]? = some i → π[i]? = some s) ⟨same_new nD2, [], upd_same, rfl, fun s i e => by simp at e⟩ ?_ ?_
            · rintro c H11 hcl ⟨s11, xs, eD2, xl, hxs⟩
              obtain ⟨y, hy, ey⟩ := perm_onto hp (show c < n by omega)
              refine ⟨rfl, ?_⟩
              dsimp only [tYes]
              rw [if_pos rfl]
              have zc : V.int (0 + (c : Int)) = natV c := by unfold natV; rw [Int.zero_add]
              refine ⟨_, rfl, .inl ⟨rfl, _, SqL.of (s11 _ _ eL10)⟩, _, rfl, ?_⟩
              rw [zc]
              dsimp only [tNil]
              refine index_nats (SqL.of (s11 _ _ eL10)) pnd ey ?_
              refine ⟨_, eD2, (by rw [List.length_map, xl, sizeLine_eq]; omega), same_upd s11 nD2, xs ++ [y], (by rw [List.map_append]; exact upd_same), (by rw [List.length_append, xl]; rfl), fun s i e => ?_⟩
              by_cases z : s < xs.length
              · rw [List.getElem?_append_left z] at e
                exact hxs s i e
              · rw [List.getElem?_append_right (by omega)] at e
                have : s = c := by
                  have := (List.getElem?_eq_some_iff.mp e).1
                  simp at this
                  omega
                subst this
                rw [xl, Nat.sub_self] at e
                cases e
                exact ey
            · rintro H11 ⟨s11, xs, eD2, xl, hxs⟩
              rw [Int.toNat_natCast] at xl
              refine ⟨_, rfl, _, rfl, _, rfl, (by show 2 ≤ sizeLine; decide), fun t6 m6 => ?_⟩
              have q6 := same_new (o := .tup [.int (g : Int), .int (q : Int)]) m6
              have tA12 := (tA10.same s11).same q6
              have eD12 := q6 _ _ eD2
              have s12 := (s10.same s11).same q6
              have e12 : (upd H11 t6 (.tup [.int (g : Int), .int (q : Int)])) t6 = some (.tup [.int (g : Int), .int (q : Int)]) := upd_same
              generalize (upd H11 t6 (.tup [.int (g : Int), .int (q : Int)])) = H12 at tA12 eD12 s12 e12 ⊢
              obtain ⟨kvs', eD', hl', kk'⟩ := tA12.ex
              refine ⟨D, _, rfl, DPut.t (k := keyP g q) eD' e12 (by rw [sizeLine_eq]; omega), ?_⟩
              exact ⟨s12.put nD neD, putF (putF F i j π) g q xs, _, _, _, _, _, _, _, rfl, (TurnAt.put kk' (fun _ _ _ _ e => e) hl' eD12 nD2H neD2).mono (by omega), tP.pair gd epeg ne (Inv2.of_perm hp xl hxs)⟩
          · have hlt : ¬ ((i : Int) < g ∨ ((i : Int) = g ∧ (j : Int) < q)) := fun z => hlt (decide_eq_true z)
            exact ⟨s7, F, _, _, _, _, _, _, _, rfl, tA7.mono (by omega), tP.skip gd epeg (by omega)⟩
      · rintro σ H4 ⟨s4, F, o7, o8, o9, o10, o11, o12, o13, rfl, tA, tP⟩
        rw [List.length_map, psl] at tA tP
        exact ⟨s4, F, _, _, _, _, _, _, _, _, _, _, rfl, tA.mono (by omega), tP.row fun hd' e => by rw [ehd] at e; cases e; rfl⟩
    · rintro σ H2 ⟨s2, F, o4, o5, o6, o7, o8, o9, o10, o11, o12, o13, rfl, tA, tP⟩
      rw [List.length_map, hsl] at tA tP
      exact ⟨_, rfl, k D F H2 nD s2 (tA.mono (by omega)) tP.ok⟩
end
end NH
set_option Elab.async false
set_option linter.all false
set_option maxRecDepth 100000
set_option maxHeartbeats 4000000
namespace NH
open PySem L2
theorem nd_bound : ∀ (m : Nat) (l : List Nat), l.Nodup → (∀ x ∈ l, x < m) → l.length ≤ m
  | 0, l, _, h => by
    cases l with
    | nil => exact Nat.le_refl _
    | cons a r => exact absurd (h a (List.mem_cons_self ..)) (Nat.not_lt_zero _)
  | m + 1, l, nd, h => by
    by_cases z : m ∈ l
    · have h1 := nd_bound m (l.erase m) (nd.erase m) fun x hx => by
        have h2 := (nd.mem_erase_iff).mp hx
        have := h x h2.2
        have := h2.1
        omega
      rw [List.length_erase_of_mem z] at h1
      omega
    · have := nd_bound m l nd fun x hx => by
        have h1 := h x hx
        have : x ≠ m := fun y => z (y ▸ hx)
        omega
      omega
theorem nd_pairs {a b : Nat} {l : List End} (nd : l.Nodup) (h : ∀ x ∈ l, x.1 < a ∧ x.2 < b) : l.length ≤ a * b := by
  have inj : ∀ x ∈ l, ∀ y ∈ l, x.1 * b + x.2 = y.1 * b + y.2 → x = y := by
    intro x hx y hy e
    have h1 := h x hx
    have h2 := h y hy
    have d1 : (x.1 * b + x.2) / b = x.1 := by
      rw [Nat.mul_comm, Nat.mul_add_div (by omega), Nat.div_eq_of_lt h1.2, Nat.add_zero]
    have d2 : (y.1 * b + y.2) / b = y.1 := by
      rw [Nat.mul_comm, Nat.mul_add_div (by omega), Nat.div_eq_of_lt h2.2, Nat.add_zero]
    have e1 : x.1 = y.1 := by rw [← d1, ← d2, e]
    have e2 : x.2 = y.2 := by rw [e1] at e; omega
    exact Prod.ext e1 e2
  have nd2 : (l.map fun x => x.1 * b + x.2).Nodup := by
    clear h
    induction l with
    | nil => exact List.nodup_nil
    | cons a r ih =>
      rw [List.map_cons, List.nodup_cons]
      rw [List.nodup_cons] at nd
      refine ⟨fun hm => ?_, ih nd.2 fun x hx y hy => inj x (List.mem_cons_of_mem _ hx) y (List.mem_cons_of_mem _ hy)⟩
      obtain ⟨y, hy, e⟩ := List.mem_map.mp hm
      have := inj y (List.mem_cons_of_mem _ hy) a (List.mem_cons_self ..) e
      subst this
      exact nd.1 hy
  have := nd_bound (a * b) _ nd2 fun x hx => by
    obtain ⟨y, hy, rfl⟩ := List.mem_map.mp hx
    have h1 := h y hy
    have : (y.1 + 1) * b ≤ a * b := Nat.mul_le_mul_right _ h1.1
    rw [Nat.succ_mul] at this
    omega
  rwa [List.length_map] at this
def tuAt (F : Turns) (h p s : Nat) : Option Nat := (F h p).bind fun r => r[s]?
theorem TurnOk.at {n : Nat} {w : WebD} {F : Turns} (k : TurnOk n w F) {h p s : Nat} {x : PegD} (e : pegOf w h p = some x) (hs : s < n) : ∃ (g q t : Nat), x = ((g : Int), (q : Int)) ∧ tuAt F h p s = some t ∧ t < n ∧ tuAt F g q t = some s := by
  obtain ⟨g, q, r, r', rfl, e1, e2, iv⟩ := k.all h p x e
  obtain ⟨t, tl, a, b⟩ := iv.ab s hs
  exact ⟨g, q, t, rfl, by unfold tuAt; rw [e1]; exact a, tl, by unfold tuAt; rw [e2]; exact b⟩
structure Cov (n : Nat) (w : WebD) (F : Turns) (l : List End) (c j : Nat) : Prop where
  nd : l.Nodup
  zero : l[0]? = some (0, 0)
  inb : ∀ x ∈ l, x.1 < w.length ∧ x.2 < n
  closed : ∀ (k h s p g q : Nat), (k < c ∨ (k = c ∧ p < j)) → l[k]? = some (h, s) → pegOf w h p = some ((g : Int), (q : Int)) → ∃ t, tuAt F h p s = some t ∧ (g, t) ∈ l
  tree : ∀ k : Nat, 0 < k → k < l.length → ∃ k' h s p g q t : Nat, k' < k ∧ l[k']? = some (h, s) ∧ pegOf w h p = some ((g : Int), (q : Int)) ∧ tuAt F h p s = some t ∧ l[k]? = some (g, t)
section
variable {n room : Nat} {w : WebD} {F : Turns} {l : List End} {c j : Nat}
theorem Cov.first (h0 : 0 < w.length) (hn : 0 < n) : Cov n w F [(0, 0)] 0 0 :=
  ⟨List.nodup_cons.mpr ⟨(fun h => nomatch h), List.nodup_nil⟩, rfl, fun x hx => by rw [List.mem_singleton.mp hx]; exact ⟨h0, hn⟩, fun k h s p g q hk => by omega, fun k k0 k1 => by simp at k1; omega⟩
theorem Cov.len (k : Cov n w F l c j) : l.length ≤ w.length * n := nd_pairs k.nd k.inb
theorem Cov.old (k : Cov n w F l c j) {h s g q t : Nat} (e : l[c]? = some (h, s)) (ep : pegOf w h j = some ((g : Int), (q : Int))) (et : tuAt F h j s = some t) (hm : (g, t) ∈ l) : Cov n w F l c (j + 1) := by
  refine ⟨k.nd, k.zero, k.inb, fun k' h' s' p' g' q' hk e' ep' => ?_, k.tree⟩
  by_cases z : k' = c ∧ p' = j
  · obtain ⟨rfl, rfl⟩ := z
    rw [e] at e'
    cases e'
    rw [ep] at ep'
    obtain ⟨rfl, rfl⟩ := peg_nat ep'
    exact ⟨t, et, hm⟩
  · exact k.closed k' h' s' p' g' q' (by omega) e' ep'
theorem Cov.add (k : Cov n w F l c j) {h s g q t : Nat} (e : l[c]? = some (h, s)) (ep : pegOf w h j = some ((g : Int), (q : Int))) (et : tuAt F h j s = some t) (hm : ¬ (g, t) ∈ l) (hg : g < w.length) (ht : t < n) : Cov n w F (l ++ [(g, t)]) c (j + 1) := by
  have cl : c < l.length := (List.getElem?_eq_some_iff.mp e).1
  have up : ∀ {i : Nat} {x : End}, l[i]? = some x → (l ++ [(g, t)])[i]? = some x := fun e => by
    have := (List.getElem?_eq_some_iff.mp e).1
    rw [List.getElem?_append_left this]
    exact e
  have lk : (l ++ [(g, t)])[l.length]? = some (g, t) := by rw [List.getElem?_append_right (Nat.le_refl _), Nat.sub_self]; rfl
  refine ⟨nd_snoc k.nd hm, up k.zero, fun x hx => ?_, fun k' h' s' p' g' q' hk e' ep' => ?_, fun k' k0 k1 => ?_⟩
  · rcases List.mem_append.mp hx with z | z
    · exact k.inb x z
    · rw [List.mem_singleton.mp z]
      exact ⟨hg, ht⟩
  · have kl : k' < l.length := by omega
    rw [List.getElem?_append_left kl] at e'
    by_cases z : k' = c ∧ p' = j
    · obtain ⟨rfl, rfl⟩ := z
      rw [e] at e'
      cases e'
      rw [ep] at ep'
      obtain ⟨rfl, rfl⟩ := peg_nat ep'
      exact ⟨t, et, List.mem_append_right _ (List.mem_singleton.mpr rfl)⟩
    · obtain ⟨t', a, b⟩ := k.closed k' h' s' p' g' q' (by omega) e' ep'
      exact ⟨t', a, List.mem_append_left _ b⟩
  · rw [List.length_append] at k1
    by_cases z : k' < l.length
    · obtain ⟨a, h', s', p', g', q', t', x1, x2, x3, x4, x5⟩ := k.tree k' k0 z
      exact ⟨a, h', s', p', g', q', t', x1, up x2, x3, x4, up x5⟩
    · have : k' = l.length := by simp at k1; omega
      subst this
      exact ⟨c, h, s, j, g, q, t, cl, up e, ep, et, lk⟩
theorem Cov.next (k : Cov n w F l c j) {h s : Nat} {hd : HandD} (e : l[c]? = some (h, s)) (eh : w[h]? = some hd) (hj : hd.2.length = j) : Cov n w F l (c + 1) 0 := by
  refine ⟨k.nd, k.zero, k.inb, fun k' h' s' p' g' q' hk e' ep' => k.closed k' h' s' p' g' q' ?_ e' ep', k.tree⟩
  by_cases z : k' = c
  · subst z
    rw [e] at e'
    cases e'
    obtain ⟨hd', e1, e2⟩ := pegOf_some ep'
    rw [eh] at e1
    cases e1
    have := (List.getElem?_eq_some_iff.mp e2).1
    omega
  · omega
structure CovOf (w : WebD) (F : Turns) (l : List End) (w' : WebD) : Prop where
  len : w'.length = l.length
  at_ : ∀ (k h s : Nat) hd, l[k]? = some (h, s) → w[h]? = some hd → ∃ hd' : HandD, w'[k]? = some hd' ∧ hd'.1 = hd.1 ∧ hd'.2.length = hd.2.length ∧
    ∀ p g q : Nat, hd.2[p]? = some ((g : Int), (q : Int)) → ∃ t k' : Nat, tuAt F h p s = some t ∧ l[k']? = some (g, t) ∧ hd'.2[p]? = some ((k' : Int), (q : Int))
theorem CovOf.peg {w' : WebD} (r : CovOf w F l w') {k h s p g q : Nat} (e : l[k]? = some (h, s)) (ep : pegOf w h p = some ((g : Int), (q : Int))) : ∃ t k' : Nat, tuAt F h p s = some t ∧ l[k']? = some (g, t) ∧ pegOf w' k p = some ((k' : Int), (q : Int)) := by
  obtain ⟨hd, e1, e2⟩ := pegOf_some ep
  obtain ⟨hd', a, _, _, d⟩ := r.at_ k h s hd e e1
  obtain ⟨t, k', x, y, z⟩ := d p g q e2
  exact ⟨t, k', x, y, by unfold pegOf; rw [a]; exact z⟩
theorem CovOf.good {w' : WebD} (gd : Good room w) (tk : TurnOk n w F) (cv : Cov n w F l l.length 0) (r : CovOf w F l w') : Good room w' := by
  have hl := r.len
  have l0 : 0 < l.length := (List.getElem?_eq_some_iff.mp cv.zero).1
  have hand : ∀ k : Nat, k < l.length → ∃ (h s : Nat) (hd : HandD), l[k]? = some (h, s) ∧ w[h]? = some hd ∧ s < n := by
    intro k hk
    have e : l[k]? = some (l[k].1, l[k].2) := List.getElem?_eq_getElem hk
    have b := cv.inb l[k] (List.getElem_mem hk)
    exact ⟨_, _, _, e, List.getElem?_eq_getElem b.1, b.2⟩
  have tie : ∀ (h p : Nat) x, pegOf w' h p = some x → ∃ g q : Nat, x = ((g : Int), (q : Int)) ∧ pegOf w' g q = some ((h : Int), (p : Int)) := by
    intro k p x ex
    have kl : k < l.length := by rw [← hl]; exact pegOf_lt ex
    obtain ⟨h, s, hd, e1, e2, sl⟩ := hand k kl
    obtain ⟨hd', a, b, c, d⟩ := r.at_ k h s hd e1 e2
    have pl : p < hd.2.length := by
      obtain ⟨hd2, z1, z2⟩ := pegOf_some ex
      rw [a] at z1
      cases z1
      have := (List.getElem?_eq_some_iff.mp z2).1
      omega
    have ep : pegOf w h p = some (hd.2[p]) := by unfold pegOf; rw [e2]; exact List.getElem?_eq_getElem pl
    obtain ⟨g, q, exq, back⟩ := gd.tie h p _ ep
    rw [exq] at ep
    obtain ⟨g2, q2, t, zz, et, tl, et2⟩ := tk.at ep sl
    obtain ⟨rfl, rfl⟩ := peg_nat (congrArg some zz)
    obtain ⟨t', k', f1, f2, f3⟩ := r.peg e1 ep
    rw [et] at f1
    cases f1
    rw [ex] at f3
    cases f3
    refine ⟨k', q, rfl, ?_⟩
    obtain ⟨s', k2, g1, g2, g3⟩ := r.peg f2 back
    rw [et2] at g1
    cases g1
    have : k2 = k := nd_ix cv.nd g2 e1
    subst this
    exact g3
  have edge : ∀ k : Nat, 0 < k → k < l.length → ∃ k' p q : Nat, k' < k ∧ pegOf w' k' p = some ((k : Int), (q : Int)) := by
    intro k k0 k1
    obtain ⟨k', h, s, p, g, q, t, x1, x2, x3, x4, x5⟩ := cv.tree k k0 k1
    obtain ⟨t', k2, f1, f2, f3⟩ := r.peg x2 x3
    rw [x4] at f1
    cases f1
    have : k2 = k := nd_ix cv.nd f2 x5
    subst this
    exact ⟨k', p, q, x1, f3⟩
  refine ⟨by omega, fun k hd' e => ?_, fun k hd' e => ?_, tie, fun S hS a b ha hb sa => ?_⟩
  · have kl : k < l.length := by rw [← hl]; exact (List.getElem?_eq_some_iff.mp e).1
    obtain ⟨h, s, hd, e1, e2, sl⟩ := hand k kl
    obtain ⟨hd2, a, b, c, d⟩ := r.at_ k h s hd e1 e2
    rw [e] at a
    cases a
    rw [b]
    exact gd.mark h hd e2
  · have kl : k < l.length := by rw [← hl]; exact (List.getElem?_eq_some_iff.mp e).1
    obtain ⟨h, s, hd, e1, e2, sl⟩ := hand k kl
    obtain ⟨hd2, a, b, c, d⟩ := r.at_ k h s hd e1 e2
    rw [e] at a
    cases a
    rw [c]
    exact gd.pegs h hd e2
  · have down : ∀ m k : Nat, k ≤ m → k < l.length → S k → S 0 := by
      intro m
      induction m with
      | zero => intro k hk _ sk; rw [show k = 0 by omega] at sk; exact sk
      | succ m ih =>
        intro k hk kl sk
        by_cases k0 : k = 0
        · rw [k0] at sk; exact sk
        · obtain ⟨k', p, q, x1, x2⟩ := edge k (by omega) kl
          obtain ⟨g, q', y1, y2⟩ := tie k' p _ x2
          obtain ⟨rfl, rfl⟩ := peg_nat (congrArg some y1)
          exact ih k' (by omega) (by omega) (hS k q k' p y2 sk)
    have up : ∀ m k : Nat, k ≤ m → k < l.length → S 0 → S k := by
      intro m
      induction m with
      | zero => intro k hk _ sk; rw [show k = 0 by omega]; exact sk
      | succ m ih =>
        intro k hk kl sk
        by_cases k0 : k = 0
        · rw [k0]; exact sk
        · obtain ⟨k', p, q, x1, x2⟩ := edge k (by omega) kl
          exact hS k' p k q x2 (ih k' (by omega) (by omega) sk)
    exact up b b (Nat.le_refl _) (by omega) (down a a (Nat.le_refl _) (by omega) sa)
end
theorem TurnAt.get {H0 H : Hp} {D b : Addr} {F : Turns} {m h p s t : Nat} (k : TurnAt H0 H D F m) (e : tuAt F h p s = some t) (eb : H b = some (.tup [natV h, natV p])) : ∃ (l : Addr) (r : List Nat), DGet H D (.ref b) (some (.ref l)) ∧ H l = some (.lst (r.map natV)) ∧ r[s]? = some t := by
  obtain ⟨kvs, eD, _, kk⟩ := k.ex
  obtain ⟨r, e1, e2⟩ := Option.bind_eq_some_iff.mp e
  obtain ⟨l, a, b', _, _⟩ := kk h p r e1
  refine ⟨l, r, ?_, b', e2⟩
  rw [← a]
  exact DGet.t eD eb
theorem mem_pegI {l : List End} {g t : Nat} : (((g : Int), (t : Int)) ∈ l.map pegI) ↔ (g, t) ∈ l := by
  constructor
  · intro h
    obtain ⟨x, hx, e⟩ := List.mem_map.mp h
    rw [← pegI_inj e]
    exact hx
  · intro h
    exact List.mem_map.mpr ⟨_, h, rfl⟩
theorem get_pegI {l : List End} {k : Nat} {x : PegD} (e : (l.map pegI)[k]? = some x) : ∃ h s : Nat, l[k]? = some (h, s) ∧ x = ((h : Int), (s : Int)) := by
  rw [List.getElem?_map] at e
  obtain ⟨y, e1, rfl⟩ := Option.map_eq_some_iff.mp e
  exact ⟨y.1, y.2, e1, rfl⟩
theorem pegI_get {l : List End} {k h s : Nat} (e : l[k]? = some (h, s)) : (l.map pegI)[k]? = some ((h : Int), (s : Int)) := by rw [List.getElem?_map, e]; rfl
theorem web_hand {K : PySem.W.Frag} {H : Hp} {a : Addr} {hs : List Addr} {wb : WebD} (hWa : H a = some (.tup (hs.map V.ref))) (hWP : Paired (HandAt H) hs wb) {h : Nat} (hl : h < wb.length) :
    ∃ (ha b : Addr) (hd : HandD) (ps : List Addr), wb[h]? = some hd ∧ atI (hs.map V.ref) (h : Int) = some (.ref ha) ∧ H ha = some (.tup [.int hd.1, .ref b]) ∧ H b = some (.tup (ps.map V.ref)) ∧ PairsAt H ps hd.2 := by
  have e : wb[h]? = some wb[h] := List.getElem?_eq_getElem hl
  obtain ⟨ha, e1, b, e2, ps, e3, e4⟩ := paired_get' hWP e
  exact ⟨ha, b, _, ps, e, at_of rfl (by rw [List.getElem?_map, e1]; rfl), e2, e3, e4⟩
def CovHand (F : Turns) (l : List End) (h s : Nat) (hd hd' : HandD) : Prop := hd'.1 = hd.1 ∧ hd'.2.length = hd.2.length ∧
  ∀ p g q : Nat, hd.2[p]? = some ((g : Int), (q : Int)) → ∃ t k' : Nat, tuAt F h p s = some t ∧ l[k']? = some (g, t) ∧ hd'.2[p]? = some ((k' : Int), (q : Int))
theorem first_pegI {l : List End} (nd : l.Nodup) {k g t : Nat} (e : l[k]? = some (g, t)) : ∀ m, m < k → (l.map pegI)[m]? ≠ some ((g : Int), (t : Int)) := by
  intro m hm e'
  obtain ⟨h, s, e1, e2⟩ := get_pegI e'
  obtain ⟨rfl, rfl⟩ := peg_nat (congrArg some e2)
  have := nd_ix nd e e1
  omega
def spCover : Sp := fun vs H Q _ => ∃ (p a : Addr) (wb : WebD) (n room : Nat), vs = [.ref p, .ref a, natV n] ∧ BoxAt H p ∧ WebAt H a wb ∧ Good room wb ∧ wb.length * n ≤ 1000 ∧ wb.length ≤ 1000 ∧ room ≤ 1000 ∧ 1 ≤ n ∧ n ≤ 1000 ∧
  ∀ (r rw rl : Addr) (F : Turns) (l : List End) (w0 w' : WebD) (π ld : List Nat) (H' : Hp), H r = none → H rw = none → Step p H H' → H' r = some (.tup [.ref rw, .ref rl]) → WebAt H' rw w' → H' rl = some (.tup (ld.map natV)) → TurnOk n wb F → Cov n wb F l l.length 0 → CovOf wb F l w0 →
    π.Perm (List.range l.length) → RenOf w0 π w' → ld.length = l.length → (∀ (k j h s : Nat), π[k]? = some j → l[k]? = some (h, s) → ld[j]? = some h) → Q (.ref r) H'
end NH
set_option Elab.async false
set_option linter.all false
set_option maxRecDepth 100000
set_option maxHeartbeats 4000000
namespace NH
open PySem L2
abbrev sCov : Stmt := top 17
abbrev nCov : List Str := ["_law_box_here", "_law_web_here", "_law_sheets", "_law_turnings_here", "_law_there", "_law_at", "_law_h", "_law_s", "_law_p", "_law_g", "_law_q", "_law_found", "_law_pegs", "_law_row", "_law_leading", "_law_k"]
section
variable {P : Program} {w : World} {K : PySem.W.Frag} {mg : Str → Option Value} {base : Heap}
theorem scCov : FnScope nCov ["_law_box_here", "_law_web_here", "_law_sheets"] (defScope sCov) := ⟨rfl, rfl, rfl, by decide +kernel, rfl, by decide +kernel, by decide +kernel⟩
structure Dr3 (P : Program) (w : World) (K : PySem.W.Frag) (mg : Str → Option Value) (base : Heap) : Prop extends Dr P w K mg base where
  turn : ∃ (f : Addr) (fd : FuncData), FnOk P w K mg base CX0 3 f fd ["_law_box_here", "_law_web_here", "_law_sheets"] spTurn ∧ Binds K fd ["_law_box_here", "_law_web_here", "_law_sheets"] [] ∧ mg "_law_turnings" = some (.ref f) ∧ PySem.W.keepIn K (.ref f) = true
  ren : ∃ (f : Addr) (fd : FuncData), FnOk P w K mg base CX0 1 f fd ["_law_web_here", "_law_row"] spRen ∧ Binds K fd ["_law_web_here", "_law_row"] [] ∧ mg "_law_renamed" = some (.ref f) ∧ PySem.W.keepIn K (.ref f) = true
abbrev tTg (K : PySem.W.Frag) : TE := tTup (tCons (tVar 9) (tCons (tOp (rIxL K) (tDGet (tVar 3) (tTup (tCons (tVar 6) (tCons (tVar 8) tNil)))) (tVar 7)) tNil))
theorem ok_cov {f : Addr} {fd : FuncData} (F : Fun K "_law_cover" "_law_cover" sCov f fd) (G : Dr3 P w K mg base) : FnOk P w K mg base CX0 4 f fd ["_law_box_here", "_law_web_here", "_law_sheets"] spCover := by
  obtain ⟨fS, fdS, GS, bS, mS, kS⟩ := G.shuf
  obtain ⟨fU, fdU, GU, bU, mU, kU⟩ := G.turn
  obtain ⟨fR, fdR, GR, bR, mR, kR⟩ := G.ren
  refine F.ok scCov (fun vs H Q E h => ?_) (fun cdv A outer s H vs Q E hr h => ?_)
  · obtain ⟨p, a, wb, n, room, rfl, _⟩ := h
    rfl
  · obtain ⟨p, a, wb, n, room, rfl, hb, hW, gd, bnd, wl, rl, n1, n2, k⟩ := h
    have nd := scCov.nd
    have hr1 := hr.mono (show 1 ≤ 3 by decide)
    have hr2 := hr.mono (show 2 ≤ 3 by decide)
    refine ⟨_, pss_cons (ps_set (i := 3) nd rfl (Or.inr rfl) (pe_call GU hr (by rfl) mU kU bU .nil pass0 (pa_cons (pv 0) (pa_cons (pv 1) (pa_cons (pv 2) pa_nil)))))
      (pss_cons (ps_set (i := 4) nd rfl (Or.inr rfl) (pe_lst (pa_cons (pe_tup (pa_cons pe_int (pa_cons pe_int pa_nil))) pa_nil)))
      (pss_cons (ps_set (i := 5) nd rfl (Or.inl rfl) pe_int)
      (pss_cons (ps_while PassesOwn.never (pt_cmpR op_lt (pv 5) (pe_callB call_len_seq (by rfl) G.mlen PySem.boot_len (pa_cons (pv 4) pa_nil)) (nomark _))
        (pss_cons (ps_asg (pe_ix ix_list (pv 4) (pv 5) (fun _ _ => rfl)) (pg_tup (by rfl) (pgs_cons (pg_name (i := 6) nd rfl (Or.inr rfl)) (pgs_cons (pg_name (i := 7) nd rfl (Or.inr rfl)) pgs_nil))))
        (pss_cons (ps_for PassesOwn.never rfl (pi_enumT (by rfl) G.menum (pa_cons (pe_ix ix_tup (pe_ix ix_tup (pv 1) (pv 6) (fun _ _ => rfl)) pe_int (fun _ _ => rfl)) pa_nil)) (pg_tup (by rfl) (pgs_cons (pg_name (i := 8) nd rfl (Or.inl rfl)) (pgs_cons (pg_tup (by rfl) (pgs_cons (pg_name (i := 9) nd rfl (Or.inl rfl)) (pgs_cons (pg_name (i := 10) nd rfl (Or.inl rfl)) pgs_nil))) pgs_nil)))
          (pss_one (ps_if (pt_cmpR (op_notInP hr) (pe_tup (pa_cons (pv 9) (pa_cons (pe_ix ix_list (pe_dget hr.units1 (pv 3) (pe_tup (pa_cons (pv 6) (pa_cons (pv 8) pa_nil))) (fun _ _ => rfl)) (pv 7) (fun _ _ => rfl)) pa_nil))) (pv 4) (by rfl))
            (pss_one (ps_expr (pe_bm PySem.F.plainAttrs_list PySem.F.slot_list_append PySem.F.type_list_append mt_append (pv 4) (pa_cons (pe_tup (pa_cons (pv 9) (pa_cons (pe_ix ix_list (pe_dget hr.units1 (pv 3) (pe_tup (pa_cons (pv 6) (pa_cons (pv 8) pa_nil))) (fun _ _ => rfl)) (pv 7) (fun _ _ => rfl)) pa_nil))) pa_nil)))) pss_nil)))
        (pss_one (ps_set (i := 5) nd rfl (Or.inl rfl) (pe_op op_add (pv 5) pe_int))))))
      (pss_cons (ps_set (i := 11) nd rfl (Or.inl rfl) (pe_lst pa_nil))
      (pss_cons (ps_for PassesOwn.never rfl (pi_list (pv 4)) (pg_tup (by rfl) (pgs_cons (pg_name (i := 6) nd rfl (Or.inr rfl)) (pgs_cons (pg_name (i := 7) nd rfl (Or.inr rfl)) pgs_nil)))
        (pss_cons (ps_setLc (i := 12) (own := [("_law_p", 8), ("_law_g", 9), ("_law_q", 10)]) (g := gTup K 2 (gCons (gName 8) (gCons (gTup K 2 (gCons (gName 9) (gCons (gName 10) gNil))) gNil))) (te := tTup (tCons (tBM K "list" rIndexP (tVar 4) (tCons (tTg K) tNil)) (tCons (tVar 10) tNil))) (by rfl) nd rfl rfl (sw_true rfl rfl rfl (by decide +kernel))
            (pi_enumT (by rfl) G.menum (pa_cons (pe_ix ix_tup (pe_ix ix_tup (pv 1) (pv 6) (fun _ _ => rfl)) pe_int (fun _ _ => rfl)) pa_nil)) (blkOk_by (own := [("_law_p", 8), ("_law_g", 9), ("_law_q", 10)]) (N := nCov) (sc := defScope sCov) (by decide +kernel))
            (fun _ _ _ _ _ => by exact pg_tup (by rfl) (pgs_cons (pg_name (i := 8) nd rfl (Or.inl rfl)) (pgs_cons (pg_tup (by rfl) (pgs_cons (pg_name (i := 9) nd rfl (Or.inl rfl)) (pgs_cons (pg_name (i := 10) nd rfl (Or.inl rfl)) pgs_nil))) pgs_nil))) (fun _ _ _ _ _ => pts_nil)
            (fun _ _ _ _ _ => by exact pe_tup (pa_cons (pe_bm PySem.F.plainAttrs_list PySem.F.slot_list_index PySem.F.type_list_index (mt_indexP hr) (pv 4) (pa_cons (pe_tup (pa_cons (pv 9) (pa_cons (pe_ix ix_list (pe_dget hr.units1 (pv 3) (pe_tup (pa_cons (pv 6) (pa_cons (pv 8) pa_nil))) (fun _ _ => rfl)) (pv 7) (fun _ _ => rfl)) pa_nil))) pa_nil)) (pa_cons (pv 10) pa_nil))))
        (pss_one (ps_expr (pe_bm PySem.F.plainAttrs_list PySem.F.slot_list_append PySem.F.type_list_append mt_append (pv 11) (pa_cons (pe_tup (pa_cons (pe_ix ix_tup (pe_ix ix_tup (pv 1) (pv 6) (fun _ _ => rfl)) pe_int (fun _ _ => rfl)) (pa_cons (pe_callTy call_tuple_of (by rfl) G.mtuple (by decide +kernel) (pa_cons (pv 12) pa_nil)) pa_nil))) pa_nil))))))
      (pss_cons (ps_set (i := 13) nd rfl (Or.inl rfl) (pe_call GS hr2 (by rfl) mS kS bS .nil pass0 (pa_cons (pv 0) (pa_cons (pe_callB call_len_seq (by rfl) G.mlen PySem.boot_len (pa_cons (pv 4) pa_nil)) pa_nil))))
      (pss_cons (ps_set (i := 14) nd rfl (Or.inl rfl) (pe_op op_rep (pe_lst (pa_cons pe_int pa_nil)) (pe_callB call_len_seq (by rfl) G.mlen PySem.boot_len (pa_cons (pv 4) pa_nil))))
      (pss_cons (ps_for PassesOwn.never rfl (pi_enum (by rfl) G.menum (pa_cons (pv 4) pa_nil)) (pg_tup (by rfl) (pgs_cons (pg_name (i := 15) nd rfl (Or.inl rfl)) (pgs_cons (pg_tup (by rfl) (pgs_cons (pg_name (i := 6) nd rfl (Or.inr rfl)) (pgs_cons (pg_name (i := 7) nd rfl (Or.inr rfl)) pgs_nil))) pgs_nil)))
        (pss_one (ps_asg (pv 6) (pg_sub (pv 14) (pe_ix ix_list (pv 13) (pv 15) (fun _ _ => rfl)) set_list))))
      (pss_one (ps_ret (pe_tup (pa_cons (pe_call GR hr1 (by rfl) mR kR bR .nil pass0 (pa_cons (pe_callTy call_tuple_of (by rfl) G.mtuple (by decide +kernel) (pa_cons (pv 11) pa_nil)) (pa_cons (pv 13) pa_nil))) (pa_cons (pe_callTy call_tuple_of (by rfl) G.mtuple (by decide +kernel) (pa_cons (pv 14) pa_nil)) pa_nil))))))))))))), ?_⟩
    obtain ⟨hs, hWa, hWP⟩ := hW
    have hsl : hs.length = wb.length := Paired.length hWP
    refine ⟨_, rfl, _, rfl, _, rfl, p, a, wb, n, room, rfl, hb, ⟨hs, hWa, hWP⟩, gd, wl, rl, n1, n2, fun D F H1 nD s1 tA tk => ?_⟩
    have neD : D ≠ p := hb.ne nD
    have hWa1 := s1.tups hb _ _ hWa
    have hWP1 : Paired (HandAt H1) hs wb := Paired.mapP hWP fun _ _ z => z.tups (s1.tups hb)
    -- the first one
    refine ⟨(by show 2 ≤ sizeLine; decide), fun t0 m0 => ⟨(by show 1 ≤ sizeLine; decide), fun L nL => ?_⟩⟩
    have q0 := same_new (o := .tup [.int 0, .int 0]) m0
    have e0 : (upd H1 t0 (.tup [.int 0, .int 0])) t0 = some (.tup [.int 0, .int 0]) := upd_same
    have tA2 := tA.same q0
    have s2 := s1.same q0
    have hWa2 := q0 _ _ hWa1
    have hWP2 : Paired (HandAt (upd H1 t0 (.tup [.int 0, .int 0]))) hs wb := Paired.mapP hWP1 fun _ _ z => z.tups (sTups q0)
    clear hWa1 hWP1
    generalize (upd H1 t0 (.tup [.int 0, .int 0])) = H2 at e0 tA2 s2 hWa2 hWP2 nL ⊢
    have nLH : H L = none := s2.free nL
    have neL : L ≠ p := hb.ne nLH
    have w0 : 0 < wb.length := gd.pos
    have hL0 : PairsAt (upd H2 L (.lst [.ref t0])) [t0] ([((0 : Nat), (0 : Nat))].map pegI) := .cons (same_new nL _ _ e0) .nil
    refine ⟨fun m σ H3 => ∃ (c : Nat) (as : List Addr) (l : List End) (o6 o7 o8 o9 o10 : Option V), m = 1001 - c ∧ σ = [some (.ref p), some (.ref a), some (natV n), some (.ref D), some (.ref L), some (natV c), o6, o7, o8, o9, o10, none, none, none, none, none] ∧ Same H2 H3 ∧ H3 L = some (.lst (as.map V.ref)) ∧ PairsAt H3 as (l.map pegI) ∧ Cov n wb F l c 0 ∧ c ≤ l.length,
      ⟨_, 0, [t0], [(0, 0)], none, none, none, none, none, rfl, rfl, same_new nL, upd_same, hL0, Cov.first w0 (by omega), Nat.zero_le _⟩, ?_⟩
    rintro m σ H3 ⟨c, as, l, o6, o7, o8, o9, o10, rfl, rfl, s3, hL, hP, cv, cl⟩
    have asl : as.length = l.length := by have := Paired.length hP; rwa [List.length_map] at this
    have ll := cv.len
    refine ⟨_, rfl, _, rfl, L, _, rfl, .inl (SqL.of hL), _, _, rfl, rfl, _, rfl, ?_⟩
    rw [List.length_map, asl]
    refine ite2 (fun hlt => ?_) (fun hlt => ?_)
    · have hlt : c < l.length := by
        have := of_decide_eq_true hlt
        omega
      obtain ⟨h, s, ehs⟩ : ∃ h s : Nat, l[c]? = some (h, s) := ⟨l[c].1, l[c].2, List.getElem?_eq_getElem hlt⟩
      have hin := cv.inb (h, s) (List.mem_of_getElem? ehs)
      obtain ⟨ta, eta, hta⟩ := paired_get' hP (pegI_get ehs)
      obtain ⟨ha, b, hd, ps, ehd, eat, eha, eb, hps⟩ := web_hand (K := K) hWa2 hWP2 hin.1
      have psl : ps.length = hd.2.length := Paired.length hps
      refine ⟨fun σ' H' => ∃ m', m' < 1001 - c ∧ _, fun σ' H' z => z, ?_⟩
      refine ⟨_, rfl, _, rfl, L, _, _, _, rfl, rfl, SqL.of hL, at_of rfl (by rw [List.getElem?_map, eta]; rfl), ?_⟩
      refine ⟨ta, _, rfl, SqT.of hta, rfl, _, _, rfl, _, _, rfl, rfl, ?_⟩
      refine ⟨_, rfl, _, rfl, a, _, _, _, rfl, rfl, SqT.of (s3 _ _ hWa2), eat, ha, _, _, _, rfl, rfl, SqT.of (s3 _ _ eha), rfl, b, _, rfl, SqT.of (s3 _ _ eb), ?_⟩
      refine for_enumT (K := K) (a := b) (xs := ps.map V.ref) (fun j σ H4 => ∃ (as : List Addr) (l : List End) (o8 o9 o10 : Option V), σ = [some (.ref p), some (.ref a), some (natV n), some (.ref D), some (.ref L), some (natV c), some (natV h), some (natV s), o8, o9, o10, none, none, none, none, none] ∧ Same H2 H4 ∧ H4 L = some (.lst (as.map V.ref)) ∧ PairsAt H4 as (l.map pegI) ∧ Cov n wb F l c j ∧ l[c]? = some (h, s))
        ⟨as, l, _, _, _, rfl, s3, hL, hP, cv, ehs⟩ (fun j σ H4 _ ⟨_, _, _, _, _, _, s4, _⟩ => SqT.of (s4 _ _ eb)) ?_ ?_
      · clear hP hL s3 ll asl cl hlt eta hta ehs cv
        rintro j y T σ H4 hyj ⟨as, l, o8, o9, o10, rfl, s4, hL, hP, cv, ehs⟩ nT
        rw [List.getElem?_map] at hyj
        obtain ⟨pa, epa, rfl⟩ := Option.map_eq_some_iff.mp hyj
        obtain ⟨x, ex, hpa⟩ := paired_get hps epa
        have epeg : pegOf wb h j = some x := by unfold pegOf; rw [ehd]; exact ex
        obtain ⟨g, q, t, rfl, et, tl, et2⟩ := tk.at epeg hin.2
        have gl : g < wb.length := by
          obtain ⟨g', q', z1, z2⟩ := gd.tie h j _ epeg
          obtain ⟨rfl, rfl⟩ := peg_nat (congrArg some z1)
          exact pegOf_lt z2
        have asl : as.length = l.length := by have := Paired.length hP; rwa [List.length_map] at this
        have ll := cv.len
        have qT := same_new (o := .tup [.int (j : Nat), .ref pa]) nT
        have s5 := s4.trans qT
        have hL5 := qT _ _ hL
        have hP5 := pairs_tups (sTups qT) hP
        refine ⟨T, _, rfl, SqT.of upd_same, rfl, _, _, rfl, _, _, rfl, ⟨pa, _, rfl, SqT.of (s5 _ _ hpa), rfl, _, _, rfl, _, _, rfl, rfl, rfl, ?_⟩⟩
        generalize (upd H4 T (.tup [.int (j : Nat), .ref pa])) = H5 at s5 hL5 hP5 ⊢
        clear qT
        refine ⟨_, rfl, _, rfl, _, rfl, _, rfl, (by show 2 ≤ sizeLine; decide), fun t1 m1 => ?_⟩
        have q1 := same_new (o := .tup [natV h, .int (j : Int)]) m1
        obtain ⟨lr, r, dg, elr, er⟩ := (tA2.same (s5.trans q1)).get et (b := t1) upd_same
        refine ⟨D, _, rfl, dg, _, rfl, lr, _, _, _, rfl, rfl, SqL.of elr, natV_at rfl er, (by show 2 ≤ sizeLine; decide), fun t2 m2 => ?_⟩
        have q2 := same_new (o := .tup [.int ((g : Int), (q : Int)).fst, natV t]) m2
        have q12 := q1.trans q2
        have s6 := s5.trans q12
        have hL6 := q12 _ _ hL5
        have hP6 := pairs_tups (sTups q12) hP5
        have e2 : (upd (upd H5 t1 (.tup [natV h, .int (j : Int)])) t2 (.tup [.int ((g : Int), (q : Int)).fst, natV t])) t2 = some (.tup [.int ((g : Int), (q : Int)).fst, natV t]) := upd_same
        refine ⟨_, rfl, t2, L, as, l.map pegI, ((g : Int), (t : Int)), rfl, rfl, e2, hL6, hP6, _, rfl, ?_⟩
        clear dg elr er q1 q12
        generalize (upd (upd H5 t1 (.tup [natV h, .int (j : Int)])) t2 (.tup [.int ((g : Int), (q : Int)).fst, natV t])) = H6 at s6 hL6 hP6 e2 ⊢
        refine ite2 (fun hin2 => ?_) (fun hin2 => ?_)
        · have hno : ¬ (g, t) ∈ l := by
            rw [if_pos rfl, Bool.not_eq_true', decide_eq_false_iff_not, mem_pegI] at hin2
            exact hin2
          refine ⟨_, rfl, .inl ⟨rfl, _, SqL.of hL6⟩, _, rfl, _, rfl, _, rfl, _, rfl, (by show 2 ≤ sizeLine; decide), fun t3 m3 => ?_⟩
          have q3 := same_new (o := .tup [natV h, .int (j : Int)]) m3
          obtain ⟨lr, r, dg, elr, er⟩ := (tA2.same (s6.trans q3)).get et (b := t3) upd_same
          refine ⟨D, _, rfl, dg, _, rfl, lr, _, _, _, rfl, rfl, SqL.of elr, natV_at rfl er, (by show 2 ≤ sizeLine; decide), fun t4 m4 => ?_⟩
          have q34 := q3.trans (same_new (o := .tup [.int ((g : Int), (q : Int)).fst, natV t]) m4)
          have s7 := s6.trans q34
          have hL7 := q34 _ _ hL6
          have hP7 := pairs_tups (sTups q34) hP6
          have e4 : (upd (upd H6 t3 (.tup [natV h, .int (j : Int)])) t4 (.tup [.int ((g : Int), (q : Int)).fst, natV t])) t4 = some (.tup [.int ((g : Int), (q : Int)).fst, natV t]) := upd_same
          clear dg elr er q3 q34
          generalize (upd (upd H6 t3 (.tup [natV h, .int (j : Int)])) t4 (.tup [.int ((g : Int), (q : Int)).fst, natV t])) = H7 at s7 hL7 hP7 e4 ⊢
          refine ⟨L, _, _, rfl, rfl, hL7, (by rw [List.length_map, asl, sizeLine_eq]; omega), ?_⟩
          have tt := tups_lst (o := .lst (as.map V.ref ++ [.ref t4])) hL7
          refine ⟨as ++ [t4], l ++ [(g, t)], _, _, _, rfl, same_upd s7 nL, (by rw [List.map_append]; exact upd_same), ?_, cv.add ehs epeg et hno gl tl, ?_⟩
          · rw [List.map_append]
            have hnew : PairAt (upd H7 L (.lst (as.map V.ref ++ [.ref t4]))) t4 (pegI (g, t)) := tt _ _ e4
            exact paired_snoc (R := PairAt (upd H7 L (.lst (as.map V.ref ++ [.ref t4])))) hnew (pairs_tups tt hP7)
          · rw [List.getElem?_append_left (List.getElem?_eq_some_iff.mp ehs).1]
            exact ehs
        · have hyes : (g, t) ∈ l := by
            rw [if_pos rfl, Bool.not_eq_true', decide_eq_false_iff_not, mem_pegI] at hin2
            exact Classical.not_not.mp hin2
          exact ⟨as, l, _, _, _, rfl, s6, hL6, hP6, cv.old ehs epeg et hyes, ehs⟩
      · rintro σ H4 ⟨as, l, o8, o9, o10, rfl, s4, hL, hP, cv, ehs⟩
        rw [List.length_map, psl] at cv
        have cl : c < l.length := (List.getElem?_eq_some_iff.mp ehs).1
        have ll := cv.len
        refine ⟨_, rfl, _, _, rfl, rfl, ?_⟩
        exact ⟨1001 - (c + 1), by omega, c + 1, as, l, _, _, _, _, _, rfl, rfl, s4, hL, hP, cv.next ehs ehd rfl, by omega⟩
    · have hc : c = l.length := by
        have : ¬ ((c : Int) < (l.length : Int)) := fun z => hlt (decide_eq_true z)
        omega
      subst hc
      -- the hands above
      refine ⟨(by show 0 ≤ sizeLine; decide), fun Lf nLf => ?_⟩
      have nLf2 : H2 Lf = none := s3.free nLf
      have neLL : L ≠ Lf := fun z => by rw [← z, hL] at nLf; cases nLf
      refine ⟨_, rfl, L, rfl, ⟨_, SqL.of (same_new nLf _ _ hL)⟩, for_list (K := K) (a := L) (xs := as.map V.ref) (fun i σ H4 => Same H3 H4 ∧ ∃ (ns : List Addr) (wn : WebD) (o6 o7 o8 o9 o10 o12 : Option V), σ = [some (.ref p), some (.ref a), some (natV n), some (.ref D), some (.ref L), some (natV l.length), o6, o7, o8, o9, o10, some (.ref Lf), o12, none, none, none] ∧ H4 Lf = some (.lst (ns.map V.ref)) ∧ Paired (HandAt H4) ns wn ∧ wn.length = i ∧
          ∀ (k h s : Nat) hd, k < i → l[k]? = some (h, s) → wb[h]? = some hd → ∃ hd', wn[k]? = some hd' ∧ CovHand F l h s hd hd')
        ⟨same_new nLf, [], [], _, _, _, _, _, _, rfl, upd_same, .nil, rfl, fun k h s hd hk => absurd hk (Nat.not_lt_zero _)⟩ (fun i σ H4 _ ⟨s4, _⟩ => SqL.of (s4 _ _ hL)) ?_ ?_⟩
      · rintro i y σ H4 hyi ⟨s4, ns, wn, o6, o7, o8, o9, o10, o12, rfl, hLf, hN, wnl, hC⟩
        rw [List.getElem?_map] at hyi
        obtain ⟨ta, eta, rfl⟩ := Option.map_eq_some_iff.mp hyi
        obtain ⟨x, ex, hta⟩ := paired_get hP eta
        obtain ⟨h, s, ehs, rfl⟩ := get_pegI ex
        have hin := cv.inb (h, s) (List.mem_of_getElem? ehs)
        have s24 := s3.trans s4
        obtain ⟨ha, b, hd, ps, ehd, eat, eha, eb, hps⟩ := web_hand (K := K) hWa2 hWP2 hin.1
        have psl : ps.length = hd.2.length := Paired.length hps
        refine ⟨ta, _, rfl, SqT.of (s4 _ _ hta), rfl, _, _, rfl, _, _, rfl, rfl, ?_⟩
        refine ⟨_, rfl, _, rfl, a, _, _, _, rfl, rfl, SqT.of (s24 _ _ hWa2), eat, ha, _, _, _, rfl, rfl, SqT.of (s24 _ _ eha), rfl, b, _, rfl, SqT.of (s24 _ _ eb), fun Dp nDp => ?_⟩
        have nDp2 : H2 Dp = none := s24.free nDp
        refine lc_enumT (K := K) (a := b) (xs := ps.map V.ref) (fun c H5 => Same H4 H5 ∧ ∃ (bs : List Addr) (qs : List PegD), H5 Dp = some (.lst (bs.map V.ref)) ∧ PairsAt H5 bs qs ∧ qs.length = c ∧ ∀ p g q : Nat, p < c → hd.2[p]? = some ((g : Int), (q : Int)) → ∃ t k' : Nat, tuAt F h p s = some t ∧ l[k']? = some (g, t) ∧ qs[p]? = some ((k' : Int), (q : Int)))
          ⟨same_new nDp, [], [], upd_same, .nil, rfl, fun p g q hp => absurd hp (Nat.not_lt_zero _)⟩ (fun c H5 _ ⟨s5, _⟩ => SqT.of (s5 _ _ (s24 _ _ eb))) ?_ ?_
        · rintro j y T H5 hyj ⟨s5, bs, qs, hDp, hQ, ql, hqs⟩ nT
          rw [List.getElem?_map] at hyj
          obtain ⟨pa, epa, rfl⟩ := Option.map_eq_some_iff.mp hyj
          obtain ⟨x, exj, hpa⟩ := paired_get hps epa
          have epeg : pegOf wb h j = some x := by unfold pegOf; rw [ehd]; exact exj
          obtain ⟨g, q, t, rfl, et, tl, et2⟩ := tk.at epeg hin.2
          obtain ⟨t', et', hm⟩ := cv.closed i h s j g q (.inl (by rw [← asl]; exact (List.getElem?_eq_some_iff.mp eta).1)) ehs epeg
          rw [et] at et'
          cases et'
          obtain ⟨k', ek'⟩ := List.getElem?_of_mem hm
          have jl : j < hd.2.length := (List.getElem?_eq_some_iff.mp exj).1
          have qT := same_new (o := .tup [.int (j : Nat), .ref pa]) nT
          have s6 := s5.trans qT
          have hDp6 := qT _ _ hDp
          have hQ6 := pairs_tups (sTups qT) hQ
          refine ⟨T, _, rfl, SqT.of upd_same, rfl, _, _, rfl, _, _, rfl, ⟨pa, _, rfl, SqT.of (s6 _ _ (s24 _ _ hpa)), rfl, _, _, rfl, _, _, rfl, rfl, rfl, rfl, ?_⟩⟩
          generalize (upd H5 T (.tup [.int (j : Nat), .ref pa])) = H6 at s6 hDp6 hQ6 ⊢
          clear qT
          dsimp only [tYes]
          rw [if_pos rfl]
          refine ⟨_, rfl, .inl ⟨rfl, _, SqL.of (s6 _ _ (s4 _ _ hL))⟩, _, rfl, _, rfl, _, rfl, _, rfl, (by show 2 ≤ sizeLine; decide), fun t1 m1 => ?_⟩
          have q1 := same_new (o := .tup [.int (h : Int), .int (j : Int)]) m1
          obtain ⟨lr, r, dg, elr, er⟩ := (tA2.same ((s24.trans s6).trans q1)).get et (b := t1) upd_same
          refine ⟨D, _, rfl, dg, _, rfl, lr, _, _, _, rfl, rfl, SqL.of elr, natV_at rfl er, (by show 2 ≤ sizeLine; decide), fun t2 m2 => ?_⟩
          have q12 := q1.trans (same_new (o := .tup [.int (g : Int), natV t]) m2)
          have s7 := s6.trans q12
          have hDp7 := q12 _ _ hDp6
          have hQ7 := pairs_tups (sTups q12) hQ6
          have e2 : (upd (upd H6 t1 (.tup [.int (h : Int), .int (j : Int)])) t2 (.tup [.int (g : Int), natV t])) t2 = some (.tup [.int (g : Int), natV t]) := upd_same
          clear dg elr er q1 q12
          refine ⟨L, t2, as, l.map pegI, ((g : Int), (t : Int)), k', rfl, rfl, e2, s7 _ _ (s4 _ _ hL), pairs_tups (sTups (s4.trans s7)) hP, pegI_get ek', first_pegI cv.nd ek', _, rfl, (by show 2 ≤ sizeLine; decide), fun t3 m3 => ?_⟩
          generalize (upd (upd H6 t1 (.tup [.int (h : Int), .int (j : Int)])) t2 (.tup [.int (g : Int), natV t])) = H7 at s7 hDp7 hQ7 e2 m3 ⊢
          have q3 := same_new (o := .tup [.int (k' : Nat), .int ((g : Int), (q : Int)).snd]) m3
          have hDp8 := q3 _ _ hDp7
          have tt := (sTups q3).trans (tups_lst (o := .lst (bs.map V.ref ++ [V.ref t3])) hDp8)
          have pl := gd.pegs h hd ehd
          have bl : bs.length = qs.length := Paired.length hQ
          refine ⟨_, hDp8, (by rw [List.length_map, bl, ql, sizeLine_eq]; omega), same_upd (s7.trans q3) nDp, bs ++ [t3], qs ++ [((k' : Int), (q : Int))], (by rw [List.map_append]; exact upd_same), ?_, (by rw [List.length_append, ql]; rfl), fun p' g' q' hp' e' => ?_⟩
          · have hnew : PairAt (upd (upd H7 t3 (.tup [.int (k' : Nat), .int ((g : Int), (q : Int)).snd])) Dp (.lst (bs.map V.ref ++ [V.ref t3]))) t3 ((k' : Int), (q : Int)) := (tups_lst (o := .lst (bs.map V.ref ++ [V.ref t3])) hDp8) _ _ upd_same
            exact paired_snoc (R := PairAt (upd (upd H7 t3 (.tup [.int (k' : Nat), .int ((g : Int), (q : Int)).snd])) Dp (.lst (bs.map V.ref ++ [V.ref t3])))) hnew (pairs_tups tt hQ7)
          · by_cases z : p' = j
            · subst z
              rw [exj] at e'
              obtain ⟨rfl, rfl⟩ := peg_nat e'
              exact ⟨t, k', et, ek', by rw [List.getElem?_append_right (by omega), ql, Nat.sub_self]; rfl⟩
            · obtain ⟨t', k2, a1, a2, a3⟩ := hqs p' g' q' (by omega) e'
              exact ⟨t', k2, a1, a2, by rw [List.getElem?_append_left (by omega)]; exact a3⟩
        · rintro H5 ⟨s5, bs, qs, hDp, hQ, ql, hqs⟩
          rw [List.length_map, psl] at ql hqs
          have s25 := s24.trans s5
          refine ⟨_, rfl, .inl ⟨rfl, _, SqL.of (s5 _ _ hLf)⟩, _, rfl, _, rfl, a, _, _, _, rfl, rfl, SqT.of (s25 _ _ hWa2), eat, ha, _, _, _, rfl, rfl, SqT.of (s25 _ _ eha), rfl, ?_⟩
          refine ⟨_, rfl, Dp, _, rfl, .inl ⟨SqL.of hDp, fun pt npt => ⟨(by show 2 ≤ sizeLine; decide), fun hn nhn => ?_⟩⟩⟩
          have q1 := same_new (o := .tup (bs.map V.ref)) npt
          have q2 := same_new (o := .tup [.int hd.1, .ref pt]) nhn
          have q12 := q1.trans q2
          have hLf6 := q12 _ _ (s5 _ _ hLf)
          have ept := q2 _ _ (upd_same (H := H5) (a := pt) (o := .tup (bs.map V.ref)))
          have ehn : (upd (upd H5 pt (.tup (bs.map V.ref))) hn (.tup [.int hd.1, .ref pt])) hn = some (.tup [.int hd.1, .ref pt]) := upd_same
          have hQ6 := pairs_tups (sTups q12) hQ
          have hN6 : Paired (HandAt (upd (upd H5 pt (.tup (bs.map V.ref))) hn (.tup [.int hd.1, .ref pt]))) ns wn := Paired.mapP hN fun _ _ z => z.tups (sTups (s5.trans q12))
          have s6 := (s4.trans s5).trans q12
          generalize (upd (upd H5 pt (.tup (bs.map V.ref))) hn (.tup [.int hd.1, .ref pt])) = H6 at hLf6 ept ehn hQ6 hN6 s6 ⊢
          have nl : ns.length = wn.length := Paired.length hN
          have il : i < as.length := (List.getElem?_eq_some_iff.mp eta).1
          refine ⟨Lf, _, _, rfl, rfl, hLf6, (by rw [List.length_map, nl, wnl, sizeLine_eq]; omega), ?_⟩
          have tt := tups_lst (o := .lst (ns.map V.ref ++ [.ref hn])) hLf6
          have hnew : HandAt (upd H6 Lf (.lst (ns.map V.ref ++ [.ref hn]))) hn (hd.1, qs) := HandAt.tups tt ⟨pt, ehn, bs, ept, hQ6⟩
          refine ⟨same_upd s6 nLf, ns ++ [hn], wn ++ [(hd.1, qs)], _, _, _, _, _, _, rfl, (by rw [List.map_append]; exact upd_same), paired_snoc (R := HandAt (upd H6 Lf (.lst (ns.map V.ref ++ [.ref hn])))) hnew (Paired.mapP hN6 fun _ _ z => z.tups tt), (by rw [List.length_append, wnl]; rfl), fun k' h' s' hd' hk e1 e2 => ?_⟩
          by_cases z : k' = i
          · subst z
            rw [ehs] at e1
            cases e1
            rw [ehd] at e2
            cases e2
            refine ⟨(hd.1, qs), by rw [List.getElem?_append_right (by omega), wnl, Nat.sub_self]; rfl, rfl, ql, fun p' g' q' e' => hqs p' g' q' (List.getElem?_eq_some_iff.mp e').1 e'⟩
          · obtain ⟨hd2, a1, a2⟩ := hC k' h' s' hd' (by omega) e1 e2
            exact ⟨hd2, by rw [List.getElem?_append_left (by omega)]; exact a1, a2⟩
      · rintro σ H4 ⟨s4, ns, wn, o6, o7, o8, o9, o10, o12, rfl, hLf, hN, wnl, hC⟩
        rw [List.length_map, asl] at wnl hC
        have cof : CovOf wb F l wn := ⟨wnl, fun k h s hd e1 e2 => by
          obtain ⟨hd', a1, a2⟩ := hC k h s hd (List.getElem?_eq_some_iff.mp e1).1 e1 e2
          exact ⟨hd', a1, a2⟩⟩
        have gdn := cof.good gd tk cv
        have hL4 := s4 _ _ hL
        have s04 := (s2.same s3).same s4
        refine ⟨_, rfl, _, rfl, L, _, rfl, .inl (SqL.of hL4), ?_⟩
        rw [List.length_map, asl]
        refine ⟨p, l.length, rfl, s04.box, by omega, fun Lr π H5 nLr s5 hLr hp => ?_⟩
        have nLf0 : H Lf = none := s2.free nLf2
        have hL5 := s5.keep _ _ neL hL4
        have hLf5 := s5.keep _ _ (hb.ne nLf0) hLf
        have hN5 : Paired (HandAt H5) ns wn := Paired.mapP hN fun _ _ z => z.tups (s5.tups s04.box)
        have s05 := s04.trans s5
        refine ⟨(by show 1 ≤ sizeLine; decide), fun a0 n0 => ⟨_, rfl, L, _, rfl, .inl (SqL.of (same_new n0 _ _ hL5)), ?_⟩⟩
        rw [List.length_map, asl]
        refine ⟨a0, _, _, rfl, rfl, upd_same, by omega, by omega, (by show 1 * (l.length : Int).toNat ≤ sizeLine; rw [sizeLine_eq]; omega), fun Ld nLd => ?_⟩
        have q0 := same_new (o := .lst [.int 0]) n0
        have s06 := s05.same q0
        have hL6 := q0 _ _ hL5
        have hLf6 := q0 _ _ hLf5
        have hLr6 := q0 _ _ hLr
        have hN6 : Paired (HandAt (upd H5 a0 (.lst [.int 0]))) ns wn := Paired.mapP hN5 fun _ _ z => z.tups (sTups q0)
        have hP6 : PairsAt (upd H5 a0 (.lst [.int 0])) as (l.map pegI) := pairs_tups (((sTups s4).trans (s5.tups s04.box)).trans (sTups q0)) hP
        generalize (upd H5 a0 (.lst [.int 0])) = H6 at s06 hL6 hLf6 hLr6 hN6 hP6 nLd ⊢
        have hld0 : (upd H6 Ld (.lst (List.replicate (l.length : Int).toNat [V.int 0]).flatten)) Ld = some (.lst ((List.replicate l.length 0).map natV)) := by rw [upd_same, Int.toNat_natCast, rep0]
        refine ⟨_, rfl, L, _, rfl, SqL.of (same_new nLd _ _ hL6), for_enum (K := K) (a := L) (xs := as.map V.ref) (fun i σ H7 => Same H6 H7 ∧ ∃ (ld : List Nat) (o6 o7 o15 : Option V), σ = [some (.ref p), some (.ref a), some (natV n), some (.ref D), some (.ref L), some (natV l.length), o6, o7, o8, o9, o10, some (.ref Lf), o12, some (.ref Lr), some (.ref Ld), o15] ∧ H7 Ld = some (.lst (ld.map natV)) ∧ ld.length = l.length ∧ ∀ k j h s : Nat, k < i → π[k]? = some j → l[k]? = some (h, s) → ld[j]? = some h)
          ⟨same_new nLd, _, _, _, _, rfl, hld0, List.length_replicate, fun k j h s hk => absurd hk (Nat.not_lt_zero _)⟩ (fun i σ H7 _ ⟨s7, _⟩ => SqL.of (s7 _ _ hL6)) ?_ ?_⟩
        · rintro i y T σ H7 hyi ⟨s7, ld, o6, o7, o15, rfl, hLd, ldl, hld⟩ nT
          rw [List.getElem?_map] at hyi
          obtain ⟨ta, eta, rfl⟩ := Option.map_eq_some_iff.mp hyi
          obtain ⟨x, ex, hta⟩ := paired_get hP6 eta
          obtain ⟨h, s, ehs, rfl⟩ := get_pegI ex
          have il : i < l.length := (List.getElem?_eq_some_iff.mp ehs).1
          obtain ⟨j, ej⟩ := perm_get hp il
          have jl := perm_lt hp ej
          have qT := same_new (o := .tup [.int (i : Nat), .ref ta]) nT
          have s8 := s7.trans qT
          refine ⟨T, _, rfl, SqT.of upd_same, rfl, _, _, rfl, _, _, rfl, ⟨ta, _, rfl, SqT.of (s8 _ _ hta), rfl, _, _, rfl, _, _, rfl, rfl, rfl, ?_⟩⟩
          refine ⟨_, rfl, _, rfl, _, rfl, _, rfl, Lr, _, _, _, rfl, rfl, SqL.of (s8 _ _ hLr6), natV_at rfl ej, Ld, _, _, j, rfl, rfl, qT _ _ hLd, ixN_nat rfl (by rw [List.length_map]; omega), ?_⟩
          refine ⟨same_upd s8 nLd, ld.set j h, _, _, _, rfl, (by rw [List.map_set]; exact upd_same), (by rw [List.length_set]; exact ldl), fun k' j' h' s' hk e1 e2 => ?_⟩
          by_cases z : k' = i
          · subst z
            rw [ej] at e1
            cases e1
            rw [ehs] at e2
            cases e2
            exact List.getElem?_set_self (by omega)
          · rw [List.getElem?_set_ne (fun y => z (perm_inj hp e1 (by rw [← y]; exact ej)))]
            exact hld k' j' h' s' (by omega) e1 e2
        · rintro σ H7 ⟨s7, ld, o6, o7, o15, rfl, hLd, ldl, hld⟩
          rw [List.length_map, asl] at hld
          have hN7 : Paired (HandAt H7) ns wn := Paired.mapP hN6 fun _ _ z => z.tups (sTups s7)
          refine ⟨_, rfl, Lf, _, rfl, .inl ⟨SqL.of (s7 _ _ hLf6), fun wt nwt => ?_⟩⟩
          have qw := same_new (o := .tup (ns.map V.ref)) nwt
          have s08 := (s06.same s7).same qw
          have hpw : π.Perm (List.range wn.length) := by rw [wnl]; exact hp
          refine ⟨_, rfl, wt, Lr, wn, π, rfl, ⟨ns, upd_same, Paired.mapP hN7 fun _ _ z => z.tups (sTups qw)⟩, qw _ _ (s7 _ _ hLr6), hpw, by omega, ?_, ?_, fun rw' w' H8 nrw s8 hW8 ren => ?_⟩
          · intro h' p' x e
            obtain ⟨g, q, rfl, back⟩ := gdn.tie h' p' x e
            exact ⟨g, q, rfl, pegOf_lt back⟩
          · intro h' hd' e
            have := gdn.pegs h' hd' e
            omega
          · have hLd8 := s8 _ _ (qw _ _ hLd)
            refine ⟨_, rfl, Ld, _, rfl, .inl ⟨SqL.of hLd8, fun lt nlt => ⟨(by show 2 ≤ sizeLine; decide), fun r nr => ?_⟩⟩⟩
            have ql := same_new (o := .tup (ld.map natV)) nlt
            have qr := same_new (o := .tup [.ref rw', .ref lt]) nr
            have s9 := ((s08.same s8).same ql).same qr
            exact k r rw' lt F l wn w' π ld _ (((s08.same s8).same ql).free nr) (s08.free nrw) s9 upd_same (hW8.tups (sTups (ql.trans qr))) (qr _ _ upd_same) tk cv cof hp ren ldl (fun k' j' h' s' e1 e2 => hld k' j' h' s' (List.getElem?_eq_some_iff.mp e2).1 e1 e2)
end
end NH
set_option Elab.async false
set_option linter.all false
set_option maxRecDepth 100000
set_option maxHeartbeats 4000000
namespace NH
open PySem L2
abbrev sWeb : Stmt := top 18
abbrev nWeb : List Str := ["_law_box_here", "_law_most", "_law_room", "_law_sheets", "_law_lesser"]
section
variable {P : Program} {w : World} {K : PySem.W.Frag} {mg : Str → Option Value} {base : Heap}
theorem scWeb : FnScope nWeb ["_law_box_here", "_law_most", "_law_room"] (defScope sWeb) := ⟨rfl, rfl, rfl, by decide +kernel, rfl, by decide +kernel, by decide +kernel⟩
structure Dr4 (P : Program) (w : World) (K : PySem.W.Frag) (mg : Str → Option Value) (base : Heap) : Prop extends Dr P w K mg base where
  plain : ∃ (f : Addr) (fd : FuncData), FnOk P w K mg base CX0 3 f fd ["_law_box_here", "_law_most", "_law_room"] spPlain ∧ Binds K fd ["_law_box_here", "_law_most", "_law_room"] [] ∧ mg "_law_plain_web" = some (.ref f) ∧ PySem.W.keepIn K (.ref f) = true
  cover : ∃ (f : Addr) (fd : FuncData), FnOk P w K mg base CX0 4 f fd ["_law_box_here", "_law_web_here", "_law_sheets"] spCover ∧ Binds K fd ["_law_box_here", "_law_web_here", "_law_sheets"] [] ∧ mg "_law_cover" = some (.ref f) ∧ PySem.W.keepIn K (.ref f) = true
theorem ok_web {f : Addr} {fd : FuncData} (F : Fun K "_law_web" "_law_web" sWeb f fd) (G : Dr4 P w K mg base) : FnOk P w K mg base CX0 5 f fd ["_law_box_here", "_law_most", "_law_room"] spPlain := by
  obtain ⟨fT, fdT, GT, bT, mT, kT⟩ := G.take
  obtain ⟨fP, fdP, GP, bP, mP, kP⟩ := G.plain
  obtain ⟨fC, fdC, GC, bC, mC, kC⟩ := G.cover
  refine F.ok scWeb (fun vs H Q E h => ?_) (fun cdv A outer s H vs Q E hr h => ?_)
  · obtain ⟨p, most, room, rfl, _⟩ := h
    rfl
  · obtain ⟨p, most, room, rfl, hb, o0, o1, r0, r1, k⟩ := h
    have nd := scWeb.nd
    have hr1 := hr.mono (show 1 ≤ 4 by decide)
    have hr3 := hr.mono (show 3 ≤ 4 by decide)
    refine ⟨_, pss_cons (ps_if (PW.pt (pw_or (pt_cmpR op_eq (pe_call GT hr1 (by rfl) mT kT bT .nil pass0 (pa_cons (pv 0) (pa_cons pe_int pa_nil))) pe_int (nomark _)) (pw_or1 (pt_cmpR op_lt (pv 1) pe_int (nomark _)))))
        (pss_one (ps_ret (pe_call GP hr3 (by rfl) mP kP bP .nil pass0 (pa_cons (pv 0) (pa_cons (pv 1) (pa_cons (pv 2) pa_nil)))))) pss_nil)
      (pss_cons (ps_set (i := 3) nd rfl (Or.inl rfl) (pe_op op_add pe_int (pe_call GT hr1 (by rfl) mT kT bT .nil pass0 (pa_cons (pv 0) (pa_cons (pe_callB (call_min2 (by rfl)) (by rfl) G.mmin (by decide +kernel) (pa_cons pe_int (pa_cons (pe_op op_sub (pv 1) pe_int) pa_nil))) pa_nil)))))
      (pss_cons (ps_set (i := 4) nd rfl (Or.inl rfl) (pe_call GP hr3 (by rfl) mP kP bP .nil pass0 (pa_cons (pv 0) (pa_cons (pe_callB (call_max2 (by rfl)) (by rfl) G.mmax (by decide +kernel) (pa_cons pe_int (pa_cons (pe_op op_fdiv (pv 1) (pv 3)) pa_nil))) (pa_cons (pv 2) pa_nil)))))
      (pss_one (ps_ret (pe_ix ix_tup (pe_call GC hr (by rfl) mC kC bC .nil pass0 (pa_cons (pv 0) (pa_cons (pv 4) (pa_cons (pv 3) pa_nil)))) pe_int (fun _ _ => rfl)))))), ?_⟩
    obtain ⟨xa, xb, hx, hx0, hx1⟩ := hb.ex
    have plain : ∀ H1, Step p H H1 → spPlain [.ref p, natV most, natV room] H1 Q E0 := fun H1 s1 =>
      ⟨p, most, room, rfl, s1.box, o0, o1, r0, r1, fun r wb H' nr s2 hW gd wl => k r wb H' (s1.free nr) (s1.trans s2) hW gd wl⟩
    refine ⟨_, rfl, p, xa, xb, _, rfl, hx, hx0, hx1, by decide, by decide, fun u a1 b1 u0 u1 c1 c2 => ?_⟩
    have s1 := (Step.refl hb).take (x := a1) c1 c2
    generalize (upd H p (.lst [.int a1, .int b1])) = H1 at s1 ⊢
    refine ⟨rfl, _, rfl, ?_⟩
    refine ite2 (fun _ => iteT ?_) (fun _ => ⟨_, rfl, _, _, rfl, rfl, _, rfl, ?_⟩)
    · exact ⟨_, rfl, _, rfl, _, rfl, plain H1 s1⟩
    · refine ite2 (fun _ => ⟨_, rfl, _, rfl, _, rfl, plain H1 s1⟩) (fun hm => ?_)
      have hm : ¬ (most : Int) < 2 := fun z => hm (decide_eq_true z)
      obtain ⟨xa, xb, hx, hx0, hx1⟩ := s1.box.ex
      have hmn : 0 < (if (most : Int) - 1 < 3 then (most : Int) - 1 else 3) ∧ (if (most : Int) - 1 < 3 then (most : Int) - 1 else 3) ≤ 3 ∧ (if (most : Int) - 1 < 3 then (most : Int) - 1 else 3) ≤ (most : Int) - 1 := by
        split <;> omega
      refine ⟨_, rfl, _, rfl, _, _, rfl, rfl, _, _, rfl, p, xa, xb, _, rfl, hx, hx0, hx1, hmn.1, by have := hmn.2.1; omega, fun u2 a2 b2 v0 v1 c3 c4 => ⟨_, _, rfl, rfl, ?_⟩⟩
      obtain ⟨u2, rfl⟩ := Int.eq_ofNat_of_zero_le v0
      generalize hq : (if (most : Int) - 1 < 3 then (most : Int) - 1 else 3) = mn at hmn v1
      have s2 := s1.take (x := a2) c3 c4
      generalize (upd H1 p (.lst [.int a2, .int b2])) = H2 at s2 ⊢
      have dl : (most : Int) / (2 + (u2 : Int)) = ((most / (2 + u2) : Nat) : Int) := by rw [Int.natCast_ediv, Int.natCast_add]; rfl
      have dpos : 1 ≤ most / (2 + u2) := (Nat.one_le_div_iff (by omega)).mpr (by omega)
      have dmul : most / (2 + u2) * (2 + u2) ≤ most := Nat.div_mul_le_self _ _
      have dle : most / (2 + u2) ≤ most := Nat.div_le_self _ _
      refine ⟨_, rfl, _, rfl, _, rfl, _, _, rfl, rfl, ⟨by omega, by omega⟩, _, _, rfl, _, rfl, p, most / (2 + u2), room, ?_, s2.box, dpos, by omega, r0, r1, fun r wb H3 nr s3 hW gd wl => ?_⟩
      · rw [dl]
        have : (if ((most / (2 + u2) : Nat) : Int) > 1 then ((most / (2 + u2) : Nat) : Int) else 1) = ((most / (2 + u2) : Nat) : Int) := by split <;> omega
        rw [this]
        rfl
      have s23 := s2.trans s3
      have bnd : wb.length * (2 + u2) ≤ most := Nat.le_trans (Nat.mul_le_mul_right _ wl) dmul
      refine ⟨_, rfl, _, rfl, _, rfl, p, r, wb, 2 + u2, room, rfl, s23.box, hW, gd, by omega, by omega, by omega, by omega, by omega, fun rr rw' rl F l w0 w' π ld H4 nrr nrw s4 hrr hW4 hrl tk cv cof hp ren ldl hld => ?_⟩
      have g0 := cof.good gd tk cv
      have hp' : π.Perm (List.range w0.length) := by rw [cof.len]; exact hp
      have ll := cv.len
      have rl' := ren.len
      have cl' := cof.len
      exact ⟨rr, _, _, _, rfl, rfl, SqT.of hrr, rfl, k rw' w' H4 (s23.free nrw) (s23.trans s4) hW4 (ren.good hp' g0) (by omega)⟩
end
end NH
set_option Elab.async false
set_option linter.all false
set_option maxRecDepth 100000
set_option maxHeartbeats 1000000
namespace NH
open PySem PySem.W PyProof.Rows
def ev (O : Nat → Nat → Bool) {α : Type} : KasT α → α
  | .ret a => a
  | .ask i j k => ev O (k (O i j))
theorem ev_bind (O : Nat → Nat → Bool) {α β : Type} (f : α → KasT β) : ∀ t : KasT α, ev O (t.bind f) = ev O (f (ev O t))
  | .ret a => rfl
  | .ask i j k => ev_bind O f (k (O i j))
inductive InB (n : Nat) {α : Type} : KasT α → Prop
  | ret (a : α) : InB n (.ret a)
  | ask {i j : Nat} {k : Bool → KasT α} : i < n → j < n → (∀ b, InB n (k b)) → InB n (.ask i j k)
theorem InB.bind {n : Nat} {α β : Type} {t : KasT α} {f : α → KasT β} (h : InB n t) (hf : ∀ a, InB n (f a)) : InB n (t.bind f) := by
  induction h with
  | ret a => exact hf a
  | ask h1 h2 _ ih => exact .ask h1 h2 ih
theorem wp_ev {O : Nat → Nat → Bool} {n : Nat} {s : Shared} {cmp : Nat → Nat → (Bool → Shared → Prop) → Shared → Prop} (hc : ∀ i j C, i < n → j < n → C (O i j) s → cmp i j C s) {α : Type} {Q : α → Shared → Prop} {t : KasT α} (h : InB n t) (q : Q (ev O t) s) : t.kasWp cmp Q s := by
  induction h with
  | ret a => exact q
  | ask h1 h2 _ ih => exact hc _ _ _ h1 h2 (ih _ q)
abbrev gt (p : Array Nat) (i : Nat) : Nat := p.getD i 0
structure Prm (n : Nat) (p : Array Nat) : Prop where
  size : p.size = n
  perm : p.toList.Perm (List.range n)
theorem Prm.lt {n : Nat} {p : Array Nat} (h : Prm n p) (hn : 0 < n) (i : Nat) : gt p i < n := by
  unfold gt Array.getD
  split
  · rename_i hi
    have : p[i] ∈ p.toList := Array.getElem_mem_toList hi
    exact List.mem_range.mp (h.perm.mem_iff.mp this)
  · exact hn
theorem Prm.ne {n : Nat} {p : Array Nat} (h : Prm n p) {i j : Nat} (hi : i < n) (hj : j < n) (hij : i ≠ j) : gt p i ≠ gt p j := by
  have i' : i < p.size := by rw [h.size]; exact hi
  have j' : j < p.size := by rw [h.size]; exact hj
  unfold gt Array.getD
  rw [dif_pos i', dif_pos j']
  intro z
  have nd : p.toList.Nodup := h.perm.nodup_iff.mpr List.nodup_range
  have e1 : p.toList[i]? = some p[i] := by rw [Array.getElem?_toList, Array.getElem?_eq_getElem i']
  have e2 : p.toList[j]? = some p[i] := by
    rw [Array.getElem?_toList, Array.getElem?_eq_getElem j']
    exact congrArg some z.symm
  exact hij ((List.getElem?_inj (by rw [Array.length_toList]; exact i') nd).mp (e1.trans e2.symm))
theorem Prm.of {n : Nat} {p q : Array Nat} (h : Prm n p) (e : q.Perm p) : Prm n q := ⟨by rw [e.size_eq, h.size], (Array.perm_iff_toList_perm.mp e).trans h.perm⟩
theorem Prm.first (n : Nat) : Prm n (List.toArray (List.range n)) := ⟨by simp, by simp⟩
theorem Prm.rev {n : Nat} {p : Array Nat} (h : Prm n p) (i j : Nat) : Prm n (kas_rev p i j) := h.of (mirror_perm _ _ _ _)
theorem Prm.bub {n : Nat} {p : Array Nat} (h : Prm n p) (i j : Nat) : Prm n (bubble p i j) := h.of (bubble_perm _ _ _)
theorem gt_eq {p q : Array Nat} {i j : Nat} (h : p[i]? = q[j]?) : gt p i = gt q j := by
  unfold gt
  rw [Array.getD_eq_getD_getElem?, Array.getD_eq_getD_getElem?, h]
theorem gt_rev {p : Array Nat} {m : Nat} (hm : m ≤ p.size) {k : Nat} (hk : k < m) : gt (kas_rev p 0 m) k = gt p (m - 1 - k) := by
  refine gt_eq ?_
  unfold kas_rev
  rw [getElem?_mirror_all hm, if_pos ⟨Nat.zero_le _, hk⟩]
  congr 1
  omega
section
variable {n : Nat} {O : Nat → Nat → Bool} (tr : ∀ a b c, a < n → b < n → c < n → O a b = true → O b c = true → O a c = true) (tot : ∀ a b, a < n → b < n → a ≠ b → O a b = false → O b a = true)
def Srt (O : Nat → Nat → Bool) (p : Array Nat) (m : Nat) : Prop := ∀ a b, a < b → b < m → O (gt p a) (gt p b) = true
def Dsc (O : Nat → Nat → Bool) (p : Array Nat) (m : Nat) : Prop := ∀ a b, a < b → b < m → O (gt p b) (gt p a) = true
include tr tot
theorem asc_ev {p : Array Nat} (hp : Prm n p) : ∀ (f m : Nat), 1 ≤ m → m + f = n → Srt O p m → ∃ r, ev O (kas_asc p f m) = r ∧ m ≤ r ∧ r ≤ n ∧ Srt O p r ∧ (r < n → O (gt p r) (gt p (r - 1)) = true) := by
  intro f
  induction f with
  | zero => intro m h1 h2 h3; exact ⟨m, rfl, Nat.le_refl _, by omega, h3, fun h => by omega⟩
  | succ f ih =>
    intro m h1 h2 h3
    have n0 : 0 < n := by omega
    cases c : O (gt p m) (gt p (m - 1)) with
    | true =>
      refine ⟨m, ?_, Nat.le_refl _, by omega, h3, fun _ => c⟩
      unfold kas_asc
      show ev O (if O (gt p m) (gt p (m - 1)) = true then _ else _) = _
      rw [c, if_pos rfl]
      rfl
    | false =>
      have up := tot _ _ (hp.lt n0 m) (hp.lt n0 (m - 1)) (hp.ne (by omega) (by omega) (by omega)) c
      obtain ⟨r, e, r1, r2, r3, r4⟩ := ih (m + 1) (by omega) (by omega) fun a b hab hb => by
        by_cases d : b < m
        · exact h3 a b hab d
        · obtain rfl : b = m := by omega
          by_cases d2 : a = b - 1
          · rw [d2]
            exact up
          · exact tr _ _ _ (hp.lt n0 _) (hp.lt n0 _) (hp.lt n0 _) (h3 a (b - 1) (by omega) (by omega)) up
      refine ⟨r, ?_, by omega, r2, r3, r4⟩
      unfold kas_asc
      show ev O (if O (gt p m) (gt p (m - 1)) = true then _ else _) = _
      rw [c, if_neg (by decide)]
      exact e
theorem desc_ev {p : Array Nat} (hp : Prm n p) : ∀ (f m : Nat), 1 ≤ m → m + f = n → Dsc O p m → ∃ r, ev O (kas_desc f p m 0) = (p, r, 0) ∧ m ≤ r ∧ r ≤ n ∧ Dsc O p r := by
  intro f
  induction f with
  | zero => intro m h1 h2 h3; exact ⟨m, rfl, Nat.le_refl _, by omega, h3⟩
  | succ f ih =>
    intro m h1 h2 h3
    have n0 : 0 < n := by omega
    cases c : O (gt p m) (gt p (m - 1)) with
    | true =>
      obtain ⟨r, e, r1, r2, r3⟩ := ih (m + 1) (by omega) (by omega) fun a b hab hb => by
        by_cases d : b < m
        · exact h3 a b hab d
        · obtain rfl : b = m := by omega
          by_cases d2 : a = b - 1
          · rw [d2]
            exact c
          · exact tr _ _ _ (hp.lt n0 _) (hp.lt n0 _) (hp.lt n0 _) c (h3 a (b - 1) (by omega) (by omega))
      refine ⟨r, ?_, by omega, r2, r3⟩
      unfold kas_desc
      show ev O (if O (gt p m) (gt p (m - 1)) = true then _ else _) = _
      rw [c, if_pos rfl, if_neg (by decide)]
      exact e
    | false =>
      have up := tot _ _ (hp.lt n0 m) (hp.lt n0 (m - 1)) (hp.ne (by omega) (by omega) (by omega)) c
      refine ⟨m, ?_, Nat.le_refl _, by omega, h3⟩
      unfold kas_desc
      show ev O (if O (gt p m) (gt p (m - 1)) = true then _ else _) = _
      rw [c, if_neg (by decide)]
      show ev O (if O (gt p (m - 1)) (gt p m) = true then _ else _) = _
      rw [up, if_pos rfl]
      rfl
theorem tail3_ev {p : Array Nat} (hp : Prm n p) {m : Nat} (h1 : 1 ≤ m) (h2 : m ≤ n) (hd : Dsc O p m) : ∃ r, ev O (kas_tail3 m n p) = (r, kas_rev p 0 m) ∧ m ≤ r ∧ r ≤ n ∧ Srt O (kas_rev p 0 m) r := by
  have hm : m ≤ p.size := by rw [hp.size]; exact h2
  have hs : Srt O (kas_rev p 0 m) m := fun a b hab hb => by
    rw [gt_rev hm (by omega), gt_rev hm hb]
    exact hd _ _ (by omega) (by omega)
  obtain ⟨r, e, r1, r2, r3, _⟩ := asc_ev tr tot (hp.rev 0 m) (n - m) m h1 (by omega) hs
  refine ⟨r, ?_, r1, r2, r3⟩
  unfold kas_tail3
  rw [ev_bind, e]
  rfl
theorem count_ev (n0 : 0 < n) : ∃ r p, ev O (kas_count n (List.toArray (List.range n))) = (r, p) ∧ 1 ≤ r ∧ r ≤ n ∧ Prm n p ∧ Srt O p r := by
  have hp := Prm.first n
  obtain ⟨r, e, r1, r2, r3, r4⟩ := asc_ev tr tot hp (n - 1) 1 (Nat.le_refl _) (by omega) (fun a b hab hb => by omega)
  unfold kas_count
  rw [ev_bind, e]
  by_cases c : (r == n) = true
  · rw [if_pos c]
    exact ⟨r, _, rfl, r1, r2, hp, r3⟩
  · rw [if_neg c]
    have rn : r < n := by
      have : r ≠ n := fun z => c (beq_iff_eq.mpr z)
      omega
    by_cases d : r > 1
    · rw [if_pos d]
      show ∃ r' p, ev O (if O (gt _ 0) (gt _ (r - 1)) = true then _ else _) = _ ∧ _
      rw [r3 0 (r - 1) (by omega) (by omega), if_pos rfl]
      exact ⟨r, _, rfl, r1, r2, hp, r3⟩
    · rw [if_neg d]
      obtain rfl : r = 1 := by omega
      obtain ⟨m, e2, m1, m2, m3⟩ := desc_ev tr tot hp (n - (1 + 1)) (1 + 1) (by omega) (by omega) fun a b hab hb => by
        obtain rfl : a = 0 := by omega
        obtain rfl : b = 1 := by omega
        exact r4 rn
      unfold kas_descPart
      rw [ev_bind, e2]
      dsimp only
      rw [if_neg (by decide)]
      obtain ⟨q, e3, q1, q2, q3⟩ := tail3_ev tr tot hp (by omega) m2 m3
      exact ⟨q, _, e3, by omega, q2, hp.rev 0 m, q3⟩
theorem place_ev {p : Array Nat} (hp : Prm n p) {k : Nat} (hk : k < n) (hs : Srt O p k) : ∀ (f l r : Nat), l ≤ r → r ≤ k → r - l ≤ f → (∀ a, a < l → O (gt p a) (gt p k) = true) → (∀ a, r ≤ a → a < k → O (gt p k) (gt p a) = true) →
    ∃ q, ev O (kas_place p k f l r) = q ∧ q ≤ k ∧ (∀ a, a < q → O (gt p a) (gt p k) = true) ∧ ∀ a, q ≤ a → a < k → O (gt p k) (gt p a) = true := by
  intro f
  induction f with
  | zero =>
    intro l r h1 h2 h3 ha hb
    obtain rfl : l = r := by omega
    exact ⟨l, rfl, h2, ha, hb⟩
  | succ f ih =>
    intro l r h1 h2 h3 ha hb
    have n0 : 0 < n := by omega
    unfold kas_place
    by_cases c : l ≥ r
    · rw [if_pos c]
      obtain rfl : l = r := by omega
      exact ⟨l, rfl, h2, ha, hb⟩
    · rw [if_neg c]
      show ∃ q, ev O (if O (gt p k) (gt p ((l + r) / 2)) = true then _ else _) = q ∧ _
      have ml : l ≤ (l + r) / 2 := by omega
      have mr : (l + r) / 2 < r := by omega
      cases d : O (gt p k) (gt p ((l + r) / 2)) with
      | true =>
        rw [if_pos rfl]
        refine ih l ((l + r) / 2) ml (by omega) (by omega) ha fun a a1 a2 => ?_
        by_cases z : a = (l + r) / 2
        · rw [z]
          exact d
        · exact tr _ _ _ (hp.lt n0 _) (hp.lt n0 _) (hp.lt n0 _) d (hs _ _ (by omega) a2)
      | false =>
        rw [if_neg (by decide)]
        have up := tot _ _ (hp.lt n0 k) (hp.lt n0 ((l + r) / 2)) (hp.ne hk (by omega) (by omega)) d
        refine ih ((l + r) / 2 + 1) r (by omega) h2 (by omega) (fun a a1 => ?_) hb
        by_cases z : a = (l + r) / 2
        · rw [z]
          exact up
        · exact tr _ _ _ (hp.lt n0 _) (hp.lt n0 _) (hp.lt n0 _) (hs _ _ (show a < (l + r) / 2 by omega) (by omega)) up
theorem bin_ev : ∀ (f : Nat) (p : Array Nat) (k : Nat), k + f = n → Prm n p → Srt O p k → ∃ q, ev O (kas_bin f p k) = q ∧ Prm n q ∧ Srt O q n := by
  intro f
  induction f with
  | zero =>
    intro p k h1 hp hs
    obtain rfl : k = n := by omega
    exact ⟨p, rfl, hp, hs⟩
  | succ f ih =>
    intro p k h1 hp hs
    have hk : k < n := by omega
    obtain ⟨l, e, l1, l2, l3⟩ := place_ev tr tot hp hk hs k 0 k (Nat.zero_le _) (Nat.le_refl _) (by omega) (fun a h => absurd h (Nat.not_lt_zero _)) (fun a h1 h2 => by omega)
    unfold kas_bin
    rw [ev_bind, e]
    have kz : k < p.size := by rw [hp.size]; exact hk
    have at_ : ∀ i, gt (bubble p k (k - l)) i = if i = l then gt p k else if l < i ∧ i ≤ k then gt p (i - 1) else gt p i := fun i => by
      have := getElem?_bubble kz (k - l) (by omega) i
      rw [show k - (k - l) = l by omega] at this
      by_cases c : i = l
      · rw [if_pos c] at this ⊢
        exact gt_eq this
      · rw [if_neg c] at this ⊢
        by_cases d : l < i ∧ i ≤ k
        · rw [if_pos d] at this ⊢
          exact gt_eq this
        · rw [if_neg d] at this ⊢
          exact gt_eq this
    refine ih _ (k + 1) (by omega) (hp.bub _ _) fun a b hab hb => ?_
    rw [at_ a, at_ b]
    by_cases c1 : a = l
    · rw [if_pos c1, if_neg (by omega), if_pos ⟨by omega, by omega⟩]
      exact l3 _ (by omega) (by omega)
    · rw [if_neg c1]
      by_cases c2 : b = l
      · rw [if_pos c2, if_neg (by omega)]
        exact l2 _ (by omega)
      · rw [if_neg c2]
        by_cases d1 : l < a
        · rw [if_pos ⟨d1, by omega⟩, if_pos ⟨by omega, by omega⟩]
          exact hs _ _ (by omega) (by omega)
        · rw [if_neg (by omega)]
          by_cases d2 : l < b
          · rw [if_pos ⟨d2, by omega⟩]
            exact hs _ _ (by omega) (by omega)
          · rw [if_neg (by omega)]
            exact hs _ _ hab (by omega)
theorem sort_ev (n0 : 0 < n) : ∃ q, ev O (kas_sort n) = q ∧ Prm n q ∧ Srt O q n := by
  obtain ⟨r, p, e, r1, r2, hp, hs⟩ := count_ev tr tot n0
  unfold kas_sort
  rw [ev_bind, e]
  dsimp only
  by_cases c : r < n
  · rw [if_pos c, show max r 1 = r by omega]
    exact bin_ev tr tot (n - r) p r (by omega) hp hs
  · rw [if_neg c]
    obtain rfl : r = n := by omega
    exact ⟨p, rfl, hp, hs⟩
end
section
variable {n : Nat} (n0 : 0 < n)
include n0
theorem asc_in {p : Array Nat} (hp : Prm n p) : ∀ (f m : Nat), InB n (kas_asc p f m)
  | 0, m => .ret _
  | f + 1, m => .ask (hp.lt n0 _) (hp.lt n0 _) fun b => by
    split
    · exact .ret _
    · exact asc_in hp f (m + 1)
theorem desc_in : ∀ (f : Nat) {p : Array Nat} (hp : Prm n p) (m q : Nat), InB n (kas_desc f p m q)
  | 0, p, hp, m, q => .ret _
  | f + 1, p, hp, m, q => .ask (hp.lt n0 _) (hp.lt n0 _) fun b => by
    split
    · split
      · exact desc_in f (hp.rev _ _) _ _
      · exact desc_in f hp _ _
    · exact .ask (hp.lt n0 _) (hp.lt n0 _) fun c => by
        split
        · exact .ret _
        · exact desc_in f hp _ _
inductive Gives {α : Type} (P : α → Prop) : KasT α → Prop
  | ret {a : α} : P a → Gives P (.ret a)
  | ask {i j : Nat} {k : Bool → KasT α} : (∀ b, Gives P (k b)) → Gives P (.ask i j k)
omit n0 in
theorem InB.bindG {α β : Type} {P : α → Prop} {t : KasT α} {f : α → KasT β} (h : InB n t) (g : Gives P t) (hf : ∀ a, P a → InB n (f a)) : InB n (t.bind f) := by
  induction h with
  | ret a =>
    cases g with
    | ret p => exact hf a p
  | ask h1 h2 _ ih =>
    cases g with
    | ask g => exact .ask h1 h2 fun b => ih b (g b)
omit n0 in
theorem Gives.bind {α β : Type} {P : α → Prop} {R : β → Prop} {t : KasT α} {f : α → KasT β} (g : Gives P t) (hf : ∀ a, P a → Gives R (f a)) : Gives R (t.bind f) := by
  induction g with
  | ret p => exact hf _ p
  | ask _ ih => exact .ask ih
omit n0 in
theorem Gives.all {α : Type} : ∀ (t : KasT α), Gives (fun _ => True) t
  | .ret a => .ret trivial
  | .ask i j k => .ask fun b => Gives.all (k b)
omit n0 in
theorem desc_gives : ∀ (f : Nat) {p : Array Nat} (hp : Prm n p) (m q : Nat), Gives (fun r : Array Nat × Nat × Nat => Prm n r.1) (kas_desc f p m q)
  | 0, p, hp, m, q => .ret hp
  | f + 1, p, hp, m, q => .ask fun b => by
    split
    · split
      · exact desc_gives f (hp.rev _ _) _ _
      · exact desc_gives f hp _ _
    · exact .ask fun c => by
        split
        · exact .ret hp
        · exact desc_gives f hp _ _
theorem tail3_in {p : Array Nat} (hp : Prm n p) (m k : Nat) : InB n (kas_tail3 m k p) := (asc_in n0 (hp.rev 0 m) _ _).bind fun _ => .ret _
omit n0 in
theorem tail3_gives {p : Array Nat} (hp : Prm n p) (m k : Nat) : Gives (fun r : Nat × Array Nat => Prm n r.2) (kas_tail3 m k p) := (Gives.all _).bind fun _ _ => .ret (hp.rev 0 m)
theorem descPart_in {p : Array Nat} (hp : Prm n p) (m k : Nat) : InB n (kas_descPart m k p) := (desc_in n0 _ hp _ _).bindG (desc_gives _ hp _ _) fun a ha => by
  split
  · exact tail3_in n0 (ha.rev _ _) _ _
  · exact tail3_in n0 ha _ _
omit n0 in
theorem descPart_gives {p : Array Nat} (hp : Prm n p) (m k : Nat) : Gives (fun r : Nat × Array Nat => Prm n r.2) (kas_descPart m k p) := (desc_gives _ hp _ _).bind fun a ha => by
  split
  · exact tail3_gives (ha.rev _ _) _ _
  · exact tail3_gives ha _ _
theorem count_in {p : Array Nat} (hp : Prm n p) (k : Nat) : InB n (kas_count k p) := (asc_in n0 hp _ _).bind fun m => by
  split
  · exact .ret _
  · split
    · exact .ask (hp.lt n0 _) (hp.lt n0 _) fun c => by
        split
        · exact .ret _
        · exact descPart_in n0 (hp.rev _ _) _ _
    · exact descPart_in n0 hp _ _
omit n0 in
theorem count_gives {p : Array Nat} (hp : Prm n p) (k : Nat) : Gives (fun r : Nat × Array Nat => Prm n r.2) (kas_count k p) := (Gives.all _).bind fun m _ => by
  split
  · exact .ret hp
  · split
    · exact .ask fun c => by
        split
        · exact .ret hp
        · exact descPart_gives (hp.rev _ _) _ _
    · exact descPart_gives hp _ _
theorem place_in {p : Array Nat} (hp : Prm n p) (k : Nat) : ∀ (f l r : Nat), InB n (kas_place p k f l r)
  | 0, l, r => .ret _
  | f + 1, l, r => by
    unfold kas_place
    split
    · exact .ret _
    · exact .ask (hp.lt n0 _) (hp.lt n0 _) fun c => by
        split
        · exact place_in hp k f _ _
        · exact place_in hp k f _ _
theorem bin_in : ∀ (f : Nat) {p : Array Nat} (hp : Prm n p) (k : Nat), InB n (kas_bin f p k)
  | 0, p, hp, k => .ret _
  | f + 1, p, hp, k => (place_in n0 hp k _ _ _).bind fun l => bin_in f (hp.bub _ _) (k + 1)
theorem sort_in : InB n (kas_sort n) := (count_in n0 (Prm.first n) n).bindG (count_gives (Prm.first n) n) fun r hr => by
  split
  · exact bin_in n0 _ hr _
  · exact .ret _
end
end NH
set_option Elab.async false
set_option linter.all false
set_option maxRecDepth 100000
set_option maxHeartbeats 2000000
set_option Elab.async false
set_option linter.all false
set_option maxRecDepth 100000
set_option maxHeartbeats 2000000
set_option Elab.async false
set_option linter.all false
set_option maxRecDepth 100000
set_option maxHeartbeats 2000000
set_option Elab.async false
set_option linter.all false
set_option maxRecDepth 100000
set_option maxHeartbeats 2000000
set_option Elab.async false
set_option linter.all false
set_option maxRecDepth 100000
set_option maxHeartbeats 2000000
set_option Elab.async false
set_option linter.all false
set_option maxRecDepth 100000
set_option maxHeartbeats 4000000
set_option Elab.async false
set_option linter.all false
set_option maxRecDepth 100000
set_option maxHeartbeats 4000000
set_option Elab.async false
set_option linter.all false
set_option maxRecDepth 100000
set_option maxHeartbeats 4000000
namespace NH
open PySem L2
def cutL {α : Type} (xs : List α) (lo hi : Option Int) : List α := (xs.drop (HT.sIx xs.length 0 lo)).take (HT.sIx xs.length xs.length hi - HT.sIx xs.length 0 lo)
theorem cutL_len {α : Type} (xs : List α) (lo hi : Option Int) : (cutL xs lo hi).length ≤ xs.length := by
  unfold cutL
  rw [List.length_take, List.length_drop]
  omega
theorem cutL_mem {α : Type} {xs : List α} {lo hi : Option Int} {x : α} (h : x ∈ cutL xs lo hi) : x ∈ xs := List.mem_of_mem_drop (List.mem_of_mem_take h)
theorem cutV_map (as : List Addr) (lo hi : Option Int) : cutV (as.map V.ref) lo hi = (cutL as lo hi).map V.ref := by
  unfold cutV cutL
  rw [List.length_map, List.map_take, List.map_drop]
theorem paired_app {α β : Type} {R : α → β → Prop} : ∀ {xs xs' : List α} {ys ys' : List β}, Paired R xs ys → Paired R xs' ys' → Paired R (xs ++ xs') (ys ++ ys')
  | _, _, _, _, .nil, h => h
  | _, _, _, _, .cons r t, h => .cons r (paired_app t h)
end NH
set_option Elab.async false
set_option linter.all false
set_option maxRecDepth 100000
set_option maxHeartbeats 1000000
namespace L2
open PySem PySem.Spec PyProof.Rows
theorem tIter_but {h h' : Heap} {b it t : Addr} {i : Nat} (x : h.IsTupleIter it t i) (k : Heap.SameBut b h h') (n : it ≠ b) : h'.IsTupleIter it t i := tupIter_at x fun o e => k.extBut _ _ n e
theorem tup_but {h h' : Heap} {b t : Addr} {its : Array Value} (x : h.IsTuple t its) (k : Heap.SameBut b h h') (n : t ≠ b) : h'.IsTuple t its := tup_at x fun o e => k.extBut _ _ n e
section
variable {prog : Program} {w : World} {A : Around} {E : Value → Shared → Prop} {s : Shared} {z TI TO i1 i2 l1 l2 : Addr} {k1 k2 : Nat} {xs ys : Array Value} {a b : Value}
theorem zt_head {Q : Fin → Shared → Prop} (D : ZipApart z TI TO i1 i2 l1 l2) (hz : IsZip s.heap z TI TO .none) (hTI : IsPair s.heap TI (.ref i1) (.ref i2)) (hTO : IsPair s.heap TO a b)
    (h1 : s.heap.IsTupleIter i1 l1 k1) (h2 : s.heap.IsTupleIter i2 l2 k2) (t1 : s.heap.IsTuple l1 xs) (t2 : s.heap.IsTuple l2 ys) (hh : A.handled = none)
    (hE : (xs[k1]? = none ∨ ys[k2]? = none) → ∀ h' e, (∀ c o, c ≠ z → c ≠ TO → c ≠ i1 → c ≠ i2 → s.heap.get? c = some o → h'.get? c = some o) → (∃ o, h'.get? e = some o ∧ o.cls = .type "StopIteration") → E (.ref e) { s with heap := h' })
    (hQ : ∀ x y, xs[k1]? = some x → ys[k2]? = some y → ∀ h', IsZip h' z TI TO (rawInt s.heap.objs.size) → IsPair h' TO x y → h'.IsTupleIter i1 l1 (k1 + 1) → h'.IsTupleIter i2 l2 (k2 + 1) → IsPair h' s.heap.objs.size x y → h'.objs.size = s.heap.objs.size + 1 →
      (∀ c o, c ≠ z → c ≠ TO → c ≠ i1 → c ≠ i2 → s.heap.get? c = some o → h'.get? c = some o) → Q (.done (.ret (.ref s.heap.objs.size))) { s with heap := h' }) :
    wpAny (model prog w) A (Builtin.«zip.__next__» ⟨[.ref z], []⟩) Q E s := by
  obtain ⟨hp, gs, dr, tk, os⟩ := s
  replace hz : hp.get? z = some _ := hz
  wp_walk using wpAny_seqItems hTI rfl, wpAny_setField_rec hz (by simp)
  intro g1 z1 d1
  replace z1 : IsZip g1 z TI TO .ellipsis := z1
  have j1 := tIter_but h1 d1 D.i1z
  have u1 := tup_but t1 d1 D.l1z
  show wpAny _ _ (forIn [(Value.ref i1, 0), (Value.ref i2, 1)] _ _ >>= _) _ _ _
  rw [List.forIn_cons]
  cases ex : xs[k1]? with
  | none =>
    wp_walk using wpAny_onRaise, nextOf_tup_end (s := ⟨g1, gs, dr, tk, os⟩) hh j1 u1 ex
    rintro g2 e d2 ⟨oe, ho, hc⟩
    have z2 : IsZip g2 z TI TO .ellipsis := d2 _ _ D.i1z.symm z1
    have ne : e ≠ z := fun q => by rw [q, z2] at ho; cases ho; simp at hc
    exact wpAny_setField_rec z2 (by simp) fun g3 _ d3 => hE (.inl ex) g3 e (fun c o n1 _ n3 _ q => d3.extBut _ _ n1 (d2 _ _ n3 (d1.extBut _ _ n1 q))) ⟨oe, d3.extBut _ _ ne ho, hc⟩
  | some x =>
    wp_walk using wpAny_onRaise, nextOf_tup_item (s := ⟨g1, gs, dr, tk, os⟩) j1 u1 ex
    intro g2 m1 d2
    have p2 : IsPair g2 TO a b := d2.extBut _ _ D.TOi1 (d1.extBut _ _ D.TOz hTO)
    wp_walk using wpAny_seqItems (s := ⟨g2, gs, dr, tk, os⟩) p2 rfl, wpAny_updateSeq_pair (s := ⟨g2, gs, dr, tk, os⟩) p2
    intro g3 p3 d3
    replace p3 : IsPair g3 TO x b := p3
    have j2 := tIter_but (tIter_but (tIter_but h2 d1 D.i2z) d2 D.i12.symm) d3 D.TOi2.symm
    have u2 := tup_but (tup_but (tup_but t2 d1 D.l2z) d2 D.l2i1) d3 D.l2TO
    refine wpAny_bind (wpAny_letGo (wpAny_pure ?_))
    show wpAny _ _ (forIn [(Value.ref i2, 1)] _ _) _ _ _
    rw [List.forIn_cons]
    cases ey : ys[k2]? with
    | none =>
      wp_walk using wpAny_onRaise, nextOf_tup_end (s := ⟨g3, gs, dr, tk, os⟩) hh j2 u2 ey
      rintro g4 e d4 ⟨oe, ho, hc⟩
      have z4 : IsZip g4 z TI TO .ellipsis := d4 _ _ D.i2z.symm (d3.extBut _ _ D.TOz.symm (d2.extBut _ _ D.i1z.symm z1))
      have ne : e ≠ z := fun q => by rw [q, z4] at ho; cases ho; simp at hc
      exact wpAny_setField_rec z4 (by simp) fun g5 _ d5 => hE (.inr ey) g5 e (fun c o n1 n2 n3 n4 q => d5.extBut _ _ n1 (d4 _ _ n4 (d3.extBut _ _ n2 (d2.extBut _ _ n3 (d1.extBut _ _ n1 q))))) ⟨oe, d5.extBut _ _ ne ho, hc⟩
    | some y =>
      wp_walk using wpAny_onRaise, nextOf_tup_item (s := ⟨g3, gs, dr, tk, os⟩) j2 u2 ey
      intro g4 m2 d4
      have p4 : IsPair g4 TO x b := d4.extBut _ _ D.TOi2 p3
      wp_walk using wpAny_seqItems (s := ⟨g4, gs, dr, tk, os⟩) p4 rfl, wpAny_updateSeq_pair (s := ⟨g4, gs, dr, tk, os⟩) p4
      intro g5 p5 d5
      replace p5 : IsPair g5 TO x y := p5
      have sz : g5.objs.size = hp.objs.size := by rw [d5.1, d4.1, d3.1, d2.1, d1.1]
      have z5 : IsZip g5 z TI TO .ellipsis := d5.extBut _ _ D.TOz.symm (d4.extBut _ _ D.i2z.symm (d3.extBut _ _ D.TOz.symm (d2.extBut _ _ D.i1z.symm z1)))
      have kp : ∀ c o, c ≠ z → c ≠ TO → c ≠ i1 → c ≠ i2 → hp.get? c = some o → g5.get? c = some o := fun c o n1 n2 n3 n4 q =>
        d5.extBut _ _ n2 (d4.extBut _ _ n4 (d3.extBut _ _ n2 (d2.extBut _ _ n3 (d1.extBut _ _ n1 q))))
      have m1' := tIter_but (tIter_but (tIter_but m1 d3 D.TOi1.symm) d4 D.i12) d5 D.TOi1.symm
      have m2' := tIter_but m2 d5 D.TOi2.symm
      have lt := Heap.lt_size z5
      have z6 : IsZip (g5.push { cls := .type "tuple", data := .seq #[x, y] }) z TI TO .ellipsis := Heap.get?_push_of_some _ z5
      refine wpAny_bind (wpAny_letGo (wpAny_pure ?_))
      show wpAny _ _ (forIn [] _ _) _ _ _
      rw [List.forIn_nil]
      wp_walk using wpAny_seqItems (s := ⟨g5, gs, dr, tk, os⟩) p5 rfl, wpAny_setField_rec (s := ⟨_, gs, dr, tk, os⟩) z6 (by simp)
      intro g7 z7 d7
      replace z7 : IsZip g7 z TI TO (rawInt g5.objs.size) := z7
      wp_walk using wpAny_setField_rec (s := ⟨g7, gs, dr, tk, os⟩) z7 (by simp)
      intro g8 z8 d8
      replace z8 : IsZip g8 z TI TO (rawInt g5.objs.size) := z8
      have up : ∀ c o, c ≠ z → g5.get? c = some o → g8.get? c = some o := fun c o n1 q => d8.extBut _ _ n1 (d7.extBut _ _ n1 (Heap.get?_push_of_some _ q))
      have p8 : IsPair g8 g5.objs.size x y := d8.extBut _ _ (Nat.ne_of_gt lt) (d7.extBut _ _ (Nat.ne_of_gt lt) (Heap.get?_push_size _ rfl))
      have s8 : g8.objs.size = g5.objs.size + 1 := by rw [d8.1, d7.1, Heap.size_push]
      rw [sz] at z8 p8 s8
      wp_walk
      show Q (.done (.ret (.ref g5.objs.size))) _
      rw [sz]
      exact hQ x y ex ey g8 z8 (up _ _ D.TOz p5) (tupIter_at m1' fun o q => up _ o D.i1z q) (tupIter_at m2' fun o q => up _ o D.i2z q) p8 s8 fun c o n1 n2 n3 n4 q => up c o n1 (kp c o n1 n2 n3 n4 q)
theorem next_zt {Q : Option Value → Shared → Prop} (hh : A.handled = none) (D : ZipApart z TI TO i1 i2 l1 l2) (hz : IsZip s.heap z TI TO .none) (hTI : IsPair s.heap TI (.ref i1) (.ref i2)) (hTO : IsPair s.heap TO a b)
    (h1 : s.heap.IsTupleIter i1 l1 k1) (h2 : s.heap.IsTupleIter i2 l2 k2) (t1 : s.heap.IsTuple l1 xs) (t2 : s.heap.IsTuple l2 ys)
    (hE : (xs[k1]? = none ∨ ys[k2]? = none) → ∀ h', (∀ c o, c ≠ z → c ≠ TO → c ≠ i1 → c ≠ i2 → s.heap.get? c = some o → h'.get? c = some o) → Q none { s with heap := h' })
    (hQ : ∀ x y, xs[k1]? = some x → ys[k2]? = some y → ∀ h', IsZip h' z TI TO (rawInt s.heap.objs.size) → IsPair h' TO x y → h'.IsTupleIter i1 l1 (k1 + 1) → h'.IsTupleIter i2 l2 (k2 + 1) → IsPair h' s.heap.objs.size x y → h'.objs.size = s.heap.objs.size + 1 →
      (∀ c o, c ≠ z → c ≠ TO → c ≠ i1 → c ≠ i2 → s.heap.get? c = some o → h'.get? c = some o) → Q (some (.ref s.heap.objs.size)) { s with heap := h' }) :
    wpAny (model prog w) A (pyNext (.ref z)) Q E s := by
  have hT : s.TypeIs (.ref z) "zip" := ⟨_, hz, rfl⟩
  unfold pyNext
  refine wpAny_bind (wpAny_attempt (wpAny_callSpecial?_slot (name := Str.ofString "__next__") hT F.slot_zip_next (wpAny_call_entry F.slot_zip_next hT F.entry_zip_next (zt_head D hz hTI hTO h1 h2 t1 t2 hh (fun en h' e kp ⟨o, ho, hc⟩ => ?_) fun x y ex ey h' c1 c2 c3 c4 c5 c6 c7 => ?_) (F.args_zip_next_1 _))))
  · exact wpAny_bind (wpAny_isInstance (T := "StopIteration") (b := true) ⟨o, ho, hc⟩ isSubtype_stop (wpAny_pure (hE en h' kp)))
  · exact ⟨_, rfl, wpAny_pure (hQ x y ex ey h' c1 c2 c3 c4 c5 c6 c7)⟩
end
abbrev zt1 (h : Heap) (l1 : Addr) : Heap := h.push { cls := .type "tuple_iterator", data := .fields #[.ref l1, .int 0 0] }
abbrev zt2 (h : Heap) (l1 l2 : Addr) : Heap := (zt1 h l1).push { cls := .type "tuple_iterator", data := .fields #[.ref l2, .int 0 0] }
abbrev zt3 (h : Heap) (l1 l2 : Addr) : Heap := (zt2 h l1 l2).push { cls := .type "tuple", data := .seq #[.ref h.objs.size, .ref (zt1 h l1).objs.size] }
abbrev zt4 (h : Heap) (l1 l2 : Addr) : Heap := (zt3 h l1 l2).push { cls := .type "tuple", data := .seq #[.none, .none] }
abbrev zt5 (h : Heap) (l1 l2 : Addr) : Heap := (zt4 h l1 l2).push { cls := .type "zip", data := .fields #[.none, .bool false, .bool false, .ref (zt2 h l1 l2).objs.size, .ref (zt3 h l1 l2).objs.size] }
theorem meets_zt (l1 l2 : Addr) (xs ys : Array Value) : Meets (Builtin.«zip.__new__» ⟨[.type "zip", .ref l1, .ref l2], []⟩) (fun _ R s => s.heap.IsTuple l1 xs ∧ s.heap.IsTuple l2 ys ∧ R (.ok (.ret (.ref (zt4 s.heap l1 l2).objs.size))) { s with heap := zt5 s.heap l1 l2 }) :=
  .of_wp fun prog w A R s h => by
    obtain ⟨hp, g, d, tk, os⟩ := s
    obtain ⟨t1, t2, h⟩ := h
    have hsub := sub_zip
    have e1 : Heap.IsTuple (Shared.heap ⟨hp, g, d, tk, os⟩) l1 xs := t1
    have e2 : Heap.IsTuple (Shared.heap ⟨hp.push { cls := .type "tuple_iterator", data := .fields #[.ref l1, .int 0 0] }, g, d, tk, os⟩) l2 ys := tup_at t2 fun o q => Heap.get?_push_of_some _ q
    wp_walk using wpAny_pyIter_tuple e1, wpAny_pyIter_tuple e2
    exact ⟨_, rfl, h⟩
section
variable {prog : Program} {w : World} {A : Around} {E : Value → Shared → Prop} {s : Shared}
theorem call_zt {l1 l2 : Addr} {xs ys : Array Value} {Q : Value → Shared → Prop} (t1 : s.heap.IsTuple l1 xs) (t2 : s.heap.IsTuple l2 ys)
    (h : ∀ h', IsZip h' (s.heap.objs.size + 4) (s.heap.objs.size + 2) (s.heap.objs.size + 3) .none → IsPair h' (s.heap.objs.size + 2) (.ref s.heap.objs.size) (.ref (s.heap.objs.size + 1)) → IsPair h' (s.heap.objs.size + 3) .none .none →
      h'.IsTupleIter s.heap.objs.size l1 0 → h'.IsTupleIter (s.heap.objs.size + 1) l2 0 → (∀ c o, s.heap.get? c = some o → h'.get? c = some o) → Q (.ref (s.heap.objs.size + 4)) { s with heap := h' }) :
    wpAny (model prog w) A (call (.type "zip") [.ref l1, .ref l2]) Q E s := by
  refine callType_new F.called_zip (by decide) (F.typeCall_zip_2 _ _) (F.newCall_zip_2 _ _) (fun obj => F.args_object_init_3 obj _ _) F.entry_zip_new (meets_zt l1 l2 xs ys) ⟨t1, t2, ?_⟩
  have z1 : (zt1 s.heap l1).objs.size = s.heap.objs.size + 1 := Heap.size_push ..
  have z2 : (zt2 s.heap l1 l2).objs.size = s.heap.objs.size + 2 := by rw [Heap.size_push, z1]
  have z3 : (zt3 s.heap l1 l2).objs.size = s.heap.objs.size + 3 := by rw [Heap.size_push, z2]
  have z4 : (zt4 s.heap l1 l2).objs.size = s.heap.objs.size + 4 := by rw [Heap.size_push, z3]
  have p : ∀ {h : Heap} {o o' : Obj} {c : Addr}, h.get? c = some o' → (h.push o).get? c = some o' := fun q => Heap.get?_push_of_some _ q
  have g5 : (zt5 s.heap l1 l2).get? (zt4 s.heap l1 l2).objs.size = some _ := Heap.get?_push_size _ rfl
  have g4 : (zt5 s.heap l1 l2).get? (zt3 s.heap l1 l2).objs.size = some _ := p (Heap.get?_push_size _ rfl)
  have g3 : (zt5 s.heap l1 l2).get? (zt2 s.heap l1 l2).objs.size = some _ := p (p (Heap.get?_push_size _ rfl))
  have g2 : (zt5 s.heap l1 l2).get? (zt1 s.heap l1).objs.size = some _ := p (p (p (Heap.get?_push_size _ rfl)))
  have g1 : (zt5 s.heap l1 l2).get? s.heap.objs.size = some _ := p (p (p (p (Heap.get?_push_size _ rfl))))
  show _ ∧ _
  rw [z2, z3, z4] at g5
  rw [z1, z2] at g3
  rw [z3] at g4
  rw [z1] at g2
  rw [z4]
  exact ⟨⟨_, g5, rfl⟩, h _ g5 g3 g4 ⟨_, g1, rfl, rfl⟩ ⟨_, g2, rfl, rfl⟩ fun c o x => p (p (p (p (p x))))⟩
end
def ItzT (K : PySem.W.Frag) (a b : Addr) : It :=
  ⟨fun i H => ∃ (xs ys : List V) (x y : V), SqT K H a xs ∧ SqT K H b ys ∧ xs[i]? = some x ∧ ys[i]? = some y,
    fun i H v H' => ∃ T x y, v = .ref T ∧ H T = none ∧ H' = upd H T (.tup [x, y]) ∧ (∀ xs, SqT K H a xs → xs[i]? = some x) ∧ ∀ ys, SqT K H b ys → ys[i]? = some y,
    fun i H => ∃ xs ys : List V, SqT K H a xs ∧ SqT K H b ys ∧ (xs.length ≤ i ∨ ys.length ≤ i)⟩
theorem turn_zt {P : Program} {w : World} {K : PySem.W.Frag} {elts : List Expr} {kk : Nat} {tpos : Pos} {a b z TI TO i1 i2 : Addr} (D : ZipApart z TI TO i1 i2 a b) :
    Turn P w K (.Tuple elts kk tpos) (ItzT K a b) [z, TI, TO, i1, i2] z (fun i h => IsZip h z TI TO .none ∧ IsPair h TI (.ref i1) (.ref i2) ∧ (∃ x y, IsPair h TO x y) ∧ h.IsTupleIter i1 a i ∧ h.IsTupleIter i2 b i) where
  mem := by simp
  obj := fun i h st c hc => by
    obtain ⟨hz, hTI, ⟨x, y, hTO⟩, ⟨o1, e1, _, d1⟩, ⟨o2, e2, _, d2⟩⟩ := st
    have five : c = z ∨ c = TI ∨ c = TO ∨ c = i1 ∨ c = i2 := by simpa using hc
    rcases five with rfl | rfl | rfl | rfl | rfl
    · exact ⟨_, hz, fun v q => nomatch q⟩
    · exact ⟨_, hTI, fun v q => nomatch q⟩
    · exact ⟨_, hTO, fun v q => nomatch q⟩
    · exact ⟨o1, e1, fun v q => by rw [d1] at q; cases q⟩
    · exact ⟨o2, e2, fun v q => by rw [d2] at q; cases q⟩
  keep := fun i h h' ⟨hz, hTI, ⟨x, y, hTO⟩, h1, h2⟩ k =>
    ⟨k z (by simp) _ hz, k TI (by simp) _ hTI, ⟨x, y, k TO (by simp) _ hTO⟩, tupIter_at h1 fun o q => k i1 (by simp) o q, tupIter_at h2 fun o q => k i2 (by simp) o q⟩
  item := by
    intro X hP hw hK hc i pins s σ H E I hf st hg
    subst hP hw hK
    obtain ⟨hz, hTI, ⟨x0, y0, hTO⟩, h1, h2⟩ := st
    obtain ⟨xs, ys, x, y, hqx, hqy, hx, hy⟩ := hg
    obtain ⟨its, rv, p, _⟩ := I.tuple hqx
    obtain ⟨its2, rv2, p2, _⟩ := I.tuple hqy
    obtain ⟨u, hu, ru⟩ := rv.get hx
    obtain ⟨u2, hu2, ru2⟩ := rv2.get hy
    have hzl : z < s.heap.objs.size := Heap.lt_size hz
    have hu' : its.toArray[i]? = some u := by simpa using hu
    have hu2' : its2.toArray[i]? = some u2 := by simpa using hu2
    refine next_zt (I.ok.hd hc) D hz hTI hTO h1 h2 p p2 (fun en => ?_) fun v v2 ev ev2 h' z' TO' h1' h2' hT hsz hk => ?_
    · rcases en with q | q
      · rw [hu'] at q; cases q
      · rw [hu2'] at q; cases q
    rw [hu'] at ev
    rw [hu2'] at ev2
    cases ev
    cases ev2
    refine ⟨_, rfl, wpAny_letOwnedTupleGo_zip (s := { s with heap := h' }) z' fun h'' z'' sb => ?_⟩
    have hT2 : h''.get? s.heap.objs.size = some { cls := .type "tuple", data := .seq #[u, u2] } := (sb.2 _ (Nat.ne_of_gt hzl)).trans hT
    have new : ObjOk X.prog X.w (upd H s.heap.objs.size (.tup [x, y])) h'' s.heap.objs.size (.tup [x, y]) := ⟨by show 2 ≤ sizeLine; decide, [u, u2], .cons ru (.cons ru2 .nil), ⟨_, hT2, rfl, _, rfl⟩⟩
    have ot : ∀ c, c ∉ [z, TI, TO, i1, i2] → c ≠ z ∧ c ≠ TO ∧ c ≠ i1 ∧ c ≠ i2 := fun c hb => ⟨fun q => hb (by simp [q]), fun q => hb (by simp [q]), fun q => hb (by simp [q]), fun q => hb (by simp [q])⟩
    have I1 : Inv X pins σ (upd H s.heap.objs.size (.tup [x, y])) { s with heap := h'' } :=
      I.turnedNew (t' := s.toks) (ch := [z, TI, TO, i1, i2]) (fun c o hb q => (sb.2 c (ot c hb).1).trans (hk c o (ot c hb).1 (ot c hb).2.1 (ot c hb).2.2.1 (ot c hb).2.2.2 q)) hf (Nat.le_refl _) new
    refine ⟨.ref s.heap.objs.size, _, I1, rfl, ⟨_, x, y, rfl, I.hok.fresh (Nat.le_refl _), rfl, fun l hl => by rw [I.tuple_inj hl hqx]; exact hx, fun l hl => by rw [I.tuple_inj hl hqy]; exact hy⟩, ⟨z'', ?_, ⟨u, u2, ?_⟩, ?_, ?_⟩, fun c hcm => ?_⟩
    · exact (sb.2 _ D.TIz).trans (hk _ _ D.TIz D.TITO D.TIi1 D.TIi2 hTI)
    · exact (sb.2 _ D.TOz).trans TO'
    · exact tupIter_at h1' fun o q => (sb.2 _ D.i1z).trans q
    · exact tupIter_at h2' fun o q => (sb.2 _ D.i2z).trans q
    · have hlt : c < s.heap.objs.size := by
        have five : c = z ∨ c = TI ∨ c = TO ∨ c = i1 ∨ c = i2 := by simpa using hcm
        rcases five with rfl | rfl | rfl | rfl | rfl
        · exact hzl
        · exact Heap.lt_size hTI
        · exact Heap.lt_size hTO
        · obtain ⟨_, e1, _⟩ := h1; exact Heap.lt_size e1
        · obtain ⟨_, e2, _⟩ := h2; exact Heap.lt_size e2
      rw [upd_ne (Nat.ne_of_lt hlt)]
      exact (hf c hcm).1
  done := by
    intro X hP hw hK hc i pins s σ H E I hf st hg
    subst hP hw hK
    obtain ⟨hz, hTI, ⟨x0, y0, hTO⟩, h1, h2⟩ := st
    obtain ⟨xs, ys, hqx, hqy, hend⟩ := hg
    obtain ⟨its, rv, p, _⟩ := I.tuple hqx
    obtain ⟨its2, rv2, p2, _⟩ := I.tuple hqy
    have e1 := rv.length
    have e2 := rv2.length
    have ot : ∀ c, c ∉ [z, TI, TO, i1, i2] → c ≠ z ∧ c ≠ TO ∧ c ≠ i1 ∧ c ≠ i2 := fun c hb => ⟨fun q => hb (by simp [q]), fun q => hb (by simp [q]), fun q => hb (by simp [q]), fun q => hb (by simp [q])⟩
    refine next_zt (I.ok.hd hc) D hz hTI hTO h1 h2 p p2 (fun _ h' hk => ⟨rfl, I.turnedL (t' := s.toks) (ch := [z, TI, TO, i1, i2]) (fun c o hb q => hk c o (ot c hb).1 (ot c hb).2.1 (ot c hb).2.2.1 (ot c hb).2.2.2 q) hf⟩) fun v v2 ev ev2 => ?_
    have l1 := (Array.getElem?_eq_some_iff.mp ev).1
    have l2 := (Array.getElem?_eq_some_iff.mp ev2).1
    simp at l1 l2
    omega
  self := fun A i s Q E st h => wpAny_pyIter_zip st.1 h
def iZipA (K : PySem.W.Frag) (ta : TA) : TI := fun σ H R => ta σ H fun vs H1 => ∃ a b xs ys, vs = [.ref a, .ref b] ∧ ((SqL K H1 a xs ∧ SqL K H1 b ys ∧ R (Itz K a b) H1) ∨ (SqT K H1 a xs ∧ SqT K H1 b ys ∧ R (ItzT K a b) H1))
theorem five_ge {n c : Nat} (h : c ∈ [n + 4, n + 2, n + 3, n, n + 1]) : n ≤ c := by
  simp only [List.mem_cons, List.not_mem_nil, or_false] at h
  omega
theorem pi_zipA {X : Cx} {e e2 : Expr} {ta : TA} {p pos tpos : Pos} {elts : List Expr} {kk : Nat} (hg : Gl X "zip") (hm : X.mg "zip" = none) (ha : PA X [e, e2] ta)
    (hs : starEach [e, e2] X.env = (false, eval e X.env) :: starEach [e2] X.env := by rfl) (hpl : (backTo pos (starEach [e2] X.env)).any (·.1) = false := by rfl) :
    PI X (.Tuple elts kk tpos) (.Call (.Name "zip" p) [e, e2] [] pos) (iZipA X.K ta) := by
  intro pins s σ H R I h
  refine Call_ (ld_blt I hg hm boot_zip5 (PyProof.Rows.callWith_type1 (thn (ha pos pins s σ H _ I h) fun us s1 ⟨vs, H1, I1, r1, q1⟩ => ?_) hs hpl))
  obtain ⟨a, b, xs, ys, ex, q1⟩ := q1
  subst ex
  obtain ⟨ua, ub, rfl, ra, rb⟩ := vals2 r1
  cases (show ua = Value.ref a from ra)
  cases (show ub = Value.ref b from rb)
  rcases q1 with ⟨hqx, hqy, q⟩ | ⟨hqx, hqy, q⟩
  · obtain ⟨its, rv, p1, _⟩ := I1.list hqx
    obtain ⟨its2, rv2, p2, _⟩ := I1.list hqy
    refine call_zip_2 p1.isList p2.isList fun h' hz hTI hTO h1 h2 hsz hk => wpAny_pyIter_zip hz ?_
    have I2 : Inv X pins σ H1 { s1 with heap := h' } := I1.kept (t' := s1.toks) hk
    exact ⟨s1.heap.objs.size + 4, [s1.heap.objs.size + 4, s1.heap.objs.size + 2, s1.heap.objs.size + 3, s1.heap.objs.size, s1.heap.objs.size + 1], _, _, H1, rfl, I2, turn_zip (PySem.W.ktu_apart s1.heap.objs.size a b p1.lt p2.lt), ⟨hz, hTI, ⟨_, _, hTO⟩, h1, h2⟩, fun c hcm => I1.fpOk (five_ge hcm) (I1.hok.fresh (five_ge hcm)), q⟩
  · obtain ⟨its, rv, p1, _⟩ := I1.tuple hqx
    obtain ⟨its2, rv2, p2, _⟩ := I1.tuple hqy
    have la : a < s1.heap.objs.size := by obtain ⟨_, e, _⟩ := p1; exact Heap.lt_size e
    have lb : b < s1.heap.objs.size := by obtain ⟨_, e, _⟩ := p2; exact Heap.lt_size e
    refine call_zt p1 p2 fun h' hz hTI hTO h1 h2 hk => wpAny_pyIter_zip hz ?_
    have I2 : Inv X pins σ H1 { s1 with heap := h' } := I1.kept (t' := s1.toks) hk
    exact ⟨s1.heap.objs.size + 4, [s1.heap.objs.size + 4, s1.heap.objs.size + 2, s1.heap.objs.size + 3, s1.heap.objs.size, s1.heap.objs.size + 1], _, _, H1, rfl, I2, turn_zt (PySem.W.ktu_apart s1.heap.objs.size a b la lb), ⟨hz, hTI, ⟨_, _, hTO⟩, h1, h2⟩, fun c hcm => I1.fpOk (five_ge hcm) (I1.hok.fresh (five_ge hcm)), q⟩
theorem lc_zipT {K : PySem.W.Frag} {a b : Addr} {xs ys : List V} {g : TG} {tt : TT} {te : TE} {vs : List Nat} {σ : St} {H1 : Hp} {D : Addr} {Qd : Hp → Prop} (hxy : xs.length = ys.length) (Pv : Nat → Hp → Prop) (h0 : Pv 0 (upd H1 D (.lst [])))
    (hl : ∀ i H, i ≤ xs.length → Pv i H → SqT K H a xs ∧ SqT K H b ys)
    (hs : ∀ i x y T H, xs[i]? = some x → ys[i]? = some y → Pv i H → H T = none → g (.ref T) (wipe σ vs) (upd H T (.tup [x, y])) fun σ2 H2 => wipe σ2 vs = wipe σ vs ∧ tt σ2 H2 fun b H3 =>
      if b = true then te σ2 H3 fun y H4 => ∃ acc, H4 D = some (.lst acc) ∧ acc.length < sizeLine ∧ Pv (i + 1) (upd H4 D (.lst (acc ++ [y]))) else Pv (i + 1) H3) (hd : ∀ H, Pv xs.length H → Qd H) :
    ∃ W : Nat → Nat → Hp → Prop, (∃ m, W 0 m (upd H1 D (.lst []))) ∧ ∀ i m H, W i m H →
      ((ItzT K a b).stop i H ∧ Qd H) ∨ ((ItzT K a b).go i H ∧ ∃ Nx : Hp → Prop, (∀ H', Nx H' → ∃ m', m' < m ∧ W (i + 1) m' H') ∧ ∀ x H', (ItzT K a b).yld i H x H' → g x (wipe σ vs) H' fun σ2 H2 => wipe σ2 vs = wipe σ vs ∧ tt σ2 H2 fun b H3 =>
        if b = true then te σ2 H3 fun y H4 => ∃ acc, H4 D = some (.lst acc) ∧ acc.length < sizeLine ∧ Nx (upd H4 D (.lst (acc ++ [y]))) else Nx H3) := by
  refine ⟨fun i m H => m = xs.length - i ∧ i ≤ xs.length ∧ Pv i H, ⟨xs.length, by simp, Nat.zero_le _, h0⟩, ?_⟩
  rintro i m H ⟨rfl, hi, p⟩
  obtain ⟨q1, q2⟩ := hl i H hi p
  by_cases hlt : i < xs.length
  · have hlt2 : i < ys.length := by omega
    refine .inr ⟨⟨xs, ys, xs[i], ys[i], q1, q2, by simp [hlt], by simp [hlt2]⟩, Pv (i + 1), fun H' p' => ⟨xs.length - (i + 1), by omega, rfl, hlt, p'⟩, fun x H' y => ?_⟩
    obtain ⟨T, x', y', rfl, nT, rfl, hx, hy⟩ := y
    exact hs i x' y' T H (hx xs q1) (hy ys q2) p nT
  · have e : i = xs.length := by omega
    subst e
    exact .inl ⟨⟨xs, ys, q1, q2, .inl (Nat.le_refl _)⟩, hd H p⟩
end L2
set_option Elab.async false
set_option linter.all false
set_option maxRecDepth 100000
set_option maxHeartbeats 1000000
namespace L2
open PySem PySem.Spec PyProof.Rows
section
variable {X : Cx} {pins : List (Addr × Obj)} {σ : St} {H : Hp} {s : Shared} {A : Around} {E : Value → Shared → Prop}
theorem ty_kit {x : V} {u t : Value} (I : Inv X pins σ H s) (rx : RelV x u) (ty : TyOf X.K H x t) : ∃ Hx : Heap → Prop, PySem.W.KitX X.K u t Hx ∧ Hx s.heap ∧ u ≠ .builtin "__main__.__loader__#opaque" := by
  cases ty with
  | non => cases (show u = Value.none from rx); exact ⟨_, PySem.W.kitx_none, True.intro, fun z => nomatch z⟩
  | bl y => cases (show u = Value.bool y from rx); exact ⟨_, PySem.W.kitx_bool, True.intro, fun z => nomatch z⟩
  | int i => obtain ⟨t, q⟩ := (show ∃ t, u = Value.int i t from rx); cases q; exact ⟨_, PySem.W.kitx_int, True.intro, fun z => nomatch z⟩
  | str y => obtain ⟨t, q⟩ := (show ∃ t, u = Value.str y t from rx); cases q; exact ⟨_, PySem.W.kitx_str, True.intro, fun z => nomatch z⟩
  | flt y => obtain ⟨t, q⟩ := (show ∃ t, u = Value.float y t from rx); cases q; exact ⟨_, PySem.W.kitx_float, True.intro, fun z => nomatch z⟩
  | @lst a xs ea =>
    cases (show u = Value.ref a from rx)
    obtain ⟨_, _, n, _, h1⟩ := (show ObjOk X.prog X.w H s.heap a (.lst xs) from I.hok a _ ea)
    exact ⟨_, PySem.W.kitx_list, ⟨_, h1, rfl⟩, fun z => nomatch z⟩
  | @frz a ob xs ea =>
    cases (show u = Value.ref a from rx)
    obtain ⟨_, _, _, n, _, h1⟩ := (show ObjOk X.prog X.w H s.heap a (.frz ob (.lst xs)) from I.hok a _ ea)
    exact ⟨_, PySem.W.kitx_list, ⟨_, h1, rfl⟩, fun z => nomatch z⟩
  | @tup a xs ea =>
    cases (show u = Value.ref a from rx)
    obtain ⟨_, _, _, p⟩ := (show ObjOk X.prog X.w H s.heap a (.tup xs) from I.hok a _ ea)
    obtain ⟨o, h1, h2, _⟩ := p
    exact ⟨_, PySem.W.kitx_tuple, ⟨o, h1, h2⟩, fun z => nomatch z⟩
  | @dK a kvs ea =>
    cases (show u = Value.ref a from rx)
    obtain ⟨_, _, vs, _, p⟩ := (show ObjOk X.prog X.w H s.heap a (.dK kvs) from I.hok a _ ea)
    obtain ⟨o, es, ep, h1, h2, _⟩ := p
    exact ⟨_, PySem.W.kitx_dict, ⟨o, h1, h2.1⟩, fun z => nomatch z⟩
  | @dT a kvs ea =>
    cases (show u = Value.ref a from rx)
    obtain ⟨_, _, xs, _, o, es, ep, h1, h2, _⟩ := (show ObjOk X.prog X.w H s.heap a (.dT kvs) from I.hok a _ ea)
    exact ⟨_, PySem.W.kitx_dict, ⟨o, h1, h2.1⟩, fun z => nomatch z⟩
  | @ins a C dx fs ea cl ha hn htk hm =>
    cases (show u = Value.ref a from rx)
    obtain ⟨mA, O, _⟩ := ins_get I.hok ea
    obtain ⟨od, J, _⟩ := O.look
    exact ⟨_, PySem.W.kitx_own (cl.get _) cl.hd ha hn htk hm, J, fun z => nomatch z⟩
end
theorem vals_ty : ∀ {ns : List String} {us : List Value}, Vals (ns.map V.ty) us → us = ns.map Value.type
  | [], _, .nil => rfl
  | n :: ns, _, .cons r t => by
    rw [vals_ty t, show _ = Value.type n from r]
    rfl
section
variable {K : PySem.W.Frag}
theorem kTT : PySem.W.kitOne K (.type "tuple") (.type "tuple") = some true := rfl
theorem kTL : PySem.W.kitOne K (.type "tuple") (.type "list") = some false := by rfl
theorem kLT : PySem.W.kitOne K (.type "list") (.type "tuple") = some false := by rfl
theorem kLL : PySem.W.kitOne K (.type "list") (.type "list") = some true := rfl
theorem kaT : PySem.W.kitAny K (.type "tuple") (["list", "tuple"].map Value.type) = some true := by rfl
theorem kaL : PySem.W.kitAny K (.type "list") (["list", "tuple"].map Value.type) = some true := by rfl
theorem kaI : PySem.W.kitAny K (.type "int") (["list", "tuple"].map Value.type) = some false := by rfl
theorem kaB : PySem.W.kitAny K (.type "bool") (["list", "tuple"].map Value.type) = some false := by rfl
theorem kaN : PySem.W.kitAny K (.type "NoneType") (["list", "tuple"].map Value.type) = some false := by rfl
theorem kaS : PySem.W.kitAny K (.type "str") (["list", "tuple"].map Value.type) = some false := by rfl
theorem kIB : PySem.W.kitOne K (.type "int") (.type "bool") = some false := by rfl
theorem kBB : PySem.W.kitOne K (.type "bool") (.type "bool") = some true := by rfl
theorem kNB : PySem.W.kitOne K (.type "NoneType") (.type "bool") = some false := by rfl
theorem kSB : PySem.W.kitOne K (.type "str") (.type "bool") = some false := by rfl
end
end L2
namespace NH
open PySem L2
def Alk (H : Hp) : Nat → V → V → Prop
  | 0, _, _ => False
  | n + 1, x, y => (x = y ∧ flatV x = true) ∨ ∃ a b xs ys, x = .ref a ∧ y = .ref b ∧ ((H a = some (.lst xs) ∧ H b = some (.lst ys)) ∨ (H a = some (.tup xs) ∧ H b = some (.tup ys))) ∧ xs.length ≤ 100000 ∧ Paired (Alk H n) xs ys
theorem paired_two {α β γ δ : Type} {R : α → γ → Prop} {R' : β → γ → Prop} {S : δ → δ → Prop} {f : α → δ} {g : β → δ} (k : ∀ a b c, R a c → R' b c → S (f a) (g b)) : ∀ {as : List α} {bs : List β} {cs : List γ}, Paired R as cs → Paired R' bs cs → Paired S (as.map f) (bs.map g)
  | _, _, _, .nil, .nil => .nil
  | _, _, _, .cons r t, .cons r' t' => .cons (k _ _ _ r r') (paired_two k t t')
theorem alk_pair {H : Hp} {a b : Addr} {p : PegD} (h : PairAt H a p) (h' : PairAt H b p) : Alk H 2 (.ref a) (.ref b) :=
  .inr ⟨a, b, _, _, rfl, rfl, .inr ⟨h, h'⟩, by show 2 ≤ 100000; decide, .cons (.inl ⟨rfl, rfl⟩) (.cons (.inl ⟨rfl, rfl⟩) .nil)⟩
theorem alk_pegs {H : Hp} {a b : Addr} {ps : List PegD} (h : PegsAt H a ps) (h' : PegsAt H b ps) (l : ps.length ≤ 100000) : Alk H 3 (.ref a) (.ref b) := by
  obtain ⟨as, e, k⟩ := h
  obtain ⟨bs, e', k'⟩ := h'
  exact .inr ⟨a, b, _, _, rfl, rfl, .inr ⟨e, e'⟩, by rw [List.length_map, Paired.length k]; exact l, paired_two (R := PairAt H) (R' := PairAt H) (fun _ _ _ r r' => alk_pair r r') k k'⟩
theorem alk_hand {H : Hp} {a b : Addr} {hd : HandD} (l : hd.2.length ≤ 100000) (h : HandAt H a hd) (h' : HandAt H b hd) : Alk H 4 (.ref a) (.ref b) := by
  obtain ⟨p, e, k⟩ := h
  obtain ⟨p', e', k'⟩ := h'
  exact .inr ⟨a, b, _, _, rfl, rfl, .inr ⟨e, e'⟩, by show 2 ≤ 100000; decide, .cons (.inl ⟨rfl, rfl⟩) (.cons (alk_pegs k k' l) .nil)⟩
theorem alk_hands {H : Hp} : ∀ {w : WebD} {as bs : List Addr}, (∀ hd ∈ w, hd.2.length ≤ 100000) → Paired (HandAt H) as w → Paired (HandAt H) bs w → Paired (Alk H 4) (as.map V.ref) (bs.map V.ref)
  | _, _, _, _, .nil, .nil => .nil
  | _, _, _, l, .cons r t, .cons r' t' => .cons (alk_hand (l _ List.mem_cons_self) r r') (alk_hands (fun hd h => l hd (List.mem_cons_of_mem _ h)) t t')
theorem alk_web {H : Hp} {a b : Addr} {w : WebD} (h : WebAt H a w) (h' : WebAt H b w) (l : w.length ≤ 100000) (l' : ∀ hd ∈ w, hd.2.length ≤ 100000) : Alk H 5 (.ref a) (.ref b) := by
  obtain ⟨as, e, k⟩ := h
  obtain ⟨bs, e', k'⟩ := h'
  exact .inr ⟨a, b, _, _, rfl, rfl, .inr ⟨e, e'⟩, by rw [List.length_map, Paired.length k]; exact l, alk_hands l' k k'⟩
end NH
set_option Elab.async false
set_option linter.all false
set_option maxRecDepth 100000
set_option maxHeartbeats 1000000
namespace L2
open PySem PySem.Spec PyProof.Rows
def idxF (items : Array Value) (x : Value) : Nat → Option Fin × Unit → Sem (ForInStep (Option Fin × Unit)) := fun i __s =>
  match items[i]? with
  | some y => do
    let b ← eqBool y x
    if b = true then do
        let r ← retInt ↑i
        pure (ForInStep.done (some r, ()))
      else pure (ForInStep.yield (none, ()))
  | x => pure (ForInStep.yield (none, ()))
theorem idx_loop {prog : Program} {w : World} {A : Around} {E : Value → Shared → Prop} {s : Shared} {items : Array Value} {x : Value} {e : Value → Bool} {j : Nat} (hj : j < items.size) (hit : e items[j] = true) (he : ∀ y, y ∈ items → SeqAt.EqAt A s y x (e y))
    {Q : Option Fin × Unit → Shared → Prop} (h : Q (some (.done (.ret (.int j s.toks))), ()) { s with toks := s.toks + 1 }) :
    ∀ (k i : Nat), j - i = k → i ≤ j → (∀ m (hm : m < items.size), i ≤ m → m < j → e items[m] = false) → wpAny (model prog w) A (forIn (List.range' i (items.size - i)) (none, ()) (idxF items x)) Q E s := by
  intro k
  induction k with
  | zero =>
    intro i hk hij hno
    have : i = j := by omega
    subst this
    rw [show items.size - i = (items.size - i - 1) + 1 by omega, List.range'_succ, List.forIn_cons]
    refine wpAny_bind ?_
    unfold idxF
    rw [Array.getElem?_eq_getElem hj]
    refine wpAny_bind (he _ (Array.getElem_mem hj) prog w _ _ ?_)
    rw [hit]
    simp only [if_true]
    obtain ⟨hp, g, d, tk, os⟩ := s
    wp_walk
    exact h
  | succ k ih =>
    intro i hk hij hno
    have il : i < items.size := by omega
    rw [show items.size - i = (items.size - (i + 1)) + 1 by omega, List.range'_succ, List.forIn_cons]
    refine wpAny_bind ?_
    have nx := ih (i + 1) (by omega) (by omega) fun m hm h1 h2 => hno m hm (by omega) h2
    unfold idxF
    rw [Array.getElem?_eq_getElem il]
    refine wpAny_bind (he _ (Array.getElem_mem il) prog w _ _ ?_)
    rw [hno i il (Nat.le_refl _) (by omega)]
    simp only [Bool.false_eq_true, if_false]
    exact wpAny_pure nx
theorem tup_indexAt (l : Addr) (items : Array Value) (n : Nat) (dd : Option Addr) (sl : Array (Option Value)) (x : Value) (e : Value → Bool) (j : Nat) (hj : j < items.size)
    (hit : e items[j] = true) (hno : ∀ m (hm : m < items.size), m < j → e items[m] = false) :
    Meets (Builtin.«tuple.index» ⟨[.ref l, x], []⟩)
      (fun A R s => s.heap.get? l = some { cls := .type "tuple", dict := dd, data := .seq items n, slots := sl } ∧ (∀ y, y ∈ items → SeqAt.EqAt A.in1 s y x (e y)) ∧ R (.ok (.ret (.int j s.toks))) { s with toks := s.toks + 1 }) := by
  intro prog w A R s h
  unfold Builtin.«tuple.index»
  simp only [Std.Legacy.Range.forIn_eq_forIn_range']
  obtain ⟨hp, g, d, tk, os⟩ := s
  obtain ⟨hl, he, h⟩ := h
  wp_walk using SeqAt.wpAny_loadPart' hl
  have hs : ([:min items.size items.size] : Std.Legacy.Range).size = items.size - 0 := by simp [Std.Legacy.Range.size]
  show wpAny _ _ (forIn (List.range' 0 ([:min items.size items.size] : Std.Legacy.Range).size) (none, ()) (idxF items x)) _ _ _
  rw [hs]
  refine idx_loop hj hit he ?_ j 0 rfl (Nat.zero_le _) fun m hm _ h2 => hno m hm h2
  exact wpAny_pure h
section
variable {X : Cx}
def rIndexT (K : PySem.W.Frag) : V → List V → Hp → VK → Prop := fun x xs H Q => ∃ a ys y j z, x = .ref a ∧ xs = [y] ∧ SqT K H a ys ∧ flatV y = true ∧ ys.all flatV = true ∧ ys[j]? = some z ∧ eqV z y = true ∧
  (∀ (m : Nat) (z' : V), m < j → ys[m]? = some z' → eqV z' y = false) ∧ Q (.int (j : Nat)) H
theorem mt_indexT : MtR X "tuple.index" (rIndexT X.K) := by
  intro pins s σ H x xs v us Q I rx rxs h
  obtain ⟨a, ys, y, j, z, rfl, rfl, hs, fy, fys, hz, hzj, hno, q⟩ := h
  cases rx
  obtain ⟨uy, rfl, ry⟩ := vals1 rxs
  obtain ⟨its, rv, ⟨⟨cls, dd, data, sl⟩, ho, hc, n, hd⟩, hlen⟩ := I.tuple hs
  replace hc : cls = .type "tuple" := hc
  replace hd : data = .seq its.toArray n := hd
  subst hc hd
  obtain ⟨u, hu, ru⟩ := rv.get hz
  obtain ⟨hjl, hje⟩ := List.getElem?_eq_some_iff.mp hu
  have hvl := rv.length
  have hj : j < its.toArray.size := by simpa using hjl
  refine call_meets PySem.F.slot_tuple_index ⟨_, ho, rfl⟩ PySem.F.entry_tuple_index (PySem.F.args_tuple_index_2 _ _) (tup_indexAt a its.toArray n dd sl uy (eqU y) j hj ?_ ?_) ⟨ho, fun u' hu' => mem_eqAt ry fy rv fys u' (by simpa using hu'), ?_⟩
  · have e1 : its.toArray[j] = u := by simpa using hje
    rw [e1, eqU_of ru (flat_at fys hz)]
    exact hzj
  · intro m hm hmj
    have hml : m < its.length := by simpa using hm
    have hmy : m < ys.length := by omega
    have hy' : ys[m]? = some ys[m] := List.getElem?_eq_getElem hmy
    obtain ⟨u2, hu2, ru2⟩ := rv.get hy'
    obtain ⟨_, hme⟩ := List.getElem?_eq_some_iff.mp hu2
    have e1 : its.toArray[m] = u2 := by simpa using hme
    rw [e1, eqU_of ru2 (flat_at fys hy')]
    exact hno m _ hmj hy'
  · exact ⟨.int (j : Nat), H, I.tok _, ⟨_, rfl⟩, q⟩
end
section
variable {X : Cx}
def tBMT (r : V → List V → Hp → VK → Prop) (to : TE) (t : TA) : TE := fun σ H Q => to σ H fun x H1 => (∃ (a : Addr) (o : Obj) (u : HO), x = .ref a ∧ H1 a = some (.frz o u) ∧ o.cls = .type "tuple" ∧ o.dict = none) ∧ t σ H1 fun xs H2 => r x xs H2 Q
variable {o e : Expr} {es : List Expr} {to : TE} {t : TA} {name : Str} {apos cpos : Pos} {id : String} {r : V → List V → Hp → VK → Prop}
theorem pe_bmT (pa : PlainAttrs "tuple") (slot : Slot "tuple" name id) (hty : typeOf (.builtin id) = pure (.type "method_descriptor")) (hm : MtR X id r) (ho : PE X o to) (ha : PA X (e :: es) t)
    (hbase : attributeBase o name X.env (eval o X.env) = eval o X.env := by rfl)
    (hfew : ((backTo cpos (starEach (e :: es) X.env)).all (fun x => !x.1) && (backToKw cpos (keywordEach [] X.env)).all (fun x => x.1.isSome)
      && decide ((e :: es).length + ([] : List Keyword).length + (if ([] : List Keyword).isEmpty then 0 else 1) < 30)) = true := by rfl)
    (hline : (apos.endLine == cpos.line) = true := by rfl) (hs : starEach (e :: es) X.env = (false, eval e X.env) :: starEach es X.env := by rfl) (hplain : (backTo cpos (starEach es X.env)).any (·.1) = false := by rfl) :
    PE X (.Call (.Attribute o name apos) (e :: es) [] cpos) (tBMT r to t) := by
  intro pins s σ H Q I h
  refine wpAny_Call_method_late hbase hfew hline rfl (thn (ho pins s σ H _ I h) fun v s1 ⟨x, H1, I1, r1, ⟨a, ob, u, ex, ea, oc, od⟩, q1⟩ => ?_)
  subst ex
  cases r1
  obtain ⟨eo, _⟩ := (show ObjOk X.prog X.w H1 s1.heap a (.frz ob u) from I1.hok a _ ea)
  refine ⟨"tuple", id, pa, slot, hty, ⟨ob, eo, oc⟩, fun b eb => by cases eb; exact ⟨ob, eo, od⟩, ?_⟩
  have hA := ha cpos pins s1 σ H1 _ I1 q1
  rw [hs] at hA ⊢
  refine Calls.callWith_builtin (by show (false || (backTo cpos (starEach es X.env)).any (·.1)) = false; rw [hplain] <;> rfl) (Calls.evalArgs_plain ?_)
  exact thn hA fun us s2 ⟨vs, H2, I2, r2, q2⟩ => hm pins s2 σ H2 (.ref a) vs (.ref a) us Q I2 rfl r2 q2
end
end L2
namespace NH
open PySem L2
def TupD (H : Hp) (r : Addr) (xs : List V) : Prop := ∃ o : Obj, H r = some (.frz o (.tup xs)) ∧ o.cls = .type "tuple" ∧ o.dict = none
theorem TupD.same {H H' : Hp} {r : Addr} {xs : List V} (s : Same H H') : TupD H r xs → TupD H' r xs
  | ⟨o, e, c⟩ => ⟨o, s _ _ e, c⟩
theorem TupD.sq {K : PySem.W.Frag} {H : Hp} {r : Addr} {xs : List V} : TupD H r xs → SqT K H r xs
  | ⟨o, e, _⟩ => .inl (.inr ⟨o, e⟩)
end NH
set_option Elab.async false
set_option linter.all false
set_option maxRecDepth 100000
set_option maxHeartbeats 1000000
set_option Elab.async false
set_option linter.all false
set_option maxRecDepth 100000
set_option maxHeartbeats 1000000
namespace NH
open PySem L2
def FnAt (P : Program) (w : World) (K : PySem.W.Frag) (mg : Str → Option Value) (base : Heap) (n : Nat) (x : Str) (ps : List Str) (sp : Sp) : Prop :=
  ∃ (f : Addr) (fd : FuncData), FnOk P w K mg base CX0 n f fd ps sp ∧ Binds K fd ps [] ∧ mg x = some (.ref f) ∧ PySem.W.keepIn K (.ref f) = true
structure Enc (α : Type) [DecidableEq α] (f : α → PyData) (n : Nat) : Prop where
  eq : ∀ a b, PyData.eqv (f a) (f b) = decide (a = b)
  can : ∀ a, PyData.canLay0 (f a) = true
  dep : ∀ a, PyData.depth (f a) ≤ n
theorem enc_int : Enc Int PyData.int 0 := ⟨fun a b => by simp only [PyData.eqv]; by_cases h : a = b <;> simp [h], fun a => by simp only [PyData.canLay0], fun a => by simp only [PyData.depth]; exact Nat.le_refl _⟩
def natP (n : Nat) : PyData := .int (n : Int)
theorem enc_nat : Enc Nat natP 0 := ⟨fun a b => by
  unfold natP
  rw [enc_int.eq]
  by_cases h : a = b
  · simp [h]
  · have : ¬ (a : Int) = (b : Int) := by omega
    simp [h, this], fun a => enc_int.can _, fun a => enc_int.dep _⟩
section
variable {α β : Type} [DecidableEq α] [DecidableEq β] {f : α → PyData} {g : β → PyData} {n m : Nat}
theorem enc_all (e : Enc α f n) : (∀ l l' : List α, PyData.eqvAll (l.map f) (l'.map f) = decide (l = l')) ∧ (∀ l : List α, PyData.canLayAll0 (l.map f) = true) ∧ ∀ l : List α, PyData.depthAll (l.map f) ≤ n := by
  refine ⟨fun l => ?_, fun l => ?_, fun l => ?_⟩
  · induction l with
    | nil =>
      intro l'
      cases l' with
      | nil => simp [PyData.eqvAll]
      | cons _ _ => simp [PyData.eqvAll]
    | cons x r ih =>
      intro l'
      cases l' with
      | nil => simp [PyData.eqvAll]
      | cons y r' =>
        simp only [List.map_cons, PyData.eqvAll, ih r', e.eq]
        by_cases h : x = y
        · by_cases h' : r = r' <;> simp [h, h']
        · simp [h]
  · induction l with
    | nil => simp only [List.map_nil, PyData.canLayAll0]
    | cons x r ih => simp only [List.map_cons, PyData.canLayAll0, e.can, ih, Bool.and_true]
  · induction l with
    | nil => simp only [List.map_nil, PyData.depthAll]; exact Nat.zero_le _
    | cons x r ih =>
      simp only [List.map_cons, PyData.depthAll]
      exact Nat.max_le.mpr ⟨e.dep x, ih⟩
theorem enc_tup (e : Enc α f n) : Enc (List α) (fun l => .tuple (l.map f)) (n + 1) :=
  ⟨fun l l' => by simp only [PyData.eqv]; exact (enc_all e).1 l l', fun l => by simp only [PyData.canLay0]; exact (enc_all e).2.1 l, fun l => by simp only [PyData.depth]; exact Nat.succ_le_succ ((enc_all e).2.2 l)⟩
theorem enc_list (e : Enc α f n) : Enc (List α) (fun l => .list (l.map f)) (n + 1) :=
  ⟨fun l l' => by simp only [PyData.eqv]; exact (enc_all e).1 l l', fun l => by simp only [PyData.canLay0]; exact (enc_all e).2.1 l, fun l => by simp only [PyData.depth]; exact Nat.succ_le_succ ((enc_all e).2.2 l)⟩
theorem enc_pair (e : Enc α f n) (e' : Enc β g m) : Enc (α × β) (fun p => .tuple [f p.1, g p.2]) (max n m + 1) := by
  refine ⟨fun p q => ?_, fun p => ?_, fun p => ?_⟩
  · obtain ⟨a, b⟩ := p
    obtain ⟨c, d⟩ := q
    simp only [PyData.eqv, PyData.eqvAll, e.eq, e'.eq, Bool.and_true, Prod.mk.injEq]
    by_cases h : a = c
    · by_cases h' : b = d <;> simp [h, h']
    · simp [h]
  · simp only [PyData.canLay0, PyData.canLayAll0, e.can, e'.can, Bool.and_true]
  · simp only [PyData.depth, PyData.depthAll]
    have h1 := e.dep p.1
    have h2 := e'.dep p.2
    omega
end
theorem Enc.shaped {α : Type} [DecidableEq α] {f : α → PyData} {n : Nat} (e : Enc α f n) (h : n ≤ 64) (a : α) : SeqAt.shaped (f a) = true := by
  unfold SeqAt.shaped
  rw [e.can, Bool.true_and, decide_eq_true_iff]
  exact Nat.le_trans (e.dep a) h
theorem enc_pairD : Enc PegD pairD 1 := enc_pair enc_int enc_int
def pegsP (ps : List PegD) : PyData := .tuple (ps.map pairD)
def handP (hd : HandD) : PyData := .tuple [.int hd.1, pegsP hd.2]
def webP (w : WebD) : PyData := .tuple (w.map handP)
theorem enc_pegs : Enc (List PegD) pegsP 2 := enc_tup enc_pairD
theorem enc_hand : Enc HandD handP 3 := enc_pair enc_int enc_pegs
theorem enc_web : Enc WebD webP 4 := enc_tup enc_hand
theorem dp_pegs {K : PySem.W.Frag} {H : Hp} {a : Addr} {ps : List PegD} (h : PegsAt H a ps) : Dp K H (.ref a) (pegsP ps) := by
  obtain ⟨as, e, k⟩ := h
  exact .tup (SqT.of e) (dp_pairs k)
theorem dp_hand {K : PySem.W.Frag} {H : Hp} {a : Addr} {hd : HandD} (h : HandAt H a hd) : Dp K H (.ref a) (handP hd) := by
  obtain ⟨b, e, k⟩ := h
  exact .tup (SqT.of e) (.cons (.int _) (.cons (dp_pegs k) .nil))
theorem dp_hands {K : PySem.W.Frag} {H : Hp} : ∀ {as : List Addr} {w : WebD}, Paired (HandAt H) as w → DpAll K H (as.map V.ref) (w.map handP)
  | _, _, .nil => .nil
  | _, _, .cons r t => .cons (dp_hand r) (dp_hands t)
theorem dp_web {K : PySem.W.Frag} {H : Hp} {a : Addr} {w : WebD} (h : WebAt H a w) : Dp K H (.ref a) (webP w) := by
  obtain ⟨as, e, k⟩ := h
  exact .tup (SqT.of e) (dp_hands k)
theorem Good.bnd {room : Nat} {w : WebD} (g : Good room w) : ∀ (h p : Nat) x, pegOf w h p = some x → ∃ g q : Nat, x = ((g : Int), (q : Int)) ∧ g < w.length := fun h p x e => by
  obtain ⟨g', q, rfl, e'⟩ := g.tie h p x e
  exact ⟨g', q, rfl, pegOf_lt e'⟩
theorem plen_mem {w : WebD} {n : Nat} (h : ∀ (i : Nat) hd, w[i]? = some hd → hd.2.length ≤ n) : ∀ hd ∈ w, hd.2.length ≤ n := fun hd hm => by
  obtain ⟨i, e⟩ := List.getElem?_of_mem hm
  exact h i hd e
theorem Alk.web {H : Hp} {a b : Addr} {w : WebD} (h : WebAt H a w) (h' : WebAt H b w) (l : w.length ≤ 1000) (l' : ∀ (i : Nat) hd, w[i]? = some hd → hd.2.length ≤ 1000) : Alk H 5 (.ref a) (.ref b) :=
  alk_web h h' (by omega) fun hd hm => by have := plen_mem l' hd hm; omega
end NH
set_option Elab.async false
set_option linter.all false
set_option maxRecDepth 100000
set_option maxHeartbeats 1000000
namespace L2
open PySem PySem.Spec PyProof.Rows
section
variable {K : PySem.W.Frag} {H H' : Hp}
theorem Same.seqT {a : Addr} {xs : List V} (e : Same H H') (h : SqT K H a xs) : SqT K H' a xs := by
  rcases h with (h | ⟨o, h⟩) | h
  · exact .inl (.inl (e _ _ h))
  · exact .inl (.inr ⟨o, e _ _ h⟩)
  · exact .inr h
mutual
theorem Dp.same (s : Same H H') : ∀ (d : PyData) (v : V), Dp K H v d → Dp K H' v d
  | .none, _, h => by cases h; exact .non
  | .bool b, _, h => by cases h; exact .bl b
  | .int i, _, h => by cases h; exact .int i
  | .str x, _, h => by cases h; exact .str x
  | .list ds, _, h => by
    cases h with
    | lst hs ha => exact .lst (s.seq hs) (Dp.sameAll s ds _ ha)
  | .tuple ds, _, h => by
    cases h with
    | tup hs ha => exact .tup (s.seqT hs) (Dp.sameAll s ds _ ha)
  | .dict _, _, h => by cases h
theorem Dp.sameAll (s : Same H H') : ∀ (ds : List PyData) (vs : List V), DpAll K H vs ds → DpAll K H' vs ds
  | [], _, h => by cases h; exact .nil
  | d :: ds, _, h => by
    cases h with
    | cons h1 h2 => exact .cons (Dp.same s d _ h1) (Dp.sameAll s ds _ h2)
end
end
end L2
set_option Elab.async false
set_option linter.all false
set_option maxRecDepth 100000
set_option maxHeartbeats 1000000
namespace NH
open PySem L2
theorem nat_pair {a b c d : Nat} (h : some (((a : Int), (b : Int)) : PegD) = some ((c : Int), (d : Int))) : a = c ∧ b = d := by
  have := Option.some.inj h
  have h1 := congrArg Prod.fst this
  have h2 := congrArg Prod.snd this
  simp only at h1 h2
  omega
end NH
set_option Elab.async false
set_option linter.all false
set_option maxRecDepth 100000
set_option maxHeartbeats 1000000
namespace NH
open PySem L2
def Bd (w : WebD) : Prop := ∀ (h p : Nat) x, pegOf w h p = some x → ∃ g q : Nat, x = ((g : Int), (q : Int)) ∧ g < w.length
structure Led (w' w : WebD) (ld : List Nat) : Prop where
  len : ld.length = w'.length
  hand : ∀ (h : Nat) hd', w'[h]? = some hd' → ∃ (g : Nat) (hd : HandD), ld[h]? = some g ∧ w[g]? = some hd ∧ hd.1 = hd'.1 ∧ hd.2.length = hd'.2.length
  peg : ∀ (h p h' q g : Nat), ld[h]? = some g → pegOf w' h p = some ((h' : Int), (q : Int)) → ∃ g' : Nat, ld[h']? = some g' ∧ pegOf w g p = some ((g' : Int), (q : Int))
theorem Led.lt {w' w : WebD} {ld : List Nat} (L : Led w' w ld) {h g : Nat} (e : ld[h]? = some g) : h < w'.length ∧ g < w.length := by
  have hl : h < w'.length := by rw [← L.len]; exact (List.getElem?_eq_some_iff.mp e).1
  obtain ⟨g', hd, e1, e2, _⟩ := L.hand h w'[h] (List.getElem?_eq_getElem hl)
  rw [e] at e1
  cases e1
  exact ⟨hl, (List.getElem?_eq_some_iff.mp e2).1⟩
end NH
set_option Elab.async false
set_option linter.all false
set_option maxRecDepth 100000
set_option maxHeartbeats 1000000
set_option Elab.async false
set_option linter.all false
set_option maxRecDepth 100000
set_option maxHeartbeats 1000000
set_option Elab.async false
set_option linter.all false
set_option maxRecDepth 100000
set_option maxHeartbeats 1000000
set_option Elab.async false
set_option linter.all false
set_option maxRecDepth 100000
set_option maxHeartbeats 2000000
namespace NH
open PySem L2 PyProof.Rows
open PySem.SeqAt
mutual
def itD : PyData → Bool
  | .int _ => true
  | .tuple xs => itAll xs
  | _ => false
def itAll : List PyData → Bool
  | [] => true
  | d :: ds => itD d && itAll ds
end
end NH
set_option Elab.async false
set_option linter.all false
set_option maxRecDepth 100000
set_option maxHeartbeats 1000000
set_option Elab.async false
set_option linter.all false
set_option maxRecDepth 100000
set_option maxHeartbeats 1000000
namespace NH
open PySem PySem.SetTable
section
variable {K : Type} [DecidableEq K]
abbrev Row (K : Type) := List (Nat × K × Addr)
variable {hash : K → Int} {t : SetTable} {L : Row K}
end
end NH
set_option Elab.async false
set_option linter.all false
set_option maxRecDepth 100000
set_option maxHeartbeats 1000000
set_option Elab.async false
set_option linter.all false
set_option maxRecDepth 100000
set_option maxHeartbeats 2000000
namespace NH
open PySem L2 PyProof.Rows
open PySem.SeqAt
def KeepT (h h' : Heap) : Prop := ∀ b o, h.get? b = some o → o.cls = .type "tuple" → h'.get? b = some o
theorem KeepT.trans {h h' h'' : Heap} (a : KeepT h h') (b : KeepT h' h'') : KeepT h h'' := fun c o e t => b c o (a c o e t) t
mutual
theorem reads_keep {h h' : Heap} (k : KeepT h h') : ∀ (d : PyData) (v : Value) (as : List Addr), itD d = true → Reads h v d as → Reads h' v d as
  | .int n, v, as, _, r => by
    cases r
    exact .int _ _
  | .tuple xs, v, as, hd, r => by
    cases r with
    | tuple ho hc hdt hr => exact .tuple (k _ _ ho hc) hc hdt (readsAll_keep k xs _ _ (by simpa only [itD] using hd) hr)
  | .none, _, _, hd, _ => by simp only [itD] at hd; cases hd
  | .bool _, _, _, hd, _ => by simp only [itD] at hd; cases hd
  | .str _, _, _, hd, _ => by simp only [itD] at hd; cases hd
  | .list _, _, _, hd, _ => by simp only [itD] at hd; cases hd
  | .dict _, _, _, hd, _ => by simp only [itD] at hd; cases hd
theorem readsAll_keep {h h' : Heap} (k : KeepT h h') : ∀ (xs : List PyData) (vs : List Value) (as : List Addr), itAll xs = true → ReadsAll h vs xs as → ReadsAll h' vs xs as
  | [], vs, as, _, r => by
    cases r
    exact .nil
  | d :: ds, vs, as, hd, r => by
    simp only [itAll, Bool.and_eq_true] at hd
    cases r with
    | cons r1 r2 => exact .cons (reads_keep k d _ _ hd.1 r1) (readsAll_keep k ds _ _ hd.2 r2)
end
section
variable {α : Type} [DecidableEq α] {f : α → PyData}
def KeyAt (f : α → PyData) (h : Heap) (a : Addr) (k : α) : Prop := ∃ as, Reads h (.ref a) (f k) as
variable {prog : Program} {w : World} {A : Around} {E : Value → Shared → Prop} {s : Shared}
end
end NH
set_option Elab.async false
set_option linter.all false
set_option maxRecDepth 100000
set_option maxHeartbeats 2000000
set_option Elab.async false
set_option linter.all false
set_option maxRecDepth 100000
set_option maxHeartbeats 2000000
namespace NH
open PySem L2 PyProof.Rows
open PySem.SeqAt
section
variable {α : Type} [DecidableEq α] {f : α → PyData}
def Old (h h' : Heap) : Prop := ∀ b o, h.get? b = some o → h'.get? b = some o
theorem Old.keepT {h h' : Heap} (k : Old h h') : KeepT h h' := fun b o e _ => k b o e
variable {prog : Program} {w : World}
end
end NH
set_option Elab.async false
set_option linter.all false
set_option maxRecDepth 100000
set_option maxHeartbeats 4000000
set_option Elab.async false
set_option linter.all false
set_option maxRecDepth 100000
set_option maxHeartbeats 4000000
set_option Elab.async false
set_option linter.all false
set_option maxRecDepth 100000
set_option maxHeartbeats 4000000
set_option Elab.async false
set_option linter.all false
set_option maxRecDepth 100000
set_option maxHeartbeats 4000000
set_option Elab.async false
set_option linter.all false
set_option maxRecDepth 100000
set_option maxHeartbeats 4000000
namespace NH
open PySem L2 PyProof.Rows PySem.W
section
variable {prog : Program} {w : World} {A : Around} {E : Value → Shared → Prop} {s : Shared}
theorem sort_keys {a : Addr} {vs : List Value} {n : Nat} {P : PySem.Fin → Shared → Prop} {kd : SortKind} {O : Nat → Nat → Bool} (ho : s.heap.get? a = some (seqObj "list" vs.toArray n)) (h64 : vs.length < 64)
    (hkk : 2 ≤ vs.length → ∀ s2 : Shared, KeepT s.heap s2.heap → ∀ (E : Value → Shared → Prop) (Q : SortKind → Shared → Prop), Q kd s2 → wpAny (model prog w) A (keyKind' vs.toArray) Q E s2)
    (hlt : ∀ s2 : Shared, KeepT s.heap s2.heap → ∀ (i j : Nat) (Q : Bool → Shared → Prop), i < vs.length → j < vs.length → Q (O i j) s2 → wpAny (model prog w) A (keyLt' kd (vs.getD i .none) (vs.getD j .none)) Q (fun _ _ => False) s2)
    (tr : ∀ a b c, a < vs.length → b < vs.length → c < vs.length → O a b = true → O b c = true → O a c = true) (tot : ∀ a b, a < vs.length → b < vs.length → a ≠ b → O a b = false → O b a = true)
    (h : ∀ (q : Array Nat) (h' : Heap), Prm vs.length q → Srt O q vs.length → (∃ e, h'.get? a = some (seqObj "list" (List.toArray (q.toList.map fun i => vs.getD i .none)) e)) → (∀ b o, b ≠ a → s.heap.get? b = some o → h'.get? b = some o) → P (.done (.ret .none)) { s with heap := h' }) :
    wpAny (model prog w) A (Builtin.«list.sort» ⟨[.ref a], []⟩) P E s := by
  obtain ⟨hp, gs, dr, tk, os⟩ := s
  have al : a < hp.objs.size := Heap.lt_size ho
  have hl : vs.length ≤ sizeLine := by rw [sizeLine_eq]; omega
  rw [list_sort_plain]
  refine wpAny_bind (listItems_at ho rfl (wpAny_bind (listUpdate_at ho rfl ?_)))
  have o1 := get?_update_seq ho (fun _ => #[])
  have keep1 : ∀ b o, b ≠ a → hp.get? b = some o → (hp.update a (Obj.mapSeq fun _ => #[])).get? b = some o := fun b o hb e => (Heap.get?_update_ne _ _ _ _ hb).trans e
  generalize (if ((fun _ => #[]) vs.toArray : Array Value).size == vs.toArray.size then n else n + 1) = e1 at o1
  dsimp only at o1
  refine wpAny_bind (seqEpoch_at o1 rfl (wpAny_bind (wpAny_newTuple (wpAny_bind (wpAny_newList (wpAny_holding ?_))))))
  have o2 : (((hp.update a (Obj.mapSeq fun _ => #[])).push (seqObj "tuple" vs.toArray 0)).push (seqObj "list" #[] 0)).get? a = some (seqObj "list" #[] e1) := Heap.get?_push_of_some _ (Heap.get?_push_of_some _ o1)
  have keep2 : ∀ b o, b ≠ a → hp.get? b = some o → (((hp.update a (Obj.mapSeq fun _ => #[])).push (seqObj "tuple" vs.toArray 0)).push (seqObj "list" #[] 0)).get? b = some o := fun b o hb e => Heap.get?_push_of_some _ (Heap.get?_push_of_some _ (keep1 b o hb e))
  dsimp only
  generalize (((hp.update a (Obj.mapSeq fun _ => #[])).push (seqObj "tuple" vs.toArray 0)).push (seqObj "list" #[] 0)) = h2 at o2 keep2 ⊢
  have kt : KeepT hp h2 := fun b o e c => keep2 b o (fun z => by
    rw [z, show hp.get? a = _ from ho] at e
    cases e
    exact absurd (Value.type.inj c) (by decide)) e
  by_cases c : vs.toArray.size < 2
  · rw [if_pos c]
    refine wpAny_bind (wpAny_pure ?_)
    rw [if_pos c]
    have c1 : vs.length < 2 := by simpa using c
    have p1 := Prm.first vs.length
    have s1 : Srt O (List.toArray (List.range vs.length)) vs.length := fun a b hab hb => by omega
    have harr : (arrOf (SortSt.mk' general' (vs.toArray.zip vs.toArray) #[] 7 none)).map (·.2) = List.toArray ((List.toArray (List.range vs.length)).toList.map fun i => vs.getD i .none) := by
      match vs, c1 with
      | [], _ =>
        show Array.map (fun x => x.snd) (#[].zip #[]) = _
        simp
      | [v], _ =>
        show Array.map (fun x => x.snd) (#[v].zip #[v]) = _
        simp [List.range_succ]
      | _ :: _ :: _, z => exact absurd z (by simp)
    have hf : failedOf (SortSt.mk' general' (vs.toArray.zip vs.toArray) #[] 7 none) = none := rfl
    refine wpAny_bind (wpAny_pure ?_)
    dsimp only
    refine wpAny_bind (seqEpoch_at o2 rfl (wpAny_bind (listUpdate_at o2 rfl ?_ (Nat.zero_le _) ?_)))
    · rw [if_neg (by simp)]
      refine wpAny_pure (h (List.toArray (List.range vs.length)) _ p1 s1 ?_ fun b o hb e => (Heap.get?_update_ne _ _ _ _ hb).trans (keep2 b o hb e))
      rw [harr]
      exact ⟨_, get?_update_seq o2 _⟩
    · rw [harr]
      have : ((List.toArray (List.range vs.length)).toList.map fun i => vs.getD i Value.none).length = vs.length := by rw [List.length_map, Array.length_toList, p1.size]
      rw [List.size_toArray, this, sizeLine_eq]
      omega
  · rw [if_neg c]
    have c2 : 2 ≤ vs.length := by simp at c; omega
    refine wpAny_bind (hkk c2 ⟨h2, gs, dr, tk, os⟩ kt _ _ ?_)
    rw [if_neg c]
    obtain ⟨q, eq, q1, q2⟩ := sort_ev tr tot (show 0 < vs.length by omega)
    have run := kat_run (prog := prog) (w := w) (A := A) (E := E) (s := ⟨h2, gs, dr, tk, os⟩) (κ := kd) (vs := vs) (ks := vs) (G := fun p s' => p = q ∧ s' = ⟨h2, gs, dr, tk, os⟩)
      (Q := fun st' s' => (arrOf st').map (·.2) = List.toArray (q.toList.map fun i => vs.getD i .none) ∧ failedOf st' = none ∧ s' = ⟨h2, gs, dr, tk, os⟩) rfl c2 h64
      (fun p st' s' _ e1 e2 e3 => ⟨by rw [← e3.1]; exact kat_snds rfl e1, e2, e3.2⟩)
      (wp_ev (n := vs.length) (O := O) (fun i j C hi hj hc => hlt _ kt i j _ hi hj hc) (sort_in (by omega)) ⟨eq, rfl⟩)
    refine wpAny_bind (wpAny_mono run (fun r s' hr => ?_) fun _ _ z => z)
    obtain ⟨⟨⟩, st'⟩ := r
    obtain ⟨r1, r2, rfl⟩ := hr
    dsimp only
    refine wpAny_bind (seqEpoch_at o2 rfl (wpAny_bind (listUpdate_at o2 rfl ?_ (Nat.zero_le _) ?_)))
    · rw [r2]
      dsimp only
      rw [if_neg (by simp)]
      refine wpAny_pure (h q _ q1 q2 ?_ fun b o hb e => (Heap.get?_update_ne _ _ _ _ hb).trans (keep2 b o hb e))
      rw [r1]
      exact ⟨_, get?_update_seq o2 _⟩
    · rw [r1]
      have : (q.toList.map fun i => vs.getD i Value.none).length = vs.length := by rw [List.length_map, Array.length_toList, q1.size]
      rw [List.size_toArray, this, sizeLine_eq]
      omega
end
end NH
set_option Elab.async false
set_option linter.all false
set_option maxRecDepth 100000
set_option maxHeartbeats 4000000
namespace NH
open PySem L2 PyProof.Rows PySem.W
section
variable {prog : Program} {w : World} {A : Around} {s : Shared}
def KeyRun (prog : Program) (w : World) (A : Around) (f : Value) (kS : Addr) (vs : List Value) (J : List Value → Shared → Prop) : Prop :=
  ∀ (ks : List Value) (x : Value) (s : Shared) (n : Nat), vs[ks.length]? = some x → J ks s → s.heap.get? kS = some (seqObj "list" (List.toArray ks) n) →
    wpAny (model prog w) A (call f [x]) (fun k s' => s'.heap.get? kS = some (seqObj "list" (List.toArray ks) n) ∧
      ∀ (h' : Heap) (n' : Nat), (∀ b o, b ≠ kS → s'.heap.get? b = some o → h'.get? b = some o) → h'.get? kS = some (seqObj "list" (List.toArray (ks ++ [k])) n') → J (ks ++ [k]) { s' with heap := h' }) (fun _ _ => False) s
theorem keys_fold {kS : Addr} {vs : List Value} {J : List Value → Shared → Prop} {body : Value → PUnit → Sem (ForInStep PUnit)} {E : Value → Shared → Prop}
    (hb : ∀ (ks : List Value) (x : Value) (s : Shared) (n : Nat), vs[ks.length]? = some x → J ks s → s.heap.get? kS = some (seqObj "list" (List.toArray ks) n) →
      wpAny (model prog w) A (body x ⟨⟩) (fun r s' => r = .yield ⟨⟩ ∧ ∃ k, J (ks ++ [k]) s' ∧ ∃ n', s'.heap.get? kS = some (seqObj "list" (List.toArray (ks ++ [k])) n')) E s) :
    ∀ (r ks : List Value) (s : Shared) (n : Nat), r = vs.drop ks.length → ks.length ≤ vs.length → J ks s → s.heap.get? kS = some (seqObj "list" (List.toArray ks) n) →
      wpAny (model prog w) A (forIn r PUnit.unit body) (fun _ s' => ∃ ks', ks'.length = vs.length ∧ J ks' s' ∧ ∃ n', s'.heap.get? kS = some (seqObj "list" (List.toArray ks') n')) E s
  | [], ks, s, n, e, il, j, hk => by
    rw [List.forIn_nil]
    have : ks.length = vs.length := by
      have := congrArg List.length e
      rw [List.length_drop, List.length_nil] at this
      omega
    exact wpAny_pure ⟨ks, this, j, n, hk⟩
  | x :: r, ks, s, n, e, il, j, hk => by
    have lt : ks.length < vs.length := by
      have := congrArg List.length e
      rw [List.length_drop, List.length_cons] at this
      omega
    have ex : vs[ks.length]? = some x := by
      have := congrArg (fun l => l[0]?) e
      simp only [List.getElem?_cons_zero, List.getElem?_drop, Nat.add_zero] at this
      exact this.symm
    rw [List.forIn_cons]
    refine wpAny_bind (wpAny_mono (hb ks x s n ex j hk) (fun q s' hq => ?_) fun _ _ z => z)
    obtain ⟨rfl, k, j', n', hk'⟩ := hq
    have el : (ks ++ [k]).length = ks.length + 1 := by rw [List.length_append]; rfl
    have er : r = vs.drop (ks ++ [k]).length := by
      have := congrArg List.tail e
      rw [List.tail_cons, List.tail_drop] at this
      rw [el]
      exact this
    exact keys_fold hb r (ks ++ [k]) s' n' er (by rw [el]; exact lt) j' hk'
theorem keyed_tail {a kS : Addr} {e1 n : Nat} {ks : List Value} {out : List Value} {st : SortSt} {P : PySem.Fin → Shared → Prop} {E : Value → Shared → Prop} (ne : kS ≠ a) (ha : s.heap.get? a = some (seqObj "list" #[] e1)) (hk : s.heap.get? kS = some (seqObj "list" (List.toArray ks) n))
    (lk : ks.length ≤ sizeLine) (lo : out.length ≤ sizeLine) (ho : (arrOf st).map (·.2) = List.toArray out) (hf : failedOf st = none)
    (h : ∀ h' : Heap, (∃ e, h'.get? a = some (seqObj "list" (List.toArray out) e)) → (∃ e, h'.get? kS = some (seqObj "list" #[] e)) → (∀ b o, b ≠ a → b ≠ kS → s.heap.get? b = some o → h'.get? b = some o) → P (.done (.ret .none)) { s with heap := h' }) :
    wpAny (model prog w) A (ksk_tail a false e1 (.ref kS) st) P E s := by
  obtain ⟨hp, gs, dr, tk, os⟩ := s
  unfold ksk_tail
  dsimp only
  rw [ho, hf]
  simp only [Bool.false_eq_true, if_false]
  refine wpAny_bind (listUpdate_at hk rfl ?_ (by rw [List.size_toArray]; exact lk) (Nat.zero_le _))
  have ha1 : (hp.update kS (Obj.mapSeq fun _ => #[])).get? a = some (seqObj "list" #[] e1) := (Heap.get?_update_ne _ _ _ _ ne.symm).trans ha
  refine wpAny_bind (wpAny_letGo ?_)
  refine wpAny_bind (seqEpoch_at ha1 rfl ?_)
  refine wpAny_bind (listUpdate_at ha1 rfl ?_ (Nat.zero_le _) (Nat.le_succ_of_le lo))
  simp only [bne_self_eq_false, Bool.false_eq_true, if_false]
  exact wpAny_pure (h _ ⟨_, get?_update_seq ha1 _⟩ ⟨_, (Heap.get?_update_ne _ _ _ _ ne).trans (get?_update_seq hk _)⟩ fun b o h1 h2 e => (Heap.get?_update_ne _ _ _ _ h1).trans ((Heap.get?_update_ne _ _ _ _ h2).trans e))
structure KeyEnd (prog : Program) (w : World) (A : Around) (kd : SortKind) (O : Nat → Nat → Bool) (a kS : Addr) (e1 : Nat) (vs ks : List Value) (P : PySem.Fin → Shared → Prop) (s : Shared) : Prop where
  lst : s.heap.get? a = some (seqObj "list" #[] e1)
  kind : 2 ≤ vs.length → ∀ (E : Value → Shared → Prop) (Q : SortKind → Shared → Prop), Q kd s → wpAny (model prog w) A (keyKind' (List.toArray ks)) Q E s
  lt : ∀ (i j : Nat) (Q : Bool → Shared → Prop), i < vs.length → j < vs.length → Q (O i j) s → wpAny (model prog w) A (keyLt' kd (ks.getD i .none) (ks.getD j .none)) Q (fun _ _ => False) s
  tr : ∀ a b c, a < vs.length → b < vs.length → c < vs.length → O a b = true → O b c = true → O a c = true
  tot : ∀ a b, a < vs.length → b < vs.length → a ≠ b → O a b = false → O b a = true
  fin : ∀ (q : Array Nat) (h' : Heap), Prm vs.length q → Srt O q vs.length → (∃ e, h'.get? a = some (seqObj "list" (List.toArray (q.toList.map fun i => vs.getD i .none)) e)) → (∃ e, h'.get? kS = some (seqObj "list" #[] e)) → (∀ b o, b ≠ a → b ≠ kS → s.heap.get? b = some o → h'.get? b = some o) → P (.done (.ret .none)) { s with heap := h' }
theorem keyed_end {a kS : Addr} {e1 n : Nat} {vs ks : List Value} {kd : SortKind} {O : Nat → Nat → Bool} {P : PySem.Fin → Shared → Prop} {E : Value → Shared → Prop} (ne : kS ≠ a) (hk : s.heap.get? kS = some (seqObj "list" (List.toArray ks) n)) (kl : ks.length = vs.length) (h64 : vs.length < 64)
    (K : KeyEnd prog w A kd O a kS e1 vs ks P s) : wpAny (model prog w) A (ksk_end a false vs.toArray e1 (.ref kS) (List.toArray ks)) P E s := by
  have lk : ks.length ≤ sizeLine := by rw [sizeLine_eq]; omega
  unfold ksk_end
  dsimp only
  simp only [Bool.false_eq_true, if_false]
  by_cases c : vs.toArray.size < 2
  · have c1 : vs.length < 2 := by simpa using c
    rw [if_pos c]
    refine wpAny_bind (wpAny_pure ?_)
    rw [if_pos c]
    have p1 := Prm.first vs.length
    have s1 : Srt O (List.toArray (List.range vs.length)) vs.length := fun a b hab hb => by omega
    have harr : (arrOf (SortSt.mk' general' ((List.toArray ks).zip vs.toArray) #[] 7 none)).map (·.2) = List.toArray ((List.toArray (List.range vs.length)).toList.map fun i => vs.getD i .none) := by
      match vs, ks, kl, c1 with
      | [], [], _, _ =>
        show Array.map (fun x => x.snd) (#[].zip #[]) = _
        simp
      | [v], [k], _, _ =>
        show Array.map (fun x => x.snd) (#[k].zip #[v]) = _
        simp [List.range_succ]
      | _ :: _ :: _, _, _, z => exact absurd z (by simp)
    refine wpAny_bind (wpAny_pure ?_)
    exact keyed_tail ne K.lst hk lk (by rw [List.length_map, Array.length_toList, p1.size, sizeLine_eq]; omega) harr rfl fun h' e e' k => K.fin _ h' p1 s1 e e' k
  · have c2 : 2 ≤ vs.length := by simp at c; omega
    rw [if_neg c]
    refine wpAny_bind (K.kind c2 _ _ ?_)
    rw [if_neg c]
    obtain ⟨q, eq, q1, q2⟩ := sort_ev K.tr K.tot (show 0 < vs.length by omega)
    have run := kat_run (prog := prog) (w := w) (A := A) (E := E) (s := s) (κ := kd) (vs := vs) (ks := ks) (G := fun p s' => p = q ∧ s' = s)
      (Q := fun st' s' => (arrOf st').map (·.2) = List.toArray (q.toList.map fun i => vs.getD i .none) ∧ failedOf st' = none ∧ s' = s) kl c2 h64
      (fun p st' s' _ e1 e2 e3 => ⟨by rw [← e3.1]; exact kat_snds kl e1, e2, e3.2⟩)
      (wp_ev (n := vs.length) (O := O) (fun i j C hi hj hc => K.lt i j _ hi hj hc) (sort_in (by omega)) ⟨eq, rfl⟩)
    refine wpAny_bind (wpAny_mono run (fun r s' hr => ?_) fun _ _ z => z)
    obtain ⟨⟨⟩, st'⟩ := r
    obtain ⟨r1, r2, rfl⟩ := hr
    exact keyed_tail ne K.lst hk lk (by rw [List.length_map, Array.length_toList, q1.size, sizeLine_eq]; omega) r1 r2 fun h' e e' k => K.fin _ h' q1 q2 e e' k
theorem sort_keyed {a : Addr} {vs : List Value} {n : Nat} {f : Value} {kd : SortKind} {O : Nat → Nat → Bool} {P : PySem.Fin → Shared → Prop} {E : Value → Shared → Prop} (ho : s.heap.get? a = some (seqObj "list" vs.toArray n)) (h64 : vs.length < 64)
    (hJ : ∀ (kS : Addr) (e1 : Nat) (h2 : Heap), kS ≠ a → s.heap.get? kS = none → (∀ b o, b ≠ a → s.heap.get? b = some o → h2.get? b = some o) → h2.get? a = some (seqObj "list" #[] e1) → h2.get? kS = some (seqObj "list" #[] 0) →
      ∃ J : List Value → Shared → Prop, KeyRun prog w A f kS vs J ∧ J [] { s with heap := h2 } ∧ ∀ ks s3, ks.length = vs.length → J ks s3 → KeyEnd prog w A kd O a kS e1 vs ks P s3) :
    wpAny (model prog w) A (ksk_tree a f false) P E s := by
  obtain ⟨hp, gs, dr, tk, os⟩ := s
  have al : a < hp.objs.size := Heap.lt_size ho
  have hl : vs.length ≤ sizeLine := by rw [sizeLine_eq]; omega
  unfold ksk_tree
  refine wpAny_bind (listItems_at ho rfl (wpAny_bind (listUpdate_at ho rfl ?_)))
  have o1 := get?_update_seq ho (fun _ => #[])
  have keep1 : ∀ b o, b ≠ a → hp.get? b = some o → (hp.update a (Obj.mapSeq fun _ => #[])).get? b = some o := fun b o hb e => (Heap.get?_update_ne _ _ _ _ hb).trans e
  generalize (if ((fun _ => #[]) vs.toArray : Array Value).size == vs.toArray.size then n else n + 1) = e1 at o1
  have sz1 : (hp.update a (Obj.mapSeq fun _ => (#[] : Array Value))).objs.size = hp.objs.size := Heap.size_update ..
  dsimp only at o1
  refine wpAny_bind (seqEpoch_at o1 rfl (wpAny_bind (wpAny_newTuple (wpAny_bind (wpAny_newList (wpAny_holding ?_))))))
  have o2 : (((hp.update a (Obj.mapSeq fun _ => #[])).push (seqObj "tuple" vs.toArray 0)).push (seqObj "list" #[] 0)).get? a = some (seqObj "list" #[] e1) := Heap.get?_push_of_some _ (Heap.get?_push_of_some _ o1)
  have keep2 : ∀ b o, b ≠ a → hp.get? b = some o → (((hp.update a (Obj.mapSeq fun _ => #[])).push (seqObj "tuple" vs.toArray 0)).push (seqObj "list" #[] 0)).get? b = some o := fun b o hb e => Heap.get?_push_of_some _ (Heap.get?_push_of_some _ (keep1 b o hb e))
  have szk : ((hp.update a (Obj.mapSeq fun _ => (#[] : Array Value))).push (seqObj "tuple" vs.toArray 0)).objs.size = hp.objs.size + 1 := by rw [Heap.size_push, sz1]
  have ok : (((hp.update a (Obj.mapSeq fun _ => #[])).push (seqObj "tuple" vs.toArray 0)).push (seqObj "list" #[] 0)).get? ((hp.update a (Obj.mapSeq fun _ => #[])).push (seqObj "tuple" vs.toArray 0)).objs.size = some (seqObj "list" #[] 0) := Heap.get?_push_size _ rfl
  dsimp only
  have nka0 : ((hp.update a (Obj.mapSeq fun _ => (#[] : Array Value))).push (seqObj "tuple" vs.toArray 0)).objs.size ≠ a := by rw [szk]; exact Nat.ne_of_gt (Nat.lt_succ_of_lt al)
  have nk0 : hp.get? ((hp.update a (Obj.mapSeq fun _ => (#[] : Array Value))).push (seqObj "tuple" vs.toArray 0)).objs.size = none := Heap.get?_none_of_le (by rw [szk]; exact Nat.le_succ _)
  obtain ⟨J, R, j0, fin⟩ := hJ _ e1 _ nka0 nk0 keep2 o2 ok
  generalize ((hp.update a (Obj.mapSeq fun _ => (#[] : Array Value))).push (seqObj "tuple" vs.toArray 0)).objs.size = kS at ok j0 R fin nka0 ⊢
  generalize (((hp.update a (Obj.mapSeq fun _ => #[])).push (seqObj "tuple" vs.toArray 0)).push (seqObj "list" #[] 0)) = h2 at o2 keep2 ok j0 ⊢
  unfold ksk_rest
  refine wpAny_bind (wpAny_rule ?_)
  rw [← Array.forIn_toList]
  refine wpAny_bind (wpAny_mono (keys_fold (vs := vs) (J := J) (kS := kS) (E := E) (fun ks x s' n' ex j hk' => ?_) vs [] ⟨h2, gs, dr, tk, os⟩ 0 rfl (Nat.zero_le _) j0 ok) (fun _ s' hd => ?_) fun _ _ z => z)
  · have il := (List.getElem?_eq_some_iff.mp ex).1
    refine wpAny_bind (wpAny_attempt (wpAny_mono (R ks x s' n' ex j hk') (fun k s'' q => ?_) fun _ _ z => z.elim))
    obtain ⟨hk2, nxt⟩ := q
    have ea : (List.toArray ks).push k = List.toArray (ks ++ [k]) := by simp
    have o3 := get?_update_seq hk2 (·.push k)
    rw [ea] at o3
    dsimp only
    refine wpAny_bind (listUpdate_at hk2 rfl ?_ (by rw [List.size_toArray, sizeLine_eq]; omega) (Nat.le_trans (Nat.le_of_eq (Array.size_push ..)) (by rw [List.size_toArray, sizeLine_eq]; omega)))
    exact wpAny_pure ⟨rfl, k, nxt _ _ (fun b o hb e => (Heap.get?_update_ne _ _ _ _ hb).trans e) o3, _, o3⟩
  · obtain ⟨ks, kl, jl, n', hk'⟩ := hd
    refine wpAny_bind (listItems_at hk' rfl ?_)
    exact keyed_end nka0 hk' kl h64 (fin ks s' kl jl)
end
end NH
set_option Elab.async false
set_option linter.all false
set_option maxRecDepth 100000
set_option maxHeartbeats 1000000
set_option Elab.async false
set_option linter.all false
set_option maxRecDepth 100000
set_option maxHeartbeats 1000000
set_option Elab.async false
set_option linter.all false
set_option maxRecDepth 100000
set_option maxHeartbeats 1000000
set_option Elab.async false
set_option linter.all false
set_option maxRecDepth 100000
set_option maxHeartbeats 4000000
set_option Elab.async false
set_option linter.all false
set_option maxRecDepth 100000
set_option maxHeartbeats 1000000
set_option Elab.async false
set_option linter.all false
set_option maxRecDepth 100000
set_option maxHeartbeats 1000000
namespace L2
open PySem PySem.Spec PyProof.Rows
structure BltMod (h : Heap) (mg : Str → Option Value) : Prop where
  ex : ∃ bm ob, mg "__builtins__" = some (.ref bm) ∧ bm ≠ builtinsNs ∧ h.get? bm = some ob ∧ ob.cls = .type "module" ∧ ob.dict = some builtinsNs ∧ ob.data = .plain
def OnlyT (tabs : List (Addr × Addr)) (H : Hp) : Prop := ∀ b, H b = none ∨ (∃ o xs, H b = some (.frz o (.lst xs))) ∨ (b ∈ tabs.map (·.2) ∧ H b = some (.tbl #[]))
theorem law_callT {P : Program} {w : World} {K : PySem.W.Frag} {mg mb : Str → Option Value} {CX : CXT} {k : Nat} {fa a : Addr} {fd : FuncData} {x : Str} {sp : Sp} {s₁ : Shared} {vs : List Value} {ns : List Int} {tabs : List (Addr × Addr)}
    (KX : K.In s₁.heap) (hns : s₁.heap.Ns mainGlobals mg) (hb : s₁.heap.Ns builtinsNs mb) (hbb : ∀ x : Str, x ≠ "__name__" → mb x = bootBuiltins x) (hlim : s₁.heap.NoLimit) (hg : s₁.gens = #[])
    (ha : s₁.heap.get? a = some { cls := .type "list", data := .seq vs.toArray }) (hi : IntsAre vs ns) (hl : ns.length ≤ sizeLine) (hr : Room k callerA)
    (hT : PySem.W.TabsAt tabs s₁.heap) (hbm : BltMod s₁.heap mg) (hnt : PySem.W.noTabs K = true)
    (F : ∀ base : Heap, K.In base → base.Ns mainGlobals mg → (∀ q ∈ tabs, PySem.W.CodeHd base q.1 q.2) → BltMod base mg → FnOk P w K mg base CX k fa fd [x] sp) (hbind : ∀ (s : Shared) (u : Value), BindsTo s fd ⟨[u], []⟩ [(x, u)])
    (hsp : ∀ H : Hp, OnlyT tabs H → (∀ q ∈ tabs, H q.2 = some (.tbl #[])) → SqL K H a (ns.map V.int) → sp [.ref a] H (fun v _ => v = .bl true) fun _ _ _ => False)
    (hCX : ∀ H e s', CX [] H s₁ (fun _ _ _ => False) e s' → False) :
    codeAny (model P w) callerA (.call (.ref fa) ⟨[.ref a], []⟩) (fun r s' => r = .ok (.ret (.bool true)) ∧ OldK s₁.heap s'.heap ∧ s'.os = s₁.os ∧ AllBare s'.gens) s₁ := by
  have rv := vals_ints hi
  have lenV := hi.length
  have tabO : ∀ b ∈ tabs.map (·.2), s₁.heap.get? b = some (PySem.W.tabObj #[]) := fun b hb => by
    obtain ⟨q, hq, rfl⟩ := List.mem_map.mp hb
    exact (hT q hq).2
  have aT : a ∉ tabs.map (·.2) := fun z => by
    have := tabO a z
    rw [ha] at this
    cases this
  have core : ∀ H : Hp, OnlyT tabs H → (∀ q ∈ tabs, H q.2 = some (.tbl #[])) → SqL K H a (ns.map V.int) → HOk P w H s₁.heap → (∀ b, H b ≠ none → b = a ∨ b ∈ tabs.map (·.2)) → (H a ≠ none → K.lookup a = none) →
      codeAny (model P w) callerA (.call (.ref fa) ⟨[.ref a], []⟩) (fun r s' => r = .ok (.ret (.bool true)) ∧ OldK s₁.heap s'.heap ∧ s'.os = s₁.os ∧ AllBare s'.gens) s₁ := by
    intro H hO hTb hS hok hA hK
    have base_of : ∀ {b : Addr} {o : Obj}, s₁.heap.get? b = some o → H b = none → (hidT s₁.heap H).get? b = some o := fun e n => hidT_get e n
    have noA : ∀ {b : Addr} {o : Obj} {es : Array DictEntry} {ep : Nat}, s₁.heap.get? b = some o → o.data = .dict es ep → H b = none := fun {b o es ep} e d => by
      cases q : H b with
      | none => rfl
      | some u =>
        rcases hA b (by rw [q]; simp) with e' | e'
        · subst e'
          rw [ha] at e; cases e
          have d' : Data.seq vs.toArray _ = Data.dict es ep := d
          cases d'
        · rw [tabO b e'] at e; cases e
          have d' : Data.fields _ = Data.dict es ep := d
          cases d'
    have nsK : ∀ {b : Addr} {m : Str → Option Value}, s₁.heap.Ns b m → (hidT s₁.heap H).Ns b m := fun {b m} ⟨o, es, ep, e, d, r⟩ => ⟨o, es, ep, base_of e (noA e d), d, r⟩
    have hKb : K.In (hidT s₁.heap H) := fun b o e => base_of (KX b o e) (by
      cases q : H b with
      | none => rfl
      | some u =>
        rcases hA b (by rw [q]; simp) with e' | e'
        · subst e'
          rw [hK (by rw [q]; simp)] at e; cases e
        · have z := KX b o e
          rw [tabO b e'] at z
          cases z
          have h2 := List.all_eq_true.mp hnt (b, _) (PySem.W.mem_of_lookupK e)
          exact absurd (show false = true from h2) Bool.false_ne_true)
    have hCd : ∀ q ∈ tabs, PySem.W.CodeHd (hidT s₁.heap H) q.1 q.2 := fun q hq => by
      obtain ⟨o, vs', file, tf, flags, tg, inF, text, tt, e1, r1, r⟩ := (hT q hq).1
      refine ⟨o, vs', file, tf, flags, tg, inF, text, tt, base_of e1 ?_, r1, r⟩
      cases z : H q.1 with
      | none => rfl
      | some u =>
        rcases hA q.1 (by rw [z]; simp) with e' | e'
        · rw [e', ha] at e1
          cases e1
          injection (show (Value.type "list") = .type "code" from r1) with z1
          exact absurd z1 (by decide)
        · rw [tabO _ e'] at e1
          cases e1
          cases r1
    have hB : BltMod (hidT s₁.heap H) mg := by
      obtain ⟨bm, ob, b1, b2, b3, b4, b5, b6⟩ := hbm.ex
      refine ⟨bm, ob, b1, b2, base_of b3 ?_, b4, b5, b6⟩
      cases z : H bm with
      | none => rfl
      | some u =>
        rcases hA bm (by rw [z]; simp) with e' | e'
        · rw [e', ha] at b3
          cases b3
          cases b6
        · rw [tabO _ e'] at b3
          cases b3
          cases b6
    have hM : Mod K mg (hidT s₁.heap H) := ⟨hKb, nsK hns, ⟨mb, nsK hb, hbb⟩, let ⟨mc, h1, h2⟩ := hlim; ⟨mc, nsK h1, h2⟩⟩
    have e0 : Env0 P w K mg (hidT s₁.heap H) callerA [] s₁ H := ⟨rfl, hM, fun b o e => of_hidT e, Nat.le_of_eq (hidT_size _ _), trivial, fun b hb => absurd (show b ∈ ([] : List Addr) from hb) (by simp), hok, .of_eq hg⟩
    refine codeAny_mono ((F _ hKb (nsK hns) hCd hB).run callerA [] s₁ H ⟨[.ref a], []⟩ [.ref a] [.ref a] _ _ hr e0 (hbind s₁ (.ref a)) (.cons rfl .nil) (hsp H hO hTb hS)) fun r s' h => ?_
    cases r with
    | error e => exact (hCX H e s' h).elim
    | ok fl =>
      cases fl with
      | next => exact False.elim h
      | brk => exact False.elim h
      | cont => exact False.elim h
      | ret u =>
        obtain ⟨v, H', os, bare, un, hok', r', q⟩ := h
        have q' : v = .bl true := q
        subst q'
        obtain rfl : u = Value.bool true := r'
        have each : ∀ b o, s₁.heap.get? b = some o → s'.heap.get? b = some o ∨ (b ∈ tabs.map (·.2) ∧ o = PySem.W.tabObj #[] ∧ ∃ more, s'.heap.get? b = some (PySem.W.tabObj more)) := fun b o e => by
          cases q : H b with
          | none => exact .inl (un.keep b o e q (by intro z; exact absurd (show b ∈ ([] : List Addr) from z) (by simp)) (by simp))
          | some u =>
            rcases hO b with z | ⟨ob, xs, z⟩ | ⟨m, z⟩
            · rw [q] at z; cases z
            · have z2 := un.frzs b ob _ z
              obtain ⟨e1, _⟩ := hok b _ z
              obtain ⟨e2, _⟩ := hok' b _ z2
              rw [e] at e1; cases e1
              exact .inl e2
            · obtain ⟨more, z2⟩ := un.tbls b _ z
              have e2 : s'.heap.get? b = some _ := hok' b _ z2
              rw [tabO b m] at e
              cases e
              exact .inr ⟨m, rfl, _, e2⟩
        refine ⟨rfl, ⟨fun b o e => ?_, fun b o e => ?_⟩, os, bare⟩
        · rcases each b o e with h | ⟨m, rfl, more, h⟩
          · exact .inl h
          · obtain ⟨q, hq, rfl⟩ := List.mem_map.mp m
            refine .inr (.inl ⟨((hT q hq).1.tab (hT q hq).2).isCodeTable, rfl, #[], more, rfl, ?_⟩)
            rw [h]
            simp
        · rcases each b o e with h | ⟨m, rfl, more, h⟩
          · exact ⟨_, h⟩
          · exact ⟨_, h⟩
  have pick : ∀ b, (if b ∈ tabs.map (·.2) then some (HO.tbl #[]) else none) ≠ none → b ∈ tabs.map (·.2) := fun b z => by
    by_cases hb : b ∈ tabs.map (·.2)
    · exact hb
    · rw [if_neg hb] at z; exact absurd rfl z
  cases hk : K.lookup a with
  | some o =>
    have e := KX a o hk
    rw [ha] at e
    cases e
    refine core (fun b => if b ∈ tabs.map (·.2) then some (.tbl #[]) else none) (fun b => ?_) (fun q hq => if_pos (List.mem_map_of_mem hq)) (.inr ⟨_, vs.toArray, _, hk, rfl, rfl, rfl, by rw [List.size_toArray, lenV]; exact hl, by simpa using rv⟩) (fun b u z => ?_) (fun b z => .inr (pick b z)) fun z => absurd (if_neg aT) z
    · by_cases hb : b ∈ tabs.map (·.2)
      · exact .inr (.inr ⟨hb, if_pos hb⟩)
      · exact .inl (if_neg hb)
    · by_cases hb : b ∈ tabs.map (·.2)
      · have z' := (if_pos hb).symm.trans z
        cases z'
        exact tabO b hb
      · have z' := (if_neg hb).symm.trans z
        cases z'
  | none =>
    refine core (fun b => if b = a then some (.frz { cls := .type "list", data := .seq vs.toArray } (.lst (ns.map V.int))) else if b ∈ tabs.map (·.2) then some (.tbl #[]) else none) (fun b => ?_) (fun q hq => ?_) (.inl (.inr ⟨{ cls := .type "list", data := .seq vs.toArray }, if_pos rfl⟩)) (fun b u z => ?_) (fun b z => ?_) fun _ => hk
    · by_cases hb : b = a
      · exact .inr (.inl ⟨_, _, if_pos hb⟩)
      · by_cases hb2 : b ∈ tabs.map (·.2)
        · exact .inr (.inr ⟨hb2, (if_neg hb).trans (if_pos hb2)⟩)
        · exact .inl ((if_neg hb).trans (if_neg hb2))
    · have hm := List.mem_map_of_mem (f := (·.2)) hq
      show (if q.2 = a then _ else if q.2 ∈ tabs.map (·.2) then _ else _) = _
      rw [if_neg (show ¬ q.2 = a from fun z => aT (z ▸ hm)), if_pos hm]
    · by_cases hb : b = a
      · have z' := (if_pos hb).symm.trans z
        cases z'
        subst hb
        exact ⟨ha, by rw [List.length_map]; exact hl, vs, _, rv, ha⟩
      · have z1 := (if_neg hb).symm.trans z
        by_cases hb2 : b ∈ tabs.map (·.2)
        · have z' := (if_pos hb2).symm.trans z1
          cases z'
          exact tabO b hb2
        · have z' := (if_neg hb2).symm.trans z1
          cases z'
    · by_cases hb : b = a
      · exact .inl hb
      · by_cases hb2 : b ∈ tabs.map (·.2)
        · exact .inr hb2
        · exact absurd ((if_neg hb).trans (if_neg hb2)) z
theorem walk_ofT {l : PySem.W.OpenLaw} {n k : Nat} {q : Program} {loose : List Str} {XP : (Str → Option Value) → Heap → Prop} {YP : World → Heap → Prop} {d : DefRec} {K : Params → PySem.W.Frag} {CX : World → CXT} {sp : World → List (Addr × Addr) → Sp} {x : Str} {xs : List Str} {tabs : Params → List (Addr × Addr)}
    (hn : l.most = some n) (hn2 : n ≤ sizeLine) (hdf : d.params.defaults = []) (hr : Room k callerA)
    (hY : ∀ (w : World) (h : Heap), YP w h → (K w.params).In h)
    (hx : ∀ y ∈ xs, ∃ d', (recsOf q).find? (fun e => e.name == y) = some d')
    (ht : ∀ p, ∀ t ∈ tabs p, ∃ y ∈ xs, PySem.W.tabIn (K p) y = some t) (hnt : ∀ p, PySem.W.noTabs (K p) = true)
    (F : ∀ (w : World) (mg : Str → Option Value) (fa : Addr) (h : Heap), (K w.params).In h → h.Ns mainGlobals mg → mg d.name = some (.ref fa) →
      ∃ fd : FuncData, (∀ (s : Shared) (u : Value), BindsTo s fd ⟨[u], []⟩ [(x, u)]) ∧
        ∀ base : Heap, (K w.params).In base → base.Ns mainGlobals mg → (∀ t ∈ tabs w.params, PySem.W.CodeHd base t.1 t.2) → BltMod base mg → FnOk l.prog w (K w.params) mg base (CX w) k fa fd [x] (sp w (tabs w.params)))
    (hsp : ∀ (w : World) (H : Hp) (a : Addr) (ns : List Int), ns.length ≤ n → OnlyT (tabs w.params) H → (∀ t ∈ tabs w.params, H t.2 = some (.tbl #[])) → SqL (K w.params) H a (ns.map V.int) → sp w (tabs w.params) [.ref a] H (fun v _ => v = .bl true) fun _ _ _ => False)
    (hCX : ∀ (w : World) (H : Hp) (s : Shared) (e : Value) (s' : Shared), CX w [] H s (fun _ _ _ => False) e s' → False) :
    PySem.W.WalkO q loose XP YP l.row.toRowW d [] (fun f vs => PySem.call f vs) := by
  refine Att.attach_call hn hdf fun w s₀ s₁ mg mb fa o pm cd doc a vs ns G Y ho hd hcd hmg hobj hints hlen hg => ?_
  have KX := hY w _ Y
  obtain ⟨fd, hb, hF⟩ := F w mg fa _ KX G.T.g hmg
  have hT : PySem.W.TabsAt (tabs w.params) s₁.heap := fun t mt => by
    obtain ⟨y, my, ey⟩ := ht w.params t mt
    obtain ⟨d', ed⟩ := hx y my
    exact PySem.W.tab_of G.T KX ed ey
  exact law_callT KX G.T.g G.T.b G.T.builtins G.T.nolimit hg hobj hints (Nat.le_trans hlen hn2) hr hT ⟨G.T.bmain⟩ (hnt _) hF hb (fun H hO hTb hS => hsp w H a ns hlen hO hTb hS) fun H e s' => hCX w H s₁ e s'
end L2
set_option Elab.async false
set_option linter.all false
set_option maxRecDepth 100000
set_option maxHeartbeats 1000000
namespace L2
open PySem PySem.Spec PyProof.Rows
section
variable {prog : Program} {w : World} {A : Around}
abbrev genE (elt tg iter : Expr) (scope : Scope) (pos : Pos) : Expr := .GeneratorExp elt [⟨tg, iter, [], 0⟩] scope pos
abbrev genL (elt tg iter : Expr) (scope : Scope) (pos : Pos) (I : Addr) (cenv : Env) : Code := .compLoop (genE elt tg iter scope pos) 0 (.ref I) .none cenv
abbrev genS (elt tg iter : Expr) (scope : Scope) (pos : Pos) (I : Addr) (cenv : Env) : Code := .compStart (genE elt tg iter scope pos) 0 (.ref I) .none cenv
def GenTurn (prog : Program) (w : World) (A' : Around) (elt tg : Expr) (I : Addr) (cenv : Env) (J : Nat → Nat → Shared → Prop) (Yl : Nat → Nat → Value → Shared → Prop) (Dn : Shared → Prop) : Prop :=
  ∀ i m s, J i m s → wpAny (model prog w) A' (pyNext (.ref I)) (fun r s1 => match r with
    | none => Dn s1
    | some v => wpAny (model prog w) A' (letOwnedTupleGo tg (.ref I) v) (fun _ s2 => wpAny (model prog w) A' (assign tg cenv v) (fun _ s3 => wpAny (model prog w) A' (eval elt cenv) (fun y s4 => ∃ m', m' < m ∧ Yl i m' y s4) (fun _ _ => False) s3) (fun _ _ => False) s2) (fun _ _ => False) s1) (fun _ _ => False) s
abbrev genR (Dn : Shared → Prop) : GenEnd := fun _ _ r s₁ => r = .ok .next ∧ Dn s₁
abbrev genY (Yl : Nat → Nat → Value → Shared → Prop) (Rl : Value → Shared → Shared → Prop) : Protocol := fun n _ v s kap => ∃ i m, m ≤ n ∧ Yl i m v s ∧ ∀ s', Rl v s s' → kap (.send .none) s'
theorem yields {cenv : Env} (hco : cenv.scope.isCoroutine = false) : yieldOut cenv = yieldValue := by
  funext v
  simp [yieldOut, hco]
theorem seg_genI {elt tg iter : Expr} {scope : Scope} {pos : Pos} {I : Addr} {cenv : Env} {J : Nat → Nat → Shared → Prop} {Yl : Nat → Nat → Value → Shared → Prop} {Dn : Shared → Prop} {Rl : Value → Shared → Shared → Prop}
    (hco : cenv.scope.isCoroutine = false) (go : GenTurn prog w (A.over (genL elt tg iter scope pos I cenv) []) elt tg I cenv J Yl Dn) (re : ∀ i m y s s', Yl i m y s → Rl y s s' → J (i + 1) m s') :
    ∀ (m n i : Nat) (s₀ s : Shared), m ≤ n → J i m s → Seg (model prog w) A (genR Dn) (genY Yl Rl) n s₀ (genL elt tg iter scope pos I cenv) ((model prog w).den (genL elt tg iter scope pos I cenv)) [] s := by
  intro m
  induction m using Nat.strongRecOn with
  | _ m ih =>
    intro n i s₀ s hmn hj
    have turn := go i m s hj
    have den : (model prog w).den (genL elt tg iter scope pos I cenv) = (compTurn (genE elt tg iter scope pos) 0 (.ref I) .none cenv).onRaise (leaving cenv) := rfl
    rw [den, Sem.onRaise_eq_wrap, compTurn_gen]
    refine seg_bind_wrap (wpAny_standAt (seg_bind_wrap (wpAny_mono turn (fun r s1 h1 => ?_) fun _ _ e => e.elim)))
    cases r with
    | none => exact seg_end (.ok .next) ⟨rfl, h1⟩
    | some v =>
      refine seg_bind_wrap (wpAny_mono h1 (fun _ s2 h2 => seg_bind_wrap (wpAny_mono h2 (fun _ s3 h3 => seg_bind_wrap (wpAny_pure ?_)) fun _ _ e => e.elim)) fun _ _ e => e.elim)
      simp only [if_true, yields hco, Sem.bind_eq_wrap', Sem.wrap_wrap]
      refine seg_wrap (wpAny_mono h3 (fun y s4 ⟨m', lt, hy⟩ => ?_) fun _ _ e => e.elim)
      cases n with
      | zero => omega
      | succ n => exact seg_at (seg_yield rfl rfl rfl ⟨i, m', by omega, hy, fun s' hr => seg_again rfl (ih m' lt n (i + 1) s' s' (by omega) (re i m' y s4 s' hy hr))⟩)
theorem seg_startI {elt tg iter : Expr} {scope : Scope} {pos : Pos} {I : Addr} {cenv : Env} {J : Nat → Nat → Shared → Prop} {Yl : Nat → Nat → Value → Shared → Prop} {Dn : Shared → Prop} {Rl : Value → Shared → Shared → Prop}
    (hco : cenv.scope.isCoroutine = false) (go : GenTurn prog w (A.over (genL elt tg iter scope pos I cenv) []) elt tg I cenv J Yl Dn) (re : ∀ i m y s s', Yl i m y s → Rl y s s' → J (i + 1) m s')
    {m n : Nat} {s₀ s : Shared} (hmn : m ≤ n) (hj : J 0 m s) (self : ∀ (A' : Around) (Q : Value → Shared → Prop) (E : Value → Shared → Prop), Q (.ref I) s → wpAny (model prog w) A' (pyIter (.ref I)) Q E s) :
    Seg (model prog w) A (genR Dn) (genY Yl Rl) n s₀ (genS elt tg iter scope pos I cenv) ((model prog w).den (genS elt tg iter scope pos I cenv)) [] s := by
  have loop := seg_genI (A := A) hco go re m n 0 s₀ s hmn hj
  have den : (model prog w).den (genS elt tg iter scope pos I cenv) = (compStart (genE elt tg iter scope pos) 0 (.ref I) .none cenv).onRaise (leaving cenv) := rfl
  rw [den, Sem.onRaise_eq_wrap]
  unfold compStart
  refine seg_bind_wrap (m := ask) (wpAny_askSetting ?_)
  split
  · exact seg_again rfl loop
  · refine seg_bind_wrap (wpAny_rule ?_)
    exact seg_bind_wrap (m := standAt iter.pos) (wpAny_standAt (seg_bind_wrap (self _ _ _ (seg_again rfl loop))))
structure GenIAt (prog : Program) (w : World) (A : Around) (Yl : Nat → Nat → Value → Shared → Prop) (Dn : Shared → Prop) (Rl : Value → Shared → Shared → Prop) (a : Addr) (g n : Nat) (s : Shared) : Prop where
  gen : s.heap.IsGen a g
  st : ∃ gs, s.gens[g]? = some gs ∧ gs.Goes (model prog w) A.in1 (genR Dn) (genY Yl Rl) n (.send .none) (s.setGen g .running)
theorem next_genI {Yl : Nat → Nat → Value → Shared → Prop} {Dn : Shared → Prop} {Rl : Value → Shared → Shared → Prop} {a : Addr} {g n : Nat} {s : Shared} {Q : Option Value → Shared → Prop} {E : Value → Shared → Prop}
    (hh : A.handled = none) (hl : s.heap.NoLimit) (hroom : A.depth < recursionLimit) (h : GenIAt prog w A Yl Dn Rl a g n s)
    (hY : ∀ v s₁ gs' i m, gs'.bare = true → m ≤ n - 1 → Yl i m v s₁ → (∀ s', Rl v s₁ s' → ∃ n', n = n' + 1 ∧ gs'.Goes (model prog w) A.in1 (genR Dn) (genY Yl Rl) n' (.send .none) s') → Q (some v) (s₁.setGen g gs'))
    (hD : ∀ s₁ h', Dn s₁ → (∀ b o, s₁.heap.get? b = some o → h'.get? b = some o) → Q none { s₁.setGen g .finished with heap := h' }) :
    wpAny (model prog w) A (pyNext (.ref a)) Q E s := by
  obtain ⟨gs, hgs, hgo⟩ := h.st
  refine wpAny_pyNext_genexpQ (P := fun _ _ s₁ => Dn s₁) hh hl hroom h.gen hgs hgo (fun v s₁ gs' hb hv => ?_) (fun s₁ hp h' hk => hD s₁ h' hp hk)
  obtain ⟨i, m, hm, hy, hkap⟩ := hv
  refine hY v s₁ gs' i m hb hm hy fun s' hr => ?_
  have := hkap s' hr
  cases n with
  | zero => exact this.elim
  | succ n' => exact ⟨n', rfl, this⟩
end
end L2
set_option Elab.async false
set_option linter.all false
set_option maxRecDepth 100000
set_option maxHeartbeats 1000000
namespace L2
open PySem PySem.Spec PyProof.Rows
section
variable {prog : Program} {w : World} {A : Around} {Yl : Nat → Nat → Value → Shared → Prop} {Dn : Shared → Prop} {Rl : Value → Shared → Shared → Prop} {a : Addr} {g : Nat} {R : Result → Shared → Prop}
structure GenUse (st : Bool) (Yl : Nat → Nat → Value → Shared → Prop) (Rl : Value → Shared → Shared → Prop) (a : Addr) (g : Nat) : Prop where
  bool : ∀ i m v s, Yl i m v s → ∃ b, v = .bool b
  gen : ∀ i m v s, Yl i m v s → s.heap.IsGen a g ∧ s.heap.NoLimit ∧ g < s.gens.size
  back : ∀ i m s gs', Yl i m (.bool (!st)) s → gs'.bare = true → Rl (.bool (!st)) s ((s.setGen g gs').setGen g .running)
theorem setGen_at {s : Shared} {g : Nat} {x : GenState} (h : g < s.gens.size) : (s.setGen g x).gens[g]? = some x := by
  simp [Shared.setGen, h]
theorem GenUse.on {st : Bool} (U : GenUse st Yl Rl a g) {i m n : Nat} {s₁ : Shared} {gs' : GenState} (hy : Yl i m (.bool (!st)) s₁) (hb : gs'.bare = true)
    (k : ∀ s', Rl (.bool (!st)) s₁ s' → ∃ n', n = n' + 1 ∧ gs'.Goes (model prog w) A.in1 (genR Dn) (genY Yl Rl) n' (.send .none) s') : ∃ n', n = n' + 1 ∧ (s₁.setGen g gs').heap.NoLimit ∧ GenIAt prog w A Yl Dn Rl a g n' (s₁.setGen g gs') := by
  obtain ⟨h1, h2, h3⟩ := U.gen i m _ s₁ hy
  obtain ⟨n', e, h⟩ := k _ (U.back i m s₁ gs' hy hb)
  exact ⟨n', e, h2, h1, gs', setGen_at h3, h⟩
theorem any_loopI (U : GenUse true Yl Rl a g) (hh : A.handled = none) (hroom : A.in1.depth < recursionLimit)
    (hT : ∀ i m s gs', Yl i m (.bool true) s → gs'.bare = true → R (.ok (.ret (.bool true))) (s.setGen g gs'))
    (hF : ∀ s₁ h', Dn s₁ → (∀ b o, s₁.heap.get? b = some o → h'.get? b = some o) → R (.ok (.ret (.bool false))) { s₁.setGen g .finished with heap := h' })
    (n : Nat) : ∀ s : Shared, s.heap.NoLimit → GenIAt prog w A.in1 Yl Dn Rl a g n s → codeAny (model prog w) A (.builtin "any.loop" ⟨[.ref a], []⟩) R s := by
  induction n using Nat.strongRecOn with
  | _ n ih =>
    intro s hl h
    refine codeAny_builtin F.entry_any_loop (by
      rw [Around.under_plainId F.plain_any_loop]
      refine wpAny_bind (next_genI hh hl hroom h (fun v s₁ gs' i m hb hm hy k => ?_) fun s₁ h' hd hk => ?_)
      · obtain ⟨b, rfl⟩ := U.bool i m v s₁ hy
        cases b with
        | false =>
          wp_walk using wpAny_truthy_bool
          obtain ⟨n', rfl, hl', h'⟩ := U.on hy hb k
          exact ⟨plainId_quiet F.plain_any_loop _, ih n' (Nat.lt_succ_self _) _ hl' h'⟩
        | true =>
          wp_walk using wpAny_truthy_bool
          exact hT i m s₁ gs' hy hb
      · wp_walk
        exact hF s₁ h' hd hk)
theorem call_anyI {n : Nat} {s : Shared} {E : Value → Shared → Prop} {Q : Value → Shared → Prop} (U : GenUse true Yl Rl a g) (hh : A.handled = none) (hroom : A.in1.depth < recursionLimit) (hl : s.heap.NoLimit) (h : GenIAt prog w A.in1 Yl Dn Rl a g n s)
    (hT : ∀ i m s gs', Yl i m (.bool true) s → gs'.bare = true → Q (.bool true) (s.setGen g gs'))
    (hF : ∀ s₁ h', Dn s₁ → (∀ b o, s₁.heap.get? b = some o → h'.get? b = some o) → Q (.bool false) { s₁.setGen g .finished with heap := h' }) :
    wpAny (model prog w) A (call (.builtin "any") [.ref a]) Q E s := by
  have loop := any_loopI (A := A) (R := fun r s' => match r with | .ok (.ret v) => Q v s' | .ok _ => False | .error e => E e s') U hh hroom hT hF n s hl h
  exact call_function_tree F.kind_any F.plain_any F.entry_any (F.args_any1 _) (wpAny_bind (m := oneArg "any" _) (wpAny_pure (wpAny_bind (wpAny_pyIter_gen h.gen (wpAny_pure ⟨plainId_quiet F.plain_any_loop _, loop⟩)))))
theorem all_loopI (U : GenUse false Yl Rl a g) (hh : A.handled = none) (hroom : A.in1.depth < recursionLimit)
    (hT : ∀ i m s gs', Yl i m (.bool false) s → gs'.bare = true → R (.ok (.ret (.bool false))) (s.setGen g gs'))
    (hF : ∀ s₁ h', Dn s₁ → (∀ b o, s₁.heap.get? b = some o → h'.get? b = some o) → R (.ok (.ret (.bool true))) { s₁.setGen g .finished with heap := h' })
    (n : Nat) : ∀ s : Shared, s.heap.NoLimit → GenIAt prog w A.in1 Yl Dn Rl a g n s → codeAny (model prog w) A (.builtin "all.loop" ⟨[.ref a], []⟩) R s := by
  induction n using Nat.strongRecOn with
  | _ n ih =>
    intro s hl h
    refine codeAny_builtin F.entry_all_loop (by
      rw [Around.under_plainId F.plain_all_loop]
      refine wpAny_bind (next_genI hh hl hroom h (fun v s₁ gs' i m hb hm hy k => ?_) fun s₁ h' hd hk => ?_)
      · obtain ⟨b, rfl⟩ := U.bool i m v s₁ hy
        cases b with
        | true =>
          wp_walk using wpAny_truthy_bool
          obtain ⟨n', rfl, hl', h'⟩ := U.on hy hb k
          exact ⟨plainId_quiet F.plain_all_loop _, ih n' (Nat.lt_succ_self _) _ hl' h'⟩
        | false =>
          wp_walk using wpAny_truthy_bool
          exact hT i m s₁ gs' hy hb
      · wp_walk
        exact hF s₁ h' hd hk)
theorem call_allI {n : Nat} {s : Shared} {E : Value → Shared → Prop} {Q : Value → Shared → Prop} (U : GenUse false Yl Rl a g) (hh : A.handled = none) (hroom : A.in1.depth < recursionLimit) (hl : s.heap.NoLimit) (h : GenIAt prog w A.in1 Yl Dn Rl a g n s)
    (hT : ∀ i m s gs', Yl i m (.bool false) s → gs'.bare = true → Q (.bool false) (s.setGen g gs'))
    (hF : ∀ s₁ h', Dn s₁ → (∀ b o, s₁.heap.get? b = some o → h'.get? b = some o) → Q (.bool true) { s₁.setGen g .finished with heap := h' }) :
    wpAny (model prog w) A (call (.builtin "all") [.ref a]) Q E s := by
  have loop := all_loopI (A := A) (R := fun r s' => match r with | .ok (.ret v) => Q v s' | .ok _ => False | .error e => E e s') U hh hroom hT hF n s hl h
  exact call_function_tree F.kind_all F.plain_all F.entry_all (F.args_all1 _) (wpAny_bind (m := oneArg "all" _) (wpAny_pure (wpAny_bind (wpAny_pyIter_gen h.gen (wpAny_pure ⟨plainId_quiet F.plain_all_loop _, loop⟩)))))
end
end L2
set_option Elab.async false
set_option linter.all false
set_option maxRecDepth 100000
set_option maxHeartbeats 1000000
namespace L2
open PySem PySem.Spec PyProof.Rows
abbrev Cx.gblk (X : Cx) (A' : Around) (s : Shared) (H : Hp) (cenv : Env) (fp : List Addr) (pn : List (Addr × Obj)) : Cx := { X with A := A', s_0 := s, H_0 := H, env := cenv, outer := X.stack, stack := cenv :: X.stack, ex := fp, fn := fun _ => false, pn := pn, xe := fun _ _ => False }
abbrev genV (X : Cx) (scope : Scope) (C : Addr) (code : Value) : Env := genEnv scope (cloFrom X.env.cells scope.names []) C code builtinsNs X.env
section
variable {X : Cx} {pins : List (Addr × Obj)} {σ : St} {H : Hp} {s : Shared}
theorem gen_start {scope : Scope} {own : List (Str × Nat)} {fp : List Addr} {code : Value} {A' : Around} {s' : Shared} {m : Str → Option Value} {a : Addr} {oa : Obj} (I : Inv X pins σ H s) (ok : BlkOk X.N X.env.scope scope own) (hN : X.N.Nodup) (hfp : ∀ b ∈ fp, FpOk X pins H b ∧ b < s.heap.objs.size)
    (hcell : ∀ y ∈ scope.names, y.2 ≠ .cell) (hfr : A'.frames = some (genV X scope s.heap.objs.size code :: X.stack)) (hh : A'.handled = none)
    (kp : ∀ b o, s.heap.get? b = some o → s'.heap.get? b = some o) (hns : s'.heap.Ns s.heap.objs.size m) (hos : s'.os = s.os) (hbare : AllBare s'.gens) (ha : s'.heap.get? a = some oa) (haC : s.heap.objs.size < a) (hoa : ∀ v, oa.data ≠ .cell v) :
    Inv (X.gblk A' s H (genV X scope s.heap.objs.size code) fp [(a, oa)]) [] (wipe σ (own.map (·.2))) H s' := by
  have hfree : ∀ y ∈ scope.names, y.2 = .free → ∃ c, X.env.cells.lookup y.1 = some c := fun y hy e => by
    rcases ok.free y hy e with k | k
    · exact I.ok.has _ (.inl k)
    · exact I.ok.has _ (.inr k)
  generalize hcenv : genV X scope s.heap.objs.size code = cenv at hfr ⊢
  have hL : cenv.locals = s.heap.objs.size := by rw [← hcenv]; rfl
  have hF : cenv.frame = some s.heap.objs.size := by rw [← hcenv]; rfl
  have hcl : cenv.cells = cloFrom X.env.cells scope.names [] := by rw [← hcenv]; rfl
  have hsc : cenv.scope = scope := by rw [← hcenv]; rfl
  have cm : ∀ {y c}, (y, c) ∈ cloFrom X.env.cells scope.names [] → X.env.cells.lookup y = some c ∧ c < s.heap.objs.size := fun {y c} hm => by
    rcases cloFrom_mem hm with hm | ⟨h1, rfl⟩
    · cases hm
    · obtain ⟨c, hc⟩ := hfree _ h1 rfl
      rw [hc]
      obtain ⟨w, z⟩ := I.cell _ _ hc
      exact ⟨rfl, z.lt⟩
  have mem : ∀ {y c}, cenv.cells.lookup y = some c → X.env.cells.lookup y = some c ∧ c < s.heap.objs.size := fun {y c} e => by
    rw [hcl] at e
    exact cm (PySem.mem_of_lookup e)
  have look : ∀ {y}, scope.names.lookup y = some .free → ∃ c, cenv.cells.lookup y = some c ∧ X.env.cells.lookup y = some c := fun {y} hl => by
    have hy : (y, NameKind.free) ∈ scope.names := PySem.mem_of_lookup hl
    obtain ⟨c', e'⟩ := mem_lookup (cloFrom_has (cells := X.env.cells) (acc := []) hy)
    rw [← hcl] at e'
    exact ⟨c', e', (mem e').1⟩
  have kd : ∀ y, cenv.kindOf y = scope.names.lookup y := fun y => by
    show cenv.scope.names.lookup y = _
    rw [hsc]
  have okB : (X.gblk A' s H cenv fp [(a, oa)]).Ok := by
    refine ⟨I.ok.mod, by show cenv.scope.kind = _; rw [hsc]; exact ok.kind, by show cenv.globals = _; rw [← hcenv]; exact I.ok.glob, by show cenv.builtins = _; rw [← hcenv]; rfl, by show s.heap.objs.size ≤ cenv.locals; rw [hL]; exact Nat.le_refl _,
      fun y z c e1 e2 => I.ok.inj y z c (mem e1).1 (mem e2).1, fun y hy => ?_, fun y c z e => absurd z Bool.false_ne_true, fun _ => hh, hfr, .inr ⟨rfl, by show cenv.frame = some cenv.locals; rw [hF, hL]⟩, fun b hb => ⟨?_, fun y c e z => ?_⟩, I.bs, Nat.le_trans I.ok.bsz I.sz, fun b o e hb => ?_, fun b hb z => ?_, I.stack, I.stkFree⟩
    · show ∃ c, cenv.cells.lookup y = some c
      have hy : cenv.kindOf y = some .cell ∨ cenv.kindOf y = some .free := hy
      rw [kd] at hy
      rcases hy with hy | hy
      · exact absurd rfl (hcell _ (PySem.mem_of_lookup hy))
      · obtain ⟨c, h1, _⟩ := look hy
        exact ⟨c, h1⟩
    · show b ≠ cenv.locals
      rw [hL]; exact Nat.ne_of_lt (hfp b hb).2
    · exact (hfp b hb).1.2.2.2.2.1 y c (mem e).1 z
    · rcases (hfp b hb).1.2.2.2.1 with z | z
      · exact I.ok.noex b o e z
      · exact absurd (Nat.lt_of_lt_of_le (Heap.lt_size e) (Nat.le_trans I.ok.bsz z)) (Nat.lt_irrefl _)
    · rcases List.mem_cons.mp (I.stkSub b z) with z | z
      · exact (hfp b hb).1.2.1 z
      · exact (hfp b hb).1.2.2.1 z
  refine ⟨okB, hos, hbare, Un.kept kp, ⟨m, ?_, fun i y av e1 e2 e3 => ?_⟩, fun y c e => ?_, ?_, fun y c e => ?_, fun p hp => ?_, I.hok.kept kp, by rw [wipe_length]; exact I.len⟩
  · show Heap.Ns _ cenv.locals _
    rw [hL]
    exact hns
  · obtain ⟨e2, hne⟩ := wipe_some e2
    have hfr : scope.names.lookup y = some .free ∧ (cenv.kindOf y = some .cell ∨ cenv.kindOf y = some .free) := by
      have e3 : Vis cenv.scope y := e3
      rw [hsc] at e3
      have no : ∀ k, scope.names.lookup y = some k → ¬ (k = .local ∨ k = .cell) := fun k e hh => by
        rcases ok.own _ (PySem.mem_of_lookup e) hh with e' | e'
        · obtain ⟨p, hp, hpy⟩ := List.mem_map.mp e'
          have e3 := ok.ix p hp
          have : p.1 = y := hpy
          rw [this] at e3
          exact hne (List.mem_map.mpr ⟨p, hp, nodup_ix hN e3 e1⟩)
        · exact e' (List.mem_of_getElem? e1)
      rcases e3 with e3 | e3 | e3
      · exact absurd (.inl rfl) (no _ e3)
      · exact absurd (.inr rfl) (no _ e3)
      · exact ⟨e3, .inr (by rw [kd]; exact e3)⟩
    obtain ⟨m, hn, hl⟩ := I.loc
    have hvis : Vis X.env.scope y := (ok.free _ (PySem.mem_of_lookup hfr.1) rfl).elim (fun k => .inr (.inl k)) (fun k => .inr (.inr k))
    obtain ⟨w, r, q⟩ := hl i y av e1 e2 hvis
    refine ⟨w, r, .inr ⟨hfr.2, ?_⟩⟩
    obtain ⟨c, h1, h2⟩ := look hfr.1
    rcases q with ⟨k, _⟩ | ⟨_, c', e', z⟩
    · have k : X.env.scope.names.lookup y = some .local := k
      rcases ok.free _ (PySem.mem_of_lookup hfr.1) rfl with k' | k' <;> rw [show X.env.scope.names.lookup y = _ from k'] at k <;> cases k
    · rw [h2] at e'; cases e'
      exact ⟨c, h1, z.keeps kp⟩
  · obtain ⟨h1, _⟩ := mem e
    obtain ⟨w, z⟩ := I.cell y c h1
    exact ⟨w, z.keeps kp⟩
  · show H cenv.locals = none
    rw [hL]; exact I.hok.fresh (Nat.le_refl _)
  · exact I.freeC y c (mem e).1
  · have hp : p = (a, oa) := by
      have : p ∈ [(a, oa)] ++ ([] : List (Addr × Obj)) := hp
      simpa using this
    subst hp
    refine ⟨ha, I.hok.fresh (Nat.le_of_lt haC), by show a ≠ cenv.locals; rw [hL]; exact Nat.ne_of_gt haC, fun z => ?_, hoa⟩
    rcases List.mem_cons.mp (I.stkSub a z) with z | z
    · exact absurd (Nat.lt_trans I.lt haC) (by rw [z]; exact Nat.lt_irrefl _)
    · exact I.nofs (Nat.le_of_lt haC) z
end
end L2
set_option Elab.async false
set_option linter.all false
set_option maxRecDepth 100000
set_option maxHeartbeats 1000000
namespace L2
open PySem PySem.Spec PyProof.Rows
section
variable {M : Model} {A : Around} {E : Value → Shared → Prop} {s : Shared}
theorem genexprCodeT {env : Env} {c P : Addr} {ps : Array Value} {pos : Pos} {qualname : Str} {scope : Scope} {Q : Value → Shared → Prop} (hc : env.code = .ref c) (hC : PySem.W.CodeHd s.heap c P) (hP : s.heap.get? P = some (PySem.W.tabObj ps)) (ht : TriplesOk ps.toList)
    (hQ : ∀ code h' tk more, (∀ b o, b ≠ P → s.heap.get? b = some o → h'.get? b = some o) → h'.get? P = some (PySem.W.tabObj (ps ++ more)) → TriplesOk (ps ++ more).toList → Q code { s with heap := h', toks := tk }) :
    wpAny M A (genexprCode env pos qualname scope) Q E s := by
  have tab := hC.code hP ht
  obtain ⟨o, vs, file, tf, flags, tg, inF, text, tt, op, ho, hd, h11, h2, h7, h9, h10, hop, hpd, htr, hne⟩ := tab
  cases hP.symm.trans hop
  have some_c : (Value.ref c == Value.none) = false := rfl
  unfold genexprCode codeAt
  simp only [hc, some_c, Bool.false_eq_true, ↓reduceIte]
  wp_walk using wpAny_fieldsOf ho hd
  simp only [h11]
  wp_walk using wpAny_fieldsOf hP hpd
  cases among : codeAmong pos ps.toList with
  | some cv => exact wpAny_pure (hQ cv s.heap s.toks #[] (fun _ _ _ e => e) (by simpa using hP) (by simpa using ht))
  | none =>
    simp only [h2, h7, h9, h10]
    refine wpAny_bind (wpAny_newCode fun c' P' h' tk hk _ _ _ _ => ?_)
    have put : (h'.update P (Obj.mapFields fun vs => if (codeAmong pos vs.toList).isSome = true then vs else vs ++ #[rawInt pos.line, rawInt pos.col, .ref c'])).get? P = some (PySem.W.tabObj (ps ++ #[rawInt pos.line, rawInt pos.col, .ref c'])) := by
      refine (Heap.get?_update_self _ (hk _ _ hP) rfl).trans ?_
      simp [Obj.mapFields, PySem.W.tabObj, among]
    have three : (ps ++ #[rawInt pos.line, rawInt pos.col, Value.ref c']).toList = ps.toList ++ [rawInt pos.line, rawInt pos.col, .ref c'] := by rw [Array.toList_append]
    refine wpAny_bind (wpAny_updateFieldsOfTheText (hk _ _ hP) hpd (wpAny_bind (wpAny_fieldsOf put rfl ?_)))
    rw [three, codeAmong_snoc _ htr among]
    exact wpAny_pure (hQ _ _ _ #[rawInt pos.line, rawInt pos.col, .ref c'] (fun b o' hb e => (Heap.get?_update_ne _ _ _ _ hb).trans (hk b o' e)) put (by rw [three]; exact TriplesOk_snoc _ _ _ _ htr))
end
section
variable {X : Cx} {pins : List (Addr × Obj)} {σ : St} {H : Hp} {s : Shared}
theorem Inv.grow {P : Addr} {ps more : Array Value} {h' : Heap} {t' : Nat} (I : Inv X pins σ H s) (hP : H P = some (.tbl ps)) (k : ∀ b u, b ≠ P → s.heap.get? b = some u → h'.get? b = some u) (hp : h'.get? P = some (PySem.W.tabObj (ps ++ more))) :
    Inv X pins σ (upd H P (.tbl (ps ++ more))) { s with heap := h', toks := t' } := by
  have ne0 : ∀ {b}, H b = none → b ≠ P := fun {b} n z => by rw [z, hP] at n; cases n
  refine I.call' (ch := []) rfl ⟨fun b o q n _ _ => k b o (ne0 n) q, fun b o q n _ _ => ⟨o.slots, k b o (ne0 n) q⟩, fun b o q n _ => by rw [upd_ne (ne0 n)]; exact n, fun b o q _ => ?_, fun b xs q => ?_, fun b o u q => ?_, fun b qs q => ?_⟩ ?_ I.bare (fun b hb => nomatch hb)
  · by_cases z : b = P
    · rw [z]; exact ⟨_, hp⟩
    · exact ⟨o, k b o z q⟩
  · rw [upd_ne (fun z => by rw [z, hP] at q; cases q)]; exact q
  · rw [upd_ne (fun z => by rw [z, hP] at q; cases q)]; exact q
  · by_cases z : b = P
    · subst z
      rw [hP] at q
      cases q
      exact ⟨more, upd_same⟩
    · exact ⟨#[], by rw [upd_ne z, q]; simp⟩
  · intro b u q
    by_cases z : b = P
    · subst z
      rw [upd_same] at q
      cases q
      exact hp
    · rw [upd_ne z] at q
      refine (I.hok b u q).stay (fun c v hc r => k c v ?_ r) (fun c r => ?_) fun c xs r => ?_
      · rcases hc with rfl | hc
        · exact z
        · intro z'
          rw [z', hP] at hc
          cases hc
      · rw [upd_ne (fun z' => by rw [z', hP] at r; cases r)]; exact r
      · rw [upd_ne (fun z' => by rw [z', hP] at r; cases r)]; exact r
theorem Inv.setGen {g : Nat} {gs : GenState} (I : Inv X pins σ H s) (hb : gs.bare = true) : Inv X pins σ H (s.setGen g gs) := by
  have : AllBare (s.setGen g gs).gens := by
    intro x hx
    have hb0 := I.bare
    simp only [Shared.setGen] at hx
    rcases Array.mem_or_eq_of_mem_setIfInBounds hx with h | h
    · exact hb0 x h
    · rw [h]; exact hb
  exact I.call' (ch := []) rfl Un.refl I.hok this (fun b hb => nomatch hb)
end
end L2
set_option Elab.async false
set_option linter.all false
set_option maxRecDepth 100000
set_option maxHeartbeats 1000000
namespace L2
open PySem
theorem gens_setGen (s : Shared) (g : Nat) (x : GenState) : (s.setGen g x).gens.size = s.gens.size := by simp [Shared.setGen]
theorem runs_gens {M : Model} {Γ : Ctx} {p : Pos} {t : Sem Fin} {fs : List Frame} {s s' : Shared} {e : End} (h : Runs M Γ p t fs s e s') : s.gens.size ≤ s'.gens.size := by
  induction h <;> (try simp only [Shared.setGen, Array.size_setIfInBounds, Array.size_push] at *) <;> omega
theorem returns_gens {M : Model} {Γ : Ctx} {p : Pos} {s s' : Shared} {r : Result} (h : Returns M Γ p s r s') : s.gens.size ≤ s'.gens.size := runs_gens h
theorem wakes_gens {M : Model} {Γ : Ctx} {p : Pos} {g : Nat} {r : Resume} {s s' : Shared} {res : GenResult} (h : Wakes M Γ p g r s res s') : s.gens.size ≤ s'.gens.size := by
  have key : ∀ {c p₁ t fs e₁ s₁ x}, Runs M (Γ.wake c p) p₁ t fs (s.setGen g .running) e₁ s₁ → s.gens.size ≤ (s₁.setGen g x).gens.size := fun hr => by
    have := runs_gens hr
    rw [gens_setGen] at this ⊢
    exact this
  unfold Wakes at h
  split at h
  · exact h.elim
  · split at h
    · obtain ⟨e₁, s₁, hr, _, _, rfl⟩ := h; exact key hr
    · rw [h.2]; first | exact Nat.le_refl _ | (rw [gens_setGen]; exact Nat.le_refl _)
    · rw [h.2]; first | exact Nat.le_refl _ | (rw [gens_setGen]; exact Nat.le_refl _)
  · obtain ⟨e₁, s₁, hr, _, _, rfl⟩ := h; exact key hr
  · rw [h.2]; first | exact Nat.le_refl _ | (rw [gens_setGen]; exact Nat.le_refl _)
  · rw [h.2]; first | exact Nat.le_refl _ | (rw [gens_setGen]; exact Nat.le_refl _)
open PySem.Sem in
theorem wp_gens {α : Type} (M : Model) (Γ : Ctx) (n : Nat) (t : Sem α) : ∀ (Q : α → Pos → Shared → Prop) (E : Value → Pos → Shared → Prop) (p : Pos) (s : Shared), n ≤ s.gens.size → Sem.wp M Γ t Q E p s →
    Sem.wp M Γ t (fun a p' s' => n ≤ s'.gens.size ∧ Q a p' s') (fun e p' s' => n ≤ s'.gens.size ∧ E e p' s') p s := by
  induction t <;> intro Q E p s hn h
  all_goals first
    | exact h
    | exact ⟨hn, h⟩
    | (rename_i ih; exact ih _ Q E _ _ hn h)
    | (rename_i ih; exact ⟨h.1, ih _ Q E _ _ hn h.2⟩)
    | (rename_i ih; obtain ⟨x, e, h⟩ := h; exact ⟨x, e, ih _ Q E _ _ hn h⟩)
    | (rename_i ih; obtain ⟨r, s', hr, h⟩ := h; exact ⟨r, s', hr, ih r Q E _ s' (Nat.le_trans hn (returns_gens hr)) h⟩)
    | (rename_i ih; obtain ⟨r, s', hw, h⟩ := h; exact ⟨r, s', hw, ih r Q E _ s' (Nat.le_trans hn (wakes_gens hw)) h⟩)
    | (rename_i ih; refine ih _ Q E _ _ (Nat.le_trans hn ?_) h; show s.gens.size ≤ (s.gens.push _).size; rw [Array.size_push]; exact Nat.le_succ _)
theorem wpAny_gens {α : Type} {M : Model} {A : Around} {s : Shared} {t : Sem α} {Q : α → Shared → Prop} {E : Value → Shared → Prop} {n : Nat} (hn : n ≤ s.gens.size) (h : wpAny M A t Q E s) :
    wpAny M A t (fun a s' => n ≤ s'.gens.size ∧ Q a s') E s :=
  wpAny_mono (Q := fun a s' => n ≤ s'.gens.size ∧ Q a s') (E := fun e s' => n ≤ s'.gens.size ∧ E e s') (fun Γ p hΓ => wp_gens M Γ n t _ _ p s hn (h Γ p hΓ)) (fun _ _ x => x) (fun _ _ x => x.2)
end L2
set_option Elab.async false
set_option linter.all false
set_option maxRecDepth 100000
set_option maxHeartbeats 1000000
namespace L2
open PySem PySem.Spec PyProof.Rows
def tGen (st : Bool) (P : Addr) (wi : TI) (g : TG) (te : TE) (vs : List Nat) : TE := fun σ H Q => wi σ H fun J H1 => ∃ ps, H1 P = some (.tbl ps) ∧ TriplesOk ps.toList ∧ ∀ more, TriplesOk (ps ++ more).toList →
  ∃ W : Nat → Nat → Hp → Prop, (∃ m, W 0 m (upd H1 P (.tbl (ps ++ more)))) ∧ ∀ i m H, W i m H →
    (J.stop i H ∧ Q (.bl (!st)) H) ∨ (J.go i H ∧ ∃ Nx : Hp → Prop, (∀ H', Nx H' → ∃ m', m' < m ∧ W (i + 1) m' H') ∧ ∀ x H', J.yld i H x H' → g x (wipe σ vs) H' fun σ2 H2 => wipe σ2 vs = wipe σ vs ∧
      te σ2 H2 fun y H4 => ∃ b, y = .bl b ∧ if b = st then Q (.bl st) H4 else Nx H4)
abbrev genA (A : Around) (elt tg iter : Expr) (scope : Scope) (pos : Pos) (I : Addr) (cenv : Env) : Around := A.in1.in1.over (genL elt tg iter scope pos I cenv) []
theorem genA_frames {A : Around} {elt tg iter : Expr} {scope : Scope} {pos : Pos} {I : Addr} {cenv : Env} {l : List Env} (h : A.frames = some l) : (genA A elt tg iter scope pos I cenv).frames = some (cenv :: l) := by
  show pushEnvs [cenv] (pushEnvs [] A.frames) = _
  rw [h]
  rfl
theorem genA_room {A : Around} {elt tg iter : Expr} {scope : Scope} {pos : Pos} {I : Addr} {cenv : Env} {k : Nat} (r : Room (k + 1) A) : Room k (genA A elt tg iter scope pos I cenv) := by
  refine ⟨?_, r.hd, ?_, ?_⟩
  · first | exact r.gd | (simpa [genA, Around.over, Code.guards, Code.isGuard, guardIds, pushGuards, guardsOf] using r.gd)
  · have := r.dp
    show A.depth + 0 + 1 + 3 * k + 5 < _
    omega
  · have := r.un
    show A.units + 1 + 1 + 0 + 3 + 16 * k + 200 < _
    omega
section
variable {X : Cx} {pins : List (Addr × Obj)} {σ : St} {H : Hp} {s : Shared} {Q : VK}
theorem gen_core {nm : String} {st : Bool} {elt tg iter : Expr} {scope : Scope} {own : List (Str × Nat)} {gpos : Pos} {wi : TI} {g : TG} {te : TE} {c P bm : Addr} {ob : Obj} {k : Nat} (hc : X.calm = true) (hN : X.N.Nodup) (hr : Room (k + 1) X.A) (hi : PI X tg iter wi) (ok : BlkOk X.N X.env.scope scope own)
    (hco : scope.isCoroutine = false) (hcell : ∀ y ∈ scope.names, y.2 ≠ .cell) (h0 : scope.names.lookup (".0" : Str) = some NameKind.local) (hcode : X.env.code = .ref c) (hC : PySem.W.CodeHd X.base c P)
    (hbm : X.mg "__builtins__" = some (.ref bm)) (hbne : bm ≠ builtinsNs) (hbo : X.base.get? bm = some ob) (hbc : ob.cls = .type "module") (hbd : ob.dict = some builtinsNs) (hbp : ob.data = .plain)
    (hg : ∀ (A' : Around) (s : Shared) (H : Hp) (C : Addr) (code : Value) (fp : List Addr) (pn : List (Addr × Obj)), Room k A' → PG (X.gblk A' s H (genV X scope C code) fp pn) tg g)
    (he : ∀ (A' : Around) (s : Shared) (H : Hp) (C : Addr) (code : Value) (fp : List Addr) (pn : List (Addr × Obj)), Room k A' → PE (X.gblk A' s H (genV X scope C code) fp pn) elt te)
    (hs : ∀ x, genFold iter X.env x = pure x)
    (cons : ∀ (Yl : Nat → Nat → Value → Shared → Prop) (Dn : Shared → Prop) (Rl : Value → Shared → Shared → Prop) (a : Addr) (g n : Nat) (s : Shared) (Q' : Value → Shared → Prop), GenUse st Yl Rl a g → s.heap.NoLimit → GenIAt X.prog X.w X.A.in1 Yl Dn Rl a g n s →
      (∀ i m s gs', Yl i m (.bool st) s → gs'.bare = true → Q' (.bool st) (s.setGen g gs')) →
      (∀ s₁ h', Dn s₁ → (∀ b o, s₁.heap.get? b = some o → h'.get? b = some o) → Q' (.bool (!st)) { s₁.setGen g .finished with heap := h' }) → wpAny (model X.prog X.w) X.A (call (.builtin nm) [.ref a]) Q' X.xe s)
    (I : Inv X pins σ H s) (h : tGen st P wi g te (own.map (·.2)) σ H Q) :
    wpAny (model X.prog X.w) X.A (eval (.GeneratorExp elt [⟨tg, iter, [], 0⟩] scope gpos) X.env) (fun gv s1 => wpAny (model X.prog X.w) X.A (call (.builtin nm) [gv]) (EP X pins σ Q) X.xe s1) X.xe s := by
  have hfree : ∀ y ∈ scope.names, y.2 = .free → ∃ c, X.env.cells.lookup y.1 = some c := fun y hy e => by
    rcases ok.free y hy e with k | k
    · exact I.ok.has _ (.inl k)
    · exact I.ok.has _ (.inr k)
  refine wpAny_GeneratorExp_make hco (closure_ok hfree) hcell h0 ok.kind hr.depth (thn (hi pins s σ H _ I h) fun xv s1 hx => thn hx fun itv s2 h2 => ?_) hs
  obtain ⟨it, fp, tn, J, H2, e, I2, T, st2, f2, ps, hP, htr, q⟩ := h2
  subst e
  refine ⟨I2.nolimit, genexprCodeT hcode (hC.keeps I2.bk) (I2.hok P _ hP) htr fun code h3 tk3 more k3 hp3 htr3 => ?_⟩
  obtain ⟨W, ⟨m0, w0⟩, turn⟩ := q more htr3
  have I3 := I2.grow (t' := tk3) hP k3 hp3
  have nP : ∀ b ∈ fp, b ≠ P := fun b hb z => by
    have := (f2 b hb).1
    rw [z, hP] at this
    cases this
  have st3 : tn 0 h3 := T.keep _ _ _ st2 fun b hb o e => k3 b o (nP b hb) e
  have f3 : ∀ b ∈ fp, FpOk X pins (upd H2 P (.tbl (ps ++ more))) b ∧ b < h3.objs.size := fun b hb => by
    obtain ⟨o, e, _⟩ := T.obj _ _ st3 b hb
    exact ⟨⟨by rw [upd_ne (nP b hb)]; exact (f2 b hb).1, (f2 b hb).2⟩, Heap.lt_size e⟩
  generalize hH3 : upd H2 P (.tbl (ps ++ more)) = H3 at I3 w0 f3
  generalize hs3 : ({ s2 with heap := h3, toks := tk3 } : Shared) = s3 at I3 ⊢
  have e3 : s3.heap = h3 := by rw [← hs3]
  rw [← e3] at st3 f3
  have mgs : s3.heap.Ns mainGlobals X.mg := I3.mod.glob.keeps I3.bk
  rw [I3.ok.glob]
  refine wpAny_builtinsFor mgs hbm hbne (I3.bk _ _ hbo) hbc hbd hbp ?_
  intro h' hn' hs'
  have hsz : h'.objs.size = s3.heap.objs.size + 1 := by rw [hs'.1, Heap.size_push]
  have kp' : ∀ b o, s3.heap.get? b = some o → h'.get? b = some o := fun b o e => hs'.extBut b o (Nat.ne_of_lt (Heap.lt_size e)) (Heap.get?_push_of_some _ e)
  have ha0 : (h'.push { cls := .type "generator", data := .fields #[.int s3.gens.size 0, .str "<genexpr>" (s3.toks + 1), .str (X.env.qual ++ "<genexpr>") (s3.toks + 1 + 1)] }).get? h'.objs.size = some ({ cls := .type "generator", data := .fields #[.int s3.gens.size 0, .str "<genexpr>" (s3.toks + 1), .str (X.env.qual ++ "<genexpr>") (s3.toks + 1 + 1)] } : Obj) := Heap.get?_push_size _ rfl
  have hgen0 : ∀ hh : Heap, hh.get? h'.objs.size = some ({ cls := .type "generator", data := .fields #[.int s3.gens.size 0, .str "<genexpr>" (s3.toks + 1), .str (X.env.qual ++ "<genexpr>") (s3.toks + 1 + 1)] } : Obj) → hh.IsGen h'.objs.size s3.gens.size := fun hh e => ⟨_, _, _, e, rfl, rfl, rfl⟩
  have hcel : ∀ v, ({ cls := .type "generator", data := .fields #[.int s3.gens.size 0, .str "<genexpr>" (s3.toks + 1), .str (X.env.qual ++ "<genexpr>") (s3.toks + 1 + 1)] } : Obj).data ≠ .cell v := fun v z => by cases z
  generalize ({ cls := .type "generator", data := .fields #[.int s3.gens.size 0, .str "<genexpr>" (s3.toks + 1), .str (X.env.qual ++ "<genexpr>") (s3.toks + 1 + 1)] } : Obj) = oa at ha0 hgen0 hcel ⊢
  show wpAny _ _ (call (.builtin nm) [.ref h'.objs.size]) _ _ { s3 with gens := s3.gens.push (.fresh (genS elt tg iter scope gpos it (genV X scope s3.heap.objs.size code))), toks := s3.toks + 1 + 1 + 1, heap := h'.push oa }
  have kp4 : ∀ b o, s3.heap.get? b = some o → (h'.push oa).get? b = some o := fun b o e => Heap.get?_push_of_some _ (kp' b o e)
  have st4 : tn 0 (h'.push oa) := T.keep _ _ _ st3 fun b _ o e => kp4 b o e
  have hfrA := genA_frames (elt := elt) (tg := tg) (iter := iter) (scope := scope) (pos := gpos) (I := it) (cenv := genV X scope s3.heap.objs.size code) I.ok.frames
  have hrA : Room k (genA X.A elt tg iter scope gpos it (genV X scope s3.heap.objs.size code)) := genA_room hr
  have hbare : AllBare (s3.gens.push (.fresh (genS elt tg iter scope gpos it (genV X scope s3.heap.objs.size code)))) := by
    intro x hx
    rcases Array.mem_push.mp hx with h | h
    · exact I3.bare x h
    · rw [h]; rfl
  have I4 := gen_start (s' := { s3 with gens := s3.gens.push (.fresh (genS elt tg iter scope gpos it (genV X scope s3.heap.objs.size code))), toks := s3.toks + 1 + 1 + 1, heap := h'.push oa }) (a := h'.objs.size) (oa := oa) I3 ok hN f3 hcell hfrA hrA.hd kp4 (hn'.push _) rfl hbare ha0 (by rw [hsz]; exact Nat.lt_succ_self _) hcel
  have pg := hg _ s3 H3 s3.heap.objs.size code fp [(h'.objs.size, oa)] hrA
  have pe := he _ s3 H3 s3.heap.objs.size code fp [(h'.objs.size, oa)] hrA
  have hgs : (s3.gens.push (.fresh (genS elt tg iter scope gpos it (genV X scope s3.heap.objs.size code))))[s3.gens.size]? = some (.fresh (genS elt tg iter scope gpos it (genV X scope s3.heap.objs.size code))) := Array.getElem?_push_size ..
  have hg4 : s3.gens.size < (s3.gens.push (.fresh (genS elt tg iter scope gpos it (genV X scope s3.heap.objs.size code)))).size := by rw [Array.size_push]; exact Nat.lt_succ_self _
  generalize hs4 : ({ s3 with gens := s3.gens.push (.fresh (genS elt tg iter scope gpos it (genV X scope s3.heap.objs.size code))), toks := s3.toks + 1 + 1 + 1, heap := h'.push oa } : Shared) = s4 at I4 ⊢
  have g4 : s3.gens.size < s4.gens.size := by rw [← hs4]; exact hg4
  have gs4 : s4.gens[s3.gens.size]? = some (.fresh (genS elt tg iter scope gpos it (genV X scope s3.heap.objs.size code))) := by rw [← hs4]; exact hgs
  have t4 : tn 0 s4.heap := by rw [← hs4]; exact st4
  have a4 : s4.heap.get? h'.objs.size = some oa := by rw [← hs4]; exact ha0
  generalize hcenv : genV X scope s3.heap.objs.size code = cenv at I4 pg pe gs4 hrA
  have hcs : cenv.scope.isCoroutine = false := by rw [← hcenv]; exact hco
  have hlt : ∀ b ∈ fp, b ≠ h'.objs.size := fun b hb => Nat.ne_of_lt (by rw [hsz]; exact Nat.lt_succ_of_lt (f3 b hb).2)
  generalize hA' : genA X.A elt tg iter scope gpos it cenv = A' at I4 pg pe hrA
  have nfp : ∀ b ∈ fp, H3 b = none := fun b hb => (f3 b hb).1.1
  have stat : ∀ {σ' : St} {H' : Hp} {s' : Shared}, Inv (X.gblk A' s3 H3 cenv fp [(h'.objs.size, oa)]) [] σ' H' s' → (∀ b ∈ fp, H' b = none) → ∀ b ∈ fp, FpOk (X.gblk A' s3 H3 cenv fp [(h'.objs.size, oa)]) [] H' b := fun {σ' H' s'} I' hn b hb =>
    ⟨hn b hb, (I'.ok.exf b hb).1, I'.ok.exfs b hb, .inl hb, fun x c e => (I'.ok.exf b hb).2 x c e, fun p hp => by
      have : p ∈ [(h'.objs.size, oa)] ++ ([] : List (Addr × Obj)) := hp
      have : p = (h'.objs.size, oa) := by simpa using this
      rw [this]
      exact (hlt b hb).symm⟩
  have back : ∀ {σ' : St} {H' : Hp} {s' : Shared}, Inv (X.gblk A' s3 H3 cenv fp [(h'.objs.size, oa)]) [] σ' H' s' → Inv X pins σ H' s' := fun {σ' H' s'} I' =>
    I3.call' (ch := fp) I'.os I'.base I'.hok I'.bare fun b hb => ⟨(f3 b hb).1.2.2.2.1, (f3 b hb).1.2.1, (f3 b hb).1.2.2.2.2.1, (f3 b hb).1.2.2.2.2.2⟩
  have there : ∀ {σ' : St} {H' : Hp} {s' : Shared}, Inv (X.gblk A' s3 H3 cenv fp [(h'.objs.size, oa)]) [] σ' H' s' → s'.heap.get? h'.objs.size = some oa := fun {σ' H' s'} I' =>
    (I'.pin (h'.objs.size, oa) (List.mem_append_left _ (List.mem_singleton.mpr rfl))).1
  refine cons
    (fun i m v s => s3.gens.size < s.gens.size ∧ ∃ (b : Bool) (H' : Hp), v = .bool b ∧ Inv (X.gblk A' s3 H3 cenv fp [(h'.objs.size, oa)]) [] (wipe σ (own.map (·.2))) H' s ∧ ((b = st ∧ Q (.bl st) H') ∨ (b ≠ st ∧ tn (i + 1) s.heap ∧ (∀ b ∈ fp, H' b = none) ∧ ∃ m1, m = m1 + 1 ∧ W (i + 1) m1 H')))
    (fun s => ∃ H', Inv (X.gblk A' s3 H3 cenv fp [(h'.objs.size, oa)]) [] (wipe σ (own.map (·.2))) H' s ∧ Q (.bl (!st)) H')
    (fun v s s' => v = .bool (!st) ∧ ∃ gs', GenState.bare gs' = true ∧ s' = (s.setGen s3.gens.size gs').setGen s3.gens.size .running)
    h'.objs.size s3.gens.size (m0 + 1) s4 _ ⟨?_, ?_, ?_⟩ I4.nolimit ⟨hgen0 _ a4, _, gs4, rfl, ?_⟩ ?_ ?_
  · rintro i m v s ⟨_, b, _, e, _⟩
    exact ⟨b, e⟩
  · rintro i m v s ⟨hgn, b, H', e, I', _⟩
    exact ⟨hgen0 _ (there I'), I'.nolimit, hgn⟩
  · intro i m s gs' _ hb
    exact ⟨rfl, gs', hb, rfl⟩
  · subst hA'
    refine seg_startI (A := X.A.in1.in1) (J := fun i m s => s3.gens.size < s.gens.size ∧ ∃ m1, m = m1 + 1 ∧ ∃ H', Inv (X.gblk (genA X.A elt tg iter scope gpos it cenv) s3 H3 cenv fp [(h'.objs.size, oa)]) [] (wipe σ (own.map (·.2))) H' s ∧ tn i s.heap ∧ (∀ b ∈ fp, H' b = none) ∧ W i m1 H') hcs ?_ ?_ (Nat.le_refl _)
      ⟨by rw [gens_setGen]; exact g4, m0, rfl, H3, I4.setGen rfl, t4, nfp, w0⟩ (fun A2 Q2 E2 hq => T.self A2 0 _ Q2 E2 t4 hq)
    · rintro i m s5 ⟨g5, m1, rfl, H5, I5, st5, n5, w5⟩
      rcases turn i m1 H5 w5 with ⟨stop, qq⟩ | ⟨go, Nx, hNx, step⟩
      · have td := T.done (X.gblk (genA X.A elt tg iter scope gpos it cenv) s3 H3 cenv fp [(h'.objs.size, oa)]) rfl rfl rfl hc i [] s5 _ H5 (fun _ _ => False) I5 (stat I5 n5) st5 stop
        refine thnF td fun r s6 ⟨hr6, I6⟩ => ?_
        subst hr6
        exact ⟨H5, I6, qq⟩
      · have ti := T.item (X.gblk (genA X.A elt tg iter scope gpos it cenv) s3 H3 cenv fp [(h'.objs.size, oa)]) rfl rfl rfl hc i [] s5 _ H5 (fun _ _ => False) I5 (stat I5 n5) st5 go
        refine thnF (wpAny_gens (n := s3.gens.size + 1) g5 ti) fun r s6 ⟨g6, u, hr6, h6⟩ => ?_
        subst hr6
        refine thnF (wpAny_gens (n := s3.gens.size + 1) g6 h6) fun _ s7 ⟨g7, x, H7, I7, r7, y7, st7, n7⟩ => ?_
        have I7' := I7.pinned (stat I7 n7) (T.obj _ _ st7)
        refine thnF (wpAny_gens (n := s3.gens.size + 1) g7 (pg _ s7 _ H7 x u _ I7' r7 (step x H7 y7))) fun _ s8 ⟨g8, σ8, H8, I8, hw8, q8⟩ => ?_
        refine thnF (wpAny_gens (n := s3.gens.size + 1) g8 (pe _ s8 σ8 H8 _ I8 q8)) fun z s9 ⟨g9, yv, H9, I9, r9, b, eb, hb⟩ => ?_
        subst eb
        obtain rfl : z = Value.bool b := r9
        have pin' : ∀ b ∈ fp, ∀ o, s7.heap.get? b = some o → s9.heap.get? b = some o ∧ H9 b = none := fun b hb o e =>
          let z := I9.pin (b, o) (List.mem_append_right _ (List.mem_append_right _ (mem_pinsAt hb e)))
          ⟨z.1, z.2.1⟩
        have hl : (wipe σ (own.map (·.2))).length = σ8.length := by rw [← hw8, wipe_length]
        have I10 : Inv (X.gblk (genA X.A elt tg iter scope gpos it cenv) s3 H3 cenv fp [(h'.objs.size, oa)]) [] (wipe σ (own.map (·.2))) H9 s9 := (I9.unpinned (pins := [])).weak hl fun j v e => by
          rw [← hw8] at e
          exact (wipe_some e).1
        by_cases hbs : b = st
        · rw [if_pos hbs] at hb
          exact ⟨0, Nat.succ_pos _, g9, b, H9, rfl, I10, .inl ⟨hbs, hb⟩⟩
        · rw [if_neg hbs] at hb
          obtain ⟨m', hm', w'⟩ := hNx H9 hb
          refine ⟨m' + 1, Nat.succ_lt_succ hm', g9, b, H9, rfl, I10, .inr ⟨hbs, T.keep _ _ _ st7 fun b hb o e => (pin' b hb o e).1, fun b hb => ?_, m', rfl, w'⟩⟩
          obtain ⟨o, e, _⟩ := T.obj _ _ st7 b hb
          exact (pin' b hb o e).2
    · rintro i m y s s' ⟨hgn, b, H', e, I', hh⟩ ⟨e2, gs', hbr, rfl⟩
      rw [e] at e2
      have e2 : b = !st := by cases e2; rfl
      rcases hh with ⟨z, _⟩ | ⟨_, z1, z2, m1, z3, z4⟩
      · rw [z] at e2; cases st <;> cases e2
      · exact ⟨by rw [gens_setGen, gens_setGen]; exact hgn, m1, z3, H', (I'.setGen hbr).setGen rfl, z1, z2, z4⟩
  · rintro i m s gs' ⟨_, b, H', e, I', hh⟩ hb
    have e : st = b := by cases e; rfl
    rcases hh with ⟨_, z⟩ | ⟨z, _⟩
    · exact ⟨.bl st, H', (back I').setGen hb, rfl, z⟩
    · exact absurd e.symm z
  · rintro s₁ h2 ⟨H', I', z⟩ hk
    exact ⟨.bl (!st), H', ((back I').setGen (g := s3.gens.size) (gs := .finished) rfl).kept (t' := s₁.toks) hk, rfl, z⟩
end
end L2
set_option Elab.async false
set_option linter.all false
set_option maxRecDepth 100000
set_option maxHeartbeats 1000000
namespace L2
open PySem PySem.Spec PyProof.Rows
structure GenHd (X : Cx) (P : Addr) : Prop where
  code : ∃ c, X.env.code = .ref c ∧ PySem.W.CodeHd X.base c P
  blt : ∃ bm ob, X.mg "__builtins__" = some (.ref bm) ∧ bm ≠ builtinsNs ∧ X.base.get? bm = some ob ∧ ob.cls = .type "module" ∧ ob.dict = some builtinsNs ∧ ob.data = .plain
section
variable {X : Cx}
theorem pe_anyG {elt tg iter : Expr} {scope : Scope} {own : List (Str × Nat)} {p pos gpos : Pos} {wi : TI} {g : TG} {te : TE} {P : Addr} {k : Nat} (hG : GenHd X P) (hgl : Gl X "any") (hm : X.mg "any" = none) (hc : X.calm = true) (hN : X.N.Nodup) (hr : Room (k + 1) X.A) (hi : PI X tg iter wi) (ok : BlkOk X.N X.env.scope scope own)
    (hco : scope.isCoroutine = false) (hcell : ∀ y ∈ scope.names, y.2 ≠ .cell) (h0 : scope.names.lookup (".0" : Str) = some NameKind.local)
    (hg : ∀ (A' : Around) (s : Shared) (H : Hp) (C : Addr) (code : Value) (fp : List Addr) (pn : List (Addr × Obj)), Room k A' → PG (X.gblk A' s H (genV X scope C code) fp pn) tg g)
    (he : ∀ (A' : Around) (s : Shared) (H : Hp) (C : Addr) (code : Value) (fp : List Addr) (pn : List (Addr × Obj)), Room k A' → PE (X.gblk A' s H (genV X scope C code) fp pn) elt te)
    (hs : ∀ x, genFold iter X.env x = pure x := by intro _; rfl)
    (hst : starEach [Expr.GeneratorExp elt [⟨tg, iter, [], 0⟩] scope gpos] X.env = [(false, eval (.GeneratorExp elt [⟨tg, iter, [], 0⟩] scope gpos) X.env)] := by rfl) :
    PE X (.Call (.Name "any" p) [.GeneratorExp elt [⟨tg, iter, [], 0⟩] scope gpos] [] pos) (tGen true P wi g te (own.map (·.2))) := by
  intro pins s σ H Q I h
  obtain ⟨c, hcode, hC⟩ := hG.code
  obtain ⟨bm, ob, b1, b2, b3, b4, b5, b6⟩ := hG.blt
  refine wpAny_Call_Name_kw (ld_blt I hgl hm (by decide +kernel : bootBuiltins "any" = some (.builtin "any")) ?_ (by decide) (by decide))
  refine PyProof.Rows.callWith_builtin1 ?_ hst (by rfl)
  rw [hst]
  refine Calls.spliced_cons (thn (gen_core (nm := "any") (st := true) hc hN hr hi ok hco hcell h0 hcode hC b1 b2 b3 b4 b5 b6 hg he hs ?_ I h) fun gv s1 h1 => Calls.spliced_nil h1)
  exact fun Yl Dn Rl a g n s Q' U hl hgi hT hF => call_anyI U hr.hd hr.in1.depth hl hgi hT hF
theorem pe_allG {elt tg iter : Expr} {scope : Scope} {own : List (Str × Nat)} {p pos gpos : Pos} {wi : TI} {g : TG} {te : TE} {P : Addr} {k : Nat} (hG : GenHd X P) (hgl : Gl X "all") (hm : X.mg "all" = none) (hc : X.calm = true) (hN : X.N.Nodup) (hr : Room (k + 1) X.A) (hi : PI X tg iter wi) (ok : BlkOk X.N X.env.scope scope own)
    (hco : scope.isCoroutine = false) (hcell : ∀ y ∈ scope.names, y.2 ≠ .cell) (h0 : scope.names.lookup (".0" : Str) = some NameKind.local)
    (hg : ∀ (A' : Around) (s : Shared) (H : Hp) (C : Addr) (code : Value) (fp : List Addr) (pn : List (Addr × Obj)), Room k A' → PG (X.gblk A' s H (genV X scope C code) fp pn) tg g)
    (he : ∀ (A' : Around) (s : Shared) (H : Hp) (C : Addr) (code : Value) (fp : List Addr) (pn : List (Addr × Obj)), Room k A' → PE (X.gblk A' s H (genV X scope C code) fp pn) elt te)
    (hs : ∀ x, genFold iter X.env x = pure x := by intro _; rfl)
    (hst : starEach [Expr.GeneratorExp elt [⟨tg, iter, [], 0⟩] scope gpos] X.env = [(false, eval (.GeneratorExp elt [⟨tg, iter, [], 0⟩] scope gpos) X.env)] := by rfl) :
    PE X (.Call (.Name "all" p) [.GeneratorExp elt [⟨tg, iter, [], 0⟩] scope gpos] [] pos) (tGen false P wi g te (own.map (·.2))) := by
  intro pins s σ H Q I h
  obtain ⟨c, hcode, hC⟩ := hG.code
  obtain ⟨bm, ob, b1, b2, b3, b4, b5, b6⟩ := hG.blt
  refine wpAny_Call_Name_kw (ld_blt I hgl hm (by decide +kernel : bootBuiltins "all" = some (.builtin "all")) ?_ (by decide) (by decide))
  refine PyProof.Rows.callWith_builtin1 ?_ hst (by rfl)
  rw [hst]
  refine Calls.spliced_cons (thn (gen_core (nm := "all") (st := false) hc hN hr hi ok hco hcell h0 hcode hC b1 b2 b3 b4 b5 b6 hg he hs ?_ I h) fun gv s1 h1 => Calls.spliced_nil h1)
  exact fun Yl Dn Rl a g n s Q' U hl hgi hT hF => call_allI U hr.hd hr.in1.depth hl hgi hT hF
end
section
variable {K : PySem.W.Frag} {a : Addr} {xs : List V} {g : TG} {te : TE} {vs : List Nat} {σ : St} {Hm : Hp} {st : Bool} {Qs Qe : Hp → Prop}
theorem g_tup (Pv : Nat → Hp → Prop) (h0 : Pv 0 Hm) (hl : ∀ i H, i ≤ xs.length → Pv i H → SqT K H a xs)
    (hs : ∀ i x H, xs[i]? = some x → Pv i H → g x (wipe σ vs) H fun σ2 H2 => wipe σ2 vs = wipe σ vs ∧ te σ2 H2 fun y H4 => ∃ b, y = .bl b ∧ if b = st then Qs H4 else Pv (i + 1) H4) (hd : ∀ H, Pv xs.length H → Qe H) :
    ∃ W : Nat → Nat → Hp → Prop, (∃ m, W 0 m Hm) ∧ ∀ i m H, W i m H →
      ((Itt K a).stop i H ∧ Qe H) ∨ ((Itt K a).go i H ∧ ∃ Nx : Hp → Prop, (∀ H', Nx H' → ∃ m', m' < m ∧ W (i + 1) m' H') ∧ ∀ x H', (Itt K a).yld i H x H' → g x (wipe σ vs) H' fun σ2 H2 => wipe σ2 vs = wipe σ vs ∧
        te σ2 H2 fun y H4 => ∃ b, y = .bl b ∧ if b = st then Qs H4 else Nx H4) := by
  refine ⟨fun i m H => m = xs.length - i ∧ i ≤ xs.length ∧ Pv i H, ⟨xs.length, by simp, Nat.zero_le _, h0⟩, ?_⟩
  rintro i m H ⟨rfl, hi, p⟩
  have q := hl i H hi p
  by_cases hlt : i < xs.length
  · refine .inr ⟨⟨xs, xs[i], q, by simp [hlt]⟩, Pv (i + 1), fun H' p' => ⟨xs.length - (i + 1), by omega, rfl, hlt, p'⟩, fun x H' y => ?_⟩
    obtain ⟨e, y⟩ := y
    subst e
    exact hs i x _ (y xs q) p
  · have e : i = xs.length := by omega
    subst e
    exact .inl ⟨⟨xs, q, Nat.le_refl _⟩, hd H p⟩
theorem g_range {lo : Int} {n : Nat} (Pv : Nat → Hp → Prop) (h0 : Pv 0 Hm)
    (hs : ∀ i H, i < n → Pv i H → g (.int (lo + i)) (wipe σ vs) H fun σ2 H2 => wipe σ2 vs = wipe σ vs ∧ te σ2 H2 fun y H4 => ∃ b, y = .bl b ∧ if b = st then Qs H4 else Pv (i + 1) H4) (hd : ∀ H, Pv n H → Qe H) :
    ∃ W : Nat → Nat → Hp → Prop, (∃ m, W 0 m Hm) ∧ ∀ i m H, W i m H →
      ((Itr lo n).stop i H ∧ Qe H) ∨ ((Itr lo n).go i H ∧ ∃ Nx : Hp → Prop, (∀ H', Nx H' → ∃ m', m' < m ∧ W (i + 1) m' H') ∧ ∀ x H', (Itr lo n).yld i H x H' → g x (wipe σ vs) H' fun σ2 H2 => wipe σ2 vs = wipe σ vs ∧
        te σ2 H2 fun y H4 => ∃ b, y = .bl b ∧ if b = st then Qs H4 else Nx H4) := by
  refine ⟨fun i m H => m = n - i ∧ i ≤ n ∧ Pv i H, ⟨n, by simp, Nat.zero_le _, h0⟩, ?_⟩
  rintro i m H ⟨rfl, hi, p⟩
  by_cases hlt : i < n
  · refine .inr ⟨hlt, Pv (i + 1), fun H' p' => ⟨n - (i + 1), by omega, rfl, hlt, p'⟩, fun x H' y => ?_⟩
    obtain ⟨e, y⟩ := y
    subst e y
    exact hs i _ hlt p
  · have e : i = n := by omega
    subst e
    exact .inl ⟨Nat.le_refl _, hd H p⟩
end
end L2
set_option Elab.async false
set_option linter.all false
set_option maxRecDepth 100000
set_option maxHeartbeats 1000000
namespace L2
open PySem PySem.Spec PyProof.Rows
section
variable {P : Program} {w : World} {K : PySem.W.Frag} {mg : Str → Option Value} {base : Heap}
theorem Fun.okC {x qual : Str} {st : Stmt} {f : Addr} {fd : FuncData} {N ps : List Str} {k : Nat} {sp : Sp} (F : Fun K x qual st f fd) (S : FnScope N ps (defScope st)) (len : ∀ vs H Q E, sp vs H Q E → vs.length = ps.length)
    (hbody : ∀ (cdv : Value) (A : Around) (outer : List Env) (s : Shared) (H : Hp) (vs : List V) (Q : VK) (E : XK), fd.code = cdv → Room k (A.deeper (envOfC qual (defScope st) s.heap.objs.size f cdv)) → sp vs H Q E →
      ∃ t, PSs (cxOf CX0 P w K mg base N qual (defScope st) f cdv A outer s H E).nox (defBody st) t ∧ t { nx := fun _ H' => Q .non H', rt := Q } (start N vs) H) : FnOk P w K mg base CX0 (k + 1) f fd ps sp := by
  obtain ⟨oc, od, kV, doc, pm, an, cdv, ct, osl, rfl, lk, hcd⟩ := F.ex
  refine fn_of lk hcd S len fun A outer s H vs Q E hr hsp => ?_
  obtain ⟨t, h, q⟩ := hbody cdv A outer s H vs Q E rfl hr hsp
  exact ⟨t, h.nox, q⟩
theorem genHd {X : Cx} {c T : Addr} {fd : FuncData} {cdv : Value} (hc : fd.code = .ref c) (e : fd.code = cdv) (hx : X.env.code = cdv) (hC : PySem.W.CodeHd X.base c T) (B : BltMod X.base X.mg) : GenHd X T := ⟨⟨c, by rw [hx, ← e, hc], hC⟩, B.ex⟩
end
end L2
namespace L2
open PySem PySem.Spec PyProof.Rows
theorem walk_ofX {l : PySem.W.OpenLaw} {n k : Nat} {q : Program} {loose : List Str} {XP : (Str → Option Value) → Heap → Prop} {YP : World → Heap → Prop} {d : DefRec} {K : Params → PySem.W.Frag} {sp : PySem.W.Frag → List (Addr × Addr) → Sp} {x : Str} (xs : List Str)
    (hn : l.most = some n) (hn2 : n ≤ sizeLine) (hdf : d.params.defaults = []) (hr : Room k callerA)
    (hY : ∀ (w : World) (h : Heap), YP w h → (K w.params).In h)
    (hx : ∀ y ∈ xs, ∃ d', (recsOf q).find? (fun e => e.name == y) = some d') (hnt : ∀ p, PySem.W.noTabs (K p) = true)
    (F : ∀ (w : World) (mg : Str → Option Value) (fa : Addr) (h : Heap), (K w.params).In h → h.Ns mainGlobals mg → mg d.name = some (.ref fa) →
      ∃ fd : FuncData, (∀ (s : Shared) (u : Value), BindsTo s fd ⟨[u], []⟩ [(x, u)]) ∧
        ∀ base : Heap, (K w.params).In base → base.Ns mainGlobals mg → (∀ t ∈ xs.filterMap (PySem.W.tabIn (K w.params)), PySem.W.CodeHd base t.1 t.2) → BltMod base mg → FnOk l.prog w (K w.params) mg base CX0 k fa fd [x] (sp (K w.params) (xs.filterMap (PySem.W.tabIn (K w.params)))))
    (hsp : ∀ (K : PySem.W.Frag) (tabs : List (Addr × Addr)) (H : Hp) (a : Addr) (ns : List Int), ns.length ≤ n → OnlyT tabs H → (∀ t ∈ tabs, H t.2 = some (.tbl #[])) → SqL K H a (ns.map V.int) → sp K tabs [.ref a] H (fun v _ => v = .bl true) fun _ _ _ => False) :
    PySem.W.WalkO q loose XP YP l.row.toRowW d [] (fun f vs => PySem.call f vs) :=
  walk_ofT (K := K) (CX := fun _ => CX0) (sp := fun w tabs => sp (K w.params) tabs) (xs := xs) (tabs := fun p => xs.filterMap (PySem.W.tabIn (K p))) hn hn2 hdf hr hY hx (fun p t mt => by obtain ⟨y, my, e⟩ := List.mem_filterMap.mp mt; exact ⟨y, my, e⟩) hnt F
    (fun w H a ns h1 h2 h3 h4 => hsp (K w.params) _ H a ns h1 h2 h3 h4) fun _ _ _ _ _ z => z
end L2
set_option Elab.async false
set_option linter.all false
set_option maxRecDepth 100000
set_option maxHeartbeats 1000000
namespace NH
open PySem L2
structure TblAt (H : Hp) (T : Addr) : Prop where
  ex : ∃ ps, H T = some (.tbl ps) ∧ TriplesOk ps.toList
theorem TblAt.same {H H' : Hp} {T : Addr} (s : Same H H') (b : TblAt H T) : TblAt H' T := by
  obtain ⟨ps, e, h⟩ := b.ex
  exact ⟨ps, s _ _ e, h⟩
theorem TblAt.zero {H : Hp} {T : Addr} (h : H T = some (.tbl #[])) : TblAt H T := ⟨#[], h, trivial⟩
theorem TblAt.ne {H : Hp} {T q : Addr} (b : TblAt H T) (h : H q = none) : q ≠ T := fun z => by
  obtain ⟨_, e, _⟩ := b.ex
  rw [← z, h] at e
  cases e
structure StepT (T : Addr) (H H' : Hp) : Prop where
  keep : ∀ b o, b ≠ T → H b = some o → H' b = some o
  tbl : TblAt H' T
theorem StepT.refl {T : Addr} {H : Hp} (b : TblAt H T) : StepT T H H := ⟨fun _ _ _ e => e, b⟩
theorem StepT.trans {T : Addr} {H H1 H2 : Hp} (a : StepT T H H1) (b : StepT T H1 H2) : StepT T H H2 := ⟨fun c o n e => b.keep c o n (a.keep c o n e), b.tbl⟩
theorem StepT.same {T : Addr} {H H1 H2 : Hp} (a : StepT T H H1) (b : Same H1 H2) : StepT T H H2 := ⟨fun c o n e => b c o (a.keep c o n e), a.tbl.same b⟩
theorem StepT.tups {T : Addr} {H H' : Hp} (s : StepT T H H') (hb : TblAt H T) : Tups H H' := fun b xs e => s.keep b _ (fun z => by
  obtain ⟨_, e', _⟩ := hb.ex
  rw [z, e'] at e
  cases e) e
end NH
set_option Elab.async false
set_option linter.all false
set_option maxRecDepth 100000
set_option maxHeartbeats 4000000
namespace L2
open PySem PySem.Spec PyProof.Rows PySem.W
theorem lam_of {P : Program} {w : World} {K : PySem.W.Frag} {mg : Str → Option Value} {base : Heap} {k : Nat} {f c' : Addr} {o : Obj} {qual : Str} {params : Arguments} {body : Expr} {scope : Scope} {pm ctv : Value} {N ps : List Str} {te : TE}
    {A : Around} {outer : List Env} {s : Shared} {H : Hp} {us : List Value} {vs : List V} {Q : VK} {E : XK} (S : FnScope N ps scope) (ho : s.heap.get? f = some o) (hd : o.data = .func (kla_fn "<lambda>" qual params body scope [] pm (.ref c') ctv)) (hcd : s.heap.CodeRec (.ref c') qual)
    (hr : Room (k + 1) A) (e0 : Env0 P w K mg base A outer s H) (hb : BindsTo s (kla_fn "<lambda>" qual params body scope [] pm (.ref c') ctv) ⟨us, []⟩ (ps.zip us)) (hl : vs.length = ps.length) (r : Vals vs us)
    (he : PE (cxOf CX0 P w K mg base N qual scope f (.ref c') A outer s H E).nox body te) (hq : te (start N vs) H Q) : codeAny (model P w) A (.call (.ref f) ⟨us, []⟩) (CR CX0 outer P w H s Q E) s := by
  have lim : s.heap.NoLimit := e0.mod.nolimit.keeps fun b o e => (e0.bs b o e).1
  have hkind : ∀ y ∈ ps.zip us, scope.names.lookup y.1 = some .local ∨ (scope.names.lookup y.1 = some .cell ∧ ((cellsFrom (s.heap.objs.size + 1) scope.names []).lookup y.1).isSome = true) := fun ⟨n, v⟩ hy => by
    rcases S.par n (List.of_mem_zip hy).1 with q | q
    · exact .inl q
    · exact .inr ⟨q, PySem.W.cellsFrom_some _ _ _ (.inl q)⟩
  refine kla_callFunE hr.depth ho hd S.co S.gen rfl hcd (hb _ _ _ _ ?_)
  refine wpAny_newFunctionEnv_cells S.kind hkind fun env he' s1 x => ?_
  subst he'
  refine ⟨lim.keeps x.toInCall.keep, kla_codeExpr ?_⟩
  have I : Inv (cxOf CX0 P w K mg base N qual scope f (.ref c') A outer s H E) [] (start N vs) H s1 := inv_start S hr.hd e0 hl r x
  refine wpAny_mono (he.nox [] s1 (start N vs) H _ I hq) (fun u s' ⟨v, H', J, rv, q⟩ => ?_) fun e s' hs => hs
  exact ⟨v, H', J.os, J.bare, J.base, J.hok, rv, q⟩
end L2
set_option Elab.async false
set_option linter.all false
set_option maxRecDepth 100000
set_option maxHeartbeats 4000000
namespace NH
open PySem L2 PyProof.Rows PySem.W
open PySem.SeqAt
theorem it_pair (p : PegD) : itD (L2.pairD p) = true := by simp [L2.pairD, itD, itAll]
theorem it_pairs : ∀ ps : List PegD, itAll (ps.map L2.pairD) = true
  | [] => by simp [itAll]
  | p :: ps => by rw [List.map_cons, itAll, it_pair, it_pairs ps]; rfl
theorem it_pegs (ps : List PegD) : itD (pegsP ps) = true := by
  unfold pegsP
  rw [itD]
  exact it_pairs ps
theorem it_hand (hd : HandD) : itD (handP hd) = true := by
  unfold handP
  rw [itD, itAll, itAll, itAll, it_pegs, itD]
  rfl
end NH
set_option Elab.async false
set_option linter.all false
set_option maxRecDepth 100000
set_option maxHeartbeats 4000000
set_option Elab.async false
set_option linter.all false
set_option maxRecDepth 100000
set_option maxHeartbeats 4000000
namespace NH
open PySem PySem.Spec L2 PyProof.Rows
open PySem.SeqAt
def KeyV {α : Type} (f : α → PyData) (K : PySem.W.Frag) (H : Hp) (a : Addr) (k : α) : Prop := Dp K H (.ref a) (f k)
theorem vals_refs : ∀ {as : List Addr} {us : List Value}, Vals (as.map V.ref) us → us = as.map Value.ref
  | [], us, r => by
    cases r
    rfl
  | a :: as, us, r => by
    cases r with
    | cons h t =>
      cases h
      rw [vals_refs t]
      rfl
theorem vals_of_refs : ∀ (as : List Addr), Vals (as.map V.ref) (as.map Value.ref)
  | [] => .nil
  | a :: as => .cons rfl (vals_of_refs as)
end NH
set_option Elab.async false
set_option linter.all false
set_option maxRecDepth 100000
set_option maxHeartbeats 4000000
namespace L2
open PySem PySem.Spec PyProof.Rows PySem.W
theorem ObjOk.there {P : Program} {w : World} {H : Hp} {h : Heap} {a : Addr} {o : HO} (x : ObjOk P w H h a o) : ∃ u, h.get? a = some u := by
  cases o with
  | lst xs => obtain ⟨_, _, _, _, e⟩ := x; exact ⟨_, e⟩
  | tup xs => obtain ⟨_, _, _, o, e, _⟩ := x; exact ⟨_, e⟩
  | dK kvs => obtain ⟨_, _, _, _, o, _, _, e, _⟩ := x; exact ⟨_, e⟩
  | dT kvs => obtain ⟨_, _, _, _, o, _, _, e, _⟩ := x; exact ⟨_, e⟩
  | set S n => obtain ⟨o, _, _, _, e, _⟩ := x; exact ⟨_, e⟩
  | ins C dx fs => obtain ⟨_, _, _, e, _⟩ := x; exact ⟨_, e⟩
  | own y => exact x
  | xd fs => obtain ⟨_, ⟨_, _, _, e, _⟩, _⟩ := x; exact ⟨_, e⟩
  | rng lo hi => obtain ⟨_, _, _, e⟩ := x; exact ⟨_, e⟩
  | frz ob u => obtain ⟨e, _⟩ := x; exact ⟨_, e⟩
  | tbl ps => exact ⟨_, (show h.get? a = some _ from x)⟩
  | met f y => exact ⟨_, (show h.get? a = some _ from x)⟩
  | ext φ => exact x.2.1
def atH (a : Addr) (o : Obj) : HO := .ext fun h => h.get? a = some o
theorem atH_ok {P : Program} {w : World} {H : Hp} {h : Heap} {a : Addr} {o : Obj} (e : h.get? a = some o) : ObjOk P w H h a (atH a o) := ⟨e, ⟨o, e⟩, fun _ _ x k => k _ x⟩
theorem atH_get {P : Program} {w : World} {H : Hp} {h : Heap} {a : Addr} {o : Obj} (k : HOk P w H h) (e : H a = some (atH a o)) : h.get? a = some o := (k a _ e).1
def codeH (c : Addr) (qual : Str) : HO := .ext fun h => h.CodeRec (.ref c) qual
theorem codeH_ok {P : Program} {w : World} {H : Hp} {h : Heap} {c : Addr} {qual : Str} (e : h.CodeRec (.ref c) qual) : ObjOk P w H h c (codeH c qual) := by
  refine ⟨e, ?_, fun h1 h2 x k => ?_⟩
  · obtain ⟨c', o, _, _, e1, e2, _⟩ := e
    cases e1
    exact ⟨o, e2⟩
  · obtain ⟨c', o, vs, t, e1, e2, r⟩ := x
    cases e1
    exact ⟨_, o, vs, t, rfl, k _ e2, r⟩
theorem codeH_get {P : Program} {w : World} {H : Hp} {h : Heap} {c : Addr} {qual : Str} (k : HOk P w H h) (e : H c = some (codeH c qual)) : h.CodeRec (.ref c) qual := (k c _ e).1
section
variable {X : Cx} {pins : List (Addr × Obj)} {σ : St} {H : Hp} {s : Shared} {h' : Heap} {t' : Nat} {a b : Addr} {o1 o2 : HO}
theorem Inv.void (I : Inv X pins σ H s) (n : s.heap.get? a = none) : H a = none := by
  cases e : H a with
  | none => rfl
  | some u =>
    obtain ⟨v, z⟩ := (I.hok a u e).there
    rw [n] at z
    cases z
theorem Inv.adopt2 (I : Inv X pins σ H s) (k : ∀ b u, s.heap.get? b = some u → h'.get? b = some u) (na : s.heap.get? a = none) (nb : s.heap.get? b = none) (new1 : ∀ H', ObjOk X.prog X.w H' h' a o1) (new2 : ∀ H', ObjOk X.prog X.w H' h' b o2) :
    Inv X pins σ (upd (upd H a o1) b o2) { s with heap := h', toks := t' } := by
  have va := I.void na
  have vb := I.void nb
  have out : ∀ {c u}, H c = some u → upd (upd H a o1) b o2 c = some u := fun {c u} e => by
    rw [upd_ne (ne_of_none e vb), upd_ne (ne_of_none e va)]
    exact e
  refine I.un ⟨fun c u e _ _ _ => k c u e, fun c u e _ _ _ => ⟨u.slots, k c u e⟩, fun c u e n _ => ?_, fun c u e _ => ⟨u, k c u e⟩, fun c xs q => out q, fun c u xs q => out q, fun c ps q => ⟨#[], by rw [out q]; simp⟩⟩ fun c u e => ?_
  · rw [upd_ne (fun z => by rw [z, nb] at e; cases e), upd_ne (fun z => by rw [z, na] at e; cases e)]
    exact n
  · by_cases hb : c = b
    · subst hb
      rw [upd_same] at e
      cases e
      exact new2 _
    · rw [upd_ne hb] at e
      by_cases ha : c = a
      · subst ha
        rw [upd_same] at e
        cases e
        exact new1 _
      · rw [upd_ne ha] at e
        exact (I.hok c u e).stay (fun d v _ q => k d v q) (fun d q => out q) fun d xs q => out q
theorem Inv.write2 {u1 u2 : Obj} (I : Inv X pins σ H s) (m1 : Mut (H a)) (m2 : Mut (H b)) (ne : a ≠ b) (k : ∀ c u, c ≠ a → c ≠ b → s.heap.get? c = some u → h'.get? c = some u) (e1 : h'.get? a = some u1) (e2 : h'.get? b = some u2)
    (new1 : ∀ (H' : Hp) (h : Heap), h.get? a = some u1 → ObjOk X.prog X.w H' h a o1) (new2 : ∀ (H' : Hp) (h : Heap), h.get? b = some u2 → ObjOk X.prog X.w H' h b o2) :
    Inv X pins σ (upd (upd H a o1) b o2) { s with heap := h', toks := t' } := by
  have ta : ∃ v, s.heap.get? a = some v := by
    cases e : H a with
    | none => rw [e] at m1; exact m1.elim
    | some u => exact (I.hok a u e).there
  obtain ⟨v, hv⟩ := ta
  have g1 : (s.heap.update a fun _ => u1).get? a = some u1 := Heap.get?_update_self _ hv (Heap.get?_some_iff.mp e1).2
  have I1 := I.write (t' := s.toks) (o := o1) m1 (.inl rfl) (h' := s.heap.update a fun _ => u1) (fun c u n e => (Heap.get?_update_ne _ _ _ _ n).trans e) ⟨_, g1⟩ (new1 _ _ g1)
  refine I1.write (x := b) (e := b) (o := o2) (by rw [upd_ne ne.symm]; exact m2) (.inl rfl) (fun c u n e => ?_) ⟨_, e2⟩ (new2 _ _ e2)
  by_cases z : c = a
  · subst z
    have : (s.heap.update c fun _ => u1).get? c = some u := e
    rw [g1] at this
    cases this
    exact e1
  · exact k c u z n ((Heap.get?_update_ne s.heap _ _ (fun _ => u1) z).symm.trans e)
end
structure LamAt (H : Hp) (T : Addr) (pos : Pos) (qual : Str) : Prop where
  ex : ∃ ps, H T = some (.tbl ps) ∧ TriplesOk ps.toList ∧ ∀ cv, codeAmong pos ps.toList = some cv → ∃ c, cv = .ref c ∧ H c = some (codeH c qual)
def Same0 (H H' : Hp) : Prop := ∀ b o, H b = some o → H' b = some o
theorem LamAt.same {H H' : Hp} {T : Addr} {pos : Pos} {qual : Str} (L : LamAt H T pos qual) (s : Same0 H H') : LamAt H' T pos qual := by
  obtain ⟨ps, e, t, k⟩ := L.ex
  refine ⟨ps, s _ _ e, t, fun cv h => ?_⟩
  obtain ⟨c, e1, e2⟩ := k cv h
  exact ⟨c, e1, s _ _ e2⟩
theorem LamAt.zero {H : Hp} {T : Addr} {pos : Pos} {qual : Str} (h : H T = some (.tbl #[])) : LamAt H T pos qual := ⟨#[], h, trivial, fun cv e => by cases e⟩
structure StepL (T : Addr) (pos : Pos) (qual : Str) (H H' : Hp) : Prop where
  keep : ∀ b o, b ≠ T → H b = some o → H' b = some o
  lam : LamAt H' T pos qual
theorem StepL.same {T : Addr} {pos : Pos} {qual : Str} {H H1 H2 : Hp} (a : StepL T pos qual H H1) (b : Same0 H1 H2) : StepL T pos qual H H2 := ⟨fun c o n e => b c o (a.keep c o n e), a.lam.same b⟩
section
variable {X : Cx} {pins : List (Addr × Obj)} {σ : St} {H : Hp} {s : Shared} {E : Value → Shared → Prop} {A : Around}
theorem lam_make {params : Arguments} {body : Expr} {scope : Scope} {pos : Pos} {T : Addr} {Q : Value → Shared → Prop} (G : GenHd X T) (I : Inv X pins σ H s) (L : LamAt H T pos (X.env.qual ++ "<lambda>")) (hcl : closureFor scope X.env = pure []) (hdef : defaultsOf params X.env = ([], []))
    (k : ∀ (f c' : Addr) (pm ctv : Value) (H' : Hp) (s' : Shared), Inv X pins σ H' s' → StepL T pos (X.env.qual ++ "<lambda>") H H' → H' f = some (atH f (kla_obj "<lambda>" (X.env.qual ++ "<lambda>") params body scope [] pm c' ctv)) → H' c' = some (codeH c' (X.env.qual ++ "<lambda>")) → Q (.ref f) s') :
    wpAny (model X.prog X.w) A (eval (.Lambda params body scope pos) X.env) Q E s := by
  obtain ⟨ps, hP, ht, hk⟩ := L.ex
  obtain ⟨c, hcode, hC⟩ := G.code
  obtain ⟨bm, ob, b1, b2, b3, b4, b5, b6⟩ := G.blt
  have hT : s.heap.get? T = some (tabObj ps) := I.hok T _ hP
  have hgs := I.mod.glob.keeps I.bk
  have hgP : mainGlobals ≠ T := fun q => by
    obtain ⟨o, es, ep, e, hd, _⟩ := hgs
    rw [q, hT] at e; cases e; cases hd
  have hbP : bm ≠ T := fun q => by
    have e := I.bk _ _ b3
    rw [q, hT] at e; cases e; cases b4
  have hbG : bm ≠ mainGlobals := fun q => by
    obtain ⟨o, es, ep, e, hd, _⟩ := I.mod.glob
    rw [q, e] at b3; cases b3; rw [hd] at b6; cases b6
  have hb : s.heap.BuiltinsAt X.mg T := ⟨bm, ob, b1, b2, hbG, hbP, I.bk _ _ b3, b4, b5, b6⟩
  refine kla_eval hdef ?_
  cases among : codeAmong pos ps.toList with
  | some cv =>
    obtain ⟨c', rfl, hc'⟩ := hk cv among
    refine kla_makeFunctionHit (mg := X.mg) hcl I.ok.glob hgs hcode (hC.keeps I.bk) hT ht among hb fun ctv h' tk kp hsz => ?_
    have I1 := I.kept (t' := tk) kp
    have n1 : H h'.objs.size = none := I1.hok.fresh (Nat.le_refl _)
    have s1 : Same0 H (upd H h'.objs.size (atH h'.objs.size (kla_obj "<lambda>" (X.env.qual ++ "<lambda>") params body scope [] ((X.mg "__name__").getD .none) c' ctv))) := fun b o e => by rw [upd_ne (ne_of_none e n1)]; exact e
    exact k _ c' _ _ _ _ (I1.laid (t' := tk) (a := h'.objs.size) (o := atH h'.objs.size (kla_obj "<lambda>" (X.env.qual ++ "<lambda>") params body scope [] ((X.mg "__name__").getD .none) c' ctv)) (fun b u e => Heap.get?_push_of_some _ e) (Nat.le_refl _) (atH_ok (Heap.get?_push_size _ rfl)))
      ⟨fun b o _ e => s1 b o e, L.same s1⟩ upd_same (s1 _ _ hc')
  | none =>
    refine kla_makeFunction (mg := X.mg) hcl I.ok.glob hgs hcode (hC.keeps I.bk) hT ht among hgP hb fun c' ctv h' tk hx hge hlt hrec htb => ?_
    have I1 := I.grow (t' := tk) (more := #[rawInt pos.line, rawInt pos.col, .ref c']) hP hx htb
    have nc : H c' = none := I.hok.fresh hge
    have nT : ∀ b, H b = none → b ≠ T := fun b n z => by rw [z, hP] at n; cases n
    have nc1 : (upd H T (.tbl (ps ++ #[rawInt pos.line, rawInt pos.col, .ref c']))) c' = none := by rw [upd_ne (nT _ nc)]; exact nc
    have nf : H h'.objs.size = none := I.hok.fresh (Nat.le_of_lt (Nat.lt_of_le_of_lt hge hlt))
    have nf1 : (upd H T (.tbl (ps ++ #[rawInt pos.line, rawInt pos.col, .ref c']))) h'.objs.size = none := by rw [upd_ne (nT _ nf)]; exact nf
    generalize hHT : upd H T (.tbl (ps ++ #[rawInt pos.line, rawInt pos.col, .ref c'])) = H1 at I1 nc1 nf1
    have keepT : ∀ b o, b ≠ T → H b = some o → H1 b = some o := fun b o n e => by rw [← hHT, upd_ne n]; exact e
    have tab1 : H1 T = some (.tbl (ps ++ #[rawInt pos.line, rawInt pos.col, .ref c'])) := by rw [← hHT, upd_same]
    have L0 : ∀ b, h'.objs.size ≤ b → s.heap.get? b = none := fun b hb => Heap.get?_none_of_le (Nat.le_trans (Nat.le_of_lt (Nat.lt_of_le_of_lt hge hlt)) hb)
    -- the code object is taken up, the function object laid
    have I2 : Inv X pins σ (upd H1 c' (codeH c' (X.env.qual ++ "<lambda>"))) { s with heap := h', toks := tk } := by
      have out : ∀ {b u}, H1 b = some u → upd H1 c' (codeH c' (X.env.qual ++ "<lambda>")) b = some u := fun {b u} e => by rw [upd_ne (ne_of_none e nc1)]; exact e
      have hok : HOk X.prog X.w (upd H1 c' (codeH c' (X.env.qual ++ "<lambda>"))) h' := fun b u e => by
        by_cases z : b = c'
        · subst z
          rw [upd_same] at e
          cases e
          exact codeH_ok hrec
        · rw [upd_ne z] at e
          exact (I1.hok b u e).stay (fun d v _ q => q) (fun d q => out q) fun d xs q => out q
      refine I.call' (ch := []) rfl ⟨fun b o q n _ _ => hx b o (nT b n) q, fun b o q n _ _ => ⟨o.slots, hx b o (nT b n) q⟩, fun b o q n _ => ?_, fun b o q _ => ?_, fun b xs q => ?_, fun b o u q => ?_, fun b qs q => ?_⟩ hok I.bare (fun b hb => nomatch hb)
      · rw [upd_ne (fun z => by rw [z] at q; exact absurd (Heap.lt_size q) (Nat.not_lt.mpr hge)), ← hHT, upd_ne (nT b n)]
        exact n
      · by_cases z : b = T
        · rw [z]; exact ⟨_, htb⟩
        · exact ⟨o, hx b o z q⟩
      · exact out (keepT b _ (fun z => by rw [z, hP] at q; cases q) q)
      · exact out (keepT b _ (fun z => by rw [z, hP] at q; cases q) q)
      · by_cases z : b = T
        · subst z
          rw [hP] at q
          cases q
          exact ⟨_, out tab1⟩
        · exact ⟨#[], by rw [out (keepT b _ z q)]; simp⟩
    generalize hH2 : upd H1 c' (codeH c' (X.env.qual ++ "<lambda>")) = H2 at I2
    have nf2 : H2 h'.objs.size = none := I2.hok.fresh (Nat.le_refl _)
    have same1 : Same0 H1 H2 := fun b o e => by rw [← hH2, upd_ne (ne_of_none e nc1)]; exact e
    have cc : H2 c' = some (codeH c' (X.env.qual ++ "<lambda>")) := by rw [← hH2, upd_same]
    have s2 : Same0 H2 (upd H2 h'.objs.size (atH h'.objs.size (kla_obj "<lambda>" (X.env.qual ++ "<lambda>") params body scope [] ((X.mg "__name__").getD .none) c' ctv))) := fun b o e => by rw [upd_ne (ne_of_none e nf2)]; exact e
    refine k _ c' _ _ _ _ (I2.laid (t' := tk) (a := h'.objs.size) (o := atH h'.objs.size (kla_obj "<lambda>" (X.env.qual ++ "<lambda>") params body scope [] ((X.mg "__name__").getD .none) c' ctv)) (fun b u e => Heap.get?_push_of_some _ e) (Nat.le_refl _) (atH_ok (Heap.get?_push_size _ rfl)))
      ⟨fun b o n e => s2 _ _ (same1 _ _ (keepT b o n e)), _, s2 _ _ (same1 _ _ tab1), ?_, fun cv hcv => ?_⟩ upd_same (s2 _ _ cc)
    · rw [Array.toList_append]
      exact TriplesOk_snoc _ _ _ _ ht
    · have : codeAmong pos (ps ++ #[rawInt pos.line, rawInt pos.col, Value.ref c']).toList = some (.ref c') := by
        rw [Array.toList_append]
        exact codeAmong_snoc _ ht among
      rw [this] at hcv
      cases hcv
      exact ⟨c', rfl, s2 _ _ cc⟩
end
end L2
set_option Elab.async false
set_option linter.all false
set_option maxRecDepth 100000
set_option maxHeartbeats 4000000
namespace NH
open PySem PySem.Spec L2 PyProof.Rows PySem.W
structure BesideX (q : Addr) (H H' : Hp) : Prop where
  keep : ∀ b o, b ≠ q → H b = some o → H' b = some o
  ext : ∃ φ, H q = some (.ext φ)
section
variable {K : PySem.W.Frag} {H H' : Hp} {q : Addr}
theorem BesideX.at (B : BesideX q H H') {a : Addr} {o : HO} (h : H a = some o) (n : ∀ φ, o ≠ .ext φ) : H' a = some o := B.keep a o (fun z => by
  obtain ⟨φ, e⟩ := B.ext
  rw [z, e] at h
  exact n φ (Option.some.inj h).symm) h
theorem BesideX.seqT (B : BesideX q H H') {a : Addr} {xs : List V} (h : SqT K H a xs) : SqT K H' a xs := by
  rcases h with (h | ⟨o, h⟩) | h
  · exact .inl (.inl (B.at h fun φ z => by cases z))
  · exact .inl (.inr ⟨o, B.at h fun φ z => by cases z⟩)
  · exact .inr h
theorem BesideX.seqL (B : BesideX q H H') {a : Addr} {xs : List V} (h : SqL K H a xs) : SqL K H' a xs := by
  rcases h with (h | ⟨o, h⟩) | h
  · exact .inl (.inl (B.at h fun φ z => by cases z))
  · exact .inl (.inr ⟨o, B.at h fun φ z => by cases z⟩)
  · exact .inr h
mutual
theorem Dp.beside (B : BesideX q H H') : ∀ (d : PyData) (v : V), Dp K H v d → Dp K H' v d
  | .none, _, h => by cases h; exact .non
  | .bool b, _, h => by cases h; exact .bl b
  | .int i, _, h => by cases h; exact .int i
  | .str x, _, h => by cases h; exact .str x
  | .list ds, _, h => by
    cases h with
    | lst hs ha => exact .lst (B.seqL hs) (Dp.besideAll B ds _ ha)
  | .tuple ds, _, h => by
    cases h with
    | tup hs ha => exact .tup (B.seqT hs) (Dp.besideAll B ds _ ha)
  | .dict _, _, h => by cases h
theorem Dp.besideAll (B : BesideX q H H') : ∀ (ds : List PyData) (vs : List V), DpAll K H vs ds → DpAll K H' vs ds
  | [], _, h => by cases h; exact .nil
  | d :: ds, _, h => by
    cases h with
    | cons h1 h2 => exact .cons (Dp.beside B d _ h1) (Dp.besideAll B ds _ h2)
end
end
structure SortO (prog : Program) (w : World) (α : Type) [DecidableEq α] (f : α → PyData) (lt : α → α → Bool) : Prop where
  it : ∀ a, itD (f a) = true
  tr : ∀ a b c, lt a b = true → lt b c = true → lt a c = true
  tot : ∀ a b, a ≠ b → lt a b = false → lt b a = true
  cmp : ∀ (A : Around) (s : Shared) (a b : Addr) (k j : α) (Q : Bool → Shared → Prop), KeyAt f s.heap a k → KeyAt f s.heap b j → A.units + 20 < cLine → Q (lt k j) s → wpAny (model prog w) A (keyLt' (tuples' true) (.ref a) (.ref b)) Q (fun _ _ => False) s
  fst : ∀ (h : Heap) (a : Addr) (k : α), KeyAt f h a k → ∃ o xs n i t, h.get? a = some o ∧ o.cls = .type "tuple" ∧ o.data = .seq xs n ∧ xs[0]? = some (Value.int i t)
theorem SortO.keep {prog : Program} {w : World} {α : Type} [DecidableEq α] {f : α → PyData} {lt : α → α → Bool} (K : SortO prog w α f lt) {h h' : Heap} {a : Addr} {k : α} (x : KeyAt f h a k) (kp : KeepT h h') : KeyAt f h' a k := by
  obtain ⟨as, r⟩ := x
  exact ⟨as, reads_keep kp _ _ _ (K.it k) r⟩
def tSortLam (K : PySem.W.Frag) (T : Addr) (pos : Pos) (qual : Str) (N : List Str) (te tl : TE) : TE := fun σ H Q => te σ H fun v H1 => ∃ (α : Type) (d : DecidableEq α) (f : α → PyData) (lt : α → α → Bool), (∀ prog w, @SortO prog w α d f lt) ∧ ∃ (a : Addr) (as : List Addr) (kz : List α),
  v = .ref a ∧ H1 a = some (.lst (as.map V.ref)) ∧ kz.length = as.length ∧ kz.Nodup ∧ as.length < 64 ∧ LamAt H1 T pos qual ∧
  (∀ (i : Nat) (b : Addr) (k : α) (H2 : Hp), as[i]? = some b → kz[i]? = some k → StepL T pos qual H1 H2 → tl (L2.start N [V.ref b]) H2 fun y H3 => Same H2 H3 ∧ ∃ c, y = .ref c ∧ KeyV f K H3 c k) ∧
  ∀ (l : Addr) (H2 : Hp) (L : List (Addr × α)), StepL T pos qual H1 H2 → H1 l = none → H2 l = some (.lst (L.map fun x => V.ref x.1)) → L.Perm (as.zip kz) → L.Pairwise (fun x y => lt x.2 y.2 = true) → Q (.ref l) H2
structure KeysTo (X : Cx) (pins : List (Addr × Obj)) (σ : L2.St) (α : Type) (f : α → PyData) (H2 : Hp) (a kS : Addr) (e1 : Nat) (kz : List α) (ks : List Value) (s : Shared) : Prop where
  ex : ∃ (H : Hp) (cs : List Addr) (n : Nat), ks = cs.map Value.ref ∧ Inv X pins σ H s ∧ Same H2 H ∧ H a = some (atH a (seqObj "list" #[] e1)) ∧ H kS = some (atH kS (seqObj "list" (List.toArray ks) n)) ∧ ∀ (i : Nat) c k, cs[i]? = some c → kz[i]? = some k → KeyV f X.K H c k
section
variable {α : Type} [DecidableEq α] {f : α → PyData} {lt : α → α → Bool} {X : Cx} {pins : List (Addr × Obj)} {σ : L2.St} {H2 : Hp} {s : Shared} {E : Value → Shared → Prop}
theorem keyV_same {K : PySem.W.Frag} {H H' : Hp} {c : Addr} {k : α} (s : Same H H') (h : KeyV f K H c k) : KeyV f K H' c k := Dp.same s _ _ h
theorem tups_ofL {prog : Program} {w : World} (K : SortO prog w α f lt) {h : Heap} : ∀ (cs : List Addr) (kz : List α), cs.length = kz.length → (∀ (i : Nat) c k, cs[i]? = some c → kz[i]? = some k → KeyAt f h c k) → ∃ fs : List Value, KatTups h (cs.map Value.ref) fs ∧ fs.length = cs.length ∧ ∀ v ∈ fs, ∃ i t, v = .int i t
  | [], _, _, _ => ⟨[], KatTups.nil, rfl, fun v hv => nomatch hv⟩
  | c :: cs, [], e, _ => by cases e
  | c :: cs, k :: kz, e, hk => by
    obtain ⟨fs, t1, t2, t3⟩ := tups_ofL K cs kz (Nat.succ.inj e) fun i c k e1 e2 => hk (i + 1) c k (by simpa using e1) (by simpa using e2)
    obtain ⟨o, xs, n, i, t, e1, e2, e3, e4⟩ := K.fst h _ _ (hk 0 c k rfl rfl)
    refine ⟨.int i t :: fs, KatTups.cons e1 e2 e3 e4 t1, by rw [List.length_cons, List.length_cons, t2], fun v hv => ?_⟩
    rcases List.mem_cons.mp hv with rfl | hv
    · exact ⟨i, t, rfl⟩
    · exact t3 v hv
def ordK (lt : α → α → Bool) (kz : List α) (i j : Nat) : Bool := match kz[i]?, kz[j]? with
  | some x, some y => lt x y
  | _, _ => false
theorem ordK_at {kz : List α} {i j : Nat} {x y : α} (e1 : kz[i]? = some x) (e2 : kz[j]? = some y) : ordK lt kz i j = lt x y := by
  unfold ordK
  rw [e1, e2]
theorem sort_pick {kz : List α} {as : List Addr} {q : Array Nat} (kl : kz.length = as.length) (hq : Prm as.length q) (hs : Srt (ordK lt kz) q as.length) :
    ∃ L : List (Addr × α), q.toList.map (fun i => (as.map Value.ref).getD i Value.none) = L.map (fun x => Value.ref x.1) ∧ L.length = as.length ∧ L.Perm (as.zip kz) ∧ L.Pairwise (fun x y => lt x.2 y.2 = true) := by
  have qlt : ∀ i ∈ q.toList, i < as.length := fun i hi => List.mem_range.mp (hq.perm.mem_iff.mp hi)
  let L : List (Addr × α) := q.toList.filterMap fun i => (as.zip kz)[i]?
  have zl : (as.zip kz).length = as.length := by rw [List.length_zip, kl, Nat.min_self]
  have pick : ∀ l : List Nat, (∀ i ∈ l, i < as.length) → (l.filterMap fun i => (as.zip kz)[i]?).map (fun x => Value.ref x.1) = l.map fun i => (as.map Value.ref).getD i .none := by
    intro l hl
    induction l with
    | nil => rfl
    | cons i l ih =>
      have il := hl i List.mem_cons_self
      have e0 : (as.zip kz)[i]? = some ((as.zip kz)[i]'(by omega)) := List.getElem?_eq_getElem _
      rw [List.filterMap_cons_some (f := fun i : Nat => (as.zip kz)[i]?) e0, List.map_cons, List.map_cons, ih fun j hj => hl j (List.mem_cons_of_mem _ hj)]
      congr 1
      rw [List.getD_eq_getElem?_getD, List.getElem?_map, List.getElem?_eq_getElem il, List.getElem_zip]
      rfl
  have hv : q.toList.map (fun i => (as.map Value.ref).getD i .none) = L.map fun x => Value.ref x.1 := (pick _ qlt).symm
  have vl : L.length = as.length := by
    have := congrArg List.length hv
    rw [List.length_map, List.length_map, Array.length_toList, hq.size] at this
    exact this.symm
  refine ⟨L, hv, vl, ?_, ?_⟩
  · have p1 : L.Perm ((List.range as.length).filterMap fun i => (as.zip kz)[i]?) := hq.perm.filterMap _
    have p2 : ((List.range as.length).filterMap fun i => (as.zip kz)[i]?) = as.zip kz := by
      rw [← zl]
      generalize as.zip kz = M
      induction M with
      | nil => rfl
      | cons x M ih =>
        rw [List.length_cons, List.range_succ_eq_map, List.filterMap_cons_some (f := fun i : Nat => (x :: M)[i]?) (a := 0) (b := x) rfl, List.filterMap_map]
        exact congrArg (x :: ·) ih
    rw [p2] at p1
    exact p1
  · have lat : ∀ (l : List Nat), (∀ i ∈ l, i < as.length) → ∀ m : Nat, (l.filterMap fun i => (as.zip kz)[i]?)[m]? = (l[m]?).bind fun i => (as.zip kz)[i]? := by
      intro l hl
      induction l with
      | nil => intro m; simp
      | cons i l ih =>
        intro m
        have il := hl i List.mem_cons_self
        have e0 : (as.zip kz)[i]? = some ((as.zip kz)[i]'(by omega)) := List.getElem?_eq_getElem _
        rw [List.filterMap_cons_some (f := fun i : Nat => (as.zip kz)[i]?) e0]
        cases m with
        | zero => exact e0.symm
        | succ m => exact ih (fun j hj => hl j (List.mem_cons_of_mem _ hj)) m
    rw [List.pairwise_iff_getElem]
    intro a' b' ha' hb' hab
    have ea : L[a']? = some L[a'] := List.getElem?_eq_getElem ha'
    have eb : L[b']? = some L[b'] := List.getElem?_eq_getElem hb'
    have hb2 : b' < as.length := by omega
    generalize L[a'] = x at ea ⊢
    generalize L[b'] = y at eb ⊢
    rw [lat _ qlt] at ea eb
    obtain ⟨i, ei, ex⟩ := Option.bind_eq_some_iff.mp ea
    obtain ⟨j, ej, ey⟩ := Option.bind_eq_some_iff.mp eb
    have := hs a' b' hab hb2
    have ga : gt q a' = i := by
      unfold gt
      rw [Array.getD_eq_getD_getElem?, ← Array.getElem?_toList, ei]
      rfl
    have gb : gt q b' = j := by
      unfold gt
      rw [Array.getD_eq_getD_getElem?, ← Array.getElem?_toList, ej]
      rfl
    rw [ga, gb] at this
    rw [List.getElem?_zip_eq_some] at ex ey
    rw [ordK_at ex.2 ey.2] at this
    exact this
theorem sort_end {kz : List α} {as : List Addr} {a kS : Addr} {e1 : Nat} {ks : List Value} {P : PySem.Fin → Shared → Prop} (K : SortO X.prog X.w α f lt) (kl : kz.length = as.length) (nd : kz.Nodup) (h64 : as.length < 64) (lk : ks.length = (as.map Value.ref).length) (hr : X.A.units + 30 < cLine) (ne : kS ≠ a)
    (J : KeysTo X pins σ α f H2 a kS e1 kz ks s)
    (fin : ∀ (H : Hp) (s' : Shared) (L : List (Addr × α)), Inv X pins σ H s' → (∀ b o, b ≠ a → b ≠ kS → H2 b = some o → H b = some o) → H a = some (.lst (L.map fun x => V.ref x.1)) → L.Perm (as.zip kz) → L.Pairwise (fun x y => lt x.2 y.2 = true) → P (.done (.ret .none)) s') :
    KeyEnd X.prog X.w X.A.in1.in1 (tuples' true) (ordK lt kz) a kS e1 (as.map Value.ref) ks P s := by
  obtain ⟨H, cs, n, rfl, I, sm, ha, hk, hc⟩ := J.ex
  have cl : cs.length = as.length := by rw [List.length_map, List.length_map] at lk; exact lk
  have keys : ∀ (i : Nat) c k, cs[i]? = some c → kz[i]? = some k → KeyAt f s.heap c k := fun i c k e1 e2 => Dp.reads I _ _ _ (hc i c k e1 e2) rfl
  have at1 : ∀ i, i < as.length → ∃ x, kz[i]? = some x := fun i hi => ⟨_, List.getElem?_eq_getElem (by omega)⟩
  have at2 : ∀ i, i < as.length → ∃ x, cs[i]? = some x := fun i hi => ⟨_, List.getElem?_eq_getElem (by omega)⟩
  have gv : ∀ i x, cs[i]? = some x → (cs.map Value.ref).getD i .none = .ref x := fun i x e => by
    rw [List.getD_eq_getElem?_getD, List.getElem?_map, e]
    rfl
  refine ⟨atH_get I.hok ha, fun h2 E Q q => ?_, fun i j Q hi hj q => ?_, fun a b c ha hb hc => ?_, fun a b ha hb hab => ?_, fun q h' hq hs he hke keep => ?_⟩
  · rw [List.length_map] at h2
    obtain ⟨fs, t1, t2, t3⟩ := tups_ofL K cs kz (by omega) keys
    refine kat_kind (T := .type "int") t1 (by omega) (fun v hv => ?_) rfl q
    obtain ⟨i, t, rfl⟩ := t3 v hv
    exact Looks.of_pure rfl
  · rw [List.length_map] at hi hj
    obtain ⟨x, ex⟩ := at1 i hi
    obtain ⟨y, ey⟩ := at1 j hj
    obtain ⟨c, ec⟩ := at2 i hi
    obtain ⟨d, ed⟩ := at2 j hj
    rw [gv i c ec, gv j d ed]
    rw [ordK_at ex ey] at q
    exact K.cmp _ _ _ _ _ _ _ (keys i c x ec ex) (keys j d y ed ey) (by show X.A.units + 1 + 1 + 20 < cLine; omega) q
  · rw [List.length_map] at ha hb hc
    obtain ⟨x, ex⟩ := at1 a ha
    obtain ⟨y, ey⟩ := at1 b hb
    obtain ⟨z, ez⟩ := at1 c hc
    rw [ordK_at ex ey, ordK_at ey ez, ordK_at ex ez]
    exact K.tr _ _ _
  · rw [List.length_map] at ha hb
    obtain ⟨x, ex⟩ := at1 a ha
    obtain ⟨y, ey⟩ := at1 b hb
    rw [ordK_at ex ey, ordK_at ey ex]
    refine K.tot _ _ fun z => hab ?_
    exact (List.getElem?_inj (List.getElem?_eq_some_iff.mp ex).1 nd).mp (ex.trans (by rw [ey, z]))
  · rw [List.length_map] at hq hs
    obtain ⟨e, he⟩ := he
    obtain ⟨e', hke⟩ := hke
    obtain ⟨L, hv, vl, lp, lsrt⟩ := sort_pick (lt := lt) kl hq hs
    rw [hv] at he
    have I2 := I.write2 (t' := s.toks) (o1 := .lst (L.map fun x => V.ref x.1)) (o2 := .lst []) (a := a) (b := kS) (by rw [ha]; exact trivial) (by rw [hk]; exact trivial) ne.symm keep he hke
      (fun H' h e => ⟨by rw [List.length_map, vl, sizeLine_eq]; omega, L.map fun x => Value.ref x.1, _, by
        have := vals_of_refs (L.map fun x => x.1)
        rw [List.map_map, List.map_map] at this
        exact this, e⟩) (fun H' h e => ⟨Nat.zero_le _, [], _, .nil, e⟩)
    refine fin _ _ L I2 (fun b o n1 n2 e => ?_) ?_ lp lsrt
    · rw [upd_ne n2, upd_ne n1]
      exact sm b o e
    · rw [upd_ne ne.symm, upd_same]
end
theorem pe_sortLam {X : Cx} {k : Nat} {e body : Expr} {params : Arguments} {scope : Scope} {N : List Str} {te tl : TE} {p pos lpos kpos : Pos} {T : Addr} {x : Str} (hc : X.calm = true) (hr : Room (k + 3) X.A) (G : GenHd X T) (hg : Gl X "sorted") (hm : X.mg "sorted" = none) (he : PE X e te)
    (S : FnScope N [x] scope) (hcl : closureFor scope X.env = pure []) (hdef : defaultsOf params X.env = ([], [])) (hb : ∀ (qual : Str) (pm cv ctv u : Value) (s : Shared), BindsTo s (kla_fn "<lambda>" qual params body scope [] pm cv ctv) ⟨[u], []⟩ [(x, u)])
    (hl : ∀ (A : Around) (f c' : Addr) (s : Shared) (H : Hp), Room k A → PE (cxOf CX0 X.prog X.w X.K X.mg X.base N (X.env.qual ++ "<lambda>") scope f (.ref c') A X.stack s H fun _ _ _ => False).nox body tl)
    (hst : starEach [e] X.env = [(false, eval e X.env)] := by rfl) :
    PE X (.Call (.Name "sorted" p) [e] [⟨some "key", .Lambda params body scope lpos, kpos⟩] pos) (tSortLam X.K T lpos (X.env.qual ++ "<lambda>") N te tl) := by
  intro pins s σ H Q I h
  have b1 : bootBuiltins "sorted" = some (.builtin "sorted") := by decide +kernel
  refine wpAny_Call_Name_kw (ld_blt I hg hm b1 (callWith_kw ?_ (by rw [hst]; rfl) (by rw [hst]; rfl)))
  rw [hst]
  refine Calls.spliced_cons (thn (he pins s σ H _ I h) fun u s1 ⟨v, H1, I1, rx, α, dα, f, lt, KO, a, as, kz, ev, hq, kl, nd, h64, L, hkeys, q⟩ => Calls.spliced_nil ?_)
  subst ev
  cases (show u = Value.ref a from rx)
  refine kws_cons (lam_make (A := X.A) G I1 L hcl hdef fun fa c' pm ctv H2 s2 I2 st hf hc' => kws_nil ?_)
  obtain ⟨ps0, eT, _, _⟩ := L.ex
  have hq2 : H2 a = some (.lst (as.map V.ref)) := st.keep a _ (fun z => by rw [z, eT] at hq; cases hq) hq
  obtain ⟨its, rv, lp, _⟩ := I2.list (SqL.of hq2)
  obtain rfl := vals_refs rv
  have hu := hr.units
  have ofn := atH_get I2.hok hf
  have ocd := codeH_get I2.hok hc'
  obtain ⟨hp, gs, dr, tk, os⟩ := s2
  refine call_function_entry_kw kind_sorted plain_sorted entry_sorted (ksk_s1 _ _) ?_
  unfold Builtin.«sorted»
  refine wpAny_bind (m := checkCount "sorted" 1 1 _) (wpAny_pure ?_)
  refine wpAny_bind (collect_list lp.isList ?_ (by rw [List.length_map, sizeLine_eq]; omega))
  have keep1 : ∀ b o, hp.get? b = some o → ((hp.push (seqObj "list" #[] 0)).update hp.objs.size (Obj.mapSeq (· ++ (as.map Value.ref).toArray))).get? b = some o := fun b o e => (Heap.get?_update_ne _ _ _ _ (Nat.ne_of_lt (Heap.lt_size e))).trans (Heap.get?_push_of_some _ e)
  dsimp only
  generalize ((hp.push (seqObj "list" #[] 0)).update hp.objs.size (Obj.mapSeq (· ++ (as.map Value.ref).toArray))) = h1 at keep1 ⊢
  refine wpAny_bind (wpAny_newList ?_ (by rw [List.length_map, sizeLine_eq]; omega))
  dsimp only
  have ol : (h1.push (seqObj "list" (as.map Value.ref).toArray 0)).get? h1.objs.size = some (seqObj "list" (as.map Value.ref).toArray 0) := Heap.get?_push_size _ rfl
  have keep2 : ∀ b o, hp.get? b = some o → (h1.push (seqObj "list" (as.map Value.ref).toArray 0)).get? b = some o := fun b o e => Heap.get?_push_of_some _ (keep1 b o e)
  have nD : hp.get? h1.objs.size = none := by
    cases e : hp.get? h1.objs.size with
    | none => rfl
    | some o => exact absurd (Heap.lt_size (keep1 _ _ e)) (Nat.lt_irrefl _)
  generalize hh2 : (h1.push (seqObj "list" (as.map Value.ref).toArray 0)) = h2 at ol keep2 ⊢
  generalize h1.objs.size = D at ol nD ⊢
  refine wpAny_bind (wpAny_holding (wpAny_call_entry_kw slot_list_sort ⟨_, ol, rfl⟩ entry_list_sort ?_ (ksk_l1 _ _)))
  show wpAny _ X.A.in1.in1 (Builtin.«list.sort» ⟨[.ref D], [(Str.ofString "key", .ref fa)]⟩) _ _ _
  rw [ksk_t1]
  refine sort_keyed (kd := tuples' true) (O := ordK lt kz) ol (by rw [List.length_map]; exact h64) fun kS e1 h3 nk nk0 kp oa ok => ?_
  have keep3 : ∀ b o, hp.get? b = some o → h3.get? b = some o := fun b o e => kp b o (fun z => by rw [z, nD] at e; cases e) (keep2 b o e)
  have nK : hp.get? kS = none := by
    cases e : hp.get? kS with
    | none => rfl
    | some o =>
      have := keep2 _ _ e
      rw [show h2.get? kS = none from nk0] at this
      cases this
  have vD := I2.void nD
  have vK := I2.void nK
  refine ⟨KeysTo X pins σ α f H2 D kS e1 kz, fun ks y s3 n ex J hk => ?_, ?_, fun ks s3 lk J => ?_⟩
  · obtain ⟨H3, cs, n', rfl, I3, sm, hA, hK, hC⟩ := J.ex
    rw [List.length_map, List.getElem?_map] at ex
    obtain ⟨b, eb, rfl⟩ := Option.map_eq_some_iff.mp ex
    have cl : cs.length < as.length := (List.getElem?_eq_some_iff.mp eb).1
    have ek : kz[cs.length]? = some (kz[cs.length]'(by omega)) := List.getElem?_eq_getElem _
    have sm0 : Same0 H2 H3 := sm
    have rk : Room (k + 1) X.A.in1.in1 := Room.in1 (Room.in1 hr)
    refine wpAny_call (codeAny_mono (lam_of (K := X.K) (mg := X.mg) (base := X.base) (outer := X.stack) (N := N) (vs := [.ref b]) (E := fun _ _ _ => False) S (atH_get I3.hok (sm0 _ _ hf)) rfl (codeH_get I3.hok (sm0 _ _ hc')) rk I3.env0.in1.in1 (hb _ _ _ _ _ _) rfl (.cons rfl .nil) (hl _ _ _ _ _ (rk.mono (Nat.le_succ _))) (hkeys _ b _ H3 eb ek (st.same sm0))) fun r s4 hr4 => ?_)
    cases r with
    | error e => exact hr4.elim
    | ok fl =>
      cases fl with
      | next => exact False.elim hr4
      | brk => exact False.elim hr4
      | cont => exact False.elim hr4
      | ret u =>
        obtain ⟨v, H4, I4, rv4, sm4, c, rfl, hkv⟩ := I3.after hr4
        cases (show u = Value.ref c from rv4)
        have hK4 := sm4 _ _ hK
        have hk4 := atH_get I4.hok hK4
        have en : n' = n := by
          have e1 := atH_get I3.hok hK
          rw [hk] at e1
          injection e1 with e1
          injection e1 with _ _ e1
          injection e1 with _ e1
          exact e1.symm
        subst en
        refine ⟨hk4, fun h' n2 kp4 hk5 => ⟨upd H4 kS (atH kS (seqObj "list" (List.toArray (cs.map Value.ref ++ [.ref c])) n2)), cs ++ [c], n2, by rw [List.map_append]; rfl, I4.write (t' := s4.toks) (x := kS) (e := kS) (by rw [hK4]; exact trivial) (.inl rfl) kp4 ⟨_, hk5⟩ (atH_ok hk5), ?_, ?_, upd_same, ?_⟩⟩
        · intro b' o e
          rw [upd_ne (ne_of_none e vK)]
          exact sm4 _ _ (sm _ _ e)
        · rw [upd_ne nk.symm]
          exact sm4 _ _ hA
        · intro i c' k' e1 e2
          have B : BesideX kS H4 (upd H4 kS (atH kS (seqObj "list" (List.toArray (cs.map Value.ref ++ [.ref c])) n2))) := ⟨fun b' o nb e => by rw [upd_ne nb]; exact e, _, hK4⟩
          by_cases z : i < cs.length
          · rw [List.getElem?_append_left z] at e1
            exact Dp.beside B _ _ (keyV_same sm4 (hC i c' k' e1 e2))
          · obtain rfl : i = cs.length := by
              have := (List.getElem?_eq_some_iff.mp e1).1
              rw [List.length_append] at this
              have : i < cs.length + 1 := this
              omega
            rw [List.getElem?_append_right (Nat.le_refl _), Nat.sub_self] at e1
            cases e1
            rw [ek] at e2
            cases e2
            exact Dp.beside B _ _ hkv
  · refine ⟨_, [], 0, rfl, I2.adopt2 (t' := tk) (a := D) (b := kS) keep3 nD nK (fun _ => atH_ok oa) (fun _ => atH_ok ok), fun b o e => ?_, ?_, upd_same, fun i c k e1 => by cases e1⟩
    · rw [upd_ne (ne_of_none e vK), upd_ne (ne_of_none e vD)]
      exact e
    · rw [upd_ne nk.symm, upd_same]
  · refine sort_end (KO _ _) kl nd h64 lk (by omega) nk J fun H5 s5 M I5 kp5 hl5 pm srt => ⟨_, rfl, wpAny_pure ⟨_, rfl, .ref D, H5, I5, rfl, ?_⟩⟩
    have sm5 : Same0 H2 H5 := fun b o e => kp5 b o (ne_of_none e vD) (ne_of_none e vK) e
    refine q D H5 M (st.same sm5) ?_ hl5 pm srt
    cases e : H1 D with
    | none => rfl
    | some o =>
      by_cases z : D = T
      · obtain ⟨ps1, eT1, _, _⟩ := st.lam.ex
        rw [← z, vD] at eT1
        cases eT1
      · have := st.keep D o z e
        rw [vD] at this
        cases this
end NH
set_option Elab.async false
set_option linter.all false
set_option maxRecDepth 100000
set_option maxHeartbeats 4000000
namespace NH
open PySem PySem.Spec L2 PyProof.Rows PySem.W
open PySem.SeqAt
def rSortK (K : PySem.W.Frag) : List V → Hp → VK → Prop := fun vs H Q => ∃ (α : Type) (d : DecidableEq α) (f : α → PyData) (lt : α → α → Bool), (∀ prog w, @SortO prog w α d f lt) ∧ ∃ (a : Addr) (as : List Addr) (kz : List α),
  vs = [.ref a] ∧ H a = some (.lst (as.map V.ref)) ∧ Paired (KeyV f K H) as kz ∧ kz.Nodup ∧ as.length < 64 ∧
  ∀ (l : Addr) (L : List (Addr × α)), H l = none → L.Perm (as.zip kz) → L.Pairwise (fun x y => lt x.2 y.2 = true) → Q (.ref l) (upd H l (.lst (L.map fun x => V.ref x.1)))
theorem cr_sortK {X : Cx} {k : Nat} (hr : Room k X.A) : CallR X (.builtin "sorted") (rSortK X.K) := by
  intro pins s σ H vs us Q I r h
  obtain ⟨α, dα, f, lt, KO, a, as, kz, rfl, hq, hp, nd, h64, q⟩ := h
  obtain ⟨its, rv, lp, _⟩ := I.list (SqL.of hq)
  rw [Vals.ref1 r]
  obtain rfl := vals_refs rv
  have K := KO X.prog X.w
  have hu := hr.units
  have kl : kz.length = as.length := (Paired.length hp).symm
  have at1 : ∀ i, i < as.length → ∃ x, kz[i]? = some x := fun i hi => ⟨_, List.getElem?_eq_getElem (by omega)⟩
  have at2 : ∀ i, i < as.length → ∃ x, as[i]? = some x := fun i hi => ⟨_, List.getElem?_eq_getElem hi⟩
  have gv : ∀ i x, as[i]? = some x → (as.map Value.ref).getD i .none = .ref x := fun i x e => by
    rw [List.getD_eq_getElem?_getD, List.getElem?_map, e]
    rfl
  have keys0 : ∀ (i : Nat) c k, as[i]? = some c → kz[i]? = some k → KeyAt f s.heap c k := fun i c k e1 e2 => by
    obtain ⟨k', e3, h3⟩ := paired_get hp e1
    rw [e2] at e3
    cases e3
    exact Dp.reads I _ _ _ h3 rfl
  obtain ⟨hp', gs, dr, tk, os⟩ := s
  refine Calls.call_function_entry kind_sorted plain_sorted entry_sorted (args_sorted1 _) ?_
  unfold Builtin.«sorted»
  refine wpAny_bind (m := checkCount "sorted" 1 1 _) (wpAny_pure ?_)
  refine wpAny_bind (collect_list lp.isList ?_ (by rw [List.length_map, sizeLine_eq]; omega))
  have keep1 : ∀ b o, hp'.get? b = some o → ((hp'.push (seqObj "list" #[] 0)).update hp'.objs.size (Obj.mapSeq (· ++ (as.map Value.ref).toArray))).get? b = some o := fun b o e => (Heap.get?_update_ne _ _ _ _ (Nat.ne_of_lt (Heap.lt_size e))).trans (Heap.get?_push_of_some _ e)
  have sz1 : hp'.objs.size ≤ ((hp'.push (seqObj "list" #[] 0)).update hp'.objs.size (Obj.mapSeq (· ++ (as.map Value.ref).toArray))).objs.size := by
    rw [Heap.size_update, Heap.size_push]
    exact Nat.le_succ _
  dsimp only
  generalize ((hp'.push (seqObj "list" #[] 0)).update hp'.objs.size (Obj.mapSeq (· ++ (as.map Value.ref).toArray))) = h1 at keep1 sz1 ⊢
  refine wpAny_bind (wpAny_newList ?_ (by rw [List.length_map, sizeLine_eq]; omega))
  dsimp only
  have ol : (h1.push (seqObj "list" (as.map Value.ref).toArray 0)).get? h1.objs.size = some (seqObj "list" (as.map Value.ref).toArray 0) := Heap.get?_push_size _ rfl
  have keep2 : ∀ b o, hp'.get? b = some o → (h1.push (seqObj "list" (as.map Value.ref).toArray 0)).get? b = some o := fun b o e => Heap.get?_push_of_some _ (keep1 b o e)
  have old2 : Old hp' (h1.push (seqObj "list" (as.map Value.ref).toArray 0)) := keep2
  refine wpAny_bind (wpAny_holding (wpAny_call_entry slot_list_sort ⟨_, ol, rfl⟩ entry_list_sort (sort_keys (kd := tuples' true) (O := ordK lt kz) ol (by rw [List.length_map]; omega) ?_ ?_ ?_ ?_ ?_) (args_list_sort _)))
  · intro h2 s2 kp E' Q' q'
    rw [List.length_map] at h2
    have kk : KeepT hp' s2.heap := old2.keepT.trans kp
    obtain ⟨fs, t1, t2, t3⟩ := tups_ofL K as kz kl.symm fun i c k e1 e2 => K.keep (keys0 i c k e1 e2) kk
    refine kat_kind (T := .type "int") t1 (by omega) (fun v hv => ?_) rfl q'
    obtain ⟨i, t, rfl⟩ := t3 v hv
    exact Looks.of_pure rfl
  · intro s2 kp i j Q' hi hj q'
    rw [List.length_map] at hi hj
    obtain ⟨x, ex⟩ := at1 i hi
    obtain ⟨y, ey⟩ := at1 j hj
    obtain ⟨c, ec⟩ := at2 i hi
    obtain ⟨d, ed⟩ := at2 j hj
    rw [gv i c ec, gv j d ed]
    rw [ordK_at ex ey] at q'
    have kk : KeepT hp' s2.heap := old2.keepT.trans kp
    exact K.cmp _ _ _ _ _ _ _ (K.keep (keys0 i c x ec ex) kk) (K.keep (keys0 j d y ed ey) kk) (by show X.A.units + 1 + 1 + 20 < cLine; omega) q'
  · intro a b c ha hb hc
    rw [List.length_map] at ha hb hc
    obtain ⟨x, ex⟩ := at1 a ha
    obtain ⟨y, ey⟩ := at1 b hb
    obtain ⟨z, ez⟩ := at1 c hc
    rw [ordK_at ex ey, ordK_at ey ez, ordK_at ex ez]
    exact K.tr _ _ _
  · intro a b ha hb hab
    rw [List.length_map] at ha hb
    obtain ⟨x, ex⟩ := at1 a ha
    obtain ⟨y, ey⟩ := at1 b hb
    rw [ordK_at ex ey, ordK_at ey ex]
    refine K.tot _ _ fun z => hab ?_
    exact (List.getElem?_inj (List.getElem?_eq_some_iff.mp ex).1 nd).mp (ex.trans (by rw [ey, z]))
  · intro qa h' hqa hs ⟨e, he⟩ keep
    rw [List.length_map] at hqa hs
    obtain ⟨L, hv, vl, pm, srt⟩ := sort_pick (lt := lt) kl hqa hs
    rw [hv] at he
    refine ⟨_, rfl, wpAny_pure ⟨_, rfl, ?_⟩⟩
    have fr : H h1.objs.size = none := I.hok.fresh sz1
    have old3 : ∀ b o, hp'.get? b = some o → h'.get? b = some o := fun b o eb => keep b o (fun z => by
      have := Heap.lt_size eb
      rw [z] at this
      exact absurd (Nat.lt_of_lt_of_le this sz1) (Nat.lt_irrefl _)) (keep2 b o eb)
    refine ⟨.ref h1.objs.size, _, I.laid (t' := tk) (a := h1.objs.size) (o := .lst (L.map fun x => V.ref x.1)) old3 sz1 ⟨by rw [List.length_map, vl, sizeLine_eq]; omega, L.map fun x => Value.ref x.1, e, ?_, he⟩, rfl, q _ L fr pm srt⟩
    have := vals_of_refs (L.map fun x => x.1)
    rw [List.map_map, List.map_map] at this
    exact this
abbrev NumK := Nat × List Nat
def ltNums : List Nat → List Nat → Bool
  | [], [] => false
  | [], _ :: _ => true
  | _ :: _, [] => false
  | x :: xs, y :: ys => if x = y then ltNums xs ys else decide (x < y)
def ltNumK (x y : NumK) : Bool := if x.1 = y.1 then ltNums x.2 y.2 else decide (x.1 < y.1)
theorem ltNums_tr : ∀ {a b c : List Nat}, ltNums a b = true → ltNums b c = true → ltNums a c = true
  | [], [], _, h1, _ => by simp [ltNums] at h1
  | [], _ :: _, [], _, h2 => by simp [ltNums] at h2
  | [], _ :: _, _ :: _, _, _ => by simp [ltNums]
  | _ :: _, [], _, h1, _ => by simp [ltNums] at h1
  | _ :: _, _ :: _, [], _, h2 => by simp [ltNums] at h2
  | a :: as, b :: bs, c :: cs, h1, h2 => by
    unfold ltNums at h1 h2 ⊢
    by_cases e1 : a = b
    · rw [if_pos e1] at h1
      by_cases e2 : b = c
      · rw [if_pos e2] at h2
        rw [if_pos (e1.trans e2)]
        exact ltNums_tr h1 h2
      · rw [if_neg e2] at h2
        rw [if_neg (fun z => e2 (e1.symm.trans z)), e1]
        exact h2
    · rw [if_neg e1] at h1
      by_cases e2 : b = c
      · rw [if_neg (fun z => e1 (z.trans e2.symm)), ← e2]
        exact h1
      · rw [if_neg e2] at h2
        have h1 := of_decide_eq_true h1
        have h2 := of_decide_eq_true h2
        rw [if_neg (by omega)]
        exact decide_eq_true (by omega)
theorem ltNums_tot : ∀ {a b : List Nat}, a ≠ b → ltNums a b = false → ltNums b a = true
  | [], [], h, _ => absurd rfl h
  | [], _ :: _, _, h1 => by simp [ltNums] at h1
  | _ :: _, [], _, _ => by simp [ltNums]
  | a :: as, b :: bs, h, h1 => by
    unfold ltNums at h1 ⊢
    by_cases e : a = b
    · rw [if_pos e] at h1
      rw [if_pos e.symm]
      exact ltNums_tot (fun z => h (by rw [e, z])) h1
    · rw [if_neg e] at h1
      rw [if_neg (fun z => e z.symm)]
      have := of_decide_eq_false h1
      exact decide_eq_true (by omega)
theorem ltNums_irr : ∀ a : List Nat, ltNums a a = false
  | [] => rfl
  | a :: as => by rw [ltNums, if_pos rfl, ltNums_irr as]
theorem ltNumK_tr {a b c : NumK} (h1 : ltNumK a b = true) (h2 : ltNumK b c = true) : ltNumK a c = true := by
  unfold ltNumK at *
  by_cases e1 : a.1 = b.1
  · rw [if_pos e1] at h1
    by_cases e2 : b.1 = c.1
    · rw [if_pos e2] at h2
      rw [if_pos (e1.trans e2)]
      exact ltNums_tr h1 h2
    · rw [if_neg e2] at h2
      rw [if_neg (fun z => e2 (e1.symm.trans z)), e1]
      exact h2
  · rw [if_neg e1] at h1
    by_cases e2 : b.1 = c.1
    · rw [if_neg (fun z => e1 (z.trans e2.symm)), ← e2]
      exact h1
    · rw [if_neg e2] at h2
      have h1 := of_decide_eq_true h1
      have h2 := of_decide_eq_true h2
      rw [if_neg (by omega)]
      exact decide_eq_true (by omega)
theorem ltNumK_tot {a b : NumK} (h : a ≠ b) (h1 : ltNumK a b = false) : ltNumK b a = true := by
  unfold ltNumK at *
  by_cases e : a.1 = b.1
  · rw [if_pos e] at h1
    rw [if_pos e.symm]
    exact ltNums_tot (fun z => h (Prod.ext e z)) h1
  · rw [if_neg e] at h1
    rw [if_neg (fun z => e z.symm)]
    have := of_decide_eq_false h1
    exact decide_eq_true (by omega)
def natsP (l : List Nat) : PyData := .tuple (l.map natP)
def numKP (rest : NumK → List PyData) (k : NumK) : PyData := .tuple (natP k.1 :: natsP k.2 :: rest k)
theorem lex_nums : ∀ a b : List Nat, HT.lexLt (a.map fun n : Nat => (n : Int)) (b.map fun n : Nat => (n : Int)) = ltNums a b
  | [], [] => rfl
  | [], _ :: _ => rfl
  | _ :: _, [] => rfl
  | x :: xs, y :: ys => by
    rw [List.map_cons, List.map_cons, HT.lexLt_cons, lex_nums xs ys, ltNums]
    by_cases c : x = y
    · rw [if_pos c, if_pos (by omega)]
    · rw [if_neg c, if_neg (by omega)]
      exact decide_eq_decide.mpr (by omega)
section
variable {prog : Program} {w : World} {A : Around} {E : Value → Shared → Prop} {s : Shared}
theorem reads_nats : ∀ {l : List Nat} {vs : List Value} {h : Heap} {as : List Addr}, ReadsAll h vs (l.map natP) as → IntsAre vs (l.map fun n : Nat => (n : Int))
  | [], _, _, _, r => by
    cases r
    exact .nil
  | n :: l, _, _, _, r => by
    cases r with
    | cons r1 r =>
      unfold natP at r1
      cases r1
      exact .cons _ _ (reads_nats r)
theorem readsAll_len : ∀ {ds : List PyData} {h : Heap} {vs : List Value} {as : List Addr}, ReadsAll h vs ds as → vs.length = ds.length
  | [], _, _, _, z => by cases z; rfl
  | d :: ds, _, _, _, z => by
    cases z with
    | cons z1 z2 => rw [List.length_cons, List.length_cons, readsAll_len z2]
theorem kat_same {b fin : Bool} {Q : Bool → Shared → Prop} : ∀ (ds : List PyData) (vs us : List Value) (as bs : List Addr) (i : Nat), ReadsAll s.heap vs ds as → ReadsAll s.heap us ds bs → (∀ d ∈ ds, PyData.canLay0 d = true ∧ PyData.eqv d d = true ∧ PyData.depth d ≤ 6) → A.units + 20 < cLine → Q fin s → KatLex prog w A b fin Q (vs.zip us) i s
  | [], _, _, _, _, _, r1, r2, _, _, q => by
    cases r1
    cases r2
    exact kat_nil q
  | d :: ds, _, _, _, _, i, r1, r2, h, hu, q => by
    cases r1 with
    | cons r1 t1 =>
      cases r2 with
      | cons r2 t2 =>
        obtain ⟨h1, h2, h3⟩ := h d List.mem_cons_self
        rw [List.zip_cons_cons]
        refine kat_cons (eqBoolOverData prog w _ _ _ _ _ _ _ _ _ _ r1 r2 h1 h1 (by omega) ?_)
        rw [h2]
        exact kat_yes (kat_same ds _ _ _ _ (i + 1) t1 t2 (fun d' m => h d' (List.mem_cons_of_mem _ m)) hu q)
theorem sortO_numK {rest : NumK → List PyData} (hr : ∀ k, ∀ d ∈ rest k, PyData.canLay0 d = true ∧ PyData.eqv d d = true ∧ PyData.depth d ≤ 6 ∧ itD d = true) : SortO prog w NumK (numKP rest) ltNumK := by
  have split : ∀ {h : Heap} {a : Addr} {k : NumK}, KeyAt (numKP rest) h a k → ∃ o vs n t u bs r bs2, h.get? a = some o ∧ o.cls = .type "tuple" ∧ o.data = .seq vs n ∧ vs.toList = Value.int (k.1 : Nat) t :: u :: r ∧ Reads h u (natsP k.2) bs ∧ ReadsAll h r (rest k) bs2 := fun {h a k} ⟨as, r⟩ => by
    unfold numKP at r
    cases r with
    | @tuple a o vs n xs as ho hc hd hr =>
      generalize e : vs.toList = l at hr
      cases hr with
      | cons r1 hr =>
        unfold natP at r1
        cases r1
        cases hr with
        | cons r2 hr => exact ⟨o, vs, n, _, _, _, _, _, ho, hc, hd, e, r2, hr⟩
  have eN : Enc (List Nat) natsP 1 := enc_tup enc_nat
  refine ⟨fun k => ?_, fun a b c => ltNumK_tr, fun a b => ltNumK_tot, fun A s a b k j Q x y hu q => ?_, fun h a k x => ?_⟩
  · unfold numKP natsP natP
    rw [itD, itAll, itAll, itD, itD]
    have h1 : ∀ l : List Nat, itAll (l.map fun n : Nat => PyData.int (n : Int)) = true := fun l => by
      induction l with
      | nil => rfl
      | cons x l ih => rw [List.map_cons, itAll, itD, ih]; rfl
    have h2 : ∀ l : List PyData, (∀ d ∈ l, itD d = true) → itAll l = true := fun l hl => by
      induction l with
      | nil => rfl
      | cons x l ih => rw [itAll, hl x List.mem_cons_self, ih fun d m => hl d (List.mem_cons_of_mem _ m)]; rfl
    have e1 := h1 k.2
    have e2 := h2 (rest k) fun d m => (hr k d m).2.2.2
    show (true && (itAll (k.2.map fun n : Nat => PyData.int (n : Int)) && itAll (rest k))) = true
    rw [e1, e2]
    rfl
  · obtain ⟨o, vs, n, t, u, bs, r, bs2, ho, hc, hd, l1, r1, r2⟩ := split x
    obtain ⟨o', vs', n', t', u', bs', r', bs2', ho', hc', hd', l2, r1', r2'⟩ := split y
    refine kat_lt ho hd ho' hd' ?_
    have sz : ∀ (k : NumK) (vs : Array Value) v u r, vs.toList = v :: u :: r → vs.size = r.length + 2 := fun k vs v u r e => by
      rw [← Array.length_toList, e]; rfl
    rw [l1, l2]
    refine kat_cons (wpAny_eqBool_int (kat_go (fun e => kat_yes (kat_cons (eqBoolOverData prog w _ _ _ _ _ _ _ _ _ _ r1 r1' (eN.can k.2) (eN.can j.2) (by have := eN.dep k.2; omega) ?_))) (fun e => kat_no (oneLt_any_int ?_))))
    · have h1 := eq_of_beq e
      have h1' : k.1 = j.1 := by omega
      have el : ltNumK k j = ltNums k.2 j.2 := by unfold ltNumK; rw [if_pos h1']
      rw [el] at q
      rw [eN.eq]
      refine kat_go (fun e' => kat_yes ?_) (fun e' => kat_no (kat_one _ _ ?_))
      · have h2 := of_decide_eq_true e'
        have ek : k = j := Prod.ext h1' h2
        subst ek
        refine kat_same (rest k) _ _ _ _ _ r2 r2' (fun d m => ⟨(hr k d m).1, (hr k d m).2.1, (hr k d m).2.2.1⟩) hu ?_
        rw [sz k _ _ _ _ l1, sz k _ _ _ _ l2, readsAll_len r2, readsAll_len r2']
        rw [ltNums_irr] at q
        simpa using q
      · unfold natsP at r1 r1'
        cases r1 with
        | @tuple a o vs n xs as ho hc hd hr1 =>
          cases r1' with
          | @tuple b o' us n' xs' bs ho' hc' hd' hr1' =>
            refine HT.lt_tupInts ⟨o, ho, hc, n, hd⟩ ⟨o', ho', hc', n', hd'⟩ (reads_nats hr1) (reads_nats hr1') (by omega) ?_
            rw [lex_nums]
            exact q
    · have h1 := ne_of_beq_false e
      have el : ltNumK k j = decide ((k.1 : Int) < (j.1 : Int)) := by
        unfold ltNumK
        rw [if_neg (by omega)]
        exact decide_eq_decide.mpr (by omega)
      rw [← el]
      exact q
  · obtain ⟨o, vs, n, t, u, bs, r, bs2, ho, hc, hd, l1, _⟩ := split x
    exact ⟨o, vs, n, _, t, ho, hc, hd, by rw [← Array.getElem?_toList, l1]; rfl⟩
end
end NH
set_option Elab.async false
set_option linter.all false
set_option maxRecDepth 100000
set_option maxHeartbeats 4000000
set_option Elab.async false
set_option linter.all false
set_option maxRecDepth 100000
set_option maxHeartbeats 4000000
set_option Elab.async false
set_option linter.all false
set_option maxRecDepth 100000
set_option maxHeartbeats 4000000
set_option Elab.async false
set_option linter.all false
set_option maxRecDepth 100000
set_option maxHeartbeats 2000000
set_option Elab.async false
set_option linter.all false
set_option maxRecDepth 100000
set_option maxHeartbeats 1000000
namespace NH
open PySem L2
theorem idx_at {α : Type} [DecidableEq α] {ys : List α} {x : α} (h : x ∈ ys) : ys[ys.idxOf x]? = some x := by
  have jl := List.idxOf_lt_length_of_mem h
  rw [List.getElem?_eq_getElem jl, List.getElem_idxOf]
structure Dense (r : List Nat) (c : Nat) : Prop where
  lt : ∀ v ∈ r, v < c
  all : ∀ v, v < c → v ∈ r
end NH
set_option Elab.async false
set_option linter.all false
set_option maxRecDepth 100000
set_option maxHeartbeats 1000000
set_option Elab.async false
set_option linter.all false
set_option maxRecDepth 100000
set_option maxHeartbeats 1000000
namespace NH
open PySem L2
def partP (ns : List Nat) (x : PegD) : PegD := (((ns.getD x.1.toNat 0 : Nat) : Int), x.2)
def partH (ns : List Nat) (hd : HandD) : HandD := (hd.1, hd.2.map (partP ns))
def topN (ns : List Nat) : Nat := ns.foldr (fun x m => max (x + 1) m) 0
def byP (w : WebD) (ns : List Nat) : WebD := (List.range (topN ns)).map fun c => partH ns (w.getD (ns.idxOf c) (0, []))
theorem top_le {c : Nat} : ∀ {ns : List Nat}, (∀ v ∈ ns, v < c) → topN ns ≤ c
  | [], _ => Nat.zero_le _
  | x :: ns, h => by
    have h1 := h x List.mem_cons_self
    have h2 := top_le (ns := ns) fun v hv => h v (List.mem_cons_of_mem _ hv)
    show max (x + 1) (topN ns) ≤ c
    omega
theorem le_top {v : Nat} : ∀ {ns : List Nat}, v ∈ ns → v + 1 ≤ topN ns
  | x :: ns, h => by
    show v + 1 ≤ max (x + 1) (topN ns)
    rcases List.mem_cons.mp h with rfl | h
    · omega
    · have := le_top h
      omega
theorem Dense.topN {ns : List Nat} {c : Nat} (D : Dense ns c) : topN ns = c := by
  have h1 := top_le D.lt
  rcases Nat.eq_zero_or_pos c with z | z
  · omega
  · have := le_top (D.all (c - 1) (by omega))
    omega
theorem byP_len (w : WebD) (ns : List Nat) : (byP w ns).length = topN ns := by unfold byP; rw [List.length_map, List.length_range]
theorem byP_at {w : WebD} {ns : List Nat} {c : Nat} (h : c < topN ns) : (byP w ns)[c]? = some (partH ns (w.getD (ns.idxOf c) (0, []))) := by
  unfold byP
  rw [List.getElem?_map, List.getElem?_range h]
  rfl
theorem nget {l : List Nat} {i : Nat} (h : i < l.length) : l[i]? = some (l.getD i 0) := by
  rw [List.getD_eq_getElem?_getD, List.getElem?_eq_getElem h]
  rfl
theorem hget {w : WebD} {i : Nat} (h : i < w.length) : w[i]? = some (w.getD i (0, [])) := by
  rw [List.getD_eq_getElem?_getD, List.getElem?_eq_getElem h]
  rfl
end NH
set_option Elab.async false
set_option linter.all false
set_option maxRecDepth 100000
set_option maxHeartbeats 1000000
set_option Elab.async false
set_option linter.all false
set_option maxRecDepth 100000
set_option maxHeartbeats 1000000
set_option Elab.async false
set_option linter.all false
set_option maxRecDepth 100000
set_option maxHeartbeats 1000000
set_option Elab.async false
set_option linter.all false
set_option maxRecDepth 100000
set_option maxHeartbeats 1000000
set_option Elab.async false
set_option linter.all false
set_option maxRecDepth 100000
set_option maxHeartbeats 1000000
namespace NH
open PySem L2
def mapRow (row : List Int) (ps : List PegD) : List PegD := ps.map fun x => (row.getD x.1.toNat 0, x.2)
def agrB (row : List Int) (hd hd2 : HandD) : Bool := decide (hd.1 = hd2.1) && decide (hd2.2 = mapRow row hd.2)
structure Sh (w : WebD) : Prop where
  pos : 0 < w.length
  len : w.length ≤ 100
  few : ∀ (h : Nat) hd, w[h]? = some hd → hd.2.length ≤ 100
  near : ∀ (h : Nat) hd, w[h]? = some hd → ∀ x ∈ hd.2, ∃ g : Nat, x.1 = (g : Int) ∧ g < w.length
def RowOk (n : Nat) (row : List Int) : Prop := ∀ r ∈ row, ∃ g : Nat, r = (g : Int) ∧ g < n
def agrAt (wa wb : WebD) (row : List Int) (h : Nat) : Bool := agrB row (wa.getD h (0, [])) (wb.getD (row.getD h 0).toNat (0, []))
def inB (n : Nat) (r : Int) : Bool := decide (0 ≤ r) && decide (r < (n : Int))
def leadB (wa wb : WebD) (row : List Int) : Bool := decide (row.length = wa.length) && row.all (inB wb.length) && (List.range wa.length).all (agrAt wa wb row)
theorem getD_of {α : Type} {l : List α} {i : Nat} {x d : α} (e : l[i]? = some x) : l.getD i d = x := by rw [List.getD_eq_getElem?_getD, e]; rfl
theorem ints_get? {row : List Int} {i : Nat} {r : Int} (e : row[i]? = some r) : (row.map V.int)[i]? = some (.int r) := by rw [List.getElem?_map, e]; rfl
theorem agrAt_eq {wa wb : WebD} {row : List Int} {h r : Nat} {hd hd2 : HandD} (e1 : wa[h]? = some hd) (e2 : row[h]? = some (r : Int)) (e3 : wb[r]? = some hd2) : agrAt wa wb row h = agrB row hd hd2 := by
  unfold agrAt
  rw [getD_of e1, getD_of e2, Int.toNat_natCast, getD_of e3]
theorem RowOk.get {n : Nat} {row : List Int} (k : RowOk n row) {h : Nat} (hl : h < row.length) : ∃ r : Nat, row[h]? = some (r : Int) ∧ r < n := by
  have e : row[h]? = some row[h] := List.getElem?_eq_getElem hl
  obtain ⟨g, eg, gl⟩ := k _ (List.mem_of_getElem? e)
  exact ⟨g, by rw [e, eg], gl⟩
theorem mapRow_snoc {row : List Int} {ps : List PegD} {c : Nat} {x : PegD} (e : ps[c]? = some x) : mapRow row (ps.take (c + 1)) = mapRow row (ps.take c) ++ [(row.getD x.1.toNat 0, x.2)] := by
  unfold mapRow
  rw [take_snoc e, List.map_append]
  rfl
theorem inB_iff {n : Nat} {r : Int} : inB n r = true ↔ ∃ g : Nat, r = (g : Int) ∧ g < n := by
  unfold inB
  rw [Bool.and_eq_true, decide_eq_true_iff, decide_eq_true_iff]
  constructor
  · rintro ⟨a, b⟩
    obtain ⟨g, rfl⟩ := Int.eq_ofNat_of_zero_le a
    exact ⟨g, rfl, by omega⟩
  · rintro ⟨g, rfl, h⟩
    omega
theorem rowOk_iff {n : Nat} {row : List Int} : row.all (inB n) = true ↔ RowOk n row := by
  rw [List.all_eq_true]
  exact ⟨fun h r m => inB_iff.mp (h r m), fun h r m => inB_iff.mpr (h r m)⟩
end NH
namespace NH
open PySem L2
theorem dp_lpairs {K : PySem.W.Frag} {H : Hp} {a : Addr} {as : List Addr} {ps : List PegD} (e : H a = some (.lst (as.map V.ref))) (h : PairsAt H as ps) : Dp K H (.ref a) (.list (ps.map pairD)) := by
  refine .lst (SqL.of e) ?_
  clear e
  induction h with
  | nil => exact .nil
  | cons r _ ih => exact .cons (dp_pair r) ih
end NH
namespace NH
open PySem L2
theorem StepT.grow {T : Addr} {H : Hp} {qs : Array Value} (t' : TriplesOk qs.toList) : StepT T H (upd H T (.tbl qs)) := ⟨fun b o n q => by rw [upd_ne n]; exact q, ⟨_, upd_same, t'⟩⟩
end NH
namespace NH
open PySem L2
theorem natZ (i : Nat) : V.int (0 + (i : Int)) = natV i := by rw [Int.zero_add]; rfl
end NH
namespace NH
open PySem L2
theorem Sh.of {w : WebD} (g : Good 4 w) (l : w.length ≤ 100) : Sh w := ⟨g.pos, l, fun h hd e => by have := g.pegs h hd e; omega, fun h hd e x m => by
  obtain ⟨q, eq⟩ := List.getElem?_of_mem m
  obtain ⟨g', q', rfl, lt⟩ := g.bnd h q x (by unfold pegOf; rw [e]; exact eq)
  exact ⟨g', rfl, lt⟩⟩
end NH
set_option Elab.async false
set_option linter.all false
set_option maxRecDepth 100000
set_option maxHeartbeats 1000000
set_option Elab.async false
set_option linter.all false
set_option maxRecDepth 100000
set_option maxHeartbeats 1000000
namespace NH
open PySem L2
theorem lead_at {wa wb : WebD} {L : List Int} (hl : leadB wa wb L = true) {h : Nat} {hd : HandD} (e : wa[h]? = some hd) : ∃ (x : Nat) (hd2 : HandD), L[h]? = some (x : Int) ∧ x < wb.length ∧ wb[x]? = some hd2 ∧ hd2.2 = mapRow L hd.2 := by
  unfold leadB at hl
  rw [Bool.and_eq_true, Bool.and_eq_true] at hl
  obtain ⟨⟨h1, h2⟩, h3⟩ := hl
  have len := of_decide_eq_true h1
  have ok := rowOk_iff.mp h2
  have hlt : h < wa.length := (List.getElem?_eq_some_iff.mp e).1
  obtain ⟨x, ex, xl⟩ := ok.get (h := h) (by omega)
  have e2 : wb[x]? = some wb[x] := List.getElem?_eq_getElem xl
  refine ⟨x, wb[x], ex, xl, e2, ?_⟩
  have a := List.all_eq_true.mp h3 h (List.mem_range.mpr hlt)
  rw [agrAt_eq e ex e2] at a
  unfold agrB at a
  rw [Bool.and_eq_true] at a
  exact of_decide_eq_true a.2
theorem lead_len {wa wb : WebD} {L : List Int} (hl : leadB wa wb L = true) : L.length = wa.length := by
  unfold leadB at hl
  rw [Bool.and_eq_true, Bool.and_eq_true] at hl
  exact of_decide_eq_true hl.1.1
theorem lead_peg {wa wb : WebD} {L : List Int} (hl : leadB wa wb L = true) {h p g : Nat} {q : Int} {hd hd2 : HandD} {x : Nat} (e : wa[h]? = some hd) (ex : L[h]? = some (x : Int)) (e2 : wb[x]? = some hd2) (ep : hd.2[p]? = some ((g : Int), q)) :
    hd2.2[p]? = some (L.getD g 0, q) := by
  obtain ⟨x', hd2', ex', _, e2', em⟩ := lead_at hl e
  rw [ex] at ex'
  have : (x : Int) = (x' : Int) := Option.some.inj ex'
  have : x = x' := by omega
  subst this
  rw [e2] at e2'
  cases e2'
  rw [em]
  unfold mapRow
  rw [List.getElem?_map, ep]
  rfl
end NH
namespace NH
open PySem L2
def RowI (H : Hp) (a : Addr) (r : List Int) : Prop := H a = some (.tup (r.map V.int))
end NH
set_option Elab.async false
set_option linter.all false
set_option maxRecDepth 100000
set_option maxHeartbeats 1000000
set_option Elab.async false
set_option linter.all false
set_option maxRecDepth 100000
set_option maxHeartbeats 1000000
set_option Elab.async false
set_option linter.all false
set_option maxRecDepth 100000
set_option maxHeartbeats 1000000
namespace NH
open PySem L2
def asI (ld : List Nat) : List Int := ld.map fun n : Nat => (n : Int)
theorem ints_at? {ld : List Nat} {h g : Nat} (e : ld[h]? = some g) : (asI ld)[h]? = some (g : Int) := by unfold asI; rw [List.getElem?_map, e]; rfl
theorem led_of_lead {wa wb : WebD} {L : List Int} (bd : Bd wa) (hl : leadB wa wb L = true) : ∃ ld, L = asI ld ∧ Led wa wb ld := by
  have len := lead_len hl
  have ok : RowOk wb.length L := by
    unfold leadB at hl
    rw [Bool.and_eq_true, Bool.and_eq_true] at hl
    exact rowOk_iff.mp hl.1.2
  have eL : L = asI (L.map Int.toNat) := by
    unfold asI
    rw [List.map_map]
    refine (List.map_congr_left fun r m => ?_).symm.trans (List.map_id L) |>.symm
    obtain ⟨n, rfl, _⟩ := ok r m
    simp
  refine ⟨L.map Int.toNat, eL, ?_⟩
  generalize L.map Int.toNat = ld at eL
  subst eL
  have back : ∀ {h : Nat} {x : Int}, (asI ld)[h]? = some x → ∃ g : Nat, ld[h]? = some g ∧ x = (g : Int) := fun {h x} e => by
    unfold asI at e
    rw [List.getElem?_map] at e
    obtain ⟨g, eg, rfl⟩ := Option.map_eq_some_iff.mp e
    exact ⟨g, eg, rfl⟩
  have len' : ld.length = wa.length := by unfold asI at len; rwa [List.length_map] at len
  refine ⟨len', fun h hd' e => ?_, fun h p h' q g e1 e2 => ?_⟩
  · obtain ⟨x, hd2, ex, xl, e2, em⟩ := lead_at hl e
    obtain ⟨g, eg, z⟩ := back ex
    have : x = g := by omega
    subst this
    refine ⟨x, hd2, eg, e2, ?_, by rw [em]; unfold mapRow; rw [List.length_map]⟩
    unfold leadB at hl
    rw [Bool.and_eq_true, Bool.and_eq_true] at hl
    have a := List.all_eq_true.mp hl.2 h (List.mem_range.mpr (List.getElem?_eq_some_iff.mp e).1)
    rw [agrAt_eq e ex e2] at a
    unfold agrB at a
    rw [Bool.and_eq_true] at a
    have := of_decide_eq_true a.1
    first | exact this | exact this.symm
  · obtain ⟨hd, f1, f2⟩ := pegOf_some e2
    obtain ⟨x, hd2, ex, _, e3, _⟩ := lead_at hl f1
    obtain ⟨g0, eg, z⟩ := back ex
    rw [e1] at eg
    have : x = g := by have := Option.some.inj eg; omega
    subst this
    have a := lead_peg hl f1 ex e3 f2
    obtain ⟨g', q', ex', gl⟩ := bd h p _ e2
    obtain ⟨z1, z2⟩ := nat_pair (congrArg some ex')
    have hlt : h' < ld.length := by omega
    refine ⟨ld[h'], List.getElem?_eq_getElem hlt, ?_⟩
    unfold pegOf
    rw [e3]
    show hd2.2[p]? = _
    rw [a, List.getD_eq_getElem?_getD, ints_at? (List.getElem?_eq_getElem hlt)]
    rfl
end NH
set_option Elab.async false
set_option linter.all false
set_option maxRecDepth 100000
set_option maxHeartbeats 1000000
namespace NH
open PySem L2
theorem nd_sub {α : Type} [BEq α] [LawfulBEq α] : ∀ {l m : List α}, l.Nodup → (∀ x ∈ l, x ∈ m) → l.length ≤ m.length
  | [], _, _, _ => Nat.zero_le _
  | x :: l, m, nd, h => by
    obtain ⟨n1, n2⟩ := List.nodup_cons.mp nd
    have xm := h x (List.mem_cons_self ..)
    have ih := nd_sub (l := l) (m := m.erase x) n2 fun y my => (List.mem_erase_of_ne (fun z => n1 (by rw [← z]; exact my))).mpr (h y (List.mem_cons_of_mem _ my))
    rw [List.length_erase_of_mem xm] at ih
    have : 0 < m.length := List.length_pos_of_mem xm
    rw [List.length_cons]
    omega
def fibr (ld : List Nat) (g : Nat) : List Nat := (List.range ld.length).filter fun h => decide (ld[h]? = some g)
theorem fibr_mem {ld : List Nat} {g h : Nat} : h ∈ fibr ld g ↔ ld[h]? = some g := by
  unfold fibr
  rw [List.mem_filter, List.mem_range, decide_eq_true_iff]
  exact ⟨fun z => z.2, fun z => ⟨(List.getElem?_eq_some_iff.mp z).1, z⟩⟩
theorem fibr_nodup (ld : List Nat) (g : Nat) : (fibr ld g).Nodup := List.nodup_range.filter _
theorem fibr_count (ld : List Nat) (g : Nat) : ld.count g = (fibr ld g).length := by
  have e : ld = (List.range ld.length).map fun h => ld.getD h 0 := by
    refine List.ext_getElem? fun j => ?_
    rw [List.getElem?_map]
    by_cases hj : j < ld.length
    · rw [List.getElem?_range hj, List.getElem?_eq_getElem hj]
      show _ = some (ld.getD j 0)
      rw [List.getD_eq_getElem?_getD, List.getElem?_eq_getElem hj]
      rfl
    · rw [List.getElem?_eq_none (by omega), List.getElem?_eq_none (by rw [List.length_range]; omega)]
      rfl
  unfold fibr
  rw [← List.countP_eq_length_filter]
  conv => lhs; rw [e]
  rw [List.count_eq_countP, List.countP_map]
  refine List.countP_congr fun h m => ?_
  have hl := List.mem_range.mp m
  show (ld.getD h 0 == g) = true ↔ decide (ld[h]? = some g) = true
  rw [List.getD_eq_getElem?_getD, List.getElem?_eq_getElem hl]
  simp
section
variable {w' w : WebD} {ld : List Nat} {r r' : Nat}
theorem Led.tie_le (L : Led w' w ld) (g' : Good r' w') {a p b q : Nat} (e : pegOf w a p = some ((b : Int), (q : Int))) : ld.count a ≤ ld.count b := by
  rw [fibr_count, fibr_count]
  let t : Nat → Nat := fun h => ((pegOf w' h p).map fun x => x.1.toNat).getD 0
  have key : ∀ h, ld[h]? = some a → ∃ h' : Nat, pegOf w' h p = some ((h' : Int), (q : Int)) ∧ ld[h']? = some b ∧ t h = h' ∧ pegOf w' h' q = some ((h : Int), (p : Int)) := fun h eh => by
    obtain ⟨hl, _⟩ := L.lt eh
    have f1 : w'[h]? = some w'[h] := List.getElem?_eq_getElem hl
    obtain ⟨a', hd, f2, f3, _, f5⟩ := L.hand h _ f1
    rw [eh] at f2
    cases f2
    obtain ⟨hd', f6, f7⟩ := pegOf_some e
    rw [f3] at f6
    cases f6
    have pl : p < w'[h].2.length := by rw [← f5]; exact (List.getElem?_eq_some_iff.mp f7).1
    have f8 : pegOf w' h p = some (w'[h].2[p]'pl) := by unfold pegOf; rw [f1]; exact List.getElem?_eq_getElem pl
    obtain ⟨h', q', f9, f10⟩ := g'.tie h p _ f8
    rw [f9] at f8
    obtain ⟨b', f11, f12⟩ := L.peg h p h' q' a eh f8
    rw [e] at f12
    obtain ⟨z1, z2⟩ := nat_pair f12
    subst z1 z2
    refine ⟨h', f8, f11, ?_, f10⟩
    show ((pegOf w' h p).map fun x => x.1.toNat).getD 0 = h'
    rw [f8]
    exact Int.toNat_natCast h'
  have nd : ((fibr ld a).map t).Nodup := by
    unfold List.Nodup
    rw [List.pairwise_map]
    refine List.Pairwise.imp_of_mem (fun {x y} mx my ne z => ne ?_) (fibr_nodup ld a)
    obtain ⟨x', _, _, tx, bx⟩ := key x (fibr_mem.mp mx)
    obtain ⟨y', _, _, ty, by_⟩ := key y (fibr_mem.mp my)
    rw [tx, ty] at z
    subst z
    rw [bx] at by_
    exact (nat_pair by_).1
  have := nd_sub (m := fibr ld b) nd fun z mz => by
    obtain ⟨h, mh, rfl⟩ := List.mem_map.mp mz
    obtain ⟨h', _, e2, th, _⟩ := key h (fibr_mem.mp mh)
    rw [th]
    exact fibr_mem.mpr e2
  rwa [List.length_map] at this
theorem Led.even (L : Led w' w ld) (g' : Good r' w') (g : Good r w) {a b : Nat} (ha : a < w.length) (hb : b < w.length) : ld.count a = ld.count b := by
  refine g.conn (fun x => ld.count a = ld.count x) (fun h p k q e s => ?_) a b ha hb rfl
  obtain ⟨k', q', z, e'⟩ := g.tie h p _ e
  obtain ⟨z1, z2⟩ := nat_pair (congrArg some z)
  subst z1 z2
  have l1 := L.tie_le g' e
  have l2 := L.tie_le g' e'
  show ld.count a = ld.count k
  have s : ld.count a = ld.count h := s
  omega
end
end NH
set_option Elab.async false
set_option linter.all false
set_option maxRecDepth 100000
set_option maxHeartbeats 1000000
set_option Elab.async false
set_option linter.all false
set_option maxRecDepth 100000
set_option maxHeartbeats 1000000
namespace NH
open PySem L2
def RowD (H : Hp) (a : Addr) (r : List Int) : Prop := TupD H a (r.map V.int)
def RowR (H : Hp) (a : Addr) (r : List Int) : Prop := RowI H a r ∨ RowD H a r
theorem TupD.keep {T : Addr} {H H' : Hp} {r : Addr} {xs : List V} (h : TupD H r xs) (t : TblAt H T) (s : StepT T H H') : TupD H' r xs := by
  obtain ⟨o, e, c⟩ := h
  exact ⟨o, s.keep r _ (fun z => by obtain ⟨ps, et, _⟩ := t.ex; rw [z, et] at e; cases e) e, c⟩
theorem TupD.upd {H : Hp} {r D : Addr} {xs l : List V} {o' : HO} (h : TupD H r xs) (hD : H D = some (.lst l)) : TupD (upd H D o') r xs := by
  obtain ⟨o, e, c⟩ := h
  exact ⟨o, by rw [upd_ne (fun z => by rw [z, hD] at e; cases e)]; exact e, c⟩
theorem RowR.sq {K : PySem.W.Frag} {H : Hp} {a : Addr} {r : List Int} (h : RowR H a r) : SqT K H a (r.map V.int) := by
  rcases h with h | h
  · exact SqT.of h
  · exact TupD.sq h
theorem RowR.same {H H' : Hp} {a : Addr} {r : List Int} (s : Same H H') (h : RowR H a r) : RowR H' a r := by
  rcases h with h | h
  · exact .inl (s _ _ h)
  · exact .inr (TupD.same s h)
theorem RowR.step {T : Addr} {H H' : Hp} {a : Addr} {r : List Int} (h : RowR H a r) (t : TblAt H T) (s : StepT T H H') : RowR H' a r := by
  rcases h with h | h
  · exact .inl (s.tups t _ _ h)
  · exact .inr (TupD.keep h t s)
def spAgrR : Sp := fun vs H Q _ => ∃ (a b c : Addr) (wa wb : WebD) (row : List Int) (h : Nat), vs = [.ref a, .ref b, .ref c, natV h] ∧ WebAt H a wa ∧ WebAt H b wb ∧ RowR H c row ∧ Sh wa ∧ Sh wb ∧ row.length = wa.length ∧ RowOk wb.length row ∧ h < wa.length ∧
  ∀ H', Same H H' → Q (.bl (agrAt wa wb row h)) H'
def spLeadR (T : Addr) : Sp := fun vs H Q _ => ∃ (a b c : Addr) (wa wb : WebD) (row : List Int), vs = [.ref a, .ref b, .ref c] ∧ WebAt H a wa ∧ WebAt H b wb ∧ RowR H c row ∧ Sh wa ∧ Sh wb ∧ TblAt H T ∧
  ∀ H', StepT T H H' → Q (.bl (leadB wa wb row)) H'
end NH
set_option Elab.async false
set_option linter.all false
set_option maxRecDepth 100000
set_option maxHeartbeats 1000000
set_option Elab.async false
set_option linter.all false
set_option maxRecDepth 100000
set_option maxHeartbeats 1000000
namespace NH
open PySem L2
section
variable {u v w : WebD} {ld ld' : List Nat} {n m : Nat}
theorem Led.good (L : Led u w ld) (gu : Good n u) (sur : ∀ g, g < w.length → g ∈ ld) : Good n w := by
  have at_ : ∀ g, g < w.length → ∃ (h : Nat) (hd hd' : HandD), ld[h]? = some g ∧ u[h]? = some hd' ∧ w[g]? = some hd ∧ hd.1 = hd'.1 ∧ hd.2.length = hd'.2.length := fun g hg => by
    obtain ⟨h, eh⟩ := List.getElem?_of_mem (sur g hg)
    obtain ⟨hl, _⟩ := L.lt eh
    obtain ⟨g', hd, e1, e2, e3, e4⟩ := L.hand h _ (List.getElem?_eq_getElem hl)
    rw [eh] at e1
    cases e1
    exact ⟨h, hd, _, eh, List.getElem?_eq_getElem hl, e2, e3, e4⟩
  have peg_ : ∀ g p x, pegOf w g p = some x → ∃ h h' q g' : Nat, ld[h]? = some g ∧ pegOf u h p = some ((h' : Int), (q : Int)) ∧ ld[h']? = some g' ∧ x = ((g' : Int), (q : Int)) := fun g p x e => by
    obtain ⟨hd0, e1, e2⟩ := pegOf_some e
    have hg := (List.getElem?_eq_some_iff.mp e1).1
    obtain ⟨h, hd, hd', eh, eu, ew, _, el⟩ := at_ g hg
    rw [e1] at ew
    cases ew
    have pl : p < hd'.2.length := by have := (List.getElem?_eq_some_iff.mp e2).1; omega
    have ep : pegOf u h p = some hd'.2[p] := by unfold pegOf; rw [eu]; exact List.getElem?_eq_getElem pl
    obtain ⟨h', q, ex, _⟩ := gu.bnd h p _ ep
    rw [ex] at ep
    obtain ⟨g', eg', k⟩ := L.peg h p h' q g eh ep
    rw [e] at k
    exact ⟨h, h', q, g', eh, ep, eg', Option.some.inj k⟩
  refine ⟨?_, fun g hd e => ?_, fun g hd e => ?_, fun g p x e => ?_, fun S cl a b ha hb sa => ?_⟩
  · obtain ⟨g, _, e1, e2, _⟩ := L.hand 0 _ (List.getElem?_eq_getElem gu.pos)
    have := (List.getElem?_eq_some_iff.mp e2).1
    omega
  · obtain ⟨h, hd1, hd', eh, eu, ew, em, _⟩ := at_ g (List.getElem?_eq_some_iff.mp e).1
    rw [e] at ew
    cases ew
    rw [em]
    exact gu.mark h hd' eu
  · obtain ⟨h, hd1, hd', eh, eu, ew, _, el⟩ := at_ g (List.getElem?_eq_some_iff.mp e).1
    rw [e] at ew
    cases ew
    rw [el]
    exact gu.pegs h hd' eu
  · obtain ⟨h, h', q, g', eh, ep, eg', rfl⟩ := peg_ g p x e
    obtain ⟨h1, q1, z, tb⟩ := gu.tie h p _ ep
    obtain ⟨z1, z2⟩ := nat_pair (congrArg some z)
    subst z1 z2
    obtain ⟨g1, eg1, k⟩ := L.peg h' q h p g' eg' tb
    rw [eh] at eg1
    cases eg1
    exact ⟨g', q, rfl, k⟩
  · obtain ⟨x, _, _, ex, _⟩ := at_ a ha
    obtain ⟨y, _, _, ey, _⟩ := at_ b hb
    have := gu.conn (fun h => ∃ g, ld[h]? = some g ∧ S g) (fun h p h' q e ⟨g, eg, sg⟩ => by
      obtain ⟨g', eg', k⟩ := L.peg h p h' q g eg e
      exact ⟨g', eg', cl g p g' q k sg⟩) x y (L.lt ex).1 (L.lt ey).1 ⟨a, ex, sa⟩
    obtain ⟨b', eb', sb⟩ := this
    rw [ey] at eb'
    cases eb'
    exact sb
end
end NH
set_option Elab.async false
set_option linter.all false
set_option maxRecDepth 100000
set_option maxHeartbeats 1000000
namespace L2
open PySem PySem.Spec PyProof.Rows
def Tu (H : Hp) (a : Addr) (xs : List V) : Prop := H a = some (.tup xs) ∨ ∃ o : Obj, H a = some (.frz o (.tup xs))
theorem Tu.sq {K : PySem.W.Frag} {H : Hp} {a : Addr} {xs : List V} : Tu H a xs → SqT K H a xs
  | .inl e => SqT.of e
  | .inr ⟨o, e⟩ => .inl (.inr ⟨o, e⟩)
theorem Tu.same {H H' : Hp} {a : Addr} {xs : List V} (s : ∀ b o, H b = some o → H' b = some o) : Tu H a xs → Tu H' a xs
  | .inl e => .inl (s _ _ e)
  | .inr ⟨o, e⟩ => .inr ⟨o, s _ _ e⟩
inductive TyD (K : PySem.W.Frag) (H : Hp) : V → Value → Prop where
  | any {x : V} {t : Value} : TyOf K H x t → TyD K H x t
  | frz {a : Addr} {o : Obj} {xs : List V} : H a = some (.frz o (.tup xs)) → TyD K H (.ref a) (.type "tuple")
theorem Tu.ty {K : PySem.W.Frag} {H : Hp} {a : Addr} {xs : List V} : Tu H a xs → TyD K H (.ref a) (.type "tuple")
  | .inl e => .any (.tup e)
  | .inr ⟨_, e⟩ => .frz e
section
variable {X : Cx} {pins : List (Addr × Obj)} {σ : St} {H : Hp} {s : Shared}
theorem tyD_kit {x : V} {u t : Value} (I : Inv X pins σ H s) (rx : RelV x u) (ty : TyD X.K H x t) : ∃ Hx : Heap → Prop, PySem.W.KitX X.K u t Hx ∧ Hx s.heap ∧ u ≠ .builtin "__main__.__loader__#opaque" := by
  cases ty with
  | any ty => exact ty_kit I rx ty
  | @frz a ob xs ea =>
    cases (show u = Value.ref a from rx)
    obtain ⟨_, _, its, _, p⟩ := (show ObjOk X.prog X.w H s.heap a (.frz ob (.tup xs)) from I.hok a _ ea)
    obtain ⟨o, h1, h2, _⟩ := p
    exact ⟨_, PySem.W.kitx_tuple, ⟨o, h1, h2⟩, fun z => nomatch z⟩
end
def rIsiD (K : PySem.W.Frag) : List V → Hp → VK → Prop := fun xs H Q => ∃ x c t u b, xs = [x, c] ∧ TyD K H x t ∧ clsV c u ∧ PySem.W.kitOne K t u = some b ∧ Q (.bl b) H
theorem call_isiD {X : Cx} : CallR X (.builtin "isinstance") (rIsiD X.K) := by
  intro pins s σ H xs us Q I r h
  obtain ⟨x, c, t, cu, b, rfl, ty, hc, hk, q⟩ := h
  obtain ⟨u, w', rfl, r1, r2⟩ := vals2 r
  have ew : w' = cu := by
    cases c <;> first | exact (show False from hc).elim | exact r2.trans hc.symm
  rw [ew]
  obtain ⟨Hx, kx, hx, ne⟩ := tyD_kit I r1 ty
  exact PySem.W.kia_one kx I.kIn hx hk ne fun tk => ⟨.bl b, H, I.tok tk, rfl, q⟩
def rIsiTD (K : PySem.W.Frag) : List V → Hp → VK → Prop := fun xs H Q => ∃ x p t b, ∃ ns : List String, xs = [x, .ref p] ∧ TyD K H x t ∧ H p = some (.tup (ns.map V.ty)) ∧ PySem.W.kitAny K t (ns.map Value.type) = some b ∧ Q (.bl b) H
theorem call_isiTD {X : Cx} : CallR X (.builtin "isinstance") (rIsiTD X.K) := by
  intro pins s σ H xs us Q I r h
  obtain ⟨x, p, t, b, ns, rfl, ty, hp, hk, q⟩ := h
  obtain ⟨u, w', rfl, r1, r2⟩ := vals2 r
  have ew : w' = Value.ref p := r2
  rw [ew]
  obtain ⟨Hx, kx, hx, ne⟩ := tyD_kit I r1 ty
  obtain ⟨_, us', rv, ⟨o, ho, hc, n, hd⟩⟩ := (show ObjOk X.prog X.w H s.heap p (.tup (ns.map V.ty)) from I.hok p _ hp)
  rw [vals_ty rv] at hd
  obtain ⟨cls, dd, data, sl⟩ := o
  cases hc
  cases hd
  exact PySem.W.kia_tup kx I.kIn hx ho hk ne fun tk => ⟨.bl b, H, I.tok tk, rfl, q⟩
end L2
namespace NH
open PySem L2
theorem TupD.tu {H : Hp} {r : Addr} {xs : List V} : TupD H r xs → Tu H r xs
  | ⟨o, e, _⟩ => .inr ⟨o, e⟩
def AlkD (H : Hp) : Nat → V → V → Prop
  | 0, _, _ => False
  | n + 1, x, y => (x = y ∧ flatV x = true) ∨ ∃ a b xs ys, x = .ref a ∧ y = .ref b ∧ ((H a = some (.lst xs) ∧ H b = some (.lst ys)) ∨ (Tu H a xs ∧ Tu H b ys)) ∧ xs.length ≤ 100000 ∧ Paired (AlkD H n) xs ys
theorem AlkD.same {H H' : Hp} (s : Same H H') : ∀ {n : Nat} {x y : V}, AlkD H n x y → AlkD H' n x y
  | 0, _, _, h => h
  | n + 1, x, y, .inl h => .inl h
  | n + 1, x, y, .inr ⟨a, b, xs, ys, e1, e2, .inl ⟨u, v⟩, hl, hp⟩ => .inr ⟨a, b, xs, ys, e1, e2, .inl ⟨s _ _ u, s _ _ v⟩, hl, Paired.mapP hp fun _ _ z => AlkD.same s z⟩
  | n + 1, x, y, .inr ⟨a, b, xs, ys, e1, e2, .inr ⟨u, v⟩, hl, hp⟩ => .inr ⟨a, b, xs, ys, e1, e2, .inr ⟨u.same s, v.same s⟩, hl, Paired.mapP hp fun _ _ z => AlkD.same s z⟩
theorem AlkD.mono {H : Hp} : ∀ {n m : Nat} {x y : V}, n ≤ m → AlkD H n x y → AlkD H m x y
  | 0, _, _, _, _, h => h.elim
  | n + 1, 0, _, _, l, _ => absurd l (Nat.not_succ_le_zero _)
  | n + 1, m + 1, x, y, l, .inl h => .inl h
  | n + 1, m + 1, x, y, l, .inr ⟨a, b, xs, ys, e1, e2, hh, hl, hp⟩ => .inr ⟨a, b, xs, ys, e1, e2, hh, hl, Paired.mapP hp fun _ _ z => AlkD.mono (by omega) z⟩
theorem AlkD.flat {H : Hp} {x : V} (h : flatV x = true) (n : Nat) : AlkD H (n + 1) x x := .inl ⟨rfl, h⟩
theorem Alk.toD {H : Hp} : ∀ {n : Nat} {x y : V}, Alk H n x y → AlkD H n x y
  | 0, _, _, h => h.elim
  | n + 1, x, y, .inl h => .inl h
  | n + 1, x, y, .inr ⟨a, b, xs, ys, e1, e2, .inl hh, hl, hp⟩ => .inr ⟨a, b, xs, ys, e1, e2, .inl hh, hl, Paired.mapP hp fun _ _ z => Alk.toD z⟩
  | n + 1, x, y, .inr ⟨a, b, xs, ys, e1, e2, .inr ⟨u, v⟩, hl, hp⟩ => .inr ⟨a, b, xs, ys, e1, e2, .inr ⟨.inl u, .inl v⟩, hl, Paired.mapP hp fun _ _ z => Alk.toD z⟩
theorem alkD_flats {H : Hp} {n : Nat} : ∀ {l : List V}, (∀ x ∈ l, flatV x = true) → Paired (AlkD H (n + 1)) l l
  | [], _ => .nil
  | x :: l, h => .cons (AlkD.flat (h x List.mem_cons_self) n) (alkD_flats fun y hy => h y (List.mem_cons_of_mem _ hy))
theorem alkD_nats {H : Hp} {a b : Addr} {l : List Nat} (h : Tu H a (l.map natV)) (h' : Tu H b (l.map natV)) (hl : l.length ≤ 100000) : AlkD H 2 (.ref a) (.ref b) :=
  .inr ⟨a, b, _, _, rfl, rfl, .inr ⟨h, h'⟩, by rw [List.length_map]; exact hl, alkD_flats fun x hx => by
    obtain ⟨n, _, rfl⟩ := List.mem_map.mp hx
    rfl⟩
theorem alkD_two {H : Hp} {n : Nat} {a b : Addr} {x y x' y' : V} (h : Tu H a [x, y]) (h' : Tu H b [x', y']) (hx : AlkD H n x x') (hy : AlkD H n y y') : AlkD H (n + 1) (.ref a) (.ref b) :=
  .inr ⟨a, b, _, _, rfl, rfl, .inr ⟨h, h'⟩, (by show 2 ≤ 100000; decide), .cons hx (.cons hy .nil)⟩
def spAlikeD (n : Nat) : Sp := fun vs H Q _ => ∃ x y, vs = [x, y] ∧ AlkD H n x y ∧ ∀ H', Same H H' → Q (.bl true) H'
def NumT (H : Hp) (a : Addr) (ns : List Nat) : Prop := TupD H a (ns.map natV)
theorem NumT.same {H H' : Hp} {a : Addr} {ns : List Nat} (s : Same H H') (h : NumT H a ns) : NumT H' a ns := TupD.same s h
theorem NumT.sq {K : PySem.W.Frag} {H : Hp} {a : Addr} {ns : List Nat} (h : NumT H a ns) : SqT K H a (ns.map natV) := TupD.sq h
theorem NumT.tu {H : Hp} {a : Addr} {ns : List Nat} (h : NumT H a ns) : Tu H a (ns.map natV) := TupD.tu h
end NH
set_option Elab.async false
set_option linter.all false
set_option maxRecDepth 100000
set_option maxHeartbeats 1000000
set_option Elab.async false
set_option linter.all false
set_option maxRecDepth 100000
set_option maxHeartbeats 1000000
set_option Elab.async false
set_option linter.all false
set_option maxRecDepth 100000
set_option maxHeartbeats 4000000
namespace NH
open PySem PySem.Spec PyProof.Rows L2
def tTupF (t : TA) : TE := fun σ H Q => t σ H fun xs H1 => xs.length ≤ sizeLine ∧ ∀ p H', Same H1 H' → H1 p = none → TupD H' p xs → Q (.ref p) H'
theorem same_frz {H : Hp} {p : Addr} {o : HO} (n : H p = none) : Same H (upd H p o) := fun b u e => by rw [upd_ne (ne_of_none e n)]; exact e
theorem pe_tupF {X : Cx} {es : List Expr} {t : TA} {pos : Pos} {x1 : Nat} (h : PA X es t) : PE X (.Tuple es x1 pos) (tTupF t) := by
  intro pins s σ H Q I hq
  refine wpAny_Tuple_spliced (thn (h pos pins s σ H _ I hq) fun us s1 ⟨xs, H1, I1, r, z, q⟩ => ⟨by rw [← r.length]; exact z, ?_⟩)
  have hf : H1 s1.heap.objs.size = none := I1.hok.fresh (Nat.le_refl _)
  refine ⟨.ref s1.heap.objs.size, _, I1.laid (t' := s1.toks) (a := s1.heap.objs.size) (o := .frz { cls := .type "tuple", data := .seq us.toArray } (.tup xs)) (fun b u e => Heap.get?_push_of_some _ e) (Nat.le_refl _) ?_, rfl, q _ _ (same_frz hf) hf ⟨_, upd_same, rfl, rfl⟩⟩
  exact ⟨Heap.get?_push_size _ rfl, z, us, r, ⟨_, Heap.get?_push_size _ rfl, rfl, _, rfl⟩⟩
def rCatF (K : PySem.W.Frag) : R2 := fun x y H Q => ∃ a b xs ys, x = .ref a ∧ y = .ref b ∧ SqT K H a xs ∧ SqT K H b ys ∧ xs ≠ [] ∧ ys ≠ [] ∧ xs.length + ys.length ≤ sizeLine ∧ ∀ p H', Same H H' → H p = none → TupD H' p (xs ++ ys) → Q (.ref p) H'
theorem op_catF {X : Cx} : OpR X (binaryOp .Add) (rCatF X.K) := by
  intro pins s σ H x y v u Q I rx ry h
  obtain ⟨a, b, xs, ys, rfl, rfl, ha, hb, hx, hy, hz, q⟩ := h
  cases rx
  cases ry
  obtain ⟨its, r1, p1, _⟩ := I.tuple ha
  obtain ⟨its2, r2, p2, _⟩ := I.tuple hb
  have hf : H s.heap.objs.size = none := I.hok.fresh (Nat.le_refl _)
  refine HT.cat_tup p1 p2 (fun z => hx (r1.nil_iff.mp z)) (fun z => absurd (r2.nil_iff.mp z) hy) (fun z => ?_) (by rw [← r1.length, ← r2.length]; exact hz)
  refine ⟨.ref s.heap.objs.size, _, I.laid (t' := s.toks) (a := s.heap.objs.size) (o := .frz { cls := .type "tuple", data := .seq (its ++ its2).toArray } (.tup (xs ++ ys))) (fun b ob q => Heap.get?_push_of_some _ q) (Nat.le_refl _) ?_, rfl, q _ _ (same_frz hf) hf ⟨_, upd_same, rfl, rfl⟩⟩
  exact ⟨Heap.get?_push_size _ rfl, by rw [List.length_append]; exact hz, _, r1.append r2, IsTup.new _ _⟩
def partsL : Nat → List (List Nat)
  | 0 => [[0]]
  | n + 1 => (partsL n).flatMap fun r => (List.range (topN r + 1)).map fun x => r ++ [x]
theorem partsL_succ {n : Nat} {p : List Nat} : p ∈ partsL (n + 1) ↔ ∃ r ∈ partsL n, ∃ x, x < topN r + 1 ∧ p = r ++ [x] := by
  show p ∈ (partsL n).flatMap _ ↔ _
  rw [List.mem_flatMap]
  constructor
  · rintro ⟨r, hr, hp⟩
    obtain ⟨x, hx, rfl⟩ := List.mem_map.mp hp
    exact ⟨r, hr, x, List.mem_range.mp hx, rfl⟩
  · rintro ⟨r, hr, x, hx, rfl⟩
    exact ⟨r, hr, List.mem_map.mpr ⟨x, List.mem_range.mpr hx, rfl⟩⟩
theorem partsL_len : ∀ {n : Nat} {p : List Nat}, p ∈ partsL n → p.length = n + 1
  | 0, p, h => by rw [List.mem_singleton.mp h]; rfl
  | n + 1, p, h => by
    obtain ⟨r, hr, x, _, rfl⟩ := partsL_succ.mp h
    rw [List.length_append, partsL_len hr]
    rfl
theorem topN_snoc (r : List Nat) (x : Nat) : topN (r ++ [x]) = max (topN r) (x + 1) := by
  unfold topN
  induction r with
  | nil => simp
  | cons y r ih =>
    rw [List.cons_append, List.foldr_cons, List.foldr_cons, ih]
    omega
theorem partsL_dense : ∀ {n : Nat} {p : List Nat}, p ∈ partsL n → Dense p (topN p)
  | 0, p, h => by
    rw [List.mem_singleton.mp h]
    exact ⟨fun v hv => by rw [List.mem_singleton.mp hv]; decide, fun v hv => by
      have : v = 0 := by have : topN [0] = 1 := rfl; omega
      rw [this]
      exact List.mem_singleton.mpr rfl⟩
  | n + 1, p, h => by
    obtain ⟨r, hr, x, hx, rfl⟩ := partsL_succ.mp h
    have D := partsL_dense hr
    rw [topN_snoc]
    refine ⟨fun v hv => ?_, fun v hv => ?_⟩
    · rcases List.mem_append.mp hv with z | z
      · have := D.lt v z
        omega
      · rw [List.mem_singleton.mp z]
        omega
    · by_cases c : v < topN r
      · exact List.mem_append_left _ (D.all v c)
      · refine List.mem_append_right _ (List.mem_singleton.mpr ?_)
        omega
theorem partsL_top {n : Nat} {p : List Nat} (h : p ∈ partsL n) : 0 < topN p ∧ topN p ≤ n + 1 := by
  have D := partsL_dense h
  have L := partsL_len h
  constructor
  · cases p with
    | nil => simp at L
    | cons x p =>
      have := le_top (ns := x :: p) (v := x) List.mem_cons_self
      omega
  · have := nd_sub (l := List.range (topN p)) (m := p) List.nodup_range fun x hx => D.all x (List.mem_range.mp hx)
    rw [List.length_range] at this
    omega
def evenB (r : List Nat) : Bool := (List.range (topN r)).all fun x => decide (r.count x = r.count 0)
theorem parts_nd : ∀ n, n < 6 → (partsL n).Nodup := by decide +kernel
theorem parts_few : ∀ n, n < 6 → (partsL n).length ≤ 203 ∧ ((partsL n).filter evenB).length < 64 := by decide +kernel
def lesF (w : WebD) : List (List Nat) := (partsL (w.length - 1)).filter fun p => leadB w (byP w p) (asI p)
structure LessP (w : WebD) (p : List Nat) : Prop where
  mem : p ∈ partsL (w.length - 1)
  led : Led w (byP w p) p
  lead : leadB w (byP w p) (asI p) = true
theorem asI_inj : ∀ {a b : List Nat}, asI a = asI b → a = b
  | [], [], _ => rfl
  | [], _ :: _, h => by cases h
  | _ :: _, [], h => by cases h
  | x :: a, y :: b, h => by
    unfold asI at h
    rw [List.map_cons, List.map_cons] at h
    injection h with h1 h2
    rw [asI_inj h2, show x = y by omega]
theorem lesF_mem {w : WebD} (bd : Bd w) {p : List Nat} : p ∈ lesF w ↔ LessP w p := by
  unfold lesF
  rw [List.mem_filter]
  constructor
  · rintro ⟨h1, h2⟩
    obtain ⟨ld, e, L⟩ := led_of_lead bd h2
    rw [← asI_inj e] at L
    exact ⟨h1, L, h2⟩
  · rintro ⟨h1, _, h2⟩
    exact ⟨h1, h2⟩
theorem LessP.len {w : WebD} (w0 : 0 < w.length) {p : List Nat} (h : LessP w p) : p.length = w.length := by
  rw [partsL_len h.mem]
  omega
theorem LessP.good {w : WebD} (g : Good 4 w) {p : List Nat} (h : LessP w p) : Good 4 (byP w p) := h.led.good g fun x hx => (partsL_dense h.mem).all x (by rw [byP_len] at hx; exact hx)
theorem LessP.even {w : WebD} (g : Good 4 w) {p : List Nat} (h : LessP w p) : evenB p = true := by
  unfold evenB
  rw [List.all_eq_true]
  intro x hx
  have tp := partsL_top h.mem
  exact decide_eq_true (h.led.even g (h.good g) (by rw [byP_len]; exact List.mem_range.mp hx) (by rw [byP_len]; exact tp.1))
theorem lesF_few {w : WebD} (g : Good 4 w) (l : w.length ≤ 6) : (lesF w).length < 64 := by
  have f := (parts_few (w.length - 1) (by omega)).2
  refine Nat.lt_of_le_of_lt ?_ f
  unfold lesF
  have sub : ((partsL (w.length - 1)).filter fun p => leadB w (byP w p) (asI p)) = ((partsL (w.length - 1)).filter evenB).filter fun p => leadB w (byP w p) (asI p) := by
    rw [List.filter_filter]
    refine List.filter_congr fun p hp => ?_
    cases c : leadB w (byP w p) (asI p) with
    | false => rfl
    | true =>
      obtain ⟨ld, e, L⟩ := led_of_lead g.bnd c
      rw [← asI_inj e] at L
      have := LessP.even g ⟨hp, L, c⟩
      rw [this]
      rfl
  rw [sub]
  exact List.length_filter_le _ _
def pkey (p : List Nat) : NumK := (topN p, p)
structure LesOf (w : WebD) (ks : List (List Nat)) : Prop where
  perm : ks.Perm (lesF w)
  srt : ks.Pairwise fun p q => ltNumK (pkey p) (pkey q) = true
theorem ltNumK_irr (a : NumK) : ltNumK a a = false := by
  unfold ltNumK
  rw [if_pos rfl, ltNums_irr]
theorem srt_one {α : Type} {R : α → α → Bool} (irr : ∀ a, R a a = false) (tr : ∀ a b c, R a b = true → R b c = true → R a c = true) : ∀ {l m : List α}, l.Perm m → l.Pairwise (fun a b => R a b = true) → m.Pairwise (fun a b => R a b = true) → l = m
  | [], m, p, _, _ => by rw [List.nil_perm.mp p]
  | x :: l, [], p, _, _ => absurd p.length_eq (by simp)
  | x :: l, y :: m, p, hl, hm => by
    obtain ⟨l1, l2⟩ := List.pairwise_cons.mp hl
    obtain ⟨m1, m2⟩ := List.pairwise_cons.mp hm
    have exy : x = y := by
      rcases List.mem_cons.mp (p.mem_iff.mp (List.mem_cons_self (a := x) (l := l))) with e | e
      · exact e
      · rcases List.mem_cons.mp (p.mem_iff.mpr (List.mem_cons_self (a := y) (l := m))) with e2 | e2
        · exact e2.symm
        · have := tr _ _ _ (m1 x e) (l1 y e2)
          rw [irr] at this
          cases this
    subst exy
    rw [srt_one irr tr (List.Perm.cons_inv p) l2 m2]
theorem LesOf.uniq {w : WebD} {ks ks' : List (List Nat)} (h : LesOf w ks) (h' : LesOf w ks') : ks = ks' := srt_one (R := fun p q => ltNumK (pkey p) (pkey q)) (fun a => ltNumK_irr _) (fun a b c => ltNumK_tr) (h.perm.trans h'.perm.symm) h.srt h'.srt
def PrtAt (H : Hp) (w : WebD) (r : Addr) (p : List Nat) : Prop := ∃ x y, H r = some (.tup [.ref x, .ref y]) ∧ WebAt H x (byP w p) ∧ NumT H y p
theorem PrtAt.same {H H' : Hp} {w : WebD} {r : Addr} {p : List Nat} (s : Same H H') : PrtAt H w r p → PrtAt H' w r p
  | ⟨x, y, h1, h2, h3⟩ => ⟨x, y, s _ _ h1, h2.tups (sTups s), h3.same s⟩
def RowsN (H : Hp) (as : List Addr) (ps : List (List Nat)) : Prop := Paired (NumT H) as ps
theorem RowsN.same {H H' : Hp} {as : List Addr} {ps : List (List Nat)} (s : Same H H') (h : RowsN H as ps) : RowsN H' as ps := Paired.mapP h fun _ _ z => NumT.same s z
theorem NumT.up {H : Hp} {r D : Addr} {ns : List Nat} {l : List V} {o' : HO} (h : NumT H r ns) (hD : H D = some (.lst l)) : NumT (upd H D o') r ns := TupD.upd h hD
def spPrs : Sp := fun vs H Q _ => ∃ n : Nat, vs = [natV n] ∧ 1 ≤ n ∧ n ≤ 6 ∧ ∀ (l : Addr) (as : List Addr) (H' : Hp), Same H H' → H l = none → H' l = some (.lst (as.map V.ref)) → RowsN H' as (partsL (n - 1)) → Q (.ref l) H'
structure StepK (T U : Addr) (pos : Pos) (qual : Str) (H H' : Hp) : Prop where
  keep : ∀ b o, b ≠ T → b ≠ U → H b = some o → H' b = some o
  tbl : TblAt H' T
  lam : LamAt H' U pos qual
section
variable {T U : Addr} {pos : Pos} {qual : Str} {H H1 H2 : Hp}
theorem StepK.refl (t : TblAt H T) (l : LamAt H U pos qual) : StepK T U pos qual H H := ⟨fun _ _ _ _ e => e, t, l⟩
theorem StepK.same (a : StepK T U pos qual H H1) (s : Same H1 H2) : StepK T U pos qual H H2 := ⟨fun b o n m e => s _ _ (a.keep b o n m e), a.tbl.same s, a.lam.same s⟩
theorem lam_ne (l : LamAt H U pos qual) {b : Addr} (n : H b = none) : b ≠ U := fun z => by
  obtain ⟨ps, e, _⟩ := l.ex
  rw [z, e] at n
  cases n
theorem lam_stepT (ne : T ≠ U) (t : TblAt H T) (l : LamAt H U pos qual) (a : StepT T H H1) : LamAt H1 U pos qual := by
  obtain ⟨ps, e, tr, k⟩ := l.ex
  refine ⟨ps, a.keep U _ ne.symm e, tr, fun cv h => ?_⟩
  obtain ⟨c, e1, e2⟩ := k cv h
  exact ⟨c, e1, a.keep c _ (fun z => by
    obtain ⟨q, eq, _⟩ := t.ex
    rw [z, eq] at e2
    cases e2) e2⟩
theorem StepK.stepT (ne : T ≠ U) (a : StepK T U pos qual H H1) (b : StepT T H1 H2) : StepK T U pos qual H H2 := ⟨fun c o n m e => b.keep c o n (a.keep c o n m e), b.tbl, lam_stepT ne a.tbl a.lam b⟩
theorem StepK.stepL (ne : T ≠ U) (a : StepK T U pos qual H H1) (b : StepL U pos qual H1 H2) : StepK T U pos qual H H2 := ⟨fun c o n m e => b.keep c o m (a.keep c o n m e), by
  obtain ⟨ps, e, t⟩ := a.tbl.ex
  exact ⟨ps, b.keep T _ ne e, t⟩, b.lam⟩
theorem StepK.trans (a : StepK T U pos qual H H1) (b : StepK T U pos qual H1 H2) : StepK T U pos qual H H2 := ⟨fun c o n m e => b.keep c o n m (a.keep c o n m e), b.tbl, b.lam⟩
theorem StepK.tups (a : StepK T U pos qual H H1) (t : TblAt H T) (l : LamAt H U pos qual) : Tups H H1 := fun b xs e => a.keep b _ (fun z => by
  obtain ⟨ps, e', _⟩ := t.ex
  rw [z, e'] at e
  cases e) (fun z => by
  obtain ⟨ps, e', _⟩ := l.ex
  rw [z, e'] at e
  cases e) e
theorem StepK.frz (a : StepK T U pos qual H H1) (t : TblAt H T) (l : LamAt H U pos qual) {b : Addr} {o : HO} (e : H b = some o) (n : ∀ ps, o ≠ .tbl ps) : H1 b = some o := a.keep b o (fun z => by
  obtain ⟨ps, e', _⟩ := t.ex
  rw [z, e'] at e
  exact n ps (Option.some.inj e).symm) (fun z => by
  obtain ⟨ps, e', _⟩ := l.ex
  rw [z, e'] at e
  exact n ps (Option.some.inj e).symm) e
theorem StepK.numT (a : StepK T U pos qual H H1) (t : TblAt H T) (l : LamAt H U pos qual) {b : Addr} {ns : List Nat} (h : NumT H b ns) : NumT H1 b ns := by
  obtain ⟨o, e, c⟩ := h
  exact ⟨o, a.frz t l e (fun ps z => (nomatch z)), c⟩
theorem StepK.free (a : StepK T U pos qual H H1) {q : Addr} (n : H1 q = none) : H q = none := by
  cases e : H q with
  | none => rfl
  | some o =>
    rw [a.keep q o (a.tbl.ne n) (lam_ne a.lam n) e] at n
    cases n
theorem StepK.lst (a : StepK T U pos qual H H1) {D : Addr} {l : List V} {o : HO} (n : H D = none) (e : H1 D = some (.lst l)) : StepK T U pos qual H (upd H1 D o) := by
  have dT : T ≠ D := fun z => by
    obtain ⟨ps, e', _⟩ := a.tbl.ex
    rw [z, e] at e'
    cases e'
  have dU : U ≠ D := fun z => by
    obtain ⟨ps, e', _⟩ := a.lam.ex
    rw [z, e] at e'
    cases e'
  refine ⟨fun b u m m' eb => by rw [upd_ne (ne_of_none eb n)]; exact a.keep b u m m' eb, ?_, ?_⟩
  · obtain ⟨ps, e', t⟩ := a.tbl.ex
    exact ⟨ps, by rw [upd_ne dT]; exact e', t⟩
  · obtain ⟨ps, e', t, k⟩ := a.lam.ex
    refine ⟨ps, by rw [upd_ne dU]; exact e', t, fun cv h => ?_⟩
    obtain ⟨c, e1, e2⟩ := k cv h
    exact ⟨c, e1, by rw [upd_ne (fun z => by rw [z, e] at e2; cases e2)]; exact e2⟩
theorem PrtAt.tups {H H' : Hp} {w : WebD} {r : Addr} {p : List Nat} (s : Tups H H') (f : ∀ b ns, NumT H b ns → NumT H' b ns) : PrtAt H w r p → PrtAt H' w r p
  | ⟨x, y, h1, h2, h3⟩ => ⟨x, y, s _ _ h1, h2.tups s, f _ _ h3⟩
end
def spLes (T U : Addr) (pos : Pos) (qual : Str) : Sp := fun vs H Q _ => ∃ (a : Addr) (w : WebD), vs = [.ref a] ∧ WebAt H a w ∧ Good 4 w ∧ w.length ≤ 6 ∧ TblAt H T ∧ LamAt H U pos qual ∧ T ≠ U ∧
  ∀ (l : Addr) (as : List Addr) (ks : List (List Nat)) (H' : Hp), StepK T U pos qual H H' → H l = none → H' l = some (.lst (as.map V.ref)) → Paired (PrtAt H' w) as ks → LesOf w ks → Q (.ref l) H'
def spDue : Sp := fun vs H Q _ => ∃ (a : Addr) (w : WebD), vs = [.ref a] ∧ WebAt H a w ∧ Good 4 w ∧ w.length ≤ 6 ∧
  ∀ (l : Addr) (as : List Addr) (ks : List (List Nat)) (H' : Hp), Same H H' → H l = none → H' l = some (.lst (as.map V.ref)) → Paired (PrtAt H' w) as ks → LesOf w ks → Q (.ref l) H'
theorem flatL_take {α β : Type} {f : α → List β} {l : List α} {c : Nat} {x : α} (e : l[c]? = some x) : (l.take (c + 1)).flatMap f = (l.take c).flatMap f ++ f x := by
  rw [List.take_succ, e, List.flatMap_append]
  simp
theorem flatL_len {α β : Type} {f : α → List β} {k : Nat} : ∀ {l : List α}, (∀ x ∈ l, (f x).length ≤ k) → (l.flatMap f).length ≤ l.length * k
  | [], _ => by simp
  | x :: l, h => by
    rw [List.flatMap_cons, List.length_append, List.length_cons]
    have h1 := h x List.mem_cons_self
    have h2 := flatL_len (l := l) fun y hy => h y (List.mem_cons_of_mem _ hy)
    rw [Nat.add_mul, Nat.one_mul]
    omega
theorem p203 {i c : Nat} (hi : i < 6) : (((partsL i).take c).flatMap fun r => (List.range (topN r + 1)).map fun x => r ++ [x]).length ≤ 1421 := by
  have f := (parts_few i hi).1
  have := flatL_len (f := fun r : List Nat => (List.range (topN r + 1)).map fun x => r ++ [x]) (k := 7) (l := (partsL i).take c) fun r hr => by
    have := (partsL_top (List.mem_of_mem_take hr)).2
    rw [List.length_map, List.length_range]
    omega
  have t : ((partsL i).take c).length ≤ 203 := by rw [List.length_take]; omega
  refine Nat.le_trans this ?_
  omega
theorem dpAll_nats {K : PySem.W.Frag} {H : Hp} : ∀ l : List Nat, DpAll K H (l.map natV) (l.map natP)
  | [] => .nil
  | n :: l => .cons (.int _) (dpAll_nats l)
theorem dp_numT {K : PySem.W.Frag} {H : Hp} {b : Addr} {p : List Nat} (h : NumT H b p) : Dp K H (.ref b) (natsP p) := .tup h.sq (dpAll_nats p)
theorem numT_row {H : Hp} {b : Addr} {p : List Nat} (h : NumT H b p) : RowR H b (asI p) := .inr (by
  unfold RowD asI
  rw [List.map_map]
  exact h)
theorem les_sorted {w : WebD} {R : Addr → List Nat → Prop} {ds : List Addr} {ks : List (List Nat)} {Ls : List (Addr × NumK)} (hp : Paired R ds ks) (hk : ks = lesF w) (pm : Ls.Perm (ds.zip (ks.map pkey))) (srt : Ls.Pairwise fun x y => ltNumK x.2 y.2 = true) :
    Paired R (Ls.map fun x => x.1) (Ls.map fun x => x.2.2) ∧ LesOf w (Ls.map fun x => x.2.2) := by
  have all : ∀ x ∈ Ls, x.2 = pkey x.2.2 ∧ R x.1 x.2.2 := fun x hx => by
    obtain ⟨i, hi⟩ := List.getElem?_of_mem (pm.mem_iff.mp hx)
    rw [List.getElem?_zip_eq_some] at hi
    obtain ⟨e1, e2⟩ := hi
    rw [List.getElem?_map] at e2
    obtain ⟨p, ep, e3⟩ := Option.map_eq_some_iff.mp e2
    obtain ⟨p', ep', hR⟩ := paired_get hp e1
    rw [ep] at ep'
    cases ep'
    rw [← e3]
    exact ⟨rfl, hR⟩
  have e : (ds.zip (ks.map pkey)).map (fun x => x.2.2) = ks := by
    have hl := Paired.length hp
    clear pm all srt hk
    induction hp with
    | nil => rfl
    | cons h t ih => 
      rw [List.map_cons, List.zip_cons_cons, List.map_cons, ih (Paired.length t)]
      rfl
  refine ⟨?_, ?_, ?_⟩
  · clear pm srt
    induction Ls with
    | nil => exact .nil
    | cons x Ls ih => exact .cons (all x List.mem_cons_self).2 (ih fun y hy => all y (List.mem_cons_of_mem _ hy))
  · have := pm.map (fun x : Addr × NumK => x.2.2)
    rw [e, hk] at this
    exact this
  · rw [List.pairwise_map]
    refine List.Pairwise.imp_of_mem (fun {x y} mx my h => ?_) srt
    rw [← (all x mx).1, ← (all y my).1]
    exact h
theorem byP_sh {w : WebD} (s : Sh w) (l : w.length ≤ 6) {p : List Nat} (m : p ∈ partsL (w.length - 1)) : Sh (byP w p) := by
  have D := partsL_dense m
  have tp := partsL_top m
  have pl := partsL_len m
  have w0 := s.pos
  refine ⟨by rw [byP_len]; exact tp.1, by rw [byP_len]; omega, fun h hd e => ?_, fun h hd e x mx => ?_⟩
  · have hl : h < topN p := by rw [← byP_len w p]; exact (List.getElem?_eq_some_iff.mp e).1
    rw [byP_at hl] at e
    cases e
    have jl : p.idxOf h < w.length := by
      have := List.idxOf_lt_length_of_mem (D.all h hl)
      omega
    unfold partH
    rw [List.length_map]
    exact s.few _ _ (hget jl)
  · have hl : h < topN p := by rw [← byP_len w p]; exact (List.getElem?_eq_some_iff.mp e).1
    rw [byP_at hl] at e
    cases e
    have jl : p.idxOf h < w.length := by
      have := List.idxOf_lt_length_of_mem (D.all h hl)
      omega
    unfold partH at mx
    obtain ⟨y, my, rfl⟩ := List.mem_map.mp mx
    obtain ⟨g, eg, gl⟩ := s.near _ _ (hget jl) y my
    refine ⟨p.getD g 0, ?_, ?_⟩
    · unfold partP
      rw [eg, Int.toNat_natCast]
    · rw [byP_len]
      exact D.lt _ (List.mem_of_getElem? (nget (by omega)))
theorem rowOk_parts {w : WebD} {p : List Nat} (m : p ∈ partsL (w.length - 1)) : RowOk (byP w p).length (asI p) := fun r hr => by
  unfold asI at hr
  obtain ⟨n, hn, rfl⟩ := List.mem_map.mp hr
  exact ⟨n, rfl, by rw [byP_len]; exact (partsL_dense m).lt n hn⟩
theorem lead_parts {w : WebD} (w0 : 0 < w.length) {p : List Nat} (m : p ∈ partsL (w.length - 1)) : leadB w (byP w p) (asI p) = (List.range w.length).all (agrAt w (byP w p) (asI p)) := by
  unfold leadB
  have pl := partsL_len m
  rw [decide_eq_true (by unfold asI; rw [List.length_map]; omega : (asI p).length = w.length)]
  have : (asI p).all (inB (byP w p).length) = true := by
    rw [List.all_eq_true]
    intro r hr
    obtain ⟨g, rfl, gl⟩ := rowOk_parts m r hr
    unfold inB
    rw [decide_eq_true (by omega : (0 : Int) ≤ g), decide_eq_true (by omega : (g : Int) < ((byP w p).length : Int))]
    rfl
  rw [this]
  rfl
theorem it_web (w : WebD) : itD (webP w) = true := by
  unfold webP
  rw [itD]
  induction w with
  | nil => simp [itAll]
  | cons h w ih => rw [List.map_cons, itAll, it_hand, ih]; rfl
theorem web_rest (w : WebD) : ∀ d ∈ [webP w], PyData.canLay0 d = true ∧ PyData.eqv d d = true ∧ PyData.depth d ≤ 6 ∧ itD d = true := fun d hd => by
  rw [List.mem_singleton.mp hd]
  exact ⟨enc_web.can w, by rw [enc_web.eq]; simp, Nat.le_trans (enc_web.dep w) (by decide), it_web w⟩
def TrpAt (H : Hp) (w : WebD) (r : Addr) (p : List Nat) : Prop := ∃ x y, H r = some (.tup [natV (topN p), .ref y, .ref x]) ∧ WebAt H x (byP w p) ∧ NumT H y p
theorem TrpAt.same {H H' : Hp} {w : WebD} {r : Addr} {p : List Nat} (s : Same H H') : TrpAt H w r p → TrpAt H' w r p
  | ⟨x, y, h1, h2, h3⟩ => ⟨x, y, s _ _ h1, h2.tups (sTups s), h3.same s⟩
theorem TrpAt.up {H : Hp} {w : WebD} {r D : Addr} {p : List Nat} {l : List V} {o' : HO} (h : TrpAt H w r p) (hD : H D = some (.lst l)) : TrpAt (upd H D o') w r p := by
  obtain ⟨x, y, h1, h2, h3⟩ := h
  exact ⟨x, y, tups_lst hD _ _ h1, h2.tups (tups_lst hD), h3.up hD⟩
theorem PrtAt.up {H : Hp} {w : WebD} {r D : Addr} {p : List Nat} {l : List V} {o' : HO} (h : PrtAt H w r p) (hD : H D = some (.lst l)) : PrtAt (upd H D o') w r p := by
  obtain ⟨x, y, h1, h2, h3⟩ := h
  exact ⟨x, y, tups_lst hD _ _ h1, h2.tups (tups_lst hD), h3.up hD⟩
theorem paired_pkey {R : Addr → List Nat → Prop} {S : Addr → NumK → Prop} (h : ∀ r p, R r p → S r (pkey p)) : ∀ {ds : List Addr} {ks : List (List Nat)}, Paired R ds ks → Paired S ds (ks.map pkey)
  | _, _, .nil => .nil
  | _, _, .cons z t => .cons (h _ _ z) (paired_pkey h t)
end NH
set_option Elab.async false
set_option linter.all false
set_option maxRecDepth 100000
set_option maxHeartbeats 1000000
namespace L2
open PySem PySem.Spec PyProof.Rows
theorem toks_num : ∀ {ns : List Int} {us : List Value}, Vals (ns.map V.int) us → ∃ xs : List (Int × Tok), us = xs.map (fun p => Value.int p.1 p.2) ∧ ns = xs.map (·.1)
  | [], us, r => by cases r; exact ⟨[], rfl, rfl⟩
  | n :: ns, us, r => by
    rw [List.map_cons] at r
    cases r with
    | @cons _ u _ us h t =>
      obtain ⟨xs, e1, e2⟩ := toks_num (ns := ns) t
      obtain ⟨k, rfl⟩ := (show ∃ k, u = Value.int n k from h)
      exact ⟨(n, k) :: xs, by rw [e1]; rfl, by rw [e2]; rfl⟩
def rMaxT (K : PySem.W.Frag) : List V → Hp → VK → Prop := fun vs H Q => ∃ (a : Addr) (ns : List Int), vs = [.ref a] ∧ SqT K H a (ns.map V.int) ∧ 0 < ns.length ∧ ∀ m ∈ ns, (∀ n ∈ ns, n ≤ m) → Q (.int m) H
theorem call_maxT {X : Cx} (hc : X.calm = true) : CallR X (.builtin "max") (rMaxT X.K) := by
  intro pins s σ H vs us Q I r h
  obtain ⟨a, ns, rfl, hs, pos, q⟩ := h
  rw [Vals.ref1 r]
  obtain ⟨its, rv, ht, _⟩ := I.tuple hs
  obtain ⟨xs, rfl, rfl⟩ := toks_num rv
  have e : (xs.map fun p => Value.int p.1 p.2).toArray = intItems xs.toArray := by unfold intItems; simp
  have ht' : s.heap.IsTuple a (intItems xs.toArray) := by rw [← e]; exact ht
  have ne : a ≠ s.heap.objs.size := by obtain ⟨_, g, _⟩ := ht'; exact Nat.ne_of_lt (Heap.lt_size g)
  have hl : a < s.heap.objs.size := by obtain ⟨_, g, _⟩ := ht'; exact Heap.lt_size g
  rw [List.length_map] at pos
  have sz : (intItems xs.toArray).size = xs.toArray.size := by unfold intItems; rw [Array.size_map]
  refine call_max_walk (wpAny_pyIter_tuple ht' ⟨s.heap.objs.size, _, _, _, _, _, _, rfl, Walks.tuple (A := X.A.in1) (I.ok.hd hc) _ a ne (intItems xs.toArray), ⟨⟨_, Heap.get?_push_size _ rfl, rfl, rfl⟩, ht'.push _⟩, fun b hb => ?_, by rw [sz]; simpa using pos, CmpOf.ints_gt (numAt xs.toArray) (fun _ _ => intItems_at), fun v h' tk hP hk => ?_⟩)
  · show b < (s.heap.push _).objs.size
    rw [Heap.size_push]
    simp only [List.mem_cons, List.not_mem_nil, or_false] at hb
    rcases hb with z | z
    · rw [z]; exact Nat.lt_succ_self _
    · rw [z]; exact Nat.lt_succ_of_lt hl
  · rw [sz] at hP
    obtain ⟨t, rfl⟩ := intItems_at hP
    obtain ⟨h1, h2⟩ := PySem.argBest_gt (numAt xs.toArray) (xs.toArray.size - 1)
    have kp : ∀ b o, s.heap.get? b = some o → h'.get? b = some o := fun b o g => hk b o (fun hm => by
      have := Heap.lt_size g
      simp only [List.mem_cons, List.not_mem_nil, or_false] at hm
      rw [hm] at this
      exact Nat.lt_irrefl _ this) (Heap.get?_push_of_some _ g)
    refine ⟨.int _, H, I.kept kp, ⟨_, rfl⟩, q _ ?_ fun n hn => ?_⟩
    · rw [PySem.numAt_eq]
      exact PySem.getD_mem (by rw [List.length_map]; simp at h1 ⊢; omega)
    · obtain ⟨j, hj, rfl⟩ := PySem.mem_getD hn
      rw [List.length_map] at hj
      have := h2 j (by simp; omega)
      rw [PySem.numAt_eq xs.toArray j] at this
      exact this
end L2
namespace NH
open PySem L2
theorem max_is {ns : List Nat} {m : Int} (hm : m ∈ ns.map fun n : Nat => (n : Int)) (le : ∀ n ∈ ns.map fun n : Nat => (n : Int), n ≤ m) : ∃ k : Nat, m = (k : Int) ∧ k + 1 = topN ns := by
  obtain ⟨k, hk, rfl⟩ := List.mem_map.mp hm
  refine ⟨k, rfl, ?_⟩
  have h1 := le_top hk
  have h2 := top_le (c := k + 1) (ns := ns) fun v hv => by
    have := le _ (List.mem_map.mpr ⟨v, hv, rfl⟩)
    omega
  omega
theorem idx_first {α : Type} [DecidableEq α] {x : α} : ∀ {l : List α} {i : Nat}, i < l.idxOf x → l[i]? ≠ some x
  | [], i, _ => by simp
  | y :: l, i, h => by
    rw [List.idxOf_cons] at h
    by_cases e : (y == x) = true
    · rw [e] at h
      exact absurd h (Nat.not_lt_zero _)
    · rw [Bool.not_eq_true] at e
      rw [e] at h
      cases i with
      | zero =>
        intro z
        have : y = x := Option.some.inj z
        rw [this] at e
        simp at e
      | succ i =>
        rw [List.getElem?_cons_succ]
        exact idx_first (l := l) (by simpa using h)
def spByp : Sp := fun vs H Q _ => ∃ (a b : Addr) (w : WebD) (ns : List Nat), vs = [.ref a, .ref b] ∧ WebAt H a w ∧ NumT H b ns ∧ ns.length = w.length ∧ Bd w ∧ (∃ c, Dense ns c ∧ c ≤ 1000) ∧ 0 < w.length ∧ w.length ≤ 1000 ∧ (∀ (h : Nat) hd, w[h]? = some hd → hd.2.length ≤ 1000) ∧
  ∀ (r : Addr) (H' : Hp), Same H H' → WebAt H' r (byP w ns) → Q (.ref r) H'
end NH
set_option Elab.async false
set_option linter.all false
set_option maxRecDepth 100000
set_option maxHeartbeats 4000000
namespace NH
open PySem L2
abbrev sPrs : Stmt := top 6
abbrev nPrs : List Str := ["many", "rows", "hand", "row", "number"]
theorem scPrs : FnScope nPrs ["many"] (defScope sPrs) := ⟨rfl, rfl, rfl, by decide +kernel, rfl, by decide +kernel, by decide +kernel⟩
section
variable {P : Program} {w : World} {K : PySem.W.Frag} {mg : Str → Option Value} {base : Heap}
theorem ok_prs {f : Addr} {fd : FuncData} (F : Fun K "partings" "partings" sPrs f fd) (G : Dr P w K mg base) : FnOk P w K mg base CX0 1 f fd ["many"] spPrs := by
  refine F.ok scPrs (fun vs H Q E h => ?_) (fun cdv A outer s H vs Q E hr h => ?_)
  · obtain ⟨n, rfl, _⟩ := h
    rfl
  · obtain ⟨n, rfl, n1, n6, k⟩ := h
    have nd := scPrs.nd
    refine ⟨_, (pss_cons (ps_set (i := 1) nd rfl (Or.inl rfl) (pe_lst (pa_cons (pe_tupF (pa_cons pe_int pa_nil)) pa_nil)))
      (pss_cons (ps_for PassesOwn.never rfl (pi_range2 (by rfl) G.mrange (pa_cons pe_int (pa_cons (pv 0) pa_nil))) (pg_name (i := 2) nd rfl (Or.inl rfl))
        (pss_one (ps_setLc2 (i := 1) (own := [("row", 3), ("number", 4)]) (vs1 := [4]) (g := gName 3) (tt := tYes) (wi1 := iRng1 (tCons (tOp (rI0 fun i j => .int (i + j)) (tCB (rMaxT K) (tCons (tVar 3) tNil)) (tC (.int 2))) tNil)) (g1 := gName 4) (tt1 := tYes) (te := (tOp (rCatF K) (tVar 3) (tTupF (tCons (tVar 4) tNil))))
          (by rfl) nd rfl rfl (sw_true rfl rfl rfl (by decide +kernel)) (pi_list (pv 1)) (blkOk_by (own := [("row", 3), ("number", 4)]) (N := nPrs) (sc := defScope sPrs) (by decide +kernel)) (by decide)
          (fun _ _ _ _ _ => by exact (pg_name (i := 3) nd rfl (Or.inl rfl))) (fun _ _ _ _ _ => by exact pts_nil) (fun _ _ _ _ _ => by exact (pi_range1 (by rfl) G.mrange (pa_cons (pe_op op_add (pe_callB (call_maxT (by rfl)) (by rfl) G.mmax (by decide +kernel) (pa_cons (pv 3) pa_nil)) pe_int) pa_nil))) (fun _ _ _ _ _ => by exact (pg_name (i := 4) nd rfl (Or.inl rfl))) (fun _ _ _ _ _ => by exact pts_nil)
          (fun _ _ _ _ _ => by exact (pe_op op_catF (pv 3) (pe_tupF (pa_cons (pv 4) pa_nil)))))))
      (pss_one (ps_ret (pv 1))))), ?_⟩
    refine ⟨(by show 1 ≤ sizeLine; decide), fun t H0 st nt ht => ⟨(by show 1 ≤ sizeLine; decide), fun L nL => ?_⟩⟩
    have sL := same_new (o := .lst [.ref t]) nL
    have eL : (upd H0 L (.lst [.ref t])) L = some (.lst ([t].map V.ref)) := upd_same
    have n0L := st.free nL
    have ht1 : NumT (upd H0 L (.lst [.ref t])) t [0] := NumT.same sL ht
    have s1 := st.trans sL
    generalize (upd H0 L (.lst [.ref t])) = H1 at s1 eL ht1 ⊢
    clear st sL nL ht nt
    refine ⟨_, rfl, 1, (n : Int), rfl, ⟨by omega, by omega, by omega, by omega⟩, ?_⟩
    have en : ((n : Int) - 1).toNat = n - 1 := by omega
    rw [en]
    refine for_range (lo := 1) (n := n - 1) (fun i σ H2 => Same H H2 ∧ ∃ (L : Addr) (o2 o3 o4 : Option V), σ = [some (natV n), some (.ref L), o2, o3, o4] ∧ H L = none ∧ ∃ as : List Addr, H2 L = some (.lst (as.map V.ref)) ∧ RowsN H2 as (partsL i))
      ⟨s1, L, _, _, _, rfl, n0L, [t], eL, .cons ht1 .nil⟩ ?_ ?_
    · rintro i σ H2 hi ⟨s2, L2, o2, o3, o4, rfl, _, as, hL, has⟩
      have i6 : i < 6 := by omega
      have asl := Paired.length has
      refine ⟨_, rfl, L2, rfl, ⟨_, SqL.of hL⟩, fun D nD => ?_⟩
      refine ⟨fun c k H3 => c ≤ as.length ∧ k = as.length - c ∧ Same H2 H3 ∧ ∃ ds : List Addr, H3 D = some (.lst (ds.map V.ref)) ∧ RowsN H3 ds (((partsL i).take c).flatMap fun r => (List.range (topN r + 1)).map fun x => r ++ [x]), ⟨as.length, Nat.zero_le _, rfl, same_new nD, [], upd_same, .nil⟩, ?_⟩
      rintro c kk H3 ⟨cn, rfl, s3, ds, hD, hds⟩
      by_cases cl : c < as.length
      · obtain ⟨ra, era⟩ : ∃ ra, as[c]? = some ra := ⟨_, List.getElem?_eq_getElem cl⟩
        obtain ⟨r, er, hr2⟩ := paired_get has era
        have hr3 := NumT.same s3 hr2
        have rm := List.mem_of_getElem? er
        have rl := partsL_len rm
        have rt := partsL_top rm
        refine .inr ⟨⟨_, .ref ra, SqL.of (s3 _ _ hL), by rw [List.getElem?_map, era]; rfl⟩, fun H' => Same H2 H' ∧ ∃ ds : List Addr, H' D = some (.lst (ds.map V.ref)) ∧ RowsN H' ds (((partsL i).take (c + 1)).flatMap fun r => (List.range (topN r + 1)).map fun x => r ++ [x]), fun H' p' => ⟨as.length - (c + 1), by omega, cl, rfl, p'⟩, fun x H' y => ?_⟩
        obtain ⟨e, y⟩ := y
        subst e
        have y := y _ (SqL.of (s3 _ _ hL))
        rw [List.getElem?_map, era] at y
        cases y
        refine ⟨rfl, ?_⟩
        dsimp only [tYes]
        rw [if_pos rfl]
        refine ⟨_, rfl, ra, r.map fun n : Nat => (n : Int), rfl, (by rw [List.map_map]; exact NumT.sq hr3), (by rw [List.length_map]; omega), fun m hm le => ?_⟩
        obtain ⟨m, rfl, em⟩ := max_is hm le
        refine ⟨_, _, rfl, rfl, _, rfl, (by omega), (by omega), ?_⟩
        have tn : ((m : Int) + 2).toNat = topN r + 1 := by omega
        rw [tn]
        have pl := Paired.length hds
        have fl2 := p203 (c := c) i6
        refine ⟨fun e k H5 => e ≤ topN r + 1 ∧ k = topN r + 1 - e ∧ Same H2 H5 ∧ ∃ ds : List Addr, H5 D = some (.lst (ds.map V.ref)) ∧ RowsN H5 ds ((((partsL i).take c).flatMap fun r => (List.range (topN r + 1)).map fun x => r ++ [x]) ++ (List.range e).map fun x => r ++ [x]),
          ⟨topN r + 1, Nat.zero_le _, rfl, s3, ds, hD, by rw [List.range_zero, List.map_nil, List.append_nil]; exact hds⟩, ?_⟩
        rintro e kk H5 ⟨en, rfl, s5, ds5, hD5, hds5⟩
        by_cases el : e < topN r + 1
        · refine .inr ⟨el, fun H' => Same H2 H' ∧ ∃ ds : List Addr, H' D = some (.lst (ds.map V.ref)) ∧ RowsN H' ds ((((partsL i).take c).flatMap fun r => (List.range (topN r + 1)).map fun x => r ++ [x]) ++ (List.range (e + 1)).map fun x => r ++ [x]), fun H' p' => ⟨topN r + 1 - (e + 1), by omega, el, rfl, p'⟩, fun z H' y => ?_⟩
          obtain ⟨e1, e2⟩ := y
          subst e1 e2
          refine ⟨rfl, ?_⟩
          dsimp only [tYes]
          rw [if_pos rfl, Int.zero_add]
          have hr5 := NumT.same s5 hr2
          refine ⟨_, rfl, _, rfl, (by show 1 ≤ sizeLine; decide), fun Y H6 sY nY hY => ?_⟩
          refine ⟨ra, Y, _, _, rfl, rfl, (NumT.same sY hr5).sq, TupD.sq hY, (fun z => by rw [List.map_eq_nil_iff] at z; rw [z] at rl; cases rl), (fun z => nomatch z), (by rw [List.length_map, sizeLine_eq]; show r.length + 1 ≤ _; omega), fun p H7 s7 np hp => ?_⟩
          have s57 := sY.trans s7
          have hD7 := s57 _ _ hD5
          have p5 := Paired.length hds5
          rw [List.length_append, List.length_map, List.length_range] at p5
          have hnew : NumT (upd H7 D (.lst (ds5.map V.ref ++ [V.ref p]))) p (r ++ [e]) := NumT.up (by
            unfold NumT
            rw [List.map_append]
            exact hp) hD7
          refine ⟨_, hD7, (by rw [List.length_map, p5, sizeLine_eq]; omega), same_upd (s5.trans s57) nD, ds5 ++ [p], by rw [List.map_append]; exact upd_same, ?_⟩
          rw [List.range_succ, List.map_append, ← List.append_assoc]
          exact paired_snoc (R := NumT (upd H7 D (.lst (ds5.map V.ref ++ [V.ref p])))) hnew (Paired.mapP hds5 fun _ _ z => NumT.up (NumT.same s57 z) hD7)
        · have ee : e = topN r + 1 := by omega
          subst ee
          refine .inl ⟨Nat.le_refl _, s5, ds5, hD5, ?_⟩
          rw [flatL_take er]
          exact hds5
      · have ec : c = as.length := by omega
        subst ec
        rw [asl, List.take_length] at hds
        refine .inl ⟨⟨_, SqL.of (s3 _ _ hL), by rw [List.length_map]; exact Nat.le_refl _⟩, ?_⟩
        exact ⟨s2.trans s3, D, _, _, _, rfl, s2.free nD, ds, hD, hds⟩
    · rintro σ H2 ⟨s2, L2, o2, o3, o4, rfl, n2, as, hL, has⟩
      exact ⟨_, rfl, k L2 as H2 s2 n2 hL has⟩
end
end NH
set_option Elab.async false
set_option linter.all false
set_option maxRecDepth 100000
set_option maxHeartbeats 4000000
namespace NH
open PySem L2
abbrev sByp : Stmt := top 4
abbrev nByp : List Str := ["web", "parting", "hands", "number", "mark", "pegs", "near", "place"]
theorem scByp : FnScope nByp ["web", "parting"] (defScope sByp) := ⟨rfl, rfl, rfl, by decide +kernel, rfl, by decide +kernel, by decide +kernel⟩
theorem hget_eq {w : WebD} {i : Nat} {hd : HandD} (e : w[i]? = some hd) : w.getD i (0, []) = hd := by
  rw [List.getD_eq_getElem?_getD, e]
  rfl
theorem eqV_self (i : Nat) : eqV (natV i) (natV i) = true := by
  rw [eqV_nat]
  simp
theorem index_no {l : List Nat} {y k : Nat} {z' : V} (hk : k < l.idxOf y) (ez : (l.map natV)[k]? = some z') : eqV z' (natV y) = false := by
  rw [List.getElem?_map] at ez
  obtain ⟨z, e1, rfl⟩ := Option.map_eq_some_iff.mp ez
  rw [eqV_nat, decide_eq_false_iff_not]
  rintro rfl
  exact idx_first hk e1
section
variable {P : Program} {w : World} {K : PySem.W.Frag} {mg : Str → Option Value} {base : Heap}
theorem ok_byp {f : Addr} {fd : FuncData} (F : Fun K "by_parting" "by_parting" sByp f fd) (G : Dr P w K mg base) : FnOk P w K mg base CX0 1 f fd ["web", "parting"] spByp := by
  refine F.ok scByp (fun vs H Q E h => ?_) (fun cdv A outer s H vs Q E hr h => ?_)
  · obtain ⟨a, b, wb, ns, rfl, _⟩ := h
    rfl
  · obtain ⟨a, b0, wb, ns, rfl, ⟨hs, hWa, hWP⟩, hN, nl, bd, ⟨c, Dn, c1⟩, w0, wl, pl, k⟩ := h
    have nd := scByp.nd
    refine ⟨_, (pss_cons (ps_set (i := 2) nd rfl (Or.inl rfl) (pe_lst pa_nil))
      (pss_cons (ps_for PassesOwn.never rfl (pi_range1 (by rfl) G.mrange (pa_cons (pe_op op_add (pe_callB (call_maxT (by rfl)) (by rfl) G.mmax (by decide +kernel) (pa_cons (pv 1) pa_nil)) pe_int) pa_nil)) (pg_name (i := 3) nd rfl (Or.inl rfl))
        (pss_cons (ps_asg (pe_ix ix_tup (pv 0) (pe_bmT PySem.F.plainAttrs_tuple PySem.F.slot_tuple_index PySem.F.type_tuple_index mt_indexT (pv 1) (pa_cons (pv 3) pa_nil)) (fun _ _ => rfl)) (pg_tup (by rfl) (pgs_cons (pg_name (i := 4) nd rfl (Or.inl rfl)) (pgs_cons (pg_name (i := 5) nd rfl (Or.inl rfl)) pgs_nil))))
        (pss_one (ps_expr (pe_bm PySem.F.plainAttrs_list PySem.F.slot_list_append PySem.F.type_list_append mt_append (pv 2) (pa_cons (pe_tup (pa_cons (pv 4) (pa_cons (pe_callTy call_tuple_of (by rfl) G.mtuple (by decide +kernel) (pa_cons (pe_lc (own := [("near", 6), ("place", 7)]) (g := (gTup K 2 (gCons (gName 6) (gCons (gName 7) gNil)))) (tt := tYes) (te := (tTup (tCons (tOp (rIxT K) (tVar 1) (tVar 6)) (tCons (tVar 7) tNil))))
          (by rfl) nd (pi_tup (pv 5)) (blkOk_by (own := [("near", 6), ("place", 7)]) (N := nByp) (sc := defScope sByp) (by decide +kernel))
          (fun _ _ _ _ _ => by exact (pg_tup (by rfl) (pgs_cons (pg_name (i := 6) nd rfl (Or.inl rfl)) (pgs_cons (pg_name (i := 7) nd rfl (Or.inl rfl)) pgs_nil)))) (fun _ _ _ _ _ => by exact pts_nil) (fun _ _ _ _ _ => by exact (pe_tup (pa_cons (pe_ix ix_tup (pv 1) (pv 6) (fun _ _ => rfl)) (pa_cons (pv 7) pa_nil))))) pa_nil)) pa_nil))) pa_nil))))))
      (pss_one (ps_ret (pe_callTy call_tuple_of (by rfl) G.mtuple (by decide +kernel) (pa_cons (pv 2) pa_nil)))))), ?_⟩
    have tp := Dn.topN
    have tl : topN ns ≤ 100000 := by omega
    refine ⟨Nat.zero_le _, fun L nL => ?_⟩
    have sL := same_new (o := .lst []) nL
    have HN0 := hN.same sL
    refine ⟨_, rfl, b0, ns.map fun n : Nat => (n : Int), rfl, (by rw [List.map_map]; exact NumT.sq HN0), (by rw [List.length_map]; omega), fun m hm le => ?_⟩
    obtain ⟨m, rfl, em⟩ := max_is hm le
    refine ⟨_, _, rfl, rfl, _, rfl, (by omega), (by omega), ?_⟩
    refine for_range (lo := 0) (n := m + 1) (fun i σ H1 => Same H H1 ∧ ∃ (bs : List Addr) (o3 o4 o5 o6 o7 : Option V), σ = [some (.ref a), some (.ref b0), some (.ref L), o3, o4, o5, o6, o7] ∧ H1 L = some (.lst (bs.map V.ref)) ∧ Paired (HandAt H1) bs ((byP wb ns).take i))
      ⟨sL, [], none, none, none, none, none, rfl, upd_same, .nil⟩ ?_ ?_
    · rintro i σ H1 hi ⟨s1, bs, o3, o4, o5, o6, o7, rfl, hL, hbs⟩
      have it : i < topN ns := by omega
      have mi : i ∈ ns := Dn.all i (by omega)
      have jl : ns.idxOf i < wb.length := by rw [← nl]; exact List.idxOf_lt_length_of_mem mi
      obtain ⟨ha, b, hd, ps, ehd, eat, eb, hps, hpp⟩ := web_hand (K := K) hWa hWP jl
      have pgl := pl _ hd ehd
      have psl : ps.length = hd.2.length := Paired.length hpp
      have hN1 := hN.same s1
      obtain ⟨o, eN, oc, od⟩ := id hN1
      have bl : bs.length = i := by
        rw [Paired.length hbs, List.length_take, byP_len]
        omega
      refine ⟨_, rfl, _, rfl, ⟨b0, o, _, rfl, eN, oc, od⟩, _, rfl, ?_⟩
      rw [Int.zero_add]
      refine ⟨b0, _, natV i, ns.idxOf i, natV i, rfl, rfl, hN1.sq, rfl, flat_nats ns, natV_get (idx_at mi), eqV_self i, fun k z' hk ez => index_no hk ez, ?_⟩
      refine ⟨a, _, _, _, rfl, rfl, SqT.of (s1 _ _ hWa), eat, ?_⟩
      refine ⟨ha, _, rfl, SqT.of (s1 _ _ eb), rfl, _, _, rfl, _, _, rfl, rfl, ?_⟩
      refine ⟨_, rfl, .inl ⟨rfl, _, SqL.of hL⟩, _, rfl, _, rfl, b, rfl, ⟨_, SqT.of (s1 _ _ hps)⟩, fun M nM => ?_⟩
      refine lc_tup (K := K) (a := b) (xs := ps.map V.ref) (fun c H4 => Same H1 H4 ∧ ∃ cs : List Addr, H4 M = some (.lst (cs.map V.ref)) ∧ PairsAt H4 cs ((hd.2.take c).map (partP ns))) ⟨same_new nM, [], upd_same, .nil⟩ (fun c H4 _ ⟨s4, _⟩ => SqT.of (s4 _ _ (s1 _ _ hps))) ?_ ?_
      · rintro c' y H4 hy ⟨s4, cs, hM, hcs⟩
        rw [List.getElem?_map] at hy
        obtain ⟨pa, epa, rfl⟩ := Option.map_eq_some_iff.mp hy
        obtain ⟨x, ex, hx⟩ := paired_get hpp epa
        have cl' : c' < hd.2.length := (List.getElem?_eq_some_iff.mp ex).1
        obtain ⟨g, q, rfl, gl⟩ := bd _ c' x (by unfold pegOf; rw [ehd]; exact ex)
        have hx4 : H4 pa = some (.tup [.int (g : Int), .int (q : Int)]) := s4 _ _ (s1 _ _ hx)
        have csl : cs.length = c' := by
          rw [Paired.length hcs, List.length_map, List.length_take]
          omega
        have eg : ns[g]? = some (ns.getD g 0) := nget (by omega)
        refine ⟨pa, _, rfl, SqT.of hx4, rfl, _, _, rfl, _, _, rfl, rfl, rfl, ?_⟩
        dsimp only [tYes]
        rw [if_pos rfl]
        refine ⟨_, rfl, _, rfl, b0, _, _, natV (ns.getD g 0), rfl, rfl, (hN1.same s4).sq, atI_nat (natV_get eg), _, rfl, (by show 2 ≤ sizeLine; decide), fun U nU => ?_⟩
        have sU := same_new (o := .tup [natV (ns.getD g 0), .int (q : Int)]) nU
        have eU : (upd H4 U (.tup [natV (ns.getD g 0), .int (q : Int)])) U = some (.tup [natV (ns.getD g 0), .int (q : Int)]) := upd_same
        generalize (upd H4 U (.tup [natV (ns.getD g 0), .int (q : Int)])) = H5 at sU eU ⊢
        have hM5 := sU _ _ hM
        have tL := tups_lst (o := .lst (cs.map V.ref ++ [V.ref U])) hM5
        refine ⟨_, hM5, (by rw [List.length_map, csl, sizeLine_eq]; omega), same_upd (s4.trans sU) nM, cs ++ [U], by rw [List.map_append]; exact upd_same, ?_⟩
        rw [List.take_succ, ex, List.map_append]
        exact paired_snoc (R := PairAt (upd H5 M (.lst (cs.map V.ref ++ [V.ref U])))) (y := partP ns ((g : Int), (q : Int))) (tL _ _ eU) (Paired.mapP hcs fun _ _ z => tL _ _ (sU _ _ z))
      rintro H4 ⟨s4, cs, hM, hcs⟩
      rw [List.length_map, psl, List.take_length] at hcs
      refine ⟨M, _, rfl, .inl ⟨SqL.of hM, fun hb nhb => ?_⟩⟩
      have s45 := same_new (o := .tup (cs.map V.ref)) nhb
      have ehb : (upd H4 hb (.tup (cs.map V.ref))) hb = some (.tup (cs.map V.ref)) := upd_same
      generalize (upd H4 hb (.tup (cs.map V.ref))) = H5 at s45 ehb ⊢
      refine ⟨(by show 2 ≤ sizeLine; decide), fun U nU => ?_⟩
      have sU := same_new (o := .tup [.int hd.1, .ref hb]) nU
      have eU : (upd H5 U (.tup [.int hd.1, .ref hb])) U = some (.tup [.int hd.1, .ref hb]) := upd_same
      generalize (upd H5 U (.tup [.int hd.1, .ref hb])) = H6 at sU eU ⊢
      have s16 := (s4.trans s45).trans sU
      have hL6 := s16 _ _ hL
      have tL := tups_lst (o := .lst (bs.map V.ref ++ [V.ref U])) hL6
      refine ⟨L, _, _, rfl, rfl, hL6, (by rw [List.length_map, bl, sizeLine_eq]; omega), same_upd (s1.trans s16) nL, bs ++ [U], _, _, _, _, _, rfl, (by rw [List.map_append]; exact upd_same), ?_⟩
      rw [List.take_succ, byP_at it]
      have hnew : HandAt H6 U (partH ns (wb.getD (ns.idxOf i) (0, []))) := by
        rw [hget_eq ehd]
        exact ⟨hb, eU, cs, sU _ _ ehb, pairs_tups (sTups (s45.trans sU)) hcs⟩
      exact paired_snoc (R := HandAt (upd H6 L (.lst (bs.map V.ref ++ [V.ref U])))) (hnew.tups tL) (Paired.mapP hbs fun _ _ z => z.tups ((sTups s16).trans tL))
    · rintro σ H1 ⟨s1, bs, o3, o4, o5, o6, o7, rfl, hL, hbs⟩
      rw [em, ← byP_len wb ns, List.take_length] at hbs
      refine ⟨_, rfl, L, _, rfl, .inl ⟨SqL.of hL, fun r nr => ?_⟩⟩
      exact k r _ (s1.trans (same_new nr)) ⟨bs, upd_same, Paired.mapP hbs fun _ _ z => z.tups (sTups (same_new nr))⟩
end
end NH
set_option Elab.async false
set_option linter.all false
set_option maxRecDepth 100000
set_option maxHeartbeats 4000000
namespace NH
open PySem L2
abbrev sAgr : Stmt := top 2
abbrev nAgr : List Str := ["web", "other", "row", "hand", "mark", "pegs", "led_mark", "led_pegs", "near", "place"]
theorem scAgr : FnScope nAgr ["web", "other", "row", "hand"] (defScope sAgr) := ⟨rfl, rfl, rfl, by decide +kernel, rfl, by decide +kernel, by decide +kernel⟩
section
variable {P : Program} {w : World} {K : PySem.W.Frag} {mg : Str → Option Value} {base : Heap}
theorem ok_agr {f : Addr} {fd : FuncData} (F : Fun K "agrees" "agrees" sAgr f fd) (G : Dr P w K mg base) : FnOk P w K mg base CX0 1 f fd ["web", "other", "row", "hand"] spAgrR := by
  refine F.ok scAgr (fun vs H Q E h => ?_) (fun cdv A outer s H vs Q E hr h => ?_)
  · obtain ⟨a, b, c, wa, wb, row, h, rfl, _⟩ := h
    rfl
  · obtain ⟨a, b, c, wa, wb, row, h, rfl, hA, hB, hR, shA, shB, len, ok, hl, k⟩ := h
    have nd := scAgr.nd
    refine ⟨_, (pss_cons (ps_asg (pe_ix ix_tup (pv 0) (pv 3) (fun _ _ => rfl)) (pg_tup (by rfl) (pgs_cons (pg_name (i := 4) nd rfl (Or.inl rfl)) (pgs_cons (pg_name (i := 5) nd rfl (Or.inl rfl)) pgs_nil))))
      (pss_cons (ps_asg (pe_ix ix_tup (pv 1) (pe_ix ix_tup (pv 2) (pv 3) (fun _ _ => rfl)) (fun _ _ => rfl)) (pg_tup (by rfl) (pgs_cons (pg_name (i := 6) nd rfl (Or.inl rfl)) (pgs_cons (pg_name (i := 7) nd rfl (Or.inl rfl)) pgs_nil))))
      (pss_cons (ps_if (pt_cmpR op_ne (pv 4) (pv 6) (nomark _)) (pss_one (ps_ret pe_bl)) pss_nil)
      (pss_one (ps_ret (pe_cmpR (op_eqD hr.units) (pv 7) (pe_callTy call_tuple_of (by rfl) G.mtuple (by decide +kernel) (pa_cons (pe_lc (own := [("near", 8), ("place", 9)]) (g := (gTup K 2 (gCons (gName 8) (gCons (gName 9) gNil)))) (tt := tYes) (te := (tTup (tCons (tOp (rIxT K) (tVar 2) (tVar 8)) (tCons (tVar 9) tNil))))
          (by rfl) nd (pi_tup (pv 5)) (blkOk_by (own := [("near", 8), ("place", 9)]) (N := nAgr) (sc := defScope sAgr) (by decide +kernel))
          (fun _ _ _ _ _ => by exact (pg_tup (by rfl) (pgs_cons (pg_name (i := 8) nd rfl (Or.inl rfl)) (pgs_cons (pg_name (i := 9) nd rfl (Or.inl rfl)) pgs_nil)))) (fun _ _ _ _ _ => by exact pts_nil) (fun _ _ _ _ _ => by exact (pe_tup (pa_cons (pe_ix ix_tup (pv 2) (pv 8) (fun _ _ => rfl)) (pa_cons (pv 9) pa_nil))))) pa_nil)) (nomark _))))))), ?_⟩
    obtain ⟨hs, hAa, hAP⟩ := id hA
    obtain ⟨gs, hBa, hBP⟩ := id hB
    obtain ⟨x1, b1, hd, ps, e1, at1, e2, e3, e4⟩ := web_hand (K := K) hAa hAP hl
    obtain ⟨r, er, rl⟩ := ok.get (h := h) (by omega)
    obtain ⟨x2, b2, hd2, qs, f1, at2', f2, f3, f4⟩ := web_hand (K := K) hBa hBP rl
    refine ⟨_, rfl, _, rfl, a, _, _, _, rfl, rfl, SqT.of hAa, at1, x1, _, rfl, SqT.of e2, rfl, _, _, rfl, _, _, rfl, rfl, ?_⟩
    refine ⟨_, rfl, _, rfl, _, rfl, c, _, _, _, rfl, rfl, hR.sq, atI_nat (ints_get? er), b, _, _, _, rfl, rfl, SqT.of hBa, at2', x2, _, rfl, SqT.of f2, rfl, _, _, rfl, _, _, rfl, rfl, ?_⟩
    have val := agrAt_eq e1 er f1
    refine ⟨_, rfl, _, rfl, rfl, _, rfl, ?_⟩
    have s3 : Same H H := fun _ _ e => e
    refine ite2 (fun ne => ?_) (fun eq => ?_)
    · have hne : ¬ hd.1 = hd2.1 := by simpa using ne
      have := k H s3
      rw [val] at this
      unfold agrB at this
      rw [decide_eq_false hne, Bool.false_and] at this
      exact this
    · have heq : hd.1 = hd2.1 := by simpa using eq
      refine ⟨_, rfl, _, rfl, b1, rfl, ⟨_, SqT.of e3⟩, fun L nL => ?_⟩
      refine lc_tup (K := K) (a := b1) (xs := ps.map V.ref) (fun c' H4 => Same H H4 ∧ ∃ es : List Addr, H4 L = some (.lst (es.map V.ref)) ∧ es.length = c' ∧ PairsAt H4 es (mapRow row (hd.2.take c')))
        ⟨same_new nL, [], upd_same, rfl, .nil⟩ (fun c' H4 _ ⟨s4, _⟩ => SqT.of (s4 _ _ (s3 _ _ e3))) ?_ ?_
      · rintro c' y H4 hyc ⟨s4, es, hD, bl, hbs⟩
        rw [List.getElem?_map] at hyc
        obtain ⟨pa, epa, rfl⟩ := Option.map_eq_some_iff.mp hyc
        obtain ⟨x, ex, hpa⟩ := paired_get e4 epa
        have hpa4 := s4 _ _ (s3 _ _ hpa)
        obtain ⟨g, eg, gl⟩ := shA.near h hd e1 x (List.mem_of_getElem? ex)
        obtain ⟨r', er', _⟩ := ok.get (h := g) (by omega)
        refine ⟨pa, _, rfl, SqT.of hpa4, rfl, _, _, rfl, _, _, rfl, rfl, rfl, ?_⟩
        dsimp only [tYes]
        rw [if_pos rfl]
        refine ⟨_, rfl, _, rfl, c, _, _, _, rfl, rfl, ((hR.same s3).same s4).sq, (by rw [eg]; exact atI_nat (ints_get? er')), _, rfl, (by show 2 ≤ sizeLine; decide), fun t nt => ?_⟩
        have st := same_new (o := .tup [.int (r' : Int), .int x.2]) nt
        have hD4 := st _ _ hD
        have cl : c' < hd.2.length := (List.getElem?_eq_some_iff.mp ex).1
        have pl := shA.few h hd e1
        refine ⟨_, hD4, (by rw [List.length_map, bl, sizeLine_eq]; omega), fun z o e => ?_, es ++ [t], (by rw [List.map_append]; exact upd_same), (by rw [List.length_append, bl]; rfl), ?_⟩
        · rw [upd_ne (ne_of_none e nL)]
          exact st _ _ (s4 _ _ e)
        · have tt := (sTups st).trans (tups_lst (o := .lst (es.map V.ref ++ [.ref t])) hD4)
          rw [mapRow_snoc ex, eg, Int.toNat_natCast, getD_of er']
          have hnew : PairAt (upd (upd H4 t (.tup [.int (r' : Int), .int x.2])) L (.lst (es.map V.ref ++ [.ref t]))) t ((r' : Int), x.2) := by
            show _ = _
            exact tups_lst (o := HO.lst (es.map V.ref ++ [V.ref t])) hD4 _ _ upd_same
          exact paired_snoc (R := PairAt (upd (upd H4 t (.tup [.int (r' : Int), .int x.2])) L (.lst (es.map V.ref ++ [.ref t])))) hnew (pairs_tups tt hbs)
      · rintro H4 ⟨s4, es, hD, bl, hbs⟩
        rw [List.length_map, Paired.length e4, List.take_length] at hbs
        refine ⟨L, _, rfl, .inl ⟨SqL.of hD, fun pt npt => ?_⟩⟩
        have st := same_new (o := .tup (es.map V.ref)) npt
        refine ⟨pegsP hd2.2, pegsP (mapRow row hd.2), dp_pegs ⟨qs, (s4.trans st) _ _ f3, pairs_tups (sTups (s4.trans st)) f4⟩, dp_pegs ⟨es, upd_same, pairs_tups (sTups st) hbs⟩, enc_pegs.shaped (by decide) _, enc_pegs.shaped (by decide) _, ?_⟩
        have := k _ (s4.trans st)
        rw [val] at this
        unfold agrB at this
        rw [decide_eq_true heq, Bool.true_and] at this
        rw [enc_pegs.eq]
        exact this
end
end NH
set_option Elab.async false
set_option linter.all false
set_option maxRecDepth 100000
set_option maxHeartbeats 4000000
namespace NH
open PySem L2
abbrev sLea : Stmt := top 1
abbrev nLea : List Str := ["web", "other", "row", "number", "hand"]
theorem scLea : FnScope nLea ["web", "other", "row"] (defScope sLea) := ⟨rfl, rfl, rfl, by decide +kernel, rfl, by decide +kernel, by decide +kernel⟩
section
variable {P : Program} {w : World} {K : PySem.W.Frag} {mg : Str → Option Value} {base : Heap}
theorem ok_lea {f : Addr} {fd : FuncData} {c T : Addr} (F : Fun K "is_leading" "is_leading" sLea f fd) (hc : fd.code = .ref c) (hC : PySem.W.CodeHd base c T) (B : BltMod base mg) (mlen : mg "len" = none) (mrange : mg "range" = none) (many : mg "any" = none) (mall : mg "all" = none)
    (CA : FnAt P w K mg base 1 "agrees" ["web", "other", "row", "hand"] spAgrR) : FnOk P w K mg base CX0 4 f fd ["web", "other", "row"] (spLeadR T) := by
  obtain ⟨fA, fdA, GA, bA, mA, kA⟩ := CA
  refine F.okC scLea (fun vs H Q E h => ?_) (fun cdv A outer s H vs Q E ec hr h => ?_)
  · obtain ⟨a, b, c, wa, wb, row, rfl, _⟩ := h
    rfl
  · have nd := scLea.nd
    have hG : GenHd (cxOf CX0 P w K mg base nLea "is_leading" (defScope sLea) f cdv A outer s H E).nox T := genHd hc ec rfl hC B
    refine ⟨_, (pss_cons (ps_if (pt_cmpR op_ne (pe_callB call_len_seq (by rfl) mlen PySem.boot_len (pa_cons (pv 2) pa_nil)) (pe_callB call_len_seq (by rfl) mlen PySem.boot_len (pa_cons (pv 0) pa_nil)) (nomark _)) (pss_one (ps_ret pe_bl)) pss_nil)
      (pss_cons (ps_if (pt_val (pe_anyG (k := 2) (own := [("number", 3)]) (g := gName 3) (te := tOrV (tOp (rI0 fun i j => .bl (decide (i < j))) (tVar 3) (tC (.int 0))) (tOp (rI0 fun i j => .bl (decide (j ≤ i))) (tVar 3) (tCB (fun xs H Q => ∃ p ys, xs = [.ref p] ∧ (SqL K H p ys ∨ SqT K H p ys) ∧ Q (.int ys.length) H) (tCons (tVar 1) tNil)))) hG (by rfl) many (by rfl) nd hr (pi_tup (pv 2)) (blkOk_by (own := [("number", 3)]) (N := nLea) (sc := defScope sLea) (by decide +kernel)) rfl (by decide +kernel) rfl
          (fun _ _ _ _ _ _ _ _ => by exact (pg_name (i := 3) nd rfl (Or.inl rfl)))
          (fun _ _ _ _ _ _ _ _ => by exact (pe_or (pe_cmpR op_lt (pv 3) pe_int (nomark _)) (pe_one (pe_cmpR op_ge (pv 3) (pe_callB call_len_seq (by rfl) mlen PySem.boot_len (pa_cons (pv 1) pa_nil)) (nomark _))))))) (pss_one (ps_ret pe_bl)) pss_nil)
      (pss_one (ps_ret (pe_allG (k := 2) (own := [("hand", 4)]) (g := gName 4) (te := tCall spAgrR [] E0 (tCons (tVar 0) (tCons (tVar 1) (tCons (tVar 2) (tCons (tVar 4) tNil))))) hG (by rfl) mall (by rfl) nd hr (pi_range1 (by rfl) mrange (pa_cons (pe_callB call_len_seq (by rfl) mlen PySem.boot_len (pa_cons (pv 0) pa_nil)) pa_nil)) (blkOk_by (own := [("hand", 4)]) (N := nLea) (sc := defScope sLea) (by decide +kernel)) rfl (by decide +kernel) rfl
          (fun _ _ _ _ _ _ _ _ => by exact (pg_name (i := 4) nd rfl (Or.inl rfl)))
          (fun _ _ _ _ _ _ _ rA => by exact (pe_call GA (rA.mono (by decide)) (by rfl) mA kA bA .nil pass0 (pa_cons (pv 0) (pa_cons (pv 1) (pa_cons (pv 2) (pa_cons (pv 4) pa_nil))))))))))), ?_⟩
    obtain ⟨a, b, c, wa, wb, row, rfl, hA, hB, hR, shA, shB, tb, k⟩ := h
    obtain ⟨hs, hAa, hAP⟩ := id hA
    obtain ⟨gs, hBa, hBP⟩ := id hB
    have hsl : hs.length = wa.length := Paired.length hAP
    have gsl : gs.length = wb.length := Paired.length hBP
    have tup : ∀ {H1 : Hp} {x : Addr} {xs : List V}, StepT T H H1 → H x = some (.tup xs) → H1 x = some (.tup xs) := fun st e => st.tups tb _ _ e
    have al := shA.len
    refine ⟨_, rfl, c, _, rfl, .inr (hR.sq), _, rfl, a, _, rfl, .inr (SqT.of hAa), rfl, _, rfl, ?_⟩
    rw [List.length_map, List.length_map, hsl]
    refine ite2 (fun ne => ?_) (fun eq => ?_)
    · have hne : ¬ row.length = wa.length := fun z => by rw [z] at ne; simp at ne
      have q := k H (StepT.refl tb)
      unfold leadB at q
      rw [decide_eq_false hne, Bool.false_and, Bool.false_and] at q
      exact q
    have heq : row.length = wa.length := by simp at eq; omega
    obtain ⟨tp, etb, tok⟩ := tb.ex
    refine ⟨_, rfl, c, rfl, ⟨_, hR.sq⟩, tp, etb, tok, fun more tok' => ?_⟩
    have st1 : StepT T H (upd H T (.tbl (tp ++ more))) := StepT.grow tok'
    refine g_tup (K := K) (a := c) (xs := row.map V.int) (st := true) (fun i H2 => StepT T H H2 ∧ (row.take i).all (inB wb.length) = true) ⟨st1, rfl⟩ (fun i H2 _ ⟨s2, _⟩ => (hR.step tb s2).sq) ?_ ?_
    · rintro i y H2 hy ⟨s2, all⟩
      rw [List.getElem?_map] at hy
      obtain ⟨r, er, rfl⟩ := Option.map_eq_some_iff.mp hy
      refine ⟨rfl, ?_⟩
      have bad : inB wb.length r = false → leadB wa wb row = false := fun z => by
        unfold leadB
        have : row.all (inB wb.length) = false := by
          rw [List.all_eq_false]
          exact ⟨r, List.mem_of_getElem? er, by rw [z]; decide⟩
        rw [this, Bool.and_false, Bool.false_and]
      have good : inB wb.length r = true → (row.take (i + 1)).all (inB wb.length) = true := fun z => by
        rw [take_snoc er, List.all_append, all]
        simp [z]
      refine ⟨_, rfl, _, _, rfl, rfl, _, rfl, ?_⟩
      refine ite2 (fun z0 => ?_) (fun z0 => ?_)
      · have z0 : r < 0 := of_decide_eq_true z0
        refine ⟨_, rfl, ?_⟩
        rw [if_pos rfl]
        refine ⟨_, rfl, iteT ?_⟩
        have q := k _ s2
        rw [bad (by unfold inB; rw [decide_eq_false (by omega), Bool.false_and])] at q
        exact q
      · have z0 : ¬ r < 0 := fun q => z0 (decide_eq_true q)
        refine ⟨_, rfl, _, rfl, b, _, rfl, .inr (SqT.of (tup s2 hBa)), _, _, rfl, rfl, _, rfl, ?_⟩
        rw [List.length_map, gsl]
        refine ite2 (fun z1 => ?_) (fun z1 => ?_)
        · have z1 : (wb.length : Int) ≤ r := of_decide_eq_true z1
          refine ⟨_, rfl, iteT ?_⟩
          have q := k _ s2
          rw [bad (by unfold inB; rw [decide_eq_false (by omega : ¬ r < (wb.length : Int)), Bool.and_false])] at q
          exact q
        · have z1 : ¬ (wb.length : Int) ≤ r := fun q => z1 (decide_eq_true q)
          exact ⟨s2, good (by unfold inB; rw [decide_eq_true (by omega : 0 ≤ r), decide_eq_true (by omega : r < (wb.length : Int))]; rfl)⟩
    · rintro H2 ⟨s2, all⟩
      rw [List.length_map, List.take_length] at all
      have ok : RowOk wb.length row := rowOk_iff.mp all
      refine ⟨_, rfl, iteF ?_⟩
      obtain ⟨tp2, etb2, tok2⟩ := s2.tbl.ex
      refine ⟨_, rfl, a, _, rfl, .inr (SqT.of (tup s2 hAa)), _, rfl, (by rw [List.length_map]; omega), (by rw [List.length_map]; omega), tp2, etb2, tok2, fun more2 tok3 => ?_⟩
      have st3 := s2.trans (StepT.grow (H := H2) tok3)
      rw [List.length_map, hsl, Int.toNat_natCast]
      have val : leadB wa wb row = (List.range wa.length).all (agrAt wa wb row) := by
        unfold leadB
        rw [decide_eq_true heq, all, Bool.true_and, Bool.true_and]
      refine g_range (lo := 0) (n := wa.length) (st := false) (fun i H3 => StepT T H H3 ∧ (List.range i).all (agrAt wa wb row) = true) ⟨st3, rfl⟩ ?_ ?_
      · rintro i H3 hi ⟨s3, al3⟩
        refine ⟨rfl, ?_⟩
        rw [natZ]
        refine ⟨_, rfl, _, rfl, _, rfl, _, rfl, a, b, c, wa, wb, row, i, rfl, hA.tups (s3.tups tb), hB.tups (s3.tups tb), hR.step tb s3, shA, shB, heq, ok, hi, fun H4 s4 => ⟨_, rfl, ?_⟩⟩
        cases z : agrAt wa wb row i with
        | false =>
          rw [if_pos rfl]
          have q := k _ (s3.same s4)
          have : (List.range wa.length).all (agrAt wa wb row) = false := by
            rw [List.all_eq_false]
            exact ⟨i, List.mem_range.mpr hi, by rw [z]; decide⟩
          rw [val, this] at q
          exact q
        | true =>
          rw [if_neg (by decide)]
          refine ⟨s3.same s4, ?_⟩
          rw [List.range_succ, List.all_append, al3]
          simp [z]
      · rintro H3 ⟨s3, al3⟩
        have q := k _ s3
        rw [val, al3] at q
        exact q
end
end NH
set_option Elab.async false
set_option linter.all false
set_option maxRecDepth 100000
set_option maxHeartbeats 4000000
namespace NH
open PySem L2
abbrev sLes : Stmt := top 5
abbrev nLes : List Str := ["web", "pairs", "parting", "lesser"]
theorem scLes : FnScope nLes ["web"] (defScope sLes) := ⟨rfl, rfl, rfl, by decide +kernel, rfl, by decide +kernel, by decide +kernel⟩
abbrev lesPos : Pos := ⟨27, 29, 27, 65⟩
abbrev lesQ : Str := ("lesser_webs" : Str) ++ ".<locals>." ++ "<lambda>"
section
variable {P : Program} {w : World} {K : PySem.W.Frag} {mg : Str → Option Value} {base : Heap}
theorem ok_les {f : Addr} {fd : FuncData} {c T U : Addr} (F : Fun K "lesser_webs" "lesser_webs" sLes f fd) (hc : fd.code = .ref c) (hC : PySem.W.CodeHd base c U) (B : BltMod base mg) (G : Dr P w K mg base) (msorted : mg "sorted" = none)
    (CP : FnAt P w K mg base 1 "partings" ["many"] spPrs) (CB : FnAt P w K mg base 1 "by_parting" ["web", "parting"] spByp) (CI : FnAt P w K mg base 4 "is_leading" ["web", "other", "row"] (spLeadR T)) : FnOk P w K mg base CX0 5 f fd ["web"] (spLes T U lesPos lesQ) := by
  obtain ⟨fP, fdP, GP, bP, mP, kP⟩ := CP
  obtain ⟨fB, fdB, GB, bB, mB, kB⟩ := CB
  obtain ⟨fI, fdI, GI, bI, mI, kI⟩ := CI
  refine F.okC scLes (fun vs H Q E h => ?_) (fun cdv A outer s H vs Q E ec hr h => ?_)
  · obtain ⟨a, wb, rfl, _⟩ := h
    rfl
  · obtain ⟨a, wb, rfl, hW, gd, wl, hT, hU, ne, k⟩ := h
    have nd := scLes.nd
    have hG : GenHd (cxOf CX0 P w K mg base nLes "lesser_webs" (defScope sLes) f cdv A outer s H E).nox U := genHd hc ec rfl hC B
    have hrP := hr.mono (show 1 ≤ 4 by decide)
    have hrB := hr.mono (show 1 ≤ 4 by decide)
    refine ⟨_, (pss_cons (ps_set (i := 1) nd rfl (Or.inl rfl) (pe_lst pa_nil))
      (pss_cons (ps_for PassesOwn.never rfl (pi_list (pe_call GP hrP (by rfl) mP kP bP .nil pass0 (pa_cons (pe_callB call_len_seq (by rfl) G.mlen PySem.boot_len (pa_cons (pv 0) pa_nil)) pa_nil))) (pg_name (i := 2) nd rfl (Or.inl rfl))
        (pss_cons (ps_set (i := 3) nd rfl (Or.inl rfl) (pe_call GB hrB (by rfl) mB kB bB .nil pass0 (pa_cons (pv 0) (pa_cons (pv 2) pa_nil))))
        (pss_one (ps_if (pt_val (pe_call GI hr (by rfl) mI kI bI .nil pass0 (pa_cons (pv 0) (pa_cons (pv 3) (pa_cons (pv 2) pa_nil))))) (pss_one (ps_expr (pe_bm PySem.F.plainAttrs_list PySem.F.slot_list_append PySem.F.type_list_append mt_append (pv 1) (pa_cons (pe_tup (pa_cons (pv 3) (pa_cons (pv 2) pa_nil))) pa_nil)))) pss_nil))))
      (pss_one (ps_ret (pe_sortLam (k := 1) (T := U) (N := ["pair"]) (x := "pair") (tl := tTup (tCons (tCB (fun xs H Q => ∃ p ys, xs = [.ref p] ∧ (SqL K H p ys ∨ SqT K H p ys) ∧ Q (.int ys.length) H) (tCons (tOp (rIxT K) (tVar 0) (tC (.int 0))) tNil)) (tCons (tOp (rIxT K) (tVar 0) (tC (.int 1))) tNil))) rfl hr hG (by rfl) msorted (pv 1) ⟨rfl, rfl, rfl, by decide, rfl, by decide +kernel, by decide +kernel⟩ (by rfl) (by rfl) (fun _ _ _ _ _ _ => .of_eq rfl)
          (fun _ _ _ _ _ _ => by exact (pe_tup (pa_cons (pe_callB call_len_seq (by rfl) G.mlen PySem.boot_len (pa_cons (pe_ix ix_tup (pv 0) pe_int (fun _ _ => rfl)) pa_nil)) (pa_cons (pe_ix ix_tup (pv 0) pe_int (fun _ _ => rfl)) pa_nil))))))))), ?_⟩
    obtain ⟨hs, hWa, hWP⟩ := id hW
    have hsl : hs.length = wb.length := Paired.length hWP
    have w0 := gd.pos
    have sh := Sh.of gd (by omega)
    refine ⟨Nat.zero_le _, fun L nL => ?_⟩
    have s1 := same_new (o := .lst []) nL
    have hL1 : (upd H L (.lst [])) L = some (.lst (([] : List Addr).map V.ref)) := upd_same
    generalize (upd H L (.lst [])) = H1 at s1 hL1 ⊢
    refine ⟨_, rfl, a, _, rfl, .inr (SqT.of (s1 _ _ hWa)), ?_⟩
    rw [List.length_map, hsl]
    refine ⟨wb.length, rfl, w0, wl, fun l as H2 s2 nl hl has => ⟨l, rfl, ⟨_, SqL.of hl⟩, ?_⟩⟩
    have asl := Paired.length has
    have K0 : StepK T U lesPos lesQ H H2 := (StepK.refl hT hU).same (s1.trans s2)
    refine for_list (K := K) (a := l) (xs := as.map V.ref) (fun c σ H3 => StepK T U lesPos lesQ H H3 ∧ H3 l = some (.lst (as.map V.ref)) ∧ RowsN H3 as (partsL (wb.length - 1)) ∧ ∃ (o2 o3 : Option V) (ds : List Addr), σ = [some (.ref a), some (.ref L), o2, o3] ∧ H3 L = some (.lst (ds.map V.ref)) ∧ Paired (PrtAt H3 wb) ds (((partsL (wb.length - 1)).take c).filter fun p => leadB wb (byP wb p) (asI p)))
      ⟨K0, hl, has, none, none, [], rfl, s2 _ _ hL1, .nil⟩ (fun c σ H3 _ ⟨_, e, _⟩ => SqL.of e) ?_ ?_
    · rintro c y σ H3 hy ⟨k3, hl3, has3, o2, o3, ds, rfl, hL3, hds⟩
      rw [List.getElem?_map] at hy
      obtain ⟨b, eb, rfl⟩ := Option.map_eq_some_iff.mp hy
      obtain ⟨p, ep, hp⟩ := paired_get has3 eb
      have pm := List.mem_of_getElem? ep
      have pl := partsL_len pm
      have D := partsL_dense pm
      have tp := partsL_top pm
      have hW3 := hW.tups (k3.tups hT hU)
      have dl : ds.length < 64 := by
        rw [Paired.length hds]
        refine Nat.lt_of_le_of_lt ?_ (lesF_few gd wl)
        exact ((List.take_sublist c _).filter _).length_le
      refine ⟨_, rfl, _, rfl, a, b, wb, p, rfl, hW3, hp, (by omega), gd.bnd, ⟨_, D, (by omega)⟩, w0, (by omega), (fun h hd e => by have := gd.pegs h hd e; omega), fun q H4 s4 hq => ?_⟩
      have shL := byP_sh sh wl pm
      have k4 := k3.same s4
      have hW4 := hW3.tups (sTups s4)
      have hp4 := NumT.same s4 hp
      refine ⟨_, rfl, _, rfl, _, rfl, a, q, b, wb, byP wb p, asI p, rfl, hW4, hq, numT_row hp4, sh, shL, k4.tbl, fun H5 st5 => ⟨_, rfl, ?_⟩⟩
      have k5 := k4.stepT ne st5
      have hL4 := s4 _ _ hL3
      have fz : ∀ b o, (∀ ps, o ≠ .tbl ps) → H4 b = some o → H5 b = some o := fun b o n e => st5.keep b o (fun z => by
        obtain ⟨ps, e', _⟩ := k4.tbl.ex
        rw [z, e'] at e
        exact n ps (Option.some.inj e).symm) e
      have tp5 : Tups H4 H5 := fun b xs e => fz b _ (fun ps z => by cases z) e
      have nm5 : ∀ b ns, NumT H4 b ns → NumT H5 b ns := fun b ns ⟨o, e, c⟩ => ⟨o, fz b _ (fun ps z => by cases z) e, c⟩
      have hL5 := fz _ _ (fun ps z => by cases z) hL4
      have hl5 := fz _ _ (fun ps z => by cases z) (s4 _ _ hl3)
      have has5 : RowsN H5 as (partsL (wb.length - 1)) := Paired.mapP has3 fun _ _ z => nm5 _ _ (NumT.same s4 z)
      have hds5 := Paired.mapP hds fun _ _ z => PrtAt.tups tp5 nm5 (PrtAt.same s4 z)
      have hq5 := hq.tups tp5
      have hp5 := nm5 _ _ hp4
      have fl : ((partsL (wb.length - 1)).take (c + 1)).filter (fun p => leadB wb (byP wb p) (asI p)) = ((partsL (wb.length - 1)).take c).filter (fun p => leadB wb (byP wb p) (asI p)) ++ [p].filter (fun p => leadB wb (byP wb p) (asI p)) := by
        rw [List.take_succ, ep, List.filter_append]
        rfl
      refine ite2 (fun yes => ?_) (fun no => ?_)
      · refine ⟨_, rfl, .inl ⟨rfl, _, SqL.of hL5⟩, _, rfl, _, rfl, (by show 2 ≤ sizeLine; decide), fun t nt => ?_⟩
        have s6 := same_new (o := .tup [.ref q, .ref b]) nt
        have et : (upd H5 t (.tup [.ref q, .ref b])) t = some (.tup [.ref q, .ref b]) := upd_same
        generalize (upd H5 t (.tup [.ref q, .ref b])) = H6 at s6 et ⊢
        have hL6 := s6 _ _ hL5
        have tL := tups_lst (o := .lst (ds.map V.ref ++ [V.ref t])) hL6
        have nL7 : ∀ b ns, NumT H6 b ns → NumT (upd H6 L (.lst (ds.map V.ref ++ [V.ref t]))) b ns := fun b ns z => NumT.up z hL6
        have lne : l ≠ L := fun z => by
          rw [z] at nl
          rw [hL1] at nl
          cases nl
        refine ⟨L, _, _, rfl, rfl, hL6, (by rw [List.length_map, sizeLine_eq]; omega), (k5.same s6).lst nL hL6, (by rw [upd_ne lne]; exact s6 _ _ hl5), Paired.mapP has5 fun _ _ z => nL7 _ _ (NumT.same s6 z), _, _, ds ++ [t], rfl, (by rw [List.map_append]; exact upd_same), ?_⟩
        rw [fl, List.filter_cons_of_pos (p := fun p => leadB wb (byP wb p) (asI p)) yes, List.filter_nil]
        exact paired_snoc (R := PrtAt (upd H6 L (.lst (ds.map V.ref ++ [V.ref t]))) wb) ⟨q, b, tL _ _ et, (hq5.tups (sTups s6)).tups tL, nL7 _ _ (NumT.same s6 hp5)⟩ (Paired.mapP hds5 fun _ _ z => PrtAt.tups tL nL7 (PrtAt.same s6 z))
      · refine ⟨k5, hl5, has5, _, _, ds, rfl, hL5, ?_⟩
        rw [fl, List.filter_cons_of_neg (p := fun p => leadB wb (byP wb p) (asI p)) no, List.filter_nil, List.append_nil]
        exact hds5
    · rintro σ H3 ⟨k3, hl3, has3, o2, o3, ds, rfl, hL3, hds⟩
      rw [List.length_map, asl, List.take_length] at hds
      have dsl := Paired.length hds
      have few := lesF_few gd wl
      have nd18 : (lesF wb).Nodup := (parts_nd _ (by omega)).filter _
      refine ⟨_, rfl, NumK, inferInstance, numKP (fun _ => []), ltNumK, fun _ _ => sortO_numK (fun _ d hd => nomatch hd), L, ds, (lesF wb).map pkey, rfl, hL3, (by rw [List.length_map]; exact dsl.symm), ?_, (by rw [dsl]; exact few), k3.lam, ?_, ?_⟩
      · unfold List.Nodup at nd18 ⊢
        rw [List.pairwise_map]
        exact nd18.imp fun h z => h (congrArg Prod.snd z)
      · intro i b kk H4 eb ek st4
        rw [List.getElem?_map] at ek
        obtain ⟨p, ep, rfl⟩ := Option.map_eq_some_iff.mp ek
        obtain ⟨p', ep', x, y, h1, ⟨us, h2, h3⟩, h4⟩ := paired_get hds eb
        rw [show (List.filter (fun p => leadB wb (byP wb p) (asI p)) (partsL (wb.length - 1)))[i]? = some p from ep] at ep'
        cases ep'
        have ul : us.length = topN p := by rw [Paired.length h3, byP_len]
        have lam3 := k3.lam
        have fz : ∀ b o, (∀ ps, o ≠ .tbl ps) → H3 b = some o → H4 b = some o := fun b o n e => st4.keep b o (fun z => by
          obtain ⟨ps, e', _⟩ := lam3.ex
          rw [z, e'] at e
          exact n ps (Option.some.inj e).symm) e
        have h14 := fz _ _ (fun ps z => by cases z) h1
        have h24 := fz _ _ (fun ps z => by cases z) h2
        have h44 : NumT H4 y p := by
          obtain ⟨o, e, c⟩ := h4
          exact ⟨o, fz _ _ (fun ps z => by cases z) e, c⟩
        refine ⟨_, rfl, b, _, _, _, rfl, rfl, SqT.of h14, rfl, x, _, rfl, .inr (SqT.of h24), _, rfl, b, _, _, _, rfl, rfl, SqT.of h14, rfl, (by show 2 ≤ sizeLine; decide), fun t nt => ⟨same_new nt, t, rfl, ?_⟩⟩
        have h45 := NumT.same (same_new (o := .tup [.int ((us.map V.ref).length : Nat), .ref y]) nt) h44
        refine .tup (SqT.of upd_same) (.cons ?_ (.cons (dp_numT h45) .nil))
        rw [List.length_map, ul]
        exact .int _
      · intro l' H4 Ls st4 nl4 hl4 pm srt
        have k4 := k3.stepL ne st4
        have lam3 := k3.lam
        have fz : ∀ b o, (∀ ps, o ≠ .tbl ps) → H3 b = some o → H4 b = some o := fun b o n e => st4.keep b o (fun z => by
          obtain ⟨ps, e', _⟩ := lam3.ex
          rw [z, e'] at e
          exact n ps (Option.some.inj e).symm) e
        have hds4 := Paired.mapP hds fun _ _ z => PrtAt.tups (H' := H4) (fun b xs e => fz b _ (fun ps z => by cases z) e) (fun b ns ⟨o, e, c⟩ => ⟨o, fz b _ (fun ps z => by cases z) e, c⟩) z
        obtain ⟨q1, q2⟩ := les_sorted hds4 rfl pm srt
        refine k l' (Ls.map fun x => x.1) _ H4 k4 (k3.free nl4) ?_ q1 q2
        rw [hl4, List.map_map]
        rfl
end
end NH
set_option Elab.async false
set_option linter.all false
set_option maxRecDepth 100000
set_option maxHeartbeats 4000000
namespace NH
open PySem L2
abbrev sLpr : Stmt := top 20
abbrev nLpr : List Str := ["_law_many", "_law_found", "_law_h", "_law_longer", "_law_row", "_law_number"]
theorem scLpr : FnScope nLpr ["_law_many"] (defScope sLpr) := ⟨rfl, rfl, rfl, by decide +kernel, rfl, by decide +kernel, by decide +kernel⟩
section
variable {P : Program} {w : World} {K : PySem.W.Frag} {mg : Str → Option Value} {base : Heap}
theorem ok_lpr {f : Addr} {fd : FuncData} (F : Fun K "_law_partings" "_law_partings" sLpr f fd) (G : Dr P w K mg base) : FnOk P w K mg base CX0 1 f fd ["_law_many"] spPrs := by
  refine F.ok scLpr (fun vs H Q E h => ?_) (fun cdv A outer s H vs Q E hr h => ?_)
  · obtain ⟨n, rfl, _⟩ := h
    rfl
  · obtain ⟨n, rfl, n1, n6, k⟩ := h
    have nd := scLpr.nd
    refine ⟨_, (pss_cons (ps_set (i := 1) nd rfl (Or.inl rfl) (pe_lst (pa_cons (pe_tupF (pa_cons pe_int pa_nil)) pa_nil)))
      (pss_cons (ps_for PassesOwn.never rfl (pi_range2 (by rfl) G.mrange (pa_cons pe_int (pa_cons (pv 0) pa_nil))) (pg_name (i := 2) nd rfl (Or.inl rfl))
        (pss_cons (ps_set (i := 3) nd rfl (Or.inl rfl) (pe_lst pa_nil))
        (pss_cons (ps_for PassesOwn.never rfl (pi_list (pv 1)) (pg_name (i := 4) nd rfl (Or.inr rfl))
          (pss_one (ps_expr (pe_bm PySem.F.plainAttrs_list PySem.F.slot_list_extend PySem.F.type_list_extend mt_extend (pv 3) (pa_cons (pe_lc (own := [("_law_number", 5)]) (g := (gName 5)) (tt := tYes) (te := (tOp (rCatF K) (tVar 4) (tTupF (tCons (tVar 5) tNil))))
          (by rfl) nd (pi_range1 (by rfl) G.mrange (pa_cons (pe_op op_add (pe_callB (call_maxT (by rfl)) (by rfl) G.mmax (by decide +kernel) (pa_cons (pv 4) pa_nil)) pe_int) pa_nil)) (blkOk_by (own := [("_law_number", 5)]) (N := nLpr) (sc := defScope sLpr) (by decide +kernel))
          (fun _ _ _ _ _ => by exact (pg_name (i := 5) nd rfl (Or.inl rfl))) (fun _ _ _ _ _ => by exact pts_nil) (fun _ _ _ _ _ => by exact (pe_op op_catF (pv 4) (pe_tupF (pa_cons (pv 5) pa_nil))))) pa_nil)))))
        (pss_one (ps_set (i := 1) nd rfl (Or.inl rfl) (pv 3))))))
      (pss_one (ps_ret (pv 1))))), ?_⟩
    refine ⟨(by show 1 ≤ sizeLine; decide), fun t H0 st nt ht => ⟨(by show 1 ≤ sizeLine; decide), fun L nL => ?_⟩⟩
    have sL := same_new (o := .lst [.ref t]) nL
    have eL : (upd H0 L (.lst [.ref t])) L = some (.lst ([t].map V.ref)) := upd_same
    have n0L := st.free nL
    have ht1 : NumT (upd H0 L (.lst [.ref t])) t [0] := NumT.same sL ht
    have s1 := st.trans sL
    generalize (upd H0 L (.lst [.ref t])) = H1 at s1 eL ht1 ⊢
    clear st sL nL ht nt
    refine ⟨_, rfl, 1, (n : Int), rfl, ⟨by omega, by omega, by omega, by omega⟩, ?_⟩
    have en : ((n : Int) - 1).toNat = n - 1 := by omega
    rw [en]
    refine for_range (lo := 1) (n := n - 1) (fun i σ H2 => Same H H2 ∧ ∃ (L : Addr) (o2 o3 o4 o5 : Option V), σ = [some (natV n), some (.ref L), o2, o3, o4, o5] ∧ H L = none ∧ ∃ as : List Addr, H2 L = some (.lst (as.map V.ref)) ∧ RowsN H2 as (partsL i))
      ⟨s1, L, _, _, _, _, rfl, n0L, [t], eL, .cons ht1 .nil⟩ ?_ ?_
    · rintro i σ H2 hi ⟨s2, L2, o2, o3, o4, o5, rfl, _, as, hL, has⟩
      have i6 : i < 6 := by omega
      have asl := Paired.length has
      refine ⟨Nat.zero_le _, fun D nD => ?_⟩
      refine ⟨_, rfl, L2, rfl, ⟨_, SqL.of (same_new nD _ _ hL)⟩, ?_⟩
      refine for_list (K := K) (a := L2) (xs := as.map V.ref) (fun c σ H3 => Same H2 H3 ∧ ∃ (o4 o5 : Option V) (ds : List Addr), σ = [some (natV n), some (.ref L2), some (.int (1 + i)), some (.ref D), o4, o5] ∧ H3 D = some (.lst (ds.map V.ref)) ∧ RowsN H3 ds (((partsL i).take c).flatMap fun r => (List.range (topN r + 1)).map fun x => r ++ [x]))
        ⟨same_new nD, o4, o5, [], rfl, upd_same, .nil⟩ (fun c σ H3 _ ⟨s3, _⟩ => SqL.of (s3 _ _ hL)) ?_ ?_
      · rintro c y σ H3 hy ⟨s3, o4, o5, ds, rfl, hD, hds⟩
        rw [List.getElem?_map] at hy
        obtain ⟨ra, era, rfl⟩ := Option.map_eq_some_iff.mp hy
        obtain ⟨r, er, hr2⟩ := paired_get has era
        have hr3 := NumT.same s3 hr2
        have rm := List.mem_of_getElem? er
        have rl := partsL_len rm
        have rt := partsL_top rm
        refine ⟨_, rfl, .inl ⟨rfl, _, SqL.of hD⟩, ?_⟩
        refine ⟨_, rfl, ra, r.map fun n : Nat => (n : Int), rfl, (by rw [List.map_map]; exact NumT.sq hr3), (by rw [List.length_map]; omega), fun m hm le => ?_⟩
        obtain ⟨m, rfl, em⟩ := max_is hm le
        refine ⟨_, _, rfl, rfl, _, rfl, (by omega), (by omega), fun S nS => ?_⟩
        have tn : ((m : Int) + 2).toNat = topN r + 1 := by omega
        rw [tn]
        have pl := Paired.length hds
        have fl2 := p203 (c := c) i6
        have sS := same_new (o := .lst []) nS
        refine lc_range (lo := 0) (n := topN r + 1) (fun e H5 => Same H3 H5 ∧ ∃ es : List Addr, H5 S = some (.lst (es.map V.ref)) ∧ RowsN H5 es ((List.range e).map fun x => r ++ [x])) ⟨sS, [], upd_same, .nil⟩ ?_ ?_
        · rintro e H5 he ⟨s5, es, hS, hes⟩
          refine ⟨rfl, ?_⟩
          dsimp only [tYes]
          rw [if_pos rfl, Int.zero_add]
          have hr5 := NumT.same s5 hr3
          refine ⟨_, rfl, _, rfl, (by show 1 ≤ sizeLine; decide), fun Y H6 sY nY hY => ?_⟩
          refine ⟨ra, Y, _, _, rfl, rfl, (NumT.same sY hr5).sq, TupD.sq hY, (fun z => by rw [List.map_eq_nil_iff] at z; rw [z] at rl; cases rl), (fun z => nomatch z), (by rw [List.length_map, sizeLine_eq]; show r.length + 1 ≤ _; omega), fun p H7 s7 np hp => ?_⟩
          have s57 := sY.trans s7
          have hS7 := s57 _ _ hS
          have p5 := Paired.length hes
          rw [List.length_map, List.length_range] at p5
          have hnew : NumT (upd H7 S (.lst (es.map V.ref ++ [V.ref p]))) p (r ++ [e]) := NumT.up (by
            unfold NumT
            rw [List.map_append]
            exact hp) hS7
          refine ⟨_, hS7, (by rw [List.length_map, p5, sizeLine_eq]; omega), same_upd (s5.trans s57) nS, es ++ [p], by rw [List.map_append]; exact upd_same, ?_⟩
          rw [List.range_succ, List.map_append]
          exact paired_snoc (R := NumT (upd H7 S (.lst (es.map V.ref ++ [V.ref p])))) hnew (Paired.mapP hes fun _ _ z => NumT.up (NumT.same s57 z) hS7)
        · rintro H5 ⟨s5, es, hS, hes⟩
          have hD5 := s5 _ _ hD
          have el := Paired.length hes
          rw [List.length_map, List.length_range] at el
          refine ⟨D, S, _, _, rfl, rfl, hD5, hS, (by rw [List.length_map, List.length_map, pl, el, sizeLine_eq]; omega), same_upd (s3.trans s5) nD, _, _, ds ++ es, rfl, (by rw [List.map_append]; exact upd_same), ?_⟩
          rw [flatL_take er]
          exact paired_app (Paired.mapP hds fun _ _ z => NumT.up (NumT.same s5 z) hD5) (Paired.mapP hes fun _ _ z => NumT.up z hD5)
      · rintro σ H3 ⟨s3, o4, o5, ds, rfl, hD, hds⟩
        rw [List.length_map, asl, List.take_length] at hds
        exact ⟨_, rfl, s2.trans s3, D, _, _, _, _, rfl, s2.free nD, ds, hD, hds⟩
    · rintro σ H2 ⟨s2, L2, o2, o3, o4, o5, rfl, n2, as, hL, has⟩
      exact ⟨_, rfl, k L2 as H2 s2 n2 hL has⟩
end
end NH
set_option Elab.async false
set_option linter.all false
set_option maxRecDepth 100000
set_option maxHeartbeats 4000000
namespace NH
open PySem L2
abbrev sLby : Stmt := top 21
abbrev nLby : List Str := ["_law_web_here", "_law_parting", "_law_found", "_law_number", "_law_mark", "_law_pegs", "_law_g", "_law_q"]
theorem scLby : FnScope nLby ["_law_web_here", "_law_parting"] (defScope sLby) := ⟨rfl, rfl, rfl, by decide +kernel, rfl, by decide +kernel, by decide +kernel⟩
section
variable {P : Program} {w : World} {K : PySem.W.Frag} {mg : Str → Option Value} {base : Heap}
theorem ok_lby {f : Addr} {fd : FuncData} (F : Fun K "_law_by" "_law_by" sLby f fd) (G : Dr P w K mg base) : FnOk P w K mg base CX0 1 f fd ["_law_web_here", "_law_parting"] spByp := by
  refine F.ok scLby (fun vs H Q E h => ?_) (fun cdv A outer s H vs Q E hr h => ?_)
  · obtain ⟨a, b, wb, ns, rfl, _⟩ := h
    rfl
  · obtain ⟨a, b0, wb, ns, rfl, ⟨hs, hWa, hWP⟩, hN, nl, bd, ⟨c, Dn, c1⟩, w0, wl, pl, k⟩ := h
    have nd := scLby.nd
    refine ⟨_, (pss_cons (ps_set (i := 2) nd rfl (Or.inl rfl) (pe_lst pa_nil))
      (pss_cons (ps_for PassesOwn.never rfl (pi_range1 (by rfl) G.mrange (pa_cons (pe_op op_add (pe_callB (call_maxT (by rfl)) (by rfl) G.mmax (by decide +kernel) (pa_cons (pv 1) pa_nil)) pe_int) pa_nil)) (pg_name (i := 3) nd rfl (Or.inl rfl))
        (pss_cons (ps_asg (pe_ix ix_tup (pv 0) (pe_bmT PySem.F.plainAttrs_tuple PySem.F.slot_tuple_index PySem.F.type_tuple_index mt_indexT (pv 1) (pa_cons (pv 3) pa_nil)) (fun _ _ => rfl)) (pg_tup (by rfl) (pgs_cons (pg_name (i := 4) nd rfl (Or.inl rfl)) (pgs_cons (pg_name (i := 5) nd rfl (Or.inl rfl)) pgs_nil))))
        (pss_one (ps_expr (pe_bm PySem.F.plainAttrs_list PySem.F.slot_list_append PySem.F.type_list_append mt_append (pv 2) (pa_cons (pe_tup (pa_cons (pv 4) (pa_cons (pe_callTy call_tuple_of (by rfl) G.mtuple (by decide +kernel) (pa_cons (pe_lc (own := [("_law_g", 6), ("_law_q", 7)]) (g := (gTup K 2 (gCons (gName 6) (gCons (gName 7) gNil)))) (tt := tYes) (te := (tTup (tCons (tOp (rIxT K) (tVar 1) (tVar 6)) (tCons (tVar 7) tNil))))
          (by rfl) nd (pi_tup (pv 5)) (blkOk_by (own := [("_law_g", 6), ("_law_q", 7)]) (N := nLby) (sc := defScope sLby) (by decide +kernel))
          (fun _ _ _ _ _ => by exact (pg_tup (by rfl) (pgs_cons (pg_name (i := 6) nd rfl (Or.inl rfl)) (pgs_cons (pg_name (i := 7) nd rfl (Or.inl rfl)) pgs_nil)))) (fun _ _ _ _ _ => by exact pts_nil) (fun _ _ _ _ _ => by exact (pe_tup (pa_cons (pe_ix ix_tup (pv 1) (pv 6) (fun _ _ => rfl)) (pa_cons (pv 7) pa_nil))))) pa_nil)) pa_nil))) pa_nil))))))
      (pss_one (ps_ret (pe_callTy call_tuple_of (by rfl) G.mtuple (by decide +kernel) (pa_cons (pv 2) pa_nil)))))), ?_⟩
    have tp := Dn.topN
    have tl : topN ns ≤ 100000 := by omega
    refine ⟨Nat.zero_le _, fun L nL => ?_⟩
    have sL := same_new (o := .lst []) nL
    have HN0 := hN.same sL
    refine ⟨_, rfl, b0, ns.map fun n : Nat => (n : Int), rfl, (by rw [List.map_map]; exact NumT.sq HN0), (by rw [List.length_map]; omega), fun m hm le => ?_⟩
    obtain ⟨m, rfl, em⟩ := max_is hm le
    refine ⟨_, _, rfl, rfl, _, rfl, (by omega), (by omega), ?_⟩
    refine for_range (lo := 0) (n := m + 1) (fun i σ H1 => Same H H1 ∧ ∃ (bs : List Addr) (o3 o4 o5 o6 o7 : Option V), σ = [some (.ref a), some (.ref b0), some (.ref L), o3, o4, o5, o6, o7] ∧ H1 L = some (.lst (bs.map V.ref)) ∧ Paired (HandAt H1) bs ((byP wb ns).take i))
      ⟨sL, [], none, none, none, none, none, rfl, upd_same, .nil⟩ ?_ ?_
    · rintro i σ H1 hi ⟨s1, bs, o3, o4, o5, o6, o7, rfl, hL, hbs⟩
      have it : i < topN ns := by omega
      have mi : i ∈ ns := Dn.all i (by omega)
      have jl : ns.idxOf i < wb.length := by rw [← nl]; exact List.idxOf_lt_length_of_mem mi
      obtain ⟨ha, b, hd, ps, ehd, eat, eb, hps, hpp⟩ := web_hand (K := K) hWa hWP jl
      have pgl := pl _ hd ehd
      have psl : ps.length = hd.2.length := Paired.length hpp
      have hN1 := hN.same s1
      obtain ⟨o, eN, oc, od⟩ := id hN1
      have bl : bs.length = i := by
        rw [Paired.length hbs, List.length_take, byP_len]
        omega
      refine ⟨_, rfl, _, rfl, ⟨b0, o, _, rfl, eN, oc, od⟩, _, rfl, ?_⟩
      rw [Int.zero_add]
      refine ⟨b0, _, natV i, ns.idxOf i, natV i, rfl, rfl, hN1.sq, rfl, flat_nats ns, natV_get (idx_at mi), eqV_self i, fun k z' hk ez => index_no hk ez, ?_⟩
      refine ⟨a, _, _, _, rfl, rfl, SqT.of (s1 _ _ hWa), eat, ?_⟩
      refine ⟨ha, _, rfl, SqT.of (s1 _ _ eb), rfl, _, _, rfl, _, _, rfl, rfl, ?_⟩
      refine ⟨_, rfl, .inl ⟨rfl, _, SqL.of hL⟩, _, rfl, _, rfl, b, rfl, ⟨_, SqT.of (s1 _ _ hps)⟩, fun M nM => ?_⟩
      refine lc_tup (K := K) (a := b) (xs := ps.map V.ref) (fun c H4 => Same H1 H4 ∧ ∃ cs : List Addr, H4 M = some (.lst (cs.map V.ref)) ∧ PairsAt H4 cs ((hd.2.take c).map (partP ns))) ⟨same_new nM, [], upd_same, .nil⟩ (fun c H4 _ ⟨s4, _⟩ => SqT.of (s4 _ _ (s1 _ _ hps))) ?_ ?_
      · rintro c' y H4 hy ⟨s4, cs, hM, hcs⟩
        rw [List.getElem?_map] at hy
        obtain ⟨pa, epa, rfl⟩ := Option.map_eq_some_iff.mp hy
        obtain ⟨x, ex, hx⟩ := paired_get hpp epa
        have cl' : c' < hd.2.length := (List.getElem?_eq_some_iff.mp ex).1
        obtain ⟨g, q, rfl, gl⟩ := bd _ c' x (by unfold pegOf; rw [ehd]; exact ex)
        have hx4 : H4 pa = some (.tup [.int (g : Int), .int (q : Int)]) := s4 _ _ (s1 _ _ hx)
        have csl : cs.length = c' := by
          rw [Paired.length hcs, List.length_map, List.length_take]
          omega
        have eg : ns[g]? = some (ns.getD g 0) := nget (by omega)
        refine ⟨pa, _, rfl, SqT.of hx4, rfl, _, _, rfl, _, _, rfl, rfl, rfl, ?_⟩
        dsimp only [tYes]
        rw [if_pos rfl]
        refine ⟨_, rfl, _, rfl, b0, _, _, natV (ns.getD g 0), rfl, rfl, (hN1.same s4).sq, atI_nat (natV_get eg), _, rfl, (by show 2 ≤ sizeLine; decide), fun U nU => ?_⟩
        have sU := same_new (o := .tup [natV (ns.getD g 0), .int (q : Int)]) nU
        have eU : (upd H4 U (.tup [natV (ns.getD g 0), .int (q : Int)])) U = some (.tup [natV (ns.getD g 0), .int (q : Int)]) := upd_same
        generalize (upd H4 U (.tup [natV (ns.getD g 0), .int (q : Int)])) = H5 at sU eU ⊢
        have hM5 := sU _ _ hM
        have tL := tups_lst (o := .lst (cs.map V.ref ++ [V.ref U])) hM5
        refine ⟨_, hM5, (by rw [List.length_map, csl, sizeLine_eq]; omega), same_upd (s4.trans sU) nM, cs ++ [U], by rw [List.map_append]; exact upd_same, ?_⟩
        rw [List.take_succ, ex, List.map_append]
        exact paired_snoc (R := PairAt (upd H5 M (.lst (cs.map V.ref ++ [V.ref U])))) (y := partP ns ((g : Int), (q : Int))) (tL _ _ eU) (Paired.mapP hcs fun _ _ z => tL _ _ (sU _ _ z))
      rintro H4 ⟨s4, cs, hM, hcs⟩
      rw [List.length_map, psl, List.take_length] at hcs
      refine ⟨M, _, rfl, .inl ⟨SqL.of hM, fun hb nhb => ?_⟩⟩
      have s45 := same_new (o := .tup (cs.map V.ref)) nhb
      have ehb : (upd H4 hb (.tup (cs.map V.ref))) hb = some (.tup (cs.map V.ref)) := upd_same
      generalize (upd H4 hb (.tup (cs.map V.ref))) = H5 at s45 ehb ⊢
      refine ⟨(by show 2 ≤ sizeLine; decide), fun U nU => ?_⟩
      have sU := same_new (o := .tup [.int hd.1, .ref hb]) nU
      have eU : (upd H5 U (.tup [.int hd.1, .ref hb])) U = some (.tup [.int hd.1, .ref hb]) := upd_same
      generalize (upd H5 U (.tup [.int hd.1, .ref hb])) = H6 at sU eU ⊢
      have s16 := (s4.trans s45).trans sU
      have hL6 := s16 _ _ hL
      have tL := tups_lst (o := .lst (bs.map V.ref ++ [V.ref U])) hL6
      refine ⟨L, _, _, rfl, rfl, hL6, (by rw [List.length_map, bl, sizeLine_eq]; omega), same_upd (s1.trans s16) nL, bs ++ [U], _, _, _, _, _, rfl, (by rw [List.map_append]; exact upd_same), ?_⟩
      rw [List.take_succ, byP_at it]
      have hnew : HandAt H6 U (partH ns (wb.getD (ns.idxOf i) (0, []))) := by
        rw [hget_eq ehd]
        exact ⟨hb, eU, cs, sU _ _ ehb, pairs_tups (sTups (s45.trans sU)) hcs⟩
      exact paired_snoc (R := HandAt (upd H6 L (.lst (bs.map V.ref ++ [V.ref U])))) (hnew.tups tL) (Paired.mapP hbs fun _ _ z => z.tups ((sTups s16).trans tL))
    · rintro σ H1 ⟨s1, bs, o3, o4, o5, o6, o7, rfl, hL, hbs⟩
      rw [em, ← byP_len wb ns, List.take_length] at hbs
      refine ⟨_, rfl, L, _, rfl, .inl ⟨SqL.of hL, fun r nr => ?_⟩⟩
      exact k r _ (s1.trans (same_new nr)) ⟨bs, upd_same, Paired.mapP hbs fun _ _ z => z.tups (sTups (same_new nr))⟩
end
end NH
set_option Elab.async false
set_option linter.all false
set_option maxRecDepth 100000
set_option maxHeartbeats 4000000
namespace NH
open PySem L2
abbrev sIsl : Stmt := top 19
abbrev nIsl : List Str := ["_law_web_here", "_law_other", "_law_row", "_law_h", "_law_mark", "_law_pegs", "_law_g", "_law_q"]
theorem scIsl : FnScope nIsl ["_law_web_here", "_law_other", "_law_row"] (defScope sIsl) := ⟨rfl, rfl, rfl, by decide +kernel, rfl, by decide +kernel, by decide +kernel⟩
section
variable {P : Program} {w : World} {K : PySem.W.Frag} {mg : Str → Option Value} {base : Heap}
def spIslR : Sp := fun vs H Q _ => ∃ (a b c : Addr) (wa wb : WebD) (row : List Int), vs = [.ref a, .ref b, .ref c] ∧ WebAt H a wa ∧ WebAt H b wb ∧ RowR H c row ∧ Sh wa ∧ Sh wb ∧ row.length = wa.length ∧ RowOk wb.length row ∧
  ∀ H', Same H H' → Q (.bl ((List.range wa.length).all (agrAt wa wb row))) H'
theorem ok_isl {f : Addr} {fd : FuncData} (F : Fun K "_law_is_leading" "_law_is_leading" sIsl f fd) (G : Dr P w K mg base) : FnOk P w K mg base CX0 1 f fd ["_law_web_here", "_law_other", "_law_row"] spIslR := by
  refine F.ok scIsl (fun vs H Q E h => ?_) (fun cdv A outer s H vs Q E hr h => ?_)
  · obtain ⟨a, b, c, wa, wb, row, rfl, _⟩ := h
    rfl
  · obtain ⟨a, b, c, wa, wb, row, rfl, hA, hB, hR, shA, shB, len, ok, k⟩ := h
    have nd := scIsl.nd
    refine ⟨_, (pss_cons (ps_for PassesOwn.never rfl (pi_enumT (by rfl) G.menum (pa_cons (pv 0) pa_nil)) (pg_tup (by rfl) (pgs_cons (pg_name (i := 3) nd rfl (Or.inl rfl)) (pgs_cons (pg_tup (by rfl) (pgs_cons (pg_name (i := 4) nd rfl (Or.inl rfl)) (pgs_cons (pg_name (i := 5) nd rfl (Or.inl rfl)) pgs_nil))) pgs_nil)))
        (pss_cons (ps_if (PW.pt (pw_or (pt_cmpR op_ne (pv 4) (pe_ix ix_tup (pe_ix ix_tup (pv 1) (pe_ix ix_tup (pv 2) (pv 3) (fun _ _ => rfl)) (fun _ _ => rfl)) pe_int (fun _ _ => rfl)) (nomark _)) (pw_or1 (pt_cmpR op_ne (pe_callB call_len_seq (by rfl) G.mlen PySem.boot_len (pa_cons (pv 5) pa_nil)) (pe_callB call_len_seq (by rfl) G.mlen PySem.boot_len (pa_cons (pe_ix ix_tup (pe_ix ix_tup (pv 1) (pe_ix ix_tup (pv 2) (pv 3) (fun _ _ => rfl)) (fun _ _ => rfl)) pe_int (fun _ _ => rfl)) pa_nil)) (nomark _))))) (pss_one (ps_ret pe_bl)) pss_nil)
        (pss_one (ps_if (pt_cmpR (op_neD hr.units) (pe_lc (own := [("_law_g", 6), ("_law_q", 7)]) (g := (gTup K 2 (gCons (gName 6) (gCons (gName 7) gNil)))) (tt := tYes) (te := (tTup (tCons (tOp (rIxT K) (tVar 2) (tVar 6)) (tCons (tVar 7) tNil))))
          (by rfl) nd (pi_tup (pv 5)) (blkOk_by (own := [("_law_g", 6), ("_law_q", 7)]) (N := nIsl) (sc := defScope sIsl) (by decide +kernel))
          (fun _ _ _ _ _ => by exact (pg_tup (by rfl) (pgs_cons (pg_name (i := 6) nd rfl (Or.inl rfl)) (pgs_cons (pg_name (i := 7) nd rfl (Or.inl rfl)) pgs_nil)))) (fun _ _ _ _ _ => by exact pts_nil) (fun _ _ _ _ _ => by exact (pe_tup (pa_cons (pe_ix ix_tup (pv 2) (pv 6) (fun _ _ => rfl)) (pa_cons (pv 7) pa_nil))))) (pe_callTy call_list_of (by rfl) G.mlist (by decide +kernel) (pa_cons (pe_ix ix_tup (pe_ix ix_tup (pv 1) (pe_ix ix_tup (pv 2) (pv 3) (fun _ _ => rfl)) (fun _ _ => rfl)) pe_int (fun _ _ => rfl)) pa_nil)) (nomark _)) (pss_one (ps_ret pe_bl)) pss_nil))))
      (pss_one (ps_ret (pe_cmpR op_gt (pe_callB call_len_seq (by rfl) G.mlen PySem.boot_len (pa_cons (pv 0) pa_nil)) pe_int (nomark _))))), ?_⟩
    obtain ⟨hs, hAa, hAP⟩ := id hA
    obtain ⟨gs, hBa, hBP⟩ := id hB
    have hsl : hs.length = wa.length := Paired.length hAP
    refine ⟨_, rfl, a, _, rfl, SqT.of hAa, for_enumT (K := K) (a := a) (xs := hs.map V.ref) (fun i σ H2 => Same H H2 ∧ ((List.range i).all (agrAt wa wb row) = true) ∧ ∃ (o3 o4 o5 o6 o7 : Option V), σ = [some (.ref a), some (.ref b), some (.ref c), o3, o4, o5, o6, o7])
      ⟨fun _ _ e => e, rfl, none, none, none, none, none, rfl⟩ (fun i σ H2 _ ⟨s2, _⟩ => SqT.of (s2 _ _ hAa)) ?_ ?_⟩
    · rintro h y T σ H2 hyi ⟨s2, all, o3, o4, o5, o6, o7, rfl⟩ nT
      rw [List.getElem?_map] at hyi
      obtain ⟨x1, ex1, rfl⟩ := Option.map_eq_some_iff.mp hyi
      obtain ⟨hd, e1, b1, e2, ps, e3, e4⟩ := paired_get hAP ex1
      have hl : h < wa.length := (List.getElem?_eq_some_iff.mp e1).1
      have sT := same_new (o := .tup [.int (h : Nat), .ref x1]) nT
      have s3 := s2.trans sT
      obtain ⟨r, er, rl⟩ := ok.get (h := h) (by omega)
      obtain ⟨x2, b2, hd2, qs, f1, at2', f2, f3, f4⟩ := web_hand (K := K) hBa hBP rl
      have val := agrAt_eq e1 er f1
      have no : agrAt wa wb row h = false → (List.range wa.length).all (agrAt wa wb row) = false := fun z => by
        rw [List.all_eq_false]
        exact ⟨h, List.mem_range.mpr hl, by rw [z]; decide⟩
      have yes : agrAt wa wb row h = true → (List.range (h + 1)).all (agrAt wa wb row) = true := fun z => by
        rw [List.range_succ, List.all_append, all]
        simp [z]
      refine ⟨T, _, rfl, SqT.of upd_same, rfl, _, _, rfl, _, _, rfl, ⟨x1, _, rfl, SqT.of (s3 _ _ e2), rfl, _, _, rfl, _, _, rfl, rfl, rfl, ?_⟩⟩
      generalize (upd H2 T (.tup [.int (h : Nat), .ref x1])) = H3 at sT s3 ⊢
      have hR3 := hR.same s3
      refine ⟨_, rfl, _, rfl, _, rfl, _, rfl, c, _, _, _, rfl, rfl, hR3.sq, atI_nat (ints_get? er), b, _, _, _, rfl, rfl, SqT.of (s3 _ _ hBa), at2', x2, _, _, _, rfl, rfl, SqT.of (s3 _ _ f2), rfl, rfl, _, rfl, ?_⟩
      refine ite2 (fun ne => ?_) (fun eq => ?_)
      · have hne : ¬ hd.1 = hd2.1 := by simpa using ne
        have q := k H3 s3
        rw [no (by rw [val]; unfold agrB; rw [decide_eq_false hne]; rfl)] at q
        exact iteT q
      · have heq : hd.1 = hd2.1 := by simpa using eq
        refine ⟨_, rfl, b1, _, rfl, .inr (SqT.of (s3 _ _ e3)), _, rfl, _, rfl, _, rfl, c, _, _, _, rfl, rfl, hR3.sq, atI_nat (ints_get? er), b, _, _, _, rfl, rfl, SqT.of (s3 _ _ hBa), at2', x2, _, _, _, rfl, rfl, SqT.of (s3 _ _ f2), rfl, b2, _, rfl, .inr (SqT.of (s3 _ _ f3)), rfl, _, rfl, ?_⟩
        have pl1 : ps.length = hd.2.length := Paired.length e4
        have pl2 : qs.length = hd2.2.length := Paired.length f4
        refine ite2 (fun ne => ?_) (fun eq => ?_)
        · have hne : ¬ hd.2.length = hd2.2.length := by
            rw [List.length_map, List.length_map, pl1, pl2] at ne
            intro z
            rw [z] at ne
            simp at ne
          have dne : ¬ hd2.2 = mapRow row hd.2 := fun z => hne (by rw [z]; unfold mapRow; rw [List.length_map])
          have q := k H3 s3
          rw [no (by rw [val]; unfold agrB; rw [decide_eq_false dne, Bool.and_false])] at q
          exact q
        · refine ⟨_, rfl, b1, rfl, ⟨_, SqT.of (s3 _ _ e3)⟩, fun L nL => ?_⟩
          refine lc_tup (K := K) (a := b1) (xs := ps.map V.ref) (fun c' H4 => Same H3 H4 ∧ ∃ es : List Addr, H4 L = some (.lst (es.map V.ref)) ∧ es.length = c' ∧ PairsAt H4 es (mapRow row (hd.2.take c')))
            ⟨same_new nL, [], upd_same, rfl, .nil⟩ (fun c' H4 _ ⟨s4, _⟩ => SqT.of (s4 _ _ (s3 _ _ e3))) ?_ ?_
          · rintro c' y H4 hyc ⟨s4, es, hD, bl, hbs⟩
            rw [List.getElem?_map] at hyc
            obtain ⟨pa, epa, rfl⟩ := Option.map_eq_some_iff.mp hyc
            obtain ⟨x, ex, hpa⟩ := paired_get e4 epa
            have hpa4 := s4 _ _ (s3 _ _ hpa)
            obtain ⟨g, eg, gl⟩ := shA.near h hd e1 x (List.mem_of_getElem? ex)
            obtain ⟨r', er', _⟩ := ok.get (h := g) (by omega)
            refine ⟨pa, _, rfl, SqT.of hpa4, rfl, _, _, rfl, _, _, rfl, rfl, rfl, ?_⟩
            dsimp only [tYes]
            rw [if_pos rfl]
            refine ⟨_, rfl, _, rfl, c, _, _, _, rfl, rfl, (hR3.same s4).sq, (by rw [eg]; exact atI_nat (ints_get? er')), _, rfl, (by show 2 ≤ sizeLine; decide), fun t nt => ?_⟩
            have st := same_new (o := .tup [.int (r' : Int), .int x.2]) nt
            have hD4 := st _ _ hD
            have cl : c' < hd.2.length := (List.getElem?_eq_some_iff.mp ex).1
            have pl := shA.few h hd e1
            refine ⟨_, hD4, (by rw [List.length_map, bl, sizeLine_eq]; omega), fun z o e => ?_, es ++ [t], (by rw [List.map_append]; exact upd_same), (by rw [List.length_append, bl]; rfl), ?_⟩
            · rw [upd_ne (ne_of_none e nL)]
              exact st _ _ (s4 _ _ e)
            · have tt := (sTups st).trans (tups_lst (o := .lst (es.map V.ref ++ [.ref t])) hD4)
              rw [mapRow_snoc ex, eg, Int.toNat_natCast, getD_of er']
              have hnew : PairAt (upd (upd H4 t (.tup [.int (r' : Int), .int x.2])) L (.lst (es.map V.ref ++ [.ref t]))) t ((r' : Int), x.2) := by
                show _ = _
                exact tups_lst (o := HO.lst (es.map V.ref ++ [V.ref t])) hD4 _ _ upd_same
              exact paired_snoc (R := PairAt (upd (upd H4 t (.tup [.int (r' : Int), .int x.2])) L (.lst (es.map V.ref ++ [.ref t])))) hnew (pairs_tups tt hbs)
          · rintro H4 ⟨s4, es, hD, bl, hbs⟩
            rw [List.length_map, pl1, List.take_length] at hbs
            have s5 := s3.trans s4
            refine ⟨_, rfl, _, rfl, _, rfl, c, _, _, _, rfl, rfl, (hR.same s5).sq, atI_nat (ints_get? er), b, _, _, _, rfl, rfl, SqT.of (s5 _ _ hBa), at2', x2, _, _, _, rfl, rfl, SqT.of (s5 _ _ f2), rfl, b2, _, rfl, .inr (SqT.of (s5 _ _ f3)), fun l2 nl2 => ?_⟩
            have s6 := s5.trans (same_new (o := .lst (qs.map V.ref)) nl2)
            have st := same_new (o := .lst (qs.map V.ref)) nl2
            refine ⟨.list ((mapRow row hd.2).map pairD), .list (hd2.2.map pairD), dp_lpairs (st _ _ hD) (pairs_tups (sTups st) hbs), dp_lpairs upd_same (pairs_tups (sTups s6) f4), (enc_list enc_pairD).shaped (by decide) _, (enc_list enc_pairD).shaped (by decide) _, _, rfl, ?_⟩
            have ee := (enc_list enc_pairD).eq (mapRow row hd.2) hd2.2
            refine ite2 (fun ne => ?_) (fun eq => ?_)
            · have hne : ¬ hd2.2 = mapRow row hd.2 := fun z => by
                rw [show PyData.eqv (.list ((mapRow row hd.2).map pairD)) (.list (hd2.2.map pairD)) = true from ee.trans (decide_eq_true z.symm)] at ne
                cases ne
              have q := k _ s6
              rw [no (by rw [val]; unfold agrB; rw [decide_eq_false hne, Bool.and_false])] at q
              exact q
            · have heq2 : hd2.2 = mapRow row hd.2 := Decidable.byContradiction fun z => by
                rw [show PyData.eqv (.list ((mapRow row hd.2).map pairD)) (.list (hd2.2.map pairD)) = false from ee.trans (decide_eq_false fun y => z y.symm)] at eq
                exact eq rfl
              exact ⟨s6, yes (by rw [val]; unfold agrB; rw [decide_eq_true heq, decide_eq_true heq2]; rfl), _, _, _, _, _, rfl⟩
    · rintro σ H2 ⟨s2, all, o3, o4, o5, o6, o7, rfl⟩
      rw [List.length_map, hsl] at all
      refine ⟨_, rfl, a, _, rfl, .inr (SqT.of (s2 _ _ hAa)), _, _, rfl, rfl, ?_⟩
      have q := k _ s2
      rw [all] at q
      have pos := shA.pos
      rw [List.length_map, hsl]
      show Q (.bl (decide ((0 : Int) < (wa.length : Int)))) H2
      rw [decide_eq_true (by omega : (0 : Int) < (wa.length : Int))]
      exact q
end
end NH
set_option Elab.async false
set_option linter.all false
set_option maxRecDepth 100000
set_option maxHeartbeats 4000000
namespace NH
open PySem L2
abbrev sDue : Stmt := top 22
abbrev nDue : List Str := ["_law_web_here", "_law_found", "_law_parting", "_law_lesser", "_law_many"]
theorem scDue : FnScope nDue ["_law_web_here"] (defScope sDue) := ⟨rfl, rfl, rfl, by decide +kernel, rfl, by decide +kernel, by decide +kernel⟩
section
variable {P : Program} {w : World} {K : PySem.W.Frag} {mg : Str → Option Value} {base : Heap}
theorem ok_due {f : Addr} {fd : FuncData} (F : Fun K "_law_due" "_law_due" sDue f fd) (G : Dr P w K mg base) (msorted : mg "sorted" = none) (CQ : FnAt P w K mg base 1 "_law_partings" ["_law_many"] spPrs) (CY : FnAt P w K mg base 1 "_law_by" ["_law_web_here", "_law_parting"] spByp)
    (CJ : FnAt P w K mg base 1 "_law_is_leading" ["_law_web_here", "_law_other", "_law_row"] spIslR) : FnOk P w K mg base CX0 2 f fd ["_law_web_here"] spDue := by
  obtain ⟨fQ, fdQ, GQ, bQ, mQ, kQ⟩ := CQ
  obtain ⟨fY, fdY, GY, bY, mY, kY⟩ := CY
  obtain ⟨fJ, fdJ, GJ, bJ, mJ, kJ⟩ := CJ
  refine F.ok scDue (fun vs H Q E h => ?_) (fun cdv A outer s H vs Q E hr h => ?_)
  · obtain ⟨a, wb, rfl, _⟩ := h
    rfl
  · obtain ⟨a, wb, rfl, hW, gd, wl, k⟩ := h
    have nd := scDue.nd
    have hrQ := hr
    have hrY := hr
    have hrJ := hr
    refine ⟨_, (pss_cons (ps_set (i := 1) nd rfl (Or.inl rfl) (pe_lst pa_nil))
      (pss_cons (ps_for PassesOwn.never rfl (pi_list (pe_call GQ hrQ (by rfl) mQ kQ bQ .nil pass0 (pa_cons (pe_callB call_len_seq (by rfl) G.mlen PySem.boot_len (pa_cons (pv 0) pa_nil)) pa_nil))) (pg_name (i := 2) nd rfl (Or.inl rfl))
        (pss_cons (ps_set (i := 3) nd rfl (Or.inl rfl) (pe_call GY hrY (by rfl) mY kY bY .nil pass0 (pa_cons (pv 0) (pa_cons (pv 2) pa_nil))))
        (pss_one (ps_if (pt_val (pe_call GJ hrJ (by rfl) mJ kJ bJ .nil pass0 (pa_cons (pv 0) (pa_cons (pv 3) (pa_cons (pv 2) pa_nil))))) (pss_one (ps_expr (pe_bm PySem.F.plainAttrs_list PySem.F.slot_list_append PySem.F.type_list_append mt_append (pv 1) (pa_cons (pe_tup (pa_cons (pe_callB call_len_seq (by rfl) G.mlen PySem.boot_len (pa_cons (pv 3) pa_nil)) (pa_cons (pv 2) (pa_cons (pv 3) pa_nil)))) pa_nil)))) pss_nil))))
      (pss_one (ps_ret (pe_lc (own := [("_law_parting", 2), ("_law_lesser", 3), ("_law_many", 4)]) (g := (gTup K 3 (gCons (gName 4) (gCons (gName 2) (gCons (gName 3) gNil))))) (tt := tYes) (te := (tTup (tCons (tVar 3) (tCons (tVar 2) tNil))))
          (by rfl) nd (pi_list (pe_callB (cr_sortK hr) (by rfl) msorted (by decide +kernel) (pa_cons (pv 1) pa_nil))) (blkOk_by (own := [("_law_parting", 2), ("_law_lesser", 3), ("_law_many", 4)]) (N := nDue) (sc := defScope sDue) (by decide +kernel))
          (fun _ _ _ _ _ => by exact (pg_tup (by rfl) (pgs_cons (pg_name (i := 4) nd rfl (Or.inl rfl)) (pgs_cons (pg_name (i := 2) nd rfl (Or.inl rfl)) (pgs_cons (pg_name (i := 3) nd rfl (Or.inl rfl)) pgs_nil))))) (fun _ _ _ _ _ => by exact pts_nil) (fun _ _ _ _ _ => by exact (pe_tup (pa_cons (pv 3) (pa_cons (pv 2) pa_nil))))))))), ?_⟩
    obtain ⟨hs, hWa, hWP⟩ := id hW
    have hsl : hs.length = wb.length := Paired.length hWP
    have w0 := gd.pos
    have sh := Sh.of gd (by omega)
    refine ⟨Nat.zero_le _, fun L nL => ?_⟩
    have s1 := same_new (o := .lst []) nL
    have hL1 : (upd H L (.lst [])) L = some (.lst (([] : List Addr).map V.ref)) := upd_same
    generalize (upd H L (.lst [])) = H1 at s1 hL1 ⊢
    refine ⟨_, rfl, a, _, rfl, .inr (SqT.of (s1 _ _ hWa)), ?_⟩
    rw [List.length_map, hsl]
    refine ⟨wb.length, rfl, w0, wl, fun l as H2 s2 nl hl has => ⟨l, rfl, ⟨_, SqL.of hl⟩, ?_⟩⟩
    have asl := Paired.length has
    have lne : l ≠ L := fun z => by
      rw [z, hL1] at nl
      cases nl
    refine for_list (K := K) (a := l) (xs := as.map V.ref) (fun c σ H3 => Same H H3 ∧ H3 l = some (.lst (as.map V.ref)) ∧ RowsN H3 as (partsL (wb.length - 1)) ∧ ∃ (o2 o3 o4 : Option V) (ds : List Addr), σ = [some (.ref a), some (.ref L), o2, o3, o4] ∧ H3 L = some (.lst (ds.map V.ref)) ∧ Paired (TrpAt H3 wb) ds (((partsL (wb.length - 1)).take c).filter fun p => leadB wb (byP wb p) (asI p)))
      ⟨s1.trans s2, hl, has, none, none, none, [], rfl, s2 _ _ hL1, .nil⟩ (fun c σ H3 _ ⟨_, e, _⟩ => SqL.of e) ?_ ?_
    · rintro c y σ H3 hy ⟨s3, hl3, has3, o2, o3, o4, ds, rfl, hL3, hds⟩
      rw [List.getElem?_map] at hy
      obtain ⟨b, eb, rfl⟩ := Option.map_eq_some_iff.mp hy
      obtain ⟨p, ep, hp⟩ := paired_get has3 eb
      have pm := List.mem_of_getElem? ep
      have pl := partsL_len pm
      have D := partsL_dense pm
      have tp := partsL_top pm
      have hW3 := hW.tups (sTups s3)
      have dl : ds.length < 64 := by
        rw [Paired.length hds]
        refine Nat.lt_of_le_of_lt ?_ (lesF_few gd wl)
        exact ((List.take_sublist c _).filter _).length_le
      refine ⟨_, rfl, _, rfl, a, b, wb, p, rfl, hW3, hp, (by omega), gd.bnd, ⟨_, D, (by omega)⟩, w0, (by omega), (fun h hd e => by have := gd.pegs h hd e; omega), fun q H4 s4 hq => ?_⟩
      have shL := byP_sh sh wl pm
      refine ⟨_, rfl, _, rfl, _, rfl, a, q, b, wb, byP wb p, asI p, rfl, hW3.tups (sTups s4), hq, numT_row (NumT.same s4 hp), sh, shL, (by unfold asI; rw [List.length_map]; omega), rowOk_parts pm, fun H5 s5 => ⟨_, rfl, ?_⟩⟩
      rw [← lead_parts w0 pm]
      have s45 := s4.trans s5
      have hL5 := s45 _ _ hL3
      have hl5 := s45 _ _ hl3
      have has5 := RowsN.same s45 has3
      have hds5 := Paired.mapP hds fun _ _ z => TrpAt.same s45 z
      have hq5 := hq.tups (sTups s5)
      have hp5 := NumT.same s45 hp
      have fl : ((partsL (wb.length - 1)).take (c + 1)).filter (fun p => leadB wb (byP wb p) (asI p)) = ((partsL (wb.length - 1)).take c).filter (fun p => leadB wb (byP wb p) (asI p)) ++ [p].filter (fun p => leadB wb (byP wb p) (asI p)) := by
        rw [List.take_succ, ep, List.filter_append]
        rfl
      refine ite2 (fun yes => ?_) (fun no => ?_)
      · obtain ⟨us, hq1, hq2⟩ := id hq5
        have ul : us.length = topN p := by rw [Paired.length hq2, byP_len]
        refine ⟨_, rfl, .inl ⟨rfl, _, SqL.of hL5⟩, _, rfl, q, _, rfl, .inr (SqT.of hq1), _, rfl, _, rfl, (by show 3 ≤ sizeLine; decide), fun t nt => ?_⟩
        rw [List.length_map, ul]
        have s6 := same_new (o := .tup [natV (topN p), .ref b, .ref q]) nt
        have et : (upd H5 t (.tup [natV (topN p), .ref b, .ref q])) t = some (.tup [natV (topN p), .ref b, .ref q]) := upd_same
        have s06 := (s3.trans s45).trans s6
        refine ⟨L, _, _, rfl, rfl, s6 _ _ hL5, (by rw [List.length_map, sizeLine_eq]; omega), ?_⟩
        generalize hH6 : (upd H5 t (.tup [natV (topN p), .ref b, .ref q])) = H6 at s6 et s06
        rw [show (upd H5 t (.tup [.int (topN p : Nat), .ref b, .ref q])) = H6 from hH6]
        have hL6 := s6 _ _ hL5
        refine ⟨same_upd s06 nL, (by rw [upd_ne lne]; exact s6 _ _ hl5), Paired.mapP has5 fun _ _ z => NumT.up (NumT.same s6 z) hL6, _, _, _, ds ++ [t], rfl, (by rw [List.map_append]; exact upd_same), ?_⟩
        rw [fl, List.filter_cons_of_pos (p := fun p => leadB wb (byP wb p) (asI p)) yes, List.filter_nil]
        exact paired_snoc (R := TrpAt (upd H6 L (.lst (ds.map V.ref ++ [V.ref t]))) wb) (TrpAt.up ⟨q, b, et, hq5.tups (sTups s6), NumT.same s6 hp5⟩ hL6) (Paired.mapP hds5 fun _ _ z => TrpAt.up (TrpAt.same s6 z) hL6)
      · refine ⟨s3.trans s45, hl5, has5, _, _, _, ds, rfl, hL5, ?_⟩
        rw [fl, List.filter_cons_of_neg (p := fun p => leadB wb (byP wb p) (asI p)) no, List.filter_nil, List.append_nil]
        exact hds5
    · rintro σ H3 ⟨s3, hl3, has3, o2, o3, o4, ds, rfl, hL3, hds⟩
      rw [List.length_map, asl, List.take_length] at hds
      have dsl := Paired.length hds
      have few := lesF_few gd wl
      have nd18 : (lesF wb).Nodup := (parts_nd _ (by omega)).filter _
      refine ⟨_, rfl, NumK, inferInstance, numKP (fun kk => [webP (byP wb kk.2)]), ltNumK, fun _ _ => sortO_numK (fun kk => web_rest _), L, ds, (lesF wb).map pkey, rfl, hL3, ?_, ?_, (by rw [dsl]; exact few), fun l2 Ls nl2 pm srt => ?_⟩
      · have kv : ∀ {r : Addr} {p : List Nat}, TrpAt H3 wb r p → KeyV (numKP fun kk => [webP (byP wb kk.2)]) K H3 r (pkey p) := fun {r p} ⟨x, y, h1, h2, h3⟩ => .tup (SqT.of h1) (.cons (.int _) (.cons (dp_numT h3) (.cons (dp_web h2) .nil)))
        exact paired_pkey (fun r p z => kv z) hds
      · unfold List.Nodup at nd18 ⊢
        rw [List.pairwise_map]
        exact nd18.imp fun h z => h (congrArg Prod.snd z)
      · have s4 := same_new (o := .lst (Ls.map fun x => V.ref x.1)) nl2
        have e4 : (upd H3 l2 (.lst (Ls.map fun x => V.ref x.1))) l2 = some (.lst ((Ls.map fun x => x.1).map V.ref)) := by
          rw [upd_same, List.map_map]
          rfl
        obtain ⟨q1, q2⟩ := les_sorted (Paired.mapP hds fun _ _ z => TrpAt.same s4 z) rfl pm srt
        generalize (upd H3 l2 (.lst (Ls.map fun x => V.ref x.1))) = H4 at s4 e4 q1
        have lk : (Ls.map fun x => x.2.2).length < 64 := by rw [q2.perm.length_eq]; exact few
        generalize (Ls.map fun x => x.1) = zs at e4 q1
        generalize (Ls.map fun x => x.2.2) = ks at q1 q2 lk
        have zl := Paired.length q1
        refine ⟨l2, rfl, ⟨_, SqL.of e4⟩, fun D nD => ?_⟩
        refine lc_list (K := K) (a := l2) (xs := zs.map V.ref) (fun c H5 => Same H4 H5 ∧ ∃ es : List Addr, H5 D = some (.lst (es.map V.ref)) ∧ Paired (PrtAt H5 wb) es (ks.take c)) ⟨same_new nD, [], upd_same, .nil⟩ (fun c H5 _ ⟨s5, _⟩ => SqL.of (s5 _ _ e4)) ?_ ?_
        · rintro c y H5 hyc ⟨s5, es, hD, hes⟩
          rw [List.getElem?_map] at hyc
          obtain ⟨r, er, rfl⟩ := Option.map_eq_some_iff.mp hyc
          obtain ⟨p, ep, hr4⟩ := paired_get q1 er
          obtain ⟨x, y, h1, h2, h3⟩ := TrpAt.same s5 hr4
          have cl : c < zs.length := (List.getElem?_eq_some_iff.mp er).1
          have esl := Paired.length hes
          rw [List.length_take] at esl
          refine ⟨r, _, rfl, SqT.of h1, rfl, _, _, rfl, _, _, rfl, _, _, rfl, rfl, rfl, ?_⟩
          dsimp only [tYes]
          rw [if_pos rfl]
          refine ⟨_, rfl, _, rfl, (by show 2 ≤ sizeLine; decide), fun t nt => ?_⟩
          have s6 := same_new (o := .tup [.ref x, .ref y]) nt
          have et : (upd H5 t (.tup [.ref x, .ref y])) t = some (.tup [.ref x, .ref y]) := upd_same
          generalize (upd H5 t (.tup [.ref x, .ref y])) = H6 at s6 et ⊢
          have hD6 := s6 _ _ hD
          refine ⟨_, hD6, (by rw [List.length_map, sizeLine_eq]; omega), same_upd (s5.trans s6) nD, es ++ [t], by rw [List.map_append]; exact upd_same, ?_⟩
          rw [List.take_succ, ep]
          exact paired_snoc (R := PrtAt (upd H6 D (.lst (es.map V.ref ++ [V.ref t]))) wb) (PrtAt.up ⟨x, y, et, h2.tups (sTups s6), h3.same s6⟩ hD6) (Paired.mapP hes fun _ _ z => PrtAt.up (PrtAt.same s6 z) hD6)
        · rintro H5 ⟨s5, es, hD, hes⟩
          rw [List.length_map, zl, List.take_length] at hes
          refine k D es ks H5 ((s3.trans s4).trans s5) ?_ hD hes q2
          exact (s3.trans s4).free nD
end
end NH
set_option Elab.async false
set_option linter.all false
set_option maxRecDepth 100000
set_option maxHeartbeats 4000000
namespace NH
open PySem L2
abbrev sSym : Stmt := top 23
abbrev nSym : List Str := ["_law_box_here", "_law_form"]
theorem scSym : FnScope nSym ["_law_box_here"] (defScope sSym) := ⟨rfl, rfl, rfl, by decide +kernel, rfl, by decide +kernel, by decide +kernel⟩
def spSym : Sp := fun vs H Q _ => ∃ p : Addr, vs = [.ref p] ∧ BoxAt H p ∧ ∀ (r : Addr) (w : WebD) (H' : Hp), H r = none → Step p H H' → WebAt H' r w → Good 4 w → w.length ≤ 6 → Q (.ref r) H'
section
variable {P : Program} {w : World} {K : PySem.W.Frag} {mg : Str → Option Value} {base : Heap}
theorem ok_sym {f : Addr} {fd : FuncData} (F : Fun K "_law_symmetrical" "_law_symmetrical" sSym f fd) (G : Dr4 P w K mg base) (CW : FnAt P w K mg base 5 "_law_web" ["_law_box_here", "_law_most", "_law_room"] spPlain) : FnOk P w K mg base CX0 6 f fd ["_law_box_here"] spSym := by
  obtain ⟨fT, fdT, GT, bT, mT, kT⟩ := G.take
  obtain ⟨fN, fdN, GN, bN, mN, kN⟩ := G.plain
  obtain ⟨fC, fdC, GC, bC, mC, kC⟩ := G.cover
  obtain ⟨fW, fdW, GW, bW, mW, kW⟩ := CW
  refine F.ok scSym (fun vs H Q E h => ?_) (fun cdv A outer s H vs Q E hr h => ?_)
  · obtain ⟨p, rfl, _⟩ := h
    rfl
  · obtain ⟨p, rfl, hb, k⟩ := h
    have nd := scSym.nd
    have hrT := hr.mono (show 1 ≤ 5 by decide)
    have hrN := hr.mono (show 3 ≤ 5 by decide)
    have hrC := hr.mono (show 4 ≤ 5 by decide)
    have hrW := hr
    refine ⟨_, (pss_cons (ps_set (i := 1) nd rfl (Or.inl rfl) (pe_call GT hrT (by rfl) mT kT bT .nil pass0 (pa_cons (pv 0) (pa_cons pe_int pa_nil))))
      (pss_cons (ps_if (pt_cmpR op_eq (pv 1) pe_int (nomark _)) (pss_one (ps_ret (pe_call GW hrW (by rfl) mW kW bW .nil pass0 (pa_cons (pv 0) (pa_cons pe_int (pa_cons pe_int pa_nil)))))) pss_nil)
      (pss_cons (ps_if (pt_cmpR op_lt (pv 1) pe_int (nomark _)) (pss_one (ps_ret (pe_ix ix_tup (pe_call GC hrC (by rfl) mC kC bC .nil pass0 (pa_cons (pv 0) (pa_cons (pe_call GN hrN (by rfl) mN kN bN .nil pass0 (pa_cons (pv 0) (pa_cons pe_int (pa_cons pe_int pa_nil)))) (pa_cons pe_int pa_nil)))) pe_int (fun _ _ => rfl)))) pss_nil)
      (pss_cons (ps_if (pt_cmpR op_lt (pv 1) pe_int (nomark _)) (pss_one (ps_ret (pe_ix ix_tup (pe_call GC hrC (by rfl) mC kC bC .nil pass0 (pa_cons (pv 0) (pa_cons (pe_call GN hrN (by rfl) mN kN bN .nil pass0 (pa_cons (pv 0) (pa_cons pe_int (pa_cons pe_int pa_nil)))) (pa_cons pe_int pa_nil)))) pe_int (fun _ _ => rfl)))) pss_nil)
      (pss_one (ps_ret (pe_ix ix_tup (pe_call GC hrC (by rfl) mC kC bC .nil pass0 (pa_cons (pv 0) (pa_cons (pe_call GN hrN (by rfl) mN kN bN .nil pass0 (pa_cons (pv 0) (pa_cons pe_int (pa_cons pe_int pa_nil)))) (pa_cons pe_int pa_nil)))) pe_int (fun _ _ => rfl)))))))), ?_⟩
    obtain ⟨xa, xb, hx, hx0, hx1⟩ := hb.ex
    refine ⟨_, rfl, p, xa, xb, _, rfl, hx, hx0, hx1, by decide, by decide, fun u a1 b1 u0 u1 c1 c2 => ?_⟩
    have s1 := (Step.refl hb).take (x := a1) c1 c2
    generalize (upd H p (.lst [.int a1, .int b1])) = H1 at s1 ⊢
    have cov : ∀ (m n : Nat), 1 ≤ m → m ≤ 6 → 1 ≤ n → n ≤ 6 → m * n ≤ 6 → tOp (rIxT K) (tCall spCover [] E0 (tCons (tVar 0) (tCons (tCall spPlain [] E0 (tCons (tVar 0) (tCons (tC (natV m)) (tCons (tC (natV 4)) tNil)))) (tCons (tC (natV n)) tNil)))) (tC (.int 0)) [some (.ref p), some (.int u)] H1 Q := fun m n m1 m6 n1 n6 mn => by
      refine ⟨_, rfl, _, rfl, p, m, 4, rfl, s1.box, m1, by omega, by decide, by decide, fun r wb H2 nr s2 hW gd wl => ?_⟩
      have bnd : wb.length * n ≤ 6 := Nat.le_trans (Nat.mul_le_mul_right _ wl) mn
      refine ⟨p, r, wb, n, 4, rfl, s2.box, hW, gd, by omega, by omega, by decide, n1, by omega, fun rr rw' rl F l w0 w' π ld H4 nrr nrw s4 hrr hW4 hrl tk cv cof hp ren ldl hld => ?_⟩
      have g0 := cof.good gd tk cv
      have hp' : π.Perm (List.range w0.length) := by rw [cof.len]; exact hp
      have ll := cv.len
      have rl' := ren.len
      have cl' := cof.len
      exact ⟨rr, _, _, _, rfl, rfl, SqT.of hrr, rfl, k rw' w' H4 (s1.free (s2.free nrw)) ((s1.trans s2).trans s4) hW4 (ren.good hp' g0) (by omega)⟩
    refine ⟨_, rfl, rfl, _, rfl, ite2 (fun _ => ?_) (fun _ => ?_)⟩
    · exact ⟨_, rfl, p, 6, 4, rfl, s1.box, by decide, by decide, by decide, by decide, fun r wb H2 nr s2 hW gd wl => k r wb H2 (s1.free nr) (s1.trans s2) hW gd wl⟩
    · refine ⟨_, rfl, _, _, rfl, rfl, _, rfl, ite2 (fun _ => cov 3 2 (by decide) (by decide) (by decide) (by decide) (by decide)) (fun _ => ?_)⟩
      refine ⟨_, rfl, _, _, rfl, rfl, _, rfl, ite2 (fun _ => cov 2 3 (by decide) (by decide) (by decide) (by decide) (by decide)) (fun _ => ?_)⟩
      exact cov 1 6 (by decide) (by decide) (by decide) (by decide) (by decide)
end
end NH
set_option Elab.async false
set_option linter.all false
set_option maxRecDepth 100000
set_option maxHeartbeats 4000000
namespace NH
open PySem L2
abbrev sAlike : Stmt := top 10
abbrev nAlike : List Str := ["_law_found", "_law_due_here", "_law_one", "_law_other"]
section
variable {P : Program} {w : World} {K : PySem.W.Frag} {mg : Str → Option Value} {base : Heap}
theorem scAlike : FnScope nAlike ["_law_found", "_law_due_here"] (defScope sAlike) := ⟨rfl, rfl, rfl, by decide +kernel, rfl, by decide +kernel, by decide +kernel⟩
theorem all_rep (n : Nat) : (List.replicate n true).all id = true := by
  rw [List.all_eq_true]
  intro x hx
  rw [List.eq_of_mem_replicate hx]
  rfl
theorem ok_alike {f : Addr} {fd : FuncData} (F : Fun K "_law_alike" "_law_alike" sAlike f fd) (b : Binds K fd ["_law_found", "_law_due_here"] []) (m : mg "_law_alike" = some (.ref f)) (kp : PySem.W.keepIn K (.ref f) = true)
    (misi : mg "isinstance" = none) (mlist : mg "list" = none) (mtuple : mg "tuple" = none) (mbool : mg "bool" = none) (mlen : mg "len" = none) (mall : mg "all" = none) (mzip : mg "zip" = none) :
    ∀ n : Nat, FnOk P w K mg base CX0 n f fd ["_law_found", "_law_due_here"] (spAlikeD n)
  | 0 => ⟨fun vs H Q E h => by obtain ⟨x, y, _, h, _⟩ := h; exact h.elim, fun A outer s H args us vs Q E hr he hb hv h => by obtain ⟨x, y, _, h, _⟩ := h; exact h.elim⟩
  | n + 1 => by
    have ih := ok_alike F b m kp misi mlist mtuple mbool mlen mall mzip n
    refine F.ok scAlike (fun vs H Q E h => ?_) (fun cdv A outer s H vs Q E hr h => ?_)
    · obtain ⟨x, y, rfl, _⟩ := h
      rfl
    obtain ⟨x, y, rfl, hA, k⟩ := h
    have nd := scAlike.nd
    have bisi : bootBuiltins "isinstance" = some (.builtin "isinstance") := by decide +kernel
    have ball : bootBuiltins "all" = some (.builtin "all") := by decide +kernel
    have blist : bootBuiltins "list" = some (.type "list") := by decide +kernel
    have btuple : bootBuiltins "tuple" = some (.type "tuple") := by decide +kernel
    have bbool : bootBuiltins "bool" = some (.type "bool") := by decide +kernel
    refine ⟨_, pss_cons (ps_if (pt_val (pe_callB call_isiTD (by rfl) misi bisi (pa_cons (pv 1) (pa_cons (pe_tup (pa_cons (pe_bltn (v := .ty "list") (by rfl) mlist blist rfl) (pa_cons (pe_bltn (v := .ty "tuple") (by rfl) mtuple btuple rfl) pa_nil))) pa_nil))))
        (pss_cons (ps_if (PW.pt (pw_or (pt_cmpR op_ne (pe_callB call_isiD (by rfl) misi bisi (pa_cons (pv 0) (pa_cons (pe_bltn (v := .ty "tuple") (by rfl) mtuple btuple rfl) pa_nil))) (pe_callB call_isiD (by rfl) misi bisi (pa_cons (pv 1) (pa_cons (pe_bltn (v := .ty "tuple") (by rfl) mtuple btuple rfl) pa_nil))) (nomark _))
            (pw_or1 (pt_cmpR op_ne (pe_callB call_isiD (by rfl) misi bisi (pa_cons (pv 0) (pa_cons (pe_bltn (v := .ty "list") (by rfl) mlist blist rfl) pa_nil))) (pe_callB call_isiD (by rfl) misi bisi (pa_cons (pv 1) (pa_cons (pe_bltn (v := .ty "list") (by rfl) mlist blist rfl) pa_nil))) (nomark _)))))
          (pss_one (ps_ret pe_bl)) pss_nil)
        (pss_one (ps_ret (pe_and (pe_cmpR op_eq (pe_callB call_len_seq (by rfl) mlen PySem.boot_len (pa_cons (pv 0) pa_nil)) (pe_callB call_len_seq (by rfl) mlen PySem.boot_len (pa_cons (pv 1) pa_nil)) (nomark _))
          (pe_one (pe_callB (cr_all rfl) (by rfl) mall ball (pa_cons
            (pe_lc (own := [("_law_one", 2), ("_law_other", 3)]) (g := gTup K 2 (gCons (gName 2) (gCons (gName 3) gNil))) (te := tCall (spAlikeD n) [] E0 (tCons (tVar 2) (tCons (tVar 3) tNil)))
              (by rfl) nd (pi_zipA (by rfl) mzip (pa_cons (pv 0) (pa_cons (pv 1) pa_nil))) (blkOk_by (own := [("_law_one", 2), ("_law_other", 3)]) (N := nAlike) (sc := defScope sAlike) (by decide +kernel))
              (fun _ _ _ _ _ => by exact pg_tup (by rfl) (pgs_cons (pg_name (i := 2) nd rfl (Or.inl rfl)) (pgs_cons (pg_name (i := 3) nd rfl (Or.inl rfl)) pgs_nil))) (fun _ _ _ _ _ => pts_nil)
              (fun _ _ _ _ _ => by exact pe_call ih hr (by rfl) m kp b .nil pass0 (pa_cons (pv 2) (pa_cons (pv 3) pa_nil)))) pa_nil)))))))
        pss_nil)
      (pss_one (ps_ret (pe_and (pe_cmpR op_eq (pe_callB call_isiD (by rfl) misi bisi (pa_cons (pv 0) (pa_cons (pe_bltn (v := .ty "bool") (by rfl) mbool bbool rfl) pa_nil))) (pe_callB call_isiD (by rfl) misi bisi (pa_cons (pv 1) (pa_cons (pe_bltn (v := .ty "bool") (by rfl) mbool bbool rfl) pa_nil))) (nomark _))
        (pe_one (pe_cmpR op_eq (pv 0) (pv 1) (nomark _)))))), ?_⟩
    refine ⟨_, rfl, (by show 2 ≤ sizeLine; decide), fun T nT => ?_⟩
    have sT := same_new (o := .tup [V.ty "list", V.ty "tuple"]) nT
    have eT : (upd H T (.tup [V.ty "list", V.ty "tuple"])) T = some (.tup [V.ty "list", V.ty "tuple"]) := upd_same
    have hA1 := hA.same sT
    generalize (upd H T (.tup [V.ty "list", V.ty "tuple"])) = H1 at sT eT hA1 ⊢
    rcases hA1 with ⟨rfl, fl⟩ | ⟨a, c, xs, ys, rfl, rfl, hh, hl, hp⟩
    · -- a thing without parts
      have one : ∃ t bb, TyOf K H1 x t ∧ PySem.W.kitAny K t (["list", "tuple"].map Value.type) = some false ∧ PySem.W.kitOne K t (.type "bool") = some bb ∧ scal x x = true := by
        cases x with
        | non => exact ⟨_, _, .non, kaN, kNB, rfl⟩
        | bl b => exact ⟨_, _, .bl b, kaB, kBB, rfl⟩
        | int i => exact ⟨_, _, .int i, kaI, kIB, rfl⟩
        | str s => exact ⟨_, _, .str s, kaS, kSB, rfl⟩
        | _ => exact absurd (show false = true from fl) Bool.false_ne_true
      obtain ⟨t, bb, ty, k1, k2, k3⟩ := one
      refine ⟨x, T, t, false, ["list", "tuple"], rfl, .any ty, eT, k1, _, rfl, ?_⟩
      refine iteF ?_
      refine ⟨_, rfl, x, .ty "bool", t, _, bb, rfl, .any ty, rfl, k2, _, rfl, x, .ty "bool", t, _, bb, rfl, .any ty, rfl, k2, rfl, _, rfl, ?_⟩
      rw [decide_eq_true rfl]
      refine ⟨_, rfl, _, rfl, k3, ?_⟩
      rw [decide_eq_true rfl]
      exact k H1 sT
    · have same : xs.length = ys.length := Paired.length hp
      have lz : ∀ i : Nat, i < xs.length → i < sizeLine := fun i hi => by rw [sizeLine_eq]; omega
      rcases hh with ⟨ea, ec⟩ | ⟨ea, ec⟩
      · refine ⟨_, T, _, true, ["list", "tuple"], rfl, .any (.lst ec), eT, kaL, _, rfl, ?_⟩
        refine iteT ?_
        refine ⟨_, rfl, _, .ty "tuple", _, _, _, rfl, .any (.lst ea), rfl, kLT, _, rfl, _, .ty "tuple", _, _, _, rfl, .any (.lst ec), rfl, kLT, rfl, _, rfl, ?_⟩
        refine iteF ?_
        refine ⟨_, rfl, _, .ty "list", _, _, _, rfl, .any (.lst ea), rfl, kLL, _, rfl, _, .ty "list", _, _, _, rfl, .any (.lst ec), rfl, kLL, rfl, _, rfl, ?_⟩
        refine iteF ?_
        refine ⟨_, rfl, a, _, rfl, .inl (SqL.of ea), _, rfl, c, _, rfl, .inl (SqL.of ec), rfl, _, rfl, ?_⟩
        rw [same, decide_eq_true rfl]
        refine ⟨_, rfl, _, rfl, a, c, xs, ys, rfl, .inl ⟨SqL.of ea, SqL.of ec, fun D nD => ?_⟩⟩
        refine lc_zip (K := K) (a := a) (b := c) (xs := xs) (ys := ys) same (fun i H2 => Same H1 H2 ∧ H2 D = some (.lst (List.replicate i (V.bl true)))) ⟨same_new nD, upd_same⟩ (fun i H2 _ ⟨s2, _⟩ => ⟨SqL.of (s2 _ _ ea), SqL.of (s2 _ _ ec)⟩) ?_ ?_
        · rintro i p q U H2 ep eq ⟨s2, eD⟩ nU
          have il := (List.getElem?_eq_some_iff.mp ep).1
          have sU := same_new (o := .tup [p, q]) nU
          refine ⟨U, _, rfl, SqT.of upd_same, rfl, _, _, rfl, _, _, rfl, rfl, rfl, ?_⟩
          dsimp only [tYes]
          rw [if_pos rfl]
          obtain ⟨q', eq', hpq⟩ := paired_get hp ep
          rw [eq] at eq'
          cases eq'
          refine ⟨_, rfl, _, rfl, p, q, rfl, (hpq.same (s2.trans sU)), fun H3 s3 => ?_⟩
          refine ⟨_, s3 _ _ (sU _ _ eD), (by rw [List.length_replicate]; exact lz i il), fun z o e => ?_, (by rw [upd_same, ← List.replicate_succ'])⟩
          rw [upd_ne (ne_of_none e nD)]
          exact s3 _ _ (sU _ _ (s2 _ _ e))
        · rintro H2 ⟨s2, eD⟩
          refine ⟨D, List.replicate xs.length true, rfl, SqL.of (by rw [eD, List.map_replicate]), ?_⟩
          rw [all_rep]
          exact k H2 (sT.trans s2)
      · refine ⟨_, T, _, true, ["list", "tuple"], rfl, ec.ty, eT, kaT, _, rfl, ?_⟩
        refine iteT ?_
        refine ⟨_, rfl, _, .ty "tuple", _, _, _, rfl, ea.ty, rfl, kTT, _, rfl, _, .ty "tuple", _, _, _, rfl, ec.ty, rfl, kTT, rfl, _, rfl, ?_⟩
        refine iteF ?_
        refine ⟨_, rfl, _, .ty "list", _, _, _, rfl, ea.ty, rfl, kTL, _, rfl, _, .ty "list", _, _, _, rfl, ec.ty, rfl, kTL, rfl, _, rfl, ?_⟩
        refine iteF ?_
        refine ⟨_, rfl, a, _, rfl, .inr (ea.sq), _, rfl, c, _, rfl, .inr (ec.sq), rfl, _, rfl, ?_⟩
        rw [same, decide_eq_true rfl]
        refine ⟨_, rfl, _, rfl, a, c, xs, ys, rfl, .inr ⟨ea.sq, ec.sq, fun D nD => ?_⟩⟩
        refine lc_zipT (K := K) (a := a) (b := c) (xs := xs) (ys := ys) same (fun i H2 => Same H1 H2 ∧ H2 D = some (.lst (List.replicate i (V.bl true)))) ⟨same_new nD, upd_same⟩ (fun i H2 _ ⟨s2, _⟩ => ⟨(ea.same s2).sq, (ec.same s2).sq⟩) ?_ ?_
        · rintro i p q U H2 ep eq ⟨s2, eD⟩ nU
          have il := (List.getElem?_eq_some_iff.mp ep).1
          have sU := same_new (o := .tup [p, q]) nU
          refine ⟨U, _, rfl, SqT.of upd_same, rfl, _, _, rfl, _, _, rfl, rfl, rfl, ?_⟩
          dsimp only [tYes]
          rw [if_pos rfl]
          obtain ⟨q', eq', hpq⟩ := paired_get hp ep
          rw [eq] at eq'
          cases eq'
          refine ⟨_, rfl, _, rfl, p, q, rfl, (hpq.same (s2.trans sU)), fun H3 s3 => ?_⟩
          refine ⟨_, s3 _ _ (sU _ _ eD), (by rw [List.length_replicate]; exact lz i il), fun z o e => ?_, (by rw [upd_same, ← List.replicate_succ'])⟩
          rw [upd_ne (ne_of_none e nD)]
          exact s3 _ _ (sU _ _ (s2 _ _ e))
        · rintro H2 ⟨s2, eD⟩
          refine ⟨D, List.replicate xs.length true, rfl, SqL.of (by rw [eD, List.map_replicate]), ?_⟩
          rw [all_rep]
          exact k H2 (sT.trans s2)
end
end NH
set_option Elab.async false
set_option linter.all false
set_option maxRecDepth 100000
set_option maxHeartbeats 4000000
namespace NH
open PySem L2
abbrev sRig : Stmt := top 24
abbrev nRig : List Str := ["_law_web_here", "_law_due_here", "_law_found", "_law_lesser", "_law_parting"]
theorem scRig : FnScope nRig ["_law_web_here"] (defScope sRig) := ⟨rfl, rfl, rfl, by decide +kernel, rfl, by decide +kernel, by decide +kernel⟩
abbrev sLaw : Stmt := top 25
abbrev nLaw : List Str := ["_law_script", "_law_some", "_law_k", "_law_web_here"]
theorem scLaw : FnScope nLaw ["_law_script"] (defScope sLaw) := ⟨rfl, rfl, rfl, by decide +kernel, rfl, by decide +kernel, by decide +kernel⟩
theorem ballQ : bootBuiltins "all" = some (.builtin "all") := by decide +kernel
def AskAt (H : Hp) (a : Addr) : Prop := ∃ wb, WebAt H a wb ∧ Good 4 wb ∧ wb.length ≤ 6
theorem AskAt.tups {H H' : Hp} {t : Addr} (s : Tups H H') : AskAt H t → AskAt H' t
  | ⟨wb, h1, h2⟩ => ⟨wb, h1.tups s, h2⟩
def spRig (T U : Addr) : Sp := fun vs H Q _ => ∃ a : Addr, vs = [.ref a] ∧ AskAt H a ∧ TblAt H T ∧ LamAt H U lesPos lesQ ∧ T ≠ U ∧ ∀ H', StepK T U lesPos lesQ H H' → Q (.bl true) H'
def spLaw (K : PySem.W.Frag) (tabs : List (Addr × Addr)) : Sp := fun vs H Q _ => ∃ (a : Addr) (ns : List Int), vs = [.ref a] ∧ SqL K H a (ns.map V.int) ∧ ns.length ≤ 63 ∧ (∀ t ∈ tabs, H t.2 = some (.tbl #[])) ∧ ∀ H', Q (.bl true) H'
theorem prt_alike {H : Hp} {w : WebD} (g : Good 4 w) (l : w.length ≤ 6) : ∀ {as bs : List Addr} {ks : List (List Nat)}, (∀ p ∈ ks, LessP w p) → Paired (PrtAt H w) as ks → Paired (PrtAt H w) bs ks → Paired (AlkD H 6) (as.map V.ref) (bs.map V.ref)
  | _, _, [], _, .nil, .nil => .nil
  | _, _, p :: ks, h, .cons ⟨x, y, h1, h2, h3⟩ t, .cons ⟨x', y', h1', h2', h3'⟩ t' => by
    have lp := h p List.mem_cons_self
    have pl := lp.len g.pos
    have tp := partsL_top lp.mem
    refine .cons (alkD_two (.inl h1) (.inl h1') (Alk.web h2 h2' (by rw [byP_len]; omega) fun i hd e => by have := (lp.good g).pegs i hd e; omega).toD ((alkD_nats h3.tu h3'.tu (by omega)).mono (by decide))) (prt_alike g l (fun q m => h q (List.mem_cons_of_mem _ m)) t t')
section
variable {P : Program} {w : World} {K : PySem.W.Frag} {mg : Str → Option Value} {base : Heap}
theorem ok_rig {f : Addr} {fd : FuncData} {T U : Addr} (F : Fun K "_law_right" "_law_right" sRig f fd) (G : Dr P w K mg base) (mall : mg "all" = none) (CD : FnAt P w K mg base 2 "_law_due" ["_law_web_here"] spDue) (CL : FnAt P w K mg base 5 "lesser_webs" ["web"] (spLes T U lesPos lesQ))
    (CA : FnAt P w K mg base 7 "_law_alike" ["_law_found", "_law_due_here"] (spAlikeD 7)) (CB : FnAt P w K mg base 1 "by_parting" ["web", "parting"] spByp) : FnOk P w K mg base CX0 8 f fd ["_law_web_here"] (spRig T U) := by
  obtain ⟨fD, fdD, GD, bD, mD, kD⟩ := CD
  obtain ⟨fL, fdL, GL, bL, mL, kL⟩ := CL
  obtain ⟨fA, fdA, GA, bA, mA, kA⟩ := CA
  obtain ⟨fB, fdB, GB, bB, mB, kB⟩ := CB
  refine F.ok scRig (fun vs H Q E h => ?_) (fun cdv A outer s H vs Q E hr h => ?_)
  · obtain ⟨a, rfl, _⟩ := h
    rfl
  · obtain ⟨a, rfl, ⟨wb, hW, gd, wl⟩, hT, hU, ne, k⟩ := h
    have nd := scRig.nd
    have hrD := hr.mono (show 2 ≤ 7 by decide)
    have hrL := hr.mono (show 5 ≤ 7 by decide)
    have hrA := hr
    have hrB := hr.mono (show 1 ≤ 7 by decide)
    refine ⟨_, (pss_cons (ps_set (i := 1) nd rfl (Or.inl rfl) (pe_call GD hrD (by rfl) mD kD bD .nil pass0 (pa_cons (pv 0) pa_nil)))
      (pss_cons (ps_set (i := 2) nd rfl (Or.inl rfl) (pe_call GL hrL (by rfl) mL kL bL .nil pass0 (pa_cons (pv 0) pa_nil)))
      (pss_cons (ps_if (pt_not (pt_val (pe_call GA hrA (by rfl) mA kA bA .nil pass0 (pa_cons (pv 2) (pa_cons (pv 1) pa_nil))))) (pss_one (ps_ret pe_bl)) pss_nil)
      (pss_cons (ps_expr (pe_bm0 PySem.F.plainAttrs_list PySem.F.slot_list_clear PySem.F.type_list_clear mt_clear (pv 2)))
      (pss_one (ps_ret (pe_callB (cr_all rfl) (by rfl) mall ballQ (pa_cons (pe_lc (own := [("_law_lesser", 3), ("_law_parting", 4)]) (g := (gTup K 2 (gCons (gName 3) (gCons (gName 4) gNil)))) (tt := tYes) (te := (tCall (spAlikeD 7) [] E0 (tCons (tCall spByp [] E0 (tCons (tVar 0) (tCons (tVar 4) tNil))) (tCons (tVar 3) tNil))))
          (by rfl) nd (pi_list (pv 1)) (blkOk_by (own := [("_law_lesser", 3), ("_law_parting", 4)]) (N := nRig) (sc := defScope sRig) (by decide +kernel))
          (fun _ _ _ _ _ => by exact (pg_tup (by rfl) (pgs_cons (pg_name (i := 3) nd rfl (Or.inl rfl)) (pgs_cons (pg_name (i := 4) nd rfl (Or.inl rfl)) pgs_nil)))) (fun _ _ _ _ _ => by exact pts_nil) (fun _ _ _ _ _ => by exact (pe_call GA hrA (by rfl) mA kA bA .nil pass0 (pa_cons (pe_call GB hrB (by rfl) mB kB bB .nil pass0 (pa_cons (pv 0) (pa_cons (pv 4) pa_nil))) (pa_cons (pv 3) pa_nil))))) pa_nil)))))))), ?_⟩
    have w0 := gd.pos
    refine ⟨_, rfl, a, wb, rfl, hW, gd, wl, fun l as ks H1 s1 nl hl has hks => ?_⟩
    refine ⟨_, rfl, a, wb, rfl, hW.tups (sTups s1), gd, wl, hT.same s1, hU.same s1, ne, fun l2 as2 ks2 H2 st nl2 hl2 has2 hks2 => ?_⟩
    obtain rfl := hks2.uniq hks
    have les : ∀ p ∈ ks2, LessP wb p := fun p hp => (lesF_mem gd.bnd).mp (hks2.perm.mem_iff.mp hp)
    have few : ks2.length < 64 := by rw [hks2.perm.length_eq]; exact lesF_few gd wl
    have asl := Paired.length has
    have asl2 := Paired.length has2
    have t1 := hT.same s1
    have u1 : LamAt H1 U lesPos lesQ := hU.same s1
    have hl' := st.frz t1 u1 hl fun ps z => by cases z
    have has' := Paired.mapP has fun _ _ z => PrtAt.tups (st.tups t1 u1) (fun _ _ y => st.numT t1 u1 y) z
    have k2 : StepK T U lesPos lesQ H H2 := ((StepK.refl hT hU).same s1).trans st
    have A1 : AlkD H2 7 (.ref l2) (.ref l) := .inr ⟨l2, l, _, _, rfl, rfl, .inl ⟨hl2, hl'⟩, by rw [List.length_map]; omega, prt_alike gd wl les has2 has'⟩
    refine ⟨_, rfl, _, rfl, _, _, rfl, A1, fun H3 s3 => ⟨_, rfl, ?_⟩⟩
    refine iteF ?_
    clear A1
    have k3 := k2.same s3
    have hl3 := s3 _ _ hl'
    have has3 := Paired.mapP has' fun _ _ z => PrtAt.same s3 z
    have hl23 := s3 _ _ hl2
    have lne : l ≠ l2 := fun z => by
      rw [z, nl2] at hl
      cases hl
    have nH2 : H l2 = none := s1.free nl2
    refine ⟨_, rfl, .inl ⟨rfl, _, SqL.of hl23⟩, l2, _, rfl, rfl, hl23, ?_⟩
    have k4 : StepK T U lesPos lesQ H (upd H3 l2 (.lst [])) := k3.lst nH2 hl23
    have hl4 : (upd H3 l2 (.lst [])) l = some (.lst (as.map V.ref)) := by rw [upd_ne lne]; exact hl3
    have has4 := Paired.mapP has3 fun _ _ z => PrtAt.up (o' := .lst []) z hl23
    have hW4 := hW.tups (k4.tups hT hU)
    generalize (upd H3 l2 (.lst [])) = H4 at k4 hl4 has4 hW4 ⊢
    refine ⟨_, rfl, l, rfl, ⟨_, SqL.of hl4⟩, fun D nD => ?_⟩
    refine lc_list (K := K) (a := l) (xs := as.map V.ref) (fun c H5 => Same H4 H5 ∧ H5 D = some (.lst (List.replicate c (V.bl true)))) ⟨same_new nD, upd_same⟩ (fun c H5 _ ⟨s5, _⟩ => SqL.of (s5 _ _ hl4)) ?_ ?_
    · rintro c y H5 hyc ⟨s5, hD⟩
      rw [List.getElem?_map] at hyc
      obtain ⟨r, er, rfl⟩ := Option.map_eq_some_iff.mp hyc
      have cl : c < as.length := (List.getElem?_eq_some_iff.mp er).1
      obtain ⟨p, ep, hr4⟩ := paired_get has4 er
      obtain ⟨x, y, h1, h2, h3⟩ := PrtAt.same s5 hr4
      have lp := les p (List.mem_of_getElem? ep)
      have pl := lp.len w0
      have tp := partsL_top lp.mem
      refine ⟨r, _, rfl, SqT.of h1, rfl, _, _, rfl, _, _, rfl, rfl, rfl, ?_⟩
      dsimp only [tYes]
      rw [if_pos rfl]
      refine ⟨_, rfl, _, rfl, a, y, wb, p, rfl, hW4.tups (sTups s5), h3, pl, gd.bnd, ⟨_, partsL_dense lp.mem, by omega⟩, w0, by omega, (fun h hd e => by have := gd.pegs h hd e; omega), fun q H6 s6 hq => ?_⟩
      refine ⟨_, rfl, _, _, rfl, (Alk.web hq (h2.tups (sTups s6)) (by rw [byP_len]; omega) fun i hd e => by have := (lp.good gd).pegs i hd e; omega).toD.mono (by decide), fun H7 s7 => ?_⟩
      have s67 := s6.trans s7
      refine ⟨_, s67 _ _ hD, (by rw [List.length_replicate, sizeLine_eq]; omega), same_upd (s5.trans s67) nD, (by rw [upd_same, ← List.replicate_succ'])⟩
    · rintro H5 ⟨s5, hD⟩
      refine ⟨D, List.replicate (as.map V.ref).length true, rfl, SqL.of (by rw [hD, List.map_replicate]), ?_⟩
      rw [all_rep]
      exact k H5 (k4.same s5)
theorem ok_law {f : Addr} {fd : FuncData} {tabs : List (Addr × Addr)} {cc cd T U : Addr} (hT : (cc, T) ∈ tabs) (hU : (cd, U) ∈ tabs) (ne : T ≠ U) (F : Fun K "law" "law" sLaw f fd) (G : Dr P w K mg base) (mall : mg "all" = none) (CX : FnAt P w K mg base 1 "_law_box" ["_law_script", "_law_k"] (spBox K)) (CS : FnAt P w K mg base 6 "_law_symmetrical" ["_law_box_here"] spSym)
    (CR : FnAt P w K mg base 8 "_law_right" ["_law_web_here"] (spRig T U)) : FnOk P w K mg base CX0 9 f fd ["_law_script"] (spLaw K tabs) := by
  obtain ⟨fX, fdX, GX, bX, mX, kX⟩ := CX
  obtain ⟨fS, fdS, GS, bS, mS, kS⟩ := CS
  obtain ⟨fR, fdR, GR, bR, mR, kR⟩ := CR
  refine F.ok scLaw (fun vs H Q E h => ?_) (fun cdv A outer s H vs Q E hr h => ?_)
  · obtain ⟨a, ns, rfl, _⟩ := h
    rfl
  · obtain ⟨a, ns, rfl, hS, hlen, htb, k⟩ := h
    have nd := scLaw.nd
    have tb0 : TblAt H T := TblAt.zero (htb _ hT)
    have lb0 : LamAt H U lesPos lesQ := LamAt.zero (htb _ hU)
    have hrX := hr.mono (show 1 ≤ 8 by decide)
    have hrS := hr.mono (show 6 ≤ 8 by decide)
    have hrR := hr
    refine ⟨_, (pss_cons (ps_setLc (i := 1) (own := [("_law_k", 2)]) (g := (gName 2)) (tt := tYes) (te := (tCall spSym [] E0 (tCons (tCall (spBox K) [] E0 (tCons (tVar 0) (tCons (tVar 2) tNil))) tNil))) (by rfl) nd rfl rfl (sw_true rfl rfl rfl (by decide +kernel)) (pi_range1 (by rfl) G.mrange (pa_cons (pe_op op_add pe_int (pe_callB call_len_seq (by rfl) G.mlen PySem.boot_len (pa_cons (pe_slice sl_list (pv 0) po_none (po_some pe_int)) pa_nil))) pa_nil)) (blkOk_by (own := [("_law_k", 2)]) (N := nLaw) (sc := defScope sLaw) (by decide +kernel))
            (fun _ _ _ _ _ => by exact (pg_name (i := 2) nd rfl (Or.inl rfl))) (fun _ _ _ _ _ => by exact pts_nil) (fun _ _ _ _ _ => by exact (pe_call GS hrS (by rfl) mS kS bS .nil pass0 (pa_cons (pe_call GX hrX (by rfl) mX kX bX .nil pass0 (pa_cons (pv 0) (pa_cons (pv 2) pa_nil))) pa_nil))))
      (pss_one (ps_ret (pe_callB (cr_all rfl) (by rfl) mall ballQ (pa_cons (pe_lc (own := [("_law_web_here", 3)]) (g := (gName 3)) (tt := tYes) (te := (tCall (spRig T U) [] E0 (tCons (tVar 3) tNil)))
          (by rfl) nd (pi_list (pe_op op_cat (pv 1) (pe_slice sl_list (pv 1) po_none (po_some pe_int)))) (blkOk_by (own := [("_law_web_here", 3)]) (N := nLaw) (sc := defScope sLaw) (by decide +kernel))
          (fun _ _ _ _ _ => by exact (pg_name (i := 3) nd rfl (Or.inl rfl))) (fun _ _ _ _ _ => by exact pts_nil) (fun _ _ _ _ _ => by exact (pe_call GR hrR (by rfl) mR kR bR .nil pass0 (pa_cons (pv 3) pa_nil)))) pa_nil))))), ?_⟩
    refine ⟨_, rfl, _, rfl, a, _, rfl, hS, fun l0 nl0 => ?_⟩
    have s0 := same_new (o := .lst (cutV (ns.map V.int) none (some 2))) nl0
    have cl : (cutV (ns.map V.int) none (some 2)).length ≤ 63 := Nat.le_trans (cutV_length _ _ _) (by rw [List.length_map]; exact hlen)
    have e0 : (upd H l0 (.lst (cutV (ns.map V.int) none (some 2)))) l0 = some (.lst (cutV (ns.map V.int) none (some 2))) := upd_same
    generalize (upd H l0 (.lst (cutV (ns.map V.int) none (some 2)))) = H0 at s0 e0 ⊢
    refine ⟨l0, _, rfl, .inl (SqL.of e0), _, _, rfl, rfl, _, rfl, (by omega), (by omega), fun L nL => ?_⟩
    refine lc_range (lo := 0) (n := _) (fun c H1 => Same H0 H1 ∧ ∃ as : List Addr, H1 L = some (.lst (as.map V.ref)) ∧ (∀ x ∈ as, AskAt H1 x) ∧ as.length = c) ⟨same_new nL, [], upd_same, (fun x hx => nomatch hx), rfl⟩ ?_ ?_
    · rintro c H1 hc ⟨s1, as, hL1, hA1, al⟩
      have hi' : (c : Int) < 64 := by omega
      refine ⟨rfl, ?_⟩
      dsimp only [tYes]
      rw [if_pos rfl]
      refine ⟨_, rfl, _, rfl, a, ns, _, rfl, (s0.trans s1).seq hS, by omega, by omega, fun p H2 np s2 hb2 => ?_⟩
      refine ⟨p, rfl, hb2, fun g wb H3 ng s3 hW gd wl => ?_⟩
      have nH : H0 p = none := s1.free np
      have nLp : L ≠ p := fun z => by rw [← z, hL1] at np; cases np
      have q2 := s1.trans s2
      have s03 : Same H0 H3 := fun b o e => s3.keep b o (ne_of_none e nH) (q2 _ _ e)
      have hL3 := s3.keep L _ nLp (s2 _ _ hL1)
      have t13 := (sTups s2).trans (s3.tups hb2)
      have tL := tups_lst (o := .lst (as.map V.ref ++ [V.ref g])) hL3
      refine ⟨_, hL3, (by rw [List.length_map, al, sizeLine_eq]; omega), same_upd s03 nL, as ++ [g], (by rw [List.map_append]; exact upd_same), fun x hx => ?_, (by rw [List.length_append, al]; rfl)⟩
      rcases List.mem_append.mp hx with h | h
      · exact (hA1 x h).tups (t13.trans tL)
      · rw [List.mem_singleton.mp h]
        exact AskAt.tups tL ⟨wb, hW, gd, wl⟩
    · rintro H1 ⟨s1, as, hL1, hA1, al⟩
      have asl : as.length ≤ 64 := by omega
      refine ⟨_, rfl, _, rfl, _, rfl, L, _, rfl, SqL.of hL1, fun l1 nl1 => ?_⟩
      have q1 := same_new (o := .lst (cutV (as.map V.ref) none (some 1))) nl1
      have e1 : (upd H1 l1 (.lst (cutV (as.map V.ref) none (some 1)))) l1 = some (.lst (cutV (as.map V.ref) none (some 1))) := upd_same
      rw [cutV_map] at q1 e1 ⊢
      generalize (upd H1 l1 (.lst ((cutL as none (some 1)).map V.ref))) = H2 at q1 e1 ⊢
      have cl2 : (cutL as none (some 1)).length ≤ 64 := Nat.le_trans (cutL_len _ _ _) asl
      refine ⟨L, l1, _, _, rfl, rfl, q1 _ _ hL1, e1, (by rw [List.length_map, List.length_map, sizeLine_eq]; omega), fun l2 nl2 => ?_⟩
      have q2 := q1.trans (same_new (o := .lst (as.map V.ref ++ (cutL as none (some 1)).map V.ref)) nl2)
      have e2 : (upd H2 l2 (.lst (as.map V.ref ++ (cutL as none (some 1)).map V.ref))) l2 = some (.lst (as.map V.ref ++ (cutL as none (some 1)).map V.ref)) := upd_same
      generalize (upd H2 l2 (.lst (as.map V.ref ++ (cutL as none (some 1)).map V.ref))) = H3 at q2 e2 ⊢
      rw [← List.map_append] at e2
      have hA3 : ∀ x ∈ as ++ cutL as none (some 1), AskAt H3 x := fun x hx => by
        rcases List.mem_append.mp hx with h | h
        · exact (hA1 x h).tups (sTups q2)
        · exact (hA1 x (cutL_mem h)).tups (sTups q2)
      have zl : (as ++ cutL as none (some 1)).length ≤ 400 := by rw [List.length_append]; omega
      generalize (as ++ cutL as none (some 1)) = zs at e2 hA3 zl
      have s03 := (s0.trans s1).trans q2
      have tb3 : TblAt H3 T := tb0.same s03
      have lb3 : LamAt H3 U lesPos lesQ := lb0.same s03
      refine ⟨l2, rfl, ⟨_, SqL.of e2⟩, fun D nD => ?_⟩
      refine lc_list (K := K) (a := l2) (xs := zs.map V.ref) (fun c H4 => StepK T U lesPos lesQ H3 H4 ∧ H4 D = some (.lst (List.replicate c (V.bl true)))) ⟨(StepK.refl tb3 lb3).same (same_new nD), upd_same⟩ (fun c H4 _ ⟨s4, _⟩ => SqL.of (s4.frz tb3 lb3 e2 fun ps z => by cases z)) ?_ ?_
      · rintro c y H4 hyc ⟨s4, hD⟩
        rw [List.getElem?_map] at hyc
        obtain ⟨t, et, rfl⟩ := Option.map_eq_some_iff.mp hyc
        have cll : c < zs.length := (List.getElem?_eq_some_iff.mp et).1
        have hA4 := (hA3 t (List.mem_of_getElem? et)).tups (s4.tups tb3 lb3)
        refine ⟨rfl, ?_⟩
        dsimp only [tYes]
        rw [if_pos rfl]
        refine ⟨_, rfl, t, rfl, hA4, s4.tbl, s4.lam, ne, fun H5 s5 => ?_⟩
        have hD5 := s5.frz s4.tbl s4.lam hD fun ps z => by cases z
        refine ⟨_, hD5, (by rw [List.length_replicate, sizeLine_eq]; omega), (s4.trans s5).lst nD hD5, (by rw [upd_same, ← List.replicate_succ'])⟩
      · rintro H4 ⟨s4, hD⟩
        refine ⟨D, List.replicate (zs.map V.ref).length true, rfl, SqL.of (by rw [hD, List.map_replicate]), ?_⟩
        rw [all_rep]
        exact k H4
end
end NH
set_option Elab.async false
set_option linter.all false
set_option maxRecDepth 100000
set_option maxHeartbeats 4000000
namespace NH
open PySem L2
theorem all_mk {l : PySem.W.OpenLaw} {w : World} {K : PySem.W.Frag} {h : Heap} {mg : Str → Option Value} {fa : Addr} (X : K.In h) (G : h.Ns mainGlobals mg) (hfa : mg "law" = some (.ref fa))
    {fDbox : Addr} {ocDbox kVDbox dcDbox pmDbox cdDbox ctDbox : Value} {odDbox anDbox : Option Addr} {slDbox : Array (Option Value)}
    {fDtake : Addr} {ocDtake kVDtake dcDtake pmDtake cdDtake ctDtake : Value} {odDtake anDtake : Option Addr} {slDtake : Array (Option Value)}
    {fDshuf : Addr} {ocDshuf kVDshuf dcDshuf pmDshuf cdDshuf ctDshuf : Value} {odDshuf anDshuf : Option Addr} {slDshuf : Array (Option Value)}
    {fDties : Addr} {ocDties kVDties dcDties pmDties cdDties ctDties : Value} {odDties anDties : Option Addr} {slDties : Array (Option Value)}
    {fDmarks : Addr} {ocDmarks kVDmarks dcDmarks pmDmarks cdDmarks ctDmarks : Value} {odDmarks anDmarks : Option Addr} {slDmarks : Array (Option Value)}
    {fDplain : Addr} {ocDplain kVDplain dcDplain pmDplain cdDplain ctDplain : Value} {odDplain anDplain : Option Addr} {slDplain : Array (Option Value)}
    {fDren : Addr} {ocDren kVDren dcDren pmDren cdDren ctDren : Value} {odDren anDren : Option Addr} {slDren : Array (Option Value)}
    {fDturn : Addr} {ocDturn kVDturn dcDturn pmDturn cdDturn ctDturn : Value} {odDturn anDturn : Option Addr} {slDturn : Array (Option Value)}
    {fDcov : Addr} {ocDcov kVDcov dcDcov pmDcov cdDcov ctDcov : Value} {odDcov anDcov : Option Addr} {slDcov : Array (Option Value)}
    {fDweb : Addr} {ocDweb kVDweb dcDweb pmDweb cdDweb ctDweb : Value} {odDweb anDweb : Option Addr} {slDweb : Array (Option Value)}
    {fDalike : Addr} {ocDalike kVDalike dcDalike pmDalike cdDalike ctDalike : Value} {odDalike anDalike : Option Addr} {slDalike : Array (Option Value)}
    {fDagr : Addr} {ocDagr kVDagr dcDagr pmDagr cdDagr ctDagr : Value} {odDagr anDagr : Option Addr} {slDagr : Array (Option Value)}
    {fDlea : Addr} {ocDlea kVDlea dcDlea pmDlea cdDlea ctDlea : Value} {odDlea anDlea : Option Addr} {slDlea : Array (Option Value)}
    {fDbyp : Addr} {ocDbyp kVDbyp dcDbyp pmDbyp cdDbyp ctDbyp : Value} {odDbyp anDbyp : Option Addr} {slDbyp : Array (Option Value)}
    {fDprs : Addr} {ocDprs kVDprs dcDprs pmDprs cdDprs ctDprs : Value} {odDprs anDprs : Option Addr} {slDprs : Array (Option Value)}
    {fDles : Addr} {ocDles kVDles dcDles pmDles cdDles ctDles : Value} {odDles anDles : Option Addr} {slDles : Array (Option Value)}
    {fDisl : Addr} {ocDisl kVDisl dcDisl pmDisl cdDisl ctDisl : Value} {odDisl anDisl : Option Addr} {slDisl : Array (Option Value)}
    {fDlpr : Addr} {ocDlpr kVDlpr dcDlpr pmDlpr cdDlpr ctDlpr : Value} {odDlpr anDlpr : Option Addr} {slDlpr : Array (Option Value)}
    {fDlby : Addr} {ocDlby kVDlby dcDlby pmDlby cdDlby ctDlby : Value} {odDlby anDlby : Option Addr} {slDlby : Array (Option Value)}
    {fDdue : Addr} {ocDdue kVDdue dcDdue pmDdue cdDdue ctDdue : Value} {odDdue anDdue : Option Addr} {slDdue : Array (Option Value)}
    {fDsym : Addr} {ocDsym kVDsym dcDsym pmDsym cdDsym ctDsym : Value} {odDsym anDsym : Option Addr} {slDsym : Array (Option Value)}
    {fDrig : Addr} {ocDrig kVDrig dcDrig pmDrig cdDrig ctDrig : Value} {odDrig anDrig : Option Addr} {slDrig : Array (Option Value)}
    {fDlaw : Addr} {ocDlaw kVDlaw dcDlaw pmDlaw cdDlaw ctDlaw : Value} {odDlaw anDlaw : Option Addr} {slDlaw : Array (Option Value)}
    (z_len : PySem.W.nsIn K mainGlobals "len" = some none)
    (z_int : PySem.W.nsIn K mainGlobals "int" = some none)
    (z_range : PySem.W.nsIn K mainGlobals "range" = some none)
    (z_tuple : PySem.W.nsIn K mainGlobals "tuple" = some none)
    (z_list : PySem.W.nsIn K mainGlobals "list" = some none)
    (z_zip : PySem.W.nsIn K mainGlobals "zip" = some none)
    (z_enumerate : PySem.W.nsIn K mainGlobals "enumerate" = some none)
    (z_min : PySem.W.nsIn K mainGlobals "min" = some none)
    (z_max : PySem.W.nsIn K mainGlobals "max" = some none)
    (z_any : PySem.W.nsIn K mainGlobals "any" = some none)
    (z_all : PySem.W.nsIn K mainGlobals "all" = some none)
    (z_isinstance : PySem.W.nsIn K mainGlobals "isinstance" = some none)
    (z_bool : PySem.W.nsIn K mainGlobals "bool" = some none)
    (z_sorted : PySem.W.nsIn K mainGlobals "sorted" = some none)
    (aDbox : PySem.W.nsIn K mainGlobals "_law_box" = some (some (.ref fDbox)))
    (lDbox : K.lookup fDbox = some ⟨ocDbox, odDbox, .func (PySem.W.fnOf "_law_box" "_law_box" (defArgs sBox) (defBody sBox) (defScope sBox) .none kVDbox dcDbox pmDbox anDbox cdDbox ctDbox), slDbox⟩)
    (dDbox : PySem.W.codeIn K cdDbox "_law_box" = true)
    (kDbox : PySem.W.keepIn K (.ref fDbox) = true)
    (aDtake : PySem.W.nsIn K mainGlobals "_law_take" = some (some (.ref fDtake)))
    (lDtake : K.lookup fDtake = some ⟨ocDtake, odDtake, .func (PySem.W.fnOf "_law_take" "_law_take" (defArgs sTake) (defBody sTake) (defScope sTake) .none kVDtake dcDtake pmDtake anDtake cdDtake ctDtake), slDtake⟩)
    (dDtake : PySem.W.codeIn K cdDtake "_law_take" = true)
    (kDtake : PySem.W.keepIn K (.ref fDtake) = true)
    (aDshuf : PySem.W.nsIn K mainGlobals "_law_shuffled" = some (some (.ref fDshuf)))
    (lDshuf : K.lookup fDshuf = some ⟨ocDshuf, odDshuf, .func (PySem.W.fnOf "_law_shuffled" "_law_shuffled" (defArgs sShuf) (defBody sShuf) (defScope sShuf) .none kVDshuf dcDshuf pmDshuf anDshuf cdDshuf ctDshuf), slDshuf⟩)
    (dDshuf : PySem.W.codeIn K cdDshuf "_law_shuffled" = true)
    (kDshuf : PySem.W.keepIn K (.ref fDshuf) = true)
    (aDties : PySem.W.nsIn K mainGlobals "_law_ties" = some (some (.ref fDties)))
    (lDties : K.lookup fDties = some ⟨ocDties, odDties, .func (PySem.W.fnOf "_law_ties" "_law_ties" (defArgs sTies) (defBody sTies) (defScope sTies) .none kVDties dcDties pmDties anDties cdDties ctDties), slDties⟩)
    (dDties : PySem.W.codeIn K cdDties "_law_ties" = true)
    (kDties : PySem.W.keepIn K (.ref fDties) = true)
    (aDmarks : PySem.W.nsIn K mainGlobals "_law_marks" = some (some (.ref fDmarks)))
    (lDmarks : K.lookup fDmarks = some ⟨ocDmarks, odDmarks, .func (PySem.W.fnOf "_law_marks" "_law_marks" (defArgs sMarks) (defBody sMarks) (defScope sMarks) .none kVDmarks dcDmarks pmDmarks anDmarks cdDmarks ctDmarks), slDmarks⟩)
    (dDmarks : PySem.W.codeIn K cdDmarks "_law_marks" = true)
    (kDmarks : PySem.W.keepIn K (.ref fDmarks) = true)
    (aDplain : PySem.W.nsIn K mainGlobals "_law_plain_web" = some (some (.ref fDplain)))
    (lDplain : K.lookup fDplain = some ⟨ocDplain, odDplain, .func (PySem.W.fnOf "_law_plain_web" "_law_plain_web" (defArgs sPlain) (defBody sPlain) (defScope sPlain) .none kVDplain dcDplain pmDplain anDplain cdDplain ctDplain), slDplain⟩)
    (dDplain : PySem.W.codeIn K cdDplain "_law_plain_web" = true)
    (kDplain : PySem.W.keepIn K (.ref fDplain) = true)
    (aDren : PySem.W.nsIn K mainGlobals "_law_renamed" = some (some (.ref fDren)))
    (lDren : K.lookup fDren = some ⟨ocDren, odDren, .func (PySem.W.fnOf "_law_renamed" "_law_renamed" (defArgs sRen) (defBody sRen) (defScope sRen) .none kVDren dcDren pmDren anDren cdDren ctDren), slDren⟩)
    (dDren : PySem.W.codeIn K cdDren "_law_renamed" = true)
    (kDren : PySem.W.keepIn K (.ref fDren) = true)
    (aDturn : PySem.W.nsIn K mainGlobals "_law_turnings" = some (some (.ref fDturn)))
    (lDturn : K.lookup fDturn = some ⟨ocDturn, odDturn, .func (PySem.W.fnOf "_law_turnings" "_law_turnings" (defArgs sTurn) (defBody sTurn) (defScope sTurn) .none kVDturn dcDturn pmDturn anDturn cdDturn ctDturn), slDturn⟩)
    (dDturn : PySem.W.codeIn K cdDturn "_law_turnings" = true)
    (kDturn : PySem.W.keepIn K (.ref fDturn) = true)
    (aDcov : PySem.W.nsIn K mainGlobals "_law_cover" = some (some (.ref fDcov)))
    (lDcov : K.lookup fDcov = some ⟨ocDcov, odDcov, .func (PySem.W.fnOf "_law_cover" "_law_cover" (defArgs sCov) (defBody sCov) (defScope sCov) .none kVDcov dcDcov pmDcov anDcov cdDcov ctDcov), slDcov⟩)
    (dDcov : PySem.W.codeIn K cdDcov "_law_cover" = true)
    (kDcov : PySem.W.keepIn K (.ref fDcov) = true)
    (aDweb : PySem.W.nsIn K mainGlobals "_law_web" = some (some (.ref fDweb)))
    (lDweb : K.lookup fDweb = some ⟨ocDweb, odDweb, .func (PySem.W.fnOf "_law_web" "_law_web" (defArgs sWeb) (defBody sWeb) (defScope sWeb) .none kVDweb dcDweb pmDweb anDweb cdDweb ctDweb), slDweb⟩)
    (dDweb : PySem.W.codeIn K cdDweb "_law_web" = true)
    (kDweb : PySem.W.keepIn K (.ref fDweb) = true)
    (aDalike : PySem.W.nsIn K mainGlobals "_law_alike" = some (some (.ref fDalike)))
    (lDalike : K.lookup fDalike = some ⟨ocDalike, odDalike, .func (PySem.W.fnOf "_law_alike" "_law_alike" (defArgs sAlike) (defBody sAlike) (defScope sAlike) .none kVDalike dcDalike pmDalike anDalike cdDalike ctDalike), slDalike⟩)
    (dDalike : PySem.W.codeIn K cdDalike "_law_alike" = true)
    (kDalike : PySem.W.keepIn K (.ref fDalike) = true)
    (aDagr : PySem.W.nsIn K mainGlobals "agrees" = some (some (.ref fDagr)))
    (lDagr : K.lookup fDagr = some ⟨ocDagr, odDagr, .func (PySem.W.fnOf "agrees" "agrees" (defArgs sAgr) (defBody sAgr) (defScope sAgr) .none kVDagr dcDagr pmDagr anDagr cdDagr ctDagr), slDagr⟩)
    (dDagr : PySem.W.codeIn K cdDagr "agrees" = true)
    (kDagr : PySem.W.keepIn K (.ref fDagr) = true)
    (aDlea : PySem.W.nsIn K mainGlobals "is_leading" = some (some (.ref fDlea)))
    (lDlea : K.lookup fDlea = some ⟨ocDlea, odDlea, .func (PySem.W.fnOf "is_leading" "is_leading" (defArgs sLea) (defBody sLea) (defScope sLea) .none kVDlea dcDlea pmDlea anDlea cdDlea ctDlea), slDlea⟩)
    (dDlea : PySem.W.codeIn K cdDlea "is_leading" = true)
    (kDlea : PySem.W.keepIn K (.ref fDlea) = true)
    (aDbyp : PySem.W.nsIn K mainGlobals "by_parting" = some (some (.ref fDbyp)))
    (lDbyp : K.lookup fDbyp = some ⟨ocDbyp, odDbyp, .func (PySem.W.fnOf "by_parting" "by_parting" (defArgs sByp) (defBody sByp) (defScope sByp) .none kVDbyp dcDbyp pmDbyp anDbyp cdDbyp ctDbyp), slDbyp⟩)
    (dDbyp : PySem.W.codeIn K cdDbyp "by_parting" = true)
    (kDbyp : PySem.W.keepIn K (.ref fDbyp) = true)
    (aDprs : PySem.W.nsIn K mainGlobals "partings" = some (some (.ref fDprs)))
    (lDprs : K.lookup fDprs = some ⟨ocDprs, odDprs, .func (PySem.W.fnOf "partings" "partings" (defArgs sPrs) (defBody sPrs) (defScope sPrs) .none kVDprs dcDprs pmDprs anDprs cdDprs ctDprs), slDprs⟩)
    (dDprs : PySem.W.codeIn K cdDprs "partings" = true)
    (kDprs : PySem.W.keepIn K (.ref fDprs) = true)
    (aDles : PySem.W.nsIn K mainGlobals "lesser_webs" = some (some (.ref fDles)))
    (lDles : K.lookup fDles = some ⟨ocDles, odDles, .func (PySem.W.fnOf "lesser_webs" "lesser_webs" (defArgs sLes) (defBody sLes) (defScope sLes) .none kVDles dcDles pmDles anDles cdDles ctDles), slDles⟩)
    (dDles : PySem.W.codeIn K cdDles "lesser_webs" = true)
    (kDles : PySem.W.keepIn K (.ref fDles) = true)
    (aDisl : PySem.W.nsIn K mainGlobals "_law_is_leading" = some (some (.ref fDisl)))
    (lDisl : K.lookup fDisl = some ⟨ocDisl, odDisl, .func (PySem.W.fnOf "_law_is_leading" "_law_is_leading" (defArgs sIsl) (defBody sIsl) (defScope sIsl) .none kVDisl dcDisl pmDisl anDisl cdDisl ctDisl), slDisl⟩)
    (dDisl : PySem.W.codeIn K cdDisl "_law_is_leading" = true)
    (kDisl : PySem.W.keepIn K (.ref fDisl) = true)
    (aDlpr : PySem.W.nsIn K mainGlobals "_law_partings" = some (some (.ref fDlpr)))
    (lDlpr : K.lookup fDlpr = some ⟨ocDlpr, odDlpr, .func (PySem.W.fnOf "_law_partings" "_law_partings" (defArgs sLpr) (defBody sLpr) (defScope sLpr) .none kVDlpr dcDlpr pmDlpr anDlpr cdDlpr ctDlpr), slDlpr⟩)
    (dDlpr : PySem.W.codeIn K cdDlpr "_law_partings" = true)
    (kDlpr : PySem.W.keepIn K (.ref fDlpr) = true)
    (aDlby : PySem.W.nsIn K mainGlobals "_law_by" = some (some (.ref fDlby)))
    (lDlby : K.lookup fDlby = some ⟨ocDlby, odDlby, .func (PySem.W.fnOf "_law_by" "_law_by" (defArgs sLby) (defBody sLby) (defScope sLby) .none kVDlby dcDlby pmDlby anDlby cdDlby ctDlby), slDlby⟩)
    (dDlby : PySem.W.codeIn K cdDlby "_law_by" = true)
    (kDlby : PySem.W.keepIn K (.ref fDlby) = true)
    (aDdue : PySem.W.nsIn K mainGlobals "_law_due" = some (some (.ref fDdue)))
    (lDdue : K.lookup fDdue = some ⟨ocDdue, odDdue, .func (PySem.W.fnOf "_law_due" "_law_due" (defArgs sDue) (defBody sDue) (defScope sDue) .none kVDdue dcDdue pmDdue anDdue cdDdue ctDdue), slDdue⟩)
    (dDdue : PySem.W.codeIn K cdDdue "_law_due" = true)
    (kDdue : PySem.W.keepIn K (.ref fDdue) = true)
    (aDsym : PySem.W.nsIn K mainGlobals "_law_symmetrical" = some (some (.ref fDsym)))
    (lDsym : K.lookup fDsym = some ⟨ocDsym, odDsym, .func (PySem.W.fnOf "_law_symmetrical" "_law_symmetrical" (defArgs sSym) (defBody sSym) (defScope sSym) .none kVDsym dcDsym pmDsym anDsym cdDsym ctDsym), slDsym⟩)
    (dDsym : PySem.W.codeIn K cdDsym "_law_symmetrical" = true)
    (kDsym : PySem.W.keepIn K (.ref fDsym) = true)
    (aDrig : PySem.W.nsIn K mainGlobals "_law_right" = some (some (.ref fDrig)))
    (lDrig : K.lookup fDrig = some ⟨ocDrig, odDrig, .func (PySem.W.fnOf "_law_right" "_law_right" (defArgs sRig) (defBody sRig) (defScope sRig) .none kVDrig dcDrig pmDrig anDrig cdDrig ctDrig), slDrig⟩)
    (dDrig : PySem.W.codeIn K cdDrig "_law_right" = true)
    (kDrig : PySem.W.keepIn K (.ref fDrig) = true)
    (aDlaw : PySem.W.nsIn K mainGlobals "law" = some (some (.ref fDlaw)))
    (lDlaw : K.lookup fDlaw = some ⟨ocDlaw, odDlaw, .func (PySem.W.fnOf "law" "law" (defArgs sLaw) (defBody sLaw) (defScope sLaw) .none kVDlaw dcDlaw pmDlaw anDlaw cdDlaw ctDlaw), slDlaw⟩)
    (dDlaw : PySem.W.codeIn K cdDlaw "law" = true)
    (kDlaw : PySem.W.keepIn K (.ref fDlaw) = true) {cT T cU U : Addr} (ht : PySem.W.tabIn K "is_leading" = some (cT, T)) (htU : PySem.W.tabIn K "lesser_webs" = some (cU, U)) (hne : T ≠ U) :
    ∃ fd : FuncData, (∀ (s : Shared) (v : Value), BindsTo s fd ⟨[v], []⟩ [("_law_script", v)]) ∧ ∀ base : Heap, K.In base → base.Ns mainGlobals mg → (∀ t ∈ ([("is_leading" : Str), ("lesser_webs" : Str)].filterMap (PySem.W.tabIn K)), PySem.W.CodeHd base t.1 t.2) → BltMod base mg → FnOk l.prog w K mg base CX0 9 fa fd ["_law_script"] (spLaw K ([("is_leading" : Str), ("lesser_webs" : Str)].filterMap (PySem.W.tabIn K))) := by
  have e := hfa.symm.trans (PySem.W.mg_of X G aDlaw)
  cases e
  have FDbox := fun_mk (st := sBox) lDbox dDbox kDbox
  have bDbox := FDbox.binds (ps := ["_law_script", "_law_k"]) fun _ _ _ _ _ _ us hl => match us, hl with | [_, _], _ => rfl
  have FDtake := fun_mk (st := sTake) lDtake dDtake kDtake
  have bDtake := FDtake.binds (ps := ["_law_box_here", "_law_wide"]) fun _ _ _ _ _ _ us hl => match us, hl with | [_, _], _ => rfl
  have FDshuf := fun_mk (st := sShuf) lDshuf dDshuf kDshuf
  have bDshuf := FDshuf.binds (ps := ["_law_box_here", "_law_many"]) fun _ _ _ _ _ _ us hl => match us, hl with | [_, _], _ => rfl
  have FDties := fun_mk (st := sTies) lDties dDties kDties
  have bDties := FDties.binds (ps := ["_law_box_here", "_law_many", "_law_room"]) fun _ _ _ _ _ _ us hl => match us, hl with | [_, _, _], _ => rfl
  have FDmarks := fun_mk (st := sMarks) lDmarks dDmarks kDmarks
  have bDmarks := FDmarks.binds (ps := ["_law_box_here", "_law_many"]) fun _ _ _ _ _ _ us hl => match us, hl with | [_, _], _ => rfl
  have FDplain := fun_mk (st := sPlain) lDplain dDplain kDplain
  have bDplain := FDplain.binds (ps := ["_law_box_here", "_law_most", "_law_room"]) fun _ _ _ _ _ _ us hl => match us, hl with | [_, _, _], _ => rfl
  have FDren := fun_mk (st := sRen) lDren dDren kDren
  have bDren := FDren.binds (ps := ["_law_web_here", "_law_row"]) fun _ _ _ _ _ _ us hl => match us, hl with | [_, _], _ => rfl
  have FDturn := fun_mk (st := sTurn) lDturn dDturn kDturn
  have bDturn := FDturn.binds (ps := ["_law_box_here", "_law_web_here", "_law_sheets"]) fun _ _ _ _ _ _ us hl => match us, hl with | [_, _, _], _ => rfl
  have FDcov := fun_mk (st := sCov) lDcov dDcov kDcov
  have bDcov := FDcov.binds (ps := ["_law_box_here", "_law_web_here", "_law_sheets"]) fun _ _ _ _ _ _ us hl => match us, hl with | [_, _, _], _ => rfl
  have FDweb := fun_mk (st := sWeb) lDweb dDweb kDweb
  have bDweb := FDweb.binds (ps := ["_law_box_here", "_law_most", "_law_room"]) fun _ _ _ _ _ _ us hl => match us, hl with | [_, _, _], _ => rfl
  have FDalike := fun_mk (st := sAlike) lDalike dDalike kDalike
  have bDalike := FDalike.binds (ps := ["_law_found", "_law_due_here"]) fun _ _ _ _ _ _ us hl => match us, hl with | [_, _], _ => rfl
  have FDagr := fun_mk (st := sAgr) lDagr dDagr kDagr
  have bDagr := FDagr.binds (ps := ["web", "other", "row", "hand"]) fun _ _ _ _ _ _ us hl => match us, hl with | [_, _, _, _], _ => rfl
  have FDlea := fun_mk (st := sLea) lDlea dDlea kDlea
  have bDlea := FDlea.binds (ps := ["web", "other", "row"]) fun _ _ _ _ _ _ us hl => match us, hl with | [_, _, _], _ => rfl
  have FDbyp := fun_mk (st := sByp) lDbyp dDbyp kDbyp
  have bDbyp := FDbyp.binds (ps := ["web", "parting"]) fun _ _ _ _ _ _ us hl => match us, hl with | [_, _], _ => rfl
  have FDprs := fun_mk (st := sPrs) lDprs dDprs kDprs
  have bDprs := FDprs.binds (ps := ["many"]) fun _ _ _ _ _ _ us hl => match us, hl with | [_], _ => rfl
  have FDles := fun_mk (st := sLes) lDles dDles kDles
  have bDles := FDles.binds (ps := ["web"]) fun _ _ _ _ _ _ us hl => match us, hl with | [_], _ => rfl
  have FDisl := fun_mk (st := sIsl) lDisl dDisl kDisl
  have bDisl := FDisl.binds (ps := ["_law_web_here", "_law_other", "_law_row"]) fun _ _ _ _ _ _ us hl => match us, hl with | [_, _, _], _ => rfl
  have FDlpr := fun_mk (st := sLpr) lDlpr dDlpr kDlpr
  have bDlpr := FDlpr.binds (ps := ["_law_many"]) fun _ _ _ _ _ _ us hl => match us, hl with | [_], _ => rfl
  have FDlby := fun_mk (st := sLby) lDlby dDlby kDlby
  have bDlby := FDlby.binds (ps := ["_law_web_here", "_law_parting"]) fun _ _ _ _ _ _ us hl => match us, hl with | [_, _], _ => rfl
  have FDdue := fun_mk (st := sDue) lDdue dDdue kDdue
  have bDdue := FDdue.binds (ps := ["_law_web_here"]) fun _ _ _ _ _ _ us hl => match us, hl with | [_], _ => rfl
  have FDsym := fun_mk (st := sSym) lDsym dDsym kDsym
  have bDsym := FDsym.binds (ps := ["_law_box_here"]) fun _ _ _ _ _ _ us hl => match us, hl with | [_], _ => rfl
  have FDrig := fun_mk (st := sRig) lDrig dDrig kDrig
  have bDrig := FDrig.binds (ps := ["_law_web_here"]) fun _ _ _ _ _ _ us hl => match us, hl with | [_], _ => rfl
  have FDlaw := fun_mk (st := sLaw) lDlaw dDlaw kDlaw
  have m_len := PySem.W.mg_none_of X G z_len
  have m_int := PySem.W.mg_none_of X G z_int
  have m_range := PySem.W.mg_none_of X G z_range
  have m_tuple := PySem.W.mg_none_of X G z_tuple
  have m_list := PySem.W.mg_none_of X G z_list
  have m_zip := PySem.W.mg_none_of X G z_zip
  have m_enumerate := PySem.W.mg_none_of X G z_enumerate
  have m_min := PySem.W.mg_none_of X G z_min
  have m_max := PySem.W.mg_none_of X G z_max
  have m_any := PySem.W.mg_none_of X G z_any
  have m_all := PySem.W.mg_none_of X G z_all
  have m_isinstance := PySem.W.mg_none_of X G z_isinstance
  have m_bool := PySem.W.mg_none_of X G z_bool
  have m_sorted := PySem.W.mg_none_of X G z_sorted
  have mDbox := PySem.W.mg_of X G aDbox
  have mDtake := PySem.W.mg_of X G aDtake
  have mDshuf := PySem.W.mg_of X G aDshuf
  have mDties := PySem.W.mg_of X G aDties
  have mDmarks := PySem.W.mg_of X G aDmarks
  have mDplain := PySem.W.mg_of X G aDplain
  have mDren := PySem.W.mg_of X G aDren
  have mDturn := PySem.W.mg_of X G aDturn
  have mDcov := PySem.W.mg_of X G aDcov
  have mDweb := PySem.W.mg_of X G aDweb
  have mDalike := PySem.W.mg_of X G aDalike
  have mDagr := PySem.W.mg_of X G aDagr
  have mDlea := PySem.W.mg_of X G aDlea
  have mDbyp := PySem.W.mg_of X G aDbyp
  have mDprs := PySem.W.mg_of X G aDprs
  have mDles := PySem.W.mg_of X G aDles
  have mDisl := PySem.W.mg_of X G aDisl
  have mDlpr := PySem.W.mg_of X G aDlpr
  have mDlby := PySem.W.mg_of X G aDlby
  have mDdue := PySem.W.mg_of X G aDdue
  have mDsym := PySem.W.mg_of X G aDsym
  have mDrig := PySem.W.mg_of X G aDrig
  have mDlaw := PySem.W.mg_of X G aDlaw
  refine ⟨PySem.W.fnOf "law" "law" (defArgs sLaw) (defBody sLaw) (defScope sLaw) .none kVDlaw dcDlaw pmDlaw anDlaw cdDlaw ctDlaw, fun s v => .of_eq rfl, fun base _ _ hCs hBM => ?_⟩
  have Gtake : FnOk l.prog w K mg base CX0 1 fDtake _ ["_law_box_here", "_law_wide"] spTake := ok_take FDtake
  have Ctake : FnAt l.prog w K mg base 1 "_law_take" ["_law_box_here", "_law_wide"] spTake := ⟨_, _, Gtake, bDtake, mDtake, kDtake⟩
  have Gshuf : FnOk l.prog w K mg base CX0 2 fDshuf _ ["_law_box_here", "_law_many"] spShuf := ok_shuf FDshuf Gtake bDtake mDtake kDtake m_range m_list
  have Cshuf : FnAt l.prog w K mg base 2 "_law_shuffled" ["_law_box_here", "_law_many"] spShuf := ⟨_, _, Gshuf, bDshuf, mDshuf, kDshuf⟩
  have DR : Dr l.prog w K mg base := ⟨⟨_, _, Gtake, bDtake, mDtake, kDtake⟩, ⟨_, _, Gshuf, bDshuf, mDshuf, kDshuf⟩, m_range, m_len, m_tuple, m_list, m_zip, m_enumerate, m_min, m_max⟩
  have Gbox : FnOk l.prog w K mg base CX0 1 fDbox _ ["_law_script", "_law_k"] (spBox K) := ok_box FDbox m_len m_int
  have Cbox : FnAt l.prog w K mg base 1 "_law_box" ["_law_script", "_law_k"] (spBox K) := ⟨_, _, Gbox, bDbox, mDbox, kDbox⟩
  have Gmarks : FnOk l.prog w K mg base CX0 2 fDmarks _ ["_law_box_here", "_law_many"] spMarks := ok_marks FDmarks Gtake bDtake mDtake kDtake m_range
  have Cmarks : FnAt l.prog w K mg base 2 "_law_marks" ["_law_box_here", "_law_many"] spMarks := ⟨_, _, Gmarks, bDmarks, mDmarks, kDmarks⟩
  have Gties : FnOk l.prog w K mg base CX0 2 fDties _ ["_law_box_here", "_law_many", "_law_room"] spTies := ok_ties FDties Gtake bDtake mDtake kDtake m_range m_len
  have Cties : FnAt l.prog w K mg base 2 "_law_ties" ["_law_box_here", "_law_many", "_law_room"] spTies := ⟨_, _, Gties, bDties, mDties, kDties⟩
  have Gplain : FnOk l.prog w K mg base CX0 3 fDplain _ ["_law_box_here", "_law_most", "_law_room"] spPlain := ok_plain FDplain ⟨DR, ⟨_, _, Gmarks, bDmarks, mDmarks, kDmarks⟩, ⟨_, _, Gties, bDties, mDties, kDties⟩⟩
  have Cplain : FnAt l.prog w K mg base 3 "_law_plain_web" ["_law_box_here", "_law_most", "_law_room"] spPlain := ⟨_, _, Gplain, bDplain, mDplain, kDplain⟩
  have Gren : FnOk l.prog w K mg base CX0 1 fDren _ ["_law_web_here", "_law_row"] spRen := ok_ren FDren DR
  have Cren : FnAt l.prog w K mg base 1 "_law_renamed" ["_law_web_here", "_law_row"] spRen := ⟨_, _, Gren, bDren, mDren, kDren⟩
  have Gturn : FnOk l.prog w K mg base CX0 3 fDturn _ ["_law_box_here", "_law_web_here", "_law_sheets"] spTurn := ok_turn FDturn DR
  have Cturn : FnAt l.prog w K mg base 3 "_law_turnings" ["_law_box_here", "_law_web_here", "_law_sheets"] spTurn := ⟨_, _, Gturn, bDturn, mDturn, kDturn⟩
  have Gcov : FnOk l.prog w K mg base CX0 4 fDcov _ ["_law_box_here", "_law_web_here", "_law_sheets"] spCover := ok_cov FDcov ⟨DR, ⟨_, _, Gturn, bDturn, mDturn, kDturn⟩, ⟨_, _, Gren, bDren, mDren, kDren⟩⟩
  have Ccov : FnAt l.prog w K mg base 4 "_law_cover" ["_law_box_here", "_law_web_here", "_law_sheets"] spCover := ⟨_, _, Gcov, bDcov, mDcov, kDcov⟩
  have Gweb : FnOk l.prog w K mg base CX0 5 fDweb _ ["_law_box_here", "_law_most", "_law_room"] spPlain := ok_web FDweb ⟨DR, ⟨_, _, Gplain, bDplain, mDplain, kDplain⟩, ⟨_, _, Gcov, bDcov, mDcov, kDcov⟩⟩
  have Cweb : FnAt l.prog w K mg base 5 "_law_web" ["_law_box_here", "_law_most", "_law_room"] spPlain := ⟨_, _, Gweb, bDweb, mDweb, kDweb⟩
  have Galike : FnOk l.prog w K mg base CX0 7 fDalike _ ["_law_found", "_law_due_here"] (spAlikeD 7) := ok_alike FDalike bDalike mDalike kDalike m_isinstance m_list m_tuple m_bool m_len m_all m_zip 7
  have Calike : FnAt l.prog w K mg base 7 "_law_alike" ["_law_found", "_law_due_here"] (spAlikeD 7) := ⟨_, _, Galike, bDalike, mDalike, kDalike⟩
  have Gagr : FnOk l.prog w K mg base CX0 1 fDagr _ ["web", "other", "row", "hand"] spAgrR := ok_agr FDagr DR
  have Cagr : FnAt l.prog w K mg base 1 "agrees" ["web", "other", "row", "hand"] spAgrR := ⟨_, _, Gagr, bDagr, mDagr, kDagr⟩
  have hm : (cT, T) ∈ [("is_leading" : Str), ("lesser_webs" : Str)].filterMap (PySem.W.tabIn K) := List.mem_filterMap.mpr ⟨_, List.mem_cons_self, ht⟩
  have hmU : (cU, U) ∈ [("is_leading" : Str), ("lesser_webs" : Str)].filterMap (PySem.W.tabIn K) := List.mem_filterMap.mpr ⟨_, List.mem_cons_of_mem _ (List.mem_singleton.mpr rfl), htU⟩
  have Glea : FnOk l.prog w K mg base CX0 4 fDlea _ ["web", "other", "row"] (spLeadR T) := ok_lea FDlea (PySem.W.law_code X G ht mDlea (X _ _ lDlea) rfl) (hCs _ hm) hBM m_len m_range m_any m_all Cagr
  have Clea : FnAt l.prog w K mg base 4 "is_leading" ["web", "other", "row"] (spLeadR T) := ⟨_, _, Glea, bDlea, mDlea, kDlea⟩
  have Gbyp : FnOk l.prog w K mg base CX0 1 fDbyp _ ["web", "parting"] spByp := ok_byp FDbyp DR
  have Cbyp : FnAt l.prog w K mg base 1 "by_parting" ["web", "parting"] spByp := ⟨_, _, Gbyp, bDbyp, mDbyp, kDbyp⟩
  have Gprs : FnOk l.prog w K mg base CX0 1 fDprs _ ["many"] spPrs := ok_prs FDprs DR
  have Cprs : FnAt l.prog w K mg base 1 "partings" ["many"] spPrs := ⟨_, _, Gprs, bDprs, mDprs, kDprs⟩
  have Gles : FnOk l.prog w K mg base CX0 5 fDles _ ["web"] (spLes T U lesPos lesQ) := ok_les FDles (PySem.W.law_code X G htU mDles (X _ _ lDles) rfl) (hCs _ hmU) hBM DR m_sorted Cprs Cbyp Clea
  have Cles : FnAt l.prog w K mg base 5 "lesser_webs" ["web"] (spLes T U lesPos lesQ) := ⟨_, _, Gles, bDles, mDles, kDles⟩
  have Gisl : FnOk l.prog w K mg base CX0 1 fDisl _ ["_law_web_here", "_law_other", "_law_row"] spIslR := ok_isl FDisl DR
  have Cisl : FnAt l.prog w K mg base 1 "_law_is_leading" ["_law_web_here", "_law_other", "_law_row"] spIslR := ⟨_, _, Gisl, bDisl, mDisl, kDisl⟩
  have Glpr : FnOk l.prog w K mg base CX0 1 fDlpr _ ["_law_many"] spPrs := ok_lpr FDlpr DR
  have Clpr : FnAt l.prog w K mg base 1 "_law_partings" ["_law_many"] spPrs := ⟨_, _, Glpr, bDlpr, mDlpr, kDlpr⟩
  have Glby : FnOk l.prog w K mg base CX0 1 fDlby _ ["_law_web_here", "_law_parting"] spByp := ok_lby FDlby DR
  have Clby : FnAt l.prog w K mg base 1 "_law_by" ["_law_web_here", "_law_parting"] spByp := ⟨_, _, Glby, bDlby, mDlby, kDlby⟩
  have Gdue : FnOk l.prog w K mg base CX0 2 fDdue _ ["_law_web_here"] spDue := ok_due FDdue DR m_sorted Clpr Clby Cisl
  have Cdue : FnAt l.prog w K mg base 2 "_law_due" ["_law_web_here"] spDue := ⟨_, _, Gdue, bDdue, mDdue, kDdue⟩
  have Gsym : FnOk l.prog w K mg base CX0 6 fDsym _ ["_law_box_here"] spSym := ok_sym FDsym ⟨DR, ⟨_, _, Gplain, bDplain, mDplain, kDplain⟩, ⟨_, _, Gcov, bDcov, mDcov, kDcov⟩⟩ Cweb
  have Csym : FnAt l.prog w K mg base 6 "_law_symmetrical" ["_law_box_here"] spSym := ⟨_, _, Gsym, bDsym, mDsym, kDsym⟩
  have Grig : FnOk l.prog w K mg base CX0 8 fDrig _ ["_law_web_here"] (spRig T U) := ok_rig FDrig DR m_all Cdue Cles Calike Cbyp
  have Crig : FnAt l.prog w K mg base 8 "_law_right" ["_law_web_here"] (spRig T U) := ⟨_, _, Grig, bDrig, mDrig, kDrig⟩
  exact ok_law hm hmU hne FDlaw DR m_all Cbox Csym Crig
theorem walk {l : PySem.W.OpenLaw} {q : Program} {loose : List Str} {XP : (Str → Option Value) → Heap → Prop} {YP : World → Heap → Prop} {d : DefRec} {K : Params → PySem.W.Frag} (hn : l.most = some 63) (hdf : d.params.defaults = [])
    (hY : ∀ (w : World) (h : Heap), YP w h → (K w.params).In h)
    (hx : ∀ y ∈ [("is_leading" : Str), ("lesser_webs" : Str)], ∃ d', (PyProof.Rows.recsOf q).find? (fun e => e.name == y) = some d') (hnt : ∀ p, PySem.W.noTabs (K p) = true)
    (F : ∀ (w : World) (mg : Str → Option Value) (fa : Addr) (h : Heap), (K w.params).In h → h.Ns mainGlobals mg → mg d.name = some (.ref fa) →
      ∃ fd : FuncData, (∀ (s : Shared) (u : Value), BindsTo s fd ⟨[u], []⟩ [("_law_script", u)]) ∧ ∀ base : Heap, (K w.params).In base → base.Ns mainGlobals mg → (∀ t ∈ ([("is_leading" : Str), ("lesser_webs" : Str)].filterMap (PySem.W.tabIn (K w.params))), PySem.W.CodeHd base t.1 t.2) → BltMod base mg → FnOk l.prog w (K w.params) mg base CX0 9 fa fd ["_law_script"] (spLaw (K w.params) ([("is_leading" : Str), ("lesser_webs" : Str)].filterMap (PySem.W.tabIn (K w.params))))) :
    PySem.W.WalkO q loose XP YP l.row.toRowW d [] (fun f vs => PySem.call f vs) :=
  L2.walk_ofX (n := 63) (k := 9) (x := "_law_script") (sp := spLaw) [("is_leading" : Str), ("lesser_webs" : Str)] hn (by decide) hdf ⟨rfl, rfl, by decide, by decide⟩ hY hx hnt F (fun _ _ _ a ns hl _ ht hS => ⟨a, ns, rfl, hS, hl, ht, fun _ => rfl⟩)
end NH
open PySem PySem.W PyProof.Rows
set_option maxRecDepth 100000 in
set_option maxHeartbeats 0 in
theorem PySem.Challenge.cw_namelesshall_k18_all_lesser_webs_holds : PySem.Challenge.rw_namelesshall_k18_all_lesser_webs.Holds := by
  w_on; o_law; k_head; (case hw => w_witness2)
  k_fill
  refine NH.walk (l := PySem.Challenge.rw_namelesshall_k18_all_lesser_webs) rfl rfl (fun w h Y => PySem.W.km_in_of Y) ?hx ?hnt ?F
  case hx =>
    intro y hy
    rcases List.mem_cons.mp hy with rfl | hy
    · exact ⟨_, rfl⟩
    · cases List.mem_singleton.mp hy
      exact ⟨_, rfl⟩
  case hnt => intro p; rfl
  case F =>
    intro w mg fa h KX G hmg
    refine' NH.all_mk KX G hmg ?z_len ?z_int ?z_range ?z_tuple ?z_list ?z_zip ?z_enumerate ?z_min ?z_max ?z_any ?z_all ?z_isinstance ?z_bool ?z_sorted ?aDbox ?lDbox ?dDbox ?kDbox ?aDtake ?lDtake ?dDtake ?kDtake ?aDshuf ?lDshuf ?dDshuf ?kDshuf ?aDties ?lDties ?dDties ?kDties ?aDmarks ?lDmarks ?dDmarks ?kDmarks ?aDplain ?lDplain ?dDplain ?kDplain ?aDren ?lDren ?dDren ?kDren ?aDturn ?lDturn ?dDturn ?kDturn ?aDcov ?lDcov ?dDcov ?kDcov ?aDweb ?lDweb ?dDweb ?kDweb ?aDalike ?lDalike ?dDalike ?kDalike ?aDagr ?lDagr ?dDagr ?kDagr ?aDlea ?lDlea ?dDlea ?kDlea ?aDbyp ?lDbyp ?dDbyp ?kDbyp ?aDprs ?lDprs ?dDprs ?kDprs ?aDles ?lDles ?dDles ?kDles ?aDisl ?lDisl ?dDisl ?kDisl ?aDlpr ?lDlpr ?dDlpr ?kDlpr ?aDlby ?lDlby ?dDlby ?kDlby ?aDdue ?lDdue ?dDdue ?kDdue ?aDsym ?lDsym ?dDsym ?kDsym ?aDrig ?lDrig ?dDrig ?kDrig ?aDlaw ?lDlaw ?dDlaw ?kDlaw ?ht ?htU ?hne
    (case z_len => k_is)
    (case z_int => k_is)
    (case z_range => k_is)
    (case z_tuple => k_is)
    (case z_list => k_is)
    (case z_zip => k_is)
    (case z_enumerate => k_is)
    (case z_min => k_is)
    (case z_max => k_is)
    (case z_any => k_is)
    (case z_all => k_is)
    (case z_isinstance => k_is)
    (case z_bool => k_is)
    (case z_sorted => k_is)
    (case aDbox => k_is)
    (case lDbox => k_is)
    (case dDbox => k_is)
    (case kDbox => k_is)
    (case aDtake => k_is)
    (case lDtake => k_is)
    (case dDtake => k_is)
    (case kDtake => k_is)
    (case aDshuf => k_is)
    (case lDshuf => k_is)
    (case dDshuf => k_is)
    (case kDshuf => k_is)
    (case aDties => k_is)
    (case lDties => k_is)
    (case dDties => k_is)
    (case kDties => k_is)
    (case aDmarks => k_is)
    (case lDmarks => k_is)
    (case dDmarks => k_is)
    (case kDmarks => k_is)
    (case aDplain => k_is)
    (case lDplain => k_is)
    (case dDplain => k_is)
    (case kDplain => k_is)
    (case aDren => k_is)
    (case lDren => k_is)
    (case dDren => k_is)
    (case kDren => k_is)
    (case aDturn => k_is)
    (case lDturn => k_is)
    (case dDturn => k_is)
    (case kDturn => k_is)
    (case aDcov => k_is)
    (case lDcov => k_is)
    (case dDcov => k_is)
    (case kDcov => k_is)
    (case aDweb => k_is)
    (case lDweb => k_is)
    (case dDweb => k_is)
    (case kDweb => k_is)
    (case aDalike => k_is)
    (case lDalike => k_is)
    (case dDalike => k_is)
    (case kDalike => k_is)
    (case aDagr => k_is)
    (case lDagr => k_is)
    (case dDagr => k_is)
    (case kDagr => k_is)
    (case aDlea => k_is)
    (case lDlea => k_is)
    (case dDlea => k_is)
    (case kDlea => k_is)
    (case aDbyp => k_is)
    (case lDbyp => k_is)
    (case dDbyp => k_is)
    (case kDbyp => k_is)
    (case aDprs => k_is)
    (case lDprs => k_is)
    (case dDprs => k_is)
    (case kDprs => k_is)
    (case aDles => k_is)
    (case lDles => k_is)
    (case dDles => k_is)
    (case kDles => k_is)
    (case aDisl => k_is)
    (case lDisl => k_is)
    (case dDisl => k_is)
    (case kDisl => k_is)
    (case aDlpr => k_is)
    (case lDlpr => k_is)
    (case dDlpr => k_is)
    (case kDlpr => k_is)
    (case aDlby => k_is)
    (case lDlby => k_is)
    (case dDlby => k_is)
    (case kDlby => k_is)
    (case aDdue => k_is)
    (case lDdue => k_is)
    (case dDdue => k_is)
    (case kDdue => k_is)
    (case aDsym => k_is)
    (case lDsym => k_is)
    (case dDsym => k_is)
    (case kDsym => k_is)
    (case aDrig => k_is)
    (case lDrig => k_is)
    (case dDrig => k_is)
    (case kDrig => k_is)
    (case aDlaw => k_is)
    (case lDlaw => k_is)
    (case dDlaw => k_is)
    (case kDlaw => k_is)
    (case ht => rfl)
    (case htU => rfl)
    (case hne => decide)