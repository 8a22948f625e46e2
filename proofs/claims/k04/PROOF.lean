import PyProof.Rows.All
import Wide.All
import OpenK.AllK
import Wide.FinOn
import PyProof.EqAt
import PyProof.EqKinds
import PyProof.TupleCall
import KE.BitLaws
import KE.KTryMore
import PyProof.NsDelKeeps
import KE.KNest
import PyProof.GenQ
import PyProof.GenArm
import KE.KSortTup
import PySem.SetOps
import PyProof.Rows.SetFrom
import KE.KSortTupG
import PyProof.DictCompW
import PySem.Challenge.RW_namelesshall_k04_webs_as_texts
set_option Elab.async false
set_option linter.all false
set_option maxRecDepth 100000
namespace L2
open PySem PySem.Spec PyProof.Rows
abbrev Key := Sum Int Str
def keyIs : Key → Value → Bool
  | .inl k, v => Value.isInt k v
  | .inr x, v => Value.isStrOf x v
def keyH (w : World) : Key → Int
  | .inl k => hashInt k
  | .inr x => hashStr w x
theorem keyIs_shape : ∀ {k : Key} {v : Value}, keyIs k v = true → (∃ i t, k = Sum.inl i ∧ v = Value.int i t) ∨ (∃ x t, k = Sum.inr x ∧ v = Value.str x t)
  | .inl i, v, h => by
    obtain ⟨t, e⟩ := Value.isInt_shape (k := i) (v := v) h
    exact .inl ⟨i, t, rfl, e⟩
  | .inr x, v, h => by
    obtain ⟨t, e⟩ := Value.isStrOf_shape (x := x) (v := v) h
    exact .inr ⟨x, t, rfl, e⟩
theorem keyIs_int (i : Int) (t : Tok) : keyIs (.inl i) (.int i t) = true := by simp [keyIs, Value.isInt]
theorem keyIs_str (x : Str) (t : Tok) : keyIs (.inr x) (.str x t) = true := by simp [keyIs, Value.isStrOf]
theorem key_ll (a b : Int) : decide ((Sum.inl a : Key) = Sum.inl b) = (a == b) := by
  by_cases e : a = b
  · subst e; simp
  · have h : ¬ (Sum.inl a : Key) = Sum.inl b := fun q => e (Sum.inl.inj q)
    rw [decide_eq_false h]
    exact (beq_eq_false_iff_ne.mpr e).symm
theorem key_rr (a b : Str) : decide ((Sum.inr a : Key) = Sum.inr b) = decide (a = b) := by
  by_cases e : a = b
  · subst e; simp
  · have h : ¬ (Sum.inr a : Key) = Sum.inr b := fun q => e (Sum.inr.inj q)
    rw [decide_eq_false h, decide_eq_false e]
theorem key_lr (a : Int) (b : Str) : decide ((Sum.inl a : Key) = Sum.inr b) = false := decide_eq_false (fun q => nomatch q)
theorem key_rl (a : Str) (b : Int) : decide ((Sum.inr a : Key) = Sum.inl b) = false := decide_eq_false (fun q => nomatch q)
def mixKind (prog : Program) (w : World) : PySem.KeyKind prog w Key where
  is := keyIs
  hash := keyH w
  inj := fun v a b ha hb => by
    rcases keyIs_shape ha with ⟨i, t, rfl, rfl⟩ | ⟨x, t, rfl, rfl⟩
    · rcases keyIs_shape hb with ⟨j, u, rfl, e⟩ | ⟨y, u, rfl, e⟩
      · injection e with e1 _; rw [e1]
      · exact nomatch e
    · rcases keyIs_shape hb with ⟨j, u, rfl, e⟩ | ⟨y, u, rfl, e⟩
      · exact nomatch e
      · injection e with e1 _; rw [e1]
  byValue := fun k v h => by
    rcases keyIs_shape h with ⟨i, t, rfl, rfl⟩ | ⟨x, t, rfl, rfl⟩ <;> rfl
  pyHash := fun hv h => by
    rcases keyIs_shape hv with ⟨i, t, rfl, rfl⟩ | ⟨x, t, rfl, rfl⟩
    · exact wpAny_pyHash_int h
    · exact wpAny_pyHash_str h
  eqBool := fun hu hv h => by
    rcases keyIs_shape hu with ⟨i, t, rfl, rfl⟩ | ⟨x, t, rfl, rfl⟩
    · rcases keyIs_shape hv with ⟨j, u, rfl, rfl⟩ | ⟨y, u, rfl, rfl⟩
      · rw [key_ll] at h; exact wpAny_eqBool_int h
      · rw [key_lr] at h; exact SeqAt.EqAt.int_str i t y u _ _ _ _ h
    · rcases keyIs_shape hv with ⟨j, u, rfl, rfl⟩ | ⟨y, u, rfl, rfl⟩
      · rw [key_rl] at h; exact SeqAt.EqAt.str_int x t j u _ _ _ _ h
      · rw [key_rr] at h; exact wpAny_eqBool_str h
  «strs» := fun k x t v h => by
    rcases keyIs_shape h with ⟨i, u, rfl, e⟩ | ⟨y, u, rfl, e⟩
    · exact nomatch e
    · injection e with e1 _
      subst e1
      cases v <;> rfl
theorem mixKind_int (prog : Program) (w : World) (i : Int) (t : Tok) : (mixKind prog w).is (.inl i) (.int i t) = true := keyIs_int i t
theorem mixKind_str (prog : Program) (w : World) (x : Str) (t : Tok) : (mixKind prog w).is (.inr x) (.str x t) = true := keyIs_str x t
end L2
namespace L2
open PySem PySem.Spec PyProof.Rows
inductive V where
  | non | bl (b : Bool) | int (i : Int) | str (x : Str) | byt (b : Array UInt8) | flt (b : UInt64) | ref (a : Addr) | ty (n : String)
  deriving DecidableEq
def RelV : V → Value → Prop
  | .non, u => u = Value.none
  | .bl b, u => u = Value.bool b
  | .int i, u => ∃ t, u = Value.int i t
  | .str x, u => ∃ t, u = Value.str x t
  | .byt b, u => ∃ t, u = Value.bytes b t
  | .flt b, u => ∃ t, u = Value.float b t
  | .ref a, u => u = Value.ref a
  | .ty n, u => u = Value.type n
abbrev Vals : List V → List Value → Prop := Paired RelV
theorem Vals.length {xs : List V} {us : List Value} (r : Vals xs us) : xs.length = us.length := Paired.length r
theorem Vals.get : ∀ {xs : List V} {us : List Value} {i : Nat} {x : V}, Vals xs us → xs[i]? = some x → ∃ u, us[i]? = some u ∧ RelV x u
  | _, _, _, _, .nil, e => by simp at e
  | _, _, 0, _, .cons r _, e => by simp at e; subst e; exact ⟨_, rfl, r⟩
  | _, _, i + 1, x, .cons _ t, e => by
    obtain ⟨u, h1, h2⟩ := Vals.get (i := i) (x := x) t (by simpa using e)
    exact ⟨u, by simpa using h1, h2⟩
theorem Vals.set {x : V} {u : Value} (r : RelV x u) : ∀ {xs : List V} {us : List Value} (i : Nat), Vals xs us → Vals (xs.set i x) (us.set i u)
  | _, _, _, .nil => .nil
  | _, _, 0, .cons _ t => .cons r t
  | _, _, i + 1, .cons q t => .cons q (Vals.set r i t)
theorem Vals.append : ∀ {xs ys : List V} {us ws : List Value}, Vals xs us → Vals ys ws → Vals (xs ++ ys) (us ++ ws)
  | _, _, _, _, .nil, s => s
  | _, _, _, _, .cons r t, s => .cons r (Vals.append t s)
theorem Vals.take : ∀ {xs : List V} {us : List Value} (n : Nat), Vals xs us → Vals (xs.take n) (us.take n)
  | _, _, 0, _ => .nil
  | _, _, _ + 1, .nil => .nil
  | _, _, n + 1, .cons r t => .cons r (Vals.take n t)
theorem Vals.drop : ∀ {xs : List V} {us : List Value} (n : Nat), Vals xs us → Vals (xs.drop n) (us.drop n)
  | _, _, 0, r => r
  | _, _, _ + 1, .nil => .nil
  | _, _, n + 1, .cons _ t => Vals.drop n t
def RelO : Option V → Option Value → Prop
  | some v, some u => RelV v u
  | none, none => True
  | _, _ => False
def KV {κ : Type} : List (κ × V) → List (κ × Value) → Prop := Paired fun (p : κ × V) (q : κ × Value) => p.1 = q.1 ∧ RelV p.2 q.2
def kV : Key → V
  | .inl i => .int i
  | .inr x => .str x
inductive HO where
  /-- a list -/
  | lst (xs : List V)
  /-- a tuple (never changes) -/
  | tup (xs : List V)
  /-- a dict whose keys are ints and texts; one whose keys are tuples of ints and texts (the empty one is both) -/
  | dK (kvs : List (Key × V)) | dT (kvs : List (List Key × V))
  /-- a set of ints: its members, its size -/
  | set (S : Int → Bool) (n : Nat)
  /-- an instance of the class at C, its dict at dx, its attributes -/
  | ins (C dx : Addr) (fs : List (Str × V))
  /-- the dict of the instance at x -/
  | own (x : Addr)
  /-- the dict of an exception -/
  | xd (fs : List (Str × V))
  /-- a bound method, f of x -/
  | met (f x : Addr)
  /-- a range object lo, lo + 1, .. below hi -/
  | rng (lo hi : Int)
  /-- a thing that is known to the object (the script; a dict while a loop walks it): read, never written while it is so -/
  | frz (o : Obj) (u : HO)
  /-- a code object's table -/
  | tbl (ps : Array Value)
  /-- any other thing, by what is true of its one object (a def of one's own: SetO a S n := HO.ext fun h => ..) -/
  | ext (φ : Heap → Prop)
abbrev Hp := Addr → Option HO
def upd (H : Hp) (a : Addr) (o : HO) : Hp := fun b => if b = a then some o else H b
theorem upd_same {H : Hp} {a : Addr} {o : HO} : upd H a o a = some o := by unfold upd; rw [if_pos rfl]
theorem upd_ne {H : Hp} {a b : Addr} {o : HO} (h : b ≠ a) : upd H a o b = H b := by unfold upd; rw [if_neg h]
theorem ne_of {H : Hp} {a b : Addr} {o u : HO} (h : H a = some o) (h' : H b = some u) (d : o ≠ u) : a ≠ b := by
  intro e; subst e; rw [h] at h'; exact d (Option.some.inj h')
theorem ne_of_none {H : Hp} {a b : Addr} {o : HO} (h : H a = some o) (h' : H b = none) : a ≠ b := by
  intro e; subst e; rw [h] at h'; cases h'
section
variable (P : Program) (w : World)
def ObjOk (H : Hp) (h : Heap) (a : Addr) : HO → Prop
  | .lst xs => xs.length ≤ sizeLine ∧ ∃ (its : List Value) (n : Nat), Vals xs its ∧ h.get? a = some { cls := .type "list", data := .seq its.toArray n }
  | .tup xs => xs.length ≤ sizeLine ∧ ∃ its : List Value, Vals xs its ∧ IsTup h a its.toArray
  | .dK kvs => kvs.length ≤ sizeLine ∧ (a == sysModules) = false ∧ ∃ vs, KV kvs vs ∧ h.DictOf (mixKind P w) a vs
  | .dT kvs => kvs.length ≤ sizeLine ∧ (a == sysModules) = false ∧ ∃ xs : List (List Key × Addr × Value),
      Paired (fun (p : List Key × V) (q : List Key × Addr × Value) => p.1 = q.1 ∧ H q.2.1 = some (.tup (p.1.map kV)) ∧ RelV p.2 q.2.2) kvs xs ∧
      ∃ o es ep, h.get? a = some o ∧ o.ExactDict ∧ o.data = .dict es ep ∧ es.toList = xs.map (entryOfKey (tupleKind (mixKind P w))) ∧ (xs.map (·.1)).Nodup
  | .set S n => h.SetOf (intKind P w) a S n
  | .ins C dx fs => H dx = some (.own a) ∧ fs.length ≤ 1000 ∧ dx ≠ a ∧ h.get? a = some (PySem.W.instObj C dx) ∧
      ∃ mA, h.Ns1 dx mA ∧ (∀ f, RelO (fs.lookup f) (mA f)) ∧ PySem.Within mA (fs.map (·.1))
  | .own _ => ∃ o, h.get? a = some o
  | .xd fs => ∃ mA, h.Ns1 a mA ∧ (∀ f, RelO (fs.lookup f) (mA f)) ∧ PySem.Within mA (fs.map (·.1)) ∧ fs.length ≤ 1000
  | .rng lo hi => ∃ t u v, h.get? a = some { cls := .type "range", data := .fields #[.int lo t, .int hi u, .int 1 v] }
  | .frz o u => h.get? a = some o ∧ ObjOk H h a u
  | .tbl ps => h.get? a = some { cls := .none, data := .fields ps }
  | .met f x => h.get? a = some (PySem.W.methodObj (.ref f) (.ref x))
  | .ext φ => φ h ∧ (∃ o, h.get? a = some o) ∧ ∀ h1 h2 : Heap, φ h1 → (∀ o, h1.get? a = some o → h2.get? a = some o) → φ h2
def HOk (H : Hp) (h : Heap) : Prop := ∀ a o, H a = some o → ObjOk P w H h a o
end
section
variable {P : Program} {w : World} {H H' : Hp} {h h' : Heap} {a : Addr} {o : HO}
theorem ObjOk.lt (x : ObjOk P w H h a o) : a < h.objs.size := by
  cases o with
  | lst xs => obtain ⟨_, _, _, _, e⟩ := x; exact Heap.lt_size e
  | tup xs => obtain ⟨_, _, _, p⟩ := x; exact p.lt
  | dK kvs => obtain ⟨_, _, _, _, o, _, _, e, _⟩ := x; exact Heap.lt_size e
  | dT kvs => obtain ⟨_, _, _, _, o, _, _, e, _⟩ := x; exact Heap.lt_size e
  | set S n => obtain ⟨o, _, _, _, e, _⟩ := x; exact Heap.lt_size e
  | ins C dx fs => obtain ⟨_, _, _, e, _⟩ := x; exact Heap.lt_size e
  | own y => obtain ⟨_, e⟩ := x; exact Heap.lt_size e
  | xd fs => obtain ⟨_, ⟨_, _, _, e, _⟩, _⟩ := x; exact Heap.lt_size e
  | rng lo hi => obtain ⟨_, _, _, e⟩ := x; exact Heap.lt_size e
  | frz ob u => obtain ⟨e, _⟩ := x; exact Heap.lt_size e
  | tbl ps => exact Heap.lt_size (show h.get? a = some _ from x)
  | met f y => exact Heap.lt_size (show h.get? a = some _ from x)
  | ext φ => obtain ⟨_, ⟨_, e⟩, _⟩ := x; exact Heap.lt_size e
theorem Paired.mapP {α β : Type} {F G : α → β → Prop} : ∀ {l₁ : List α} {l₂ : List β}, Paired F l₁ l₂ → (∀ a b, F a b → G a b) → Paired G l₁ l₂
  | _, _, .nil, _ => .nil
  | _, _, .cons r t, f => .cons (f _ _ r) (Paired.mapP t f)
theorem ObjOk.stay (x : ObjOk P w H h a o) (k : ∀ b u, (b = a ∨ H b = some (.own a)) → h.get? b = some u → h'.get? b = some u)
    (ho : ∀ b, H b = some (.own a) → H' b = some (.own a)) (ht : ∀ b xs, H b = some (.tup xs) → H' b = some (.tup xs)) : ObjOk P w H' h' a o := by
  induction o with
  | lst xs => obtain ⟨z, its, n, r, e⟩ := x; exact ⟨z, its, n, r, k _ _ (.inl rfl) e⟩
  | tup xs => obtain ⟨z, its, r, ob, e, c⟩ := x; exact ⟨z, its, r, ob, k _ _ (.inl rfl) e, c⟩
  | dK kvs => obtain ⟨z, y, vs, r, ob, es, ep, e, c⟩ := x; exact ⟨z, y, vs, r, ob, es, ep, k _ _ (.inl rfl) e, c⟩
  | dT kvs =>
    obtain ⟨z, y, xs, r, ob, es, ep, e, c⟩ := x
    exact ⟨z, y, xs, Paired.mapP r fun p q z => ⟨z.1, ht _ _ z.2.1, z.2.2⟩, ob, es, ep, k _ _ (.inl rfl) e, c⟩
  | set S n => obtain ⟨ob, es, ep, t, e, c⟩ := x; exact ⟨ob, es, ep, t, k _ _ (.inl rfl) e, c⟩
  | ins C dx fs =>
    obtain ⟨d, z, ne, e, mA, ⟨od, es, ep, e2, c⟩, r⟩ := x
    exact ⟨ho _ d, z, ne, k _ _ (.inl rfl) e, mA, ⟨od, es, ep, k _ _ (.inr d) e2, c⟩, r⟩
  | own y => obtain ⟨ob, e⟩ := x; exact ⟨ob, k _ _ (.inl rfl) e⟩
  | xd fs => obtain ⟨mA, ⟨od, es, ep, e, c⟩, r⟩ := x; exact ⟨mA, ⟨od, es, ep, k _ _ (.inl rfl) e, c⟩, r⟩
  | rng lo hi => obtain ⟨t, u, v, e⟩ := x; exact ⟨t, u, v, k _ _ (.inl rfl) e⟩
  | frz ob u ih => obtain ⟨e, q⟩ := x; exact ⟨k _ _ (.inl rfl) e, ih q⟩
  | tbl ps =>
    have e : h.get? a = some { cls := .none, data := .fields ps } := x
    show h'.get? a = some { cls := .none, data := .fields ps }
    exact k a _ (.inl rfl) e
  | met f y =>
    have e : h.get? a = some (PySem.W.methodObj (.ref f) (.ref y)) := x
    show h'.get? a = some (PySem.W.methodObj (.ref f) (.ref y))
    exact k a _ (.inl rfl) e
  | ext φ => obtain ⟨p, ⟨o, e⟩, st⟩ := x; exact ⟨st _ _ p fun o q => k _ _ (.inl rfl) q, ⟨o, k _ _ (.inl rfl) e⟩, st⟩
theorem HOk.lt (x : HOk P w H h) (e : H a = some o) : a < h.objs.size := (x a o e).lt
theorem HOk.fresh (x : HOk P w H h) (e : h.objs.size ≤ a) : H a = none := by
  cases q : H a with
  | none => rfl
  | some u => exact absurd (Nat.lt_of_lt_of_le (x.lt q) e) (Nat.lt_irrefl _)
theorem HOk.kept (x : HOk P w H h) (k : ∀ b u, h.get? b = some u → h'.get? b = some u) : HOk P w H h' := fun a o e =>
  (x a o e).stay (fun b u _ q => k b u q) (fun _ q => q) fun _ _ q => q
theorem HOk.laid (x : HOk P w H h) (k : ∀ b u, h.get? b = some u → h'.get? b = some u) (hp : h.objs.size ≤ a) (new : ObjOk P w (upd H a o) h' a o) : HOk P w (upd H a o) h' := fun b u e => by
  have hn := x.fresh hp
  by_cases hb : b = a
  · subst hb; rw [upd_same] at e; cases e; exact new
  · rw [upd_ne hb] at e
    exact (x b u e).stay (fun c v _ q => k c v q) (fun c q => by rw [upd_ne (ne_of_none q hn)]; exact q) fun c xs q => by rw [upd_ne (ne_of_none q hn)]; exact q
end
def Rd (H : Hp) (a : Addr) (u : HO) : Prop := H a = some u ∨ ∃ o, H a = some (.frz o u)
theorem Rd.ok {P : Program} {w : World} {H : Hp} {h : Heap} {a : Addr} {u : HO} (r : Rd H a u) (x : HOk P w H h) : ObjOk P w H h a u := by
  rcases r with r | ⟨o, r⟩
  · exact x a u r
  · obtain ⟨_, q⟩ := x a _ r
    exact q
def Mut : Option HO → Prop
  | some (.lst _) => True
  | some (.dK _) => True
  | some (.dT _) => True
  | some (.set _ _) => True
  | some (.ins _ _ _) => True
  | some (.xd _) => True
  | some (.ext _) => True
  | _ => False
section
variable {P : Program} {w : World} {H : Hp} {h h' : Heap} {x e : Addr} {o' : HO}
theorem HOk.write (ok : HOk P w H h) (mu : Mut (H x)) (he : e = x ∨ H e = some (.own x)) (k : ∀ b u, b ≠ e → h.get? b = some u → h'.get? b = some u) (heo : ∃ u, h'.get? e = some u)
    (new : ObjOk P w (upd H x o') h' x o') : HOk P w (upd H x o') h' := fun b u q => by
  have nown : ∀ c y, H c = some (.own y) → c ≠ x := fun c y r z => by subst z; rw [r] at mu; exact mu
  have ntup : ∀ c xs, H c = some (.tup xs) → c ≠ x := fun c xs r z => by subst z; rw [r] at mu; exact mu
  by_cases hb : b = x
  · subst hb; rw [upd_same] at q; cases q; exact new
  · rw [upd_ne hb] at q
    by_cases hbe : b = e
    · have q' : H b = some (.own x) := by
        rcases he with z | z
        · exact absurd (hbe.trans z) hb
        · rw [hbe]; exact z
      rw [q] at q'; cases q'
      obtain ⟨v, hv⟩ := heo
      exact ⟨v, by rw [hbe]; exact hv⟩
    · refine (ok b u q).stay (fun c v hc r => k c v ?_ r) (fun c r => by rw [upd_ne (nown c b r)]; exact r) fun c xs r => by rw [upd_ne (ntup c xs r)]; exact r
      rcases hc with rfl | hc
      · exact hbe
      · rintro rfl
        rcases he with z | z
        · exact nown c b hc z
        · rw [hc] at z; cases z; exact hb rfl
end
structure Un (fs ex : List Addr) (H H' : Hp) (h h' : Heap) : Prop where
  keep : ∀ b o, h.get? b = some o → H b = none → b ∉ fs → b ∉ ex → h'.get? b = some o
  slot : ∀ b o, h.get? b = some o → H b = none → b ∈ fs → b ∉ ex → ∃ sl, h'.get? b = some { o with slots := sl }
  free : ∀ b o, h.get? b = some o → H b = none → b ∉ ex → H' b = none
  there : ∀ b o, h.get? b = some o → b ∉ ex → ∃ o', h'.get? b = some o'
  tups : ∀ b xs, H b = some (.tup xs) → H' b = some (.tup xs)
  frzs : ∀ b o u, H b = some (.frz o u) → H' b = some (.frz o u)
  tbls : ∀ b ps, H b = some (.tbl ps) → ∃ more, H' b = some (.tbl (ps ++ more))
section
variable {fs fs' ex ex' : List Addr} {H H1 H2 : Hp} {h h1 h2 h' : Heap} {a x e : Addr} {o : HO}
theorem Un.any (u : Un fs ex H H1 h h1) {b : Addr} {ob : Obj} (q : h.get? b = some ob) (n : H b = none) (hx : b ∉ ex) : ∃ sl, h1.get? b = some { ob with slots := sl } := by
  by_cases hb : b ∈ fs
  · exact u.slot b ob q n hb hx
  · exact ⟨ob.slots, u.keep b ob q n hb hx⟩
theorem Un.kept (k : ∀ b u, h.get? b = some u → h'.get? b = some u) : Un fs ex H H h h' :=
  ⟨fun b ob q _ _ _ => k b ob q, fun b ob q _ _ _ => ⟨ob.slots, k b ob q⟩, fun _ _ _ n _ => n, fun b ob q _ => ⟨ob, k b ob q⟩, fun _ _ q => q, fun _ _ _ q => q, fun _ ps q => ⟨#[], by rw [q]; simp⟩⟩
theorem Un.refl : Un fs ex H H h h := Un.kept fun _ _ q => q
theorem Un.laid (k : ∀ b u, h.get? b = some u → h'.get? b = some u) (hp : h.objs.size ≤ a) (hn : H a = none) : Un fs ex H (upd H a o) h h' where
  keep := fun b u q _ _ _ => k b u q
  slot := fun b u q _ _ _ => ⟨u.slots, k b u q⟩
  free := fun b u q n _ => by rw [upd_ne (Nat.ne_of_lt (Nat.lt_of_lt_of_le (Heap.lt_size q) hp))]; exact n
  there := fun b u q _ => ⟨u, k b u q⟩
  tups := fun b xs q => by rw [upd_ne (ne_of_none q hn)]; exact q
  frzs := fun b u xs q => by rw [upd_ne (ne_of_none q hn)]; exact q
  tbls := fun b ps q => ⟨#[], by rw [upd_ne (ne_of_none q hn), q]; simp⟩
theorem Un.write (mu : Mut (H x)) (he : e = x ∨ H e = some (.own x)) (k : ∀ b u, b ≠ e → h.get? b = some u → h'.get? b = some u) (heo : ∃ u, h'.get? e = some u) : Un fs ex H (upd H x o) h h' := by
  have hx : ∀ b, H b = none → b ≠ x := fun b n z => by subst z; rw [n] at mu; exact mu
  have hb : ∀ b, H b = none → b ≠ e := fun b n z => by
    subst z
    rcases he with r | r
    · exact hx b n r
    · rw [n] at r; cases r
  have hm : ∀ b u, H b = some u → ¬ Mut (some u) → b ≠ x := fun b u q nm z => by subst z; rw [q] at mu; exact nm mu
  refine ⟨fun b u q n _ _ => k b u (hb b n) q, fun b u q n _ _ => ⟨u.slots, k b u (hb b n) q⟩, fun b u q n _ => by rw [upd_ne (hx b n)]; exact n, fun b u q _ => ?_,
    fun b xs q => by rw [upd_ne (hm b _ q fun z => z)]; exact q, fun b u xs q => by rw [upd_ne (hm b _ q fun z => z)]; exact q, fun b ps q => ⟨#[], by rw [upd_ne (hm b _ q fun z => z), q]; simp⟩⟩
  by_cases hbe : b = e
  · subst hbe; exact heo
  · exact ⟨u, k b u hbe q⟩
end
def trk (h : Heap) (H : Hp) : List Addr := (List.range h.objs.size).filter fun a => (H a).isSome
def hidT (h : Heap) (H : Hp) : Heap := PySem.W.hideAll h (trk h H)
theorem hidT_size (h : Heap) (H : Hp) : (hidT h H).objs.size = h.objs.size := PySem.W.hideAll_size _ _
theorem hidT_get {h : Heap} {H : Hp} {b : Addr} {o : Obj} (e : h.get? b = some o) (n : H b = none) : (hidT h H).get? b = some o :=
  PySem.W.hideAll_get _ e fun hm => by
    have q : (H b).isSome = true := (List.mem_filter.mp hm).2
    rw [n] at q; simp at q
theorem of_hidT {h : Heap} {H : Hp} {b : Addr} {o : Obj} (e : (hidT h H).get? b = some o) : h.get? b = some o ∧ H b = none := by
  have e' : h.get? b = some o := PySem.W.of_hideAll (trk h H) e
  refine ⟨e', ?_⟩
  cases q : H b with
  | none => rfl
  | some x =>
    have hm : b ∈ trk h H := List.mem_filter.mpr ⟨List.mem_range.mpr (Heap.lt_size e'), by simp [q]⟩
    have z : (hidT h H).get? b = none := PySem.W.hideAll_none (trk h H) hm
    rw [z] at e; cases e
end L2
namespace L2
open PySem PySem.Spec PyProof.Rows
structure Mod (K : PySem.W.Frag) (mg : Str → Option Value) (base : Heap) : Prop where
  kin : K.In base
  glob : base.Ns mainGlobals mg
  blt : ∃ mb, base.Ns builtinsNs mb ∧ ∀ x : Str, x ≠ "__name__" → mb x = bootBuiltins x
  nolimit : base.NoLimit
structure Cx where
  prog : Program
  w : World
  K : PySem.W.Frag
  mg : Str → Option Value
  base : Heap
  A : Around
  N : List Str
  s_0 : Shared
  H_0 : Hp
  env : Env
  outer : List Env
  stack : List Env
  ex : List Addr
  fn : Str → Bool
  calm : Bool
  pn : List (Addr × Obj)
  xe : Value → Shared → Prop
def frs (l : List Env) : List Addr := l.filterMap (·.frame)
abbrev Cx.fs (X : Cx) : List Addr := frs X.outer
def Vis (sc : Scope) (x : Str) : Prop := sc.names.lookup x = some .local ∨ sc.names.lookup x = some .cell ∨ sc.names.lookup x = some .free
def Loc (sc : Scope) (x : Str) : Prop := sc.names.lookup x = some .local ∨ sc.names.lookup x = some .cell
def Look (env : Env) (h : Heap) (m : Str → Option Value) (x : Str) (u : Value) : Prop :=
  (env.kindOf x = some .local ∧ m x = some u) ∨ ((env.kindOf x = some .cell ∨ env.kindOf x = some .free) ∧ ∃ c, env.cells.lookup x = some c ∧ h.IsCell c (some u))
structure Cx.Ok (X : Cx) : Prop where
  mod : Mod X.K X.mg X.base
  kind : X.env.scope.kind = .function
  glob : X.env.globals = mainGlobals
  blt : X.env.builtins = builtinsNs
  above : X.s_0.heap.objs.size ≤ X.env.locals
  inj : ∀ x y c, X.env.cells.lookup x = some c → X.env.cells.lookup y = some c → x = y
  has : ∀ x, (X.env.kindOf x = some .cell ∨ X.env.kindOf x = some .free) → ∃ c, X.env.cells.lookup x = some c
  cab : ∀ x c, X.fn x = true → X.env.cells.lookup x = some c → X.s_0.heap.objs.size ≤ c
  hd : X.calm = true → X.A.handled = none
  frames : X.A.frames = some X.stack
  stk : X.stack = X.outer ∨ (X.stack = X.env :: X.outer ∧ X.env.frame = some X.env.locals)
  exf : ∀ b ∈ X.ex, b ≠ X.env.locals ∧ ∀ x c, X.env.cells.lookup x = some c → c ≠ b
  bs : ∀ b o, X.base.get? b = some o → X.s_0.heap.get? b = some o ∧ X.H_0 b = none
  bsz : X.base.objs.size ≤ X.s_0.heap.objs.size
  noex : ∀ b o, X.base.get? b = some o → b ∉ X.ex
  exfs : ∀ b ∈ X.ex, b ∉ X.fs
  funs : X.s_0.heap.FunFrames X.base X.outer
  frf : ∀ b ∈ X.fs, X.H_0 b = none
structure Inv (X : Cx) (pins : List (Addr × Obj)) (σ : List (Option V)) (H : Hp) (s : Shared) : Prop where
  ok : X.Ok
  os : s.os = X.s_0.os
  bare : AllBare s.gens
  base : Un X.fs X.ex X.H_0 H X.s_0.heap s.heap
  loc : ∃ m, s.heap.Ns X.env.locals m ∧ ∀ (i : Nat) (x : Str) (v : V), X.N[i]? = some x → σ[i]? = some (some v) → Vis X.env.scope x → ∃ u, RelV v u ∧ Look X.env s.heap m x u
  cell : ∀ x c, X.env.cells.lookup x = some c → ∃ v, s.heap.IsCell c v
  free : H X.env.locals = none
  freeC : ∀ x c, X.env.cells.lookup x = some c → H c = none
  pin : ∀ p ∈ X.pn ++ pins, s.heap.get? p.1 = some p.2 ∧ H p.1 = none ∧ p.1 ≠ X.env.locals ∧ p.1 ∉ X.fs ∧ ∀ v, p.2.data ≠ .cell v
  hok : HOk X.prog X.w H s.heap
  len : σ.length = X.N.length
section
variable {X : Cx} {pins : List (Addr × Obj)} {σ : List (Option V)} {H H' : Hp} {s : Shared} {h' : Heap}
theorem Cx.Ok.nofr (ok : X.Ok) {b : Addr} {o : Obj} (e : X.base.get? b = some o) : b ∉ X.fs := fun hb => by
  have := (ok.funs.mem hb).1
  rw [e] at this; cases this
theorem Inv.bs (I : Inv X pins σ H s) : ∀ b o, X.base.get? b = some o → s.heap.get? b = some o ∧ H b = none := fun b o e =>
  ⟨I.base.keep b o (I.ok.bs b o e).1 (I.ok.bs b o e).2 (I.ok.nofr e) (I.ok.noex b o e), I.base.free b o (I.ok.bs b o e).1 (I.ok.bs b o e).2 (I.ok.noex b o e)⟩
theorem Inv.bk (I : Inv X pins σ H s) : ∀ b o, X.base.get? b = some o → s.heap.get? b = some o := fun b o e => (I.bs b o e).1
theorem Inv.mod (I : Inv X pins σ H s) : Mod X.K X.mg X.base := I.ok.mod
theorem Inv.kIn (I : Inv X pins σ H s) : X.K.In s.heap := I.ok.mod.kin.keeps I.bk
theorem Inv.nolimit (I : Inv X pins σ H s) : s.heap.NoLimit := I.ok.mod.nolimit.keeps I.bk
theorem Inv.lt (I : Inv X pins σ H s) : X.env.locals < s.heap.objs.size := let ⟨_, hn, _⟩ := I.loc; hn.lt
theorem Inv.sz (I : Inv X pins σ H s) : X.s_0.heap.objs.size ≤ s.heap.objs.size := Nat.le_trans I.ok.above (Nat.le_of_lt I.lt)
theorem Inv.nofs (I : Inv X pins σ H s) {a : Addr} (h : s.heap.objs.size ≤ a) : a ∉ X.fs := fun hb => by
  obtain ⟨_, o, ho, _⟩ := I.ok.funs.mem hb
  exact absurd (Nat.lt_of_lt_of_le (Heap.lt_size ho) (Nat.le_trans I.sz h)) (Nat.lt_irrefl _)
theorem Inv.cne (I : Inv X pins σ H s) : ∀ x c, X.env.cells.lookup x = some c → c ≠ X.env.locals := fun x c e z => by
  obtain ⟨v, o, ho, hd⟩ := I.cell x c e
  obtain ⟨m, ⟨o', es, ep, ho', hd', _⟩, _⟩ := I.loc
  rw [z, ho'] at ho; cases ho; rw [hd'] at hd; cases hd
theorem Inv.funs (I : Inv X pins σ H s) : s.heap.FunFrames X.base X.outer := by
  have all : ∀ (l : List Env), (∀ b ∈ frs l, b ∈ X.fs) → X.s_0.heap.FunFrames X.base l → s.heap.FunFrames X.base l := by
    intro l
    induction l with
    | nil => intro _ _; trivial
    | cons env r ih =>
      intro hs hl
      obtain ⟨hk, ⟨L, o, hf, hn, ho, hd⟩, hr⟩ := hl
      have hL : L ∈ X.fs := hs L (by unfold frs; rw [List.filterMap_cons, hf]; exact List.mem_cons_self)
      obtain ⟨sl, e⟩ := I.base.slot L o ho (I.ok.frf L hL) hL fun z => I.ok.exfs L z hL
      exact ⟨hk, ⟨L, _, hf, hn, e, hd⟩, ih (fun b hb => hs b (by unfold frs; rw [List.filterMap_cons, hf]; exact List.mem_cons_of_mem _ hb)) hr⟩
  exact all X.outer (fun _ hb => hb) I.ok.funs
theorem Inv.stack (I : Inv X pins σ H s) : s.heap.FunFrames X.base X.stack := by
  rcases I.ok.stk with e | ⟨e, hf⟩
  · rw [e]; exact I.funs
  · rw [e]
    obtain ⟨m, hn, _⟩ := I.loc
    refine .cons (by rw [I.ok.kind]; decide) hf hn ?_ I.funs
    exact Heap.get?_none_of_le (Nat.le_trans I.ok.bsz I.ok.above)
theorem Inv.stkSub (I : Inv X pins σ H s) : ∀ b ∈ frs X.stack, b ∈ X.env.locals :: X.fs := fun b hb => by
  rcases I.ok.stk with e | ⟨e, hf⟩
  · rw [e] at hb; exact List.mem_cons_of_mem _ hb
  · rw [e] at hb
    unfold frs at hb
    rw [List.filterMap_cons, hf] at hb
    exact hb
theorem Inv.stkFree (I : Inv X pins σ H s) : ∀ b ∈ frs X.stack, H b = none := fun b hb => by
  rcases List.mem_cons.mp (I.stkSub b hb) with e | hb
  · rw [e]; exact I.free
  · obtain ⟨_, o, ho, _⟩ := I.ok.funs.mem hb
    exact I.base.free b o ho (I.ok.frf b hb) fun z => I.ok.exfs b z hb
theorem Inv.step {g' : Array GenState} {t' : Nat} {d' : Drawn} {ch : List Addr} (I : Inv X pins σ H s)
    (hch : ∀ b ∈ ch, (b ∈ X.ex ∨ X.s_0.heap.objs.size ≤ b) ∧ b ≠ X.env.locals ∧ (∀ x c, X.env.cells.lookup x = some c → c ≠ b) ∧ ∀ p ∈ X.pn ++ pins, p.1 ≠ b)
    (keep : ∀ b o, b ≠ X.env.locals → b ∉ X.fs → b ∉ ch → s.heap.get? b = some o → H b = none → h'.get? b = some o)
    (slot : ∀ b o, b ≠ X.env.locals → b ∈ X.fs → b ∉ ch → s.heap.get? b = some o → H b = none → ∃ sl, h'.get? b = some { o with slots := sl }) (free : ∀ b o, b ∉ ch → s.heap.get? b = some o → H b = none → H' b = none)
    (there : ∀ b o, b ∉ ch → s.heap.get? b = some o → ∃ o', h'.get? b = some o')
    (tups : ∀ b xs, H b = some (.tup xs) → H' b = some (.tup xs)) (frzs : ∀ b o u, H b = some (.frz o u) → H' b = some (.frz o u)) (tbls : ∀ b ps, H b = some (.tbl ps) → ∃ more, H' b = some (.tbl (ps ++ more)))
    (ns : ∀ m, s.heap.Ns X.env.locals m → h'.Ns X.env.locals m) (hok : HOk X.prog X.w H' h') (hg : AllBare g') :
    Inv X pins σ H' { s with heap := h', gens := g', drawn := d', toks := t' } := by
  have neL : ∀ b o, X.s_0.heap.get? b = some o → b ≠ X.env.locals := fun b o e => Nat.ne_of_lt (Nat.lt_of_lt_of_le (Heap.lt_size e) I.ok.above)
  have neC : ∀ b o, X.s_0.heap.get? b = some o → b ∉ X.ex → b ∉ ch := fun b o e hx hb => by
    rcases (hch b hb).1 with z | z
    · exact hx z
    · exact absurd (Nat.lt_of_lt_of_le (Heap.lt_size e) z) (Nat.lt_irrefl _)
  have cellK : ∀ x c, X.env.cells.lookup x = some c → ∀ v, s.heap.IsCell c v → h'.IsCell c v := fun x c e v ⟨o, ho, hd⟩ => by
    have nch : c ∉ ch := fun z => (hch c z).2.2.1 x c e rfl
    by_cases hc : c ∈ X.fs
    · obtain ⟨sl, q⟩ := slot c o (I.cne x c e) hc nch ho (I.freeC x c e)
      exact ⟨_, q, hd⟩
    · exact ⟨o, keep c o (I.cne x c e) hc nch ho (I.freeC x c e), hd⟩
  refine ⟨I.ok, I.os, hg, ⟨fun b o e n hb hx => ?_, fun b o e n hb hx => ?_, fun b o e n hx => ?_, fun b o e hx => ?_, fun b xs e => tups b xs (I.base.tups b xs e), fun b o xs e => frzs b o xs (I.base.frzs b o xs e), fun b ps e => ?_⟩, ?_, fun x c e => ?_, ?_, fun x c e => ?_, fun p hp => ?_, hok, I.len⟩
  · exact keep b o (neL b o e) hb (neC b o e hx) (I.base.keep b o e n hb hx) (I.base.free b o e n hx)
  · obtain ⟨sl, e1⟩ := I.base.slot b o e n hb hx
    obtain ⟨sl', e2⟩ := slot b _ (neL b o e) hb (neC b o e hx) e1 (I.base.free b o e n hx)
    exact ⟨sl', e2⟩
  · obtain ⟨o', e1⟩ := I.base.there b o e hx
    exact free b o' (neC b o e hx) e1 (I.base.free b o e n hx)
  · obtain ⟨o', e1⟩ := I.base.there b o e hx
    exact there b o' (neC b o e hx) e1
  · obtain ⟨m1, e1⟩ := I.base.tbls b ps e
    obtain ⟨m2, e2⟩ := tbls b _ e1
    exact ⟨m1 ++ m2, by rw [e2, Array.append_assoc]⟩
  · obtain ⟨m, hn, hl⟩ := I.loc
    refine ⟨m, ns m hn, fun i x v e1 e2 e3 => ?_⟩
    obtain ⟨u, r, l⟩ := hl i x v e1 e2 e3
    refine ⟨u, r, ?_⟩
    rcases l with l | ⟨k, c, e, z⟩
    · exact .inl l
    · exact .inr ⟨k, c, e, cellK x c e _ z⟩
  · obtain ⟨v, z⟩ := I.cell x c e
    exact ⟨v, cellK x c e v z⟩
  · obtain ⟨m, ⟨o, _, _, ho, _⟩, _⟩ := I.loc
    exact free _ o (fun z => (hch _ z).2.1 rfl) ho I.free
  · obtain ⟨v, o, ho, hd⟩ := I.cell x c e
    exact free c o (fun z => (hch c z).2.2.1 x c e rfl) ho (I.freeC x c e)
  · obtain ⟨e, n, ne, nf, d⟩ := I.pin p hp
    have nch : p.1 ∉ ch := fun z => (hch p.1 z).2.2.2 p hp rfl
    exact ⟨keep p.1 p.2 ne nf nch e n, free p.1 p.2 nch e n, ne, nf, d⟩
theorem Inv.un {t' : Nat} (I : Inv X pins σ H s) (u : Un X.fs [] H H' s.heap h') (hok : HOk X.prog X.w H' h') : Inv X pins σ H' { s with heap := h', toks := t' } := by
  obtain ⟨m, ⟨o, es, ep, ho, r⟩, _⟩ := id I.loc
  obtain ⟨sl, hL⟩ := u.any ho I.free (by simp)
  exact I.step (g' := s.gens) (d' := s.drawn) (ch := []) (fun _ z => nomatch z) (fun b o _ hb _ e n => u.keep b o e n hb (by simp)) (fun b o _ hb _ e n => u.slot b o e n hb (by simp)) (fun b o _ e n => u.free b o e n (by simp)) (fun b o _ e => u.there b o e (by simp)) u.tups u.frzs u.tbls (fun m' hm => by
    obtain ⟨o', es', ep', ho', r'⟩ := hm
    rw [ho] at ho'; cases ho'
    exact ⟨_, es', ep', hL, r'⟩) hok I.bare
theorem Inv.call {g' : Array GenState} {t' : Nat} {d' : Drawn} {ch : List Addr} (I : Inv X pins σ H s) (u : Un (frs X.stack) ch H H' s.heap h') (hok : HOk X.prog X.w H' h') (hg : AllBare g')
    (hch : ∀ b ∈ ch, (b ∈ X.ex ∨ X.s_0.heap.objs.size ≤ b) ∧ b ≠ X.env.locals ∧ (∀ x c, X.env.cells.lookup x = some c → c ≠ b) ∧ ∀ p ∈ X.pn ++ pins, p.1 ≠ b) :
    Inv X pins σ H' { s with heap := h', gens := g', drawn := d', toks := t' } := by
  obtain ⟨m, ⟨o, es, ep, ho, r⟩, _⟩ := id I.loc
  obtain ⟨sl, hL⟩ := u.any ho I.free fun z => (hch _ z).2.1 rfl
  exact I.step (ch := ch) hch (fun b o hL hb hc e n => u.keep b o e n (fun z => (List.mem_cons.mp (I.stkSub b z)).elim hL hb) hc) (fun b o _ _ hc e n => u.any e n hc) (fun b o hc e n => u.free b o e n hc) (fun b o hc e => u.there b o e hc) u.tups u.frzs u.tbls (fun m' hm => by
    obtain ⟨o', es', ep', ho', r'⟩ := hm
    rw [ho] at ho'; cases ho'
    exact ⟨_, es', ep', hL, r'⟩) hok hg
theorem Inv.turned {t' : Nat} {it : Addr} (I : Inv X pins σ H s) (k : ∀ b o, b ≠ it → s.heap.get? b = some o → h'.get? b = some o) (hn : H it = none) (hL : it ≠ X.env.locals)
    (h1 : it ∈ X.ex ∨ X.s_0.heap.objs.size ≤ it) (h2 : ∀ x c, X.env.cells.lookup x = some c → c ≠ it) (h3 : ∀ p ∈ X.pn ++ pins, p.1 ≠ it) : Inv X pins σ H { s with heap := h', toks := t' } := by
  have nit : ∀ b u, H b = some u → b ≠ it := fun b u e z => by rw [z, hn] at e; cases e
  refine I.step (g' := s.gens) (d' := s.drawn) (ch := [it]) (fun b hb => ?_) (fun b o _ _ hc e _ => k b o (fun z => hc (by simp [z])) e) (fun b o _ _ hc e _ => ⟨o.slots, k b o (fun z => hc (by simp [z])) e⟩) (fun _ _ _ _ n => n)
    (fun b o hc e => ⟨o, k b o (fun z => hc (by simp [z])) e⟩) (fun _ _ e => e) (fun _ _ _ e => e) (fun b ps e => ⟨#[], by rw [e]; simp⟩) (fun m hm => ?_) (fun b u e => ?_) I.bare
  · have e : b = it := by simpa using hb
    subst e
    exact ⟨h1, hL, h2, h3⟩
  · obtain ⟨o, es, ep, ho, r⟩ := hm
    exact ⟨o, es, ep, k _ o (Ne.symm hL) ho, r⟩
  · refine (I.hok b u e).stay (fun c v hc q => k c v ?_ q) (fun _ q => q) fun _ _ q => q
    rcases hc with z | z
    · rw [z]; exact nit b u e
    · exact nit c _ z
theorem Inv.tok (I : Inv X pins σ H s) (t : Nat) : Inv X pins σ H { s with toks := t } := I.un (h' := s.heap) (t' := t) Un.refl I.hok
theorem Inv.kept {t' : Nat} (I : Inv X pins σ H s) (k : ∀ b u, s.heap.get? b = some u → h'.get? b = some u) : Inv X pins σ H { s with heap := h', toks := t' } := I.un (Un.kept k) (I.hok.kept k)
theorem Inv.laid {a : Addr} {o : HO} {t' : Nat} (I : Inv X pins σ H s) (k : ∀ b u, s.heap.get? b = some u → h'.get? b = some u) (hp : s.heap.objs.size ≤ a) (new : ObjOk X.prog X.w (upd H a o) h' a o) :
    Inv X pins σ (upd H a o) { s with heap := h', toks := t' } := I.un (Un.laid k hp (I.hok.fresh hp)) (I.hok.laid k hp new)
theorem Inv.write {x e : Addr} {o : HO} {t' : Nat} (I : Inv X pins σ H s) (mu : Mut (H x)) (he : e = x ∨ H e = some (.own x)) (k : ∀ b u, b ≠ e → s.heap.get? b = some u → h'.get? b = some u) (heo : ∃ u, h'.get? e = some u)
    (new : ObjOk X.prog X.w (upd H x o) h' x o) : Inv X pins σ (upd H x o) { s with heap := h', toks := t' } := I.un (Un.write mu he k heo) (I.hok.write mu he k heo new)
theorem Inv.weak {σ' : List (Option V)} (I : Inv X pins σ H s) (hl : σ'.length = σ.length) (w : ∀ (i : Nat) v, σ'[i]? = some (some v) → σ[i]? = some (some v)) : Inv X pins σ' H s :=
  ⟨I.ok, I.os, I.bare, I.base, let ⟨m, hn, hl'⟩ := I.loc; ⟨m, hn, fun i x v e1 e2 e3 => hl' i x v e1 (w i v e2) e3⟩, I.cell, I.free, I.freeC, I.pin, I.hok, hl.trans I.len⟩
theorem Inv.pins_of {pins' : List (Addr × Obj)} (I : Inv X pins σ H s) (h : ∀ p ∈ pins', s.heap.get? p.1 = some p.2 ∧ H p.1 = none ∧ p.1 ≠ X.env.locals ∧ p.1 ∉ X.fs ∧ ∀ v, p.2.data ≠ .cell v) : Inv X pins' σ H s :=
  ⟨I.ok, I.os, I.bare, I.base, I.loc, I.cell, I.free, I.freeC, fun p hp => (List.mem_append.mp hp).elim (fun z => I.pin p (List.mem_append_left _ z)) (h p), I.hok, I.len⟩
theorem nodup_ix {N : List Str} (hN : N.Nodup) {i j : Nat} {x : Str} (a : N[i]? = some x) (b : N[j]? = some x) : i = j := by
  obtain ⟨h1, e1⟩ := List.getElem?_eq_some_iff.mp a
  obtain ⟨h2, e2⟩ := List.getElem?_eq_some_iff.mp b
  exact (List.getElem_inj hN).mp (e1.trans e2.symm)
theorem store_ok2 {M : Model} {A : Around} {E : Value → Shared → Prop} {i : Nat} {x : Str} {v : V} {u : Value} {Q : Unit → Shared → Prop} (I : Inv X pins σ H s) (hN : X.N.Nodup) (hi : X.N[i]? = some x) (hx : Loc X.env.scope x) (r : RelV v u)
    (h : ∀ s', Inv X pins (σ.set i (some v)) H s' → (∃ a, Heap.SameBut a s.heap s'.heap ∧ (a = X.env.locals ∨ X.env.cells.lookup x = some a)) → Q () s') (hf : X.fn x = true ∨ X.env.scope.names.lookup x = some .local := by first | exact .inl rfl | exact .inr rfl | assumption) : wpAny M A (storeName X.env x u) Q E s := by
  obtain ⟨m, hn, hl⟩ := id I.loc
  have hcls : (X.env.scope.kind == .class || (X.env.scope.kind == .module && X.env.locals != X.env.globals)) = false := by rw [I.ok.kind]; rfl
  have hiσ : i < σ.length := by rw [I.len]; exact (List.getElem?_eq_some_iff.mp hi).1
  have cne := I.cne
  have tracked : ∀ {a : Addr} {h' : Heap}, (∃ o, s.heap.get? a = some o ∧ H a = none) → Heap.SameBut a s.heap h' → HOk X.prog X.w H h' := fun {a h'} ha hs b ob e => by
    obtain ⟨_, _, hfree⟩ := ha
    refine (I.hok b ob e).stay (fun c w' hc q => (hs.2 c ?_).trans q) (fun _ q => q) fun _ _ q => q
    rintro rfl
    rcases hc with rfl | hc
    · rw [hfree] at e; cases e
    · rw [hfree] at hc; cases hc
  rcases hx with hk | hk
  · refine wpAny_storeName_local hk hn (fun h' hn' hs => ?_) hcls
    obtain ⟨oL, _, _, hoL, _⟩ := id hn
    refine h _ ⟨I.ok, I.os, I.bare, ⟨fun b o e n hb hx => ?_, fun b o e n hb hx => ?_, I.base.free, fun b o e hx => ?_, I.base.tups, I.base.frzs, I.base.tbls⟩, ⟨_, hn', fun j y v' e1 e2 e3 => ?_⟩, fun y c e => ?_, I.free, I.freeC, fun p hp => ?_, tracked ⟨oL, hoL, I.free⟩ hs, by simpa using I.len⟩ ⟨_, hs, .inl rfl⟩
    · exact (hs.2 b (Nat.ne_of_lt (Nat.lt_of_lt_of_le (Heap.lt_size e) I.ok.above))).trans (I.base.keep b o e n hb hx)
    · obtain ⟨sl, e1⟩ := I.base.slot b o e n hb hx
      exact ⟨sl, (hs.2 b (Nat.ne_of_lt (Nat.lt_of_lt_of_le (Heap.lt_size e) I.ok.above))).trans e1⟩
    · obtain ⟨o', e1⟩ := I.base.there b o e hx
      exact ⟨o', (hs.2 b (Nat.ne_of_lt (Nat.lt_of_lt_of_le (Heap.lt_size e) I.ok.above))).trans e1⟩
    · by_cases hj : j = i
      · subst hj
        rw [hi] at e1; cases e1
        rw [List.getElem?_set_self hiσ] at e2
        cases e2
        exact ⟨u, r, .inl ⟨hk, by simp⟩⟩
      · rw [List.getElem?_set_ne (Ne.symm hj)] at e2
        obtain ⟨u', r', q⟩ := hl j y v' e1 e2 e3
        refine ⟨u', r', ?_⟩
        rcases q with ⟨k, e⟩ | ⟨k, c, e, z⟩
        · refine .inl ⟨k, ?_⟩
          have : y ≠ x := fun e => hj (nodup_ix hN e1 (e ▸ hi))
          simp [this, e]
        · exact .inr ⟨k, c, e, z.sameBut hs (cne y c e)⟩
    · obtain ⟨w', z⟩ := I.cell y c e
      exact ⟨w', z.sameBut hs (cne y c e)⟩
    · obtain ⟨e, n, ne, nf, d⟩ := I.pin p hp
      exact ⟨(hs.2 p.1 ne).trans e, n, ne, nf, d⟩
  · have hfn : X.fn x = true := by
      rcases hf with z | z
      · exact z
      · rw [z] at hk; cases hk
    obtain ⟨c, hc⟩ := I.ok.has x (.inl hk)
    obtain ⟨w', z⟩ := I.cell x c hc
    refine wpAny_storeName_cell I.ok.kind hk hc z (fun h' hc' hs => ?_)
    obtain ⟨oc, hoc, hocd⟩ := id z
    refine h { s with heap := h' } ⟨I.ok, I.os, I.bare, ⟨fun b o e n hb hx => ?_, fun b o e n hb hx => ?_, I.base.free, fun b o e hx => ?_, I.base.tups, I.base.frzs, I.base.tbls⟩, ⟨m, hn.sameBut hs (Ne.symm (cne x c hc)), fun j y v' e1 e2 e3 => ?_⟩, fun y c' e => ?_, I.free, I.freeC, fun p hp => ?_, tracked ⟨oc, hoc, I.freeC x c hc⟩ hs, by simpa using I.len⟩ ⟨c, hs, .inr hc⟩
    · exact (hs.2 b (Nat.ne_of_lt (Nat.lt_of_lt_of_le (Heap.lt_size e) (I.ok.cab x c hfn hc)))).trans (I.base.keep b o e n hb hx)
    · obtain ⟨sl, e1⟩ := I.base.slot b o e n hb hx
      exact ⟨sl, (hs.2 b (Nat.ne_of_lt (Nat.lt_of_lt_of_le (Heap.lt_size e) (I.ok.cab x c hfn hc)))).trans e1⟩
    · obtain ⟨o', e1⟩ := I.base.there b o e hx
      exact ⟨o', (hs.2 b (Nat.ne_of_lt (Nat.lt_of_lt_of_le (Heap.lt_size e) (I.ok.cab x c hfn hc)))).trans e1⟩
    · by_cases hj : j = i
      · subst hj
        rw [hi] at e1; cases e1
        rw [List.getElem?_set_self hiσ] at e2
        cases e2
        exact ⟨u, r, .inr ⟨.inl hk, c, hc, hc'⟩⟩
      · rw [List.getElem?_set_ne (Ne.symm hj)] at e2
        obtain ⟨u', r', q⟩ := hl j y v' e1 e2 e3
        refine ⟨u', r', ?_⟩
        rcases q with q | ⟨k, c', e, z'⟩
        · exact .inl q
        · refine .inr ⟨k, c', e, z'.sameBut hs ?_⟩
          rintro rfl
          exact hj (nodup_ix hN e1 (I.ok.inj _ _ _ e hc ▸ hi))
    · by_cases hcc : c' = c
      · subst hcc; exact ⟨_, hc'⟩
      · obtain ⟨w2, z2⟩ := I.cell y c' e
        exact ⟨w2, z2.sameBut hs hcc⟩
    · obtain ⟨e, n, ne, nf, d⟩ := I.pin p hp
      refine ⟨(hs.2 p.1 ?_).trans e, n, ne, nf, d⟩
      intro q
      rw [q, hoc] at e
      have q' : oc = p.2 := Option.some.inj e
      exact d w' (by rw [← q']; exact hocd)
theorem store_ok {M : Model} {A : Around} {E : Value → Shared → Prop} {i : Nat} {x : Str} {v : V} {u : Value} {Q : Unit → Shared → Prop} (I : Inv X pins σ H s) (hN : X.N.Nodup) (hi : X.N[i]? = some x) (hx : Loc X.env.scope x) (r : RelV v u)
    (h : ∀ s', Inv X pins (σ.set i (some v)) H s' → Q () s') (hf : X.fn x = true ∨ X.env.scope.names.lookup x = some .local := by first | exact .inl rfl | exact .inr rfl | assumption) : wpAny M A (storeName X.env x u) Q E s :=
  store_ok2 I hN hi hx r (fun s' I' _ => h s' I') hf
theorem Inv.call' {s' : Shared} {ch : List Addr} (I : Inv X pins σ H s) (ho : s'.os = s.os) (u : Un (frs X.stack) ch H H' s.heap s'.heap) (hok : HOk X.prog X.w H' s'.heap) (hg : AllBare s'.gens)
    (hch : ∀ b ∈ ch, (b ∈ X.ex ∨ X.s_0.heap.objs.size ≤ b) ∧ b ≠ X.env.locals ∧ (∀ x c, X.env.cells.lookup x = some c → c ≠ b) ∧ ∀ p ∈ X.pn ++ pins, p.1 ≠ b) : Inv X pins σ H' s' := by
  obtain ⟨h', g', d', t', o'⟩ := s'
  have e : o' = s.os := ho
  subst e
  exact I.call (g' := g') (t' := t') (d' := d') u hok hg hch
end
abbrev XK := Value → Option Addr → Hp → Prop
abbrev St := List (Option V)
abbrev VK := V → Hp → Prop
abbrev TE := St → Hp → VK → Prop
abbrev TT := St → Hp → (Bool → Hp → Prop) → Prop
abbrev TA := St → Hp → (List V → Hp → Prop) → Prop
structure Ends where
  nx : St → Hp → Prop
  rt : VK
  bk : St → Hp → Prop := fun _ _ => False
  ct : St → Hp → Prop := fun _ _ => False
abbrev TS := Ends → St → Hp → Prop
def EP (X : Cx) (pins : List (Addr × Obj)) (σ : St) (Q : VK) (u : Value) (s' : Shared) : Prop := ∃ v H', Inv X pins σ H' s' ∧ RelV v u ∧ Q v H'
def TP (X : Cx) (pins : List (Addr × Obj)) (σ : St) (Q : Bool → Hp → Prop) (b : Bool) (s' : Shared) : Prop := ∃ H', Inv X pins σ H' s' ∧ Q b H'
def AP (X : Cx) (pins : List (Addr × Obj)) (σ : St) (Q : List V → Hp → Prop) (us : List Value) (s' : Shared) : Prop := ∃ vs H', Inv X pins σ H' s' ∧ Vals vs us ∧ Q vs H'
def SP (X : Cx) (pins : List (Addr × Obj)) (D : Ends) (f : Flow) (s' : Shared) : Prop :=
  match f with
  | .next => ∃ σ' H', Inv X pins σ' H' s' ∧ D.nx σ' H'
  | .brk => ∃ σ' H', Inv X pins σ' H' s' ∧ D.bk σ' H'
  | .cont => ∃ σ' H', Inv X pins σ' H' s' ∧ D.ct σ' H'
  | .ret u => ∃ v σ' H', Inv X pins σ' H' s' ∧ RelV v u ∧ D.rt v H'
def PE (X : Cx) (e : Expr) (t : TE) : Prop :=
  ∀ (pins : List (Addr × Obj)) (s : Shared) (σ : St) (H : Hp) (Q : VK), Inv X pins σ H s → t σ H Q → wpAny (model X.prog X.w) X.A (eval e X.env) (EP X pins σ Q) X.xe s
def PT (X : Cx) (e : Expr) (t : TT) : Prop :=
  ∀ (pins : List (Addr × Obj)) (s : Shared) (σ : St) (H : Hp) (Q : Bool → Hp → Prop), Inv X pins σ H s → t σ H Q → wpAny (model X.prog X.w) X.A (isTrue e X.env (eval e X.env)) (TP X pins σ Q) X.xe s
def PW (X : Cx) (e : Expr) (t : TT) : Prop :=
  ∀ (whole : Sem Value) (pins : List (Addr × Obj)) (s : Shared) (σ : St) (H : Hp) (Q : Bool → Hp → Prop), Inv X pins σ H s → t σ H Q → wpAny (model X.prog X.w) X.A (isTrue e X.env whole) (TP X pins σ Q) X.xe s
theorem PW.pt {X : Cx} {e : Expr} {t : TT} (h : PW X e t) : PT X e t := h _
def PA (X : Cx) (es : List Expr) (t : TA) : Prop :=
  ∀ (pos : Pos) (pins : List (Addr × Obj)) (s : Shared) (σ : St) (H : Hp) (Q : List V → Hp → Prop), Inv X pins σ H s → t σ H Q → wpAny (model X.prog X.w) X.A (spliced (backTo pos (starEach es X.env))) (AP X pins σ Q) X.xe s
def PS (X : Cx) (st : Stmt) (t : TS) : Prop :=
  ∀ (pins : List (Addr × Obj)) (s : Shared) (σ : St) (H : Hp) (D : Ends), Inv X pins σ H s → t D σ H → wpAny (model X.prog X.w) X.A (exec st X.env) (SP X pins D) X.xe s
def PSs (X : Cx) (st : List Stmt) (t : TS) : Prop :=
  ∀ (pins : List (Addr × Obj)) (s : Shared) (σ : St) (H : Hp) (D : Ends), Inv X pins σ H s → t D σ H → wpAny (model X.prog X.w) X.A (execs st X.env) (SP X pins D) X.xe s
theorem thn {α : Type} {t : Sem α} {Q Q' : α → Shared → Prop} {M : Model} {A : Around} {E : Value → Shared → Prop} {s : Shared} (h : wpAny M A t Q E s) (hQ : ∀ a s, Q a s → Q' a s) : wpAny M A t Q' E s := wpAny_mono h hQ fun _ _ x => x
end L2
namespace L2
open PySem PySem.Spec PyProof.Rows
section
variable {X : Cx}
def tVar (i : Nat) : TE := fun σ H Q => ∃ v, σ[i]? = some (some v) ∧ Q v H
def tC (v : V) : TE := fun _ H Q => Q v H
theorem pe_var {i : Nat} {x : Str} {pos : Pos} (hN : X.N[i]? = some x) (hv : Vis X.env.scope x) (hd : (x == ("__debug__" : Str)) = false := by decide) (hcd : (x == ("__classdict__" : Str)) = false := by decide) : PE X (.Name x pos) (tVar i) := by
  intro pins s σ H Q I h
  obtain ⟨v, e, h⟩ := h
  obtain ⟨m, hn, hl⟩ := I.loc
  obtain ⟨u, r, l⟩ := hl i x v hN e hv
  have fin : EP X pins σ Q u s := ⟨v, H, I, r, h⟩
  rcases l with ⟨hk, hm⟩ | ⟨hk, c, hc, hcell⟩
  · exact wpAny_Name (wpAny_loadName_local I.ok.kind hk hn hm fin) hd
  · rcases hk with hk | hk
    · exact wpAny_Name (wpAny_loadName_cell I.ok.kind hk hc hcell fin) hd
    · exact wpAny_Name (wpAny_loadName_free I.ok.kind hk hc hcell fin hcd) hd
theorem pe_int {i j pos} : PE X (.Constant (.int i) j pos) (tC (.int i)) := fun _ _ _ H _ I h => wpAny_Constant_int ⟨.int i, H, I.tok _, ⟨_, rfl⟩, h⟩
theorem pe_bl {b j pos} : PE X (.Constant (.bool b) j pos) (tC (.bl b)) := fun _ _ _ H _ I h => Constant_bool ⟨.bl b, H, I, rfl, h⟩
theorem pe_non {j pos} : PE X (.Constant .none j pos) (tC .non) := fun _ _ _ H _ I h => Constant_none ⟨.non, H, I, rfl, h⟩
theorem pe_str {x j pos} : PE X (.Constant (.str x) j pos) (tC (.str x)) := fun _ _ _ H _ I h => Calls.Constant_str ⟨.str x, H, I.tok _, ⟨_, rfl⟩, h⟩
def Gl (X : Cx) (x : Str) : Prop := X.env.kindOf x = some .globalImplicit
theorem ld_glob {E : Value → Shared → Prop} {pins : List (Addr × Obj)} {s : Shared} {σ : St} {H : Hp} {x : Str} {u : Value} {pos : Pos} {Q : Value → Shared → Prop} (I : Inv X pins σ H s) (hg : Gl X x) (hm : X.mg x = some u) (h : Q u s)
    (hd : (x == ("__debug__" : Str)) = false := by decide) : wpAny (model X.prog X.w) X.A (eval (.Name x pos) X.env) Q E s :=
  Calls.Name_function_global I.ok.kind hg (Calls.loadGlobal_global (by rw [I.ok.glob]; exact I.mod.glob.keeps I.bk) hm h) hd
theorem ld_blt {E : Value → Shared → Prop} {pins : List (Addr × Obj)} {s : Shared} {σ : St} {H : Hp} {x : Str} {u : Value} {pos : Pos} {Q : Value → Shared → Prop} (I : Inv X pins σ H s) (hg : Gl X x) (hm : X.mg x = none) (hv : bootBuiltins x = some u) (h : Q u s)
    (hn : x ≠ "__name__" := by decide) (hd : (x == ("__debug__" : Str)) = false := by decide) : wpAny (model X.prog X.w) X.A (eval (.Name x pos) X.env) Q E s := by
  obtain ⟨mb, h1, h2⟩ := I.mod.blt
  exact Calls.Name_function_global I.ok.kind hg (Calls.loadGlobal_builtin (by rw [I.ok.glob]; exact I.mod.glob.keeps I.bk) hm (by rw [I.ok.blt]; exact h1.keeps I.bk) ((h2 x hn).trans hv) h) hd
theorem pe_glob {x : Str} {v : V} {u : Value} {pos : Pos} (hg : Gl X x) (hm : X.mg x = some u) (r : RelV v u) (hd : (x == ("__debug__" : Str)) = false := by decide) : PE X (.Name x pos) (tC v) :=
  fun _ _ _ H _ I h => ld_glob I hg hm ⟨v, H, I, r, h⟩ hd
theorem pe_bltn {x : Str} {v : V} {u : Value} {pos : Pos} (hg : Gl X x) (hm : X.mg x = none) (hv : bootBuiltins x = some u) (r : RelV v u) (hn : x ≠ "__name__" := by decide) (hd : (x == ("__debug__" : Str)) = false := by decide) : PE X (.Name x pos) (tC v) :=
  fun _ _ _ H _ I h => ld_blt I hg hm hv ⟨v, H, I, r, h⟩ hn hd
variable {a b : Expr} {ta tb : TE} {pos : Pos}
def tB (t : TE) : TT := fun σ H Q => t σ H fun x H1 => ∃ c, x = .bl c ∧ Q c H1
theorem pt_val {e : Expr} {t : TE} (h : PE X e t) (he : ∀ whole, isTrue e X.env whole = (do let v ← whole; standAt e.pos; holding [v] (truthy v)) := by intro _; rfl) : PT X e (tB t) := by
  intro pins s σ H Q I hw
  refine isTrue_plain (thn (h pins s σ H _ I hw) fun v s1 ⟨x, H1, I1, r1, q1⟩ => ?_) (he _)
  obtain ⟨d, rfl, q⟩ := q1
  cases r1
  exact wpAny_truthy_bool ⟨H1, I1, q⟩
variable {tA tB' : TT} {rest : List Expr}
def tAnd (t u : TT) : TT := fun σ H Q => t σ H fun c H1 => if c = true then u σ H1 Q else Q false H1
def tOr (t u : TT) : TT := fun σ H Q => t σ H fun c H1 => if c = true then Q true H1 else u σ H1 Q
def tNot (t : TT) : TT := fun σ H Q => t σ H fun c H1 => Q (!c) H1
theorem pw_and1 (ha : PT X a tA) : PW X (.BoolOp .And [a] pos) tA := by
  intro wh pins s σ H Q I h
  refine isTrue_and (thn (ha pins s σ H Q I h) fun c s1 e => ?_)
  cases c with
  | true => exact isTrue_and_nil e
  | false => exact e
theorem pw_or1 (ha : PT X a tA) : PW X (.BoolOp .Or [a] pos) tA := by
  intro wh pins s σ H Q I h
  refine isTrue_or (thn (ha pins s σ H Q I h) fun c s1 e => ?_)
  cases c with
  | false => exact isTrue_or_nil e
  | true => exact e
theorem pw_and (ha : PT X a tA) (hb : PW X (.BoolOp .And (b :: rest) pos) tB') : PW X (.BoolOp .And (a :: b :: rest) pos) (tAnd tA tB') := by
  intro wh pins s σ H Q I h
  refine isTrue_and (thn (ha pins s σ H _ I h) fun c s1 ⟨H1, I1, q1⟩ => ?_)
  cases c with
  | true => exact hb wh pins s1 σ H1 Q I1 q1
  | false => exact ⟨H1, I1, q1⟩
theorem pw_or (ha : PT X a tA) (hb : PW X (.BoolOp .Or (b :: rest) pos) tB') : PW X (.BoolOp .Or (a :: b :: rest) pos) (tOr tA tB') := by
  intro wh pins s σ H Q I h
  refine isTrue_or (thn (ha pins s σ H _ I h) fun c s1 ⟨H1, I1, q1⟩ => ?_)
  cases c with
  | true => exact ⟨H1, I1, q1⟩
  | false => exact hb wh pins s1 σ H1 Q I1 q1
theorem pt_not (ha : PT X a tA) : PT X (.UnaryOp .Not a pos) (tNot tA) := by
  intro pins s σ H Q I h
  exact isTrue_not (ha pins s σ H (fun c H1 => Q (!c) H1) I h)
def tAndV (ta tb : TE) : TE := fun σ H Q => ta σ H fun x H1 => ∃ c, x = .bl c ∧ if c = true then tb σ H1 Q else Q (.bl false) H1
def tOrV (ta tb : TE) : TE := fun σ H Q => ta σ H fun x H1 => ∃ c, x = .bl c ∧ if c = true then Q (.bl true) H1 else tb σ H1 Q
theorem pe_one {op} {t : TE} (h : PE X a t) : PE X (.BoolOp op [a] pos) t := fun pins s σ H Q I hw => BoolOp_one (h pins s σ H Q I hw)
theorem pe_and (ha : PE X a ta) (hb : PE X (.BoolOp .And (b :: rest) pos) tb) : PE X (.BoolOp .And (a :: b :: rest) pos) (tAndV ta tb) := by
  intro pins s σ H Q I h
  refine BoolOp_and (thn (ha pins s σ H _ I h) fun v s1 ⟨x, H1, I1, r1, q1⟩ => ?_)
  obtain ⟨c, rfl, q1⟩ := q1
  cases r1
  refine wpAny_truthy_bool ?_
  cases c with
  | true => exact hb pins s1 σ H1 Q I1 q1
  | false => exact ⟨.bl false, H1, I1, rfl, q1⟩
theorem pe_or (ha : PE X a ta) (hb : PE X (.BoolOp .Or (b :: rest) pos) tb) : PE X (.BoolOp .Or (a :: b :: rest) pos) (tOrV ta tb) := by
  intro pins s σ H Q I h
  refine BoolOp_or (thn (ha pins s σ H _ I h) fun v s1 ⟨x, H1, I1, r1, q1⟩ => ?_)
  obtain ⟨c, rfl, q1⟩ := q1
  cases r1
  refine wpAny_truthy_bool ?_
  cases c with
  | false => exact hb pins s1 σ H1 Q I1 q1
  | true => exact ⟨.bl true, H1, I1, rfl, q1⟩
end
end L2
namespace L2
open PySem PySem.Spec PyProof.Rows
def SqL (K : PySem.W.Frag) (H : Hp) (a : Addr) (xs : List V) : Prop :=
  Rd H a (.lst xs) ∨
    ∃ (o : Obj) (its : Array Value) (n : Nat), K.lookup a = some o ∧ o.cls = .type "list" ∧ o.dict = none ∧ o.data = .seq its n ∧ its.size ≤ sizeLine ∧ Vals xs its.toList
def SqT (K : PySem.W.Frag) (H : Hp) (a : Addr) (xs : List V) : Prop :=
  Rd H a (.tup xs) ∨
    ∃ (o : Obj) (its : Array Value) (n : Nat), K.lookup a = some o ∧ o.cls = .type "tuple" ∧ o.data = .seq its n ∧ its.size ≤ sizeLine ∧ Vals xs its.toList
def absV : Value → Option V
  | .none => some .non
  | .bool b => some (.bl b)
  | .int i _ => some (.int i)
  | .str x _ => some (.str x)
  | .bytes b _ => some (.byt b)
  | .float b _ => some (.flt b)
  | .ref a => some (.ref a)
  | .type n => some (.ty n)
  | _ => none
theorem RelV.abs {x : V} {u : Value} (r : RelV x u) : absV u = some x := by
  cases x with
  | non => cases r; rfl
  | bl _ => cases r; rfl
  | int _ => obtain ⟨t, rfl⟩ := r; rfl
  | str _ => obtain ⟨t, rfl⟩ := r; rfl
  | byt _ => obtain ⟨t, rfl⟩ := r; rfl
  | flt _ => obtain ⟨t, rfl⟩ := r; rfl
  | ref _ => cases r; rfl
  | ty _ => cases r; rfl
theorem RelV.inj {x y : V} {u : Value} (r : RelV x u) (q : RelV y u) : x = y := Option.some.inj (r.abs.symm.trans q.abs)
theorem Vals.inj : ∀ {xs ys : List V} {us : List Value}, Vals xs us → Vals ys us → xs = ys
  | _, _, _, .nil, .nil => rfl
  | _, _, _, .cons r t, .cons r' t' => by rw [r.inj r', Vals.inj t t']
section
variable {X : Cx} {pins : List (Addr × Obj)} {σ : St} {H : Hp} {s : Shared} {a : Addr} {xs ys : List V}
theorem SqL.of {K : PySem.W.Frag} (h : H a = some (.lst xs)) : SqL K H a xs := .inl (.inl h)
theorem SqT.of {K : PySem.W.Frag} (h : H a = some (.tup xs)) : SqT K H a xs := .inl (.inl h)
theorem Inv.list (I : Inv X pins σ H s) (h : SqL X.K H a xs) : ∃ its : List Value, Vals xs its ∧ PlainL s.heap a its.toArray ∧ xs.length ≤ sizeLine := by
  rcases h with h | ⟨o, its, n, hk, hc, hd, hs, hz, r⟩
  · obtain ⟨z, its, n, r, e⟩ := h.ok I.hok
    exact ⟨its, r, ⟨_, n, e, rfl, rfl, rfl⟩, z⟩
  · refine ⟨its.toList, r, ⟨o, n, I.kIn a o hk, hc, hd, by simpa using hs⟩, ?_⟩
    have e := r.length
    simp only [Array.length_toList] at e
    omega
theorem Inv.tuple (I : Inv X pins σ H s) (h : SqT X.K H a xs) : ∃ its : List Value, Vals xs its ∧ IsTup s.heap a its.toArray ∧ xs.length ≤ sizeLine := by
  rcases h with h | ⟨o, its, n, hk, hc, hs, hz, r⟩
  · obtain ⟨z, its, r, p⟩ := h.ok I.hok
    exact ⟨its, r, p, z⟩
  · refine ⟨its.toList, r, ⟨o, I.kIn a o hk, hc, n, by simpa using hs⟩, ?_⟩
    have e := r.length
    simp only [Array.length_toList] at e
    omega
theorem Inv.list_inj (I : Inv X pins σ H s) (h : SqL X.K H a xs) (h' : SqL X.K H a ys) : xs = ys := by
  obtain ⟨its, r, ⟨o, n, e, _, _, d⟩, _⟩ := I.list h
  obtain ⟨its', r', ⟨o', n', e', _, _, d'⟩, _⟩ := I.list h'
  rw [e] at e'; cases e'
  rw [d] at d'
  injection d' with d1 _
  have : its = its' := by simpa using congrArg Array.toList d1
  subst this
  exact r.inj r'
theorem Inv.tuple_inj (I : Inv X pins σ H s) (h : SqT X.K H a xs) (h' : SqT X.K H a ys) : xs = ys := by
  obtain ⟨its, r, ⟨o, e, _, n, d⟩, _⟩ := I.tuple h
  obtain ⟨its', r', ⟨o', e', _, n', d'⟩, _⟩ := I.tuple h'
  rw [e] at e'; cases e'
  rw [d] at d'
  injection d' with d1 _
  have : its = its' := by simpa using congrArg Array.toList d1
  subst this
  exact r.inj r'
end
abbrev Cx.wish (X : Cx) (E : Value → Shared → Prop) : Cx := { X with xe := E }
abbrev Cx.nox (X : Cx) : Cx := X.wish fun _ _ => False
theorem Cx.Ok.wish {X : Cx} (ok : X.Ok) (E : Value → Shared → Prop) : (X.wish E).Ok :=
  ⟨ok.mod, ok.kind, ok.glob, ok.blt, ok.above, ok.inj, ok.has, ok.cab, ok.hd, ok.frames, ok.stk, ok.exf, ok.bs, ok.bsz, ok.noex, ok.exfs, ok.funs, ok.frf⟩
theorem Cx.Ok.unwish {X : Cx} {E : Value → Shared → Prop} (ok : (X.wish E).Ok) : X.Ok :=
  ⟨ok.mod, ok.kind, ok.glob, ok.blt, ok.above, ok.inj, ok.has, ok.cab, ok.hd, ok.frames, ok.stk, ok.exf, ok.bs, ok.bsz, ok.noex, ok.exfs, ok.funs, ok.frf⟩
section
variable {X : Cx} {pins : List (Addr × Obj)} {σ : St} {H : Hp} {s : Shared} {E : Value → Shared → Prop}
theorem Inv.wish (I : Inv X pins σ H s) (E : Value → Shared → Prop) : Inv (X.wish E) pins σ H s := ⟨I.ok.wish E, I.os, I.bare, I.base, I.loc, I.cell, I.free, I.freeC, I.pin, I.hok, I.len⟩
theorem Inv.unwish (I : Inv (X.wish E) pins σ H s) : Inv X pins σ H s := ⟨I.ok.unwish, I.os, I.bare, I.base, I.loc, I.cell, I.free, I.freeC, I.pin, I.hok, I.len⟩
theorem SP.unwish {D : Ends} {f : Flow} {s' : Shared} (h : SP (X.wish E) pins D f s') : SP X pins D f s' := by
  cases f with
  | next => obtain ⟨σ', H', I, q⟩ := h; exact ⟨σ', H', I.unwish, q⟩
  | brk => obtain ⟨σ', H', I, q⟩ := h; exact ⟨σ', H', I.unwish, q⟩
  | cont => obtain ⟨σ', H', I, q⟩ := h; exact ⟨σ', H', I.unwish, q⟩
  | ret u => obtain ⟨v, σ', H', I, r, q⟩ := h; exact ⟨v, σ', H', I.unwish, r, q⟩
theorem PSs.nox {st : List Stmt} {t : TS} (h : PSs X.nox st t) : PSs X st t := fun pins s σ H D I hw =>
  wpAny_mono (h pins s σ H D (I.wish _) hw) (fun _ _ q => q.unwish) fun _ _ z => False.elim z
end
section
variable {X : Cx} {st : Stmt} {rest : List Stmt} {t u : TS} {e : Expr} {te : TE} {pos : Pos}
def tNext : TS := fun D σ H => D.nx σ H
def tSeq (t u : TS) : TS := fun D σ H => t { D with nx := u D } σ H
theorem pss_nil : PSs X [] tNext := fun _ _ σ H _ I h => wpAny_execs_nil ⟨σ, H, I, h⟩
theorem pss_cons (h1 : PS X st t) (h2 : PSs X rest u) : PSs X (st :: rest) (tSeq t u) := by
  intro pins s σ H D I h
  refine wpAny_execs_cons (thn (h1 pins s σ H { D with nx := u D } I h) fun f s1 q => ?_)
  cases f with
  | next =>
    obtain ⟨σ', H', I', q⟩ := q
    exact h2 pins s1 σ' H' D I' q
  | ret v => exact q
  | brk => exact q
  | cont => exact q
theorem pss_one (h1 : PS X st t) : PSs X [st] t := by
  intro pins s σ H D I h
  refine wpAny_execs_cons (thn (h1 pins s σ H D I h) fun f s1 q => ?_)
  cases f with
  | next => exact wpAny_execs_nil q
  | ret v => exact q
  | brk => exact q
  | cont => exact q
theorem Inv.quiet {pins : List (Addr × Obj)} {σ : St} {H : Hp} {s : Shared} (I : Inv X pins σ H s) : interactive X.env = false := by simp [interactive, I.ok.kind]
def tDrop (te : TE) : TS := fun D σ H => te σ H fun _ H1 => D.nx σ H1
theorem ps_expr (he : PE X e te) (hs : swapsWith e none pos.line X.env = pure false := by rfl) : PS X (.Expr e pos) (tDrop te) := by
  intro pins s σ H D I h
  exact wpAny_Expr_any (thn (he pins s σ H _ I h) fun v s1 ⟨x, H1, I1, r1, q1⟩ => ⟨σ, H1, I1, q1⟩) I.quiet hs
def tRet (te : TE) : TS := fun D σ H => te σ H D.rt
theorem ps_ret (he : PE X e te) : PS X (.Return (some e) pos) (tRet te) := by
  intro pins s σ H D I h
  exact wpAny_Return_some (thn (he pins s σ H _ I h) fun v s1 ⟨x, H1, I1, r1, q1⟩ => ⟨x, σ, H1, I1, r1, q1⟩)
def tIfS (c : TT) (t u : TS) : TS := fun D σ H => c σ H fun b H1 => if b = true then t D σ H1 else u D σ H1
theorem ps_if {c : Expr} {a b : List Stmt} {tc : TT} (hc : PT X c tc) (ha : PSs X a t) (hb : PSs X b u) : PS X (.If c a b pos) (tIfS tc t u) := by
  intro pins s σ H D I h
  refine wpAny_If (thn (hc pins s σ H _ I h) fun d s1 ⟨H1, I1, q1⟩ => ?_)
  cases d with
  | true => exact ha pins s1 σ H1 D I1 q1
  | false => exact hb pins s1 σ H1 D I1 q1
def tNever : TS := fun _ _ _ => False
theorem ps_never : PS X st tNever := fun _ _ _ _ _ _ h => h.elim
end
abbrev TG := V → St → Hp → (St → Hp → Prop) → Prop
abbrev TGs := List V → St → Hp → (St → Hp → Prop) → Prop
def PG (X : Cx) (target : Expr) (t : TG) : Prop :=
  ∀ (pins : List (Addr × Obj)) (s : Shared) (σ : St) (H : Hp) (v : V) (u : Value) (Q : St → Hp → Prop), Inv X pins σ H s → RelV v u → t v σ H Q →
    wpAny (model X.prog X.w) X.A (assign target X.env u) (fun _ s' => ∃ σ' H', Inv X pins σ' H' s' ∧ Q σ' H') X.xe s
def PGs (X : Cx) (ts : List Expr) (t : TGs) : Prop :=
  ∀ (pins : List (Addr × Obj)) (s : Shared) (σ : St) (H : Hp) (vs : List V) (us : List Value) (Q : St → Hp → Prop), Inv X pins σ H s → Vals vs us → t vs σ H Q →
    wpAny (model X.prog X.w) X.A (assignInOrder ((assignEach ts X.env).map (·.2)) us) (fun _ s' => ∃ σ' H', Inv X pins σ' H' s' ∧ Q σ' H') X.xe s
abbrev TSet := V → V → V → Hp → (Hp → Prop) → Prop
def PSet (X : Cx) (t : TSet) : Prop :=
  ∀ (pins : List (Addr × Obj)) (s : Shared) (σ : St) (H : Hp) (o i v : V) (ov iv u : Value) (Q : Hp → Prop), Inv X pins σ H s → RelV o ov → RelV i iv → RelV v u → t o i v H Q →
    wpAny (model X.prog X.w) X.A (setItem ov iv u) (fun _ s' => ∃ H', Inv X pins σ H' s' ∧ Q H') X.xe s
section
variable {X : Cx} {pos : Pos}
def gName (i : Nat) : TG := fun v σ H Q => Q (σ.set i (some v)) H
theorem pg_name {i : Nat} {x : Str} (hN : X.N.Nodup) (hi : X.N[i]? = some x) (hx : Loc X.env.scope x) (hf : X.fn x = true ∨ X.env.scope.names.lookup x = some .local := by first | exact .inl rfl | exact .inr rfl | assumption) : PG X (.Name x pos) (gName i) := by
  intro pins s σ H v u Q I r h
  exact wpAny_assign_Name (store_ok I hN hi hx r (fun s' I' => ⟨_, H, I', h⟩) hf)
def gNil : TGs := fun vs σ H Q => vs = [] ∧ Q σ H
def gCons (t : TG) (u : TGs) : TGs := fun vs σ H Q => ∃ v r, vs = v :: r ∧ t v σ H fun σ' H' => u r σ' H' Q
theorem pgs_nil : PGs X [] gNil := by
  intro pins s σ H vs us Q I r h
  obtain ⟨e, h⟩ := h
  subst e
  cases r
  exact assignInOrder_nil ⟨σ, H, I, h⟩
theorem pgs_cons {e : Expr} {es : List Expr} {t : TG} {u : TGs} (h1 : PG X e t) (h2 : PGs X es u)
    (hs : (assignEach (e :: es) X.env).map (·.2) = assign e X.env :: (assignEach es X.env).map (·.2) := by rfl) : PGs X (e :: es) (gCons t u) := by
  intro pins s σ H vs us Q I r h
  obtain ⟨v, vr, e1, h⟩ := h
  subst e1
  cases r with
  | cons r rr =>
    rw [hs]
    refine assignInOrder_cons (thn (h1 pins s σ H _ _ _ I r h) fun _ s1 ⟨σ1, H1, I1, q1⟩ => ?_)
    exact h2 pins s1 σ1 H1 _ _ Q I1 rr q1
def gTup (K : PySem.W.Frag) (n : Nat) (t : TGs) : TG := fun v σ H Q => ∃ a xs, v = .ref a ∧ SqT K H a xs ∧ xs.length = n ∧ t xs σ H Q
theorem pg_tup {es : List Expr} {k : Nat} {t : TGs} {n : Nat} (hc : X.calm = true) (h : PGs X es t)
    (hn : (assignEach es X.env).length = n := by rfl) (hst : (assignEach es X.env).findIdx? (·.1) = none := by rfl) : PG X (.Tuple es k pos) (gTup X.K n t) := by
  intro pins s σ H v u Q I r hw
  obtain ⟨a, xs, e1, hq, hl, hw⟩ := hw
  subst e1
  cases r
  obtain ⟨its, rv, ht, hz⟩ := I.tuple hq
  refine assign_Tuple_tuple (I.ok.hd hc) ht (by simp [hn, ← hl, rv.length]) hst fun h' hx => ?_
  have I1 : Inv X pins σ H { s with heap := h' } := I.kept (t' := s.toks) fun b o e => hx b o (Nat.ne_of_lt (Heap.lt_size e)) e
  exact h pins _ σ H xs _ Q I1 (by simpa using rv) hw
def gSub (to ti : TE) (t : TSet) : TG := fun v σ H Q => to σ H fun o H1 => ti σ H1 fun i H2 => t o i v H2 fun H3 => Q σ H3
theorem pg_sub {o i : Expr} {to ti : TE} {t : TSet} (ho : PE X o to) (hi : PE X i ti) (hs : PSet X t)
    (ha : ∀ v, assign (.Subscript o i pos) X.env v = (do
      let ov ← holding [v] (eval o X.env)
      let iv ← holding [v, ov] (eval i X.env)
      standAt pos
      holding [v, ov, iv] (setItem ov iv v)
      release [v, ov, iv] []) := by intro _; rfl) : PG X (.Subscript o i pos) (gSub to ti t) := by
  intro pins s σ H v u Q I r h
  rw [ha]
  refine wpAny_bind (wpAny_holding (thn (ho pins s σ H _ I h) fun ov s1 ⟨x, H1, I1, r1, q1⟩ => ?_))
  refine wpAny_bind (wpAny_holding (thn (hi pins s1 σ H1 _ I1 q1) fun iv s2 ⟨y, H2, I2, r2, q2⟩ => ?_))
  refine wpAny_bind (wpAny_standAt (wpAny_bind (wpAny_holding (thn (hs pins s2 σ H2 x y v ov iv u _ I2 r1 r2 r q2) fun _ s3 ⟨H3, I3, q3⟩ => ?_))))
  exact wpAny_release ⟨σ, H3, I3, q3⟩
def tAsg (te : TE) (g : TG) : TS := fun D σ H => te σ H fun x H1 => g x σ H1 D.nx
theorem ps_asg {tg e : Expr} {te : TE} {g : TG} (he : PE X e te) (hg : PG X tg g) (hs : swapsWithSole [tg] e pos.line X.env = pure false := by rfl) (hw : swappedStores [tg] e X.env = pure none := by rfl)
    (h1 : (assignEach [tg] X.env).map (·.2) = [assign tg X.env] := by rfl) : PS X (.Assign [tg] e pos) (tAsg te g) := by
  intro pins s σ H D I h
  refine wpAny_Assign_stores (thn (he pins s σ H _ I h) fun v s1 ⟨x, H1, I1, r1, q1⟩ => ?_) hs hw
  rw [h1]
  exact thn (hg pins s1 σ H1 x v _ I1 r1 q1) fun _ s2 q => q
theorem ps_set {i : Nat} {x : Str} {e : Expr} {te : TE} {pos' : Pos} (hN : X.N.Nodup) (hi : X.N[i]? = some x) (hx : Loc X.env.scope x) (he : PE X e te) (hs : swapsWith e (some (.Name x pos')) pos.line X.env = pure false := by rfl) (hf : X.fn x = true ∨ X.env.scope.names.lookup x = some .local := by first | exact .inl rfl | exact .inr rfl | assumption) :
    PS X (.Assign [.Name x pos'] e pos) (tAsg te (gName i)) := by
  intro pins s σ H D I h
  refine wpAny_Assign_Name (thn (he pins s σ H _ I h) fun v s1 ⟨y, H1, I1, r1, q1⟩ => ?_) hs
  exact store_ok I1 hN hi hx r1 (fun s2 I2 => ⟨_, H1, I2, q1⟩) hf
def tPar (i j : Nat) (ta : TA) : TS := fun D σ H => ta σ H fun vs H1 => ∃ v w, vs = [v, w] ∧ D.nx ((σ.set i (some v)).set j (some w)) H1
theorem ps_par {i j : Nat} {x y : Str} {a b : Expr} {ta : TA} {px py pt : Pos} {kt k2 pt2} (hc : X.calm = true) (hN : X.N.Nodup) (hi : X.N[i]? = some x) (hj : X.N[j]? = some y) (hij : i ≠ j)
    (hx : X.env.scope.names.lookup x = some .local) (hy : X.env.scope.names.lookup y = some .local) (ha : PA X [a, b] ta)
    (hw : swappedStores [.Tuple [.Name x px, .Name y py] kt pt] (.Tuple [a, b] k2 pt2) X.env = pure (some [x, y]))
    (hs : swapsWithSole [.Tuple [.Name x px, .Name y py] kt pt] (.Tuple [a, b] k2 pt2) pos.line X.env = pure false := by rfl) :
    PS X (.Assign [.Tuple [.Name x px, .Name y py] kt pt] (.Tuple [a, b] k2 pt2) pos) (tPar i j ta) := by
  intro pins s σ H D I h
  rw [exec_Assign_arm]
  refine wpAny_bind (wpAny_standAt ?_)
  rw [hs]
  refine wpAny_bind (wpAny_pure ?_)
  rw [if_neg (by decide)]
  refine wpAny_bind (Tuple_ (thn (ha _ pins s σ H _ I h) fun us s1 ⟨vs, H1, I1, r1, q1⟩ => ?_))
  obtain ⟨v, w, e1, q1⟩ := q1
  subst e1
  obtain ⟨u1, u2, rfl, rv, rw'⟩ : ∃ u1 u2, us = [u1, u2] ∧ RelV v u1 ∧ RelV w u2 := by
    cases r1 with
    | cons p q =>
      cases q with
      | cons p' q' =>
        cases q'
        exact ⟨_, _, rfl, p, p'⟩
  refine wpAny_newObj_type ?_ (by show 2 ≤ sizeLine; decide)
  have I2 : Inv X pins σ H1 { s1 with heap := s1.heap.push { cls := .type "tuple", data := .seq [u1, u2].toArray } } := I1.kept (t' := s1.toks) fun b o e => Heap.get?_push_of_some _ e
  rw [hw]
  refine wpAny_bind (wpAny_pure ?_)
  show wpAny (model X.prog X.w) X.A (do rule "assign.swapped-stores"; let items ← unpackItems (.ref s1.heap.objs.size) 2 none; assignInOrder [fun v => bindName X.env y v, fun v => bindName X.env x v] items.reverse; pure Flow.next) _ _ _
  refine wpAny_bind (wpAny_rule (wpAny_bind (unpackItems_tuple (items := #[u1, u2]) (I.ok.hd hc) (IsTup.new s1.heap _) fun h' hx' => ?_)))
  have I3 := I2.kept (h' := h') (t' := s1.toks) fun b o e => hx' b o (Nat.ne_of_lt (Heap.lt_size e)) e
  show wpAny _ _ (assignInOrder [fun v => bindName X.env y v, fun v => bindName X.env x v] [u2, u1] >>= fun _ => pure Flow.next) _ _ _
  refine wpAny_bind (assignInOrder_cons (wpAny_bindName (store_ok I3 hN hj (.inl hy) rw' (fun s2 I4 => ?_) (.inr hy))))
  refine assignInOrder_cons (wpAny_bindName (store_ok I4 hN hi (.inl hx) rv (fun s3 I5 => assignInOrder_nil (wpAny_pure ?_)) (.inr hx)))
  rw [List.set_comm _ _ (Ne.symm hij)] at I5
  exact ⟨_, H1, I5, q1⟩
end
section
variable {X : Cx} {pos : Pos}
def tWhile (c : TT) (tb : TS) : TS := fun D σ H => ∃ W : Nat → St → Hp → Prop, (∃ m, W m σ H) ∧ ∀ m σ H, W m σ H →
  c σ H fun b H1 => if b = true then ∃ N : St → Hp → Prop, (∀ σ' H', N σ' H' → ∃ m', m' < m ∧ W m' σ' H') ∧ tb { D with nx := N, ct := N, bk := D.nx } σ H1 else D.nx σ H1
theorem ps_while {c : Expr} {body : List Stmt} {tc : TT} {tb : TS} (hp : PassesOwn (model X.prog X.w) X.A X.env X.xe) (hc : PT X c tc) (hb : PSs X body tb) : PS X (.While c body [] pos) (tWhile tc tb) := by
  intro pins s σ H D I h
  obtain ⟨W, ⟨m0, w0⟩, turn⟩ := h
  refine wpAny_While (codeAny_whileLoop (fun n s' => ∃ σ' H', Inv X pins σ' H' s' ∧ W n σ' H') ?_ m0 ⟨σ, H, I, w0⟩)
  rintro n s1 ⟨σ1, H1, I1, w1⟩
  refine wpAny_passesOwn hp (thn (hc pins s1 σ1 H1 _ I1 (turn n σ1 H1 w1)) fun b s2 ⟨H2, I2, q2⟩ => ?_)
  cases b with
  | true =>
    obtain ⟨N, hN, q2⟩ := q2
    rw [if_pos rfl]
    refine wpAny_passesOwn hp (thn (hb pins s2 σ1 H2 _ I2 q2) fun f s3 q3 => ?_)
    cases f with
    | next =>
      obtain ⟨σ3, H3, I3, n3⟩ := q3
      obtain ⟨m', hm, w3⟩ := hN σ3 H3 n3
      exact ⟨m', hm, σ3, H3, I3, w3⟩
    | cont =>
      obtain ⟨σ3, H3, I3, n3⟩ := q3
      obtain ⟨m', hm, w3⟩ := hN σ3 H3 n3
      exact ⟨m', hm, σ3, H3, I3, w3⟩
    | brk => exact q3
    | ret v => exact q3
  | false =>
    rw [if_neg Bool.false_ne_true]
    exact wpAny_execs_nil ⟨σ1, H2, I2, q2⟩
end
structure It where
  go : Nat → Hp → Prop
  yld : Nat → Hp → V → Hp → Prop
  stop : Nat → Hp → Prop
def FpOk (X : Cx) (pins : List (Addr × Obj)) (H : Hp) (b : Addr) : Prop :=
  H b = none ∧ b ≠ X.env.locals ∧ b ∉ X.fs ∧ (b ∈ X.ex ∨ X.s_0.heap.objs.size ≤ b) ∧ (∀ x c, X.env.cells.lookup x = some c → c ≠ b) ∧ ∀ p ∈ X.pn ++ pins, p.1 ≠ b
theorem Inv.fpOk {X : Cx} {pins : List (Addr × Obj)} {σ : St} {H H' : Hp} {s : Shared} {b : Addr} (I : Inv X pins σ H s) (hb : s.heap.objs.size ≤ b) (hn : H' b = none) : FpOk X pins H' b := by
  refine ⟨hn, Nat.ne_of_gt (Nat.lt_of_lt_of_le I.lt hb), I.nofs hb, .inr (Nat.le_trans I.sz hb), fun x c e z => ?_, fun p hp z => ?_⟩
  · obtain ⟨v, q⟩ := I.cell x c e
    exact absurd (Nat.lt_of_lt_of_le q.lt (by rw [z]; exact hb)) (Nat.lt_irrefl _)
  · exact absurd (Nat.lt_of_lt_of_le (Heap.lt_size (I.pin p hp).1) (by rw [z]; exact hb)) (Nat.lt_irrefl _)
structure Turn (P : Program) (w : World) (K : PySem.W.Frag) (tg : Expr) (J : It) (fp : List Addr) (it : Addr) (tn : Nat → Heap → Prop) : Prop where
  mem : it ∈ fp
  obj : ∀ i h, tn i h → ∀ b ∈ fp, ∃ o, h.get? b = some o ∧ ∀ v, o.data ≠ .cell v
  keep : ∀ i h h', tn i h → (∀ b ∈ fp, ∀ o, h.get? b = some o → h'.get? b = some o) → tn i h'
  item : ∀ (X : Cx), X.prog = P → X.w = w → X.K = K → X.calm = true → ∀ (i : Nat) (pins : List (Addr × Obj)) (s : Shared) (σ : St) (H : Hp) (E : Value → Shared → Prop), Inv X pins σ H s → (∀ b ∈ fp, FpOk X pins H b) → tn i s.heap → J.go i H →
    wpAny (model P w) X.A (pyNext (.ref it)) (fun r s1 => ∃ u, r = some u ∧
      wpAny (model P w) X.A (letOwnedTupleGo tg (.ref it) u) (fun _ s2 => ∃ x H', Inv X pins σ H' s2 ∧ RelV x u ∧ J.yld i H x H' ∧ tn (i + 1) s2.heap ∧ ∀ b ∈ fp, H' b = none) E s1) E s
  done : ∀ (X : Cx), X.prog = P → X.w = w → X.K = K → X.calm = true → ∀ (i : Nat) (pins : List (Addr × Obj)) (s : Shared) (σ : St) (H : Hp) (E : Value → Shared → Prop), Inv X pins σ H s → (∀ b ∈ fp, FpOk X pins H b) → tn i s.heap → J.stop i H →
    wpAny (model P w) X.A (pyNext (.ref it)) (fun r s1 => r = none ∧ Inv X pins σ H s1) E s
  self : ∀ (A : Around) (i : Nat) (s : Shared) (Q : Value → Shared → Prop) (E : Value → Shared → Prop), tn i s.heap → Q (.ref it) s → wpAny (model P w) A (pyIter (.ref it)) Q E s
abbrev TI := St → Hp → (It → Hp → Prop) → Prop
def PIE (X : Cx) (pins : List (Addr × Obj)) (σ : St) (tg : Expr) (R : It → Hp → Prop) (itv : Value) (s2 : Shared) : Prop :=
  ∃ (it : Addr) (fp : List Addr) (tn : Nat → Heap → Prop) (J : It) (H' : Hp), itv = .ref it ∧ Inv X pins σ H' s2 ∧ Turn X.prog X.w X.K tg J fp it tn ∧ tn 0 s2.heap ∧ (∀ b ∈ fp, FpOk X pins H' b) ∧ R J H'
def PI (X : Cx) (tg iter : Expr) (wi : TI) : Prop :=
  ∀ (pins : List (Addr × Obj)) (s : Shared) (σ : St) (H : Hp) (R : It → Hp → Prop), Inv X pins σ H s → wi σ H R →
    wpAny (model X.prog X.w) X.A (eval iter X.env) (fun v s1 => wpAny (model X.prog X.w) X.A (pyIter v) (PIE X pins σ tg R) X.xe s1) X.xe s
theorem go_of {M : Model} {A : Around} {E : Value → Shared → Prop} {s : Shared} {tg : Expr} {it : Addr} {u : Value} {o : Obj} {n : String} {vs : Array Value} {Q : Unit → Shared → Prop} (ho : s.heap.get? it = some o) (hc : o.cls = .type n) (hd : o.data = .fields vs)
    (hn : ["enumerate", "zip", "dict_itemiterator", "dict_reverseitemiterator", "odict_iterator", "itertools.zip_longest", "itertools.pairwise"].contains n = false) (hQ : Q () s) : wpAny M A (letOwnedTupleGo tg (.ref it) u) Q E s := by
  unfold letOwnedTupleGo
  cases tg <;> first
    | exact wpAny_pure hQ
    | (cases u <;> first
        | exact wpAny_pure hQ
        | (refine wpAny_bind (wpAny_load ho ?_)
           rw [hc, hd]
           show wpAny M A (if (["enumerate", "zip", "dict_itemiterator", "dict_reverseitemiterator", "odict_iterator", "itertools.zip_longest", "itertools.pairwise"].contains n && vs[0]? == some (rawInt _)) = true then _ else _) Q E s
           rw [if_neg (by intro h; rw [hn, Bool.false_and] at h; cases h)]
           exact wpAny_pure hQ))
def Itl (K : PySem.W.Frag) (a : Addr) : It :=
  ⟨fun i H => ∃ xs x, SqL K H a xs ∧ xs[i]? = some x, fun i H x H' => H' = H ∧ ∀ xs, SqL K H a xs → xs[i]? = some x, fun i H => ∃ xs, SqL K H a xs ∧ xs.length ≤ i⟩
def Itt (K : PySem.W.Frag) (a : Addr) : It :=
  ⟨fun i H => ∃ xs x, SqT K H a xs ∧ xs[i]? = some x, fun i H x H' => H' = H ∧ ∀ xs, SqT K H a xs → xs[i]? = some x, fun i H => ∃ xs, SqT K H a xs ∧ xs.length ≤ i⟩
def Itr (lo : Int) (n : Nat) : It := ⟨fun i _ => i < n, fun i H x H' => H' = H ∧ x = .int (lo + i), fun i _ => n ≤ i⟩
theorem turn_list {P : Program} {w : World} {K : PySem.W.Frag} {tg : Expr} (a it : Addr) : Turn P w K tg (Itl K a) [it] it (fun i h => h.IsListIter it a i) where
  mem := by simp
  obj := fun i h st b hb => by
    have e : b = it := by simpa using hb
    subst e
    obtain ⟨o, e, c, d⟩ := st
    exact ⟨o, e, fun v z => by rw [d] at z; cases z⟩
  keep := fun i h h' st k => st.at fun o e => k it (by simp) o e
  item := by
    intro X hP hw hK hc i pins s σ H E I hf st hg
    subst hP hw hK
    obtain ⟨xs, x, hq, hx⟩ := hg
    obtain ⟨its, rv, p, hz⟩ := I.list hq
    obtain ⟨u, hu, ru⟩ := rv.get hx
    obtain ⟨f0, f1, f2, f3, f4, f5⟩ := hf it (by simp)
    refine wpAny_pyNext_list_item st p.isList (x := u) (by simpa using hu) fun h' st' sb => ?_
    have I1 : Inv X pins σ H { s with heap := h' } := I.turned (t' := s.toks) (fun b o hb e => (sb.2 b hb).trans e) f0 f1 f3 f4 f5
    obtain ⟨o, e, c, d⟩ := id st'
    exact ⟨u, rfl, go_of (s := { s with heap := h' }) e c d (by decide) ⟨x, H, I1, ru, ⟨rfl, fun ys hy => by rw [I.list_inj hy hq]; exact hx⟩, st', fun b hb => (hf b hb).1⟩⟩
  done := by
    intro X hP hw hK hc i pins s σ H E I hf st hg
    subst hP hw hK
    obtain ⟨xs, hq, hx⟩ := hg
    obtain ⟨its, rv, p, hz⟩ := I.list hq
    obtain ⟨f0, f1, f2, f3, f4, f5⟩ := hf it (by simp)
    have hl := rv.length
    exact wpAny_pyNext_list_end (I.ok.hd hc) st p.isList (by simp; omega) fun h' eb => ⟨rfl, I.turned (t' := s.toks) (fun b o hb e => eb b o hb e) f0 f1 f3 f4 f5⟩
  self := fun _ _ _ _ _ st h => wpAny_pyIter_listiter st h
theorem turn_tuple {P : Program} {w : World} {K : PySem.W.Frag} {tg : Expr} (a it : Addr) : Turn P w K tg (Itt K a) [it] it (fun i h => h.IsTupleIter it a i) where
  mem := by simp
  obj := fun i h st b hb => by
    have e : b = it := by simpa using hb
    subst e
    obtain ⟨o, e, c, d⟩ := st
    exact ⟨o, e, fun v z => by rw [d] at z; cases z⟩
  keep := fun i h h' st k => st.at fun o e => k it (by simp) o e
  item := by
    intro X hP hw hK hc i pins s σ H E I hf st hg
    subst hP hw hK
    obtain ⟨xs, x, hq, hx⟩ := hg
    obtain ⟨its, rv, p, hz⟩ := I.tuple hq
    obtain ⟨u, hu, ru⟩ := rv.get hx
    obtain ⟨f0, f1, f2, f3, f4, f5⟩ := hf it (by simp)
    refine wpAny_pyNext_tuple_item st (show s.heap.IsTuple a its.toArray from p) (x := u) (by simpa using hu) fun h' st' sb => ?_
    have I1 : Inv X pins σ H { s with heap := h' } := I.turned (t' := s.toks) (fun b o hb e => (sb.2 b hb).trans e) f0 f1 f3 f4 f5
    obtain ⟨o, e, c, d⟩ := id st'
    exact ⟨u, rfl, go_of (s := { s with heap := h' }) e c d (by decide) ⟨x, H, I1, ru, ⟨rfl, fun ys hy => by rw [I.tuple_inj hy hq]; exact hx⟩, st', fun b hb => (hf b hb).1⟩⟩
  done := by
    intro X hP hw hK hc i pins s σ H E I hf st hg
    subst hP hw hK
    obtain ⟨xs, hq, hx⟩ := hg
    obtain ⟨its, rv, p, hz⟩ := I.tuple hq
    obtain ⟨f0, f1, f2, f3, f4, f5⟩ := hf it (by simp)
    have hl := rv.length
    exact wpAny_pyNext_tuple_end (I.ok.hd hc) st (show s.heap.IsTuple a its.toArray from p) (by simp; omega) fun h' eb => ⟨rfl, I.turned (t' := s.toks) (fun b o hb e => eb b o hb e) f0 f1 f3 f4 f5⟩
  self := fun _ _ _ _ _ st h => wpAny_pyIter_tupleiter st h
theorem turn_range {P : Program} {w : World} {K : PySem.W.Frag} {tg : Expr} (it : Addr) (lo : Int) (n : Nat) : Turn P w K tg (Itr lo n) [it] it (fun i h => IsRangeIter h it (lo + (i : Nat) * 1) ((n : Int) - (i : Nat)) 1) where
  mem := by simp
  obj := fun i h st b hb => by
    have e : b = it := by simpa using hb
    subst e
    exact ⟨_, st, fun v z => by
      have z' : Data.fields _ = Data.cell v := z
      cases z'⟩
  keep := fun i h h' st k => k it (by simp) _ st
  item := by
    intro X hP hw hK hc i pins s σ H E I hf st hg
    subst hP hw hK
    obtain ⟨f0, f1, f2, f3, f4, f5⟩ := hf it (by simp)
    have W := Walks.range (prog := X.prog) (w := X.w) (I.ok.hd hc) it lo 1 n
    refine W.item i s _ _ hg st fun v h' tk hv st' kk => ?_
    obtain ⟨t, rfl⟩ := hv
    have I1 : Inv X pins σ H { s with heap := h', toks := tk } := I.turned (fun b o hb e => kk b o (by simpa using hb) e) f0 f1 f3 f4 f5
    refine ⟨_, rfl, go_of (s := { s with heap := h', toks := tk }) (n := "range_iterator") st' rfl rfl (by decide) ⟨.int (lo + i), H, I1, ⟨t, ?_⟩, ⟨rfl, rfl⟩, st', fun b hb => (hf b hb).1⟩⟩
    rw [Int.mul_one]
  done := by
    intro X hP hw hK hc i pins s σ H E I hf st hg
    subst hP hw hK
    obtain ⟨f0, f1, f2, f3, f4, f5⟩ := hf it (by simp)
    exact wpAny_pyNext_range_end (I.ok.hd hc) st (by have : n ≤ i := hg; omega) fun h' eb => ⟨rfl, I.turned (t' := s.toks) (fun b o hb e => eb b o hb e) f0 f1 f3 f4 f5⟩
  self := fun _ _ _ _ _ st h => wpAny_pyIter_rangeiter st h
end L2
namespace L2
open PySem PySem.Spec PyProof.Rows
section
variable {X : Cx} {tg : Expr}
def iList (K : PySem.W.Frag) (tl : TE) : TI := fun σ H R => tl σ H fun x H1 => ∃ a, x = .ref a ∧ (∃ xs, SqL K H1 a xs) ∧ R (Itl K a) H1
def iTup (K : PySem.W.Frag) (tl : TE) : TI := fun σ H R => tl σ H fun x H1 => ∃ a, x = .ref a ∧ (∃ xs, SqT K H1 a xs) ∧ R (Itt K a) H1
theorem pi_list {l : Expr} {tl : TE} (hl : PE X l tl) : PI X tg l (iList X.K tl) := by
  intro pins s σ H R I h
  refine thn (hl pins s σ H _ I h) fun v s1 ⟨x, H1, I1, r1, q1⟩ => ?_
  obtain ⟨a, e, ⟨xs, hq⟩, q⟩ := q1
  subst e
  cases r1
  obtain ⟨its, rv, p, hz⟩ := I1.list hq
  refine wpAny_pyIter_list p.isList ?_
  refine ⟨s1.heap.objs.size, [s1.heap.objs.size], _, _, H1, rfl, I1.kept (t' := s1.toks) fun b o e => Heap.get?_push_of_some _ e, turn_list a _, ⟨_, Heap.get?_push_size _ rfl, rfl, rfl⟩, fun b hb => ?_, q⟩
  have e : b = s1.heap.objs.size := by simpa using hb
  subst e
  exact I1.fpOk (Nat.le_refl _) (I1.hok.fresh (Nat.le_refl _))
theorem pi_tup {l : Expr} {tl : TE} (hl : PE X l tl) : PI X tg l (iTup X.K tl) := by
  intro pins s σ H R I h
  refine thn (hl pins s σ H _ I h) fun v s1 ⟨x, H1, I1, r1, q1⟩ => ?_
  obtain ⟨a, e, ⟨xs, hq⟩, q⟩ := q1
  subst e
  cases r1
  obtain ⟨its, rv, p, hz⟩ := I1.tuple hq
  refine wpAny_pyIter_tuple (show s1.heap.IsTuple a its.toArray from p) ?_
  refine ⟨s1.heap.objs.size, [s1.heap.objs.size], _, _, H1, rfl, I1.kept (t' := s1.toks) fun b o e => Heap.get?_push_of_some _ e, turn_tuple a _, ⟨_, Heap.get?_push_size _ rfl, rfl, rfl⟩, fun b hb => ?_, q⟩
  have e : b = s1.heap.objs.size := by simpa using hb
  subst e
  exact I1.fpOk (Nat.le_refl _) (I1.hok.fresh (Nat.le_refl _))
theorem range_it {pins : List (Addr × Obj)} {σ : St} {H : Hp} {s : Shared} {R : It → Hp → Prop} {E : Value → Shared → Prop} {lo hi : Int} {t u v : Tok} {tk : Nat} (I : Inv X pins σ H s) (h1 : -(2 ^ 62) ≤ lo) (h2 : lo < 2 ^ 62) (h3 : -(2 ^ 62) ≤ hi) (h4 : hi < 2 ^ 62)
    (q : R (Itr lo (hi - lo).toNat) H) : wpAny (model X.prog X.w) X.A (pyIter (.ref s.heap.objs.size)) (PIE X pins σ tg R) E { s with heap := s.heap.push { cls := .type "range", data := .fields #[.int lo t, .int hi u, .int 1 v] }, toks := tk } := by
  refine wpAny_pyIter_range (IsRange.new ..) (small_one h1 h2 h3 h4) ?_
  have I1 : Inv X pins σ H { s with heap := s.heap.push { cls := .type "range", data := .fields #[.int lo t, .int hi u, .int 1 v] }, toks := tk } := I.kept fun b o e => Heap.get?_push_of_some _ e
  refine ⟨(s.heap.push { cls := .type "range", data := .fields #[.int lo t, .int hi u, .int 1 v] }).objs.size, [(s.heap.push { cls := .type "range", data := .fields #[.int lo t, .int hi u, .int 1 v] }).objs.size], _, _, H, rfl,
    I1.kept (t' := tk) fun b o e => Heap.get?_push_of_some _ e, turn_range _ lo (hi - lo).toNat, ?_, fun b hb => ?_, q⟩
  · have e1 : lo + ((0 : Nat) : Int) * 1 = lo := by simp
    have e2 : (((hi - lo).toNat : Nat) : Int) - ((0 : Nat) : Int) = Builtin.Range.rangeSize lo hi 1 := by rw [rangeSize_one]; split <;> omega
    show IsRangeIter _ _ (lo + ((0 : Nat) : Int) * 1) ((((hi - lo).toNat : Nat) : Int) - ((0 : Nat) : Int)) 1
    rw [e1, e2]
    exact Heap.get?_push_size _ rfl
  · have e : b = (s.heap.push { cls := .type "range", data := .fields #[.int lo t, .int hi u, .int 1 v] }).objs.size := by simpa using hb
    subst e
    exact I1.fpOk (Nat.le_refl _) (I1.hok.fresh (Nat.le_refl _))
def iRng1 (ta : TA) : TI := fun σ H R => ta σ H fun vs H1 => ∃ j : Int, vs = [.int j] ∧ -(2 ^ 62) ≤ j ∧ j < 2 ^ 62 ∧ R (Itr 0 j.toNat) H1
def iRng2 (ta : TA) : TI := fun σ H R => ta σ H fun vs H1 => ∃ i j : Int, vs = [.int i, .int j] ∧ (-(2 ^ 62) ≤ i ∧ i < 2 ^ 62 ∧ -(2 ^ 62) ≤ j ∧ j < 2 ^ 62) ∧ R (Itr i (j - i).toNat) H1
theorem pi_range1 {a : Expr} {ta : TA} {p pos : Pos} (hg : Gl X "range") (hm : X.mg "range" = none) (ha : PA X [a] ta) (hs : starEach [a] X.env = [(false, eval a X.env)] := by rfl) : PI X tg (.Call (.Name "range" p) [a] [] pos) (iRng1 ta) := by
  intro pins s σ H R I h
  refine Call_ (ld_blt I hg hm boot_range (PyProof.Rows.callWith_type1 (thn (ha pos pins s σ H _ I h) fun us s1 ⟨vs, H1, I1, r1, q1⟩ => ?_) hs rfl))
  obtain ⟨j, e, q1, q2, q⟩ := q1
  subst e
  cases r1 with
  | cons r rr =>
    cases rr
    obtain ⟨t, rfl⟩ := r
    exact call_range_1 (range_it I1 (by omega) (by omega) q1 q2 (by simpa using q))
theorem pi_range2 {a b : Expr} {ta : TA} {p pos : Pos} (hg : Gl X "range") (hm : X.mg "range" = none) (ha : PA X [a, b] ta) (hs : starEach [a, b] X.env = [(false, eval a X.env), (false, eval b X.env)] := by rfl) (hs2 : starEach [b] X.env = [(false, eval b X.env)] := by rfl) :
    PI X tg (.Call (.Name "range" p) [a, b] [] pos) (iRng2 ta) := by
  intro pins s σ H R I h
  refine Call_ (ld_blt I hg hm boot_range (PyProof.Rows.callWith_type1 (thn (ha pos pins s σ H _ I h) fun us s1 ⟨vs, H1, I1, r1, q1⟩ => ?_) (by rw [hs, hs2]) (by rw [hs2]; rfl)))
  obtain ⟨i, j, e, ⟨q1, q2, q3, q4⟩, q⟩ := q1
  subst e
  cases r1 with
  | cons r rr =>
    cases rr with
    | cons r' rr =>
      cases rr
      obtain ⟨t, rfl⟩ := r
      obtain ⟨t', rfl⟩ := r'
      exact call_range_2 (range_it I1 q1 q2 q3 q4 q)
def tFor (wi : TI) (g : TG) (tb : TS) : TS := fun D σ H => wi σ H fun J H1 => ∃ W : Nat → Nat → St → Hp → Prop, (∃ m, W 0 m σ H1) ∧ ∀ i m σ H, W i m σ H →
  (J.stop i H ∧ D.nx σ H) ∨ (J.go i H ∧ ∃ N : St → Hp → Prop, (∀ σ' H', N σ' H' → ∃ m', m' < m ∧ W (i + 1) m' σ' H') ∧ ∀ x H', J.yld i H x H' → g x σ H' fun σ2 H2 => tb { D with nx := N, ct := N, bk := D.nx } σ2 H2)
def pinsAt (fp : List Addr) (h : Heap) : List (Addr × Obj) := fp.filterMap fun b => (h.get? b).map fun o => (b, o)
theorem mem_pinsAt {fp : List Addr} {h : Heap} {b : Addr} {o : Obj} (hb : b ∈ fp) (e : h.get? b = some o) : (b, o) ∈ pinsAt fp h := List.mem_filterMap.mpr ⟨b, hb, by rw [e]; rfl⟩
theorem of_pinsAt {fp : List Addr} {h : Heap} {p : Addr × Obj} (hp : p ∈ pinsAt fp h) : p.1 ∈ fp ∧ h.get? p.1 = some p.2 := by
  obtain ⟨b, hb, e⟩ := List.mem_filterMap.mp hp
  cases q : h.get? b with
  | none => rw [q] at e; cases e
  | some o =>
    rw [q] at e
    have e' : (b, o) = p := Option.some.inj e
    subst e'
    exact ⟨hb, q⟩
theorem Inv.pinned {pins : List (Addr × Obj)} {σ : St} {H : Hp} {s : Shared} {fp : List Addr} (I : Inv X pins σ H s) (hf : ∀ b ∈ fp, FpOk X pins H b) (ho : ∀ b ∈ fp, ∃ o, s.heap.get? b = some o ∧ ∀ v, o.data ≠ .cell v) : Inv X (pins ++ pinsAt fp s.heap) σ H s :=
  I.pins_of fun p hp => (List.mem_append.mp hp).elim (fun z => I.pin p (List.mem_append_right _ z)) fun z => by
    obtain ⟨hb, e⟩ := of_pinsAt z
    obtain ⟨f0, f1, f2, _⟩ := hf p.1 hb
    obtain ⟨o, e', d⟩ := ho p.1 hb
    rw [e] at e'; cases e'
    exact ⟨e, f0, f1, f2, d⟩
theorem Inv.unpinned {pins pl : List (Addr × Obj)} {σ : St} {H : Hp} {s : Shared} (I : Inv X (pins ++ pl) σ H s) : Inv X pins σ H s := I.pins_of fun p hp => I.pin p (List.mem_append_right _ (List.mem_append_left _ hp))
theorem ps_for {iter : Expr} {body : List Stmt} {wi : TI} {g : TG} {tb : TS} {pos : Pos} (hp : PassesOwn (model X.prog X.w) X.A X.env X.xe) (hc : X.calm = true) (hi : PI X tg iter wi) (hg : PG X tg g) (hb : PSs X body tb)
    (hs : ∀ x, foldedSetIterable iter X.env x = pure x := by intro _; rfl) : PS X (.For tg iter body [] pos) (tFor wi g tb) := by
  intro pins s σ H D I h
  refine wpAny_For (thn (hi pins s σ H _ I h) fun v s1 h1 => thn h1 fun itv s2 h2 => ?_) hs
  obtain ⟨it, fp, tn, J, H2, e, I2, T, st2, f2, W, ⟨m0, w0⟩, turn⟩ := h2
  subst e
  -- what stays true of the iterator's objects through the loop
  have stat : ∀ {H' : Hp}, (∀ b ∈ fp, H' b = none) → ∀ b ∈ fp, FpOk X pins H' b := fun hn b hb => ⟨hn b hb, (f2 b hb).2⟩
  refine codeAny_forLoop_any (fun n s' => ∃ i σ' H', Inv X pins σ' H' s' ∧ tn i s'.heap ∧ (∀ b ∈ fp, H' b = none) ∧ W i n σ' H') ?_ m0 ⟨0, σ, H2, I2, st2, fun b hb => (f2 b hb).1, w0⟩
  rintro n s3 ⟨i, σ3, H3, I3, st3, fr3, w3⟩
  rcases turn i n σ3 H3 w3 with ⟨stop, qn⟩ | ⟨go, N, hN, step⟩
  · refine wpAny_passesOwn hp (thn (T.done X rfl rfl rfl hc i pins s3 σ3 H3 X.xe I3 (stat fr3) st3 stop) fun r s4 ⟨hr, I4⟩ => ?_)
    subst hr
    exact wpAny_execs_nil ⟨σ3, H3, I4, qn⟩
  · refine wpAny_passesOwn hp (thn (T.item X rfl rfl rfl hc i pins s3 σ3 H3 X.xe I3 (stat fr3) st3 go) fun r s4 ⟨u, hr, h4⟩ => ?_)
    subst hr
    refine wpAny_passesOwn hp (thn h4 fun _ s5 ⟨x, H5, I5, r5, y5, st5, fr5⟩ => ?_)
    have I5' := I5.pinned (stat fr5) (T.obj _ _ st5)
    refine wpAny_passesOwn hp (thn (hg _ s5 σ3 H5 x u _ I5' r5 (step x H5 y5)) fun _ s6 ⟨σ6, H6, I6, q6⟩ => ?_)
    refine wpAny_passesOwn hp (thn (hb _ s6 σ6 H6 _ I6 q6) fun f s7 q7 => ?_)
    have again : ∀ {σ7 : St} {H7 : Hp}, Inv X (pins ++ pinsAt fp s5.heap) σ7 H7 s7 → N σ7 H7 → ∃ m, m < n ∧ ∃ i σ' H', Inv X pins σ' H' s7 ∧ tn i s7.heap ∧ (∀ b ∈ fp, H' b = none) ∧ W i m σ' H' := fun {σ7 H7} I7 n7 => by
      obtain ⟨m', hm, w7⟩ := hN σ7 H7 n7
      refine ⟨m', hm, i + 1, σ7, H7, I7.unpinned, T.keep _ _ _ st5 fun b hb o e => (I7.pin (b, o) (List.mem_append_right _ (List.mem_append_right _ (mem_pinsAt hb e)))).1, fun b hb => ?_, w7⟩
      obtain ⟨o, e, d⟩ := T.obj _ _ st5 b hb
      exact (I7.pin (b, o) (List.mem_append_right _ (List.mem_append_right _ (mem_pinsAt hb e)))).2.1
    cases f with
    | next => obtain ⟨σ7, H7, I7, n7⟩ := q7; exact again I7 n7
    | cont => obtain ⟨σ7, H7, I7, n7⟩ := q7; exact again I7 n7
    | brk => obtain ⟨σ7, H7, I7, q7⟩ := q7; exact ⟨σ7, H7, I7.unpinned, q7⟩
    | ret v => obtain ⟨x7, σ7, H7, I7, r7, q7⟩ := q7; exact ⟨x7, σ7, H7, I7.unpinned, r7, q7⟩
end
theorem for_list {K : PySem.W.Frag} {a : Addr} {xs : List V} {g : TG} {tb : TS} {D : Ends} {σ : St} {H : Hp} (Pv : Nat → St → Hp → Prop) (h0 : Pv 0 σ H) (hl : ∀ i σ H, i ≤ xs.length → Pv i σ H → SqL K H a xs)
    (hs : ∀ i x σ H, xs[i]? = some x → Pv i σ H → g x σ H fun σ2 H2 => tb { D with nx := Pv (i + 1), ct := Pv (i + 1), bk := D.nx } σ2 H2) (hd : ∀ σ H, Pv xs.length σ H → D.nx σ H) :
    ∃ W : Nat → Nat → St → Hp → Prop, (∃ m, W 0 m σ H) ∧ ∀ i m σ H, W i m σ H →
      ((Itl K a).stop i H ∧ D.nx σ H) ∨ ((Itl K a).go i H ∧ ∃ N : St → Hp → Prop, (∀ σ' H', N σ' H' → ∃ m', m' < m ∧ W (i + 1) m' σ' H') ∧ ∀ x H', (Itl K a).yld i H x H' → g x σ H' fun σ2 H2 => tb { D with nx := N, ct := N, bk := D.nx } σ2 H2) := by
  refine ⟨fun i m σ H => m = xs.length - i ∧ i ≤ xs.length ∧ Pv i σ H, ⟨xs.length, by simp, Nat.zero_le _, h0⟩, ?_⟩
  rintro i m σ H ⟨rfl, hi, p⟩
  have q := hl i σ H hi p
  by_cases hlt : i < xs.length
  · refine .inr ⟨⟨xs, xs[i], q, by simp [hlt]⟩, Pv (i + 1), fun σ' H' p' => ⟨xs.length - (i + 1), by omega, rfl, hlt, p'⟩, fun x H' y => ?_⟩
    obtain ⟨e, y⟩ := y
    subst e
    exact hs i x σ _ (y xs q) p
  · have e : i = xs.length := by omega
    subst e
    exact .inl ⟨⟨xs, q, Nat.le_refl _⟩, hd σ H p⟩
theorem for_tup {K : PySem.W.Frag} {a : Addr} {xs : List V} {g : TG} {tb : TS} {D : Ends} {σ : St} {H : Hp} (Pv : Nat → St → Hp → Prop) (h0 : Pv 0 σ H) (hl : ∀ i σ H, i ≤ xs.length → Pv i σ H → SqT K H a xs)
    (hs : ∀ i x σ H, xs[i]? = some x → Pv i σ H → g x σ H fun σ2 H2 => tb { D with nx := Pv (i + 1), ct := Pv (i + 1), bk := D.nx } σ2 H2) (hd : ∀ σ H, Pv xs.length σ H → D.nx σ H) :
    ∃ W : Nat → Nat → St → Hp → Prop, (∃ m, W 0 m σ H) ∧ ∀ i m σ H, W i m σ H →
      ((Itt K a).stop i H ∧ D.nx σ H) ∨ ((Itt K a).go i H ∧ ∃ N : St → Hp → Prop, (∀ σ' H', N σ' H' → ∃ m', m' < m ∧ W (i + 1) m' σ' H') ∧ ∀ x H', (Itt K a).yld i H x H' → g x σ H' fun σ2 H2 => tb { D with nx := N, ct := N, bk := D.nx } σ2 H2) := by
  refine ⟨fun i m σ H => m = xs.length - i ∧ i ≤ xs.length ∧ Pv i σ H, ⟨xs.length, by simp, Nat.zero_le _, h0⟩, ?_⟩
  rintro i m σ H ⟨rfl, hi, p⟩
  have q := hl i σ H hi p
  by_cases hlt : i < xs.length
  · refine .inr ⟨⟨xs, xs[i], q, by simp [hlt]⟩, Pv (i + 1), fun σ' H' p' => ⟨xs.length - (i + 1), by omega, rfl, hlt, p'⟩, fun x H' y => ?_⟩
    obtain ⟨e, y⟩ := y
    subst e
    exact hs i x σ _ (y xs q) p
  · have e : i = xs.length := by omega
    subst e
    exact .inl ⟨⟨xs, q, Nat.le_refl _⟩, hd σ H p⟩
theorem for_range {lo : Int} {n : Nat} {g : TG} {tb : TS} {D : Ends} {σ : St} {H : Hp} (Pv : Nat → St → Hp → Prop) (h0 : Pv 0 σ H)
    (hs : ∀ i σ H, i < n → Pv i σ H → g (.int (lo + i)) σ H fun σ2 H2 => tb { D with nx := Pv (i + 1), ct := Pv (i + 1), bk := D.nx } σ2 H2) (hd : ∀ σ H, Pv n σ H → D.nx σ H) :
    ∃ W : Nat → Nat → St → Hp → Prop, (∃ m, W 0 m σ H) ∧ ∀ i m σ H, W i m σ H →
      ((Itr lo n).stop i H ∧ D.nx σ H) ∨ ((Itr lo n).go i H ∧ ∃ N : St → Hp → Prop, (∀ σ' H', N σ' H' → ∃ m', m' < m ∧ W (i + 1) m' σ' H') ∧ ∀ x H', (Itr lo n).yld i H x H' → g x σ H' fun σ2 H2 => tb { D with nx := N, ct := N, bk := D.nx } σ2 H2) := by
  refine ⟨fun i m σ H => m = n - i ∧ i ≤ n ∧ Pv i σ H, ⟨n, by simp, Nat.zero_le _, h0⟩, ?_⟩
  rintro i m σ H ⟨rfl, hi, p⟩
  by_cases hlt : i < n
  · refine .inr ⟨hlt, Pv (i + 1), fun σ' H' p' => ⟨n - (i + 1), by omega, rfl, hlt, p'⟩, fun x H' y => ?_⟩
    obtain ⟨e, y⟩ := y
    subst e y
    exact hs i σ _ hlt p
  · have e : i = n := by omega
    subst e
    exact .inl ⟨Nat.le_refl _, hd σ H p⟩
end L2
namespace L2
open PySem PySem.Spec PyProof.Rows
abbrev R2 := V → V → Hp → VK → Prop
def OpR (X : Cx) (f : Value → Value → Sem Value) (r : R2) : Prop :=
  ∀ (pins : List (Addr × Obj)) (s : Shared) (σ : St) (H : Hp) (x y : V) (v u : Value) (Q : VK), Inv X pins σ H s → RelV x v → RelV y u → r x y H Q →
    wpAny (model X.prog X.w) X.A (f v u) (EP X pins σ Q) X.xe s
def CallR (X : Cx) (f : Value) (r : List V → Hp → VK → Prop) : Prop :=
  ∀ (pins : List (Addr × Obj)) (s : Shared) (σ : St) (H : Hp) (xs : List V) (us : List Value) (Q : VK), Inv X pins σ H s → Vals xs us → r xs H Q →
    wpAny (model X.prog X.w) X.A (call f us) (EP X pins σ Q) X.xe s
def TruR (X : Cx) (r : V → Hp → (Bool → Hp → Prop) → Prop) : Prop :=
  ∀ (pins : List (Addr × Obj)) (s : Shared) (σ : St) (H : Hp) (x : V) (v : Value) (Q : Bool → Hp → Prop), Inv X pins σ H s → RelV x v → r x H Q →
    wpAny (model X.prog X.w) X.A (truthy v) (TP X pins σ Q) X.xe s
def tOp (r : R2) (ta tb : TE) : TE := fun σ H Q => ta σ H fun x H1 => tb σ H1 fun y H2 => r x y H2 Q
def rI (C : Int → Int → Prop) (g : Int → Int → V) : R2 := fun x y H Q => ∃ i j, x = .int i ∧ y = .int j ∧ C i j ∧ Q (g i j) H
def rI0 (g : Int → Int → V) : R2 := fun x y H Q => ∃ i j, x = .int i ∧ y = .int j ∧ Q (g i j) H
section
variable {X : Cx} {a b c : Expr} {ta tb tc : TE} {pos : Pos}
theorem binT (ha : PE X a ta) (hb : PE X b tb) {pins : List (Addr × Obj)} {s : Shared} {σ : St} {H : Hp} {R : V → V → Hp → Prop} (I : Inv X pins σ H s)
    (h : ta σ H fun x H1 => tb σ H1 fun y H2 => R x y H2) {Q : Value → Shared → Prop} {f : Value → Value → Sem Value}
    (hf : ∀ v u s2 x y H2, Inv X pins σ H2 s2 → RelV x v → RelV y u → R x y H2 → wpAny (model X.prog X.w) X.A (f v u) Q X.xe s2) :
    wpAny (model X.prog X.w) X.A (eval a X.env) (fun v s₁ => wpAny (model X.prog X.w) X.A (eval b X.env) (fun u s₂ => wpAny (model X.prog X.w) X.A (f v u) Q X.xe s₂) X.xe s₁) X.xe s := by
  refine thn (ha pins s σ H _ I h) fun v s1 ⟨x, H1, I1, r1, q1⟩ => ?_
  refine thn (hb pins s1 σ H1 _ I1 q1) fun u s2 ⟨y, H2, I2, r2, q2⟩ => ?_
  exact hf v u s2 x y H2 I2 r1 r2 q2
theorem pe_op {op : Operator} {r : R2} (ho : OpR X (binaryOp op) r) (ha : PE X a ta) (hb : PE X b tb) : PE X (.BinOp a op b pos) (tOp r ta tb) := by
  intro pins s σ H Q I h
  exact wpAny_BinOp (binT ha hb I h fun v u s2 x y H2 I2 rx ry q => ho pins s2 σ H2 x y v u Q I2 rx ry q)
theorem opI {f : Value → Value → Sem Value} {C : Int → Int → Prop} {g : Int → Int → Int}
    (rule : ∀ (i j : Int) (t u : Tok) (s : Shared) (Q : Value → Shared → Prop) (E : Value → Shared → Prop), C i j → Q (.int (g i j) s.toks) { s with toks := s.toks + 1 } → wpAny (model X.prog X.w) X.A (f (.int i t) (.int j u)) Q E s) :
    OpR X f (rI C fun i j => .int (g i j)) := by
  intro pins s σ H x y v u Q I rx ry h
  obtain ⟨i, j, rfl, rfl, hc, q⟩ := h
  obtain ⟨t, rfl⟩ := rx
  obtain ⟨t', rfl⟩ := ry
  exact rule i j t t' s _ _ hc ⟨.int (g i j), H, I.tok _, ⟨_, rfl⟩, q⟩
theorem opI0 {f : Value → Value → Sem Value} {g : Int → Int → Int}
    (rule : ∀ (i j : Int) (t u : Tok) (s : Shared) (Q : Value → Shared → Prop) (E : Value → Shared → Prop), Q (.int (g i j) s.toks) { s with toks := s.toks + 1 } → wpAny (model X.prog X.w) X.A (f (.int i t) (.int j u)) Q E s) :
    OpR X f (rI0 fun i j => .int (g i j)) := by
  intro pins s σ H x y v u Q I rx ry h
  obtain ⟨i, j, rfl, rfl, q⟩ := h
  obtain ⟨t, rfl⟩ := rx
  obtain ⟨t', rfl⟩ := ry
  exact rule i j t t' s _ _ ⟨.int (g i j), H, I.tok _, ⟨_, rfl⟩, q⟩
theorem opB0 {f : Value → Value → Sem Value} {g : Int → Int → Bool}
    (rule : ∀ (i j : Int) (t u : Tok) (s : Shared) (Q : Value → Shared → Prop) (E : Value → Shared → Prop), Q (.bool (g i j)) s → wpAny (model X.prog X.w) X.A (f (.int i t) (.int j u)) Q E s) :
    OpR X f (rI0 fun i j => .bl (g i j)) := by
  intro pins s σ H x y v u Q I rx ry h
  obtain ⟨i, j, rfl, rfl, q⟩ := h
  obtain ⟨t, rfl⟩ := rx
  obtain ⟨t', rfl⟩ := ry
  exact rule i j t t' s _ _ ⟨.bl (g i j), H, I, rfl, q⟩
def CDiv (i j : Int) : Prop := 0 < j ∧ j < 1073741824
def CPow (i j : Int) : Prop := 0 ≤ j ∧ j ≤ 1000000 ∧ i.natAbs < 2 ^ 64
def CMul (i j : Int) : Prop := (-(2 ^ 64) < i ∧ i < 2 ^ 64) ∨ (-(2 ^ 64) < j ∧ j < 2 ^ 64)
theorem CMul.ok {i j : Int} (h : CMul i j) : IntMulOk i j := by
  rcases h with ⟨h1, h2⟩ | ⟨h1, h2⟩
  · exact .of_left (intBits_le_64 h1 h2)
  · exact .of_right (intBits_le_64 h1 h2)
theorem op_add : OpR X (binaryOp .Add) (rI0 fun i j => .int (i + j)) := opI0 fun _ _ _ _ _ _ _ q => add_int q
theorem op_sub : OpR X (binaryOp .Sub) (rI0 fun i j => .int (i - j)) := opI0 fun _ _ _ _ _ _ _ q => sub_int q
theorem op_mul : OpR X (binaryOp .Mult) (rI CMul fun i j => .int (i * j)) := opI fun _ _ _ _ _ _ _ hc q => mul_int q hc.ok
theorem op_fdiv : OpR X (binaryOp .FloorDiv) (rI CDiv fun i j => .int (i / j)) := opI fun i j _ _ _ _ _ hc q => by
  have h1 : (0 : Int) < j := hc.1
  have h2 : j < 1073741824 := hc.2
  exact floordiv_int (by omega) (by rw [Int.fdiv_eq_ediv_of_nonneg i (by omega)]; exact q) (.inl (PyProof.noPylong_small (by omega)))
theorem op_mod : OpR X (binaryOp .Mod) (rI (fun _ j => 0 < j) fun i j => .int (i % j)) := opI fun i j _ _ _ _ _ hc q => by
  have h1 : (0 : Int) < j := hc
  exact mod_int' (by omega) (by rw [Int.fmod_eq_emod_of_nonneg i (by omega)]; exact q)
theorem op_pow : OpR X (binaryOp .Pow) (rI CPow fun i j => .int (i ^ j.toNat)) := opI fun _ _ _ _ _ _ _ hc q => pow_int_small hc.1 hc.2.1 hc.2.2 q
end
def scal : V → V → Bool
  | .non, .non => true | .non, .int _ => true | .int _, .non => true | .non, .bl _ => true | .bl _, .non => true | .non, .str _ => true | .str _, .non => true
  | .int _, .int _ => true | .bl _, .bl _ => true | .str _, .str _ => true | .byt _, .byt _ => true
  | .int _, .str _ => true | .str _, .int _ => true | .bl _, .str _ => true | .str _, .bl _ => true
  | _, _ => false
def rEq : R2 := fun x y H Q => scal x y = true ∧ Q (.bl (decide (x = y))) H
def rNe : R2 := fun x y H Q => scal x y = true ∧ Q (.bl (!decide (x = y))) H
theorem dec_int {i j : Int} : decide (V.int i = V.int j) = (i == j) := by
  rw [Bool.eq_iff_iff]
  simp
theorem dec_bl {i j : Bool} : decide (V.bl i = V.bl j) = (i == j) := by
  rw [Bool.eq_iff_iff]
  simp
theorem dec_str {i j : Str} : decide (V.str i = V.str j) = (i == j) := by
  rw [Bool.eq_iff_iff]
  simp
theorem dec_byt {i j : Array UInt8} : decide (V.byt i = V.byt j) = (i.toList == j.toList) := by
  rw [Bool.eq_iff_iff]
  cases i
  cases j
  simp
section
variable {X : Cx} {a b c : Expr} {ta tb tc : TE} {pos : Pos}
theorem fin_bl {pins : List (Addr × Obj)} {σ : St} {H : Hp} {s : Shared} {Q : VK} {k k' : Bool} (I : Inv X pins σ H s) (q : Q (.bl k) H) (e : k = k') : EP X pins σ Q (.bool k') s := by
  subst e
  exact ⟨.bl k, H, I, rfl, q⟩
theorem op_eq : OpR X (compareOp .Eq) rEq := by
  intro pins s σ H x y v u Q I rx ry h
  obtain ⟨hs, q⟩ := h
  cases x with
  | non =>
    cases rx
    cases y with
    | non => cases ry; exact PySem.EqNone.eq_none_none (fin_bl I q (by simp))
    | bl j => cases ry; exact PySem.EqNone.eq_none_bool (fin_bl I q (by simp))
    | int j => obtain ⟨t', rfl⟩ := ry; exact PySem.EqNone.eq_none_int (fin_bl I q (by simp))
    | str j => obtain ⟨t', rfl⟩ := ry; exact PySem.EqNone.eq_none_str (fin_bl I q (by simp))
    | _ => exact absurd (show false = true from hs) Bool.false_ne_true
  | bl i =>
    cases rx
    cases y with
    | non => cases ry; exact PySem.EqNone.eq_bool_none (fin_bl I q (by simp))
    | bl j => cases ry; exact eq_bool (fin_bl I q dec_bl)
    | str j => obtain ⟨t', rfl⟩ := ry; exact PySem.EqMixed.eq_bool_str (fin_bl I q (by simp))
    | _ => exact absurd (show false = true from hs) Bool.false_ne_true
  | int i =>
    obtain ⟨t, rfl⟩ := rx
    cases y with
    | non => cases ry; exact PySem.EqNone.eq_int_none (fin_bl I q (by simp))
    | int j => obtain ⟨t', rfl⟩ := ry; exact eq_int (fin_bl I q dec_int)
    | str j => obtain ⟨t', rfl⟩ := ry; exact PySem.EqMixed.eq_int_str (fin_bl I q (by simp))
    | _ => exact absurd (show false = true from hs) Bool.false_ne_true
  | str i =>
    obtain ⟨t, rfl⟩ := rx
    cases y with
    | non => cases ry; exact PySem.EqNone.eq_str_none (fin_bl I q (by simp))
    | bl j => cases ry; exact PySem.EqMixed.eq_str_bool (fin_bl I q (by simp))
    | int j => obtain ⟨t', rfl⟩ := ry; exact PySem.EqMixed.eq_str_int (fin_bl I q (by simp))
    | str j => obtain ⟨t', rfl⟩ := ry; exact eq_str (fin_bl I q dec_str)
    | _ => exact absurd (show false = true from hs) Bool.false_ne_true
  | byt i =>
    obtain ⟨t, rfl⟩ := rx
    cases y with
    | byt j => obtain ⟨t', rfl⟩ := ry; exact PySem.W.eq_bytes (fin_bl I q dec_byt)
    | _ => exact absurd (show false = true from hs) Bool.false_ne_true
  | _ => cases y <;> exact absurd (show false = true from hs) Bool.false_ne_true
theorem op_ne : OpR X (compareOp .NotEq) rNe := by
  intro pins s σ H x y v u Q I rx ry h
  obtain ⟨hs, q⟩ := h
  cases x with
  | non =>
    cases rx
    cases y with
    | non => cases ry; exact PySem.EqNone.ne_none_none (fin_bl I q (by simp))
    | bl j => cases ry; exact PySem.EqNone.ne_none_bool (fin_bl I q (by simp))
    | int j => obtain ⟨t', rfl⟩ := ry; exact PySem.EqNone.ne_none_int (fin_bl I q (by simp))
    | str j => obtain ⟨t', rfl⟩ := ry; exact PySem.EqNone.ne_none_str (fin_bl I q (by simp))
    | _ => exact absurd (show false = true from hs) Bool.false_ne_true
  | bl i =>
    cases rx
    cases y with
    | non => cases ry; exact PySem.EqNone.ne_bool_none (fin_bl I q (by simp))
    | bl j => cases ry; exact ne_bool (fin_bl I q (congrArg not dec_bl))
    | str j => obtain ⟨t', rfl⟩ := ry; exact PySem.EqMixed.ne_bool_str (fin_bl I q (by simp))
    | _ => exact absurd (show false = true from hs) Bool.false_ne_true
  | int i =>
    obtain ⟨t, rfl⟩ := rx
    cases y with
    | non => cases ry; exact PySem.EqNone.ne_int_none (fin_bl I q (by simp))
    | int j => obtain ⟨t', rfl⟩ := ry; exact ne_int (fin_bl I q (congrArg not dec_int))
    | str j => obtain ⟨t', rfl⟩ := ry; exact PySem.EqMixed.ne_int_str (fin_bl I q (by simp))
    | _ => exact absurd (show false = true from hs) Bool.false_ne_true
  | str i =>
    obtain ⟨t, rfl⟩ := rx
    cases y with
    | non => cases ry; exact PySem.EqNone.ne_str_none (fin_bl I q (by simp))
    | bl j => cases ry; exact PySem.EqMixed.ne_str_bool (fin_bl I q (by simp))
    | int j => obtain ⟨t', rfl⟩ := ry; exact PySem.EqMixed.ne_str_int (fin_bl I q (by simp))
    | str j => obtain ⟨t', rfl⟩ := ry; exact ne_str (fin_bl I q (congrArg not dec_str))
    | _ => exact absurd (show false = true from hs) Bool.false_ne_true
  | byt i =>
    obtain ⟨t, rfl⟩ := rx
    cases y with
    | byt j => obtain ⟨t', rfl⟩ := ry; exact PySem.W.ne_bytes (fin_bl I q (congrArg not dec_byt))
    | _ => exact absurd (show false = true from hs) Bool.false_ne_true
  | _ => cases y <;> exact absurd (show false = true from hs) Bool.false_ne_true
theorem op_lt : OpR X (compareOp .Lt) (rI0 fun i j => .bl (decide (i < j))) := opB0 fun _ _ _ _ _ _ _ q => lt_int q
theorem op_gt : OpR X (compareOp .Gt) (rI0 fun i j => .bl (decide (j < i))) := opB0 fun _ _ _ _ _ _ _ q => gt_int q
theorem op_ge : OpR X (compareOp .GtE) (rI0 fun i j => .bl (decide (j ≤ i))) := opB0 fun _ _ _ _ _ _ _ q => ge_int q
theorem op_isN : OpR X (compareOp .Is) (fun x y H Q => y = .non ∧ Q (.bl (decide (x = .non))) H) := by
  intro pins s σ H x y v u Q I rx ry h
  obtain ⟨rfl, q⟩ := h
  cases ry
  refine is_none_gen (fin_bl I q ?_)
  cases x <;> first
    | (cases rx; rfl)
    | (obtain ⟨t, rfl⟩ := rx; rfl)
theorem op_notN : OpR X (compareOp .IsNot) (fun x y H Q => y = .non ∧ Q (.bl (!decide (x = .non))) H) := by
  intro pins s σ H x y v u Q I rx ry h
  obtain ⟨rfl, q⟩ := h
  cases ry
  refine isnot_none_gen (fin_bl I q ?_)
  cases x <;> first
    | (cases rx; rfl)
    | (obtain ⟨t, rfl⟩ := rx; rfl)
theorem nomark (b : Expr) {op : CmpOp} (h : op ≠ .In := by decide) (h2 : op ≠ .NotIn := by decide) : behindInMarks op b = false := by
  have e1 : (op == CmpOp.In) = false := by cases op <;> first | rfl | exact absurd rfl h
  have e2 : (op == CmpOp.NotIn) = false := by cases op <;> first | rfl | exact absurd rfl h2
  cases b <;> simp [behindInMarks, e1, e2]
theorem pe_cmpR {op : CmpOp} {r : R2} (ho : OpR X (compareOp op) r) (ha : PE X a ta) (hb : PE X b tb) (hm : behindInMarks op b = false) : PE X (.Compare a [op] [b] pos) (tOp r ta tb) := by
  intro pins s σ H Q I h
  exact wpAny_Compare1 (binT ha hb I h fun v u s2 x y H2 I2 rx ry q => ho pins s2 σ H2 x y v u Q I2 rx ry q) hm
def tTest (t : TE) : TT := fun σ H Q => t σ H fun x H' => ∃ k, x = .bl k ∧ Q k H'
theorem pt_cmpR {op : CmpOp} {r : R2} (ho : OpR X (compareOp op) r) (ha : PE X a ta) (hb : PE X b tb) (hm : behindInMarks op b = false) : PT X (.Compare a [op] [b] pos) (tTest (tOp r ta tb)) := by
  intro pins s σ H Q I h
  refine wpAny_isTrue_Compare1 (thn (ha pins s σ H _ I h) fun v s1 ⟨x, H1, I1, r1, q1⟩ => thn (hb pins s1 σ H1 _ I1 q1) fun u s2 ⟨y, H2, I2, r2, q2⟩ =>
    thn (ho pins s2 σ H2 x y v u _ I2 r1 r2 q2) fun c s3 ⟨z, H3, I3, r3, k, e, q3⟩ => ?_) hm
  subst e
  cases r3
  exact wpAny_truthy_bool ⟨H3, I3, q3⟩
def TruV (K : PySem.W.Frag) (x : V) (H : Hp) (k : Bool) : Prop :=
  match x with
  | .non => k = false
  | .bl b => k = b
  | .int i => k = (i != 0)
  | .str y => y.length ≤ sizeLine ∧ k = ((y.length : Int) != 0)
  | .byt y => y.size ≤ sizeLine ∧ k = ((y.size : Int) != 0)
  | .ref p => (∃ xs, SqL K H p xs ∧ k = !xs.isEmpty) ∨ (∃ xs, SqT K H p xs ∧ k = !xs.isEmpty) ∨ ∃ kvs, H p = some (.dK kvs) ∧ k = !kvs.isEmpty
  | _ => False
theorem isEmpty_kv {κ : Type} {kvs : List (κ × V)} {vs : List (κ × Value)} (r : KV kvs vs) : (!vs.isEmpty) = !kvs.isEmpty := by
  cases r <;> rfl
theorem isEmpty_of {xs : List V} {its : List Value} (r : Vals xs its) : (!its.toArray.isEmpty) = !xs.isEmpty := by
  cases r <;> simp
theorem line63 : (sizeLine : Nat) < 2 ^ 63 := by rw [sizeLine_eq]; decide
theorem tru_ok : TruR X (fun x H Q => ∃ k, TruV X.K x H k ∧ Q k H) := by
  intro pins s σ H x v Q I rx h
  obtain ⟨k, e, q⟩ := h
  have hl := line63
  have hs : sizeLine = 16777216 := sizeLine_eq
  cases x with
  | non =>
    cases rx
    have e' : k = false := e
    subst e'
    exact truthy_none ⟨H, I, q⟩
  | bl b =>
    cases rx
    have e' : k = b := e
    subst e'
    exact wpAny_truthy_bool ⟨H, I, q⟩
  | int i =>
    obtain ⟨t, rfl⟩ := rx
    have e' : k = (i != 0) := e
    subst e'
    exact PySem.P.truthy_int ⟨H, I, q⟩
  | str y =>
    obtain ⟨t, rfl⟩ := rx
    obtain ⟨hy, e'⟩ : y.length ≤ sizeLine ∧ k = ((y.length : Int) != 0) := e
    subst e'
    exact PySem.P.truthy_str (by omega) ⟨H, I.tok _, q⟩
  | byt y =>
    obtain ⟨t, rfl⟩ := rx
    obtain ⟨hy, e'⟩ : y.size ≤ sizeLine ∧ k = ((y.size : Int) != 0) := e
    subst e'
    exact PySem.W.truthy_bytes (by omega) ⟨H, I.tok _, q⟩
  | ref p =>
    cases rx
    have e' : (∃ xs, SqL X.K H p xs ∧ k = !xs.isEmpty) ∨ (∃ xs, SqT X.K H p xs ∧ k = !xs.isEmpty) ∨ ∃ kvs, H p = some (.dK kvs) ∧ k = !kvs.isEmpty := e
    rcases e' with ⟨xs, hx, e'⟩ | ⟨xs, hx, e'⟩ | ⟨kvs, hx, e'⟩
    · subst e'
      obtain ⟨its, r, pl, hz⟩ := I.list hx
      have hlen := r.length
      exact wpAny_truthy_list pl.isList (by simp only [List.size_toArray]; omega) ⟨H, I.tok _, by rw [isEmpty_of r]; exact q⟩
    · subst e'
      obtain ⟨its, r, pl, hz⟩ := I.tuple hx
      have hlen := r.length
      exact truthy_tuple pl (by simp only [List.size_toArray]; omega) ⟨H, I.tok _, by rw [isEmpty_of r]; exact q⟩
    · subst e'
      obtain ⟨hz, hS, vs, r, m⟩ : kvs.length ≤ sizeLine ∧ (p == sysModules) = false ∧ ∃ vs, KV kvs vs ∧ s.heap.DictOf (mixKind X.prog X.w) p vs := I.hok p _ hx
      have hlen : kvs.length = vs.length := Paired.length r
      exact wpAny_truthy_dict hS m (by omega) ⟨H, I.tok _, by rw [isEmpty_kv r]; exact q⟩
  | _ => exact (show False from e).elim
theorem pt_truth (ha : PE X a ta) (he : ∀ whole, isTrue a X.env whole = (do let v ← whole; standAt a.pos; holding [v] (truthy v))) :
    PT X a (fun σ H Q => ta σ H fun x H' => ∃ k, TruV X.K x H' k ∧ Q k H') := by
  intro pins s σ H Q I h
  exact isTrue_plain (thn (ha pins s σ H _ I h) fun v s1 ⟨x, H1, I1, r1, q1⟩ => tru_ok pins s1 σ H1 x v Q I1 r1 q1) (he _)
theorem op_add_str : OpR X (binaryOp .Add) (fun x y H Q => ∃ i j, x = .str i ∧ y = .str j ∧ i.length + j.length ≤ sizeLine ∧ Q (.str (i ++ j)) H) := by
  intro pins s σ H x y v u Q I rx ry h
  obtain ⟨i, j, rfl, rfl, hz, q⟩ := h
  obtain ⟨t, rfl⟩ := rx
  obtain ⟨t', rfl⟩ := ry
  exact add_str (fun t' tk => ⟨.str (i ++ j), H, I.tok _, ⟨_, rfl⟩, q⟩) hz
theorem vals1 {x : V} {us : List Value} (r : Vals [x] us) : ∃ u, us = [u] ∧ RelV x u := by
  cases r with
  | cons r1 r2 => cases r2; exact ⟨_, rfl, r1⟩
theorem vals2 {x y : V} {us : List Value} (r : Vals [x, y] us) : ∃ u w', us = [u, w'] ∧ RelV x u ∧ RelV y w' := by
  cases r with
  | cons r1 r2 =>
    cases r2 with
    | cons r3 r4 => cases r4; exact ⟨_, _, rfl, r1, r3⟩
theorem call_max2 (hc : X.calm = true) : CallR X (.builtin "max") (fun xs H Q => ∃ i j, xs = [.int i, .int j] ∧ Q (.int (if j > i then j else i)) H) := by
  intro pins s σ H xs us Q I r h
  obtain ⟨i, j, rfl, q⟩ := h
  obtain ⟨u, w', rfl, ⟨t, rfl⟩, ⟨t', rfl⟩⟩ := vals2 r
  refine max_two_ints (I.ok.hd hc) fun h' tk k => ⟨_, H, I.kept k, ?_, q⟩
  by_cases hj : j > i
  · rw [if_pos hj, if_pos hj]; exact ⟨_, rfl⟩
  · rw [if_neg hj, if_neg hj]; exact ⟨_, rfl⟩
theorem call_min2 (hc : X.calm = true) : CallR X (.builtin "min") (fun xs H Q => ∃ i j, xs = [.int i, .int j] ∧ Q (.int (if j < i then j else i)) H) := by
  intro pins s σ H xs us Q I r h
  obtain ⟨i, j, rfl, q⟩ := h
  obtain ⟨u, w', rfl, ⟨t, rfl⟩, ⟨t', rfl⟩⟩ := vals2 r
  refine min_two_ints (I.ok.hd hc) fun h' tk k => ⟨_, H, I.kept k, ?_, q⟩
  by_cases hj : j < i
  · rw [if_pos hj, if_pos hj]; exact ⟨_, rfl⟩
  · rw [if_neg hj, if_neg hj]; exact ⟨_, rfl⟩
theorem call_int1 : CallR X (.type "int") (fun xs H Q => (∃ i, xs = [.int i] ∧ Q (.int i) H) ∨ ∃ k, xs = [.bl k] ∧ Q (.int (if k then 1 else 0)) H) := by
  intro pins s σ H xs us Q I r h
  rcases h with ⟨i, rfl, q⟩ | ⟨k, rfl, q⟩
  · obtain ⟨u, rfl, t, rfl⟩ := vals1 r
    exact call_int_int ⟨.int i, H, I, ⟨_, rfl⟩, q⟩
  · obtain ⟨u, rfl, r1⟩ := vals1 r
    cases r1
    exact call_int_bool ⟨.int (if k then 1 else 0), H, I.tok _, ⟨_, rfl⟩, q⟩
theorem call_str_int : CallR X (.type "str") (fun xs H Q => ∃ i, xs = [.int i] ∧ i.natAbs.log2 < 1920 ∧ Q (.str (toString i)) H) := by
  intro pins s σ H xs us Q I r h
  obtain ⟨i, rfl, hz, q⟩ := h
  obtain ⟨u, rfl, t, rfl⟩ := vals1 r
  exact PySem.P.str_of_int hz ⟨.str _, H, I.tok _, ⟨_, rfl⟩, q⟩
end
end L2
namespace L2
open PySem PySem.Spec PyProof.Rows
structure ObjM (h : Heap) (x dx C : Addr) (mA : Str → Option Value) : Prop where
  obj : h.get? x = some (PySem.W.instObj C dx)
  ns : h.Ns1 dx mA
  ne : dx ≠ x
theorem lookIn_ns {h : Heap} {dx : Addr} {mA : Str → Option Value} (n : h.Ns1 dx mA) : ∃ od, h.get? dx = some od ∧ ∀ name, PySem.W.lookIn name od = some (mA name) := by
  obtain ⟨o, es, ep, ho, hd, hk, _, hm⟩ := n
  refine ⟨o, ho, fun name => ?_⟩
  have e := hm name
  unfold nsFind findBy at e
  rw [← Array.find?_toList] at e
  unfold PySem.W.lookIn
  rw [hd]
  dsimp only
  split
  · rename_i y q
    rw [q] at e
    exact congrArg some e
  · rename_i q
    rw [q] at e
    have a : es.toList.any (·.refKey) = false := by
      rw [List.any_eq_false]
      intro y hy
      obtain ⟨z, t, hkey⟩ := hk y (Array.mem_toList_iff.mp hy)
      simp [DictEntry.refKey, hkey]
    have a' : ¬ es.toList.any (·.refKey) = true := by rw [a]; exact Bool.false_ne_true
    rw [if_neg a']
    exact congrArg some e
theorem ObjM.look {h : Heap} {x dx C : Addr} {mA : Str → Option Value} (I : ObjM h x dx C mA) : ∃ od, PySem.W.InstAt h x (PySem.W.instObj C dx) C (some od) ∧ ∀ name, PySem.W.lookIn name od = some (mA name) :=
  let ⟨od, ho, hl⟩ := lookIn_ns I.ns
  ⟨od, ⟨I.obj, rfl, rfl, ho⟩, hl⟩
def putF (f : Str) (v : V) : List (Str × V) → List (Str × V)
  | [] => [(f, v)]
  | (g, x) :: r => if g = f then (g, v) :: r else (g, x) :: putF f v r
theorem lookup_putF (f g : Str) (v : V) : ∀ fs : List (Str × V), (putF f v fs).lookup g = if g = f then some v else fs.lookup g
  | [] => by
    show List.lookup g [(f, v)] = _
    by_cases h : g = f
    · have hb : (g == f) = true := beq_iff_eq.mpr h
      simp only [List.lookup, hb, if_pos h]
    · have hb : (g == f) = false := beq_eq_false_iff_ne.mpr h
      simp only [List.lookup, hb, if_neg h]
  | (k, x) :: r => by
    have ih := lookup_putF f g v r
    rw [show putF f v ((k, x) :: r) = (if k = f then (k, v) :: r else (k, x) :: putF f v r) from rfl]
    by_cases hk : k = f
    · rw [if_pos hk]
      by_cases h : g = k
      · have hb : (g == k) = true := beq_iff_eq.mpr h
        simp only [List.lookup, hb, if_pos (h.trans hk)]
      · have hb : (g == k) = false := beq_eq_false_iff_ne.mpr h
        simp only [List.lookup, hb, if_neg (fun e : g = f => h (e.trans hk.symm))]
    · rw [if_neg hk]
      by_cases h : g = k
      · have hb : (g == k) = true := beq_iff_eq.mpr h
        simp only [List.lookup, hb, if_neg (fun e : g = f => hk (h.symm.trans e))]
      · have hb : (g == k) = false := beq_eq_false_iff_ne.mpr h
        simp only [List.lookup, hb]
        exact ih
theorem keys_putF (f : Str) (v : V) : ∀ fs : List (Str × V), f ∈ (putF f v fs).map (·.1) ∧ ∀ g, g ∈ fs.map (·.1) → g ∈ (putF f v fs).map (·.1)
  | [] => ⟨by simp [putF], fun g h => by simp at h⟩
  | (k, x) :: r => by
    obtain ⟨i1, i2⟩ := keys_putF f v r
    rw [show putF f v ((k, x) :: r) = (if k = f then (k, v) :: r else (k, x) :: putF f v r) from rfl]
    by_cases hk : k = f
    · rw [if_pos hk]
      subst hk
      exact ⟨by simp, fun g h => by simpa using h⟩
    · rw [if_neg hk]
      refine ⟨?_, fun g h => ?_⟩
      · rw [List.map_cons]
        exact List.mem_cons_of_mem _ i1
      · rw [List.map_cons] at h ⊢
        rcases List.mem_cons.mp h with e | e
        · exact List.mem_cons.mpr (.inl e)
        · exact List.mem_cons_of_mem _ (i2 g e)
theorem length_putF (f : Str) (v : V) : ∀ fs : List (Str × V), (putF f v fs).length ≤ fs.length + 1
  | [] => by simp [putF]
  | (k, x) :: r => by
    have ih := length_putF f v r
    rw [show putF f v ((k, x) :: r) = (if k = f then (k, v) :: r else (k, x) :: putF f v r) from rfl]
    by_cases hk : k = f
    · rw [if_pos hk, List.length_cons, List.length_cons]; omega
    · rw [if_neg hk, List.length_cons, List.length_cons]; omega
theorem RelO.some_of {v : V} {o : Option Value} (r : RelO (some v) o) : ∃ u, o = some u ∧ RelV v u := by
  cases o with
  | none => exact (show False from r).elim
  | some u => exact ⟨u, rfl, r⟩
section
variable {P : Program} {w : World} {H H' : Hp} {h h' : Heap} {a C dx : Addr} {fs fs' : List (Str × V)}
theorem ins_get (hok : HOk P w H h) (e : H a = some (.ins C dx fs)) : ∃ mA, ObjM h a dx C mA ∧ (∀ f, RelO (fs.lookup f) (mA f)) ∧ PySem.Within mA (fs.map (·.1)) ∧ fs.length ≤ 1000 ∧ H dx = some (.own a) := by
  obtain ⟨d, z, ne, ob, mA, n, r, q⟩ := (show ObjOk P w H h a (.ins C dx fs) from hok a _ e)
  exact ⟨mA, ⟨ob, n, ne⟩, r, q, z, d⟩
end
structure Cls (K : PySem.W.Frag) (C : Addr) : Prop where
  pg : PySem.W.plainGet K C Str.empty = true
  hd : PySem.W.hasDictIn K C = true
  po : PySem.W.plainOver K C = true
  sa : PySem.W.findIn K (.ref C) "__setattr__" = some (some (.builtin "object.__setattr__"))
theorem Cls.get {K : PySem.W.Frag} {C : Addr} (c : Cls K C) (f : Str) : PySem.W.plainGet K C f = true := c.pg
def NoAttr (K : PySem.W.Frag) (C : Addr) (f : Str) : Prop := PySem.W.findIn K (.ref C) f = some none
section
variable {X : Cx} {pins : List (Addr × Obj)} {σ : St} {H : Hp} {s : Shared} {A : Around} {E : Value → Shared → Prop} {Q : Value → Shared → Prop} {c : Value} {b : Bool}
inductive TyOf (K : PySem.W.Frag) (H : Hp) : V → Value → Prop where
  | non : TyOf K H .non (.type "NoneType")
  | bl (x : Bool) : TyOf K H (.bl x) (.type "bool")
  | int (i : Int) : TyOf K H (.int i) (.type "int")
  | str (x : Str) : TyOf K H (.str x) (.type "str")
  | flt (x : UInt64) : TyOf K H (.flt x) (.type "float")
  | lst {a : Addr} {xs : List V} (e : H a = some (.lst xs)) : TyOf K H (.ref a) (.type "list")
  | frz {a : Addr} {o : Obj} {xs : List V} (e : H a = some (.frz o (.lst xs))) : TyOf K H (.ref a) (.type "list")
  | tup {a : Addr} {xs : List V} (e : H a = some (.tup xs)) : TyOf K H (.ref a) (.type "tuple")
  | dK {a : Addr} {kvs : List (Key × V)} (e : H a = some (.dK kvs)) : TyOf K H (.ref a) (.type "dict")
  | dT {a : Addr} {kvs : List (List Key × V)} (e : H a = some (.dT kvs)) : TyOf K H (.ref a) (.type "dict")
  | ins {a C dx : Addr} {fs : List (Str × V)} (e : H a = some (.ins C dx fs)) (cl : Cls K C) (ha : PySem.W.findIn K (.ref C) "__class__" = some (some (.builtin "object.__class__")))
      (hn : PySem.W.specialIn K (.builtin "object.__class__") "__get__" = some (some (.builtin "getset_descriptor.__get__"))) (htk : PySem.W.takesIn K (.builtin "object.__class__") = some true)
      (hm : PySem.W.mroIn K C (.type "object") = some true) : TyOf K H (.ref a) (.ref C)
theorem isinst_ok {x : V} {u t : Value} (I : Inv X pins σ H s) (rx : RelV x u) (ty : TyOf X.K H x t) (e : PySem.W.kitOne X.K t c = some b) (h : ∀ tk, Q (.bool b) { s with toks := tk }) :
    wpAny (model X.prog X.w) A (call (.builtin "isinstance") [u, c]) Q E s := by
  cases ty with
  | non => cases (show u = Value.none from rx); exact PySem.W.kia_one PySem.W.kitx_none I.kIn True.intro e (fun z => nomatch z) h
  | bl y => cases (show u = Value.bool y from rx); exact PySem.W.kia_one PySem.W.kitx_bool I.kIn True.intro e (fun z => nomatch z) h
  | int i => obtain ⟨t, q⟩ := (show ∃ t, u = Value.int i t from rx); cases q; exact PySem.W.kia_one PySem.W.kitx_int I.kIn True.intro e (fun z => nomatch z) h
  | str y => obtain ⟨t, q⟩ := (show ∃ t, u = Value.str y t from rx); cases q; exact PySem.W.kia_one PySem.W.kitx_str I.kIn True.intro e (fun z => nomatch z) h
  | flt y => obtain ⟨t, q⟩ := (show ∃ t, u = Value.float y t from rx); cases q; exact PySem.W.kia_one PySem.W.kitx_float I.kIn True.intro e (fun z => nomatch z) h
  | @lst a xs ea =>
    cases (show u = Value.ref a from rx)
    obtain ⟨_, _, n, _, h1⟩ := (show ObjOk X.prog X.w H s.heap a (.lst xs) from I.hok a _ ea)
    exact PySem.W.kia_one PySem.W.kitx_list I.kIn ⟨_, h1, rfl⟩ e (fun z => nomatch z) h
  | @frz a ob xs ea =>
    cases (show u = Value.ref a from rx)
    obtain ⟨_, _, _, n, _, h1⟩ := (show ObjOk X.prog X.w H s.heap a (.frz ob (.lst xs)) from I.hok a _ ea)
    exact PySem.W.kia_one PySem.W.kitx_list I.kIn ⟨_, h1, rfl⟩ e (fun z => nomatch z) h
  | @tup a xs ea =>
    cases (show u = Value.ref a from rx)
    obtain ⟨_, _, _, p⟩ := (show ObjOk X.prog X.w H s.heap a (.tup xs) from I.hok a _ ea)
    obtain ⟨o, h1, h2, _⟩ := p
    exact PySem.W.kia_one PySem.W.kitx_tuple I.kIn ⟨o, h1, h2⟩ e (fun z => nomatch z) h
  | @dK a kvs ea =>
    cases (show u = Value.ref a from rx)
    obtain ⟨_, _, vs, _, p⟩ := (show ObjOk X.prog X.w H s.heap a (.dK kvs) from I.hok a _ ea)
    obtain ⟨o, es, ep, h1, h2, _⟩ := p
    exact PySem.W.kia_one PySem.W.kitx_dict I.kIn ⟨o, h1, h2.1⟩ e (fun z => nomatch z) h
  | @dT a kvs ea =>
    cases (show u = Value.ref a from rx)
    obtain ⟨_, _, xs, _, o, es, ep, h1, h2, _⟩ := (show ObjOk X.prog X.w H s.heap a (.dT kvs) from I.hok a _ ea)
    exact PySem.W.kia_one PySem.W.kitx_dict I.kIn ⟨o, h1, h2.1⟩ e (fun z => nomatch z) h
  | @ins a C dx fs ea cl ha hn htk hm =>
    cases (show u = Value.ref a from rx)
    obtain ⟨mA, O, _⟩ := ins_get I.hok ea
    obtain ⟨od, J, _⟩ := O.look
    exact PySem.W.kia_one (PySem.W.kitx_own (cl.get _) cl.hd ha hn htk hm) I.kIn J e (fun z => nomatch z) h
end
end L2
namespace L2
open PySem PySem.Spec PyProof.Rows
structure Room (k : Nat) (A : Around) : Prop where
  gd : A.guards = some []
  hd : A.handled = none
  dp : A.depth + 3 * k + 5 < recursionLimit
  un : A.units + 16 * k + 200 < cLine
theorem Room.mono {j k : Nat} {A : Around} (r : Room k A) (h : j ≤ k) : Room j A := ⟨r.gd, r.hd, by have := r.dp; omega, by have := r.un; omega⟩
theorem Room.deeper {k : Nat} {A : Around} (r : Room (k + 1) A) (env : Env) : Room k (A.deeper env) :=
  ⟨r.gd, r.hd, by have := r.dp; show A.depth + 1 + 3 * k + 5 < _; omega, by have := r.un; show A.units + 3 + 16 * k + 200 < _; omega⟩
theorem Room.in1 {k : Nat} {A : Around} (r : Room (k + 1) A) : Room k A.in1 :=
  ⟨r.gd, r.hd, by have := r.dp; show A.depth + 3 * k + 5 < _; omega, by have := r.un; show A.units + 1 + 16 * k + 200 < _; omega⟩
theorem make_depth {A : Around} {C : Addr} {us : List Value} {kw : List (Str × Value)} : (A.under (.builtin "type.__call__" ⟨.ref C :: us, kw⟩)).depth = A.depth + 1 := by
  first | rfl | simp [Around.under, Code.weight, Code.isCreation, Code.isGuard, Code.isCaller, Code.frames, Code.isFrame, guardIds]
theorem make_units {A : Around} {C : Addr} {us : List Value} {kw : List (Str × Value)} : (A.under (.builtin "type.__call__" ⟨.ref C :: us, kw⟩)).units = A.units + 1 := by
  first | rfl | simp [Around.under, Code.cUnits, Code.frames, Code.isFrame]
theorem Room.make {k : Nat} {A : Around} (r : Room (k + 1) A) (C : Addr) (us : List Value) (kw : List (Str × Value)) : Room k (A.under (.builtin "type.__call__" ⟨.ref C :: us, kw⟩)) :=
  ⟨by first | exact r.gd | (simpa [Around.under, Code.guards, Code.isGuard, guardIds, pushGuards] using r.gd), r.hd, by have := r.dp; rw [make_depth]; omega, by have := r.un; rw [make_units]; omega⟩
theorem Room.depth {k : Nat} {A : Around} (r : Room k A) : A.depth < recursionLimit := by have := r.dp; omega
theorem Room.units {k : Nat} {A : Around} (r : Room k A) : A.units + 64 < cLine := by have := r.un; omega
theorem Room.units0 {k : Nat} {A : Around} (r : Room k A) : A.units < cLine := by have := r.un; omega
def tNil : TA := fun _ H Q => Q [] H
def tCons (ta : TE) (tr : TA) : TA := fun σ H Q => ta σ H fun x H1 => tr σ H1 fun xs H2 => Q (x :: xs) H2
section
variable {X : Cx} {e : Expr} {es : List Expr} {te : TE} {t : TA} {pos : Pos}
theorem pa_nil : PA X [] tNil := fun _ _ _ _ H Q I h => Calls.spliced_nil ⟨[], H, I, .nil, h⟩
theorem pa_cons (ha : PE X e te) (hr : PA X es t) (hs : starEach (e :: es) X.env = (false, eval e X.env) :: starEach es X.env := by rfl) : PA X (e :: es) (tCons te t) := by
  intro pos pins s σ H Q I h
  rw [hs]
  show wpAny _ _ (spliced ((false, eval e X.env) :: backTo pos (starEach es X.env))) _ _ s
  refine Calls.spliced_cons (thn (ha pins s σ H _ I h) fun u s1 ⟨x, H1, I1, r1, q1⟩ => ?_)
  exact thn (hr pos pins s1 σ H1 _ I1 q1) fun us s2 ⟨xs, H2, I2, r2, q2⟩ => ⟨x :: xs, H2, I2, .cons r1 r2, q2⟩
def tTup (t : TA) : TE := fun σ H Q => t σ H fun xs H1 => xs.length ≤ sizeLine ∧ ∀ p, H1 p = none → Q (.ref p) (upd H1 p (.tup xs))
def tLst (t : TA) : TE := fun σ H Q => t σ H fun xs H1 => xs.length ≤ sizeLine ∧ ∀ p, H1 p = none → Q (.ref p) (upd H1 p (.lst xs))
theorem pe_tup {x1} (h : PA X es t) : PE X (.Tuple es x1 pos) (tTup t) := by
  intro pins s σ H Q I hq
  refine wpAny_Tuple_spliced (thn (h pos pins s σ H _ I hq) fun us s1 ⟨xs, H1, I1, r, z, q⟩ => ⟨by rw [← r.length]; exact z, ?_⟩)
  have hf : H1 s1.heap.objs.size = none := I1.hok.fresh (Nat.le_refl _)
  refine ⟨.ref s1.heap.objs.size, upd H1 s1.heap.objs.size (.tup xs), I1.laid (t' := s1.toks) (fun b u e => Heap.get?_push_of_some _ e) (Nat.le_refl _) ?_, rfl, q _ hf⟩
  exact ⟨z, us, r, ⟨_, Heap.get?_push_size _ rfl, rfl, _, rfl⟩⟩
theorem pe_lst (h : PA X es t) : PE X (.List es pos) (tLst t) := by
  intro pins s σ H Q I hq
  refine wpAny_List_spliced (thn (h pos pins s σ H _ I hq) fun us s1 ⟨xs, H1, I1, r, z, q⟩ => ⟨by rw [← r.length]; exact z, ?_⟩)
  have hf : H1 s1.heap.objs.size = none := I1.hok.fresh (Nat.le_refl _)
  refine ⟨.ref s1.heap.objs.size, upd H1 s1.heap.objs.size (.lst xs), I1.laid (t' := s1.toks) (fun b u e => Heap.get?_push_of_some _ e) (Nat.le_refl _) ?_, rfl, q _ hf⟩
  exact ⟨z, us, 0, r, Heap.get?_push_size _ rfl⟩
end
abbrev Sp := List V → Hp → VK → XK → Prop
abbrev CXT := List Env → Hp → Shared → XK → Value → Shared → Prop
structure Env0 (P : Program) (w : World) (K : PySem.W.Frag) (mg : Str → Option Value) (base : Heap) (A : Around) (outer : List Env) (s : Shared) (H : Hp) : Prop where
  frames : A.frames = some outer
  mod : Mod K mg base
  bs : ∀ b o, base.get? b = some o → s.heap.get? b = some o ∧ H b = none
  bsz : base.objs.size ≤ s.heap.objs.size
  funs : s.heap.FunFrames base outer
  frf : ∀ b ∈ frs outer, H b = none
  hok : HOk P w H s.heap
  bare : AllBare s.gens
def CE (outer : List Env) (P : Program) (w : World) (H : Hp) (s : Shared) (Q : VK) (u : Value) (s' : Shared) : Prop :=
  ∃ v H', s'.os = s.os ∧ AllBare s'.gens ∧ Un (frs outer) [] H H' s.heap s'.heap ∧ HOk P w H' s'.heap ∧ RelV v u ∧ Q v H'
def CR (CX : CXT) (outer : List Env) (P : Program) (w : World) (H : Hp) (s : Shared) (Q : VK) (E : XK) (r : Result) (s' : Shared) : Prop :=
  match r with
  | .ok (.ret u) => CE outer P w H s Q u s'
  | .ok _ => False
  | .error e => CX outer H s E e s'
structure FnOk (P : Program) (w : World) (K : PySem.W.Frag) (mg : Str → Option Value) (base : Heap) (CX : CXT) (k : Nat) (f : Addr) (fd : FuncData) (ps : List Str) (sp : Sp) : Prop where
  len : ∀ vs H Q E, sp vs H Q E → vs.length = ps.length
  run : ∀ (A : Around) (outer : List Env) (s : Shared) (H : Hp) (args : Args) (us : List Value) (vs : List V) (Q : VK) (E : XK), Room k A → Env0 P w K mg base A outer s H → BindsTo s fd args (ps.zip us) → Vals vs us → sp vs H Q E →
    codeAny (model P w) A (.call (.ref f) args) (CR CX outer P w H s Q E) s
theorem Env0.make {P : Program} {w : World} {K : PySem.W.Frag} {mg : Str → Option Value} {base : Heap} {A : Around} {outer : List Env} {s : Shared} {H : Hp} (e : Env0 P w K mg base A outer s H) (C : Addr) (us : List Value) (kw : List (Str × Value)) :
    Env0 P w K mg base (A.under (.builtin "type.__call__" ⟨.ref C :: us, kw⟩)) outer s H := ⟨by first | exact e.frames | (simpa [Around.under, Code.envs, Code.isFrame, pushEnvs] using e.frames), e.mod, e.bs, e.bsz, e.funs, e.frf, e.hok, e.bare⟩
section
variable {X : Cx} {pins : List (Addr × Obj)} {σ : St} {H : Hp} {s s' : Shared}
theorem Inv.env0 (I : Inv X pins σ H s) : Env0 X.prog X.w X.K X.mg X.base X.A X.stack s H :=
  ⟨I.ok.frames, I.ok.mod, I.bs, Nat.le_trans I.ok.bsz I.sz, I.stack, I.stkFree, I.hok, I.bare⟩
theorem Inv.after {Q : VK} {u : Value} (I : Inv X pins σ H s) (h : CE X.stack X.prog X.w H s Q u s') : EP X pins σ Q u s' := by
  obtain ⟨v, H', os, bare, un, hok, r, q⟩ := h
  obtain ⟨hh, g, d, t, os'⟩ := s'
  obtain rfl : os' = s.os := os
  exact ⟨v, H', I.call (h' := hh) (g' := g) (d' := d) (t' := t) (ch := []) un hok bare (fun b z => absurd z (by simp)), r, q⟩
end
def tCall (sp : Sp) (dvs : List V) (E : XK) (t : TA) : TE := fun σ H Q => t σ H fun vs H1 => sp (vs ++ dvs) H1 Q E
def Binds (K : PySem.W.Frag) (fd : FuncData) (ps : List Str) (ds : List Value) : Prop :=
  ∀ (s : Shared) (us : List Value), K.In s.heap → (us ++ ds).length = ps.length → BindsTo s fd ⟨us, []⟩ (ps.zip (us ++ ds))
theorem Binds.all {K : PySem.W.Frag} {fd : FuncData} {ps : List Str} (h : ∀ us : List Value, us.length = ps.length → bindArgs fd ⟨us, []⟩ = pure (ps.zip us)) : Binds K fd ps [] := fun s us _ hl => by
  rw [List.append_nil] at hl ⊢
  exact .of_eq (h us hl)
def Passes (CX : CXT) (X : Cx) (E : XK) : Prop := ∀ (pins : List (Addr × Obj)) (σ : St) (H : Hp) (s : Shared) (e : Value) (s' : Shared), Inv X pins σ H s → CX X.stack H s E e s' → X.xe e s'
section
variable {X : Cx} {CX : CXT} {k : Nat} {f C : Addr} {fd : FuncData} {ps : List Str} {sp : Sp} {dvs : List V} {ds : List Value} {E : XK} {x m : Str} {p pos apos : Pos} {e o : Expr} {es : List Expr} {ta : TE} {t : TA}
theorem run_fn {pins : List (Addr × Obj)} {σ : St} {H : Hp} {s : Shared} {Q : VK} {us : List Value} {vs : List V} (F : FnOk X.prog X.w X.K X.mg X.base CX k f fd ps sp) (hr : Room k X.A) (hb : Binds X.K fd ps ds) (hd : Vals dvs ds) (hx : Passes CX X E)
    (I : Inv X pins σ H s) (r : Vals vs us) (h : sp (vs ++ dvs) H Q E) : wpAny (model X.prog X.w) X.A (call (.ref f) us) (EP X pins σ Q) X.xe s := by
  have r2 : Vals (vs ++ dvs) (us ++ ds) := r.append hd
  have hl : (us ++ ds).length = ps.length := by rw [← r2.length]; exact F.len _ _ _ _ h
  refine wpAny_call (codeAny_mono (F.run X.A X.stack s H ⟨us, []⟩ (us ++ ds) (vs ++ dvs) Q E hr I.env0 (hb s us I.kIn hl) r2 h) fun r s' hq => ?_)
  cases r with
  | error e => exact hx pins σ H s e s' I hq
  | ok fl =>
    cases fl with
    | ret u => exact I.after hq
    | next => exact False.elim hq
    | brk => exact False.elim hq
    | cont => exact False.elim hq
theorem pe_call (F : FnOk X.prog X.w X.K X.mg X.base CX k f fd ps sp) (hr : Room k X.A) (hg : Gl X x) (hm : X.mg x = some (.ref f)) (hk : PySem.W.keepIn X.K (.ref f) = true) (hb : Binds X.K fd ps ds) (hd : Vals dvs ds) (hx : Passes CX X E)
    (ha : PA X (e :: es) t) (hdb : (x == ("__debug__" : Str)) = false := by decide) (he : starEach (e :: es) X.env = (false, eval e X.env) :: starEach es X.env := by rfl) (hpl : (backTo pos (starEach es X.env)).any (·.1) = false := by rfl) :
    PE X (.Call (.Name x p) (e :: es) [] pos) (tCall sp dvs E t) := by
  intro pins s σ H Q I h
  refine wpAny_Call_Name_kw (ld_glob I hg hm ?_ hdb)
  refine PySem.W.callWith_K (h₀ := X.base) I.ok.mod.kin hk (thn (ha pos pins s σ H _ I h) fun us s1 ⟨vs, H1, I1, r, q⟩ => ⟨I1.kIn, ?_⟩) he hpl
  exact run_fn F hr hb hd hx I1 r q
end
structure FnScope (N P : List Str) (sc : Scope) : Prop where
  kind : sc.kind = .function
  co : sc.isCoroutine = false
  gen : sc.isGenerator = false
  nd : N.Nodup
  pre : N.take P.length = P
  par : ∀ x ∈ P, sc.names.lookup x = some .local ∨ sc.names.lookup x = some .cell
  nofree : ∀ y ∈ sc.names, y.2 ≠ .free
theorem bindL_out {kindOf : Str → Option NameKind} {x : Str} : ∀ {binds : List (Str × Value)} {m : Str → Option Value}, (∀ v, (x, v) ∉ binds) → bindL kindOf binds m x = m x
  | [], _, _ => rfl
  | (n, v) :: r, m, h => by
    unfold bindL
    rw [bindL_out fun w hw => h w (List.mem_cons_of_mem _ hw)]
    split
    · have : x ≠ n := by rintro rfl; exact h v List.mem_cons_self
      simp [this]
    · rfl
theorem bindC_out {kindOf : Str → Option NameKind} {x : Str} : ∀ {binds : List (Str × Value)} {m : Str → Option Value}, (∀ v, (x, v) ∉ binds) → bindC kindOf binds m x = m x
  | [], _, _ => rfl
  | (n, v) :: r, m, h => by
    unfold bindC
    rw [bindC_out fun w hw => h w (List.mem_cons_of_mem _ hw)]
    split
    · rfl
    · have : x ≠ n := by rintro rfl; exact h v List.mem_cons_self
      simp [this]
theorem bindL_get {kindOf : Str → Option NameKind} {x : Str} {v : Value} : ∀ {P : List Str} {vs : List Value} {i : Nat} {m : Str → Option Value}, P.Nodup → P[i]? = some x → vs[i]? = some v → kindOf x = some .local →
    bindL kindOf (P.zip vs) m x = some v
  | [], _, _, _, _, h, _, _ => by simp at h
  | _ :: _, [], _, _, _, _, h, _ => by simp at h
  | p :: P, w :: vs, 0, m, nd, h1, h2, hk => by
    simp at h1 h2; subst h1; subst h2
    show bindL kindOf ((p, w) :: P.zip vs) m p = _
    unfold bindL
    rw [bindL_out fun v hv => (List.nodup_cons.mp nd).1 (List.of_mem_zip hv).1, if_pos hk]
    simp
  | p :: P, w :: vs, i + 1, m, nd, h1, h2, hk => by
    show bindL kindOf ((p, w) :: P.zip vs) m x = _
    unfold bindL
    exact bindL_get (i := i) (List.nodup_cons.mp nd).2 (by simpa using h1) (by simpa using h2) hk
theorem bindC_get {kindOf : Str → Option NameKind} {x : Str} {v : Value} : ∀ {P : List Str} {vs : List Value} {i : Nat} {m : Str → Option Value}, P.Nodup → P[i]? = some x → vs[i]? = some v → kindOf x ≠ some .local →
    bindC kindOf (P.zip vs) m x = some v
  | [], _, _, _, _, h, _, _ => by simp at h
  | _ :: _, [], _, _, _, _, h, _ => by simp at h
  | p :: P, w :: vs, 0, m, nd, h1, h2, hk => by
    simp at h1 h2; subst h1; subst h2
    show bindC kindOf ((p, w) :: P.zip vs) m p = _
    unfold bindC
    rw [bindC_out fun v hv => (List.nodup_cons.mp nd).1 (List.of_mem_zip hv).1, if_neg hk]
    simp
  | p :: P, w :: vs, i + 1, m, nd, h1, h2, hk => by
    show bindC kindOf ((p, w) :: P.zip vs) m x = _
    unfold bindC
    exact bindC_get (i := i) (List.nodup_cons.mp nd).2 (by simpa using h1) (by simpa using h2) hk
def start (N : List Str) (vs : List V) : St := vs.map some ++ List.replicate (N.length - vs.length) none
def cxOf (CX : CXT) (P : Program) (w : World) (K : PySem.W.Frag) (mg : Str → Option Value) (base : Heap) (N : List Str) (qual : Str) (scope : Scope) (f : Addr) (cd : Value) (A : Around) (outer : List Env) (s : Shared) (H : Hp) (E : XK) : Cx where
  prog := P
  w := w
  K := K
  mg := mg
  base := base
  A := A.deeper (envOfC qual scope s.heap.objs.size f cd)
  N := N
  s_0 := s
  H_0 := H
  env := envOfC qual scope s.heap.objs.size f cd
  outer := outer
  stack := envOfC qual scope s.heap.objs.size f cd :: outer
  ex := []
  calm := true
  fn := fun _ => true
  pn := []
  xe := fun e s' => wpAny (model P w) (A.deeper (envOfC qual scope s.heap.objs.size f cd)) (leaving (envOfC qual scope s.heap.objs.size f cd) e) (fun _ s'' => CX outer H s E e s'') (fun e' s'' => CX outer H s E e' s'') s'
theorem cell_has {sc : Scope} {n : Nat} {x : Str} (h : sc.names.lookup x = some .cell) : ∃ c, (cellsFrom n sc.names []).lookup x = some c := by
  have q := PySem.W.cellsFrom_some sc.names n [] (.inl h)
  exact Option.isSome_iff_exists.mp q
theorem inv_start {CX : CXT} {P : Program} {w : World} {K : PySem.W.Frag} {mg : Str → Option Value} {base : Heap} {N ps : List Str} {qual : Str} {scope : Scope} {f : Addr} {cd : Value} {A : Around} {outer : List Env} {s s1 : Shared} {H : Hp} {E : XK} {us : List Value} {vs : List V}
    (S : FnScope N ps scope) (hd : A.handled = none) (e0 : Env0 P w K mg base A outer s H) (hl : vs.length = ps.length) (r : Vals vs us)
    (x : InCallC s s.heap.objs.size (bindL (envOfC qual scope s.heap.objs.size f cd).kindOf (ps.zip us) fun _ => none) (cellsFrom (s.heap.objs.size + 1) scope.names []) (bindC (envOfC qual scope s.heap.objs.size f cd).kindOf (ps.zip us) fun _ => none) s1) :
    Inv (cxOf CX P w K mg base N qual scope f cd A outer s H E) [] (start N vs) H s1 := by
  have hpl : ps.length ≤ N.length := by have := congrArg List.length S.pre; rw [List.length_take] at this; omega
  obtain ⟨h1, tk, rfl, hk⟩ := x.done
  have noA : ∀ b : Addr, b ∉ (cxOf CX P w K mg base N qual scope f cd A outer s H E).ex := fun b z => absurd (show b ∈ ([] : List Addr) from z) (by simp)
  refine ⟨⟨e0.mod, S.kind, rfl, rfl, Nat.le_refl _, fun y z c h1 h2 => ?_, fun y hy => ?_, fun y c _ h => ?_, fun _ => hd, Around.frames_deeper e0.frames, .inr ⟨rfl, rfl⟩, fun b z => absurd z (noA b), e0.bs, e0.bsz, fun b _ _ => noA b, fun b z => absurd z (noA b), e0.funs, e0.frf⟩,
    rfl, e0.bare, Un.kept hk, ⟨_, x.toInCall.ns, fun i y v h1 h2 h3 => ?_⟩, fun y c h => ⟨_, x.cell y c h⟩, e0.hok.fresh (Nat.le_refl _), fun y c h => ?_, fun p hp => absurd (show p ∈ ([] : List (Addr × Obj)) from hp) (by simp), e0.hok.kept hk, ?_⟩
  · exact name_of_addr x.apart (PySem.mem_of_lookup h1) (PySem.mem_of_lookup h2)
  · have hy : scope.names.lookup y = some .cell ∨ scope.names.lookup y = some .free := hy
    rcases hy with hy | hy
    · exact cell_has hy
    · exact absurd rfl (S.nofree _ (PySem.mem_of_lookup hy))
  · exact Nat.le_of_lt (x.above y c (PySem.mem_of_lookup h))
  · have hi : i < vs.length := by
      unfold start at h2
      by_cases hi : i < vs.length
      · exact hi
      · rw [List.getElem?_append_right (by simpa using hi)] at h2
        rw [List.getElem?_replicate] at h2
        split at h2 <;> cases h2
    have ha : vs[i]? = some v := by
      unfold start at h2
      rw [List.getElem?_append_left (by simpa using hi), List.getElem?_map] at h2
      cases e : vs[i]? with
      | none => rw [e] at h2; cases h2
      | some a => rw [e] at h2; cases h2; rfl
    obtain ⟨u, hu, rv⟩ := r.get ha
    have hp : ps[i]? = some y := by
      rw [← S.pre, List.getElem?_take_of_lt (by omega)]; exact h1
    have ndP : ps.Nodup := by rw [← S.pre]; exact S.nd.sublist (List.take_sublist _ _)
    refine ⟨u, rv, ?_⟩
    rcases S.par y (List.mem_of_getElem? hp) with k | k
    · exact .inl ⟨k, bindL_get ndP hp hu k⟩
    · obtain ⟨c, e⟩ := cell_has (n := s.heap.objs.size + 1) k
      refine .inr ⟨.inl k, c, e, ?_⟩
      have q := x.cell y c e
      rw [bindC_get ndP hp hu (by show scope.names.lookup y ≠ _; rw [k]; decide)] at q
      exact q
  · exact e0.hok.fresh (Nat.le_of_lt (x.above y c (PySem.mem_of_lookup h)))
  · unfold start
    show _ = N.length
    rw [List.length_append, List.length_map, List.length_replicate]
    omega
theorem fn_of {CX : CXT} {P : Program} {w : World} {K : PySem.W.Frag} {mg : Str → Option Value} {base : Heap} {k : Nat} {f : Addr} {name qual : Str} {params : Arguments} {body : List Stmt} {scope : Scope} {dV kV doc pm cdv ct oc : Value} {an od : Option Addr}
    {osl : Array (Option Value)} {N ps : List Str} {sp : Sp} (lk : K.lookup f = some ⟨oc, od, .func (PySem.W.fnOf name qual params body scope dV kV doc pm an cdv ct), osl⟩) (hcd : PySem.W.codeIn K cdv qual = true) (S : FnScope N ps scope)
    (len : ∀ vs H Q E, sp vs H Q E → vs.length = ps.length)
    (hbody : ∀ (A : Around) (outer : List Env) (s : Shared) (H : Hp) (vs : List V) (Q : VK) (E : XK), Room k (A.deeper (envOfC qual scope s.heap.objs.size f cdv)) → sp vs H Q E →
      ∃ t, PSs (cxOf CX P w K mg base N qual scope f cdv A outer s H E) body t ∧ t { nx := fun _ H' => Q .non H', rt := Q } (start N vs) H) :
    FnOk P w K mg base CX (k + 1) f (PySem.W.fnOf name qual params body scope dV kV doc pm an cdv ct) ps sp := by
  refine ⟨len, fun A outer s H args us vs Q E hr e0 hb r hsp => ?_⟩
  have hl := len _ _ _ _ hsp
  have KX : K.In s.heap := e0.mod.kin.keeps fun b o e => (e0.bs b o e).1
  have lim : s.heap.NoLimit := e0.mod.nolimit.keeps fun b o e => (e0.bs b o e).1
  have hkind : ∀ y ∈ ps.zip us, scope.names.lookup y.1 = some .local ∨ (scope.names.lookup y.1 = some .cell ∧ ((cellsFrom (s.heap.objs.size + 1) scope.names []).lookup y.1).isSome = true) := fun ⟨n, v⟩ hy => by
    rcases S.par n (List.of_mem_zip hy).1 with q | q
    · exact .inl q
    · exact .inr ⟨q, PySem.W.cellsFrom_some _ _ _ (.inl q)⟩
  refine codeAny_call_function hr.depth (KX _ _ lk) rfl S.co S.gen rfl (PySem.W.codeRec_of KX hcd) (hb _ _ _ _ ?_)
  refine wpAny_newFunctionEnv_cells S.kind hkind fun env he s1 x => ?_
  subst he
  refine ⟨lim.keeps x.toInCall.keep, codeAny_func ?_⟩
  obtain ⟨t, ht, hq⟩ := hbody A outer s H vs Q E (hr.deeper _) hsp
  have I : Inv (cxOf CX P w K mg base N qual scope f cdv A outer s H E) [] (start N vs) H s1 := inv_start S hr.hd e0 hl r x
  refine wpAny_mono (ht [] s1 (start N vs) H _ I hq) (fun fl s' hs => ?_) fun e s' hs => hs
  have fin : ∀ {σ' : St} {H' : Hp} {v : V} {u : Value}, Inv (cxOf CX P w K mg base N qual scope f cdv A outer s H E) [] σ' H' s' → RelV v u → Q v H' → CE outer P w H s Q u s' :=
    fun {σ' H' v u} J rv q => ⟨v, H', J.os, J.bare, J.base, J.hok, rv, q⟩
  cases fl with
  | ret u =>
    obtain ⟨v, σ', H', J, rv, q⟩ := hs
    exact fin J rv q
  | next =>
    obtain ⟨σ', H', J, q⟩ := hs
    exact fin (v := V.non) (u := Value.none) J rfl q
  | brk =>
    obtain ⟨_, _, _, q⟩ := hs
    exact False.elim q
  | cont =>
    obtain ⟨_, _, _, q⟩ := hs
    exact False.elim q
end L2
namespace L2
open PySem PySem.Spec PyProof.Rows
section
variable {X : Cx} {x : Str} {p pos : Pos} {e : Expr} {es : List Expr} {t : TA} {id T : String} {r : List V → Hp → VK → Prop}
def tCB (r : List V → Hp → VK → Prop) (t : TA) : TE := fun σ H Q => t σ H fun vs H1 => r vs H1 Q
theorem pe_callB (hc : CallR X (.builtin id) r) (hg : Gl X x) (hm : X.mg x = none) (hv : bootBuiltins x = some (.builtin id)) (ha : PA X (e :: es) t) (hn : x ≠ "__name__" := by decide) (hdb : (x == ("__debug__" : Str)) = false := by decide)
    (he : starEach (e :: es) X.env = (false, eval e X.env) :: starEach es X.env := by rfl) (hpl : (backTo pos (starEach es X.env)).any (·.1) = false := by rfl) : PE X (.Call (.Name x p) (e :: es) [] pos) (tCB r t) := by
  intro pins s σ H Q I h
  refine wpAny_Call_Name_kw (ld_blt I hg hm hv ?_ hn hdb)
  exact PyProof.Rows.callWith_builtin1 (thn (ha pos pins s σ H _ I h) fun us s1 ⟨vs, H1, I1, r1, q1⟩ => hc pins s1 σ H1 vs us Q I1 r1 q1) he hpl
theorem pe_callTy (hc : CallR X (.type T) r) (hg : Gl X x) (hm : X.mg x = none) (hv : bootBuiltins x = some (.type T)) (ha : PA X (e :: es) t) (hn : x ≠ "__name__" := by decide) (hdb : (x == ("__debug__" : Str)) = false := by decide)
    (he : starEach (e :: es) X.env = (false, eval e X.env) :: starEach es X.env := by rfl) (hpl : (backTo pos (starEach es X.env)).any (·.1) = false := by rfl) : PE X (.Call (.Name x p) (e :: es) [] pos) (tCB r t) := by
  intro pins s σ H Q I h
  refine wpAny_Call_Name_kw (ld_blt I hg hm hv ?_ hn hdb)
  exact PyProof.Rows.callWith_type1 (thn (ha pos pins s σ H _ I h) fun us s1 ⟨vs, H1, I1, r1, q1⟩ => hc pins s1 σ H1 vs us Q I1 r1 q1) he hpl
end
end L2
namespace HT
open PySem PyProof.Rows
def lexLt : List Int → List Int → Bool
  | [], [] => false
  | [], _ :: _ => true
  | _ :: _, [] => false
  | x :: xs, y :: ys => if x = y then lexLt xs ys else decide (x < y)
theorem lexLt_cons (x y : Int) (xs ys : List Int) : lexLt (x :: xs) (y :: ys) = if x = y then lexLt xs ys else decide (x < y) := rfl
theorem lexLt_nil_nil : lexLt [] [] = false := rfl
theorem lexLt_nil_cons (y : Int) (ys : List Int) : lexLt [] (y :: ys) = true := rfl
theorem lexLt_cons_nil (x : Int) (xs : List Int) : lexLt (x :: xs) [] = false := rfl
theorem eqAt_int (A : Around) (s : Shared) (a : Int) (t : Tok) (c : Int) (u : Tok) : ∃ e, SeqAt.EqAt A s (.int a t) (.int c u) e ∧ (e = true ↔ a = c) :=
  ⟨(a == c), SeqAt.EqAt.int_int a t c u, by simp⟩
theorem rcLt_int (A : Around) (s : Shared) (a : Int) (t : Tok) (c : Int) (u : Tok) (prog : Program) (w : World) (E : Value → Shared → Prop) (Q : Value → Shared → Prop) (h : Q (.bool (decide (a < c))) s) :
    wpAny (model prog w) A (richCompare .Lt (.int a t) (.int c u)) Q E s :=
  (PyProof.Rows.lt_int h : wpAny (model prog w) A (compareOp .Lt (.int a t) (.int c u)) Q E s)
section
open PySem.SeqAt
open PySem.AutoSeq1 (wpAny_loadPart')
open PySem.MeetsSeq PySem.MeetsSeq2 PySem.MeetsSeq3
theorem tuple_lt_ints (l b : Addr) (items items2 : Array Value) (n n2 : Nat) (dd dd2 : Option Addr) (sl sl2 : Array (Option Value)) (ns ms : List Int) (hi : IntsAre items.toList ns) (hj : IntsAre items2.toList ms) :
    Meets (Builtin.«tuple.__lt__» ⟨[.ref l, .ref b], []⟩)
      (fun _ R s => s.heap.get? l = some { cls := .type "tuple", dict := dd, data := .seq items n, slots := sl } ∧ s.heap.get? b = some { cls := .type "tuple", dict := dd2, data := .seq items2 n2, slots := sl2 } ∧
        R (.ok (.ret (.bool (lexLt ns ms)))) s) :=
  .of_wp fun prog w A R s h => by
    obtain ⟨hp, g, d, tk, os⟩ := s; obtain ⟨hl, hb, h⟩ := h
    have f2 := AutoSeq1.sub_tuple_tuple
    have z1 : items.size = ns.length := by rw [← hi.length]; simp
    have z2 : items2.size = ms.length := by rw [← hj.length]; simp
    wp_walk using wpAny_loadPart' hl, wpAny_loadPart' hb, wpAny_forIn_list _ (fun rest b s' => b.1 = none ∧ s' = ⟨hp, g, d, tk, os⟩ ∧ ∃ (vs ws : List Value) (ns' ms' : List Int), rest = vs.zip ws ∧
      IntsAre vs ns' ∧ IntsAre ws ms' ∧ ns'.length + items2.size = ms'.length + items.size ∧ R (.ok (.ret (.bool (lexLt ns' ms')))) ⟨hp, g, d, tk, os⟩) _
    case turn =>
      rintro ⟨y, x⟩ rest b s' ⟨hb', rfl, vs, ws, ns', ms', hz, hvi, hwi, hlen, hR⟩
      cases hvi with
      | nil => rw [List.zip_nil_left] at hz; cases hz
      | cons a t hvi' =>
        cases hwi with
        | nil => rw [List.zip_nil_right] at hz; cases hz
        | cons c u hwi' =>
          rw [List.zip_cons_cons] at hz
          injection hz with hyx hrest
          injection hyx with hy hx
          subst hy hx
          rw [lexLt_cons] at hR
          simp only [List.length_cons] at hlen
          obtain ⟨e, he, hiff⟩ := eqAt_int A.in1 ⟨hp, g, d, tk, os⟩ a t c u
          refine wpAny_bind (he prog w _ _ ?_)
          cases e with
          | true =>
            rw [if_pos (hiff.mp rfl)] at hR
            wp_walk
            exact ⟨rfl, rfl, _, _, _, _, hrest, hvi', hwi', by omega, hR⟩
          | false =>
            rw [if_neg (fun q => absurd (hiff.mpr q) Bool.false_ne_true)] at hR
            have hri := rcLt_int A.in1 ⟨hp, g, d, tk, os⟩ a t c u prog w
            wp_walk using hri
            exact ⟨_, rfl, by simpa using hR⟩
    case fin =>
      rintro ⟨b1, b2⟩ s' ⟨hb', rfl, vs, ws, ns', ms', hz, hvi, hwi, hlen, hR⟩
      simp only at hb'
      subst hb'
      have hv : lexLt ns' ms' = decide (items.size < items2.size) := by
        cases hvi with
        | nil =>
          cases hwi with
          | nil =>
            simp only [List.length_nil] at hlen
            rw [lexLt_nil_nil]
            exact (decide_eq_false (by omega)).symm
          | cons c u hw =>
            simp only [List.length_nil, List.length_cons] at hlen
            rw [lexLt_nil_cons]
            exact (decide_eq_true (by omega)).symm
        | cons a t hv =>
          cases hwi with
          | nil =>
            simp only [List.length_nil, List.length_cons] at hlen
            rw [lexLt_cons_nil]
            exact (decide_eq_false (by omega)).symm
          | cons c u hw =>
            rw [List.zip_cons_cons] at hz
            cases hz
      rw [hv] at hR
      wp_walk
      exact ⟨_, rfl, by simpa [Builtin.Tuple.tupleCompareSizes] using hR⟩
    case h =>
      exact ⟨rfl, rfl, items.toList, items2.toList, ns, ms, rfl, hi, hj, by omega, h⟩
end
section
variable {prog : Program} {w : World} {A : Around} {E : Value → Shared → Prop} {s : Shared}
theorem lt_tupInts {l b : Addr} {items items2 : Array Value} {ns ms : List Int} {Q : Value → Shared → Prop} (hl : IsTup s.heap l items) (hb : IsTup s.heap b items2) (hi : IntsAre items.toList ns) (hj : IntsAre items2.toList ms)
    (hu : A.units < cLine) (h : Q (.bool (lexLt ns ms)) s) : wpAny (model prog w) A (compareOp .Lt (.ref l) (.ref b)) Q E s := by
  obtain ⟨⟨cls, dd, data, sl⟩, ho, hc, n, hd⟩ := id hl
  obtain ⟨⟨cls2, dd2, data2, sl2⟩, ho2, hc2, n2, hd2⟩ := id hb
  simp only at hc hd hc2 hd2
  subst hc hd hc2 hd2
  exact richCompare_meets_room (op := .Lt) ⟨_, ho, rfl⟩ ⟨_, ho2, rfl⟩ PySem.F.slot_tuple_lt PySem.F.entry_tuple_lt (PySem.F.args_tuple_lt_2 _ _) (tuple_lt_ints l b items items2 n n2 dd dd2 sl sl2 ns ms hi hj)
    ⟨ho, ho2, show Value.bool (lexLt ns ms) ≠ Value.notImplemented ∧ Q (.bool (lexLt ns ms)) s from ⟨(fun x => nomatch x), h⟩⟩ hu
def sIx (n d : Nat) : Option Int → Nat
  | none => d
  | some v => if v < 0 then (v + (n : Int)).toNat else min v.toNat n
theorem sIx_nat (n d k : Nat) : sIx n d (some (k : Int)) = min k n := by
  show (if (k : Int) < 0 then ((k : Int) + (n : Int)).toNat else min (k : Int).toNat n) = min k n
  rw [if_neg (by omega), Int.toNat_natCast]
end
end HT
namespace L2
open PySem PySem.Spec PyProof.Rows
abbrev TO := St → Hp → (Option Int → Hp → Prop) → Prop
def PO (X : Cx) (e : Option Expr) (t : TO) : Prop :=
  ∀ (pins : List (Addr × Obj)) (s : Shared) (σ : St) (H : Hp) (Q : Option Int → Hp → Prop), Inv X pins σ H s → t σ H Q →
    wpAny (model X.prog X.w) X.A (evalPart e X.env) (fun u s' => ∃ o H', Inv X pins σ H' s' ∧ IsPart u o ∧ Q o H') X.xe s
def tNoPart : TO := fun _ H Q => Q none H
def tPart (t : TE) : TO := fun σ H Q => t σ H fun x H1 => ∃ i, x = .int i ∧ Q (some i) H1
theorem intsAre_of {ns : List Int} : ∀ {us : List Value}, Vals (ns.map V.int) us → IntsAre us ns := by
  induction ns with
  | nil => intro us r; rw [List.map_nil] at r; cases r; exact .nil
  | cons n ns ih =>
    intro us r
    rw [List.map_cons] at r
    cases r with
    | cons r1 r2 =>
      obtain ⟨t, e⟩ := r1
      subst e
      exact .cons n t (ih r2)
section
variable {X : Cx} {e : Expr} {te : TE} {lo hi : Option Expr} {tl th : TO} {pos p2 : Pos}
theorem po_none : PO X none tNoPart := by
  intro pins s σ H Q I h
  rw [evalPart_none]
  exact wpAny_pure ⟨none, H, I, .none, h⟩
theorem po_some (h : PE X e te) : PO X (some e) (tPart te) := by
  intro pins s σ H Q I hw
  rw [evalPart_some]
  refine thn (h pins s σ H _ I hw) fun u s1 ⟨x, H1, I1, r1, q1⟩ => ?_
  obtain ⟨i, rfl, q⟩ := q1
  obtain ⟨t, rfl⟩ := r1
  exact ⟨some i, H1, I1, .int i t, q⟩
def SlR (X : Cx) (r : V → Option Int → Option Int → Hp → VK → Prop) : Prop :=
  ∀ (pins : List (Addr × Obj)) (s : Shared) (σ : St) (H : Hp) (x : V) (v vl vu : Value) (lo hi : Option Int) (sl : Addr) (Q : VK), Inv X pins σ H s → RelV x v → s.heap.IsSliceOf sl vl vu .none → IsPart vl lo → IsPart vu hi → r x lo hi H Q →
    ∃ T id, typeLookup (.type T) "__getitem__" = pure (some (.builtin id)) ∧ s.TypeIs v T ∧ wpAny (model X.prog X.w) X.A (getItem v (.ref sl)) (EP X pins σ Q) X.xe s
def tSl (r : V → Option Int → Option Int → Hp → VK → Prop) (te : TE) (tl th : TO) : TE := fun σ H Q => te σ H fun x H1 => tl σ H1 fun l H2 => th σ H2 fun u H3 => r x l u H3 Q
theorem pe_slice {r : V → Option Int → Option Int → Hp → VK → Prop} (hr : SlR X r) (he : PE X e te) (hl : PO X lo tl) (hu : PO X hi th) : PE X (.Subscript e (.Slice lo hi none p2) pos) (tSl r te tl th) := by
  intro pins s σ H Q I h
  refine Subscript_ (thn (he pins s σ H _ I h) fun v s1 ⟨x, H1, I1, r1, q1⟩ => ?_)
  refine wpAny_Slice (thn (hl pins s1 σ H1 _ I1 q1) fun vl s2 ⟨l, H2, I2, pl, q2⟩ => thn (hu pins s2 σ H2 _ I2 q2) fun vu s3 ⟨u, H3, I3, pu, q3⟩ => ?_)
  rw [evalPart_none]
  refine wpAny_pure ?_
  have I4 : Inv X pins σ H3 { s3 with heap := s3.heap.push { cls := .type "slice", data := .fields #[vl, vu, .none] } } := I3.kept (t' := s3.toks) fun b ob q => Heap.get?_push_of_some _ q
  obtain ⟨T, id, hT, ht, hg⟩ := hr pins { s3 with heap := s3.heap.push { cls := .type "slice", data := .fields #[vl, vu, .none] } } σ H3 x v vl vu l u s3.heap.objs.size Q I4 r1 (Heap.IsSliceOf.new ..) pl pu q3
  show wpAny (model X.prog X.w) X.A (subscriptTail e (.Slice lo hi none p2) v (.ref s3.heap.objs.size)) (EP X pins σ Q) X.xe { s3 with heap := s3.heap.push { cls := .type "slice", data := .fields #[vl, vu, .none] } }
  exact tail_any (ops := [.ref s3.heap.objs.size, v]) ht hT hg (by with_unfolding_all rfl)
def cutV (xs : List V) (lo hi : Option Int) : List V := (xs.drop (HT.sIx xs.length 0 lo)).take (HT.sIx xs.length xs.length hi - HT.sIx xs.length 0 lo)
theorem cutV_length (xs : List V) (lo hi : Option Int) : (cutV xs lo hi).length ≤ xs.length := by
  unfold cutV
  rw [List.length_take, List.length_drop]
  omega
def rLtT (K : PySem.W.Frag) : R2 := fun x y H Q => ∃ a b ns ms, x = .ref a ∧ y = .ref b ∧ SqT K H a (ns.map V.int) ∧ SqT K H b (ms.map V.int) ∧ Q (.bl (HT.lexLt ns ms)) H
theorem op_ltT (hu : X.A.units < cLine) : OpR X (compareOp .Lt) (rLtT X.K) := by
  intro pins s σ H x y v u Q I rx ry h
  obtain ⟨a, b, ns, ms, rfl, rfl, ha, hb, q⟩ := h
  cases rx
  cases ry
  obtain ⟨its, r1, p1, _⟩ := I.tuple ha
  obtain ⟨its2, r2, p2, _⟩ := I.tuple hb
  have i1 : IntsAre its.toArray.toList ns := intsAre_of r1
  have i2 : IntsAre its2.toArray.toList ms := intsAre_of r2
  exact HT.lt_tupInts p1 p2 i1 i2 hu ⟨.bl (HT.lexLt ns ms), H, I, rfl, q⟩
end
end L2
namespace L2
open PySem PySem.Spec PyProof.Rows
def ixN (n : Nat) (i : Int) : Option Nat := if 0 ≤ i then (if i < n then some i.toNat else none) else if -(n : Int) ≤ i then some (i + n).toNat else none
def atI {α : Type} (xs : List α) (i : Int) : Option α := (ixN xs.length i).bind fun j => xs[j]?
theorem ixN_seq {n : Nat} {i : Int} {j : Nat} (h : ixN n i = some j) : seqIndex? i n = some j ∧ j < n ∧ -(n : Int) ≤ i ∧ i < n := by
  unfold ixN at h
  by_cases h0 : 0 ≤ i
  · rw [if_pos h0] at h
    by_cases h1 : i < n
    · rw [if_pos h1] at h
      have e : i.toNat = j := Option.some.inj h
      exact ⟨by rw [seqIndex_of h0 h1, e], by omega, by omega, h1⟩
    · rw [if_neg h1] at h; cases h
  · rw [if_neg h0] at h
    by_cases h1 : -(n : Int) ≤ i
    · rw [if_pos h1] at h
      have e : (i + n).toNat = j := Option.some.inj h
      exact ⟨by rw [seqIndex_neg (by omega) h1, e], by omega, h1, by omega⟩
    · rw [if_neg h1] at h; cases h
theorem atI_get {α : Type} {xs : List α} {i : Int} {v : α} (h : atI xs i = some v) : ∃ j, seqIndex? i xs.length = some j ∧ xs[j]? = some v ∧ j < xs.length ∧ -(xs.length : Int) ≤ i ∧ i < xs.length := by
  unfold atI at h
  cases e : ixN xs.length i with
  | none => rw [e] at h; cases h
  | some j =>
    rw [e] at h
    obtain ⟨h1, h2, h3, h4⟩ := ixN_seq e
    exact ⟨j, h1, h, h2, h3, h4⟩
theorem atI_nat {α : Type} {xs : List α} {j : Nat} {v : α} (h : xs[j]? = some v) : atI xs (j : Int) = some v := by
  have hj : j < xs.length := (List.getElem?_eq_some_iff.mp h).1
  have e : ixN xs.length (j : Int) = some j := by
    unfold ixN
    rw [if_pos (by omega), if_pos (by omega)]; simp
  unfold atI; rw [e]; exact h
def PlainIx (b : Expr) : Prop := ∀ o i, subscripted b false o i = operate [o, i] (getItem o i)
def IxR (X : Cx) (r : R2) : Prop :=
  ∀ (value slice : Expr) (pins : List (Addr × Obj)) (s : Shared) (σ : St) (H : Hp) (x y : V) (v u : Value) (Q : VK), Inv X pins σ H s → RelV x v → RelV y u → r x y H Q →
    subscripted slice false v u = operate [v, u] (getItem v u) → wpAny (model X.prog X.w) X.A (subscriptTail value slice v u) (EP X pins σ Q) X.xe s
def MtR (X : Cx) (id : String) (r : V → List V → Hp → VK → Prop) : Prop :=
  ∀ (pins : List (Addr × Obj)) (s : Shared) (σ : St) (H : Hp) (x : V) (xs : List V) (v : Value) (us : List Value) (Q : VK), Inv X pins σ H s → RelV x v → Vals xs us → r x xs H Q →
    wpAny (model X.prog X.w) X.A (call (.builtin id) (v :: us)) (EP X pins σ Q) X.xe s
section
variable {X : Cx} {a b : Expr} {ta tb : TE} {pos : Pos}
theorem pe_ix {r : R2} (hr : IxR X r) (ha : PE X a ta) (hb : PE X b tb) (hs : PlainIx b) : PE X (.Subscript a b pos) (tOp r ta tb) := by
  intro pins s σ H Q I h
  exact Subscript_ (binT ha hb I h fun v u s2 x y H2 I2 rx ry q => hr a b pins s2 σ H2 x y v u Q I2 rx ry q (hs _ _))
def rIxL (K : PySem.W.Frag) : R2 := fun x y H Q => ∃ p xs i v, x = .ref p ∧ y = .int i ∧ SqL K H p xs ∧ atI xs i = some v ∧ Q v H
def rIxT (K : PySem.W.Frag) : R2 := fun x y H Q => ∃ p xs i v, x = .ref p ∧ y = .int i ∧ SqT K H p xs ∧ atI xs i = some v ∧ Q v H
def rIxS : R2 := fun x y H Q => ∃ z i c, x = .str z ∧ y = .int i ∧ z.length ≤ sizeLine ∧ atI z.cps.toList i = some c ∧ Q (.str ⟨#[c]⟩) H
theorem ix_list : IxR X (rIxL X.K) := by
  intro value slice pins s σ H x y v u Q I rx ry h hs
  obtain ⟨p, xs, i, z, rfl, rfl, hq, he, q⟩ := h
  cases rx
  obtain ⟨t, rfl⟩ := ry
  obtain ⟨its, r, pl, hz⟩ := I.list hq
  obtain ⟨j, h1, h2, h3, h4, h5⟩ := atI_get he
  obtain ⟨w, ew, rw'⟩ := r.get h2
  have hl := r.length
  have hn := line63
  have fin : EP X pins σ Q w s := ⟨z, H, I, rw', q⟩
  by_cases h0 : 0 ≤ i
  · have hj : i.toNat = j := by
      rw [seqIndex_of h0 h5] at h1
      exact Option.some.inj h1
    exact item_listR pl.isList h0 (by omega) (by rw [hj]; simpa using ew) fin hs
  · have hj : (i + (its.toArray.size : Int)).toNat = j := by
      rw [seqIndex_neg (by omega) h4] at h1
      rw [List.size_toArray, ← hl]
      exact Option.some.inj h1
    exact subscriptTail_builtinR (x := w) pl.isList.typeIs slot_list_getitem.lookup
      (wpAny_getItem_list_neg (Q := fun r s' => r = w ∧ EP X pins σ Q r s') pl.isList (by omega) (by rw [List.size_toArray] <;> omega) (by omega) (by rw [hj]; simpa using ew) ⟨rfl, fin⟩) hs
theorem ix_tup : IxR X (rIxT X.K) := by
  intro value slice pins s σ H x y v u Q I rx ry h hs
  obtain ⟨p, xs, i, z, rfl, rfl, hq, he, q⟩ := h
  cases rx
  obtain ⟨t, rfl⟩ := ry
  obtain ⟨its, r, pl, hz⟩ := I.tuple hq
  obtain ⟨j, h1, h2, h3, h4, h5⟩ := atI_get he
  obtain ⟨w, ew, rw'⟩ := r.get h2
  have hl := r.length
  have hn := line63
  have fin : EP X pins σ Q w s := ⟨z, H, I, rw', q⟩
  exact subscriptTail_builtinR (x := w) pl.typeIs slot_tuple_getitem.lookup
    (getItem_tuple (j := j) (Q := fun r s' => r = w ∧ EP X pins σ Q r s') pl (by omega) (by omega) (by rw [List.size_toArray, ← hl]; exact h1) (by simpa using ew) ⟨rfl, fin⟩) hs
theorem ix_str : IxR X rIxS := by
  intro value slice pins s σ H x y v u Q I rx ry h hs
  obtain ⟨z, i, c, rfl, rfl, hz, he, q⟩ := h
  obtain ⟨t, rfl⟩ := rx
  obtain ⟨t', rfl⟩ := ry
  obtain ⟨j, h1, h2, h3, h4, h5⟩ := atI_get he
  have hl : z.cps.toList.length = z.length := by simp [Str.length]
  rw [hl] at h1 h4 h5
  have hn := line63
  exact tail_any (typeIs_str s z t) slot_str_getitem.lookup (getItem_str (c := c) (by
    have e1 : decide (i < -(2 ^ 63 : Int)) = false := decide_eq_false (by omega)
    have e2 : decide (i ≥ 2 ^ 63) = false := decide_eq_false (by omega)
    rw [e1, e2, Bool.or_false]) (by rw [h1]; simpa using h2) ⟨.str ⟨#[c]⟩, H, I.tok _, ⟨_, rfl⟩, q⟩) hs
theorem mapSeq_set (its : List Value) (n j : Nat) (u : Value) : Obj.mapSeq (·.setIfInBounds j u) { cls := .type "list", data := .seq its.toArray n } = { cls := .type "list", data := .seq (its.set j u).toArray n } := by
  simp [Obj.mapSeq]
theorem Inv.lst {pins : List (Addr × Obj)} {σ : St} {H : Hp} {s : Shared} {p : Addr} {xs : List V} (I : Inv X pins σ H s) (h : H p = some (.lst xs)) :
    ∃ (its : List Value) (n : Nat), Vals xs its ∧ s.heap.get? p = some { cls := .type "list", data := .seq its.toArray n } ∧ xs.length ≤ sizeLine := by
  obtain ⟨z, its, n, r, e⟩ := I.hok p _ h
  exact ⟨its, n, r, e, z⟩
theorem Inv.lstUpd {pins : List (Addr × Obj)} {σ : St} {H : Hp} {s : Shared} {p : Addr} {xs ys : List V} {its its' : List Value} {n n' : Nat} {f : Obj → Obj} (I : Inv X pins σ H s) (h : H p = some (.lst xs))
    (ho : s.heap.get? p = some { cls := .type "list", data := .seq its.toArray n }) (hf : f { cls := .type "list", data := .seq its.toArray n } = { cls := .type "list", data := .seq its'.toArray n' }) (r : Vals ys its') (hz : ys.length ≤ sizeLine) (t : Nat) :
    Inv X pins σ (upd H p (.lst ys)) { s with heap := s.heap.update p f, toks := t } := by
  have e : (s.heap.update p f).get? p = some { cls := .type "list", data := .seq its'.toArray n' } := by
    rw [Heap.get?_update_self f ho (by rw [hf] <;> rfl), hf]
  refine I.write (x := p) (e := p) (by rw [h]; trivial) (.inl rfl) (fun b u hb q => (Heap.get?_update_other _ _ (Ne.symm hb)).trans q) ⟨_, e⟩ ?_
  exact ⟨hz, its', n', r, e⟩
def rSetL : V → V → V → Hp → (Hp → Prop) → Prop := fun o i v H Q => ∃ p xs k j, o = .ref p ∧ i = .int k ∧ H p = some (.lst xs) ∧ ixN xs.length k = some j ∧ Q (upd H p (.lst (xs.set j v)))
theorem set_list : PSet X rSetL := by
  intro pins s σ H o i v ov iv u Q I ro ri rv h
  obtain ⟨p, xs, k, j, rfl, rfl, hp, hj, q⟩ := h
  cases ro
  obtain ⟨t, rfl⟩ := ri
  obtain ⟨its, n, r, ho, hz⟩ := I.lst hp
  obtain ⟨h1, h2, h3, h4⟩ := ixN_seq hj
  have hl := r.length
  have hn := line63
  have I' : Inv X pins σ (upd H p (.lst (xs.set j v))) { s with heap := s.heap.update p (Obj.mapSeq (·.setIfInBounds j u)) } :=
    I.lstUpd hp ho (mapSeq_set its n j u) (r.set rv j) (by rw [List.length_set]; exact hz) s.toks
  by_cases h0 : 0 ≤ k
  · have hk : k.toNat = j := by
      rw [seqIndex_of h0 h4] at h1
      exact Option.some.inj h1
    exact PySem.W.ki_setAt ho h0 (by omega) (by rw [List.size_toArray, ← hl]; exact h4) (by rw [hk]; exact ⟨_, I', q⟩)
  · have hk : (k + (its.toArray.size : Int)).toNat = j := by
      rw [seqIndex_neg (by omega) h3] at h1
      rw [List.size_toArray, ← hl]
      exact Option.some.inj h1
    exact PySem.W.ki_setBack ho (by omega) (by rw [List.size_toArray, ← hl]; exact h3) (by omega) (by rw [hk]; exact ⟨_, I', q⟩)
theorem slice_bounds (lo hi : Option Int) (n : Nat) : (sliceBounds lo hi none n).1 = ((HT.sIx n 0 lo : Nat) : Int) ∧ (sliceBounds lo hi none n).2.1 = ((HT.sIx n n hi : Nat) : Int) ∧ (sliceBounds lo hi none n).2.2 = 1 := by
  refine ⟨?_, ?_, rfl⟩
  · cases lo with
    | none => simp [sliceBounds, HT.sIx]
    | some i =>
      simp only [sliceBounds, HT.sIx, Option.getD_none, show (1 : Int) > 0 by decide, if_true]
      by_cases h : i < 0
      · simp only [h, if_true] <;> omega
      · simp only [h, if_false] <;> omega
  · cases hi with
    | none => simp [sliceBounds, HT.sIx]
    | some i =>
      simp only [sliceBounds, HT.sIx, Option.getD_none, show (1 : Int) > 0 by decide, if_true]
      by_cases h : i < 0
      · simp only [h, if_true] <;> omega
      · simp only [h, if_false] <;> omega
theorem slicePick_cut (its : List Value) (lo hi : Option Int) : slicePick its.toArray lo hi none = ((its.drop (HT.sIx its.length 0 lo)).take (HT.sIx its.length its.length hi - HT.sIx its.length 0 lo)).toArray := by
  obtain ⟨h1, h2, h3⟩ := slice_bounds lo hi its.toArray.size
  unfold slicePick
  rw [h1, h2, h3]
  simp only [sliceRange_one, pick_run, List.size_toArray] <;> rfl
def rSlL (K : PySem.W.Frag) : V → Option Int → Option Int → Hp → VK → Prop := fun x lo hi H Q => ∃ a xs, x = .ref a ∧ SqL K H a xs ∧ ∀ p, H p = none → Q (.ref p) (upd H p (.lst (cutV xs lo hi)))
theorem sl_list : SlR X (rSlL X.K) := by
  intro pins s σ H x v vl vu lo hi sl Q I rx hs pl pu h
  obtain ⟨a, xs, rfl, hx, q⟩ := h
  cases rx
  obtain ⟨its, r, ht, hz⟩ := I.list hx
  have hlen := r.length
  refine ⟨"list", _, slot_list_getitem.lookup, ht.isList.typeIs, ?_⟩
  refine wpAny_getItem_list_slice ht.isList hs pl pu .none (by simp) ?_ (by rw [List.size_toArray] <;> omega)
  rw [slicePick_cut, ← hlen]
  refine ⟨.ref s.heap.objs.size, _, I.laid (t' := s.toks) (o := .lst (cutV xs lo hi)) (fun b ob q => Heap.get?_push_of_some _ q) (Nat.le_refl _) ?_, rfl, q _ (I.hok.fresh (Nat.le_refl _))⟩
  exact ⟨Nat.le_trans (cutV_length xs lo hi) hz, _, 0, (r.drop (HT.sIx xs.length 0 lo)).take (HT.sIx xs.length xs.length hi - HT.sIx xs.length 0 lo), Heap.get?_push_size _ rfl⟩
def flatV : V → Bool
  | .non => true
  | .bl _ => true
  | .int _ => true
  | .str _ => true
  | _ => false
def eqV : V → V → Bool
  | .non, .non => true
  | .bl a, .bl b => a == b
  | .bl a, .int b => (if a then 1 else 0) == b
  | .int a, .bl b => a == (if b then 1 else 0)
  | .int a, .int b => a == b
  | .str a, .str b => a == b
  | _, _ => false
theorem eqAt_V {A : Around} {s : Shared} {y x : V} {u v : Value} (ry : RelV y u) (rx : RelV x v) (fy : flatV y = true) (fx : flatV x = true) : SeqAt.EqAt A s u v (eqV y x) := by
  cases y with
  | non =>
    cases ry
    cases x with
    | non => cases rx; exact SeqAt.EqAt.same _
    | bl b => cases rx; exact SeqAt.EqAt.none_bool b
    | int b => obtain ⟨t, rfl⟩ := rx; exact SeqAt.EqAt.none_int b t
    | str b => obtain ⟨t, rfl⟩ := rx; exact SeqAt.EqAt.none_str b t
    | _ => exact absurd (show false = true from fx) Bool.false_ne_true
  | bl a =>
    cases ry
    cases x with
    | non => cases rx; exact SeqAt.EqAt.bool_none a
    | bl b => cases rx; exact SeqAt.EqAt.bool_bool a b
    | int b => obtain ⟨t, rfl⟩ := rx; exact SeqAt.EqAt.bool_int a b t
    | str b => obtain ⟨t, rfl⟩ := rx; exact SeqAt.EqAt.bool_str a b t
    | _ => exact absurd (show false = true from fx) Bool.false_ne_true
  | int a =>
    obtain ⟨t', rfl⟩ := ry
    cases x with
    | non => cases rx; exact SeqAt.EqAt.int_none a t'
    | bl b => cases rx; exact SeqAt.EqAt.int_bool a t' b
    | int b => obtain ⟨t, rfl⟩ := rx; exact SeqAt.EqAt.int_int a t' b t
    | str b => obtain ⟨t, rfl⟩ := rx; exact SeqAt.EqAt.int_str a t' b t
    | _ => exact absurd (show false = true from fx) Bool.false_ne_true
  | str a =>
    obtain ⟨t', rfl⟩ := ry
    cases x with
    | non => cases rx; exact SeqAt.EqAt.str_none a t'
    | bl b => cases rx; exact SeqAt.EqAt.str_bool a t' b
    | int b => obtain ⟨t, rfl⟩ := rx; exact SeqAt.EqAt.str_int a t' b t
    | str b => obtain ⟨t, rfl⟩ := rx; exact SeqAt.EqAt.str_str a t' b t
    | _ => exact absurd (show false = true from fx) Bool.false_ne_true
  | _ => exact absurd (show false = true from fy) Bool.false_ne_true
def eqU (x : V) (u : Value) : Bool := match u with
  | .none => eqV .non x
  | .bool b => eqV (.bl b) x
  | .int i _ => eqV (.int i) x
  | .str z _ => eqV (.str z) x
  | _ => false
theorem eqU_of {x y : V} {u : Value} (r : RelV y u) (f : flatV y = true) : eqU x u = eqV y x := by
  cases y with
  | non => cases r; rfl
  | bl b => cases r; rfl
  | int i => obtain ⟨t, rfl⟩ := r; rfl
  | str z => obtain ⟨t, rfl⟩ := r; rfl
  | _ => exact absurd (show false = true from f) Bool.false_ne_true
theorem any_eqU {x : V} : ∀ {xs : List V} {us : List Value}, Vals xs us → xs.all flatV = true → us.any (eqU x) = xs.any fun y => eqV y x
  | _, _, .nil, _ => rfl
  | y :: xs, u :: us, .cons r t, f => by
    rw [List.all_cons, Bool.and_eq_true] at f
    rw [List.any_cons, List.any_cons, eqU_of r f.1, any_eqU t f.2]
theorem mem_eqAt {A : Around} {s : Shared} {x : V} {v : Value} (rx : RelV x v) (fx : flatV x = true) : ∀ {xs : List V} {us : List Value}, Vals xs us → xs.all flatV = true → ∀ u ∈ us, SeqAt.EqAt A s u v (eqU x u)
  | _, _, .nil, _ => fun u hu => by cases hu
  | y :: xs, u :: us, .cons r t, f => fun u' hu => by
    rw [List.all_cons, Bool.and_eq_true] at f
    rcases List.mem_cons.mp hu with rfl | hu
    · rw [eqU_of r f.1]; exact eqAt_V r rx f.1 fx
    · exact mem_eqAt rx fx t f.2 u' hu
def inV (x : V) (xs : List V) : Bool := xs.any fun y => eqV y x
def rIn (K : PySem.W.Frag) (neg : Bool) : R2 := fun x y H Q => ∃ p xs, y = .ref p ∧ (SqL K H p xs ∨ SqT K H p xs) ∧ flatV x = true ∧ xs.all flatV = true ∧ Q (.bl (if neg then !inV x xs else inV x xs)) H
theorem op_in_seq : OpR X (compareOp .In) (rIn X.K false) := by
  intro pins s σ H x y v u Q I rx ry h
  obtain ⟨p, xs, rfl, hq, fx, fs, q⟩ := h
  cases ry
  rcases hq with hq | hq
  · obtain ⟨its, r, pl, hz⟩ := I.list hq
    refine SeqAt.in_listAt (eqU x) pl.isList (fun w hw => mem_eqAt rx fx r fs w (by simpa using hw)) ⟨.bl _, H, I, rfl, ?_⟩
    rw [show its.toArray.any (eqU x) = its.any (eqU x) by simp, any_eqU r fs]
    exact q
  · obtain ⟨its, r, pl, hz⟩ := I.tuple hq
    refine SeqAt.in_tupleAt (eqU x) pl (fun w hw => mem_eqAt rx fx r fs w (by simpa using hw)) ⟨.bl _, H, I, rfl, ?_⟩
    rw [show its.toArray.any (eqU x) = its.any (eqU x) by simp, any_eqU r fs]
    exact q
theorem call_len_seq : CallR X (.builtin "len") (fun xs H Q => ∃ p ys, xs = [.ref p] ∧ (SqL X.K H p ys ∨ SqT X.K H p ys) ∧ Q (.int ys.length) H) := by
  intro pins s σ H xs us Q I r h
  obtain ⟨p, ys, rfl, hq, q⟩ := h
  obtain ⟨u, rfl, rx⟩ := vals1 r
  cases rx
  have hn := line63
  rcases hq with hq | hq
  · obtain ⟨its, r', pl, hz⟩ := I.list hq
    have hlen := r'.length
    exact Calls.call_len_list pl.isList (by simp only [List.size_toArray] <;> omega) ⟨.int ys.length, H, I.tok _, ⟨s.toks + 1, by rw [List.size_toArray, hlen]⟩, q⟩
  · obtain ⟨its, r', pl, hz⟩ := I.tuple hq
    have hlen := r'.length
    exact len_tuple pl (by simp only [List.size_toArray] <;> omega) ⟨.int ys.length, H, I.tok _, ⟨s.toks + 1, by rw [List.size_toArray, hlen]⟩, q⟩
theorem call_len_str : CallR X (.builtin "len") (fun xs H Q => ∃ z, xs = [.str z] ∧ z.length ≤ sizeLine ∧ Q (.int z.length) H) := by
  intro pins s σ H xs us Q I r h
  obtain ⟨z, rfl, hz, q⟩ := h
  obtain ⟨u, rfl, t, rfl⟩ := vals1 r
  have hn := line63
  exact len_str (by omega) ⟨.int z.length, H, I.tok _, ⟨_, rfl⟩, q⟩
theorem call_tuple_of : CallR X (.type "tuple") (fun xs H Q => ∃ p ys, xs = [.ref p] ∧ ((SqL X.K H p ys ∧ ∀ l, H l = none → Q (.ref l) (upd H l (.tup ys))) ∨ (SqT X.K H p ys ∧ Q (.ref p) H))) := by
  intro pins s σ H xs us Q I r h
  obtain ⟨p, ys, rfl, h⟩ := h
  obtain ⟨u, rfl, rx⟩ := vals1 r
  cases rx
  rcases h with ⟨hq, q⟩ | ⟨hq, q⟩
  · obtain ⟨its, r', pl, hz⟩ := I.list hq
    have hlen := r'.length
    refine call_tuple_list pl.isList (fun h' kp => ?_) (by simp only [List.size_toArray] <;> omega)
    have I1 : Inv X pins σ H { s with heap := h' } := I.kept (t' := s.toks) kp
    have I2 : Inv X pins σ (upd H h'.objs.size (.tup ys)) { s with heap := h'.push { cls := .type "tuple", data := .seq its.toArray } } :=
      I1.laid (t' := s.toks) (fun b o e => Heap.get?_push_of_some _ e) (Nat.le_refl _) (show ObjOk X.prog X.w _ _ _ (.tup ys) from ⟨hz, its, r', IsTup.new _ _⟩)
    exact ⟨.ref h'.objs.size, _, I2, rfl, q _ (I1.hok.fresh (Nat.le_refl _))⟩
  · obtain ⟨its, r', pl, hz⟩ := I.tuple hq
    exact call_tuple_same pl ⟨.ref p, H, I, rfl, q⟩
def tyV (K : PySem.W.Frag) (T : String) (x : V) (H : Hp) : Prop := match x with
  | .str _ => T = "str"
  | .int _ => T = "int"
  | .ref p => (T = "list" ∧ ∃ xs, SqL K H p xs) ∨ (T = "tuple" ∧ ∃ o, K.lookup p = some o ∧ o.cls = .type "tuple" ∧ o.dict = none) ∨
      (T = "dict" ∧ ((∃ kvs, H p = some (.dK kvs)) ∨ ∃ kvs, H p = some (.dT kvs))) ∨ (T = "set" ∧ ∃ S n, H p = some (.set S n))
  | _ => False
theorem tyV_is {pins : List (Addr × Obj)} {σ : St} {H : Hp} {s : Shared} {T : String} {x : V} {v : Value} (I : Inv X pins σ H s) (r : RelV x v) (ty : tyV X.K T x H) :
    s.TypeIs v T ∧ ∀ a, v = .ref a → ∃ ob, s.heap.get? a = some ob ∧ ob.dict = none := by
  cases x with
  | str z =>
    obtain ⟨t, rfl⟩ := r
    cases (show T = "str" from ty)
    exact ⟨typeIs_str s z t, fun _ e => nomatch e⟩
  | int i =>
    obtain ⟨t, rfl⟩ := r
    cases (show T = "int" from ty)
    exact ⟨typeIs_int s i t, fun _ e => nomatch e⟩
  | ref p =>
    cases r
    rcases ty with ⟨rfl, xs, hq⟩ | ⟨rfl, o, hk, hc, hd⟩ | ⟨rfl, hk⟩ | ⟨rfl, S, n, hk⟩
    · obtain ⟨its, _, pl, _⟩ := I.list hq
      refine ⟨pl.isList.typeIs, fun a e => ?_⟩
      cases e
      obtain ⟨o, n, e, c, hd, _⟩ := pl
      exact ⟨o, e, hd⟩
    · refine ⟨⟨o, I.kIn p o hk, hc⟩, fun a e => ?_⟩
      cases e
      exact ⟨o, I.kIn _ o hk, hd⟩
    · have z : ∃ o, s.heap.get? p = some o ∧ o.ExactDict := by
        rcases hk with ⟨kvs, hk⟩ | ⟨kvs, hk⟩
        · obtain ⟨_, _, _, _, o, _, _, e, ex, _⟩ := I.hok p _ hk
          exact ⟨o, e, ex⟩
        · obtain ⟨_, _, _, _, o, _, _, e, ex, _⟩ := I.hok p _ hk
          exact ⟨o, e, ex⟩
      obtain ⟨o, e, ex⟩ := z
      refine ⟨⟨o, e, ex.1⟩, fun a e2 => ?_⟩
      cases e2
      exact ⟨o, e, ex.2.1⟩
    · obtain ⟨o, _, _, _, e, ex, _⟩ := I.hok p _ hk
      refine ⟨⟨o, e, ex.1⟩, fun a e2 => ?_⟩
      cases e2
      exact ⟨o, e, ex.2.1⟩
  | _ => exact False.elim ty
def tBM0 (K : PySem.W.Frag) (T : String) (r : V → List V → Hp → VK → Prop) (to : TE) : TE := fun σ H Q => to σ H fun x H1 => tyV K T x H1 ∧ r x [] H1 Q
def tBM (K : PySem.W.Frag) (T : String) (r : V → List V → Hp → VK → Prop) (to : TE) (t : TA) : TE := fun σ H Q => to σ H fun x H1 => tyV K T x H1 ∧ t σ H1 fun xs H2 => r x xs H2 Q
variable {o e : Expr} {es : List Expr} {to : TE} {t : TA} {name : Str} {apos cpos : Pos} {T id : String} {r : V → List V → Hp → VK → Prop}
theorem pe_bm0 (pa : PlainAttrs T) (slot : Slot T name id) (hty : typeOf (.builtin id) = pure (.type "method_descriptor")) (hm : MtR X id r) (ho : PE X o to)
    (hbase : attributeBase o name X.env (eval o X.env) = eval o X.env := by rfl) (hline : (apos.endLine == cpos.line) = true := by rfl) : PE X (.Call (.Attribute o name apos) [] [] cpos) (tBM0 X.K T r to) := by
  intro pins s σ H Q I h
  refine wpAny_Call_method0_late hbase hline (thn (ho pins s σ H _ I h) fun v s1 ⟨x, H1, I1, r1, ty, q1⟩ => ?_)
  obtain ⟨h1, h2⟩ := tyV_is I1 r1 ty
  exact ⟨T, id, pa, slot, hty, h1, h2, Calls.callWith_builtin rfl (PySem.evalArgs_none (hm pins s1 σ H1 x [] v [] Q I1 r1 .nil q1))⟩
theorem pe_bm (pa : PlainAttrs T) (slot : Slot T name id) (hty : typeOf (.builtin id) = pure (.type "method_descriptor")) (hm : MtR X id r) (ho : PE X o to) (ha : PA X (e :: es) t)
    (hbase : attributeBase o name X.env (eval o X.env) = eval o X.env := by rfl)
    (hfew : ((backTo cpos (starEach (e :: es) X.env)).all (fun x => !x.1) && (backToKw cpos (keywordEach [] X.env)).all (fun x => x.1.isSome)
      && decide ((e :: es).length + ([] : List Keyword).length + (if ([] : List Keyword).isEmpty then 0 else 1) < 30)) = true := by rfl)
    (hline : (apos.endLine == cpos.line) = true := by rfl) (hs : starEach (e :: es) X.env = (false, eval e X.env) :: starEach es X.env := by rfl) (hplain : (backTo cpos (starEach es X.env)).any (·.1) = false := by rfl) :
    PE X (.Call (.Attribute o name apos) (e :: es) [] cpos) (tBM X.K T r to t) := by
  intro pins s σ H Q I h
  refine wpAny_Call_method_late hbase hfew hline rfl (thn (ho pins s σ H _ I h) fun v s1 ⟨x, H1, I1, r1, ty, q1⟩ => ?_)
  obtain ⟨h1, h2⟩ := tyV_is I1 r1 ty
  refine ⟨T, id, pa, slot, hty, h1, h2, ?_⟩
  have hA := ha cpos pins s1 σ H1 _ I1 q1
  rw [hs] at hA ⊢
  refine Calls.callWith_builtin (by show (false || (backTo cpos (starEach es X.env)).any (·.1)) = false; rw [hplain] <;> rfl) (Calls.evalArgs_plain ?_)
  exact thn hA fun us s2 ⟨vs, H2, I2, r2, q2⟩ => hm pins s2 σ H2 x vs v us Q I2 r1 r2 q2
end
end L2
namespace L2
open PySem PySem.Spec PyProof.Rows
def MtM (X : Cx) (id : String) (r : V → List V → Hp → VK → Prop) : Prop :=
  ∀ (pins : List (Addr × Obj)) (s : Shared) (σ : St) (H : Hp) (x : V) (xs : List V) (v : Value) (us : List Value) (Q : VK), Inv X pins σ H s → RelV x v → Vals xs us → r x xs H Q →
    wpAny (model X.prog X.w) X.A (call (.builtin id) (v :: us)) (EP X pins σ Q) X.xe s
theorem Vals.one : ∀ {x : V} {us : List Value}, Vals [x] us → ∃ u, us = [u] ∧ RelV x u
  | _, _, .cons r .nil => ⟨_, rfl, r⟩
theorem Vals.zero : ∀ {us : List Value}, Vals [] us → us = []
  | _, .nil => rfl
theorem Vals.dropLast {xs : List V} {us : List Value} (h : Vals xs us) : Vals xs.dropLast us.dropLast := by
  induction h with
  | nil => exact .nil
  | cons r t ih =>
    cases t with
    | nil => exact .nil
    | cons q t' => exact .cons r ih
theorem Vals.eraseIdx : ∀ {xs : List V} {us : List Value} (i : Nat), Vals xs us → Vals (xs.eraseIdx i) (us.eraseIdx i)
  | _, _, _, .nil => .nil
  | _, _, 0, .cons _ t => t
  | _, _, i + 1, .cons r t => .cons r (Vals.eraseIdx i t)
theorem Vals.rep {xs : List V} {us : List Value} (h : Vals xs us) : ∀ k : Nat, Vals (List.replicate k xs).flatten (List.replicate k us).flatten
  | 0 => .nil
  | k + 1 => by
    rw [List.replicate_succ, List.replicate_succ, List.flatten_cons, List.flatten_cons]
    exact Vals.append h (Vals.rep h k)
theorem erase_last {α : Type} (l : List α) : l.eraseIdx (l.length - 1) = l.dropLast := by
  induction l with
  | nil => rfl
  | cons a r ih =>
    cases r with
    | nil => rfl
    | cons b r =>
      have e : (a :: b :: r).length - 1 = ((b :: r).length - 1) + 1 := by
        have h1 : (a :: b :: r).length = r.length + 2 := rfl
        have h2 : (b :: r).length = r.length + 1 := rfl
        omega
      rw [e, List.eraseIdx_cons_succ, ih]
      all_goals rfl
theorem len_erase {α : Type} : ∀ (l : List α) (i : Nat), (l.eraseIdx i).length ≤ l.length
  | [], _ => Nat.le_refl _
  | _ :: _, 0 => Nat.le_succ _
  | _ :: r, i + 1 => Nat.succ_le_succ (len_erase r i)
theorem foldl_rep (its : List Value) : ∀ (k : Nat) (acc : List Value),
    List.foldl (fun x1 x2 => x1 ++ x2) acc.toArray (List.replicate k its.toArray) = (acc ++ (List.replicate k its).flatten).toArray
  | 0, acc => by simp
  | k + 1, acc => by
    have e : acc.toArray ++ its.toArray = (acc ++ its).toArray := by simp
    have e2 : (acc ++ its) ++ (List.replicate k its).flatten = acc ++ (List.replicate (k + 1) its).flatten := by
      rw [List.replicate_succ, List.flatten_cons, List.append_assoc]
    rw [← e2, ← foldl_rep its k (acc ++ its), ← e, List.replicate_succ, List.foldl_cons]
section
variable {X : Cx} {pins : List (Addr × Obj)} {σ : St} {H : Hp} {s : Shared} {l b : Addr} {xs ys zs : List V}
theorem Inv.lset {its its' : List Value} {n : Nat} {f : Array Value → Array Value} {t' : Nat} (I : Inv X pins σ H s) (hH : H l = some (.lst xs))
    (e : s.heap.get? l = some { cls := .type "list", data := .seq its.toArray n }) (hf : f its.toArray = its'.toArray) (hv : Vals ys its') (hz : ys.length ≤ sizeLine) :
    Inv X pins σ (upd H l (.lst ys)) { s with heap := s.heap.update l (Obj.mapSeq f), toks := t' } := by
  have q := PySem.IsL.update e f
  rw [hf] at q
  refine I.write (x := l) (e := l) (by rw [hH]; exact trivial) (.inl rfl) (fun b' u hb hu => (Heap.get?_update_other s.heap (Obj.mapSeq f) (Ne.symm hb)).trans hu) ⟨_, q⟩ ?_
  exact ⟨hz, its', _, hv, q⟩
theorem Inv.lnew {its : List Value} {t' : Nat} (I : Inv X pins σ H s) (hv : Vals ys its) (hz : ys.length ≤ sizeLine) :
    Inv X pins σ (upd H s.heap.objs.size (.lst ys)) { s with heap := s.heap.push { cls := .type "list", data := .seq its.toArray }, toks := t' } :=
  I.laid (fun _ _ q => Heap.get?_push_of_some _ q) (Nat.le_refl _) ⟨hz, its, 0, hv, Heap.get?_push_size _ rfl⟩
theorem Inv.fresh (I : Inv X pins σ H s) : H s.heap.objs.size = none := I.hok.fresh (Nat.le_refl _)
theorem Inv.lstM (I : Inv X pins σ H s) (hH : H l = some (.lst xs)) : xs.length ≤ sizeLine ∧ ∃ (its : List Value) (n : Nat), Vals xs its ∧ xs.length = its.length ∧ s.heap.get? l = some { cls := .type "list", data := .seq its.toArray n } := by
  obtain ⟨z, its, n, r, e⟩ := I.hok l _ hH
  exact ⟨z, its, n, r, r.length, e⟩
theorem notLongL {n : Nat} (h : n ≤ sizeLine) : Builtin.List.listTooLong n = false := by
  unfold Builtin.List.listTooLong
  exact decide_eq_false (by omega)
end
section
variable {X : Cx}
def rAppend : V → List V → Hp → VK → Prop := fun x vs H Q => ∃ l xs y, x = .ref l ∧ vs = [y] ∧ H l = some (.lst xs) ∧ xs.length < sizeLine ∧ Q .non (upd H l (.lst (xs ++ [y])))
theorem mt_append : MtM X "list.append" rAppend := by
  intro pins s σ H x vs v us Q I rx rv h
  obtain ⟨l, xs, y, rfl, rfl, hH, hz, q⟩ := h
  cases rx
  obtain ⟨u, rfl, ru⟩ := rv.one
  obtain ⟨z, its, n, r, hl, e⟩ := I.lstM hH
  refine call_meets F.slot_list_append ⟨_, e, rfl⟩ F.entry_list_append (F.args_list_append_2 _ _) (PySem.list_append l its.toArray n u (by rw [List.size_toArray]; omega)) ⟨e, ?_⟩
  refine ⟨.non, _, I.lset (its' := its ++ [u]) hH e (by simp) (r.append (.cons ru .nil)) ?_, rfl, q⟩
  rw [List.length_append, List.length_singleton]
  omega
def rPop : V → List V → Hp → VK → Prop := fun x vs H Q => ∃ l xs y, x = .ref l ∧ vs = [] ∧ H l = some (.lst xs) ∧ xs[xs.length - 1]? = some y ∧ Q y (upd H l (.lst xs.dropLast))
theorem mt_pop : MtM X "list.pop" rPop := by
  intro pins s σ H x vs v us Q I rx rv h
  obtain ⟨l, xs, y, rfl, rfl, hH, hy, q⟩ := h
  cases rx
  have hus := rv.zero
  subst hus
  obtain ⟨z, its, n, r, hl, e⟩ := I.lstM hH
  obtain ⟨u, hu, ru⟩ := r.get hy
  have hy' : its.toArray[its.toArray.size - 1]? = some u := by
    show its.toArray[its.length - 1]? = some u
    rw [← Array.getElem?_toList, ← hl]
    exact hu
  refine call_meets F.slot_list_pop ⟨_, e, rfl⟩ F.entry_list_pop (F.args_list_pop_1 _) (MeetsSeq.list_pop_last l its.toArray n u hy' (by rw [List.size_toArray]; omega)) ⟨e, ?_⟩
  refine ⟨y, _, I.lset (its' := its.dropLast) hH e ?_ r.dropLast ?_, ru, q⟩
  · show its.toArray.eraseIdxIfInBounds (its.toArray.size - 1) = its.dropLast.toArray
    rw [List.size_toArray, List.eraseIdxIfInBounds_toArray, erase_last]
  · rw [List.length_dropLast]
    omega
def rPopAt : V → List V → Hp → VK → Prop := fun x vs H Q => ∃ l xs i k y, x = .ref l ∧ vs = [.int i] ∧ H l = some (.lst xs) ∧ -(2 ^ 63) ≤ i ∧ i < 2 ^ 63 ∧ seqIndex? i xs.length = some k ∧ xs[k]? = some y ∧ Q y (upd H l (.lst (xs.eraseIdx k)))
theorem mt_popAt : MtM X "list.pop" rPopAt := by
  intro pins s σ H x vs v us Q I rx rv h
  obtain ⟨l, xs, i, k, y, rfl, rfl, hH, h1, h2, hk, hy, q⟩ := h
  cases rx
  obtain ⟨u, rfl, ru⟩ := rv.one
  obtain ⟨t, rfl⟩ := ru
  obtain ⟨z, its, n, r, hl, e⟩ := I.lstM hH
  obtain ⟨w, hw, rw'⟩ := r.get hy
  refine call_meets F.slot_list_pop ⟨_, e, rfl⟩ F.entry_list_pop (F.args_list_pop_2 _ _)
    (MeetsSeq.list_pop_at l its.toArray n i t k w (fitsIndex_both h1 h2) (by rw [List.size_toArray, ← hl]; exact hk) (by rw [← Array.getElem?_toList]; exact hw) (by rw [List.size_toArray]; omega)) ⟨e, ?_⟩
  refine ⟨y, _, I.lset (its' := its.eraseIdx k) hH e ?_ (r.eraseIdx k) ?_, rw', q⟩
  · show its.toArray.eraseIdxIfInBounds k = (its.eraseIdx k).toArray
    rw [List.eraseIdxIfInBounds_toArray]
  · have := len_erase xs k
    omega
def rCat : R2 := fun x y H Q => ∃ l b xs zs, x = .ref l ∧ y = .ref b ∧ H l = some (.lst xs) ∧ H b = some (.lst zs) ∧ xs.length + zs.length ≤ sizeLine ∧ ∀ p, H p = none → Q (.ref p) (upd H p (.lst (xs ++ zs)))
theorem op_cat : OpR X (binaryOp .Add) rCat := by
  intro pins s σ H x y v u Q I rx ry h
  obtain ⟨l, b, xs, zs, rfl, rfl, hH, hB, hz, q⟩ := h
  cases rx
  cases ry
  obtain ⟨z, its, n, r, hl, e⟩ := I.lstM hH
  obtain ⟨z2, its2, n2, r2, hl2, e2⟩ := I.lstM hB
  refine PySem.P.add_list e e2 ?_ (by rw [List.size_toArray, List.size_toArray]; omega)
  have ea : its.toArray ++ its2.toArray = (its ++ its2).toArray := by simp
  rw [ea]
  exact ⟨.ref _, _, I.lnew (t' := s.toks) (r.append r2) (by rw [List.length_append]; omega), rfl, q _ I.fresh⟩
def rRep : R2 := fun x y H Q => ∃ l k xs, x = .ref l ∧ y = .int k ∧ H l = some (.lst xs) ∧ -(2 ^ 63) ≤ k ∧ k < 2 ^ 63 ∧ xs.length * k.toNat ≤ sizeLine ∧
  ∀ p, H p = none → Q (.ref p) (upd H p (.lst (List.replicate k.toNat xs).flatten))
theorem len_rep {α : Type} (xs : List α) (k : Nat) : (List.replicate k xs).flatten.length = k * xs.length := by
  induction k with
  | zero => simp
  | succ k ih => rw [List.replicate_succ, List.flatten_cons, List.length_append, ih, Nat.succ_mul, Nat.add_comm]
theorem op_rep : OpR X (binaryOp .Mult) rRep := by
  intro pins s σ H x y v u Q I rx ry h
  obtain ⟨l, k, xs, rfl, rfl, hH, h1, h2, hz, q⟩ := h
  cases rx
  obtain ⟨t, rfl⟩ := ry
  obtain ⟨z, its, n, r, hl, e⟩ := I.lstM hH
  have hlen : its.toArray.size * k.toNat ≤ sizeLine := by rw [List.size_toArray, ← hl]; exact hz
  have hcap : ¬ its.toArray.size * k.toNat > (2 ^ 63 - 1) / 8 := by
    have : (sizeLine : Nat) ≤ (2 ^ 63 - 1) / 8 := by decide
    omega
  have hfit : ¬ (!Builtin.List.listFitsIndex k) = true := by
    rw [fitsIndex_both h1 h2]
    exact Bool.false_ne_true
  have hlong : ¬ Builtin.List.listTooLong (its.toArray.size * k.toNat) = true := by
    rw [notLongL hlen]
    exact Bool.false_ne_true
  have hnew : List.foldl (fun x1 x2 => x1 ++ x2) #[] (List.replicate (if its.toArray.isEmpty = true then 0 else k.toNat) its.toArray) = (List.replicate k.toNat its).flatten.toArray := by
    have f0 : ∀ m : Nat, List.foldl (fun x1 x2 => x1 ++ x2) #[] (List.replicate m its.toArray) = (List.replicate m its).flatten.toArray := fun m => by
      have := foldl_rep its m []
      rw [List.nil_append] at this
      exact this
    rw [f0]
    cases its with
    | nil => simp
    | cons a r' => rw [if_neg (by simp)]
  refine wpAny_binaryOp_repeat_ref (T := "list") (U := "int") (by decide) ⟨_, e, rfl⟩ (fun s' => typeIs_int s' k t) noFill_list_mul F.fills_int_mul F.slot_int_rmul repeat_list F.slot_int_index.lookup
    (call_meets F.slot_int_rmul (typeIs_int s k t) F.entry_int_rmul (F.args_int_rmul_2 _ _) (int___rmul___int_list k t l its.toArray n)
      ⟨e, rfl, ⟨_, e, rfl⟩, call_meets F.slot_list_mul ⟨_, e, rfl⟩ F.entry_list_mul (F.args_list_mul_2 _ _) (AutoListH.list___mul___list_int_3 l its.toArray n k t hfit hcap hlong) ⟨e, ?_⟩⟩)
  rw [hnew]
  exact ⟨.ref _, _, I.lnew (t' := s.toks) (r.rep k.toNat) (by rw [len_rep, Nat.mul_comm]; exact hz), rfl, q _ I.fresh⟩
end
end L2
namespace L2
open PySem PySem.Spec PyProof.Rows
theorem Vals.bls : ∀ {bs : List Bool} {us : List Value}, Vals (bs.map V.bl) us → us = bs.map Value.bool
  | [], us, h => by
    rw [List.map_nil] at h
    cases h
    rfl
  | b :: bs, us, h => by
    rw [List.map_cons] at h
    cases h with
    | cons r t =>
      cases r
      rw [Vals.bls t, List.map_cons]
theorem Vals.ref1 {a : Addr} {us : List Value} (r : Vals [V.ref a] us) : us = [Value.ref a] := by
  cases r with
  | cons r t =>
    cases t
    cases r
    rfl
section
variable {X : Cx}
def rIndex (K : PySem.W.Frag) : V → List V → Hp → VK → Prop := fun x xs H Q => ∃ (a : Addr) (ys : List V) (y : V) (j : Nat) (z : V), x = V.ref a ∧ xs = [y] ∧ SqL K H a ys ∧ flatV y = true ∧ ys.all flatV = true ∧ ys[j]? = some z ∧ eqV z y = true ∧
  (∀ (m : Nat) (z' : V), m < j → ys[m]? = some z' → eqV z' y = false) ∧ Q (.int (j : Nat)) H
theorem flat_at {ys : List V} (f : ys.all flatV = true) {j : Nat} {z : V} (h : ys[j]? = some z) : flatV z = true := List.all_eq_true.mp f z (List.mem_of_getElem? h)
theorem mt_index : MtR X "list.index" (rIndex X.K) := by
  intro pins s σ H x xs v us Q I rx rxs h
  obtain ⟨a, ys, y, j, z, rfl, rfl, hs, fy, fys, hz, hzj, hno, q⟩ := h
  cases rx
  cases rxs with
  | cons ry rt =>
    rename_i uy ut
    cases rt
    obtain ⟨its, rv, ⟨⟨cls, dd, data, sl⟩, n, ho, hc, hdn, hd⟩, hlen⟩ := I.list hs
    simp only at hc hd
    subst hc hd
    obtain ⟨u, hu, ru⟩ := rv.get hz
    obtain ⟨hjl, hje⟩ := List.getElem?_eq_some_iff.mp hu
    have hvl := rv.length
    have hj : j < its.toArray.size := by simpa using hjl
    have hsl := sizeLine_eq
    refine call_meets PySem.F.slot_list_index ⟨_, ho, rfl⟩ PySem.F.entry_list_index (PySem.F.args_list_index_2 _ _)
      (SeqAt.list_indexAt a its.toArray n dd sl uy (eqU y) j hj (by omega) ?_ ?_) ⟨ho, fun u' hu' => mem_eqAt ry fy rv fys u' (by simpa using hu'), ?_⟩
    · have e1 : its.toArray[j] = u := by simpa using hje
      rw [e1, eqU_of ru (flat_at fys hz)]
      exact hzj
    · intro m hm hmj
      have hml : m < its.length := by simpa using hm
      have hmy : m < ys.length := by omega
      have hy' : ys[m]? = some ys[m] := List.getElem?_eq_getElem hmy
      obtain ⟨u2, hu2, ru2⟩ := rv.get hy'
      obtain ⟨_, hme⟩ := List.getElem?_eq_some_iff.mp hu2
      have e1 : its.toArray[m] = u2 := by simpa using hme
      rw [e1, eqU_of ru2 (flat_at fys hy')]
      exact hno m _ hmj hy'
    · exact ⟨.int (j : Nat), H, I.tok _, ⟨_, rfl⟩, q⟩
end
theorem iter_any {prog : Program} {w : World} {A : Around} {E : Value → Shared → Prop} {s : Shared} {l : Addr} {items : Array Value} {Q : Value → Shared → Prop} (hl : s.heap.IsList l items)
    (h : ∀ s₂ : Shared, s₂ = { s with heap := s.heap.push { cls := .type "list_iterator", data := .fields #[.ref l, .int 0 0] } } →
      (s₂.heap.IsListIter s.heap.objs.size l 0 ∧ s₂.heap.IsList l items) → l ≠ s.heap.objs.size → Q (.ref s.heap.objs.size) s₂) : wpAny (model prog w) A (pyIter (.ref l)) Q E s := by
  have hlt : l < s.heap.objs.size := by obtain ⟨_, e, _⟩ := hl; exact Heap.lt_size e
  exact wpAny_pyIter_list hl (h _ rfl ⟨⟨_, Heap.get?_push_size _ rfl, rfl, rfl⟩, hl.push _⟩ (Nat.ne_of_lt hlt))
theorem truth_bools {prog : Program} {w : World} {A : Around} {bs : List Bool} {its : List Value} (e : its = bs.map Value.bool) :
    TruthOf prog w A (fun i v => its.toArray[i]? = some v) (fun i => bs.getD i false) := fun i v s Q E hv hq => by
  have hv' : its[i]? = some v := by simpa using hv
  rw [e, List.getElem?_map] at hv'
  obtain ⟨b, hb, rfl⟩ := Option.map_eq_some_iff.mp hv'
  have hg : bs.getD i false = b := by rw [List.getD_eq_getElem?_getD, hb] <;> rfl
  have hq' : Q (bs.getD i false) s := hq
  rw [hg] at hq'
  exact wpAny_truthy_bool hq'
theorem all_range : ∀ bs : List Bool, (List.range bs.length).all (fun i => bs.getD i false) = bs.all id
  | [] => rfl
  | b :: bs => by
    rw [List.length_cons, List.range_succ_eq_map, List.all_cons, List.all_map, List.all_cons, ← all_range bs]
    all_goals rfl
section
variable {X : Cx}
def rAll (K : PySem.W.Frag) : List V → Hp → VK → Prop := fun vs H Q => ∃ (a : Addr) (bs : List Bool), vs = [V.ref a] ∧ SqL K H a (bs.map V.bl) ∧ Q (.bl (bs.all id)) H
theorem cr_all (hc : X.calm = true) : CallR X (.builtin "all") (rAll X.K) := by
  intro pins s σ H vs us Q I r h
  obtain ⟨a, bs, rfl, hs, q⟩ := h
  obtain ⟨its, rv, hl, _⟩ := I.list hs
  rw [Vals.ref1 r]
  have hb := rv.bls
  refine call_all_walk (iter_any hl.isList fun s₂ e2 st hne => ?_)
  subst e2
  refine ⟨_, _, _, _, _, _, _, rfl, Walks.list (A := X.A.in1) (I.ok.hd hc) _ a hne its.toArray, st, truth_bools hb, fun h' tk hk => ?_⟩
  refine ⟨.bl _, H, I.kept fun b o eo => hk b o (fun hmem => ?_) (Heap.get?_push_of_some _ eo), ?_, q⟩
  · rcases List.mem_cons.mp hmem with e1 | hmem
    · exact absurd (e1 ▸ Heap.lt_size eo) (Nat.lt_irrefl _)
    · cases hmem
  · show Value.bool _ = Value.bool _
    rw [← all_range, hb, List.size_toArray, List.length_map]
end
mutual
inductive Dp (K : PySem.W.Frag) (H : Hp) : V → PyData → Prop
  | non : Dp K H .non .none
  | bl (b : Bool) : Dp K H (.bl b) (.bool b)
  | int (i : Int) : Dp K H (.int i) (.int i)
  | str (x : Str) : Dp K H (.str x) (.str x)
  | lst {a : Addr} {xs : List V} {ds : List PyData} : SqL K H a xs → DpAll K H xs ds → Dp K H (.ref a) (.list ds)
  | tup {a : Addr} {xs : List V} {ds : List PyData} : SqT K H a xs → DpAll K H xs ds → Dp K H (.ref a) (.tuple ds)
inductive DpAll (K : PySem.W.Frag) (H : Hp) : List V → List PyData → Prop
  | nil : DpAll K H [] []
  | cons {v : V} {vs : List V} {d : PyData} {ds : List PyData} : Dp K H v d → DpAll K H vs ds → DpAll K H (v :: vs) (d :: ds)
end
section
variable {X : Cx} {pins : List (Addr × Obj)} {σ : St} {H : Hp} {s : Shared}
mutual
theorem Dp.reads (I : Inv X pins σ H s) : ∀ (d : PyData) (v : V) (u : Value), Dp X.K H v d → RelV v u → ∃ as, Reads s.heap u d as
  | .none, _, _, h, r => by
    cases h
    cases r
    exact ⟨_, Reads.none⟩
  | .bool b, _, _, h, r => by
    cases h
    cases r
    exact ⟨_, Reads.bool b⟩
  | .int i, _, _, h, r => by
    cases h
    obtain ⟨t, rfl⟩ := r
    exact ⟨_, Reads.int i t⟩
  | .str x, _, _, h, r => by
    cases h
    obtain ⟨t, rfl⟩ := r
    exact ⟨_, Reads.str x t⟩
  | .list ds, _, _, h, r => by
    cases h with
    | lst hs ha =>
      cases r
      obtain ⟨its, rv, ⟨o, n, ho, hc, _, hd⟩, _⟩ := I.list hs
      obtain ⟨as, hr⟩ := Dp.readsAll I ds _ its ha rv
      exact ⟨_, Reads.list ho hc hd hr⟩
  | .tuple ds, _, _, h, r => by
    cases h with
    | tup hs ha =>
      cases r
      obtain ⟨its, rv, ⟨o, ho, hc, n, hd⟩, _⟩ := I.tuple hs
      obtain ⟨as, hr⟩ := Dp.readsAll I ds _ its ha rv
      exact ⟨_, Reads.tuple ho hc hd hr⟩
  | .dict _, _, _, h, _ => by cases h
theorem Dp.readsAll (I : Inv X pins σ H s) : ∀ (ds : List PyData) (vs : List V) (us : List Value), DpAll X.K H vs ds → Vals vs us → ∃ as, ReadsAll s.heap us ds as
  | [], _, _, h, r => by
    cases h
    cases r
    exact ⟨_, ReadsAll.nil⟩
  | d :: ds, _, _, h, r => by
    cases h with
    | cons h1 h2 =>
      cases r with
      | cons r1 r2 =>
        obtain ⟨as, q1⟩ := Dp.reads I d _ _ h1 r1
        obtain ⟨bs, q2⟩ := Dp.readsAll I ds _ _ h2 r2
        exact ⟨_, ReadsAll.cons q1 q2⟩
end
end
section
variable {X : Cx}
def rEqD (K : PySem.W.Frag) : R2 := fun x y H Q => ∃ d e, Dp K H x d ∧ Dp K H y e ∧ SeqAt.shaped d = true ∧ SeqAt.shaped e = true ∧ Q (.bl (PyData.eqv d e)) H
theorem op_eqD (hu : X.A.units + 64 < cLine) : OpR X (compareOp .Eq) (rEqD X.K) := by
  intro pins s σ H x y v u Q I rx ry h
  obtain ⟨d, e, hd, he, sd, se, q⟩ := h
  obtain ⟨as, r1⟩ := Dp.reads I d x v hd rx
  obtain ⟨bs, r2⟩ := Dp.reads I e y u he ry
  exact SeqAt.compareEq_shaped r1 r2 sd se hu ⟨.bl _, H, I, rfl, q⟩
end
end L2
namespace L2
open PySem PySem.Spec PyProof.Rows
abbrev CellAt (h : Heap) (c : Addr) (v : Option Value) : Prop := h.IsCell c v
def relS (scope sc : Scope) : Scope :=
  { scope with names := scope.names.map fun (n, k) => if (k == .free && sc.kind == .function && sc.names.lookup n == some .cell) then (n, .cell) else (n, k) }
def cloFrom (cells : List (Str × Addr)) : List (Str × NameKind) → List (Str × Addr) → List (Str × Addr)
  | [], acc => acc
  | (n, k) :: r, acc => if k == .free then cloFrom cells r ((n, (cells.lookup n).getD 0) :: acc) else cloFrom cells r acc
theorem closure_loop (env : Env) (f : Str × NameKind → List (Str × Addr) → Sem (ForInStep (List (Str × Addr))))
    (hf : ∀ n k c, f (n, k) c = if k == .free then (do let a ← cellOf env n; pure (.yield ((n, a) :: c))) else pure (.yield c)) :
    ∀ (names : List (Str × NameKind)) (acc : List (Str × Addr)), (∀ y ∈ names, y.2 = .free → ∃ c, env.cells.lookup y.1 = some c) → forIn names acc f = pure (cloFrom env.cells names acc)
  | [], acc, _ => by rw [List.forIn_nil]; rfl
  | (n, k) :: r, acc, h => by
    rw [List.forIn_cons, hf]
    have ih := fun acc => closure_loop env f hf r acc fun y hy => h y (List.mem_cons_of_mem _ hy)
    unfold cloFrom
    by_cases hk : (k == NameKind.free) = true
    · rw [if_pos hk, if_pos hk]
      obtain ⟨c, hc⟩ := h (n, k) List.mem_cons_self (by simpa using hk)
      have e : cellOf env n = pure c := by unfold cellOf; rw [hc]
      rw [e]
      have e2 : (env.cells.lookup n).getD 0 = c := by rw [hc]; rfl
      rw [e2]
      exact ih _
    · rw [if_neg hk, if_neg hk]
      exact ih _
theorem closure_ok {scope : Scope} {env : Env} (h : ∀ y ∈ scope.names, y.2 = .free → ∃ c, env.cells.lookup y.1 = some c) : closureFor scope env = pure (cloFrom env.cells scope.names []) := by
  simp only [closureFor]
  rw [closure_loop env _ (fun n k c => rfl) scope.names [] h]
  rfl
theorem mem_lookup {α : Type} : ∀ {l : List (Str × α)} {n : Str} {c : α}, (n, c) ∈ l → ∃ c', l.lookup n = some c'
  | (k, v) :: r, n, c, h => by
    rw [List.lookup_cons]
    cases hb : n == k with
    | true => exact ⟨_, rfl⟩
    | false =>
      rcases List.mem_cons.mp h with e | h
      · cases e; simp at hb
      · exact mem_lookup h
theorem cloFrom_mem {cells : List (Str × Addr)} : ∀ {names : List (Str × NameKind)} {acc : List (Str × Addr)} {n : Str} {c : Addr}, (n, c) ∈ cloFrom cells names acc → (n, c) ∈ acc ∨ ((n, .free) ∈ names ∧ c = (cells.lookup n).getD 0)
  | [], _, _, _, h => .inl h
  | (m, k) :: r, acc, n, c, h => by
    unfold cloFrom at h
    split at h
    · rename_i hk
      have hk : k = .free := by simpa using hk
      rcases cloFrom_mem h with h | ⟨h1, h2⟩
      · rcases List.mem_cons.mp h with e | h
        · cases e; exact .inr ⟨hk ▸ List.mem_cons_self, rfl⟩
        · exact .inl h
      · exact .inr ⟨List.mem_cons_of_mem _ h1, h2⟩
    · rcases cloFrom_mem h with h | ⟨h1, h2⟩
      · exact .inl h
      · exact .inr ⟨List.mem_cons_of_mem _ h1, h2⟩
theorem cloFrom_acc {cells : List (Str × Addr)} : ∀ {names : List (Str × NameKind)} {acc : List (Str × Addr)} {p : Str × Addr}, p ∈ acc → p ∈ cloFrom cells names acc
  | [], _, _, h => h
  | (m, k) :: r, acc, p, h => by
    unfold cloFrom
    split
    · exact cloFrom_acc (List.mem_cons_of_mem _ h)
    · exact cloFrom_acc h
theorem cloFrom_has {cells : List (Str × Addr)} : ∀ {names : List (Str × NameKind)} {acc : List (Str × Addr)} {n : Str}, (n, .free) ∈ names → (n, (cells.lookup n).getD 0) ∈ cloFrom cells names acc
  | (m, k) :: r, acc, n, h => by
    unfold cloFrom
    rcases List.mem_cons.mp h with e | h
    · cases e
      exact cloFrom_acc List.mem_cons_self
    · split
      · exact cloFrom_has h
      · exact cloFrom_has h
theorem cells_mem : ∀ {names : List (Str × NameKind)} {h : Heap} {acc : List (Str × Addr)} {x : Str} {c : Addr}, (x, c) ∈ cellsFrom h.objs.size names acc →
    (x, c) ∈ acc ∨ ((x, .cell) ∈ names ∧ h.objs.size ≤ c ∧ CellAt (pushCells h names) c none)
  | [], _, _, _, _, h => .inl h
  | (n, k) :: r, h, acc, x, c, hm => by
    unfold cellsFrom at hm
    unfold pushCells
    split at hm
    · rename_i hk
      rw [if_pos hk]
      have hk : k = .cell := by simpa using hk
      rw [← Heap.size_push h { cls := .type "cell", data := .cell none }] at hm
      rcases cells_mem hm with hm | ⟨h1, h2, h3⟩
      · rcases List.mem_cons.mp hm with e | hm
        · cases e
          exact .inr ⟨hk ▸ List.mem_cons_self, Nat.le_refl _, _, pushCells_keeps r _ _ _ (Heap.get?_push_size _ rfl), rfl⟩
        · exact .inl hm
      · rw [Heap.size_push] at h2
        exact .inr ⟨List.mem_cons_of_mem _ h1, Nat.le_of_succ_le h2, h3⟩
    · rename_i hk
      rw [if_neg hk]
      rcases cells_mem hm with hm | ⟨h1, h2, h3⟩
      · exact .inl hm
      · exact .inr ⟨List.mem_cons_of_mem _ h1, h2, h3⟩
theorem cells_acc : ∀ {names : List (Str × NameKind)} {n : Nat} {acc : List (Str × Addr)} {p : Str × Addr}, p ∈ acc → p ∈ cellsFrom n names acc
  | [], _, _, _, h => h
  | (m, k) :: r, n, acc, p, h => by
    unfold cellsFrom
    split
    · exact cells_acc (List.mem_cons_of_mem _ h)
    · exact cells_acc h
theorem cells_has : ∀ {names : List (Str × NameKind)} {n : Nat} {acc : List (Str × Addr)} {x : Str}, (x, .cell) ∈ names → ∃ c, (x, c) ∈ cellsFrom n names acc
  | (m, k) :: r, n, acc, x, h => by
    unfold cellsFrom
    rcases List.mem_cons.mp h with e | h
    · cases e
      exact ⟨n, cells_acc List.mem_cons_self⟩
    · split
      · exact cells_has h
      · exact cells_has h
theorem cells_inj : ∀ {names : List (Str × NameKind)} {h : Heap} {acc : List (Str × Addr)} {x y : Str} {c : Addr}, (∀ p ∈ acc, p.2 < h.objs.size) → (∀ x y c, (x, c) ∈ acc → (y, c) ∈ acc → x = y) →
    (x, c) ∈ cellsFrom h.objs.size names acc → (y, c) ∈ cellsFrom h.objs.size names acc → x = y
  | [], _, _, _, _, _, _, hi, h1, h2 => hi _ _ _ h1 h2
  | (n, k) :: r, h, acc, x, y, c, hl, hi, h1, h2 => by
    unfold cellsFrom at h1 h2
    split at h1
    · rename_i hk
      rw [if_pos hk] at h2
      rw [← Heap.size_push h { cls := .type "cell", data := .cell none }] at h1 h2
      refine cells_inj (h := h.push _) (fun p hp => ?_) (fun x y c a b => ?_) h1 h2
      · rw [Heap.size_push]
        rcases List.mem_cons.mp hp with rfl | hp
        · exact Nat.lt_succ_self _
        · exact Nat.lt_succ_of_lt (hl p hp)
      · rcases List.mem_cons.mp a with e | a <;> rcases List.mem_cons.mp b with e' | b
        · cases e; cases e'; rfl
        · cases e; exact absurd (hl _ b) (Nat.lt_irrefl _)
        · cases e'; exact absurd (hl _ a) (Nat.lt_irrefl _)
        · exact hi _ _ _ a b
    · rename_i hk
      rw [if_neg hk] at h2
      exact cells_inj hl hi h1 h2
theorem newEnv_comp {M : Model} {A : Around} {E : Value → Shared → Prop} {s : Shared} {scope : Scope} {globals : Addr} {closure : List (Str × Addr)} {qual : Str} {func : Option Addr} {code : Value} {around : Env} {builtins : Addr} {Q : Env → Shared → Prop}
    (h : Q (newEnv scope s.heap.objs.size globals (cellsFrom (s.heap.objs.size + 1) scope.names closure) qual func code (some around) builtins)
      { s with heap := pushCells (s.heap.push { cls := .type "dict", data := .dict #[] }) scope.names }) :
    wpAny M A (newFunctionEnv scope globals closure [] qual func code (some around) builtins) Q E s := by
  simp only [newFunctionEnv, Option.isSome_some, if_true]
  refine wpAny_bind (wpAny_alloc ?_)
  refine wpAny_bind (wpAny_layCells _ (fun n k c => rfl) scope.names closure _ _ ?_)
  rw [show ({ s with heap := s.heap.push { cls := .type "dict", data := .dict #[] } } : Shared).heap.objs.size = s.heap.objs.size + 1 from Heap.size_push ..]
  rw [List.forIn_nil]
  exact wpAny_bind (wpAny_pure (wpAny_pure h))
theorem lookup_relS {sc : Scope} : ∀ {names : List (Str × NameKind)} {x : Str} {k : NameKind},
    (names.map fun (n, k) => if (k == NameKind.free && sc.kind == .function && sc.names.lookup n == some .cell) then (n, NameKind.cell) else (n, k)).lookup x = some k →
    ∃ k', names.lookup x = some k' ∧ (k = k' ∨ (k' = .free ∧ k = .cell))
  | [], _, _, h => by simp at h
  | (n, k₀) :: r, x, k, h => by
    have ih := @lookup_relS sc r x k
    have h' : List.lookup x ((if (k₀ == NameKind.free && sc.kind == .function && sc.names.lookup n == some .cell) = true then (n, NameKind.cell) else (n, k₀)) :: (r.map _)) = some k := h
    cases hx : x == n with
    | true =>
      simp only [List.lookup_cons, hx]
      by_cases hc : (k₀ == NameKind.free && sc.kind == .function && sc.names.lookup n == some .cell) = true
      · rw [if_pos hc] at h'
        simp only [List.lookup_cons, hx] at h'
        cases h'
        simp only [Bool.and_eq_true, beq_iff_eq] at hc
        exact ⟨k₀, rfl, .inr ⟨hc.1.1, rfl⟩⟩
      · rw [if_neg hc] at h'
        simp only [List.lookup_cons, hx] at h'
        cases h'
        exact ⟨_, rfl, .inl rfl⟩
    | false =>
      simp only [List.lookup_cons, hx]
      by_cases hc : (k₀ == NameKind.free && sc.kind == .function && sc.names.lookup n == some .cell) = true
      · rw [if_pos hc] at h'
        simp only [List.lookup_cons, hx] at h'
        exact ih h'
      · rw [if_neg hc] at h'
        simp only [List.lookup_cons, hx] at h'
        exact ih h'
structure BlkOk (N : List Str) (sc scope : Scope) (own : List (Str × Nat)) : Prop where
  kind : scope.kind = .function
  uniq : ∀ y ∈ scope.names, scope.names.lookup y.1 = some y.2
  ix : ∀ p ∈ own, N[p.2]? = some p.1
  free : ∀ y ∈ scope.names, y.2 = .free → sc.names.lookup y.1 = some .cell ∨ sc.names.lookup y.1 = some .free
  own : ∀ y ∈ scope.names, y.2 = .local ∨ y.2 = .cell → y.1 ∈ own.map (·.1) ∨ y.1 ∉ N
def wipe (σ : St) : List Nat → St
  | [] => σ
  | v :: vs => (wipe σ vs).set v none
theorem wipe_length (σ : St) : ∀ vs : List Nat, (wipe σ vs).length = σ.length
  | [] => rfl
  | v :: vs => by unfold wipe; rw [List.length_set, wipe_length σ vs]
theorem wipe_some {σ : St} {i : Nat} {x : V} : ∀ {vs : List Nat}, (wipe σ vs)[i]? = some (some x) → σ[i]? = some (some x) ∧ i ∉ vs
  | [], h => ⟨h, by simp⟩
  | v :: vs, h => by
    unfold wipe at h
    by_cases hi : v = i
    · subst hi
      by_cases hv : v < (wipe σ vs).length
      · rw [List.getElem?_set_self hv] at h; cases h
      · rw [List.getElem?_eq_none (by simpa using hv)] at h; cases h
    · rw [List.getElem?_set_ne hi] at h
      obtain ⟨h1, h2⟩ := wipe_some h
      exact ⟨h1, by simp only [List.mem_cons, not_or]; exact ⟨fun e => hi e.symm, h2⟩⟩
abbrev Cx.blk (X : Cx) (s : Shared) (H : Hp) (scope : Scope) (cenv : Env) (fp : List Addr) : Cx := { X with s_0 := s, H_0 := H, env := cenv, outer := X.stack, ex := fp, fn := fun x => scope.names.lookup x == some .cell, pn := [], xe := fun _ _ => False }
section
variable {X : Cx} {pins : List (Addr × Obj)} {σ : St} {H : Hp} {s : Shared}
theorem block_start {scope : Scope} {own : List (Str × Nat)} {fp : List Addr} (I : Inv X pins σ H s) (ok : BlkOk X.N X.env.scope scope own) (hN : X.N.Nodup) (hfp : ∀ b ∈ fp, FpOk X pins H b ∧ b < s.heap.objs.size) :
    Inv (X.blk s H scope (compEnvC scope (cellsFrom (s.heap.objs.size + 1) scope.names (cloFrom X.env.cells scope.names [])) s.heap.objs.size X.env) fp) [] (wipe σ (own.map (·.2))) H { s with heap := pushCells (s.heap.push { cls := .type "dict", data := .dict #[] }) scope.names } := by
  have hfree : ∀ y ∈ scope.names, y.2 = .free → ∃ c, X.env.cells.lookup y.1 = some c := fun y hy e => by
    rcases ok.free y hy e with k | k
    · exact I.ok.has _ (.inl k)
    · exact I.ok.has _ (.inr k)
  generalize hcenv : compEnvC scope (cellsFrom (s.heap.objs.size + 1) scope.names (cloFrom X.env.cells scope.names [])) s.heap.objs.size X.env = cenv
  have kp : ∀ b o, s.heap.get? b = some o → (pushCells (s.heap.push { cls := .type "dict", data := .dict #[] }) scope.names).get? b = some o := fun b o e => pushCells_keeps _ _ _ _ (Heap.get?_push_of_some _ e)
  have hL : cenv.locals = s.heap.objs.size := by rw [← hcenv]; rfl
  have hcl : cenv.cells = cellsFrom (s.heap.objs.size + 1) scope.names (cloFrom X.env.cells scope.names []) := by rw [← hcenv]; rfl
  have hsc : cenv.scope = relS scope X.env.scope := by rw [← hcenv]; rfl
  rw [← Heap.size_push s.heap { cls := .type "dict", data := .dict #[] }] at hcl
  have cm : ∀ {y c}, (y, c) ∈ cloFrom X.env.cells scope.names [] → X.env.cells.lookup y = some c ∧ c < s.heap.objs.size := fun {y c} hm => by
    rcases cloFrom_mem hm with hm | ⟨h1, rfl⟩
    · cases hm
    · obtain ⟨c, hc⟩ := hfree _ h1 rfl
      rw [hc]
      obtain ⟨w, z⟩ := I.cell _ _ hc
      exact ⟨rfl, z.lt⟩
  have mem : ∀ {y c}, cenv.cells.lookup y = some c → (X.env.cells.lookup y = some c ∧ c < s.heap.objs.size) ∨ (s.heap.objs.size + 1 ≤ c ∧ CellAt (pushCells (s.heap.push { cls := .type "dict", data := .dict #[] }) scope.names) c none) := fun {y c} e => by
    rw [hcl] at e
    rcases cells_mem (PySem.mem_of_lookup e) with hm | ⟨_, h2, h3⟩
    · exact .inl (cm hm)
    · rw [Heap.size_push] at h2; exact .inr ⟨h2, h3⟩
  have look : ∀ {y}, scope.names.lookup y = some .free → ∃ c, cenv.cells.lookup y = some c ∧ X.env.cells.lookup y = some c := fun {y} hl => by
    have hy : (y, NameKind.free) ∈ scope.names := PySem.mem_of_lookup hl
    obtain ⟨c', e'⟩ := mem_lookup (cells_acc (names := scope.names) (n := (s.heap.push { cls := .type "dict", data := .dict #[] }).objs.size) (cloFrom_has (cells := X.env.cells) (acc := []) hy))
    rw [← hcl] at e'
    refine ⟨c', e', ?_⟩
    rw [hcl] at e'
    rcases cells_mem (PySem.mem_of_lookup e') with hm | ⟨h1, _, _⟩
    · exact (cm hm).1
    · have := ok.uniq _ h1
      rw [hl] at this; cases this
  have okB : (X.blk s H scope cenv fp).Ok := by
    refine ⟨I.ok.mod, by show cenv.scope.kind = _; rw [hsc]; exact ok.kind, by show cenv.globals = _; rw [← hcenv]; exact I.ok.glob, by show cenv.builtins = _; rw [← hcenv]; exact I.ok.blt, by show s.heap.objs.size ≤ cenv.locals; rw [hL]; exact Nat.le_refl _,
      fun y z c e1 e2 => ?_, fun y hy => ?_, fun y c z e => ?_, I.ok.hd, I.ok.frames, .inl rfl, fun b hb => ⟨?_, fun y c e z => ?_⟩, I.bs, Nat.le_trans I.ok.bsz I.sz, fun b o e hb => ?_, fun b hb z => ?_, I.stack, I.stkFree⟩
    · have e1 : cenv.cells.lookup y = some c := e1
      have e2 : cenv.cells.lookup z = some c := e2
      rw [hcl] at e1 e2
      refine cells_inj (fun p hp => ?_) (fun y z c a b => I.ok.inj y z c (cm a).1 (cm b).1) (PySem.mem_of_lookup e1) (PySem.mem_of_lookup e2)
      rw [Heap.size_push]
      exact Nat.lt_succ_of_lt (cm (y := p.1) (c := p.2) hp).2
    · show ∃ c, cenv.cells.lookup y = some c
      have key : ∀ k, cenv.kindOf y = some k → (k = .cell ∨ k = .free) → ∃ c, cenv.cells.lookup y = some c := fun k hk hk' => by
        unfold Env.kindOf at hk
        rw [hsc] at hk
        obtain ⟨k', e, r⟩ := lookup_relS hk
        have : k' = .cell ∨ k' = .free := by
          rcases r with rfl | ⟨rfl, _⟩
          · exact hk'
          · exact .inr rfl
        rcases this with rfl | rfl
        · obtain ⟨c, hm⟩ := cells_has (n := (s.heap.push { cls := .type "dict", data := .dict #[] }).objs.size) (acc := cloFrom X.env.cells scope.names []) (PySem.mem_of_lookup e)
          obtain ⟨c', e'⟩ := mem_lookup hm
          exact ⟨c', by rw [hcl]; exact e'⟩
        · obtain ⟨c, h1, _⟩ := look e
          exact ⟨c, h1⟩
      rcases hy with hy | hy
      · exact key _ hy (.inl rfl)
      · exact key _ hy (.inr rfl)
    · have z : (scope.names.lookup y == some NameKind.cell) = true := z
      have z : scope.names.lookup y = some .cell := by simpa using z
      have e : cenv.cells.lookup y = some c := e
      rw [hcl] at e
      rcases cells_mem (PySem.mem_of_lookup e) with hm | ⟨_, h2, _⟩
      · rcases cloFrom_mem hm with hm | ⟨h1, _⟩
        · cases hm
        · have q := ok.uniq _ h1
          rw [z] at q; cases q
      · rw [Heap.size_push] at h2
        exact Nat.le_of_succ_le h2
    · show b ≠ cenv.locals
      rw [hL]; exact Nat.ne_of_lt (hfp b hb).2
    · have e : cenv.cells.lookup y = some c := e
      rcases mem e with ⟨h1, _⟩ | ⟨h1, _⟩
      · exact (hfp b hb).1.2.2.2.2.1 y c h1 z
      · have h2 : s.heap.objs.size + 1 ≤ b := by rw [← z]; exact h1
        exact absurd (Nat.lt_of_lt_of_le (hfp b hb).2 (Nat.le_of_succ_le h2)) (Nat.lt_irrefl _)
    · rcases (hfp b hb).1.2.2.2.1 with z | z
      · exact I.ok.noex b o e z
      · exact absurd (Nat.lt_of_lt_of_le (Heap.lt_size e) (Nat.le_trans I.ok.bsz z)) (Nat.lt_irrefl _)
    · rcases List.mem_cons.mp (I.stkSub b z) with z | z
      · exact (hfp b hb).1.2.1 z
      · exact (hfp b hb).1.2.2.1 z
  refine ⟨okB, rfl, I.bare, Un.kept kp, ⟨fun _ => none, ?_, fun i y av e1 e2 e3 => ?_⟩, fun y c e => ?_, ?_, fun y c e => ?_, fun p hp => ?_, I.hok.kept kp, by rw [wipe_length]; exact I.len⟩
  · show Heap.Ns _ cenv.locals _
    rw [hL]
    exact Heap.Ns.keeps (Heap.Ns.new ..) fun b o e => pushCells_keeps _ _ _ _ e
  · obtain ⟨e2, hne⟩ := wipe_some e2
    have hfr : scope.names.lookup y = some .free ∧ (cenv.kindOf y = some .cell ∨ cenv.kindOf y = some .free) := by
      have key : ∀ k, cenv.scope.names.lookup y = some k → k = .local ∨ k = .cell ∨ k = .free → scope.names.lookup y = some .free ∧ (cenv.kindOf y = some .cell ∨ cenv.kindOf y = some .free) := fun k hk hk' => by
        have hk0 := hk
        rw [hsc] at hk
        obtain ⟨k', e, r⟩ := lookup_relS hk
        have no : ¬ (k' = .local ∨ k' = .cell) := fun hh => by
          rcases ok.own _ (PySem.mem_of_lookup e) hh with e' | e'
          · obtain ⟨p, hp, hpy⟩ := List.mem_map.mp e'
            have e3 := ok.ix p hp
            have : p.1 = y := hpy
            rw [this] at e3
            exact hne (List.mem_map.mpr ⟨p, hp, nodup_ix hN e3 e1⟩)
          · exact e' (List.mem_of_getElem? e1)
        rcases r with rfl | ⟨rfl, rfl⟩
        · rcases hk' with rfl | rfl | rfl
          · exact absurd (.inl rfl) no
          · exact absurd (.inr rfl) no
          · exact ⟨e, .inr hk0⟩
        · exact ⟨e, .inl hk0⟩
      have e3 : Vis cenv.scope y := e3
      rcases e3 with e3 | e3 | e3
      · exact key _ e3 (.inl rfl)
      · exact key _ e3 (.inr (.inl rfl))
      · exact key _ e3 (.inr (.inr rfl))
    obtain ⟨m, hn, hl⟩ := I.loc
    have hvis : Vis X.env.scope y := (ok.free _ (PySem.mem_of_lookup hfr.1) rfl).elim (fun k => .inr (.inl k)) (fun k => .inr (.inr k))
    obtain ⟨w, r, q⟩ := hl i y av e1 e2 hvis
    refine ⟨w, r, .inr ⟨hfr.2, ?_⟩⟩
    obtain ⟨c, h1, h2⟩ := look hfr.1
    rcases q with ⟨k, _⟩ | ⟨_, c', e', z⟩
    · have k : X.env.scope.names.lookup y = some .local := k
      rcases ok.free _ (PySem.mem_of_lookup hfr.1) rfl with k' | k' <;> rw [show X.env.scope.names.lookup y = _ from k'] at k <;> cases k
    · rw [h2] at e'; cases e'
      exact ⟨c, h1, z.keeps kp⟩
  · have e : cenv.cells.lookup y = some c := e
    rcases mem e with ⟨h1, _⟩ | ⟨_, z⟩
    · obtain ⟨w, z⟩ := I.cell y c h1
      exact ⟨w, z.keeps kp⟩
    · exact ⟨_, z⟩
  · show H cenv.locals = none
    rw [hL]; exact I.hok.fresh (Nat.le_refl _)
  · have e : cenv.cells.lookup y = some c := e
    rcases mem e with ⟨h1, _⟩ | ⟨h1, _⟩
    · exact I.freeC y c h1
    · exact I.hok.fresh (Nat.le_of_succ_le h1)
  · exact absurd (show p ∈ ([] : List (Addr × Obj)) ++ [] from hp) (by simp)
theorem app_ok {E : Value → Shared → Prop} {D : Addr} {xs : List V} {y : V} {v : Value} {Q : Value → Shared → Prop} (I : Inv X pins σ H s) (hD : H D = some (.lst xs)) (hz : xs.length < sizeLine) (r : RelV y v)
    (h : ∀ s', Inv X pins σ (upd H D (.lst (xs ++ [y]))) s' → Q .none s') : wpAny (model X.prog X.w) X.A (call (.builtin "list.append") [.ref D, v]) Q E s := by
  obtain ⟨hz', its, n, ri, e⟩ := I.hok D _ hD
  have hl := ri.length
  refine append_at (hsz := by rw [List.size_toArray]; omega) e fun h' sb ho' => ?_
  refine h { s with heap := h' } (I.write (t' := s.toks) (by rw [hD]; trivial) (.inl rfl) (fun b u hb q => (sb.2 b hb).trans q) ⟨_, ho'⟩ ⟨by rw [List.length_append]; exact hz, its ++ [v], n + 1, ri.append (.cons r .nil), ?_⟩)
  rw [ho']
  simp
def PTs (X : Cx) (ifs : List Expr) (t : TT) : Prop :=
  ∀ (pins : List (Addr × Obj)) (s : Shared) (σ : St) (H : Hp) (Q : Bool → Hp → Prop), Inv X pins σ H s → t σ H Q →
    wpAny (model X.prog X.w) X.A (forIn ifs true fun c r => if r = true then do let ok ← isTrue c X.env (eval c X.env); pure (ForInStep.yield ok) else pure (ForInStep.yield r)) (TP X pins σ Q) X.xe s
def tYes : TT := fun _ H Q => Q true H
theorem pts_nil : PTs X [] tYes := fun _ _ _ H _ I h => wpAny_tests_nil ⟨H, I, h⟩
theorem pts_one {c : Expr} {t : TT} (h : PT X c t) : PTs X [c] t := fun pins s σ H Q I hw => wpAny_tests_one (h pins s σ H Q I hw)
end
theorem thnF {α : Type} {t : Sem α} {Q Q' : α → Shared → Prop} {M : Model} {A : Around} {E : Value → Shared → Prop} {s : Shared} (h : wpAny M A t Q (fun _ _ => False) s) (hQ : ∀ a s, Q a s → Q' a s) : wpAny M A t Q' E s := wpAny_mono h hQ fun _ _ z => False.elim z
theorem compLoop_any {prog : Program} {w : World} {A : Around} {R : Result → Shared → Prop} {s : Shared} {elt target iter : Expr} {ifs : List Expr} {scope : Scope} {pos : Pos} {it acc : Value} {env : Env} (I : Nat → Shared → Prop)
    (turn : ∀ n s, I n s → wpAny (model prog w) A (pyNext it) (fun r s₁ => match r with
      | none => R (.ok .next) s₁
      | some v => wpAny (model prog w) A (letOwnedTupleGo target it v) (fun _ s₁' => wpAny (model prog w) A (assign target env v) (fun _ s₂ =>
          wpAny (model prog w) A (forIn ifs true fun c r => if r = true then do let ok ← isTrue c env (eval c env); pure (ForInStep.yield ok) else pure (ForInStep.yield r)) (fun ok s₃ =>
            if ok = true then wpAny (model prog w) A (eval elt env) (fun x s₄ =>
              wpAny (model prog w) A (call (.builtin "list.append") [acc, x]) (fun _ s₅ => ∃ m, m < n ∧ I m s₅) (notedBy (model prog w) A env fun e s' => R (.error e) s') s₄) (notedBy (model prog w) A env fun e s' => R (.error e) s') s₃
            else ∃ m, m < n ∧ I m s₃) (notedBy (model prog w) A env fun e s' => R (.error e) s') s₂) (notedBy (model prog w) A env fun e s' => R (.error e) s') s₁') (notedBy (model prog w) A env fun e s' => R (.error e) s') s₁) (notedBy (model prog w) A env fun e s' => R (.error e) s') s)
    (n : Nat) (h : I n s) :
    codeAny (model prog w) A (.compLoop (.ListComp elt [⟨target, iter, ifs, 0⟩] scope pos) 0 it acc env) R s := by
  refine codeAny_loop rfl I (fun n s hI => ?_) n h
  show wpAny _ A ((compTurn (.ListComp elt [⟨target, iter, ifs, 0⟩] scope pos) 0 it acc env).onRaise (fun x => do noteFrame x env; theTreesLotGoes x)) _ _ s
  refine wpAny_noted ?_
  rw [compTurn_list]
  refine wpAny_bind (wpAny_standAt (wpAny_bind (wpAny_mono (turn n s hI) (fun r s₁ h₁ => ?_) fun _ _ h' => h')))
  cases r with
  | none => exact wpAny_pure h₁
  | some v =>
    refine wpAny_bind (wpAny_mono h₁ (fun _ s₁' h₁' => ?_) fun _ _ h' => h')
    refine wpAny_bind (wpAny_mono h₁' (fun _ s₂ h₂ => wpAny_bind (wpAny_mono h₂ (fun ok s₃ h₃ => ?_) fun _ _ h' => h')) fun _ _ h' => h')
    cases ok with
    | false => exact wpAny_pure ⟨rfl, h₃⟩
    | true =>
      exact wpAny_bind (wpAny_bind (wpAny_mono h₃ (fun x s₄ h₄ => wpAny_bind (wpAny_mono h₄ (fun _ s₅ h₅ => wpAny_pure (wpAny_pure ⟨rfl, h₅⟩)) fun _ _ h' => h')) fun _ _ h' => h'))
section
variable {X : Cx}
def tLc (wi : TI) (g : TG) (tt : TT) (te : TE) (vs : List Nat) : TE := fun σ H Q => wi σ H fun J H1 => ∀ D, H1 D = none → ∃ W : Nat → Nat → Hp → Prop, (∃ m, W 0 m (upd H1 D (.lst []))) ∧ ∀ i m H, W i m H →
  (J.stop i H ∧ Q (.ref D) H) ∨ (J.go i H ∧ ∃ Nx : Hp → Prop, (∀ H', Nx H' → ∃ m', m' < m ∧ W (i + 1) m' H') ∧ ∀ x H', J.yld i H x H' → g x (wipe σ vs) H' fun σ2 H2 => wipe σ2 vs = wipe σ vs ∧ tt σ2 H2 fun b H3 =>
    if b = true then te σ2 H3 fun y H4 => ∃ acc, H4 D = some (.lst acc) ∧ acc.length < sizeLine ∧ Nx (upd H4 D (.lst (acc ++ [y]))) else Nx H3)
theorem lc_core {pins : List (Addr × Obj)} {s : Shared} {σ : St} {H : Hp} {Q : VK} {elt tg iter : Expr} {ifs : List Expr} {scope : Scope} {own : List (Str × Nat)} {pos pos' : Pos} {wi : TI} {g : TG} {tt : TT} {te : TE} {use : Option (Value → Sem Unit)} {Qf : Value → Shared → Prop}
    (hc : X.calm = true) (hN : X.N.Nodup) (I : Inv X pins σ H s) (hi : PI X tg iter wi) (ok : BlkOk X.N X.env.scope scope own)
    (hg : ∀ (s : Shared) (H : Hp) (C : Addr) (cl : List (Str × Addr)) (fp : List Addr), PG (X.blk s H scope (compEnvC scope cl C X.env) fp) tg g) (ht : ∀ (s : Shared) (H : Hp) (C : Addr) (cl : List (Str × Addr)) (fp : List Addr), PTs (X.blk s H scope (compEnvC scope cl C X.env) fp) ifs tt)
    (he : ∀ (s : Shared) (H : Hp) (C : Addr) (cl : List (Str × Addr)) (fp : List Addr), PE (X.blk s H scope (compEnvC scope cl C X.env) fp) elt te) (hs : ∀ x, foldedSetIterable iter X.env x = pure x)
    (h : tLc wi g tt te (own.map (·.2)) σ H Q)
    (hRR : ∀ D C s' m H', Inv X pins σ H' s' → Q (.ref D) H' → s'.heap.Ns C m → FpOk X pins H' C → compPost (model X.prog X.w) X.A X.xe use Qf (.ref D) C (.ok .next) s') :
    wpAny (model X.prog X.w) X.A (comprehension (.ListComp elt [⟨tg, iter, ifs, 0⟩] scope pos) scope X.env pos' (newList []) false (eval iter X.env) use) Qf X.xe s := by
  have hfree : ∀ y ∈ scope.names, y.2 = .free → ∃ c, X.env.cells.lookup y.1 = some c := fun y hy e => by
    rcases ok.free y hy e with k | k
    · exact I.ok.has _ (.inl k)
    · exact I.ok.has _ (.inr k)
  refine wpAny_comprehension_free (use := use) rfl hs (closure_ok hfree) ok.kind (fun y hy e => by rw [ok.uniq y hy, e])
    (thn (hi pins s σ H _ I h) fun xv s1 hx => thn hx fun itv s2 h2 => ?_)
  obtain ⟨it, fp, tn, J, H2, e, I2, T, st2, f2, q⟩ := h2
  subst e
  refine wpAny_newObj_type (newEnv_comp ?_) (by show 0 ≤ sizeLine; decide)
  generalize hD : s2.heap.objs.size = D
  have hDn : H2 D = none := I2.hok.fresh (Nat.le_of_eq hD)
  obtain ⟨W, ⟨m0, w0⟩, turn⟩ := q D hDn
  -- the new list
  generalize hs3 : ({ s2 with heap := s2.heap.push { cls := .type "list", data := .seq ([] : List Value).toArray } } : Shared) = s3
  have I3 : Inv X pins σ (upd H2 D (.lst [])) s3 := by
    rw [← hs3]
    refine I2.laid (t' := s2.toks) (fun b o e => Heap.get?_push_of_some _ e) (Nat.le_of_eq hD) ⟨Nat.zero_le _, [], 0, .nil, ?_⟩
    rw [← hD]
    exact Heap.get?_push_size _ rfl
  have h3 : s3.heap = s2.heap.push { cls := .type "list", data := .seq ([] : List Value).toArray } := by rw [← hs3]
  have sz : ∀ b ∈ fp, b < s2.heap.objs.size := fun b hb => by
    obtain ⟨o, e, _⟩ := T.obj _ _ st2 b hb
    exact Heap.lt_size e
  have f3 : ∀ b ∈ fp, FpOk X pins (upd H2 D (.lst [])) b ∧ b < s3.heap.objs.size := fun b hb => by
    have hlt := sz b hb
    refine ⟨⟨?_, (f2 b hb).2⟩, by rw [h3, Heap.size_push]; exact Nat.lt_succ_of_lt hlt⟩
    rw [upd_ne (by rw [← hD]; exact Nat.ne_of_lt hlt)]
    exact (f2 b hb).1
  have st3 : tn 0 s3.heap := T.keep _ _ _ st2 fun b _ o e => by rw [h3]; exact Heap.get?_push_of_some _ e
  have I4 := block_start I3 ok hN f3
  have pg := hg s3 (upd H2 D (.lst [])) s3.heap.objs.size (cellsFrom (s3.heap.objs.size + 1) scope.names (cloFrom X.env.cells scope.names [])) fp
  have pt := ht s3 (upd H2 D (.lst [])) s3.heap.objs.size (cellsFrom (s3.heap.objs.size + 1) scope.names (cloFrom X.env.cells scope.names [])) fp
  have pe := he s3 (upd H2 D (.lst [])) s3.heap.objs.size (cellsFrom (s3.heap.objs.size + 1) scope.names (cloFrom X.env.cells scope.names [])) fp
  show codeAny _ _ (.compStart (.ListComp elt [⟨tg, iter, ifs, 0⟩] scope pos) 0 (.ref it) (.ref D) (compEnvC scope (cellsFrom (s3.heap.objs.size + 1) scope.names (cloFrom X.env.cells scope.names [])) s3.heap.objs.size X.env)) (compPost (model X.prog X.w) X.A X.xe use Qf (.ref D) s3.heap.objs.size) { s3 with heap := pushCells (s3.heap.push { cls := .type "dict", data := .dict #[] }) scope.names }
  have nfp : ∀ b ∈ fp, (upd H2 D (.lst [])) b = none := fun b hb => (f3 b hb).1.1
  generalize hce : compEnvC scope (cellsFrom (s3.heap.objs.size + 1) scope.names (cloFrom X.env.cells scope.names [])) s3.heap.objs.size X.env = ce at I4 pg pt pe ⊢
  have cL : ce.locals = s3.heap.objs.size := by subst hce; rfl
  generalize hH3 : upd H2 D (.lst []) = H3 at I3 I4 pg pt pe w0 nfp f3
  generalize hs4 : ({ s3 with heap := pushCells (s3.heap.push { cls := .type "dict", data := .dict #[] }) scope.names } : Shared) = s4 at I4 ⊢
  have st4 : tn 0 s4.heap := T.keep _ _ _ st3 fun b _ o e => by rw [← hs4]; exact pushCells_keeps _ _ _ _ (Heap.get?_push_of_some _ e)
  have stat : ∀ {σ' : St} {H' : Hp} {s' : Shared}, Inv (X.blk s3 H3 scope ce fp) [] σ' H' s' → (∀ b ∈ fp, H' b = none) → ∀ b ∈ fp, FpOk (X.blk s3 H3 scope ce fp) [] H' b := fun {σ' H' s'} I' hn b hb =>
    ⟨hn b hb, (I'.ok.exf b hb).1, I'.ok.exfs b hb, .inl hb, fun x c e => (I'.ok.exf b hb).2 x c e, fun p hp => absurd (show p ∈ ([] : List (Addr × Obj)) ++ [] from hp) (by simp)⟩
  have loop : codeAny (model X.prog X.w) X.A (.compLoop (.ListComp elt [⟨tg, iter, ifs, 0⟩] scope pos) 0 (.ref it) (.ref D) ce) (compPost (model X.prog X.w) X.A X.xe use Qf (.ref D) s3.heap.objs.size) s4 := by
    refine compLoop_any (fun n s' => ∃ i H', Inv (X.blk s3 H3 scope ce fp) [] (wipe σ (own.map (·.2))) H' s' ∧ tn i s'.heap ∧ (∀ b ∈ fp, H' b = none) ∧ W i n H') ?_ m0 ⟨0, H3, I4, st4, nfp, w0⟩
    rintro n s5 ⟨i, H5, I5, st5, n5, w5⟩
    rcases turn i n H5 w5 with ⟨stop, qq⟩ | ⟨go, Nx, hNx, step⟩
    · have td := T.done (X.blk s3 H3 scope ce fp) rfl rfl rfl hc i [] s5 _ H5 (fun _ _ => False) I5 (stat I5 n5) st5 stop
      refine thnF td fun r s6 ⟨hr, I6⟩ => ?_
      subst hr
      -- back in the def's context
      have I7 : Inv X pins σ H5 s6 := I3.call' (ch := fp) I6.os I6.base I6.hok I6.bare fun b hb => ⟨(f3 b hb).1.2.2.2.1, (f3 b hb).1.2.1, (f3 b hb).1.2.2.2.2.1, (f3 b hb).1.2.2.2.2.2⟩
      have nC : H5 s3.heap.objs.size = none := by
        have z : H5 ce.locals = none := I6.free
        rw [cL] at z
        exact z
      obtain ⟨m, hn, _⟩ := I6.loc
      have hn : s6.heap.Ns ce.locals m := hn
      rw [cL] at hn
      exact hRR D s3.heap.objs.size s6 m H5 I7 qq hn (I3.fpOk (Nat.le_refl _) nC)
    · have ti := T.item (X.blk s3 H3 scope ce fp) rfl rfl rfl hc i [] s5 _ H5 (fun _ _ => False) I5 (stat I5 n5) st5 go
      refine thnF ti fun r s6 ⟨u, hr, h6⟩ => ?_
      subst hr
      refine thnF h6 fun _ s7 ⟨x, H7, I7, r7, y7, st7, n7⟩ => ?_
      have I7' := I7.pinned (stat I7 n7) (T.obj _ _ st7)
      refine thnF (pg _ s7 _ H7 x u _ I7' r7 (step x H7 y7)) fun _ s8 ⟨σ8, H8, I8, hw8, q8⟩ => ?_
      refine thnF (pt _ s8 σ8 H8 _ I8 q8) fun b s9 ⟨H9, I9, q9⟩ => ?_
      -- the turn's end
      have fin : ∀ {s' : Shared} {H' : Hp}, Inv (X.blk s3 H3 scope ce fp) ([] ++ pinsAt fp s7.heap) σ8 H' s' → Nx H' → ∃ m, m < n ∧ ∃ i H', Inv (X.blk s3 H3 scope ce fp) [] (wipe σ (own.map (·.2))) H' s' ∧ tn i s'.heap ∧ (∀ b ∈ fp, H' b = none) ∧ W i m H' := fun {s' H'} I' nx => by
        obtain ⟨m', hm, w'⟩ := hNx H' nx
        have pin' : ∀ b ∈ fp, ∀ o, s7.heap.get? b = some o → s'.heap.get? b = some o ∧ H' b = none := fun b hb o e =>
          let z := I'.pin (b, o) (List.mem_append_right _ (List.mem_append_right _ (mem_pinsAt hb e)))
          ⟨z.1, z.2.1⟩
        have hl : (wipe σ (own.map (·.2))).length = σ8.length := by rw [← hw8, wipe_length]
        refine ⟨m', hm, i + 1, H', (I'.unpinned (pins := [])).weak hl (fun j v e => ?_), T.keep _ _ _ st7 fun b hb o e => (pin' b hb o e).1, fun b hb => ?_, w'⟩
        · rw [← hw8] at e
          exact (wipe_some e).1
        · obtain ⟨o, e, _⟩ := T.obj _ _ st7 b hb
          exact (pin' b hb o e).2
      cases b with
      | false =>
        simp only [Bool.false_eq_true, if_false] at q9 ⊢
        exact fin I9 q9
      | true =>
        simp only [if_true] at q9 ⊢
        refine thnF (pe _ s9 σ8 H9 _ I9 q9) fun z s10 ⟨yv, H10, I10, r10, acc, hD10, hz10, nx⟩ => ?_
        exact app_ok (X := X.blk s3 H3 scope ce fp) I10 hD10 hz10 r10 fun s11 I11 => fin I11 nx
  exact codeAny_compStart_list loop (T.self X.A 0 _ _ _ st4 loop)
theorem pe_lc {elt tg iter : Expr} {ifs : List Expr} {scope : Scope} {own : List (Str × Nat)} {pos : Pos} {wi : TI} {g : TG} {tt : TT} {te : TE} (hc : X.calm = true) (hN : X.N.Nodup) (hi : PI X tg iter wi) (ok : BlkOk X.N X.env.scope scope own)
    (hg : ∀ (s : Shared) (H : Hp) (C : Addr) (cl : List (Str × Addr)) (fp : List Addr), PG (X.blk s H scope (compEnvC scope cl C X.env) fp) tg g) (ht : ∀ (s : Shared) (H : Hp) (C : Addr) (cl : List (Str × Addr)) (fp : List Addr), PTs (X.blk s H scope (compEnvC scope cl C X.env) fp) ifs tt)
    (he : ∀ (s : Shared) (H : Hp) (C : Addr) (cl : List (Str × Addr)) (fp : List Addr), PE (X.blk s H scope (compEnvC scope cl C X.env) fp) elt te) (hs : ∀ x, foldedSetIterable iter X.env x = pure x := by intro _; rfl) :
    PE X (.ListComp elt [⟨tg, iter, ifs, 0⟩] scope pos) (tLc wi g tt te (own.map (·.2))) := by
  intro pins s σ H Q I h
  rw [eval_ListComp]
  refine lc_core hc hN I hi ok hg ht he hs h fun D C s' m H' I' q hn f => ⟨m, hn, fun h'' sb => ?_⟩
  obtain ⟨f0, f1, f2, f3, f4, f5⟩ := f
  exact ⟨.ref D, H', I'.turned (t' := s'.toks) (fun b o hb e => (sb.2 b hb).trans e) f0 f1 f3 f4 f5, rfl, q⟩
theorem ps_setLc {i : Nat} {y : Str} {py : Pos} {elt tg iter : Expr} {ifs : List Expr} {scope : Scope} {own : List (Str × Nat)} {pos spos : Pos} {wi : TI} {g : TG} {tt : TT} {te : TE} (hc : X.calm = true) (hN : X.N.Nodup) (hy : X.N[i]? = some y) (hyl : X.env.scope.names.lookup y = some .local)
    (hsw : swapsWith (.ListComp elt [⟨tg, iter, ifs, 0⟩] scope pos) (some (.Name y py)) spos.line X.env = pure true) (hi : PI X tg iter wi) (ok : BlkOk X.N X.env.scope scope own)
    (hg : ∀ (s : Shared) (H : Hp) (C : Addr) (cl : List (Str × Addr)) (fp : List Addr), PG (X.blk s H scope (compEnvC scope cl C X.env) fp) tg g) (ht : ∀ (s : Shared) (H : Hp) (C : Addr) (cl : List (Str × Addr)) (fp : List Addr), PTs (X.blk s H scope (compEnvC scope cl C X.env) fp) ifs tt)
    (he : ∀ (s : Shared) (H : Hp) (C : Addr) (cl : List (Str × Addr)) (fp : List Addr), PE (X.blk s H scope (compEnvC scope cl C X.env) fp) elt te) (hs : ∀ x, foldedSetIterable iter X.env x = pure x := by intro _; rfl) :
    PS X (.Assign [.Name y py] (.ListComp elt [⟨tg, iter, ifs, 0⟩] scope pos) spos) (tAsg (tLc wi g tt te (own.map (·.2))) (gName i)) := by
  intro pins s σ H D I h
  rw [exec_Assign_Name_used _ _ _ _ hsw]
  refine wpAny_bind (wpAny_standAt (wpAny_bind ?_))
  show wpAny _ X.A (do let _ ← comprehension (.ListComp elt [⟨tg, iter, ifs, 0⟩] scope pos) scope X.env (firstIterPos [⟨tg, iter, ifs, 0⟩] pos) (newList []) false (eval iter X.env) (some (assign (.Name y py) X.env))) _ _ s
  have h : tLc wi g tt te (own.map (·.2)) σ H (fun x H1 => gName i x σ H1 D.nx) := h
  refine wpAny_bind (thn (lc_core (Qf := fun _ s' => SP X pins D .next s') hc hN I hi ok hg ht he hs h fun L C s' m H' I' q hn f => ?_) fun _ s' hq => wpAny_pure (wpAny_pure hq))
  show wpAny _ _ (assign (.Name y py) X.env (.ref L)) _ _ _
  refine wpAny_assign_Name (store_ok2 (v := V.ref L) I' hN hy (.inl hyl) rfl (fun s2 I2 ⟨a, sb, ha⟩ => ?_) (.inr hyl))
  obtain ⟨f0, f1, f2, f3, f4, f5⟩ := f
  have haC : C ≠ a := by
    rcases ha with z | z
    · rw [z]; exact f1
    · exact fun e => f4 y a z e.symm
  refine ⟨m, hn.sameBut sb haC, fun h3 sb3 => ?_⟩
  exact ⟨_, H', I2.turned (t' := s2.toks) (fun b o hb e => (sb3.2 b hb).trans e) f0 f1 f3 f4 f5, q⟩
theorem sw_true {elt : Expr} {gs : List Comprehension} {scope : Scope} {pos py : Pos} {y : Str} {l : Nat} {env : Env} (hk : env.scope.kind = .function) (hy : env.scope.names.lookup y = some .local) (hl : (py.line == pos.line) = true)
    (ha : (scope.names.any fun (n, k) => n == y && (k == .local || k == .cell)) = false) : swapsWith (.ListComp elt gs scope pos) (some (.Name y py)) l env = pure true := by
  have ky : env.kindOf y = some .local := hy
  have hb : env.blockKind = .function := by unfold Env.blockKind; rw [hk]; rfl
  unfold swapsWith
  simp only [hb, ky, ha, Expr.pos, hl]
  rfl
end
theorem lc_range {lo : Int} {n : Nat} {g : TG} {tt : TT} {te : TE} {vs : List Nat} {σ : St} {H1 : Hp} {D : Addr} {Qd : Hp → Prop} (Pv : Nat → Hp → Prop) (h0 : Pv 0 (upd H1 D (.lst [])))
    (hs : ∀ i H, i < n → Pv i H → g (.int (lo + i)) (wipe σ vs) H fun σ2 H2 => wipe σ2 vs = wipe σ vs ∧ tt σ2 H2 fun b H3 =>
      if b = true then te σ2 H3 fun y H4 => ∃ acc, H4 D = some (.lst acc) ∧ acc.length < sizeLine ∧ Pv (i + 1) (upd H4 D (.lst (acc ++ [y]))) else Pv (i + 1) H3) (hd : ∀ H, Pv n H → Qd H) :
    ∃ W : Nat → Nat → Hp → Prop, (∃ m, W 0 m (upd H1 D (.lst []))) ∧ ∀ i m H, W i m H →
      ((Itr lo n).stop i H ∧ Qd H) ∨ ((Itr lo n).go i H ∧ ∃ Nx : Hp → Prop, (∀ H', Nx H' → ∃ m', m' < m ∧ W (i + 1) m' H') ∧ ∀ x H', (Itr lo n).yld i H x H' → g x (wipe σ vs) H' fun σ2 H2 => wipe σ2 vs = wipe σ vs ∧ tt σ2 H2 fun b H3 =>
        if b = true then te σ2 H3 fun y H4 => ∃ acc, H4 D = some (.lst acc) ∧ acc.length < sizeLine ∧ Nx (upd H4 D (.lst (acc ++ [y]))) else Nx H3) := by
  refine ⟨fun i m H => m = n - i ∧ i ≤ n ∧ Pv i H, ⟨n, by simp, Nat.zero_le _, h0⟩, ?_⟩
  rintro i m H ⟨rfl, hi, p⟩
  by_cases hlt : i < n
  · refine .inr ⟨hlt, Pv (i + 1), fun H' p' => ⟨n - (i + 1), by omega, rfl, hlt, p'⟩, fun x H' y => ?_⟩
    obtain ⟨e, y⟩ := y
    subst e y
    exact hs i _ hlt p
  · have e : i = n := by omega
    subst e
    exact .inl ⟨Nat.le_refl _, hd H p⟩
theorem lc_list {K : PySem.W.Frag} {a : Addr} {xs : List V} {g : TG} {tt : TT} {te : TE} {vs : List Nat} {σ : St} {H1 : Hp} {D : Addr} {Qd : Hp → Prop} (Pv : Nat → Hp → Prop) (h0 : Pv 0 (upd H1 D (.lst []))) (hl : ∀ i H, i ≤ xs.length → Pv i H → SqL K H a xs)
    (hs : ∀ i x H, xs[i]? = some x → Pv i H → g x (wipe σ vs) H fun σ2 H2 => wipe σ2 vs = wipe σ vs ∧ tt σ2 H2 fun b H3 =>
      if b = true then te σ2 H3 fun y H4 => ∃ acc, H4 D = some (.lst acc) ∧ acc.length < sizeLine ∧ Pv (i + 1) (upd H4 D (.lst (acc ++ [y]))) else Pv (i + 1) H3) (hd : ∀ H, Pv xs.length H → Qd H) :
    ∃ W : Nat → Nat → Hp → Prop, (∃ m, W 0 m (upd H1 D (.lst []))) ∧ ∀ i m H, W i m H →
      ((Itl K a).stop i H ∧ Qd H) ∨ ((Itl K a).go i H ∧ ∃ Nx : Hp → Prop, (∀ H', Nx H' → ∃ m', m' < m ∧ W (i + 1) m' H') ∧ ∀ x H', (Itl K a).yld i H x H' → g x (wipe σ vs) H' fun σ2 H2 => wipe σ2 vs = wipe σ vs ∧ tt σ2 H2 fun b H3 =>
        if b = true then te σ2 H3 fun y H4 => ∃ acc, H4 D = some (.lst acc) ∧ acc.length < sizeLine ∧ Nx (upd H4 D (.lst (acc ++ [y]))) else Nx H3) := by
  refine ⟨fun i m H => m = xs.length - i ∧ i ≤ xs.length ∧ Pv i H, ⟨xs.length, by simp, Nat.zero_le _, h0⟩, ?_⟩
  rintro i m H ⟨rfl, hi, p⟩
  have q := hl i H hi p
  by_cases hlt : i < xs.length
  · refine .inr ⟨⟨xs, xs[i], q, by simp [hlt]⟩, Pv (i + 1), fun H' p' => ⟨xs.length - (i + 1), by omega, rfl, hlt, p'⟩, fun x H' y => ?_⟩
    obtain ⟨e, y⟩ := y
    subst e
    exact hs i x _ (y xs q) p
  · have e : i = xs.length := by omega
    subst e
    exact .inl ⟨⟨xs, q, Nat.le_refl _⟩, hd H p⟩
theorem lc_tup {K : PySem.W.Frag} {a : Addr} {xs : List V} {g : TG} {tt : TT} {te : TE} {vs : List Nat} {σ : St} {H1 : Hp} {D : Addr} {Qd : Hp → Prop} (Pv : Nat → Hp → Prop) (h0 : Pv 0 (upd H1 D (.lst []))) (hl : ∀ i H, i ≤ xs.length → Pv i H → SqT K H a xs)
    (hs : ∀ i x H, xs[i]? = some x → Pv i H → g x (wipe σ vs) H fun σ2 H2 => wipe σ2 vs = wipe σ vs ∧ tt σ2 H2 fun b H3 =>
      if b = true then te σ2 H3 fun y H4 => ∃ acc, H4 D = some (.lst acc) ∧ acc.length < sizeLine ∧ Pv (i + 1) (upd H4 D (.lst (acc ++ [y]))) else Pv (i + 1) H3) (hd : ∀ H, Pv xs.length H → Qd H) :
    ∃ W : Nat → Nat → Hp → Prop, (∃ m, W 0 m (upd H1 D (.lst []))) ∧ ∀ i m H, W i m H →
      ((Itt K a).stop i H ∧ Qd H) ∨ ((Itt K a).go i H ∧ ∃ Nx : Hp → Prop, (∀ H', Nx H' → ∃ m', m' < m ∧ W (i + 1) m' H') ∧ ∀ x H', (Itt K a).yld i H x H' → g x (wipe σ vs) H' fun σ2 H2 => wipe σ2 vs = wipe σ vs ∧ tt σ2 H2 fun b H3 =>
        if b = true then te σ2 H3 fun y H4 => ∃ acc, H4 D = some (.lst acc) ∧ acc.length < sizeLine ∧ Nx (upd H4 D (.lst (acc ++ [y]))) else Nx H3) := by
  refine ⟨fun i m H => m = xs.length - i ∧ i ≤ xs.length ∧ Pv i H, ⟨xs.length, by simp, Nat.zero_le _, h0⟩, ?_⟩
  rintro i m H ⟨rfl, hi, p⟩
  have q := hl i H hi p
  by_cases hlt : i < xs.length
  · refine .inr ⟨⟨xs, xs[i], q, by simp [hlt]⟩, Pv (i + 1), fun H' p' => ⟨xs.length - (i + 1), by omega, rfl, hlt, p'⟩, fun x H' y => ?_⟩
    obtain ⟨e, y⟩ := y
    subst e
    exact hs i x _ (y xs q) p
  · have e : i = xs.length := by omega
    subst e
    exact .inl ⟨⟨xs, q, Nat.le_refl _⟩, hd H p⟩
def blkC (N : List Str) (sc scope : Scope) (own : List (Str × Nat)) : Bool :=
  (match scope.kind with | .function => true | _ => false) && (scope.names.all fun y => decide (scope.names.lookup y.1 = some y.2)) && (own.all fun p => decide (N[p.2]? = some p.1)) &&
    (scope.names.all fun y => match y.2 with
      | .free => (match sc.names.lookup y.1 with | some .cell => true | some .free => true | _ => false)
      | .local => decide (y.1 ∈ own.map (·.1)) || decide (y.1 ∉ N)
      | .cell => decide (y.1 ∈ own.map (·.1)) || decide (y.1 ∉ N)
      | _ => true)
theorem blkOk_by {N : List Str} {sc scope : Scope} {own : List (Str × Nat)} (h : blkC N sc scope own = true) : BlkOk N sc scope own := by
  unfold blkC at h
  simp only [Bool.and_eq_true, List.all_eq_true, decide_eq_true_eq] at h
  obtain ⟨⟨⟨h1, h2⟩, h3⟩, h4⟩ := h
  refine ⟨?_, h2, h3, fun y hy e => ?_, fun y hy e => ?_⟩
  · split at h1
    · assumption
    · cases h1
  · have q := h4 y hy
    simp only [e] at q
    split at q <;> first | exact .inl (by assumption) | exact .inr (by assumption) | cases q
  · have q := h4 y hy
    rcases e with e | e <;> (simp only [e, Bool.or_eq_true, decide_eq_true_eq] at q; exact q)
end L2
namespace L2
open PySem PySem.Spec PyProof.Rows
section
variable {κ : Type} [DecidableEq κ]
def valV (kvs : List (κ × V)) (k : κ) : Option V := (kvs.find? fun kv => decide (kv.1 = k)).map (·.2)
def putK (kvs : List (κ × V)) (k : κ) (v : V) : List (κ × V) :=
  if (kvs.any fun kv => decide (kv.1 = k)) = true then kvs.map (fun kv => if kv.1 = k then (kv.1, v) else kv) else kvs ++ [(k, v)]
theorem valV_pos {p : κ × V} {r : List (κ × V)} {k : κ} (e : p.1 = k) : valV (p :: r) k = some p.2 := by simp [valV, List.find?_cons, e]
theorem valV_neg {p : κ × V} {r : List (κ × V)} {k : κ} (e : ¬ p.1 = k) : valV (p :: r) k = valV r k := by simp [valV, List.find?_cons, e]
theorem valV_any (k : κ) : ∀ kvs : List (κ × V), (kvs.any fun kv => decide (kv.1 = k)) = (valV kvs k).isSome
  | [] => rfl
  | p :: r => by
    rw [List.any_cons]
    by_cases e : p.1 = k
    · simp only [valV_pos e, decide_eq_true e, Bool.true_or, Option.isSome_some]
    · rw [valV_neg e, decide_eq_false e, Bool.false_or]; exact valV_any k r
theorem valV_map (k j : κ) (y : V) : ∀ kvs : List (κ × V), valV (kvs.map fun kv => if kv.1 = k then (kv.1, y) else kv) j = (valV kvs j).map fun x => if j = k then y else x
  | [] => rfl
  | p :: r => by
    have ih := valV_map k j y r
    rw [List.map_cons]
    by_cases h : p.1 = k
    · rw [if_pos h]
      by_cases e : p.1 = j
      · rw [valV_pos (p := (p.1, y)) e, valV_pos e, Option.map_some, if_pos (e.symm.trans h)]
      · rw [valV_neg (p := (p.1, y)) e, valV_neg e, ih]
    · rw [if_neg h]
      by_cases e : p.1 = j
      · rw [valV_pos (p := p) e, valV_pos e, Option.map_some, if_neg (fun z => h (e.trans z))]
      · rw [valV_neg (p := p) e, valV_neg e, ih]
theorem valV_snoc (k j : κ) (y : V) : ∀ kvs : List (κ × V), valV kvs k = none → valV (kvs ++ [(k, y)]) j = if j = k then some y else valV kvs j
  | [], _ => by
    by_cases e : k = j
    · rw [if_pos e.symm]; exact valV_pos (p := (k, y)) e
    · rw [if_neg (fun z => e z.symm)]; exact valV_neg (p := (k, y)) e
  | p :: r, hn => by
    rw [List.cons_append]
    have hk : ¬ p.1 = k := fun z => by rw [valV_pos z] at hn; cases hn
    rw [valV_neg hk] at hn
    have ih := valV_snoc k j y r hn
    by_cases e : p.1 = j
    · rw [valV_pos e, valV_pos e, if_neg (fun z => hk (e.trans z))]
    · rw [valV_neg e, valV_neg e, ih]
theorem valV_put (kvs : List (κ × V)) (k j : κ) (y : V) : valV (putK kvs k y) j = if j = k then some y else valV kvs j := by
  unfold putK
  by_cases a : (kvs.any fun kv => decide (kv.1 = k)) = true
  · rw [if_pos a, valV_map]
    rw [valV_any] at a
    by_cases e : j = k
    · obtain ⟨x, hx⟩ := Option.isSome_iff_exists.mp a
      rw [if_pos e, e, hx, Option.map_some, if_pos rfl]
    · rw [if_neg e]
      cases valV kvs j with
      | none => rfl
      | some x => rw [Option.map_some, if_neg e]
  · rw [if_neg a]
    refine valV_snoc k j y kvs ?_
    rw [valV_any] at a
    cases q : valV kvs k with
    | none => rfl
    | some x => rw [q] at a; exact (a rfl).elim
theorem length_putK (kvs : List (κ × V)) (k : κ) (v : V) : (putK kvs k v).length ≤ kvs.length + 1 := by
  unfold putK
  split
  · rw [List.length_map]; omega
  · rw [List.length_append, List.length_cons, List.length_nil]; omega
theorem RelO.isSome_eq {o : Option V} {u : Option Value} (r : RelO o u) : o.isSome = u.isSome := by
  cases o with
  | none => cases u with
    | none => rfl
    | some _ => exact (show False from r).elim
  | some _ => cases u with
    | none => exact (show False from r).elim
    | some _ => rfl
theorem KV.val {kvs : List (κ × V)} {vs : List (κ × Value)} (r : KV kvs vs) (k : κ) : RelO (valV kvs k) (valueAt vs k) := by
  unfold KV at r
  induction r with
  | nil => exact True.intro
  | @cons p q ps qs h t ih =>
    obtain ⟨h1, h2⟩ := h
    by_cases e : p.1 = k
    · have e' : q.1 = k := h1.symm.trans e
      have b : valueAt (q :: qs) k = some q.2 := by simp [valueAt, List.find?_cons, e']
      rw [valV_pos e, b]; exact h2
    · have e' : ¬ q.1 = k := fun z => e (h1.trans z)
      have b : valueAt (q :: qs) k = valueAt qs k := by simp [valueAt, List.find?_cons, e']
      rw [valV_neg e, b]; exact ih
theorem KV.any {kvs : List (κ × V)} {vs : List (κ × Value)} (r : KV kvs vs) (k : κ) : (kvs.any fun kv => decide (kv.1 = k)) = vs.any fun kv => decide (kv.1 = k) := by
  unfold KV at r
  induction r with
  | nil => rfl
  | cons h t ih => rw [List.any_cons, List.any_cons, ih, h.1]
theorem KV.repl {kvs : List (κ × V)} {vs : List (κ × Value)} (r : KV kvs vs) (k : κ) {y : V} {u : Value} (ry : RelV y u) :
    KV (kvs.map fun kv => if kv.1 = k then (kv.1, y) else kv) (vs.map fun kv => if kv.1 = k then (kv.1, u) else kv) := by
  unfold KV at r ⊢
  induction r with
  | nil => exact .nil
  | @cons p q ps qs h t ih =>
    rw [List.map_cons, List.map_cons]
    refine .cons ?_ ih
    obtain ⟨h1, h2⟩ := h
    by_cases e : p.1 = k
    · rw [if_pos e, if_pos (h1.symm.trans e)]; exact ⟨h1, ry⟩
    · rw [if_neg e, if_neg (fun z => e (h1.trans z))]; exact ⟨h1, h2⟩
theorem KV.put {kvs : List (κ × V)} {vs : List (κ × Value)} (r : KV kvs vs) (k : κ) {y : V} {u : Value} (ry : RelV y u) : KV (putK kvs k y) (stored vs k u) := by
  unfold putK stored
  rw [r.any k]
  by_cases e : (vs.any fun kv => decide (kv.1 = k)) = true
  · rw [if_pos e, if_pos e]; exact r.repl k ry
  · rw [if_neg e, if_neg e]; exact Paired.snoc r ⟨rfl, ry⟩
theorem KV.length {kvs : List (κ × V)} {vs : List (κ × Value)} (r : KV kvs vs) : kvs.length = vs.length := Paired.length r
end
theorem kV_is {P : Program} {w : World} {k : Key} {u : Value} (r : RelV (kV k) u) : (mixKind P w).is k u = true := by
  cases k with
  | inl i => obtain ⟨t, e⟩ := (show ∃ t, u = Value.int i t from r); subst e; exact mixKind_int P w i t
  | inr x => obtain ⟨t, e⟩ := (show ∃ t, u = Value.str x t from r); subst e; exact mixKind_str P w x t
theorem items_are {P : Program} {w : World} : ∀ {ks : List Key} {us : List Value}, Vals (ks.map kV) us → ItemsAre (mixKind P w) ks us
  | [], _, r => by rw [List.map_nil] at r; cases r; exact .nil
  | k :: ks, _, r => by
    rw [List.map_cons] at r
    cases r with
    | cons h t => exact .cons (kV_is h) (items_are t)
abbrev KT (H : Hp) : List (List Key × V) → List (List Key × Addr × Value) → Prop := Paired fun p q => p.1 = q.1 ∧ H q.2.1 = some (.tup (p.1.map kV)) ∧ RelV p.2 q.2.2
theorem KT.val {H : Hp} {kvs : List (List Key × V)} {xs : List (List Key × Addr × Value)} (r : KT H kvs xs) (k : List Key) : RelO (valV kvs k) ((atKey xs k).map (·.2)) := by
  induction r with
  | nil => exact True.intro
  | @cons p q ps qs h t ih =>
    obtain ⟨h1, _, h2⟩ := h
    by_cases e : p.1 = k
    · have e' : q.1 = k := h1.symm.trans e
      have b : atKey (q :: qs) k = some q.2 := by simp [atKey, List.find?_cons, e']
      rw [valV_pos e, b]; exact h2
    · have e' : ¬ q.1 = k := fun z => e (h1.trans z)
      have b : atKey (q :: qs) k = atKey qs k := by simp [atKey, List.find?_cons, e']
      rw [valV_neg e, b]; exact ih
theorem KT.repl {H : Hp} {kvs : List (List Key × V)} {xs : List (List Key × Addr × Value)} (r : KT H kvs xs) (k : List Key) {y : V} {u : Value} (ry : RelV y u) :
    KT H (kvs.map fun kv => if kv.1 = k then (kv.1, y) else kv) (xs.map (putAt k u)) := by
  induction r with
  | nil => exact .nil
  | @cons p q ps qs h t ih =>
    rw [List.map_cons, List.map_cons]
    refine .cons ?_ ih
    obtain ⟨h1, h2, h3⟩ := h
    unfold putAt
    by_cases e : p.1 = k
    · rw [if_pos e, if_pos (h1.symm.trans e)]; exact ⟨h1, h2, ry⟩
    · rw [if_neg e, if_neg (fun z => e (h1.trans z))]; exact ⟨h1, h2, h3⟩
theorem KT.put {H : Hp} {kvs : List (List Key × V)} {xs : List (List Key × Addr × Value)} (r : KT H kvs xs) (k : List Key) {b : Addr} {y : V} {u : Value} (hb : H b = some (.tup (k.map kV))) (ry : RelV y u) :
    KT H (putK kvs k y) (storedH xs k b u) := by
  have e : (kvs.any fun kv => decide (kv.1 = k)) = (atKey xs k).isSome := by
    rw [valV_any, (r.val k).isSome_eq, Option.isSome_map]
  unfold putK storedH
  rw [e]
  by_cases q : (atKey xs k).isSome = true
  · rw [if_pos q, if_pos q]; exact r.repl k ry
  · rw [if_neg q, if_neg q]; exact Paired.snoc r ⟨rfl, hb, ry⟩
theorem KT.keeps {H H' : Hp} {kvs : List (List Key × V)} {xs : List (List Key × Addr × Value)} (r : KT H kvs xs) (ht : ∀ b ys, H b = some (.tup ys) → H' b = some (.tup ys)) : KT H' kvs xs :=
  Paired.mapP r fun _ _ z => ⟨z.1, ht _ _ z.2.1, z.2.2⟩
section
variable {P : Program} {w : World} {H : Hp} {h : Heap} {a : Addr}
theorem rd_of {u : HO} (ok : HOk P w H h) (e : Rd H a u) : ObjOk P w H h a u := e.ok ok
theorem dk_rd {kvs : List (Key × V)} (ok : HOk P w H h) (e : Rd H a (.dK kvs)) : kvs.length ≤ sizeLine ∧ (a == sysModules) = false ∧ ∃ vs, KV kvs vs ∧ h.DictOf (mixKind P w) a vs :=
  show ObjOk P w H h a (.dK kvs) from rd_of ok e
theorem dk_of {kvs : List (Key × V)} (ok : HOk P w H h) (e : H a = some (.dK kvs)) : kvs.length ≤ sizeLine ∧ (a == sysModules) = false ∧ ∃ vs, KV kvs vs ∧ h.DictOf (mixKind P w) a vs := dk_rd ok (.inl e)
theorem key_of {ks : List Key} (ok : HOk P w H h) (e : H a = some (.tup (ks.map kV))) : (tupleKind (mixKind P w)).is h ks a := by
  obtain ⟨_, its, r, o, h1, h2, n, h3⟩ := (show ObjOk P w H h a (.tup (ks.map kV)) from ok a _ e)
  exact ⟨o, its.toArray, n, h1, h2, h3, by simpa using items_are r⟩
theorem dt_rd {kvs : List (List Key × V)} (ok : HOk P w H h) (e : Rd H a (.dT kvs)) : kvs.length ≤ sizeLine ∧ (a == sysModules) = false ∧
    ∃ xs, KT H kvs xs ∧ h.DictOfH (tupleKind (mixKind P w)) a xs := by
  obtain ⟨z, y, xs, r, o, es, ep, h1, h2, h3, h4, h5⟩ := (show ObjOk P w H h a (.dT kvs) from rd_of ok e)
  refine ⟨z, y, xs, r, o, es, ep, h1, h2, h3, h4, fun x hx => ?_, h5⟩
  have all : ∀ {l : List (List Key × V)} {m : List (List Key × Addr × Value)}, KT H l m → ∀ x ∈ m, (tupleKind (mixKind P w)).is h x.1 x.2.1 := by
    intro l m q
    induction q with
    | nil => intro x hx; exact nomatch hx
    | @cons p q ps qs hq t ih =>
      intro x hx
      rcases List.mem_cons.mp hx with e | hx
      · subst e
        exact key_of ok (by rw [← hq.1]; exact hq.2.1)
      · exact ih x hx
  exact all r x hx
theorem dt_of {kvs : List (List Key × V)} (ok : HOk P w H h) (e : H a = some (.dT kvs)) : kvs.length ≤ sizeLine ∧ (a == sysModules) = false ∧
    ∃ xs, KT H kvs xs ∧ h.DictOfH (tupleKind (mixKind P w)) a xs := dt_rd ok (.inl e)
end
def DGet (H : Hp) (a : Addr) (y : V) (r : Option V) : Prop :=
  (∃ kvs k, Rd H a (.dK kvs) ∧ y = kV k ∧ r = valV kvs k) ∨ ∃ kvs k b, Rd H a (.dT kvs) ∧ y = .ref b ∧ H b = some (.tup (k.map kV)) ∧ r = valV kvs k
def DPut (H : Hp) (a : Addr) (y v : V) (H' : Hp) : Prop :=
  (∃ kvs k, H a = some (.dK kvs) ∧ y = kV k ∧ kvs.length < sizeLine ∧ H' = upd H a (.dK (putK kvs k v))) ∨
  ∃ kvs k b, H a = some (.dT kvs) ∧ y = .ref b ∧ H b = some (.tup (k.map kV)) ∧ kvs.length < sizeLine ∧ H' = upd H a (.dT (putK kvs k v))
theorem DGet.t {H : Hp} {a b : Addr} {kvs : List (List Key × V)} {k : List Key} (e : H a = some (.dT kvs)) (eb : H b = some (.tup (k.map kV))) : DGet H a (.ref b) (valV kvs k) := .inr ⟨kvs, k, b, .inl e, rfl, eb, rfl⟩
theorem DPut.t {H : Hp} {a b : Addr} {kvs : List (List Key × V)} {k : List Key} {v : V} (e : H a = some (.dT kvs)) (eb : H b = some (.tup (k.map kV))) (hl : kvs.length < sizeLine) :
    DPut H a (.ref b) v (upd H a (.dT (putK kvs k v))) := .inr ⟨kvs, k, b, e, rfl, eb, hl, rfl⟩
section
variable {X : Cx} {pins : List (Addr × Obj)} {σ : St} {H : Hp} {s : Shared} {a : Addr} {y v : V} {u r : Value} {o : Option V} {A : Around} {E : Value → Shared → Prop}
theorem Inv.big (I : Inv X pins σ H s) : sysModules < s.heap.objs.size := by
  have h : mainGlobals < s.heap.objs.size := (I.mod.glob.keeps I.bk).lt
  exact Nat.lt_trans (by decide) h
theorem d_getItem {Q : Value → Shared → Prop} (hu : A.units + 1 < cLine) (I : Inv X pins σ H s) (g : DGet H a y (some v)) (ry : RelV y u) (h : ∀ w' s', Inv X pins σ H s' → RelV v w' → Q w' s') :
    wpAny (model X.prog X.w) A (getItem (.ref a) u) Q E s := by
  rcases g with ⟨kvs, k, e, ey, l⟩ | ⟨kvs, k, b, e, ey, eb, l⟩
  · subst ey
    obtain ⟨z, hd, vs, rel, dd⟩ := dk_rd I.hok e
    obtain ⟨w', hw, rw'⟩ := RelO.some_of (v := v) (o := valueAt vs k) (by rw [l]; exact rel.val k)
    exact wpAny_getItem_of (kV_is ry) dd.mapOf hw (h w' _ (I.tok _) rw')
  · subst ey
    cases (show u = Value.ref b from ry)
    obtain ⟨z, hd, xs, rel, dd⟩ := dt_rd I.hok e
    obtain ⟨w', hw, rw'⟩ := RelO.some_of (v := v) (o := (atKey xs k).map (·.2)) (by rw [l]; exact rel.val k)
    obtain ⟨p, hp, hp2⟩ := Option.map_eq_some_iff.mp hw
    refine wpAny_getItem_heap (tupleKind_room_in1 hu) (key_of I.hok eb) dd hp ?_
    rw [hp2]
    exact h w' _ (I.tok _) rw'
theorem d_write {h' : Heap} {t' : Nat} {ob : HO} (I : Inv X pins σ H s) (mu : Mut (H a)) (hs : Heap.SameBut a s.heap h') (he : ∃ q, h'.get? a = some q) (new : ObjOk X.prog X.w (upd H a ob) h' a ob) :
    Inv X pins σ (upd H a ob) { s with heap := h', toks := t' } :=
  I.write (x := a) (e := a) mu (.inl rfl) (fun b q hb z => (hs.2 b hb).trans z) he new
theorem dk_new {P : Program} {w : World} {H' : Hp} {h' : Heap} {kvs : List (Key × V)} {vs : List (Key × Value)} (z : kvs.length ≤ sizeLine) (hd : (a == sysModules) = false) (rel : KV kvs vs) (dd : h'.DictOf (mixKind P w) a vs) :
    ObjOk P w H' h' a (.dK kvs) := ⟨z, hd, vs, rel, dd⟩
theorem d_setItem {H' : Hp} {Q : Unit → Shared → Prop} (hu : A.units + 1 < cLine) (I : Inv X pins σ H s) (g : DPut H a y v H') (ry : RelV y u) (rv : RelV v r) (h : ∀ s', Inv X pins σ H' s' → Q () s') :
    wpAny (model X.prog X.w) A (setItem (.ref a) u r) Q E s := by
  rcases g with ⟨kvs, k, e, ey, l, eH⟩ | ⟨kvs, k, b, e, ey, eb, l, eH⟩
  · subst ey eH
    obtain ⟨z, hd, vs, rel, dd⟩ := dk_of I.hok e
    have hz : vs.length ≤ sizeLine := by rw [← rel.length]; exact z
    have hl : (putK kvs k v).length ≤ sizeLine := by have := length_putK kvs k v; omega
    refine wpAny_setItem_pairs (hsz := hz) (kV_is ry) dd fun h' dd' hs => h _ ?_
    have he : ∃ q, h'.get? a = some q := let ⟨q, _, _, hq, _⟩ := dd'; ⟨q, hq⟩
    exact d_write I (by rw [e]; exact True.intro) hs he (dk_new hl hd (rel.put k rv) dd')
  · subst ey eH
    cases (show u = Value.ref b from ry)
    obtain ⟨z, hd, xs, rel, dd⟩ := dt_of I.hok e
    have hz : xs.length ≤ sizeLine := by rw [← Paired.length rel]; exact z
    have hl : (putK kvs k v).length ≤ sizeLine := by have := length_putK kvs k v; omega
    refine wpAny_setItem_heap (hsz := hz) (tupleKind_room_in1 hu) (key_of I.hok eb) dd fun h' dd' hs => h _ ?_
    obtain ⟨q, es, ep, hq, h2, h3, h4, _, h5⟩ := dd'
    refine d_write I (by rw [e]; exact True.intro) hs ⟨q, hq⟩ ⟨hl, hd, _, (rel.put k eb rv).keeps fun c ys ec => ?_, q, es, ep, hq, h2, h3, h4, h5⟩
    rw [upd_ne (ne_of ec e (fun z => nomatch z))]
    exact ec
end
def NoSl (i : Expr) : Prop := ∀ ov iv, subscripted i false ov iv = operate [ov, iv] (getItem ov iv)
theorem subD_of {prog : Program} {w : World} {A : Around} {E : Value → Shared → Prop} {s : Shared} {env : Env} {value slice : Expr} {pos : Pos} {T id : String} {Q : Value → Shared → Prop}
    (hl : typeLookup (.type T) "__getitem__" = pure (some (.builtin id))) (hs : NoSl slice)
    (h : wpAny (model prog w) A (eval value env) (fun o s₁ => wpAny (model prog w) A (eval slice env) (fun i s₂ => s₂.TypeIs o T ∧ wpAny (model prog w) A (getItem o i) Q E s₂) E s₁) E s) :
    wpAny (model prog w) A (eval (.Subscript value slice pos) env) Q E s := by
  refine Subscript_ (wpAny_mono h (fun o s₁ h₁ => wpAny_mono h₁ (fun i s₂ h₂ => ?_) fun _ _ x => x) fun _ _ x => x)
  obtain ⟨hT, h₂⟩ := h₂
  unfold subscriptTail
  refine wpAny_bind ?_
  rw [getitemInPython_of_ne hT.not_modules]
  refine wpAny_bind (wpAny_specialOf hT hl ?_)
  have fin : wpAny (model prog w) A (subscripted slice false o i) (fun r s₃ => wpAny (model prog w) A (letTemporaryGo value o r >>= fun _ => pure r) Q E s₃) E s₂ := by
    rw [hs o i]
    exact wpAny_operating (wpAny_mono h₂ (fun r s₃ h₃ => wpAny_bind (wpAny_letTemporaryGo (wpAny_pure h₃))) fun _ _ x => x)
  first
    | exact wpAny_pure (wpAny_bind fin)
    | exact wpAny_bind (wpAny_pure (wpAny_bind fin))
    | exact wpAny_bind fin
theorem dict_typeIs {X : Cx} {pins : List (Addr × Obj)} {σ : St} {H : Hp} {s : Shared} {a : Addr} {y : V} {o : Option V} (I : Inv X pins σ H s) (g : DGet H a y o) : s.TypeIs (.ref a) "dict" := by
  rcases g with ⟨kvs, k, e, _, _⟩ | ⟨kvs, k, b, e, _, _, _⟩
  · obtain ⟨_, _, vs, _, dd⟩ := dk_rd I.hok e
    exact dd.typeIs
  · obtain ⟨_, _, xs, _, dd⟩ := dt_rd I.hok e
    exact dd.typeIs
def tDGet (td ty : TE) : TE := fun σ H Q => td σ H fun x H1 => ty σ H1 fun y H2 => ∃ a v, x = .ref a ∧ DGet H2 a y (some v) ∧ Q v H2
def sDPut (td ty tv : TE) : TS := fun D σ H => tv σ H fun v H1 => td σ H1 fun x H2 => ty σ H2 fun y H3 => ∃ a H4, x = .ref a ∧ DPut H3 a y v H4 ∧ D.nx σ H4
section
variable {X : Cx} {o i e value : Expr} {pos pos' tpos : Pos} {td ty tv : TE}
theorem pe_dget (hu : X.A.units + 1 < cLine) (ho : PE X o td) (hi : PE X i ty) (hs : NoSl i) : PE X (.Subscript o i pos) (tDGet td ty) := by
  intro pins s σ H Q I h
  refine subD_of PySem.F.slot_dict_getitem.lookup hs (thn (ho pins s σ H _ I h) fun u s1 ⟨x, H1, I1, rx, q1⟩ => thn (hi pins s1 σ H1 _ I1 q1) fun iv s2 ⟨y, H2, I2, ry, a, v, ex, g, q2⟩ => ?_)
  subst ex
  obtain rfl : u = Value.ref a := rx
  exact ⟨dict_typeIs I2 g, d_getItem hu I2 g ry fun w' s3 I3 rw' => ⟨v, H2, I3, rw', q2⟩⟩
theorem ps_dput (hu : X.A.units + 1 < cLine) (ho : PE X o td) (hi : PE X i ty) (hv : PE X value tv) (hs : swapsWith value (some (.Subscript o i pos')) pos.line X.env = pure false) :
    PS X (.Assign [.Subscript o i pos'] value pos) (sDPut td ty tv) := by
  intro pins s σ H D I h
  refine wpAny_Assign_Subscript (thn (hv pins s σ H _ I h) fun r s1 ⟨v, H1, I1, rv, q1⟩ => thn (ho pins s1 σ H1 _ I1 q1) fun u s2 ⟨x, H2, I2, rx, q2⟩ => thn (hi pins s2 σ H2 _ I2 q2) fun iv s3 ⟨y, H3, I3, ry, a, H4, ex, g, q3⟩ => ?_) hs
  subst ex
  obtain rfl : u = Value.ref a := rx
  exact d_setItem hu I3 g ry rv fun s4 I4 => ⟨σ, H4, I4, q3⟩
end
theorem dt_empty {P : Program} {w : World} {H : Hp} (h : Heap) (hb : sysModules < h.objs.size) : ObjOk P w H (h.push { cls := .type "dict", data := .dict #[] }) h.objs.size (.dT []) :=
  ⟨Nat.zero_le _, beq_eq_false_iff_ne.mpr (Ne.symm (Nat.ne_of_lt hb)), [], .nil, _, #[], 0, Heap.get?_push_size _ rfl, ⟨rfl, rfl, rfl⟩, rfl, rfl, List.nodup_nil⟩
def tDNewT : TE := fun _ H Q => ∀ p, H p = none → Q (.ref p) (upd H p (.dT []))
section
variable {X : Cx} {pos : Pos}
theorem pe_dnewT : PE X (.Dict [] [] pos) tDNewT := fun pins s σ H Q I h =>
  wpAny_Dict_empty ⟨.ref s.heap.objs.size, _, I.laid (a := s.heap.objs.size) (o := .dT []) (t' := s.toks) (fun _ _ q => Heap.get?_push_of_some _ q) (Nat.le_refl _) (dt_empty s.heap I.big), rfl, h _ (I.hok.fresh (Nat.le_refl _))⟩
end
end L2
namespace L2
open PySem PySem.Spec PyProof.Rows
section
variable {X : Cx} {pins : List (Addr × Obj)} {σ : St} {H : Hp} {s : Shared} {h' : Heap}
theorem Inv.turnedL {t' : Nat} {ch : List Addr} (I : Inv X pins σ H s) (k : ∀ b o, b ∉ ch → s.heap.get? b = some o → h'.get? b = some o) (hf : ∀ b ∈ ch, FpOk X pins H b) : Inv X pins σ H { s with heap := h', toks := t' } := by
  have nit : ∀ b u, H b = some u → b ∉ ch := fun b u e z => by
    have q := (hf b z).1
    rw [q] at e; cases e
  refine I.step (g' := s.gens) (d' := s.drawn) (ch := ch) (fun b hb => ⟨(hf b hb).2.2.2.1, (hf b hb).2.1, (hf b hb).2.2.2.2.1, (hf b hb).2.2.2.2.2⟩) (fun b o _ _ hc e _ => k b o hc e) (fun b o _ _ hc e _ => ⟨o.slots, k b o hc e⟩)
    (fun _ _ _ _ n => n) (fun b o hc e => ⟨o, k b o hc e⟩) (fun _ _ e => e) (fun _ _ _ e => e) (fun b ps e => ⟨#[], by rw [e]; simp⟩) (fun m hm => ?_) (fun b u e => ?_) I.bare
  · obtain ⟨o, es, ep, ho, r⟩ := hm
    exact ⟨o, es, ep, k _ o (fun z => (hf _ z).2.1 rfl) ho, r⟩
  · refine (I.hok b u e).stay (fun c v hc q => k c v ?_ q) (fun _ q => q) fun _ _ q => q
    rcases hc with z | z
    · rw [z]; exact nit b u e
    · exact nit c _ z
theorem Inv.turnedNew {t' : Nat} {ch : List Addr} {T : Addr} {ob : HO} (I : Inv X pins σ H s) (k : ∀ b o, b ∉ ch → s.heap.get? b = some o → h'.get? b = some o) (hf : ∀ b ∈ ch, FpOk X pins H b) (hT : s.heap.objs.size ≤ T)
    (new : ObjOk X.prog X.w (upd H T ob) h' T ob) : Inv X pins σ (upd H T ob) { s with heap := h', toks := t' } := by
  have hn : H T = none := I.hok.fresh hT
  have nit : ∀ b u, H b = some u → b ∉ ch := fun b u e z => by
    have q := (hf b z).1
    rw [q] at e; cases e
  refine I.step (g' := s.gens) (d' := s.drawn) (ch := ch) (fun b hb => ⟨(hf b hb).2.2.2.1, (hf b hb).2.1, (hf b hb).2.2.2.2.1, (hf b hb).2.2.2.2.2⟩) (fun b o _ _ hc e _ => k b o hc e) (fun b o _ _ hc e _ => ⟨o.slots, k b o hc e⟩)
    (fun b o _ e n => ?_) (fun b o hc e => ⟨o, k b o hc e⟩) (fun b xs e => ?_) (fun b o u e => ?_) (fun b ps e => ⟨#[], ?_⟩) (fun m hm => ?_) (fun b u e => ?_) I.bare
  · rw [upd_ne (Nat.ne_of_lt (Nat.lt_of_lt_of_le (Heap.lt_size e) hT))]; exact n
  · rw [upd_ne (ne_of_none e hn)]; exact e
  · rw [upd_ne (ne_of_none e hn)]; exact e
  · rw [upd_ne (ne_of_none e hn), e]; simp
  · obtain ⟨o, es, ep, ho, r⟩ := hm
    exact ⟨o, es, ep, k _ o (fun z => (hf _ z).2.1 rfl) ho, r⟩
  · by_cases hb : b = T
    · subst hb
      rw [upd_same] at e
      cases e
      exact new
    · rw [upd_ne hb] at e
      refine (I.hok b u e).stay (fun c v hc q => k c v ?_ q) (fun c q => by rw [upd_ne (ne_of_none q hn)]; exact q) fun c xs q => by rw [upd_ne (ne_of_none q hn)]; exact q
      rcases hc with z | z
      · rw [z]; exact nit b u e
      · exact nit c _ z
end
section
variable {X : Cx}
theorem pi_one {tg : Expr} {pins : List (Addr × Obj)} {σ : St} {H : Hp} {s : Shared} {R : It → Hp → Prop} {J : It} {tn : Nat → Heap → Prop} {tk : Nat} (I : Inv X pins σ H s) (o : Obj)
    (T : Turn X.prog X.w X.K tg J [s.heap.objs.size] s.heap.objs.size tn) (st : tn 0 (s.heap.push o)) (q : R J H) : PIE X pins σ tg R (.ref s.heap.objs.size) { s with heap := s.heap.push o, toks := tk } := by
  refine ⟨s.heap.objs.size, [s.heap.objs.size], tn, J, H, rfl, I.kept fun b ob e => Heap.get?_push_of_some _ e, T, st, fun b hb => ?_, q⟩
  have e : b = s.heap.objs.size := by simpa using hb
  subst e
  exact I.fpOk (Nat.le_refl _) (I.hok.fresh (Nat.le_refl _))
end
def Its (x : Str) : It := ⟨fun i _ => i < x.cps.size, fun i H v H' => H' = H ∧ ∃ c, x.cps[i]? = some c ∧ v = .str ⟨#[c]⟩, fun i _ => x.cps.size ≤ i⟩
theorem turn_str {P : Program} {w : World} {K : PySem.W.Frag} {tg : Expr} (it : Addr) (x : Str) (t : Tok) (ty : String) (hty : ty = "str_ascii_iterator" ∨ ty = "str_iterator") :
    Turn P w K tg (Its x) [it] it (fun i h => h.IsStrIter it ty x t i) where
  mem := by simp
  obj := fun i h st b hb => by
    have e : b = it := by simpa using hb
    subst e
    obtain ⟨o, e, c, d⟩ := st
    exact ⟨o, e, fun v z => by rw [d] at z; cases z⟩
  keep := fun i h h' st k => let ⟨o, ho, r⟩ := st; ⟨o, k it (by simp) o ho, r⟩
  item := by
    intro X hP hw hK hc i pins s σ H E I hf st hg
    subst hP hw hK
    obtain ⟨f0, f1, f2, f3, f4, f5⟩ := hf it (by simp)
    have W : Walks X.prog X.w X.A it [it] [it] x.cps.size (SignAt x) (fun i h => h.IsStrIter it ty x t i) := by
      rcases hty with e | e
      · rw [e]; exact Walks.strAscii (I.ok.hd hc) it x t
      · rw [e]; exact Walks.strWide (I.ok.hd hc) it x t
    have hno : ["enumerate", "zip", "dict_itemiterator", "dict_reverseitemiterator", "odict_iterator", "itertools.zip_longest", "itertools.pairwise"].contains ty = false := by
      rcases hty with e | e
      · rw [e]; decide
      · rw [e]; decide
    refine W.item i s _ _ hg st fun v h' tk hv st' kk => ?_
    obtain ⟨c, u, hcx, rfl⟩ := hv
    have I1 : Inv X pins σ H { s with heap := h', toks := tk } := I.turned (fun b o hb e => kk b o (by simpa using hb) e) f0 f1 f3 f4 f5
    obtain ⟨oi, e, cc, dd⟩ := id st'
    exact ⟨_, rfl, go_of (s := { s with heap := h', toks := tk }) e cc dd hno ⟨.str ⟨#[c]⟩, H, I1, ⟨u, rfl⟩, ⟨rfl, c, hcx, rfl⟩, st', fun b hb => (hf b hb).1⟩⟩
  done := by
    intro X hP hw hK hc i pins s σ H E I hf st hg
    subst hP hw hK
    obtain ⟨f0, f1, f2, f3, f4, f5⟩ := hf it (by simp)
    have hx : x.cps[i]? = none := Array.getElem?_eq_none hg
    rcases hty with e | e
    · rw [e] at st
      exact wpAny_pyNext_ascii_end (I.ok.hd hc) st hx fun h' eb => ⟨rfl, I.turned (t' := s.toks) (fun b o hb e => eb b o hb e) f0 f1 f3 f4 f5⟩
    · rw [e] at st
      exact wpAny_pyNext_wide_end (I.ok.hd hc) st hx fun h' eb => ⟨rfl, I.turned (t' := s.toks) (fun b o hb e => eb b o hb e) f0 f1 f3 f4 f5⟩
  self := fun A i s Q E st h => by
    rcases hty with e | e
    · rw [e] at st; exact wpAny_pyIter_striter_ascii st h
    · rw [e] at st; exact wpAny_pyIter_striter_wide st h
def iStr (te : TE) : TI := fun σ H R => te σ H fun v H1 => ∃ x, v = .str x ∧ R (Its x) H1
theorem pi_str {X : Cx} {tg e : Expr} {te : TE} (he : PE X e te) : PI X tg e (iStr te) := by
  intro pins s σ H R I h
  refine thn (he pins s σ H _ I h) fun v s1 ⟨y, H1, I1, r1, x, ex, q⟩ => ?_
  subst ex
  obtain ⟨t, rfl⟩ := r1
  cases ha : x.cps.all (· < 128)
  · exact wpAny_pyIter_wide ha (pi_one (tk := s1.toks) I1 _ (turn_str _ x t "str_iterator" (.inr rfl)) ⟨_, Heap.get?_push_size _ rfl, rfl, rfl⟩ q)
  · exact wpAny_pyIter_ascii ha (pi_one (tk := s1.toks) I1 _ (turn_str _ x t "str_ascii_iterator" (.inl rfl)) ⟨_, Heap.get?_push_size _ rfl, rfl, rfl⟩ q)
def Ite (K : PySem.W.Frag) (a : Addr) : It :=
  ⟨fun i H => ∃ (xs : List V) (x : V), SqL K H a xs ∧ xs[i]? = some x, fun i H v H' => ∃ T x, v = .ref T ∧ H T = none ∧ H' = upd H T (.tup [.int (i : Nat), x]) ∧ ∀ xs, SqL K H a xs → xs[i]? = some x, fun i H => ∃ xs : List V, SqL K H a xs ∧ xs.length ≤ i⟩
theorem turn_enum {P : Program} {w : World} {K : PySem.W.Frag} {elts : List Expr} {kk : Nat} {tpos : Pos} (a e it : Addr) :
    Turn P w K (.Tuple elts kk tpos) (Ite K a) [e, it] e (fun i h => (∃ old, IsEnum h e it ((i : Nat) : Int) old) ∧ h.IsListIter it a i ∧ e ≠ it) where
  mem := by simp
  obj := fun i h st b hb => by
    obtain ⟨⟨old, he⟩, ⟨o, ho, hc, hd⟩, _⟩ := st
    have e' : b = e ∨ b = it := by simpa using hb
    rcases e' with z | z
    · rw [z]; exact ⟨_, he, fun v q => nomatch q⟩
    · rw [z]; exact ⟨o, ho, fun v q => by rw [hd] at q; cases q⟩
  keep := fun i h h' st k => let ⟨⟨old, he⟩, hi, hne⟩ := st; ⟨⟨old, k e (by simp) _ he⟩, hi.at fun o q => k it (by simp) o q, hne⟩
  item := by
    intro X hP hw hK hc i pins s σ H E I hf st hg
    subst hP hw hK
    obtain ⟨⟨old, he⟩, hit, hne⟩ := st
    obtain ⟨xs, x, hq, hx⟩ := hg
    obtain ⟨its, rv, p, hz⟩ := I.list hq
    obtain ⟨u, hu, ru⟩ := rv.get hx
    have hel : e < s.heap.objs.size := Heap.lt_size he
    have hil : it < s.heap.objs.size := by obtain ⟨_, q, _⟩ := hit; exact Heap.lt_size q
    refine wpAny_pyNext_enum_item he hit p.isList (x := u) (by simpa using hu) hne fun h' ho hit' hT hsz hk => ?_
    refine ⟨_, rfl, wpAny_letOwnedTupleGo_enum (s := { s with heap := h', toks := s.toks + 1 }) ho fun h'' he' sb => ?_⟩
    have hT2 : h''.get? s.heap.objs.size = some { cls := .type "tuple", data := .seq #[.int i s.toks, u] } := (sb.2 _ (Nat.ne_of_gt hel)).trans hT
    have new : ObjOk X.prog X.w (upd H s.heap.objs.size (.tup [.int (i : Nat), x])) h'' s.heap.objs.size (.tup [.int (i : Nat), x]) :=
      ⟨by show 2 ≤ sizeLine; decide, [.int i s.toks, u], .cons ⟨_, rfl⟩ (.cons ru .nil), ⟨_, hT2, rfl, _, rfl⟩⟩
    have I1 : Inv X pins σ (upd H s.heap.objs.size (.tup [.int (i : Nat), x])) { s with heap := h'', toks := s.toks + 1 } :=
      I.turnedNew (ch := [e, it]) (fun b ob hb q => (sb.2 b (fun z => hb (by simp [z]))).trans (hk b ob (fun z => hb (by simp [z])) (fun z => hb (by simp [z])) q)) hf (Nat.le_refl _) new
    refine ⟨.ref s.heap.objs.size, _, I1, rfl, ⟨_, x, rfl, I.hok.fresh (Nat.le_refl _), rfl, fun ys hy => by rw [I.list_inj hy hq]; exact hx⟩, ⟨⟨u, ?_⟩, hit'.at fun o q => (sb.2 it (Ne.symm hne)).trans q, hne⟩, fun b hb => ?_⟩
    · have e1 : ((i + 1 : Nat) : Int) = (i : Int) + 1 := by omega
      rw [e1]; exact he'
    · have hb' : b < s.heap.objs.size := by
        have e' : b = e ∨ b = it := by simpa using hb
        rcases e' with z | z
        · rw [z]; exact hel
        · rw [z]; exact hil
      rw [upd_ne (Nat.ne_of_lt hb')]
      exact (hf b hb).1
  done := by
    intro X hP hw hK hc i pins s σ H E I hf st hg
    subst hP hw hK
    obtain ⟨⟨old, he⟩, hit, hne⟩ := st
    obtain ⟨xs, hq, hx⟩ := hg
    obtain ⟨its, rv, p, hz⟩ := I.list hq
    obtain ⟨f0, f1, f2, f3, f4, f5⟩ := hf it (by simp)
    have hl := rv.length
    exact wpAny_pyNext_enum_end (I.ok.hd hc) he hit p.isList (by simp; omega) fun h' eb => ⟨rfl, I.turned (t' := s.toks) (fun b o hb q => eb b o hb q) f0 f1 f3 f4 f5⟩
  self := fun A i s Q E st h => let ⟨⟨_, he⟩, _⟩ := st; wpAny_pyIter_enum he h
def iEnum (K : PySem.W.Frag) (ta : TA) : TI := fun σ H R => ta σ H fun vs H1 => ∃ a xs, vs = [.ref a] ∧ SqL K H1 a xs ∧ R (Ite K a) H1
theorem pi_enum {X : Cx} {e : Expr} {ta : TA} {p pos tpos : Pos} {elts : List Expr} {kk : Nat} (hg : Gl X "enumerate") (hm : X.mg "enumerate" = none) (ha : PA X [e] ta) (hs : starEach [e] X.env = [(false, eval e X.env)] := by rfl) :
    PI X (.Tuple elts kk tpos) (.Call (.Name "enumerate" p) [e] [] pos) (iEnum X.K ta) := by
  intro pins s σ H R I h
  refine Call_ (ld_blt I hg hm boot_enumerate (PyProof.Rows.callWith_type1 (thn (ha pos pins s σ H _ I h) fun us s1 ⟨vs, H1, I1, r1, q1⟩ => ?_) hs rfl))
  obtain ⟨a, xs, ex, hq, q⟩ := q1
  subst ex
  cases r1 with
  | cons r rr =>
    cases rr
    cases r
    obtain ⟨its, rv, p', hz⟩ := I1.list hq
    refine call_enumerate_list p'.isList fun h' he hit hsz hk => wpAny_pyIter_enum he ?_
    have I2 : Inv X pins σ H1 { s1 with heap := h' } := I1.kept (t' := s1.toks) hk
    refine ⟨s1.heap.objs.size + 1, [s1.heap.objs.size + 1, s1.heap.objs.size], _, _, H1, rfl, I2, turn_enum a (s1.heap.objs.size + 1) s1.heap.objs.size, ⟨⟨.none, he⟩, hit, Nat.succ_ne_self _⟩, fun b hb => ?_, q⟩
    have e' : b = s1.heap.objs.size + 1 ∨ b = s1.heap.objs.size := by simpa using hb
    have hle : s1.heap.objs.size ≤ b := by
      rcases e' with z | z
      · rw [z]; exact Nat.le_add_right _ _
      · rw [z]; exact Nat.le_refl _
    exact I1.fpOk hle (I1.hok.fresh hle)
theorem boot_zip5 : bootBuiltins "zip" = some (.type "zip") := by decide +kernel
def Itz (K : PySem.W.Frag) (a b : Addr) : It :=
  ⟨fun i H => ∃ (xs ys : List V) (x y : V), SqL K H a xs ∧ SqL K H b ys ∧ xs[i]? = some x ∧ ys[i]? = some y,
    fun i H v H' => ∃ T x y, v = .ref T ∧ H T = none ∧ H' = upd H T (.tup [x, y]) ∧ (∀ xs, SqL K H a xs → xs[i]? = some x) ∧ ∀ ys, SqL K H b ys → ys[i]? = some y,
    fun i H => ∃ xs ys : List V, SqL K H a xs ∧ SqL K H b ys ∧ (xs.length ≤ i ∨ ys.length ≤ i)⟩
theorem turn_zip {P : Program} {w : World} {K : PySem.W.Frag} {elts : List Expr} {kk : Nat} {tpos : Pos} {a b z TI TO i1 i2 : Addr} (D : ZipApart z TI TO i1 i2 a b) :
    Turn P w K (.Tuple elts kk tpos) (Itz K a b) [z, TI, TO, i1, i2] z (fun i h => IsZip h z TI TO .none ∧ IsPair h TI (.ref i1) (.ref i2) ∧ (∃ x y, IsPair h TO x y) ∧ h.IsListIter i1 a i ∧ h.IsListIter i2 b i) where
  mem := by simp
  obj := fun i h st c hc => by
    obtain ⟨hz, hTI, ⟨x, y, hTO⟩, ⟨o1, e1, _, d1⟩, ⟨o2, e2, _, d2⟩⟩ := st
    have e' : c = z ∨ c = TI ∨ c = TO ∨ c = i1 ∨ c = i2 := by simpa using hc
    rcases e' with q | q | q | q | q
    · rw [q]; exact ⟨_, hz, fun v q => nomatch q⟩
    · rw [q]; exact ⟨_, hTI, fun v q => nomatch q⟩
    · rw [q]; exact ⟨_, hTO, fun v q => nomatch q⟩
    · rw [q]; exact ⟨o1, e1, fun v q => by rw [d1] at q; cases q⟩
    · rw [q]; exact ⟨o2, e2, fun v q => by rw [d2] at q; cases q⟩
  keep := fun i h h' st k => by
    obtain ⟨hz, hTI, ⟨x, y, hTO⟩, h1, h2⟩ := st
    exact ⟨k z (by simp) _ hz, k TI (by simp) _ hTI, ⟨x, y, k TO (by simp) _ hTO⟩, h1.at fun o q => k i1 (by simp) o q, h2.at fun o q => k i2 (by simp) o q⟩
  item := by
    intro X hP hw hK hc i pins s σ H E I hf st hg
    subst hP hw hK
    obtain ⟨hz, hTI, ⟨x0, y0, hTO⟩, h1, h2⟩ := st
    obtain ⟨xs, ys, x, y, hqx, hqy, hx, hy⟩ := hg
    obtain ⟨its, rv, p, _⟩ := I.list hqx
    obtain ⟨its2, rv2, p2, _⟩ := I.list hqy
    obtain ⟨u, hu, ru⟩ := rv.get hx
    obtain ⟨u2, hu2, ru2⟩ := rv2.get hy
    have hzl : z < s.heap.objs.size := Heap.lt_size hz
    refine wpAny_pyNext_zip_item D hz hTI hTO h1 h2 p.isList p2.isList (x := u) (y := u2) (by simpa using hu) (by simpa using hu2) fun h' z' TO' h1' h2' hT hsz hk => ?_
    refine ⟨_, rfl, wpAny_letOwnedTupleGo_zip (s := { s with heap := h' }) z' fun h'' z'' sb => ?_⟩
    have hT2 : h''.get? s.heap.objs.size = some { cls := .type "tuple", data := .seq #[u, u2] } := (sb.2 _ (Nat.ne_of_gt hzl)).trans hT
    have new : ObjOk X.prog X.w (upd H s.heap.objs.size (.tup [x, y])) h'' s.heap.objs.size (.tup [x, y]) :=
      ⟨by show 2 ≤ sizeLine; decide, [u, u2], .cons ru (.cons ru2 .nil), ⟨_, hT2, rfl, _, rfl⟩⟩
    have I1 : Inv X pins σ (upd H s.heap.objs.size (.tup [x, y])) { s with heap := h'' } :=
      I.turnedNew (t' := s.toks) (ch := [z, TI, TO, i1, i2]) (fun c o hb q => (sb.2 c (fun q' => hb (by simp [q']))).trans (hk c o (fun q' => hb (by simp [q'])) (fun q' => hb (by simp [q'])) (fun q' => hb (by simp [q'])) (fun q' => hb (by simp [q'])) q)) hf (Nat.le_refl _) new
    refine ⟨.ref s.heap.objs.size, _, I1, rfl, ⟨_, x, y, rfl, I.hok.fresh (Nat.le_refl _), rfl, fun l hl => by rw [I.list_inj hl hqx]; exact hx, fun l hl => by rw [I.list_inj hl hqy]; exact hy⟩, ⟨z'', ?_, ⟨u, u2, ?_⟩, ?_, ?_⟩, fun c hcm => ?_⟩
    · exact (sb.2 _ D.TIz).trans (hk _ _ D.TIz D.TITO D.TIi1 D.TIi2 hTI)
    · exact (sb.2 _ D.TOz).trans TO'
    · exact h1'.at fun o q => (sb.2 _ D.i1z).trans q
    · exact h2'.at fun o q => (sb.2 _ D.i2z).trans q
    · have hlt : c < s.heap.objs.size := by
        have e' : c = z ∨ c = TI ∨ c = TO ∨ c = i1 ∨ c = i2 := by simpa using hcm
        rcases e' with q | q | q | q | q
        · rw [q]; exact hzl
        · rw [q]; exact Heap.lt_size hTI
        · rw [q]; exact Heap.lt_size hTO
        · rw [q]; obtain ⟨_, e1, _⟩ := h1; exact Heap.lt_size e1
        · rw [q]; obtain ⟨_, e2, _⟩ := h2; exact Heap.lt_size e2
      rw [upd_ne (Nat.ne_of_lt hlt)]
      exact (hf c hcm).1
  done := by
    intro X hP hw hK hc i pins s σ H E I hf st hg
    subst hP hw hK
    obtain ⟨hz, hTI, ⟨x0, y0, hTO⟩, h1, h2⟩ := st
    obtain ⟨xs, ys, hqx, hqy, hend⟩ := hg
    obtain ⟨its, rv, p, _⟩ := I.list hqx
    obtain ⟨its2, rv2, p2, _⟩ := I.list hqy
    have l1 := rv.length
    have l2 := rv2.length
    have he : its.toArray[i]? = none ∨ its2.toArray[i]? = none := by
      rcases hend with q | q
      · exact .inl (by simp; omega)
      · exact .inr (by simp; omega)
    exact wpAny_pyNext_zip_end (I.ok.hd hc) D hz hTI hTO h1 h2 p.isList p2.isList he fun h' hk => ⟨rfl, I.turnedL (t' := s.toks) (ch := [z, TI, TO, i1, i2]) (fun c o hb q =>
      hk c o (fun q' => hb (by simp [q'])) (fun q' => hb (by simp [q'])) (fun q' => hb (by simp [q'])) (fun q' => hb (by simp [q'])) q) hf⟩
  self := fun A i s Q E st h => wpAny_pyIter_zip st.1 h
def iZip (K : PySem.W.Frag) (ta : TA) : TI := fun σ H R => ta σ H fun vs H1 => ∃ a b xs ys, vs = [.ref a, .ref b] ∧ SqL K H1 a xs ∧ SqL K H1 b ys ∧ R (Itz K a b) H1
theorem pi_zip {X : Cx} {e e2 : Expr} {ta : TA} {p pos tpos : Pos} {elts : List Expr} {kk : Nat} (hg : Gl X "zip") (hm : X.mg "zip" = none) (ha : PA X [e, e2] ta)
    (hs : starEach [e, e2] X.env = (false, eval e X.env) :: starEach [e2] X.env := by rfl) (hpl : (backTo pos (starEach [e2] X.env)).any (·.1) = false := by rfl) :
    PI X (.Tuple elts kk tpos) (.Call (.Name "zip" p) [e, e2] [] pos) (iZip X.K ta) := by
  intro pins s σ H R I h
  refine Call_ (ld_blt I hg hm boot_zip5 (PyProof.Rows.callWith_type1 (thn (ha pos pins s σ H _ I h) fun us s1 ⟨vs, H1, I1, r1, q1⟩ => ?_) hs hpl))
  obtain ⟨a, b, xs, ys, ex, hqx, hqy, q⟩ := q1
  subst ex
  cases r1 with
  | cons r rr =>
    cases rr with
    | cons r' rr =>
      cases rr
      cases r
      cases r'
      obtain ⟨its, rv, p1, _⟩ := I1.list hqx
      obtain ⟨its2, rv2, p2, _⟩ := I1.list hqy
      have la : a < s1.heap.objs.size := p1.lt
      have lb : b < s1.heap.objs.size := p2.lt
      refine call_zip_2 p1.isList p2.isList fun h' hz hTI hTO h1 h2 hsz hk => wpAny_pyIter_zip hz ?_
      have I2 : Inv X pins σ H1 { s1 with heap := h' } := I1.kept (t' := s1.toks) hk
      refine ⟨s1.heap.objs.size + 4, [s1.heap.objs.size + 4, s1.heap.objs.size + 2, s1.heap.objs.size + 3, s1.heap.objs.size, s1.heap.objs.size + 1], _, _, H1, rfl, I2, turn_zip (PySem.W.ktu_apart s1.heap.objs.size a b la lb), ⟨hz, hTI, ⟨_, _, hTO⟩, h1, h2⟩, fun c hcm => ?_, q⟩
      have e' : c = s1.heap.objs.size + 4 ∨ c = s1.heap.objs.size + 2 ∨ c = s1.heap.objs.size + 3 ∨ c = s1.heap.objs.size ∨ c = s1.heap.objs.size + 1 := by simpa using hcm
      have hle : s1.heap.objs.size ≤ c := by
        rcases e' with z | z | z | z | z
        · rw [z]; exact Nat.le_add_right _ _
        · rw [z]; exact Nat.le_add_right _ _
        · rw [z]; exact Nat.le_add_right _ _
        · rw [z]; exact Nat.le_refl _
        · rw [z]; exact Nat.le_add_right _ _
      exact I1.fpOk hle (I1.hok.fresh hle)
end L2
section 
namespace TL
open PySem PySem.Builtin PySem.Builtin.Str PySem.StrLaws
abbrev tl (x : Str) : List Nat := x.cps.toList
theorem len_tl (x : Str) : x.length = (tl x).length := by simp [tl, Str.length]
theorem ext_tl {x y : Str} (h : tl x = tl y) : x = y := Str.ext' (Array.toList_inj.mp h)
theorem tl_append (x y : Str) : tl (x ++ y) = tl x ++ tl y := by
  show (x ++ y).cps.toList = _
  rw [Str.cps_append, Array.toList_append]
theorem map_tl_inj : ∀ {l m : List Str}, l.map tl = m.map tl → l = m
  | [], [], _ => rfl
  | [], _ :: _, h => by simp at h
  | _ :: _, [], h => by simp at h
  | x :: l, y :: m, h => by
    rw [List.map_cons, List.map_cons] at h
    injection h with h1 h2
    rw [ext_tl h1, map_tl_inj h2]
def pre (S l : List Nat) : Bool := l.take S.length == S
def spl (S : List Nat) : Nat → List Nat → List Nat → List (List Nat)
  | _, acc, [] => [acc]
  | 0, acc, c :: r => if pre S (c :: r) = true then acc :: spl S (S.length - 1) [] r else spl S 0 (acc ++ [c]) r
  | k + 1, acc, _ :: r => spl S k acc r
theorem spl_nil (S : List Nat) (k : Nat) (acc : List Nat) : spl S k acc [] = [acc] := by cases k <;> rfl
theorem spl_hit {S acc r : List Nat} {c : Nat} (h : pre S (c :: r) = true) : spl S 0 acc (c :: r) = acc :: spl S (S.length - 1) [] r := by
  show (if pre S (c :: r) = true then acc :: spl S (S.length - 1) [] r else spl S 0 (acc ++ [c]) r) = _
  rw [if_pos h]
theorem spl_miss {S acc r : List Nat} {c : Nat} (h : pre S (c :: r) = false) : spl S 0 acc (c :: r) = spl S 0 (acc ++ [c]) r := by
  show (if pre S (c :: r) = true then acc :: spl S (S.length - 1) [] r else spl S 0 (acc ++ [c]) r) = _
  rw [if_neg (by rw [h]; exact Bool.false_ne_true)]
theorem spl_pass (S : List Nat) : ∀ (k : Nat) (acc l : List Nat), spl S k acc l = spl S 0 acc (l.drop k)
  | 0, _, _ => by rw [List.drop_zero]
  | k + 1, acc, [] => by rw [List.drop_nil, spl_nil, spl_nil]
  | k + 1, acc, c :: r => by
    show spl S k acc r = spl S 0 acc (r.drop k)
    exact spl_pass S k acc r
theorem pre_nil {S : List Nat} (hS : S ≠ []) : pre S [] = false := by
  cases S with
  | nil => exact absurd rfl hS
  | cons s S => rfl
theorem pre_of_head {s c : Nat} (S r : List Nat) (h : c ≠ s) : pre (s :: S) (c :: r) = false := by
  cases hp : pre (s :: S) (c :: r) with
  | false => rfl
  | true =>
    have e : (c :: r).take (s :: S).length = s :: S := eq_of_beq hp
    rw [List.length_cons, List.take_succ_cons] at e
    injection e with e1 e2
    exact absurd e1 h
theorem pre_self (S r : List Nat) : pre S (S ++ r) = true := by
  show ((S ++ r).take S.length == S) = true
  have e : (S ++ r).take S.length = S := List.take_left
  rw [e] <;> exact beq_self_eq_true S
theorem getElem_drop_cons {L : List Nat} {a : Nat} (h : a < L.length) : ∃ c, L.drop a = c :: L.drop (a + 1) := ⟨L[a], List.drop_eq_getElem_cons h⟩
theorem spl_run (S L : List Nat) : ∀ (m a : Nat) (acc : List Nat), a + m ≤ L.length → (∀ k, a ≤ k → k < a + m → pre S (L.drop k) = false) →
    spl S 0 acc (L.drop a) = spl S 0 (acc ++ (L.drop a).take m) (L.drop (a + m))
  | 0, a, acc, _, _ => by rw [List.take_zero, List.append_nil, Nat.add_zero]
  | m + 1, a, acc, h, hn => by
    have hlt : a < L.length := by omega
    obtain ⟨c, e⟩ := getElem_drop_cons hlt
    have h0 := hn a (Nat.le_refl _) (by omega)
    have ih := spl_run S L m (a + 1) (acc ++ [c]) (by omega) (fun k h1 h2 => hn k (by omega) (by omega))
    have e2 : a + 1 + m = a + (m + 1) := by omega
    rw [e2] at ih
    rw [e] at h0
    rw [e, spl_miss h0, ih, List.take_succ_cons, List.append_assoc] <;> rfl
theorem drop_two (L : List Nat) (a b : Nat) : (L.drop a).drop b = L.drop (a + b) := by
  first
    | rw [List.drop_drop]
    | rw [List.drop_drop, Nat.add_comm]
theorem spl_at {S L : List Nat} (hS : S ≠ []) {c : Nat} {acc : List Nat} (h : pre S (L.drop c) = true) : spl S 0 acc (L.drop c) = acc :: spl S 0 [] (L.drop (c + S.length)) := by
  rw [← drop_two]
  cases e : L.drop c with
  | nil => rw [e, pre_nil hS] at h; cases h
  | cons d r =>
    rw [e] at h
    rw [spl_hit h, spl_pass]
    cases S with
    | nil => exact absurd rfl hS
    | cons s S => rfl
theorem at_iff {x y : Str} (hy : tl y ≠ []) (i : Nat) : At x y x.length i ↔ pre (tl y) ((tl x).drop i) = true := by
  have hx := len_tl x
  have hl := len_tl y
  constructor
  · intro h
    have h2 := h.2
    rw [subAt_eq, hl] at h2
    exact h2
  · intro h
    have e : ((tl x).drop i).take (tl y).length = tl y := eq_of_beq h
    have e1 := congrArg List.length e
    rw [List.length_take, List.length_drop] at e1
    have e2 : 0 < (tl y).length := List.length_pos_iff.mpr hy
    refine ⟨by omega, ?_⟩
    rw [subAt_eq, hl]
    exact h
theorem no_at {x y : Str} (hy : tl y ≠ []) {i : Nat} (h : ¬ At x y x.length i) : pre (tl y) ((tl x).drop i) = false := by
  cases hp : pre (tl y) ((tl x).drop i) with
  | false => rfl
  | true => exact absurd ((at_iff hy i).mpr hp) h
theorem len1 {y : Str} (hy : tl y ≠ []) : 1 ≤ y.length := by
  have e2 : 0 < (tl y).length := List.length_pos_iff.mpr hy
  rw [len_tl y]
  exact e2
theorem tl_strSub (x : Str) (i j : Nat) : tl (strSub x i j) = ((tl x).drop i).take (j - i) := strSub_toList x i j
theorem tl_strSub_end (x : Str) (i : Nat) : tl (strSub x i x.length) = (tl x).drop i := by
  rw [tl_strSub, len_tl x]
  exact List.take_of_length_le (by rw [List.length_drop] <;> omega)
theorem parts_spl {x y : Str} (hy : tl y ≠ []) : ∀ (cuts : List Nat) (a f : Nat), a ≤ (tl x).length → ChainG x y x.length a cuts f → (∀ k, f ≤ k → ¬ At x y x.length k) →
    (partsFrom x y.length a cuts).map tl = spl (tl y) 0 [] ((tl x).drop a)
  | [], a, f, ha, h, hn => by
    have e : f = a := h
    subst e
    show [tl (strSub x f x.length)] = _
    have run := spl_run (tl y) (tl x) ((tl x).length - f) f [] (by omega) (fun k h1 _ => no_at hy (hn k h1))
    have e2 : f + ((tl x).length - f) = (tl x).length := by omega
    rw [e2, List.drop_length, spl_nil, List.nil_append, List.take_of_length_le (by rw [List.length_drop] <;> omega)] at run
    rw [run, tl_strSub_end]
  | c :: r, a, f, ha, h, hn => by
    obtain ⟨h1, h2, h3, h4⟩ := h
    have hc : c + y.length ≤ x.length := h2.1
    have hx := len_tl x
    have hl := len_tl y
    have ih := parts_spl hy r (c + y.length) f (by omega) h4 hn
    show tl (strSub x a c) :: (partsFrom x y.length (c + y.length) r).map tl = _
    have run := spl_run (tl y) (tl x) (c - a) a [] (by omega) (fun k k1 k2 => no_at hy (h3 k k1 (by omega)))
    have e2 : a + (c - a) = c := by omega
    rw [e2, List.nil_append, spl_at hy ((at_iff hy c).mp h2)] at run
    rw [run, ih, tl_strSub, hl]
theorem split_spl (x y : Str) (hy : tl y ≠ []) (hk : ¬ Builtin.Str.strKind x < Builtin.Str.strKind y) : (Txt.split x y).map tl = spl (tl y) 0 [] (tl x) := by
  obtain ⟨f, g, hn⟩ := occ_tight x y (len1 hy)
  have key := parts_spl hy _ 0 f (Nat.zero_le _) g hn
  rw [List.drop_zero] at key
  have none_case : occurrences x y 0 x.length (x.length + 1) = [] → [x].map tl = spl (tl y) 0 [] (tl x) := fun ho => by
    rw [ho] at key
    rw [← key]
    show [tl x] = [tl (strSub x 0 x.length)]
    rw [sub_whole]
  unfold Txt.split
  by_cases h1 : (decide (x.length < y.length) || decide (Builtin.Str.strKind x < Builtin.Str.strKind y)) = true
  · rw [if_pos h1]
    have hlt : x.length < y.length := by
      simp only [Bool.or_eq_true, decide_eq_true_eq] at h1
      rcases h1 with h | h
      · exact h
      · exact absurd h hk
    refine none_case ?_
    cases ho : occurrences x y 0 x.length (x.length + 1) with
    | nil => rfl
    | cons c r =>
      rw [ho] at g
      have hc : c + y.length ≤ x.length := g.2.1.1
      omega
  · rw [if_neg h1]
    by_cases h2 : (occurrences x y 0 x.length (x.length + 1)).isEmpty = true
    · rw [if_pos h2]
      exact none_case (List.isEmpty_iff.mp h2)
    · rw [if_neg h2, partsBetween_eq]
      exact key
theorem kind_ok {x y : Str} (h : y.cps.all (· < 256) = true) : ¬ Builtin.Str.strKind x < Builtin.Str.strKind y := by
  have e : Builtin.Str.strKind y = 1 := by unfold PySem.Builtin.Str.strKind; rw [if_pos h]
  rw [e]
  unfold PySem.Builtin.Str.strKind
  split
  · omega
  · split <;> omega
theorem spl_part {S p rest acc : List Nat} (hS : S ≠ []) (h : ∀ i, i < p.length → pre S ((p ++ (S ++ rest)).drop i) = false) :
    spl S 0 acc (p ++ (S ++ rest)) = (acc ++ p) :: spl S 0 [] rest := by
  have run := spl_run S (p ++ (S ++ rest)) p.length 0 acc (by rw [List.length_append]; omega) (fun k _ k2 => h k (by omega))
  have ed : (p ++ (S ++ rest)).drop p.length = S ++ rest := List.drop_left
  rw [List.drop_zero, Nat.zero_add, List.take_left] at run
  rw [run, spl_at hS (by rw [ed]; exact pre_self S rest), ← drop_two, ed, List.drop_left]
theorem spl_last {S p acc : List Nat} (h : ∀ i, i < p.length → pre S (p.drop i) = false) : spl S 0 acc p = [acc ++ p] := by
  have run := spl_run S p p.length 0 acc (by omega) (fun k _ k2 => h k (by omega))
  rw [List.drop_zero, Nat.zero_add, List.drop_length, spl_nil, List.take_length] at run
  exact run
theorem free_of {s : Nat} {S p q : List Nat} (h : s ∉ p) : ∀ i, i < p.length → pre (s :: S) ((p ++ q).drop i) = false := fun i hi => by
  have hlt : i < (p ++ q).length := by rw [List.length_append]; omega
  have e : (p ++ q).drop i = (p ++ q)[i] :: (p ++ q).drop (i + 1) := List.drop_eq_getElem_cons hlt
  rw [e]
  refine pre_of_head _ _ fun z => h ?_
  have e1 : (p ++ q)[i] = p[i] := List.getElem_append_left hi
  rw [← z, e1]
  exact List.getElem_mem hi
theorem spl_part1 {s : Nat} {S p rest acc : List Nat} (h : s ∉ p) : spl (s :: S) 0 acc (p ++ (s :: S ++ rest)) = (acc ++ p) :: spl (s :: S) 0 [] rest :=
  spl_part (by simp) (free_of h)
theorem spl_last1 {s : Nat} {S p acc : List Nat} (h : s ∉ p) : spl (s :: S) 0 acc p = [acc ++ p] := spl_last fun i hi => by
  have z := free_of (S := S) (q := []) h i hi
  rw [List.append_nil] at z
  exact z
def joinL (S : List Nat) : List (List Nat) → List Nat
  | [] => []
  | [p] => p
  | p :: q :: r => p ++ (S ++ joinL S (q :: r))
theorem tl_join (y : Str) : ∀ parts : List Str, tl (Str.join y parts) = joinL (tl y) (parts.map tl)
  | [] => rfl
  | [_] => rfl
  | x :: z :: r => by
    show tl (x ++ y ++ Str.join y (z :: r)) = tl x ++ (tl y ++ joinL (tl y) ((z :: r).map tl))
    rw [tl_append, tl_append, tl_join y (z :: r), List.append_assoc]
theorem spl_join {s : Nat} {S : List Nat} : ∀ {parts : List (List Nat)}, parts ≠ [] → (∀ p ∈ parts, s ∉ p) → spl (s :: S) 0 [] (joinL (s :: S) parts) = parts
  | [], h, _ => absurd rfl h
  | [p], _, hp => by
    show spl (s :: S) 0 [] p = [p]
    rw [spl_last1 (hp p (List.mem_singleton.mpr rfl)), List.nil_append]
  | p :: q :: r, _, hp => by
    show spl (s :: S) 0 [] (p ++ (s :: S ++ joinL (s :: S) (q :: r))) = p :: q :: r
    rw [spl_part1 (hp p (List.mem_cons_self ..)), List.nil_append, spl_join (by simp) fun z hz => hp z (List.mem_cons_of_mem _ hz)]
theorem join_eq (y : Str) (parts : List Str) : Txt.join y parts = Str.join y parts := glued_eq_join y parts
theorem split_join {y : Str} {s : Nat} {S : List Nat} (ey : tl y = s :: S) (hk : y.cps.all (· < 256) = true) {parts : List Str} (hne : parts ≠ []) (hp : ∀ p ∈ parts, s ∉ tl p) :
    Txt.split (Txt.join y parts) y = parts := by
  refine map_tl_inj ?_
  rw [split_spl _ y (by rw [ey]; simp) (kind_ok hk), join_eq, tl_join, ey]
  refine spl_join (fun e => hne (List.map_eq_nil_iff.mp e)) fun p h => ?_
  obtain ⟨z, hz, rfl⟩ := List.mem_map.mp h
  exact hp z hz
def numL (n : Nat) : List Nat := (Nat.toDigits 10 n).map Char.toNat
theorem tl_num (n : Nat) : tl (Str.ofString (toString ((n : Nat) : Int))) = numL n := PySem.W.KIN.signs_num n
theorem digitChar_nat : ∀ d : Nat, d < 10 → (Nat.digitChar d).toNat = 48 + d := by decide
theorem numL_lt {n : Nat} (h : n < 10) : numL n = [48 + n] := by
  unfold numL
  rw [Nat.toDigits_of_lt_base h]
  show [(Nat.digitChar n).toNat] = _
  rw [digitChar_nat n h]
theorem numL_step {n : Nat} (h : 10 ≤ n) : numL n = numL (n / 10) ++ [48 + n % 10] := by
  have hm : n % 10 < 10 := Nat.mod_lt n (by decide)
  have t : Nat.toDigits 10 (n / 10) ++ Nat.toDigits 10 (n % 10) = Nat.toDigits 10 (10 * (n / 10) + n % 10) := Nat.toDigits_append_toDigits (by decide) (by omega) hm
  rw [Nat.div_add_mod] at t
  show (Nat.toDigits 10 n).map Char.toNat = _
  rw [← t, List.map_append, Nat.toDigits_of_lt_base hm]
  show (Nat.toDigits 10 (n / 10)).map Char.toNat ++ [(Nat.digitChar (n % 10)).toNat] = _
  rw [digitChar_nat _ hm] <;> rfl
theorem numL_digits (n : Nat) : NumText.AllDigits (numL n) := by
  induction n using Nat.strongRecOn with
  | _ n ih =>
    by_cases h : n < 10
    · rw [numL_lt h]
      intro c hc
      rw [List.mem_singleton.mp hc]
      omega
    · rw [numL_step (by omega)]
      intro c hc
      rcases List.mem_append.mp hc with hc | hc
      · exact ih (n / 10) (by omega) c hc
      · have hm : n % 10 < 10 := Nat.mod_lt n (by decide)
        rw [List.mem_singleton.mp hc]
        omega
theorem numL_ne (n : Nat) : numL n ≠ [] := by
  by_cases h : n < 10
  · rw [numL_lt h]
    simp
  · rw [numL_step (by omega)]
    simp
theorem numL_free {n s : Nat} (h : s < 48 ∨ 57 < s) : s ∉ numL n := fun hm => by
  have r := numL_digits n s hm
  omega
theorem numL_val (n : Nat) : NumText.digitsVal (numL n) = n := PySem.W.KIN.val_back n
theorem numL_len {n k : Nat} (hk : 0 < k) (h : n < 10 ^ k) : (numL n).length ≤ k := by
  have z := PyProof.Rows.toString_length_le (v := (n : Int)) (by omega) hk (by
    have e : ((10 : Int) ^ k) = ((10 ^ k : Nat) : Int) := by
      first
        | exact (Int.natCast_pow 10 k).symm
        | simp
    rw [e]
    first | exact Int.ofNat_lt.mpr h | omega)
  rw [len_tl, tl_num] at z
  exact z
end TL
end 
namespace L2
open PySem PySem.Spec PyProof.Rows
theorem vals_strs : ∀ l : List (Str × Tok), Vals ((l.map (·.1)).map V.str) (strValues l)
  | [] => .nil
  | p :: r => .cons ⟨p.2, rfl⟩ (vals_strs r)
theorem strs_of_vals : ∀ {ys : List Str} {us : List Value}, Vals (ys.map V.str) us → StrsAre us ys
  | [], _, .nil => .nil
  | y :: ys, _, .cons r t => by
    obtain ⟨k, rfl⟩ := r
    exact .cons y k (strs_of_vals t)
def rNewStrs (ys : List Str) : Hp → VK → Prop := fun H Q => ∀ p, H p = none → Q (.ref p) (upd H p (.lst (ys.map V.str)))
section
variable {X : Cx} {pins : List (Addr × Obj)} {σ : St} {H : Hp} {s : Shared} {Q : VK}
theorem laid_strs {l : List (Str × Tok)} {ys : List Str} {k : Nat} (I : Inv X pins σ H s) (e : l.map (·.1) = ys) (hz : ys.length ≤ sizeLine) (h : rNewStrs ys H Q) :
    EP X pins σ Q (.ref s.heap.objs.size) { s with toks := k, heap := s.heap.push { cls := .type "list", data := .seq (strValues l).toArray } } := by
  have hp := I.hok.fresh (Nat.le_refl _)
  refine ⟨.ref s.heap.objs.size, upd H s.heap.objs.size (.lst (ys.map V.str)), I.laid (fun b u q => Heap.get?_push_of_some _ q) (Nat.le_refl _) ⟨by rw [List.length_map]; exact hz, strValues l, _, ?_, Heap.get?_push_size _ rfl⟩, rfl, h _ hp⟩
  rw [← e]
  exact vals_strs l
end
section
variable {X : Cx}
theorem mt_split : MtR X "str.split" (fun x xs H Q => ∃ a b, x = .str a ∧ xs = [.str b] ∧ (b.length == 0) = false ∧ a.length + 2 ≤ sizeLine ∧ rNewStrs (Txt.split a b) H Q) := by
  intro pins s σ H x xs v us Q I rx rs h
  obtain ⟨a, b, rfl, rfl, hb, hz, h⟩ := h
  obtain ⟨t, rfl⟩ := rx
  cases rs with
  | cons r1 rs =>
    cases rs
    obtain ⟨u, rfl⟩ := r1
    have hl : (Txt.split a b).length ≤ sizeLine := Nat.le_trans (PyProof.Rows.split_le a b) hz
    have hn : (Builtin.Str.partsBetween a (Builtin.Str.occurrences a b 0 a.length (a.length + 1)) b.length).length ≤ sizeLine := by
      have e1 := StrLaws.occ_length_le a b 0 a.length (a.length + 1)
      rw [length_partsBetween]; omega
    cases h1 : (decide (a.length < b.length) || decide (Builtin.Str.strKind a < Builtin.Str.strKind b))
    · cases hf : (Builtin.Str.occurrences a b 0 a.length (a.length + 1)).isEmpty
      · refine call_meets F.slot_str_split (typeIs_str _ _ _) F.entry_str_split (F.args_str_split_2 _ _) (meets_str_split_sep a b t u h1 hb hf (by omega) hn) ?_
        show EP X pins σ Q (.ref s.heap.objs.size) { s with toks := _, heap := s.heap.push { cls := .type "list", data := .seq (strsFrom s.toks (Builtin.Str.partsBetween a (Builtin.Str.occurrences a b 0 a.length (a.length + 1)) b.length)).toArray } }
        rw [strsFrom_eq]
        exact laid_strs (ys := Txt.split a b) I ((numbered_texts _ _).trans ((if_neg (ne_true_of_eq_false h1)).trans (if_neg (ne_true_of_eq_false hf))).symm) hl h
      · refine call_meets F.slot_str_split (typeIs_str _ _ _) F.entry_str_split (F.args_str_split_2 _ _) (meets_str_split_not_found a b t u h1 hb hf) ?_
        exact laid_strs (l := [(a, t)]) (ys := Txt.split a b) (k := s.toks) I ((if_neg (ne_true_of_eq_false h1)).trans (if_pos hf)).symm hl h
    · refine call_meets F.slot_str_split (typeIs_str _ _ _) F.entry_str_split (F.args_str_split_2 _ _) (meets_str_split_cannot_occur a b t u h1) ?_
      exact laid_strs (l := [(a, t)]) (ys := Txt.split a b) (k := s.toks) I (if_pos h1).symm hl h
theorem mt_join : MtR X "str.join" (fun x xs H Q => ∃ a p, ∃ ys : List Str, x = .str a ∧ xs = [.ref p] ∧ (SqL X.K H p (ys.map V.str) ∨ SqT X.K H p (ys.map V.str)) ∧
    (ys.map (·.length)).sum + ys.length * a.length ≤ 16777216 ∧ Q (.str (Txt.join a ys)) H) := by
  intro pins s σ H x xs v us Q I rx rs h
  obtain ⟨a, p, ys, rfl, rfl, hp, hz, h⟩ := h
  obtain ⟨t, rfl⟩ := rx
  cases rs with
  | cons r1 rs =>
    cases rs
    cases r1
    rcases hp with hp | hp
    · obtain ⟨its, r, ⟨o, n, ho, hc, _, hd⟩, _⟩ := I.list hp
      exact PyProof.Rows.join_list (items := its.toArray) ⟨o, ho, hc, n, hd⟩ (by rw [List.toList_toArray]; exact strs_of_vals r) hz fun t' k => ⟨.str _, H, I.tok k, ⟨t', rfl⟩, h⟩
    · obtain ⟨its, r, ht, _⟩ := I.tuple hp
      exact PyProof.Rows.join_tuple (items := its.toArray) ht (by rw [List.toList_toArray]; exact strs_of_vals r) hz fun t' k => ⟨.str _, H, I.tok k, ⟨t', rfl⟩, h⟩
theorem call_int_str : CallR X (.type "int") (fun xs H Q => ∃ a n, xs = [.str a] ∧ PySem.intText? a = some n ∧ a.length ≤ 640 ∧ Q (.int n) H) := by
  intro pins s σ H xs us Q I rs h
  obtain ⟨a, n, rfl, hn, hl, h⟩ := h
  cases rs with
  | cons r1 rs =>
    cases rs
    obtain ⟨t, rfl⟩ := r1
    exact PySem.W.KIN.call_text hn hl ⟨.int n, H, I.tok _, ⟨_, rfl⟩, h⟩
end
section
variable {X : Cx} {o e : Expr} {to te : TE}
def tM1 (r : V → List V → Hp → VK → Prop) (to te : TE) : TE := fun σ H Q => to σ H fun x H1 => (∃ a, x = .str a) ∧ te σ H1 fun y H2 => r x [y] H2 Q
theorem pe_m1 {id : String} {name : Str} {apos pos : Pos} {r : V → List V → Hp → VK → Prop} (slot : Slot "str" name id) (ty : typeOf (.builtin id) = pure (.type "method_descriptor")) (rule : MtR X id r) (ho : PE X o to) (he : PE X e te)
    (hs : starEach [e] X.env = [(false, eval e X.env)] := by rfl) (hbase : attributeBase o name X.env (eval o X.env) = eval o X.env := by rfl) (hline : (apos.endLine == pos.line) = true := by rfl) :
    PE X (.Call (.Attribute o name apos) [e] [] pos) (tM1 r to te) := by
  intro pins s σ H Q I h
  refine PySem.Call_method1 hbase hs hline (thn (ho pins s σ H _ I h) fun v s1 ⟨x, H1, I1, r1, q1⟩ => ?_)
  obtain ⟨⟨a, rfl⟩, q1⟩ := q1
  obtain ⟨t, rfl⟩ := _root_.id r1
  refine ⟨"str", _, F.plainAttrs_str, slot, ty, typeIs_str _ _ _, (fun _ e => nomatch e), Calls.callWith_builtin rfl (Calls.evalArgs_plain (Calls.spliced_cons ?_))⟩
  exact thn (he pins s1 σ H1 _ I1 q1) fun u s2 ⟨y, H2, I2, r2, q2⟩ => Calls.spliced_nil (rule pins s2 σ H2 _ [y] _ [u] Q I2 r1 (.cons r2 .nil) q2)
theorem pe_split {apos pos : Pos} (ho : PE X o to) (he : PE X e te) (hs : starEach [e] X.env = [(false, eval e X.env)] := by rfl) (hbase : attributeBase o "split" X.env (eval o X.env) = eval o X.env := by rfl) (hline : (apos.endLine == pos.line) = true := by rfl) :
    PE X (.Call (.Attribute o "split" apos) [e] [] pos) (tM1 (fun x xs H Q => ∃ a b, x = .str a ∧ xs = [.str b] ∧ (b.length == 0) = false ∧ a.length + 2 ≤ sizeLine ∧ rNewStrs (Txt.split a b) H Q) to te) :=
  pe_m1 F.slot_str_split F.type_str_split mt_split ho he hs hbase hline
theorem pe_join {apos pos : Pos} (ho : PE X o to) (he : PE X e te) (hs : starEach [e] X.env = [(false, eval e X.env)] := by rfl) (hbase : attributeBase o "join" X.env (eval o X.env) = eval o X.env := by rfl) (hline : (apos.endLine == pos.line) = true := by rfl) :
    PE X (.Call (.Attribute o "join" apos) [e] [] pos) (tM1 (fun x xs H Q => ∃ a p, ∃ ys : List Str, x = .str a ∧ xs = [.ref p] ∧ (SqL X.K H p (ys.map V.str) ∨ SqT X.K H p (ys.map V.str)) ∧
      (ys.map (·.length)).sum + ys.length * a.length ≤ 16777216 ∧ Q (.str (Txt.join a ys)) H) to te) :=
  pe_m1 F.slot_str_join F.type_str_join mt_join ho he hs hbase hline
end
end L2
namespace L2
open PySem PySem.Spec PyProof.Rows
section
variable {X : Cx}
theorem op_notIn_sign : OpR X (compareOp .NotIn) (fun x y H Q => ∃ (c : Nat) (z : Str), x = .str ⟨#[c]⟩ ∧ y = .str z ∧ Q (.bl (!decide (c ∈ z.cps.toList))) H) := by
  intro pins s σ H x y v u Q I rx ry h
  obtain ⟨c, z, rfl, rfl, q⟩ := h
  obtain ⟨t, rfl⟩ := rx
  obtain ⟨t', rfl⟩ := ry
  exact PyProof.Rows.notIn_str (fin_bl I q (congrArg Bool.not (PySem.StrLaws.found_one z c).symm))
end
end L2
namespace Att
open PySem PySem.W PySem.Calls PyProof.Rows
theorem ints_of_wellAll {P : Params} {h : Heap} : ∀ (ns : List Int) (vs : List Value), WellAll P h vs (ns.map WData.int) → IntsAre vs ns := by
  intro ns
  induction ns with
  | nil =>
    intro vs w
    rw [List.map_nil] at w
    cases w
    exact .nil
  | cons n ns ih =>
    intro vs w
    rw [List.map_cons] at w
    cases w with
    | cons a b =>
      cases a
      exact .cons _ _ (ih _ b)
theorem script_of {l : OpenLaw} {n : Nat} (hn : l.most = some n) {P : Params} {h : Heap} {args : List WData} {vals : List Value}
    (hpre : l.row.toRowW.claim.pre args = true) (hwl : WellAll P h vals args) :
    ∃ a vs ns, vals = [Value.ref a] ∧ args = [WData.list (ns.map WData.int)] ∧ h.get? a = some { cls := .type "list", data := .seq vs.toArray } ∧ IntsAre vs ns ∧ ns.length ≤ n := by
  have hsh : WShape.hasAll [] args [.list .int] = true := (pre_splitW hpre).1
  have hc : l.pre.holds [] { args := args } = true := (pre_splitW hpre).2
  obtain ⟨d, r, rfl, h1, h2⟩ := hasAllW_cons hsh
  obtain rfl := hasAllW_nil h2
  obtain ⟨xs, rfl, h3⟩ := hasW_list h1
  obtain ⟨ns, rfl⟩ := items_int h3
  have hlen : ns.length ≤ n := by
    unfold OpenLaw.pre at hc
    have h4 : (WTm.not (.lt (.lit (.int (n : Int))) (.len (.arg 0)))).holds [] { args := [.list (ns.map .int)] } = true := by
      have h4 := (holds_andW hc).1
      rw [hn] at h4
      exact h4
    have h5 := condW_of h4 (w_not (w_lt w_lit (w_len_list (w_arg rfl))))
    rw [List.length_map] at h5
    refine Nat.le_of_not_lt fun q => ?_
    have q' : (n : Int) < ((ns.length : Nat) : Int) := by omega
    first
      | (rw [decide_eq_true q'] at h5; exact absurd h5 (by decide))
      | (simp at h5; omega)
  cases hwl with
  | cons w1 w2 =>
    cases w2
    cases w1 with
    | list ho hall => exact ⟨_, _, ns, rfl, rfl, ho, ints_of_wellAll ns _ hall, hlen⟩
theorem post_true (l : OpenLaw) (args : List WData) : l.row.toRowW.claim.post args (.bool true) args = true :=
  postW_of (r := l.row.toRowW) (X := (true == true))
    (show WShape.has [] (.bool true) .bool = true by first | rfl | decide | simp [WShape.has, WShape.arms, WShape.armsAll])
    (show (WTm.eq .res (.lit (.bool true))).value [] { args := args, res := some (.bool true), after := args } = some (.bool (true == true)) from w_eq_bool (w_res rfl) w_lit) rfl
theorem attach_call {l : OpenLaw} {n : Nat} {q : Program} {loose : List Str} {XP : (Str → Option Value) → Heap → Prop} {YP : World → Heap → Prop} {d : DefRec}
    (hn : l.most = some n) (hdf : d.params.defaults = [])
    (call : ∀ (w : World) (s₀ s₁ : Shared) (mg mb : Str → Option Value) (fa : Addr) (o : Obj) (pm cd doc : Value) (a : Addr) (vs : List Value) (ns : List Int),
      Ground q loose [] XP w s₀ mg mb s₁.heap → YP w s₁.heap →
      s₁.heap.get? fa = some o → o.data = .func (docDef d.name d.params d.body d.scope pm cd doc) → s₁.heap.CodeRec cd d.name → mg d.name = some (.ref fa) →
      s₁.heap.get? a = some { cls := .type "list", data := .seq vs.toArray } → IntsAre vs ns → ns.length ≤ n → s₁.gens = #[] →
      codeAny (model l.prog w) callerA (.call (.ref fa) ⟨[.ref a], []⟩) (fun r s' => r = .ok (.ret (.bool true)) ∧ OldK s₁.heap s'.heap ∧ s'.os = s₁.os ∧ AllBare s'.gens) s₁) :
    WalkO q loose XP YP l.row.toRowW d [] (fun f vs => PySem.call f vs) := by
  intro w s₀ s₁ mg mb G Y fa o pm cd doc dV kV ho hd hcd hD hmg hg args vals as hpre hlay hrd hwl hlo
  obtain rfl : dV = .none := Dflts.none hD hdf
  obtain rfl : kV = .none := Dflts.noKw hD
  obtain ⟨a, vs, ns, rfl, rfl, hobj, hints, hlen⟩ := script_of hn hpre hwl
  refine enter_call (codeAny_mono (call w s₀ s₁ mg mb fa o pm cd doc a vs ns G Y ho (fd_plain hd) hcd hmg hobj hints hlen hg) fun r s' hq => ?_)
  obtain ⟨rfl, h2, h3, h4⟩ := hq
  exact ⟨.inl ⟨.bool true, .bool true, [], rfl, fun _ => rfl, .bool true, post_true l _, fun _ => ⟨List.Pairwise.nil, fun _ hm => (nomatch hm)⟩⟩, h2, h3, h4⟩
end Att
namespace L2
open PySem PySem.Spec PyProof.Rows
theorem vals_ints : ∀ {vs : List Value} {ns : List Int}, IntsAre vs ns → Vals (ns.map V.int) vs
  | _, _, .nil => .nil
  | _, _, .cons n t h => .cons ⟨t, rfl⟩ (vals_ints h)
end L2
namespace L2
open PySem PySem.Spec PyProof.Rows
def inClass (s : Stmt) (j : Nat) : Stmt := match s with
  | .ClassDef _ _ _ body _ _ _ _ _ _ _ => body.getD j (.Pass ⟨0, 0, 0, 0⟩)
  | _ => .Pass ⟨0, 0, 0, 0⟩
def defArgs (s : Stmt) : Arguments := match s with
  | .FunctionDef _ a _ _ _ _ _ _ _ _ => a
  | _ => { posonlyargs := [], args := [], vararg := none, kwonlyargs := [], kw_defaults := [], kwarg := none, defaults := [] }
def defBody (s : Stmt) : List Stmt := match s with
  | .FunctionDef _ _ b _ _ _ _ _ _ _ => b
  | _ => []
def defScope (s : Stmt) : Scope := match s with
  | .FunctionDef _ _ _ _ _ _ sc _ _ _ => sc
  | _ => { kind := .function, names := [], isGenerator := false, isCoroutine := false }
abbrev CX0 : CXT := fun _ _ _ _ _ _ => False
abbrev E0 : XK := fun _ _ _ => False
theorem pass0 {X : Cx} : Passes CX0 X E0 := fun _ _ _ _ _ _ _ h => h.elim
structure Fun (K : PySem.W.Frag) (x qual : Str) (st : Stmt) (f : Addr) (fd : FuncData) : Prop where
  ex : ∃ (oc : Value) (od : Option Addr) (kV doc pm : Value) (an : Option Addr) (cdv ct : Value) (osl : Array (Option Value)),
    fd = PySem.W.fnOf x qual (defArgs st) (defBody st) (defScope st) .none kV doc pm an cdv ct ∧ K.lookup f = some ⟨oc, od, .func fd, osl⟩ ∧ PySem.W.codeIn K cdv qual = true
  kp : PySem.W.keepIn K (.ref f) = true
section
variable {P : Program} {w : World} {K : PySem.W.Frag} {mg : Str → Option Value} {base : Heap}
theorem Fun.ok {x qual : Str} {st : Stmt} {f : Addr} {fd : FuncData} {N ps : List Str} {k : Nat} {sp : Sp} (F : Fun K x qual st f fd) (S : FnScope N ps (defScope st)) (len : ∀ vs H Q E, sp vs H Q E → vs.length = ps.length)
    (hbody : ∀ (cdv : Value) (A : Around) (outer : List Env) (s : Shared) (H : Hp) (vs : List V) (Q : VK) (E : XK), Room k (A.deeper (envOfC qual (defScope st) s.heap.objs.size f cdv)) → sp vs H Q E →
      ∃ t, PSs (cxOf CX0 P w K mg base N qual (defScope st) f cdv A outer s H E).nox (defBody st) t ∧ t { nx := fun _ H' => Q .non H', rt := Q } (start N vs) H) : FnOk P w K mg base CX0 (k + 1) f fd ps sp := by
  obtain ⟨oc, od, kV, doc, pm, an, cdv, ct, osl, rfl, lk, hcd⟩ := F.ex
  refine fn_of lk hcd S len fun A outer s H vs Q E hr hsp => ?_
  obtain ⟨t, h, q⟩ := hbody cdv A outer s H vs Q E hr hsp
  exact ⟨t, h.nox, q⟩
theorem Fun.binds {x qual : Str} {st : Stmt} {f : Addr} {fd : FuncData} {ps : List Str} (F : Fun K x qual st f fd)
    (h : ∀ (kV doc pm : Value) (an : Option Addr) (cdv ct : Value) (us : List Value), us.length = ps.length → bindArgs (PySem.W.fnOf x qual (defArgs st) (defBody st) (defScope st) .none kV doc pm an cdv ct) ⟨us, []⟩ = pure (ps.zip us)) : Binds K fd ps [] := by
  obtain ⟨oc, od, kV, doc, pm, an, cdv, ct, osl, rfl, lk, hcd⟩ := F.ex
  exact .all (h kV doc pm an cdv ct)
theorem fun_mk {x qual : Str} {st : Stmt} {f : Addr} {oc : Value} {od an : Option Addr} {osl : Array (Option Value)} {kV doc pm cdv ct : Value} (l : K.lookup f = some ⟨oc, od, .func (PySem.W.fnOf x qual (defArgs st) (defBody st) (defScope st) .none kV doc pm an cdv ct), osl⟩)
    (c : PySem.W.codeIn K cdv qual = true) (k : PySem.W.keepIn K (.ref f) = true) : Fun K x qual st f (PySem.W.fnOf x qual (defArgs st) (defBody st) (defScope st) .none kV doc pm an cdv ct) := ⟨⟨oc, od, kV, doc, pm, an, cdv, ct, osl, rfl, l, c⟩, k⟩
end
section
variable {X : Cx}
theorem pv (i : Nat) {x : Str} {pos : Pos} (hN : X.N[i]? = some x := by rfl) (hv : Vis X.env.scope x := by first | exact Or.inl rfl | exact Or.inr (Or.inl rfl) | exact Or.inr (Or.inr rfl)) (hd : (x == ("__debug__" : Str)) = false := by decide)
    (hcd : (x == ("__classdict__" : Str)) = false := by decide) : PE X (.Name x pos) (tVar i) := pe_var hN hv hd hcd
end
theorem iteF {A B : Prop} (h : B) : if false = true then A else B := by
  rw [if_neg Bool.false_ne_true]
  exact h
theorem iteT {A B : Prop} (h : A) : if true = true then A else B := by
  rw [if_pos rfl]
  exact h
theorem ite2 {c A B : Prop} [Decidable c] (h1 : c → A) (h2 : ¬ c → B) : if c then A else B := by
  by_cases h : c
  · rw [if_pos h]
    exact h1 h
  · rw [if_neg h]
    exact h2 h
def Same (H H' : Hp) : Prop := ∀ b o, H b = some o → H' b = some o
theorem Same.refl (H : Hp) : Same H H := fun _ _ h => h
theorem Same.trans {H H1 H2 : Hp} (a : Same H H1) (b : Same H1 H2) : Same H H2 := fun c o h => b c o (a c o h)
theorem Same.free {H H' : Hp} (e : Same H H') {l : Addr} (h : H' l = Option.none) : H l = Option.none := by
  cases q : H l with
  | none => rfl
  | some o =>
    rw [e l o q] at h
    cases h
section
variable {κ : Type} [DecidableEq κ]
theorem nd_snoc : ∀ {l : List κ} {k : κ}, l.Nodup → ¬ k ∈ l → (l ++ [k]).Nodup
  | [], k, _, _ => by simp
  | a :: r, k, h, hk => by
    obtain ⟨h1, h2⟩ := List.nodup_cons.mp h
    show (a :: (r ++ [k])).Nodup
    refine List.nodup_cons.mpr ⟨fun m => ?_, nd_snoc h2 fun m => hk (List.mem_cons.mpr (Or.inr m))⟩
    rcases List.mem_append.mp m with q | q
    · exact h1 q
    · exact hk (List.mem_cons.mpr (Or.inl (List.mem_singleton.mp q).symm))
end
theorem at_of {xs : List V} {z : Int} {j : Nat} {v : V} (e : z = (j : Int)) (h : xs[j]? = some v) : atI xs z = some v := by
  rw [e]
  exact atI_nat h
theorem nd_ix {α : Type} {l : List α} (hN : l.Nodup) {i j : Nat} {x : α} (a : l[i]? = some x) (b : l[j]? = some x) : i = j := by
  obtain ⟨h1, e1⟩ := List.getElem?_eq_some_iff.mp a
  obtain ⟨h2, e2⟩ := List.getElem?_eq_some_iff.mp b
  exact (List.getElem_inj hN).mp (e1.trans e2.symm)
end L2
set_option Elab.async false
set_option linter.all false
set_option maxRecDepth 100000
namespace L2
open PySem PySem.Spec PySem.W PyProof.Rows
def vErr : List Value := [.type "ValueError", .type "Exception", .type "BaseException", .type "object"]
def endsExc : List Value → Bool
  | [] => false
  | v :: r => (v :: r) == vErr || match v with
    | .ref _ => endsExc r
    | _ => false
def excOver (K : Frag) (C : Addr) : Bool := (clsIn K C).any fun cd => endsExc cd.mro
theorem refuse_exc (self : Value) {l : List Value} : endsExc l = true → refuseLoop self "__setattr__" l = pure () := by
  induction l with
  | nil => exact fun e => nomatch e
  | cons v r ih =>
    intro e
    by_cases q : v :: r = vErr
    · rw [q]; exact PySem.F.store_ValueError.passes self
    · cases v with
      | ref a => rw [refuseLoop_ref]; exact ih (by simpa [endsExc, q] using e)
      | _ => simp [endsExc, q] at e
structure XCls (K : Frag) (C : Addr) : Prop where
  ga : findIn K (.ref C) "__getattribute__" = some (some (.builtin "BaseException.__getattribute__"))
  gh : findIn K (.ref C) "__getattr__" = some none
  mb : mroIn K C (.type "BaseException") = some true
  mo : mroIn K C (.type "object") = some true
  hd : hasDictIn K C = true
  cl : findIn K (.ref C) "__class__" = some (some (.builtin "object.__class__"))
  cg : specialIn K (.builtin "object.__class__") "__get__" = some (some (.builtin "getset_descriptor.__get__"))
  ct : takesIn K (.builtin "object.__class__") = some true
  ov : excOver K C = true
  sa : findIn K (.ref C) "__setattr__" = some (some (.builtin "object.__setattr__"))
theorem findObj_bind {K : Frag} {C : Addr} {od : Option Obj} {name : Str} {a g : Value} (hc : (clsIn K C).isSome = true) (ha : findIn K (.ref C) name = some (some a)) (hg : specialIn K a "__get__" = some (some g)) (ht : takesIn K a = some true) :
    findObj K C od name = some (.bind g a) := by
  cases e : clsIn K C with
  | none => rw [e] at hc; cases hc
  | some cd => simp [findObj, e, ha, hg, ht]
section
variable {prog : Program} {w : World} {A : Around} {E : Value → Shared → Prop} {s : Shared} {K : Frag} {x C : Addr} {ox : Obj} {od : Option Obj} {name : Str} {expr fill : Bool}
theorem x_by {tk : Tok} {Q : Value → Shared → Prop} {v : Value} (X : K.In s.heap) (I : InstAt s.heap x ox C od) (T : XCls K C)
    (hc : codeAny (model prog w) A (.call (.builtin "BaseException.__getattribute__") ⟨[.ref x, .str name tk], []⟩) (fun r s' => r = .ok (.ret v) ∧ Q v s') s) (hh : handedIn v = true) :
    wpAny (model prog w) A (getAttrBy (.ref x) (.str name tk) fill expr) Q E s := by
  have b3 := PySem.F.attr_ValueError.ga.bind (.ref x)
  obtain ⟨hp, gs, dr, n, os⟩ := s
  cases expr <;>
  · wp_walk using (I.type (M := model prog w)).at, (looks_findIn (M := model prog w) X T.ga).at, (looks_findIn (M := model prog w) X T.gh).at
    exact codeAny_mono hc fun r s' z => by rw [z.1]; exact wpAny_of_eq (handedOut_of hh) z.2
theorem x_entry {tk : Tok} {R : Result → Shared → Prop} (X : K.In s.heap) (I : InstAt s.heap x ox C od) (T : XCls K C)
    (h : wpAny (model prog w) A.in1 (Builtin.«object.__getattribute__» ⟨[.ref x, .str name tk], []⟩) (fun fin s' => match fin with | .done f => R (.ok f) s' | .again c' => c'.quiet = true ∧ codeAny (model prog w) A c' R s') (fun e s' => R (.error e) s') s) :
    codeAny (model prog w) A (.call (.builtin "BaseException.__getattribute__") ⟨[.ref x, .str name tk], []⟩) R s := by
  have hk : builtinKind "BaseException.__getattribute__" = some .slot ∧ splitId "BaseException.__getattribute__" = some ("BaseException", "__getattribute__") := by decide +kernel
  refine codeAny_call_builtin PySem.F.attr_ValueError.ga.plain PySem.F.entry_bexc_ga ?_
  exact check_slot (M := model prog w) (i := "BaseException.__getattribute__") (self := .ref x) (rest := [.str name tk]) (kw := []) hk.1 hk.2 (I.type.andThen (looks_mroIn X T.mb)) (PySem.F.args_bexc_ga (.ref x) (.str name tk)) h
theorem x_class {tk : Tok} {R : Result → Shared → Prop} (X : K.In s.heap) (I : InstAt s.heap x ox C od) (T : XCls K C) (h : R (.ok (.ret (.ref C))) s) :
    codeAny (model prog w) A (.call (.builtin "BaseException.__getattribute__") ⟨[.ref x, .str "__class__" tk], []⟩) R s := by
  have hf : findObj K C od "__class__" = some (.bind (.builtin "getset_descriptor.__get__") (.builtin "object.__class__")) := findObj_bind (by obtain ⟨cd, hc, _⟩ := any_some T.hd; rw [hc]; rfl) T.cl T.cg T.ct
  refine x_entry X I T ?_
  obtain ⟨hp, gs, dr, n, os⟩ := s
  wp_walk using (I.type (M := model prog w)).at, (looks_find (M := model prog w) X I hf).at
  exact class_get (ox := ox) (od := od) X I T.mo (wpAny_pure h)
theorem x_cls {Q : Option Value → Shared → Prop} (X : K.In s.heap) (I : InstAt s.heap x ox C od) (T : XCls K C) (h : Q (some (.ref C)) { s with toks := s.toks + 1 }) :
    wpAny (model prog w) A (getAttr? (.ref x) "__class__") Q E s := by
  unfold getAttr? getAttrBy?
  refine wpAny_bind (wpAny_mkText (wpAny_bind (wpAny_attempt (x_by (s := { s with toks := s.toks + 1 }) (v := .ref C) X I T (x_class (s := { s with toks := s.toks + 1 }) X I T ⟨rfl, ?_⟩) rfl))))
  exact wpAny_pure h
end
section
variable {prog : Program} {w : World} {A : Around} {E : Value → Shared → Prop} {s : Shared} {K : Frag} {x C : Addr} {ox : Obj} {od : Option Obj} {name : Str}
theorem x_osa {tk : Tok} {v : Value} {R : Result → Shared → Prop} (X : K.In s.heap) (I : InstAt s.heap x ox C od) (T : XCls K C) (ht : findIn K (.ref C) name = some none)
    (h : ∀ b, wpAny (model prog w) A.in1 (Builtin.ObjectAttr.storeInOwnDict (.ref x) (.ref C) (.str name tk) name v b)
      (fun f s' => match f with | .done u => R (.ok u) s' | .again c' => c'.quiet = true ∧ codeAny (model prog w) A c' R s') (fun e s' => R (.error e) s') s) :
    codeAny (model prog w) A (.call (.builtin "object.__setattr__") ⟨[.ref x, .str name tk, v], []⟩) R s := by
  obtain ⟨cd, hc, ho⟩ := any_some T.ov
  have kept : Looks (model prog w) s.heap (mroOf (.ref C)) cd.mro := (looks_clsIn X hc).andThen .now
  refine codeAny_call_builtin PySem.F.store_object.slot.plain PySem.F.store_object.entry ?_
  refine check_slot (M := model prog w) (i := "object.__setattr__") (self := .ref x) (rest := [.str name tk, v]) (kw := []) PySem.F.store_object.kind PySem.F.store_object.split (I.type.andThen (looks_mroIn X T.mo)) (PySem.F.store_object.args (.ref x) (.str name tk) v) ?_
  rw [osa_eq, refuse_eq]
  obtain ⟨hp, gs, dr, n, os⟩ := s
  have own : Looks (model prog w) hp (typeOf (.ref x)) (.ref C) := I.type
  have mro : Looks (model prog w) hp (mroOf (.ref C)) cd.mro := kept
  have no : Looks (model prog w) hp (typeLookup (.ref C) name) none := looks_findIn X ht
  repeat (first
    | (with_reducible show wpAny _ _ (Builtin.ObjectAttr.storeInOwnDict _ _ _ _ _ _) _ _ _); exact h _
    | with_reducible apply own.at | with_reducible apply mro.at | with_reducible apply wpAny_of_eq (refuse_exc _ ho) | with_reducible apply no.at | wp_step)
theorem x_set1 {v : Value} {dx : Addr} {fl : Array Value} {sl : Array (Option Value)} {mA : Str → Option Value} {ns : List Str} {Q : Unit → Shared → Prop} (X : K.In s.heap) (hx : s.heap.get? x = some ⟨.ref C, some dx, .fields fl, sl⟩) (n : s.heap.Ns1 dx mA) (hne : dx ≠ x)
    (T : XCls K C) (ht : findIn K (.ref C) name = some none) (hw : PySem.Within mA ns) (hsz : ns.length ≤ sizeLine)
    (h : ∀ h', h'.Ns1 dx (fun y => if y = name then some v else mA y) → Heap.SameBut dx s.heap h' → Q () { s with heap := h', toks := s.toks + 2 }) :
    wpAny (model prog w) A (setAttr (.ref x) name v) Q E s := by
  obtain ⟨odx, _, _, hdx, _⟩ := id n
  have I : InstAt s.heap x ⟨.ref C, some dx, .fields fl, sl⟩ C (some odx) := ⟨hx, rfl, rfl, hdx⟩
  obtain ⟨cd, hc, hd'⟩ := any_some T.hd
  obtain ⟨hp, gs, dr, tk, os⟩ := s
  have cls : Looks (model prog w) hp (classData C) cd := looks_clsIn X hc
  replace hx : hp.get? x = some ⟨.ref C, some dx, .fields fl, sl⟩ := hx
  refine set_plain X I T.sa (x_osa (s := ⟨hp, gs, dr, tk + 1, os⟩) X I T ht fun b => ?_)
  wp_walk using cls.at, wpAny_nsSet1 (s := ⟨hp, gs, dr, tk + 1, os⟩) n
  intro h' n' sb
  obtain ⟨oD, _, _, hoD, hdD, small⟩ := n'.count (PySem.Within.cons name v hw)
  have fits : oD.data.pastItsLine = none := by rw [hdD]; exact pastItsLine_dict (Nat.le_trans small (by simp only [List.length_cons]; omega))
  wp_walk using wpAny_lookBehind (s := ⟨h', gs, dr, tk + 2, os⟩) hoD fits
  exact h _ n' sb
theorem x_set0 {v : Value} {fl : Array Value} {sl : Array (Option Value)} {Q : Unit → Shared → Prop} (X : K.In s.heap) (hx : s.heap.get? x = some ⟨.ref C, none, .fields fl, sl⟩)
    (T : XCls K C) (ht : findIn K (.ref C) name = some none)
    (h : ∀ h' dx, s.heap.objs.size ≤ dx → h'.get? x = some ⟨.ref C, some dx, .fields fl, sl⟩ → h'.Ns1 dx (fun y => if y = name then some v else none) → (∀ b o, b ≠ x → s.heap.get? b = some o → h'.get? b = some o) → Q () { s with heap := h', toks := s.toks + 2 }) :
    wpAny (model prog w) A (setAttr (.ref x) name v) Q E s := by
  have I : InstAt s.heap x ⟨.ref C, none, .fields fl, sl⟩ C none := ⟨hx, rfl, rfl, True.intro⟩
  obtain ⟨cd, hc, hd'⟩ := any_some T.hd
  obtain ⟨hp, gs, dr, tk, os⟩ := s
  have cls : Looks (model prog w) hp (classData C) cd := looks_clsIn X hc
  replace hx : hp.get? x = some ⟨.ref C, none, .fields fl, sl⟩ := hx
  have away : x ≠ hp.objs.size := Nat.ne_of_lt (Heap.lt_size hx)
  refine set_plain X I T.sa (x_osa (s := ⟨hp, gs, dr, tk + 1, os⟩) X I T ht fun b => ?_)
  have dict0 : ((hp.push { cls := .type "dict", data := .dict #[] }).update x fun o => { o with dict := some hp.objs.size }).get? hp.objs.size = some { cls := .type "dict", data := .dict #[] } := by
    rw [Heap.get?_update_ne _ _ _ _ (Ne.symm away)]; heap_get
  have ns0 : ((hp.push { cls := .type "dict", data := .dict #[] }).update x fun o => { o with dict := some hp.objs.size }).Ns1 hp.objs.size (fun _ => none) :=
    .of_empty ⟨_, _, _, dict0, rfl, fun e m => (Array.not_mem_empty e m).elim, fun _ => rfl⟩
  wp_walk using cls.at, wpAny_nsSet1 (s := ⟨_, gs, dr, tk + 1, os⟩) ns0
  intro h' n' sb
  obtain ⟨oD, _, _, hoD, hdD, small⟩ := n'.count (PySem.Within.cons name v PySem.Within.nil)
  have fits : oD.data.pastItsLine = none := by rw [hdD]; exact pastItsLine_dict (Nat.le_trans small (by rw [sizeLine_eq]; simp only [List.length_cons, List.length_nil]; omega))
  wp_walk using wpAny_lookBehind (s := ⟨h', gs, dr, tk + 2, os⟩) hoD fits
  refine h h' hp.objs.size (Nat.le_refl _) ?_ n' fun b ob hb e => ?_
  · rw [sb.2 x away]; exact Heap.get?_update_self _ (Heap.get?_push_of_some _ hx) rfl
  · have lt := Heap.lt_size e
    rw [sb.2 b (Nat.ne_of_lt lt), Heap.get?_update_ne _ _ _ _ hb]; exact Heap.get?_push_of_some _ e
end
theorem XCls.at {K : Frag} {C : Addr} (T : XCls K C) {h : Heap} (X : K.In h) : ∃ c d cd sl, h.get? C = some ⟨c, d, .cls cd, sl⟩ := by
  obtain ⟨cd, e, _⟩ := any_some T.hd
  unfold clsIn at e
  split at e
  · rename_i q; exact ⟨_, _, _, _, X _ _ q⟩
  · cases e
theorem kitx_exc {K : Frag} {x C : Addr} {ox : Obj} {od : Option Obj} (T : XCls K C) : KitX K (.ref x) (.ref C) (fun h => InstAt h x ox C od) where
  ty := fun _ _ _ I => I.type
  it := fun _ _ X _ => by
    obtain ⟨c, d, cd, sl, e⟩ := T.at X
    intro A' Q' E' s' k q
    have e' := k _ _ e
    obtain ⟨hp, gs, dr, n, os⟩ := s'
    wp_walk using wpAny_loadPart_at e'
    exact q
  ne := by
    intro h tp dd its n sl X htp
    obtain ⟨c, d, cd, s2, e⟩ := T.at X
    cases q : (Value.ref C == Value.ref tp) with
    | false => rfl
    | true => cases beq_iff_eq.mp q; rw [htp] at e; cases e
  ca := fun X I k => x_cls X I T k
abbrev tupObj (rest : List Value) : Obj := { cls := .type "tuple", data := .seq rest.toArray }
abbrev excObj (C t : Addr) : Obj := { cls := .ref C, data := .fields #[.ref t, .none, .none, .none, .bool false, .none] }
abbrev madeH (h : Heap) (C : Addr) (rest : List Value) : Heap := (h.push (tupObj rest)).push (excObj C h.objs.size)
theorem madeH_old {h : Heap} {C : Addr} {rest : List Value} (b : Addr) (o : Obj) (e : h.get? b = some o) : (madeH h C rest).get? b = some o := Heap.get?_push_of_some _ (Heap.get?_push_of_some _ e)
theorem madeH_new {h : Heap} {C : Addr} {rest : List Value} : (madeH h C rest).get? (h.objs.size + 1) = some (excObj C h.objs.size) := by
  have := Heap.get?_push_size (h.push (tupObj rest)) (o := excObj C h.objs.size) rfl
  rwa [Heap.size_push] at this
theorem ns_in_of {K : Frag} {h : Heap} {N : Addr} {mg : Str → Option Value} {n : Str} {r : Option Value} (X : K.In h) (G : h.Ns N mg) (e : nsIn K N n = some r) : mg n = r := by
  cases r with
  | none => exact ns_none_of X G e
  | some v =>
    have ⟨o, rows, ep, at_, hd, _, look⟩ := G
    unfold nsIn at e
    split at e
    · rename_i q
      cases (X _ _ q).symm.trans at_
      cases hd
      rw [← look]
      split at e
      · rename_i en he
        simp only [Option.some.injEq] at e
        simp [nsFind, findBy, ← Array.find?_toList, he, e]
      · split at e <;> cases e
    · cases e
def ownX (K : Frag) (C : Addr) (ini : Option Value) : Bool := (K.lookup C).any fun o => o.cls == .type "type" && o.slots.size == 6 && o.slots.toList[4]? == some (some (.builtin "ValueError.__new__")) &&
  match o.data with
  | .cls cd => cd.mro.head? == some (.ref C) && tailIn K vErr cd.mro.tail && !cd.hasDel && nsOkIn K cd.ns && nsIn K cd.ns "__init__" == some ini
  | _ => false
theorem ownX_of {K : Frag} {C : Addr} {ini : Option Value} {h : Heap} (X : K.In h) (e : ownX K C ini = true) :
    ∃ bm N nm q bs hdct sn sub ab col dd k0 k1 k2 k3 k5 mN, h.get? C = some (excClassObj nm q C N bs bm hdct sn sub ab col dd k0 k1 k2 k3 k5 "ValueError.__new__") ∧ h.Ns N mN ∧ mN "__init__" = ini ∧ OwnTail h vErr bm := by
  unfold ownX at e
  cases z : K.lookup C with
  | none => rw [z] at e; cases e
  | some o =>
    rw [z] at e
    obtain ⟨c, dd, dt, sl⟩ := o
    cases dt with
    | cls cd =>
      rcases cd with ⟨nm, bs, _ | ⟨m0, bm⟩, ns, qn, hdct, sn, sub, ab, col, del⟩
      · simp at e
      · simp only [Option.any_some, Bool.and_eq_true, beq_iff_eq, Bool.not_eq_true', List.head?_cons, List.tail_cons, Option.some.injEq] at e
        obtain ⟨⟨⟨hty, hsz⟩, h4⟩, ⟨⟨⟨hm, ht⟩, hdel⟩, hok⟩, hni⟩ := e
        obtain ⟨k0, k1, k2, k3, k5, hl⟩ := six_places (l := sl.toList) (by simpa using hsz) h4
        have hs : sl = #[k0, k1, k2, k3, some (.builtin "ValueError.__new__"), k5] := by rw [← Array.toArray_toList (xs := sl), hl]
        subst hs hm hdel hty
        exact ⟨bm, ns, nm, qn, bs, hdct, sn, sub, ab, col, dd, k0, k1, k2, k3, k5, _, X _ _ z, .of_isNs (isNs_of_in X hok), ns_in_of X (.of_isNs (isNs_of_in X hok)) hni, tail_of_in X ht⟩
    | _ => simp at e
theorem bind_fn {M : Model} {A : Around} {E : Value → Shared → Prop} {s : Shared} {f x : Value} {Q : Value × List Value → Shared → Prop} (k : s.TypeIs f "function") (q : Q (f, [x]) s) : wpAny M A (bindSpecial f x) Q E s := by
  unfold bindSpecial
  wp_walk
  exact q
section
variable {prog : Program} {w : World} {A : Around} {E : Value → Shared → Prop} {s : Shared} {K : Frag} {C : Addr} {rest : List Value} {Q : Value → Shared → Prop}
theorem x_make_i {fI : Addr} (X : K.In s.heap) (e : ownX K C (some (.ref fI)) = true) (hf : isFn K (.ref fI) = true) (hrest : rest.length ≤ sizeLine)
    (hq : wpAny (model prog w) (A.under (.builtin "type.__call__" ⟨.ref C :: rest, []⟩)) (call (.ref fI) (.ref (s.heap.objs.size + 1) :: rest)) (fun r s' => r = .none ∧ Q (.ref (s.heap.objs.size + 1)) s') E
      { s with heap := (s.heap.push (tupObj rest)).push (excObj C s.heap.objs.size) }) :
    wpAny (model prog w) A (call (.ref C) rest) Q E s := by
  obtain ⟨h, g, d, t, os⟩ := s
  obtain ⟨bm, N, nm, q, bs, hdct, sn, sub, ab, col, dd, k0, k1, k2, k3, k5, mN, hC, hN, hi, tl⟩ := ownX_of X e
  replace hC : h.get? C = some _ := hC
  obtain ⟨oI, ho, hoc⟩ := Option.map_eq_some_iff.mp (show typeIn K (.ref fI) = some (.type "function") from beq_iff_eq.mp hf)
  have F := PySem.F.excBase_ValueError
  have c1 := tc_lookup
  have c2 := tc_bind (.ref C)
  have c3 : Shared.TypeIs ⟨h, g, d, t, os⟩ (.ref C) "type" := ⟨_, hC, rfl⟩
  refine wpAny_call (codeAny_of_tree ?_)
  wp_walk using wpAny_loadPart_at hC
  refine ⟨rfl, codeAny_call_builtin_at (Code.quiet_builtin _ (by decide +kernel)) entry_typeCall (wpAny_check_type_call_sub hC ?_)⟩
  wp_walk using wpAny_madeBy_exc hC, wpAny_loadPart_at hC
  refine codeAny_call_builtin_code (Code.quiet_builtin _ F.quiet) (wpAny_check_new_subU F (by decide +kernel) tl hC (codeAny_exc_new_subU F (by decide +kernel) F tl hC ?_ hrest))
  have kC : (madeH h C rest).get? C = some _ := madeH_old _ _ hC
  have kN : (madeH h C rest).Ns N mN := let ⟨o, x, y, z, r⟩ := hN; ⟨o, x, y, madeH_old _ _ z, r⟩
  have kI : Shared.TypeIs ⟨madeH h C rest, g, d, t, os⟩ (.ref fI) "function" := ⟨_, madeH_old _ _ (X _ _ ho), hoc⟩
  have kS : ((Value.ref C :: bm).contains (.ref C)) = true := by simp
  show wpAny _ _ _ _ _ ⟨madeH h C rest, g, d, t, os⟩
  wp_walk using wpAny_loadPart_at madeH_new, wpAny_isSubtype_exc kC, wpAny_typeLookup_tail kC kN (tl.keeps madeH_old) F.mroIs F.init.lookup
  rw [hi]
  refine wpAny_holding (wpAny_bind (bind_fn kI (wpAny_bind (wpAny_mono hq (fun r s' z => ?_) fun _ _ z => z))))
  obtain ⟨rfl, z⟩ := z
  wp_walk
  exact z
end
end L2
set_option Elab.async false
set_option linter.all false
set_option maxRecDepth 100000
namespace L2
open PySem PySem.Spec PyProof.Rows
def Xn (a C : Addr) (dx : Option Addr) : HO := .ext fun h => ∃ (fl : Array Value) (sl : Array (Option Value)), h.get? a = some ⟨.ref C, dx, .fields fl, sl⟩
theorem Xn_ok {P : Program} {w : World} {H : Hp} {h : Heap} {a C : Addr} {dx : Option Addr} (e : ∃ (fl : Array Value) (sl : Array (Option Value)), h.get? a = some ⟨.ref C, dx, .fields fl, sl⟩) : ObjOk P w H h a (Xn a C dx) := by
  refine ⟨e, ?_, fun h1 h2 ⟨fl, sl, q⟩ k => ⟨fl, sl, k _ q⟩⟩
  obtain ⟨fl, sl, e⟩ := e
  exact ⟨_, e⟩
theorem Xn_at {P : Program} {w : World} {H : Hp} {h : Heap} {a C : Addr} {dx : Option Addr} (hok : HOk P w H h) (e : H a = some (Xn a C dx)) : ∃ (fl : Array Value) (sl : Array (Option Value)), h.get? a = some ⟨.ref C, dx, .fields fl, sl⟩ := (hok a _ e).1
inductive TyX (K : PySem.W.Frag) (H : Hp) : V → Value → Prop where
  | any {x : V} {t : Value} : TyOf K H x t → TyX K H x t
  | exn {a C : Addr} {dx : Addr} {fs : List (Str × V)} : H a = some (Xn a C (some dx)) → H dx = some (.xd fs) → XCls K C → TyX K H (.ref a) (.ref C)
  | exn0 {a C : Addr} : H a = some (Xn a C none) → XCls K C → TyX K H (.ref a) (.ref C)
def clsV : V → Value → Prop
  | .ref a, u => u = .ref a
  | .ty n, u => u = .type n
  | _, _ => False
def rIsi (K : PySem.W.Frag) : List V → Hp → VK → Prop := fun xs H Q => ∃ x c t u b, xs = [x, c] ∧ TyX K H x t ∧ clsV c u ∧ PySem.W.kitOne K t u = some b ∧ Q (.bl b) H
section
variable {X : Cx}
theorem call_isi : CallR X (.builtin "isinstance") (rIsi X.K) := by
  intro pins s σ H xs us Q I r h
  obtain ⟨x, c, t, cu, b, rfl, ty, hc, hk, q⟩ := h
  obtain ⟨u, w', rfl, r1, r2⟩ := vals2 r
  have ew : w' = cu := by
    cases c with
    | ref a => exact (show w' = .ref a from r2).trans (show cu = .ref a from hc).symm
    | ty n => exact (show w' = .type n from r2).trans (show cu = .type n from hc).symm
    | _ => exact (show False from hc).elim
  subst ew
  have fin : ∀ tk, EP X pins σ Q (.bool b) { s with toks := tk } := fun tk => ⟨.bl b, H, I.tok tk, rfl, q⟩
  cases ty with
  | any ty => exact isinst_ok I r1 ty hk fin
  | @exn a C dx fs ea ed cl =>
    cases (show u = Value.ref a from r1)
    obtain ⟨fl, sl, hx⟩ := Xn_at I.hok ea
    obtain ⟨mA, ns, _⟩ := (show ObjOk X.prog X.w H s.heap dx (.xd fs) from I.hok dx _ ed)
    obtain ⟨od, ho, _⟩ := lookIn_ns ns
    have J : PySem.W.InstAt s.heap a ⟨.ref C, some dx, .fields fl, sl⟩ C (some od) := ⟨hx, rfl, rfl, ho⟩
    exact PySem.W.kia_one (kitx_exc cl) I.kIn J hk (fun z => nomatch z) fin
  | @exn0 a C ea cl =>
    cases (show u = Value.ref a from r1)
    obtain ⟨fl, sl, hx⟩ := Xn_at I.hok ea
    have J : PySem.W.InstAt s.heap a ⟨.ref C, none, .fields fl, sl⟩ C none := ⟨hx, rfl, rfl, True.intro⟩
    exact PySem.W.kia_one (kitx_exc cl) I.kIn J hk (fun z => nomatch z) fin
end
end L2
set_option Elab.async false
set_option linter.all false
set_option maxRecDepth 100000
set_option maxHeartbeats 1000000
namespace L2
open PySem PySem.Spec PyProof.Rows
section
variable {prog : Program} {w : World} {A : Around} {E : Value → Shared → Prop} {s : Shared}
theorem nextOf_tup_item {it t : Addr} {i : Nat} {items : Array Value} {x : Value} {Q : Value → Shared → Prop} (hit : s.heap.IsTupleIter it t i) (ht : s.heap.IsTuple t items) (hx : items[i]? = some x)
    (hQ : ∀ h', h'.IsTupleIter it t (i + 1) → Heap.SameBut it s.heap h' → Q x { s with heap := h' }) : wpAny (model prog w) A (Builtin.SmallTypes.nextOf (.ref it)) Q E s := by
  have ty := hit.typeIs
  obtain ⟨hp, gs, dr, tk, os⟩ := s
  obtain ⟨⟨c, d, dt, sl⟩, ho, hc, hd⟩ := hit
  obtain ⟨⟨c2, d2, dt2, sl2⟩, ho2, hc2, n, hd2⟩ := ht
  cases hc; cases hd; cases hc2; cases hd2
  replace ho : hp.get? it = some _ := ho
  replace ho2 : hp.get? t = some _ := ho2
  refine wpAny_bind (wpAny_callSpecial?_slot (name := Str.ofString "__next__") ty F.slot_tuple_iterator_next (wpAny_call_entry F.slot_tuple_iterator_next ty F.entry_tuple_iterator_next ?_ (F.args_tuple_iterator_next_1 _)))
  wp_walk
  rw [Int.toNat_natCast, hx]
  wp_walk
  refine ⟨x, rfl, ?_⟩
  wp_walk
  refine hQ _ ⟨_, Heap.get?_update_self _ ho rfl, rfl, ?_⟩ (Heap.SameBut.update ..)
  simp [Obj.mapFields, rawInt]
theorem nextOf_tup_end {it t : Addr} {i : Nat} {items : Array Value} {Q : Value → Shared → Prop} (hh : A.handled = none) (hit : s.heap.IsTupleIter it t i) (ht : s.heap.IsTuple t items) (hx : items[i]? = none)
    (hE : ∀ h' e, Heap.ExtBut it s.heap h' → (∃ o, h'.get? e = some o ∧ o.cls = .type "StopIteration") → E (.ref e) { s with heap := h' }) : wpAny (model prog w) A (Builtin.SmallTypes.nextOf (.ref it)) Q E s := by
  have ty := hit.typeIs
  obtain ⟨hp, gs, dr, tk, os⟩ := s
  obtain ⟨⟨c, d, dt, sl⟩, ho, hc, hd⟩ := hit
  obtain ⟨⟨c2, d2, dt2, sl2⟩, ho2, hc2, n, hd2⟩ := ht
  cases hc; cases hd; cases hc2; cases hd2
  replace ho : hp.get? it = some _ := ho
  replace ho2 : hp.get? t = some _ := ho2
  refine wpAny_bind (wpAny_callSpecial?_slot (name := Str.ofString "__next__") ty F.slot_tuple_iterator_next (wpAny_call_entry F.slot_tuple_iterator_next ty F.entry_tuple_iterator_next ?_ (F.args_tuple_iterator_next_1 _)))
  wp_walk
  rw [Int.toNat_natCast, hx]
  have hh' : A.in1.handled = none := hh
  wp_walk
  unfold raiseNew
  wp_walk
  exact hE _ _ (fun b o hb e => Heap.get?_push_of_some _ (Heap.get?_push_of_some _ ((Heap.get?_update_ne _ _ _ _ hb).trans e))) ⟨_, Heap.get?_push_size _ rfl, rfl⟩
end
theorem tupIter_at {h h' : Heap} {it t : Addr} {i : Nat} (x : h.IsTupleIter it t i) (k : ∀ o, h.get? it = some o → h'.get? it = some o) : h'.IsTupleIter it t i := let ⟨o, ho, r⟩ := x; ⟨o, k o ho, r⟩
theorem tup_at {h h' : Heap} {t : Addr} {items : Array Value} (x : h.IsTuple t items) (k : ∀ o, h.get? t = some o → h'.get? t = some o) : h'.IsTuple t items := let ⟨o, ho, r⟩ := x; ⟨o, k o ho, r⟩
theorem draws_tuple {prog : Program} {w : World} {A : Around} (hh : A.handled = none) (it l : Addr) (hne : l ≠ it) (items : Array Value) :
    Draws prog w A it [it, l] items.size (fun i v => items[i]? = some v) (fun i h => h.IsTupleIter it l i ∧ h.IsTuple l items) := by
  constructor
  · rintro i h ⟨⟨o, e, _⟩, _⟩; exact ⟨o, e⟩
  · rintro i h h' ⟨p, q⟩ k; exact ⟨tupIter_at p (k it (by simp)), tup_at q (k l (by simp))⟩
  · rintro i s Q E lt ⟨p, q⟩ k
    have e : items[i]? = some items[i] := by simp [lt]
    exact nextOf_tup_item p q e fun h' p' sb => k _ h' s.toks e ⟨p', tup_at q fun o z => (sb.2 l hne).trans z⟩ sb
  · rintro s Q E ⟨p, q⟩ k; exact nextOf_tup_end hh p q (by simp) k
theorem draws_over {prog : Program} {w : World} {A : Around} (hh : A.handled = none) (it l : Addr) (items : Array Value) (n : Nat) (hx : items[n]? = none) :
    Draws prog w A it [it, l] n (fun _ _ => False) (fun i h => i = n ∧ h.IsTupleIter it l n ∧ h.IsTuple l items) := by
  constructor
  · rintro i h ⟨_, ⟨o, e, _⟩, _⟩; exact ⟨o, e⟩
  · rintro i h h' ⟨z, p, q⟩ k; exact ⟨z, tupIter_at p (k it (by simp)), tup_at q (k l (by simp))⟩
  · rintro i s Q E lt ⟨z, _⟩ k; omega
  · rintro s Q E ⟨_, p, q⟩ k; exact nextOf_tup_end hh p q hx k
abbrev te1 (h : Heap) (l : Addr) : Heap := h.push { cls := .type "tuple_iterator", data := .fields #[.ref l, .int 0 0] }
abbrev te2 (h : Heap) (l : Addr) : Heap := (te1 h l).push { cls := .type "enumerate", data := .fields #[.none, .bool false, .ref h.objs.size, rawInt 0, .none, .none] }
theorem meets_te (l : Addr) (items : Array Value) : Meets (Builtin.«enumerate.__new__» ⟨[.type "enumerate", .ref l], []⟩) (fun _ R s => s.heap.IsTuple l items ∧ R (.ok (.ret (.ref (te1 s.heap l).objs.size))) { s with heap := te2 s.heap l }) :=
  .of_wp fun prog w A R s h => by
    obtain ⟨hp, gs, dr, tk, os⟩ := s
    obtain ⟨tp, h⟩ := h
    have self := sub_enumerate
    replace tp : Heap.IsTuple (Shared.heap ⟨hp, gs, dr, tk, os⟩) l items := tp
    wp_walk using wpAny_stack_any
    intro st
    refine wpAny_pure ?_
    split
    · rename_i c _ _ _ _ _
      cases c == .type "enumerate" <;> (wp_walk using wpAny_pyIter_tuple tp; exact ⟨_, rfl, h⟩)
    · wp_walk using wpAny_pyIter_tuple tp
      exact ⟨_, rfl, h⟩
section
variable {prog : Program} {w : World} {A : Around} {E : Value → Shared → Prop} {s : Shared}
theorem call_enum_tuple {l : Addr} {items : Array Value} {Q : Value → Shared → Prop} (tp : s.heap.IsTuple l items)
    (h : ∀ h', IsEnum h' (s.heap.objs.size + 1) s.heap.objs.size 0 .none → h'.IsTupleIter s.heap.objs.size l 0 → h'.objs.size = s.heap.objs.size + 2 → (∀ b o, s.heap.get? b = some o → h'.get? b = some o) →
      Q (.ref (s.heap.objs.size + 1)) { s with heap := h' }) : wpAny (model prog w) A (call (.type "enumerate") [.ref l]) Q E s := by
  refine callType_new F.called_enumerate (by decide) (F.typeCall_enumerate_1 _) (F.newCall_enumerate_1 _) (fun obj => F.args_object_init_2 obj _) F.entry_enumerate_new (meets_te l items) ⟨tp, ?_⟩
  have z : (te1 s.heap l).objs.size = s.heap.objs.size + 1 := Heap.size_push ..
  have g2 : (te2 s.heap l).get? (te1 s.heap l).objs.size = some _ := Heap.get?_push_size _ rfl
  have g1 : (te2 s.heap l).get? s.heap.objs.size = some _ := Heap.get?_push_of_some _ (Heap.get?_push_size _ rfl)
  rw [z] at g2
  show _ ∧ _
  rw [z]
  exact ⟨⟨_, g2, rfl⟩, h _ g2 ⟨_, g1, rfl, rfl⟩ (by rw [Heap.size_push, z]) fun b o e => Heap.get?_push_of_some _ (Heap.get?_push_of_some _ e)⟩
theorem next_enumT_end {e it l : Addr} {i : Nat} {j : Int} {items : Array Value} {old : Value} {Q : Option Value → Shared → Prop} (hh : A.handled = none)
    (he : IsEnum s.heap e it j old) (hit : s.heap.IsTupleIter it l i) (hl : s.heap.IsTuple l items) (hx : items[i]? = none)
    (q : ∀ h', Heap.ExtBut it s.heap h' → Q none { s with heap := h' }) : wpAny (model prog w) A (pyNext (.ref e)) Q E s :=
  wpAny_pyNext_enum_endD (draws_over (A := A.in1) hh it l items i hx) he ⟨rfl, hit, hl⟩ q
end
def ItT (K : PySem.W.Frag) (a : Addr) : It :=
  ⟨fun i H => ∃ (xs : List V) (x : V), SqT K H a xs ∧ xs[i]? = some x, fun i H v H' => ∃ T x, v = .ref T ∧ H T = none ∧ H' = upd H T (.tup [.int (i : Nat), x]) ∧ ∀ xs, SqT K H a xs → xs[i]? = some x, fun i H => ∃ xs : List V, SqT K H a xs ∧ xs.length ≤ i⟩
theorem turn_enumT {P : Program} {w : World} {K : PySem.W.Frag} {elts : List Expr} {kk : Nat} {tpos : Pos} (a e it : Addr) :
    Turn P w K (.Tuple elts kk tpos) (ItT K a) [e, it] e (fun i h => (∃ old, IsEnum h e it ((i : Nat) : Int) old) ∧ h.IsTupleIter it a i ∧ e ≠ it ∧ a ≠ it ∧ a ≠ e) where
  mem := by simp
  obj := fun i h st b hb => by
    obtain ⟨⟨old, he⟩, ⟨o, ho, hc, hd⟩, _⟩ := st
    have e' : b = e ∨ b = it := by simpa using hb
    rcases e' with z | z
    · rw [z]; exact ⟨_, he, fun v q => nomatch q⟩
    · rw [z]; exact ⟨o, ho, fun v q => by rw [hd] at q; cases q⟩
  keep := fun i h h' st k => let ⟨⟨old, he⟩, hi, hne⟩ := st; ⟨⟨old, k e (by simp) _ he⟩, tupIter_at hi fun o q => k it (by simp) o q, hne⟩
  item := by
    intro X hP hw hK hc i pins s σ H E I hf st hg
    subst hP hw hK
    obtain ⟨⟨old, he⟩, hit, hne, hai, hae⟩ := st
    obtain ⟨xs, x, hq, hx⟩ := hg
    obtain ⟨its, rv, p, hz⟩ := I.tuple hq
    obtain ⟨u, hu, ru⟩ := rv.get hx
    have hel : e < s.heap.objs.size := Heap.lt_size he
    have hil : it < s.heap.objs.size := by obtain ⟨_, q, _⟩ := hit; exact Heap.lt_size q
    have hlt : i < its.toArray.size := by
      have := (List.getElem?_eq_some_iff.mp hu).1
      simpa using this
    refine wpAny_pyNext_enum_itemD (draws_tuple (A := X.A.in1) (I.ok.hd hc) it a hai its.toArray) he ⟨hit, p⟩ hlt hne (by simp [hne, Ne.symm hae]) fun x' h' tk hP ho hst hT hsz hk => ?_
    obtain rfl : u = x' := by
      have : its.toArray[i]? = some u := by simpa using hu
      rw [this] at hP
      exact Option.some.inj hP
    refine ⟨_, rfl, wpAny_letOwnedTupleGo_enum (s := { s with heap := h', toks := tk + 1 }) ho fun h'' he' sb => ?_⟩
    have hT2 : h''.get? s.heap.objs.size = some { cls := .type "tuple", data := .seq #[.int i tk, u] } := (sb.2 _ (Nat.ne_of_gt hel)).trans hT
    have new : ObjOk X.prog X.w (upd H s.heap.objs.size (.tup [.int (i : Nat), x])) h'' s.heap.objs.size (.tup [.int (i : Nat), x]) :=
      ⟨by show 2 ≤ sizeLine; decide, [.int i tk, u], .cons ⟨_, rfl⟩ (.cons ru .nil), ⟨_, hT2, rfl, _, rfl⟩⟩
    have I1 : Inv X pins σ (upd H s.heap.objs.size (.tup [.int (i : Nat), x])) { s with heap := h'', toks := tk + 1 } :=
      I.turnedNew (ch := [e, it]) (fun b ob hb q => (sb.2 b (fun z => hb (by simp [z]))).trans (hk b ob (fun z => hb (by simp [z])) (fun z => hb (by simp [z])) q)) hf (Nat.le_refl _) new
    refine ⟨.ref s.heap.objs.size, _, I1, rfl, ⟨_, x, rfl, I.hok.fresh (Nat.le_refl _), rfl, fun ys hy => by rw [I.tuple_inj hy hq]; exact hx⟩, ⟨⟨u, ?_⟩, tupIter_at hst.1 fun o q => (sb.2 it (Ne.symm hne)).trans q, hne, hai, hae⟩, fun b hb => ?_⟩
    · have e1 : ((i + 1 : Nat) : Int) = (i : Int) + 1 := by omega
      rw [e1]; exact he'
    · have hb' : b < s.heap.objs.size := by
        have e' : b = e ∨ b = it := by simpa using hb
        rcases e' with z | z
        · rw [z]; exact hel
        · rw [z]; exact hil
      rw [upd_ne (Nat.ne_of_lt hb')]
      exact (hf b hb).1
  done := by
    intro X hP hw hK hc i pins s σ H E I hf st hg
    subst hP hw hK
    obtain ⟨⟨old, he⟩, hit, hne, hai, hae⟩ := st
    obtain ⟨xs, hq, hx⟩ := hg
    obtain ⟨its, rv, p, hz⟩ := I.tuple hq
    obtain ⟨f0, f1, f2, f3, f4, f5⟩ := hf it (by simp)
    have hl := rv.length
    exact next_enumT_end (I.ok.hd hc) he hit p (by simp; omega) fun h' eb => ⟨rfl, I.turned (t' := s.toks) (fun b o hb q => eb b o hb q) f0 f1 f3 f4 f5⟩
  self := fun A i s Q E st h => let ⟨⟨_, he⟩, _⟩ := st; wpAny_pyIter_enum he h
def iEnumT (K : PySem.W.Frag) (ta : TA) : TI := fun σ H R => ta σ H fun vs H1 => ∃ a xs, vs = [.ref a] ∧ SqT K H1 a xs ∧ R (ItT K a) H1
theorem pi_enumT {X : Cx} {e : Expr} {ta : TA} {p pos tpos : Pos} {elts : List Expr} {kk : Nat} (hg : Gl X "enumerate") (hm : X.mg "enumerate" = none) (ha : PA X [e] ta) (hs : starEach [e] X.env = [(false, eval e X.env)] := by rfl) :
    PI X (.Tuple elts kk tpos) (.Call (.Name "enumerate" p) [e] [] pos) (iEnumT X.K ta) := by
  intro pins s σ H R I h
  refine Call_ (ld_blt I hg hm boot_enumerate (PyProof.Rows.callWith_type1 (thn (ha pos pins s σ H _ I h) fun us s1 ⟨vs, H1, I1, r1, q1⟩ => ?_) hs rfl))
  obtain ⟨a, xs, ex, hq, q⟩ := q1
  subst ex
  cases r1 with
  | cons r rr =>
    cases rr
    cases r
    obtain ⟨its, rv, p', hz⟩ := I1.tuple hq
    have hal : a < s1.heap.objs.size := by obtain ⟨_, z, _⟩ := p'; exact Heap.lt_size z
    refine call_enum_tuple p' fun h' he hit hsz hk => wpAny_pyIter_enum he ?_
    have I2 : Inv X pins σ H1 { s1 with heap := h' } := I1.kept (t' := s1.toks) hk
    refine ⟨s1.heap.objs.size + 1, [s1.heap.objs.size + 1, s1.heap.objs.size], _, _, H1, rfl, I2, turn_enumT a (s1.heap.objs.size + 1) s1.heap.objs.size, ⟨⟨.none, he⟩, hit, Nat.succ_ne_self _, Nat.ne_of_lt hal, Nat.ne_of_lt (Nat.lt_succ_of_lt hal)⟩, fun b hb => ?_, q⟩
    have e' : b = s1.heap.objs.size + 1 ∨ b = s1.heap.objs.size := by simpa using hb
    have hle : s1.heap.objs.size ≤ b := by
      rcases e' with z | z
      · rw [z]; exact Nat.le_add_right _ _
      · rw [z]; exact Nat.le_refl _
    exact I1.fpOk hle (I1.hok.fresh hle)
theorem for_enumT {K : PySem.W.Frag} {a : Addr} {xs : List V} {g : TG} {tb : TS} {D : Ends} {σ : St} {H : Hp} (Pv : Nat → St → Hp → Prop) (h0 : Pv 0 σ H) (hl : ∀ i σ H, i ≤ xs.length → Pv i σ H → SqT K H a xs)
    (hs : ∀ i x T σ H, xs[i]? = some x → Pv i σ H → H T = none → g (.ref T) σ (upd H T (.tup [.int (i : Nat), x])) fun σ2 H2 => tb { D with nx := Pv (i + 1), ct := Pv (i + 1), bk := D.nx } σ2 H2) (hd : ∀ σ H, Pv xs.length σ H → D.nx σ H) :
    ∃ W : Nat → Nat → St → Hp → Prop, (∃ m, W 0 m σ H) ∧ ∀ i m σ H, W i m σ H →
      ((ItT K a).stop i H ∧ D.nx σ H) ∨ ((ItT K a).go i H ∧ ∃ N : St → Hp → Prop, (∀ σ' H', N σ' H' → ∃ m', m' < m ∧ W (i + 1) m' σ' H') ∧ ∀ x H', (ItT K a).yld i H x H' → g x σ H' fun σ2 H2 => tb { D with nx := N, ct := N, bk := D.nx } σ2 H2) := by
  refine ⟨fun i m σ H => m = xs.length - i ∧ i ≤ xs.length ∧ Pv i σ H, ⟨xs.length, by simp, Nat.zero_le _, h0⟩, ?_⟩
  rintro i m σ H ⟨rfl, hi, p⟩
  have q := hl i σ H hi p
  by_cases hlt : i < xs.length
  · refine .inr ⟨⟨xs, xs[i], q, by simp [hlt]⟩, Pv (i + 1), fun σ' H' p' => ⟨xs.length - (i + 1), by omega, rfl, hlt, p'⟩, fun x H' y => ?_⟩
    obtain ⟨T, x', rfl, nT, rfl, hx⟩ := y
    exact hs i x' T σ H (hx xs q) p nT
  · have e : i = xs.length := by omega
    subst e
    exact .inl ⟨⟨xs, q, Nat.le_refl _⟩, hd σ H p⟩
theorem for_enum {K : PySem.W.Frag} {a : Addr} {xs : List V} {g : TG} {tb : TS} {D : Ends} {σ : St} {H : Hp} (Pv : Nat → St → Hp → Prop) (h0 : Pv 0 σ H) (hl : ∀ i σ H, i ≤ xs.length → Pv i σ H → SqL K H a xs)
    (hs : ∀ i x T σ H, xs[i]? = some x → Pv i σ H → H T = none → g (.ref T) σ (upd H T (.tup [.int (i : Nat), x])) fun σ2 H2 => tb { D with nx := Pv (i + 1), ct := Pv (i + 1), bk := D.nx } σ2 H2) (hd : ∀ σ H, Pv xs.length σ H → D.nx σ H) :
    ∃ W : Nat → Nat → St → Hp → Prop, (∃ m, W 0 m σ H) ∧ ∀ i m σ H, W i m σ H →
      ((Ite K a).stop i H ∧ D.nx σ H) ∨ ((Ite K a).go i H ∧ ∃ N : St → Hp → Prop, (∀ σ' H', N σ' H' → ∃ m', m' < m ∧ W (i + 1) m' σ' H') ∧ ∀ x H', (Ite K a).yld i H x H' → g x σ H' fun σ2 H2 => tb { D with nx := N, ct := N, bk := D.nx } σ2 H2) := by
  refine ⟨fun i m σ H => m = xs.length - i ∧ i ≤ xs.length ∧ Pv i σ H, ⟨xs.length, by simp, Nat.zero_le _, h0⟩, ?_⟩
  rintro i m σ H ⟨rfl, hi, p⟩
  have q := hl i σ H hi p
  by_cases hlt : i < xs.length
  · refine .inr ⟨⟨xs, xs[i], q, by simp [hlt]⟩, Pv (i + 1), fun σ' H' p' => ⟨xs.length - (i + 1), by omega, rfl, hlt, p'⟩, fun x H' y => ?_⟩
    obtain ⟨T, x', rfl, nT, rfl, hx⟩ := y
    exact hs i x' T σ H (hx xs q) p nT
  · have e : i = xs.length := by omega
    subst e
    exact .inl ⟨⟨xs, q, Nat.le_refl _⟩, hd σ H p⟩
theorem lc_enumT {K : PySem.W.Frag} {a : Addr} {xs : List V} {g : TG} {tt : TT} {te : TE} {vs : List Nat} {σ : St} {H1 : Hp} {D : Addr} {Qd : Hp → Prop} (Pv : Nat → Hp → Prop) (h0 : Pv 0 (upd H1 D (.lst []))) (hl : ∀ i H, i ≤ xs.length → Pv i H → SqT K H a xs)
    (hs : ∀ i x T H, xs[i]? = some x → Pv i H → H T = none → g (.ref T) (wipe σ vs) (upd H T (.tup [.int (i : Nat), x])) fun σ2 H2 => wipe σ2 vs = wipe σ vs ∧ tt σ2 H2 fun b H3 =>
      if b = true then te σ2 H3 fun y H4 => ∃ acc, H4 D = some (.lst acc) ∧ acc.length < sizeLine ∧ Pv (i + 1) (upd H4 D (.lst (acc ++ [y]))) else Pv (i + 1) H3) (hd : ∀ H, Pv xs.length H → Qd H) :
    ∃ W : Nat → Nat → Hp → Prop, (∃ m, W 0 m (upd H1 D (.lst []))) ∧ ∀ i m H, W i m H →
      ((ItT K a).stop i H ∧ Qd H) ∨ ((ItT K a).go i H ∧ ∃ Nx : Hp → Prop, (∀ H', Nx H' → ∃ m', m' < m ∧ W (i + 1) m' H') ∧ ∀ x H', (ItT K a).yld i H x H' → g x (wipe σ vs) H' fun σ2 H2 => wipe σ2 vs = wipe σ vs ∧ tt σ2 H2 fun b H3 =>
        if b = true then te σ2 H3 fun y H4 => ∃ acc, H4 D = some (.lst acc) ∧ acc.length < sizeLine ∧ Nx (upd H4 D (.lst (acc ++ [y]))) else Nx H3) := by
  refine ⟨fun i m H => m = xs.length - i ∧ i ≤ xs.length ∧ Pv i H, ⟨xs.length, by simp, Nat.zero_le _, h0⟩, ?_⟩
  rintro i m H ⟨rfl, hi, p⟩
  have q := hl i H hi p
  by_cases hlt : i < xs.length
  · refine .inr ⟨⟨xs, xs[i], q, by simp [hlt]⟩, Pv (i + 1), fun H' p' => ⟨xs.length - (i + 1), by omega, rfl, hlt, p'⟩, fun x H' y => ?_⟩
    obtain ⟨T, x', rfl, nT, rfl, hx⟩ := y
    exact hs i x' T H (hx xs q) p nT
  · have e : i = xs.length := by omega
    subst e
    exact .inl ⟨⟨xs, q, Nat.le_refl _⟩, hd H p⟩
theorem lc_zip {K : PySem.W.Frag} {a b : Addr} {xs ys : List V} {g : TG} {tt : TT} {te : TE} {vs : List Nat} {σ : St} {H1 : Hp} {D : Addr} {Qd : Hp → Prop} (hxy : xs.length = ys.length) (Pv : Nat → Hp → Prop) (h0 : Pv 0 (upd H1 D (.lst [])))
    (hl : ∀ i H, i ≤ xs.length → Pv i H → SqL K H a xs ∧ SqL K H b ys)
    (hs : ∀ i x y T H, xs[i]? = some x → ys[i]? = some y → Pv i H → H T = none → g (.ref T) (wipe σ vs) (upd H T (.tup [x, y])) fun σ2 H2 => wipe σ2 vs = wipe σ vs ∧ tt σ2 H2 fun b H3 =>
      if b = true then te σ2 H3 fun y H4 => ∃ acc, H4 D = some (.lst acc) ∧ acc.length < sizeLine ∧ Pv (i + 1) (upd H4 D (.lst (acc ++ [y]))) else Pv (i + 1) H3) (hd : ∀ H, Pv xs.length H → Qd H) :
    ∃ W : Nat → Nat → Hp → Prop, (∃ m, W 0 m (upd H1 D (.lst []))) ∧ ∀ i m H, W i m H →
      ((Itz K a b).stop i H ∧ Qd H) ∨ ((Itz K a b).go i H ∧ ∃ Nx : Hp → Prop, (∀ H', Nx H' → ∃ m', m' < m ∧ W (i + 1) m' H') ∧ ∀ x H', (Itz K a b).yld i H x H' → g x (wipe σ vs) H' fun σ2 H2 => wipe σ2 vs = wipe σ vs ∧ tt σ2 H2 fun b H3 =>
        if b = true then te σ2 H3 fun y H4 => ∃ acc, H4 D = some (.lst acc) ∧ acc.length < sizeLine ∧ Nx (upd H4 D (.lst (acc ++ [y]))) else Nx H3) := by
  refine ⟨fun i m H => m = xs.length - i ∧ i ≤ xs.length ∧ Pv i H, ⟨xs.length, by simp, Nat.zero_le _, h0⟩, ?_⟩
  rintro i m H ⟨rfl, hi, p⟩
  obtain ⟨q1, q2⟩ := hl i H hi p
  by_cases hlt : i < xs.length
  · have hlt2 : i < ys.length := by omega
    refine .inr ⟨⟨xs, ys, xs[i], ys[i], q1, q2, by simp [hlt], by simp [hlt2]⟩, Pv (i + 1), fun H' p' => ⟨xs.length - (i + 1), by omega, rfl, hlt, p'⟩, fun x H' y => ?_⟩
    obtain ⟨T, x', y', rfl, nT, rfl, hx, hy⟩ := y
    exact hs i x' y' T H (hx xs q1) (hy ys q2) p nT
  · have e : i = xs.length := by omega
    subst e
    exact .inl ⟨⟨xs, ys, q1, q2, .inl (Nat.le_refl _)⟩, hd H p⟩
end L2
set_option Elab.async false
set_option linter.all false
set_option maxRecDepth 100000
set_option maxHeartbeats 1000000
namespace L2
open PySem PySem.Spec PyProof.Rows
section
variable {X : Cx}
theorem call_rng1 : CallR X (.type "range") (fun xs H Q => ∃ j, xs = [.int j] ∧ ∀ r, H r = none → Q (.ref r) (upd H r (.rng 0 j))) := by
  intro pins s σ H xs us Q I r h
  obtain ⟨j, rfl, q⟩ := h
  obtain ⟨u, rfl, t, rfl⟩ := vals1 r
  have hn : H s.heap.objs.size = none := I.hok.fresh (Nat.le_refl _)
  refine call_range_1 ⟨.ref s.heap.objs.size, upd H s.heap.objs.size (.rng 0 j), I.laid (fun b o e => Heap.get?_push_of_some _ e) (Nat.le_refl _) ⟨_, _, _, Heap.get?_push_size _ rfl⟩, rfl, q _ hn⟩
def natsV (n : Nat) : List V := (List.range n).map fun (i : Nat) => V.int (i : Int)
theorem vals_items : ∀ (n : Nat) (l : List Value), l.length = n → (∀ (j : Nat) v, l[j]? = some v → ∃ t, v = Value.int (0 + (j : Int) * 1) t) → Vals (natsV n) l := by
  intro n
  induction n with
  | zero => intro l hl _; rw [List.length_eq_zero_iff.mp hl]; exact .nil
  | succ n ih =>
    intro l hl h
    have hne : l ≠ [] := fun z => by rw [z] at hl; cases hl
    have e : l = l.dropLast ++ [l.getLast hne] := (List.dropLast_concat_getLast hne).symm
    have e2 : natsV (n + 1) = natsV n ++ [V.int (n : Int)] := by
      unfold natsV
      rw [List.range_succ, List.map_append]
      rfl
    rw [e, e2]
    refine Vals.append (ih _ (by rw [List.length_dropLast, hl]; rfl) fun j v hj => ?_) (.cons ?_ .nil)
    · have hjl : j < l.dropLast.length := (List.getElem?_eq_some_iff.mp hj).1
      refine h j v ?_
      rw [e, List.getElem?_append_left hjl]
      exact hj
    · obtain ⟨t, ht⟩ := h n (l.getLast hne) (by
        rw [List.getLast_eq_getElem, List.getElem?_eq_getElem (by omega)]
        congr 2
        omega)
      exact ⟨t, by rw [ht]; congr 1; omega⟩
theorem call_list_rng (hc : X.calm = true) : CallR X (.type "list") (fun xs H Q => ∃ r n, xs = [.ref r] ∧ H r = some (.rng 0 (n : Nat)) ∧ n ≤ 1000000 ∧ ∀ l, H l = none → Q (.ref l) (upd H l (.lst (natsV n)))) := by
  intro pins s σ H xs us Q I r h
  obtain ⟨ra, n, rfl, hr, hn, q⟩ := h
  obtain ⟨u, rfl, ru⟩ := vals1 r
  cases (show u = Value.ref ra from ru)
  obtain ⟨t, u', v, hx⟩ := (show ObjOk X.prog X.w H s.heap ra (.rng 0 n) from I.hok ra _ hr)
  have hnew : H s.heap.objs.size = none := I.hok.fresh (Nat.le_refl _)
  refine call_list_range (n := n) (I.ok.hd hc) (show IsRange s.heap ra 0 (n : Int) 1 t u' v from hx) ?_ ?_ (by omega) fun h' tk acc' c' hk hS' hacc => ?_
  · exact small_one (by omega) (by omega) (by omega) (by omega)
  · unfold Builtin.Range.rangeSize
    simp only [show (1 : Int) > 0 by decide, if_true]
    by_cases hz : n = 0
    · subst hz; rfl
    · rw [if_pos (by omega)]; omega
  · refine ⟨.ref s.heap.objs.size, upd H s.heap.objs.size (.lst (natsV n)), I.laid hk (Nat.le_refl _) ⟨?_, acc'.toList, c', ?_, ?_⟩, rfl, q _ hnew⟩
    · unfold natsV
      rw [List.length_map, List.length_range, sizeLine_eq]
      omega
    · exact vals_items n acc'.toList (by simpa using hacc.1) fun j v hj => by
        have := hacc.2 j v (by simpa using hj)
        exact this
    · rw [hS']
end
abbrev pairD (p : Int × Int) : PyData := .tuple [.int p.1, .int p.2]
def PairAt (H : Hp) (a : Addr) (p : Int × Int) : Prop := H a = some (.tup [.int p.1, .int p.2])
def PairsAt (H : Hp) (as : List Addr) (ps : List (Int × Int)) : Prop := Paired (PairAt H) as ps
theorem eqv_pair (p q : Int × Int) : PyData.eqv (pairD p) (pairD q) = decide (p = q) := by
  obtain ⟨a, b⟩ := p
  obtain ⟨c, d⟩ := q
  simp only [pairD, PyData.eqv, PyData.eqvAll, Bool.and_true]
  by_cases h : a = c
  · by_cases h' : b = d
    · subst h h'; simp
    · simp [h, h']
  · simp [h]
theorem dp_pair {K : PySem.W.Frag} {H : Hp} {a : Addr} {p : Int × Int} (h : PairAt H a p) : Dp K H (.ref a) (pairD p) := .tup (SqT.of h) (.cons (.int _) (.cons (.int _) .nil))
theorem dp_pairs {K : PySem.W.Frag} {H : Hp} : ∀ {as : List Addr} {ps : List (Int × Int)}, PairsAt H as ps → DpAll K H (as.map V.ref) (ps.map pairD)
  | _, _, .nil => .nil
  | _, _, .cons r t => .cons (dp_pair r) (dp_pairs t)
theorem can_pairs : ∀ ps : List (Int × Int), PyData.canLayAll0 (ps.map pairD) = true
  | [] => by simp only [List.map_nil, PyData.canLayAll0]
  | p :: ps => by simp only [List.map_cons, PyData.canLayAll0, pairD, PyData.canLay0, Bool.and_true, Bool.true_and, can_pairs ps]
theorem any_pairs (q : Int × Int) : ∀ ps : List (Int × Int), (ps.map pairD).any (fun y => PyData.eqv y (pairD q)) = decide (q ∈ ps)
  | [] => rfl
  | p :: ps => by
    rw [List.map_cons, List.any_cons, any_pairs q ps, eqv_pair]
    by_cases h : p = q
    · subst h; simp
    · have h' : ¬ q = p := fun z => h z.symm
      simp [h, h', List.mem_cons]
theorem depth_pair (p : Int × Int) : (pairD p).depth = 1 := by simp only [pairD, PyData.depth, PyData.depthAll]; rfl
def rInP (neg : Bool) : R2 := fun x y H Q => ∃ a l as ps p, x = .ref a ∧ y = .ref l ∧ PairAt H a p ∧ H l = some (.lst (as.map V.ref)) ∧ PairsAt H as ps ∧ Q (.bl (if neg then !decide (p ∈ ps) else decide (p ∈ ps))) H
section
variable {X : Cx}
theorem op_notInP {k : Nat} (hr : Room k X.A) : OpR X (compareOp .NotIn) (rInP true) := by
  intro pins s σ H x y v u Q I rx ry h
  obtain ⟨a, l, as, ps, p, rfl, rfl, ha, hl, hps, q⟩ := h
  obtain ⟨cs, r1⟩ := Dp.reads I _ _ v (dp_pair ha) rx
  obtain ⟨bs, r2⟩ := Dp.reads I _ _ u (Dp.lst (K := X.K) (SqL.of hl) (dp_pairs hps)) ry
  have hu := hr.units
  refine SeqAt.notIn_list_reads r2 r1 (can_pairs ps) (by simp only [pairD, PyData.canLay0, PyData.canLayAll0]; rfl) ?_ ?_
  · have := Nat.min_le_right (PyData.depthAll (ps.map pairD)) (pairD p).depth
    rw [depth_pair] at this
    rw [depth_pair]
    omega
  · rw [any_pairs]
    exact ⟨.bl _, H, I, rfl, q⟩
def rIndexP : V → List V → Hp → VK → Prop := fun x xs H Q => ∃ l a as ps p j, x = .ref l ∧ xs = [.ref a] ∧ PairAt H a p ∧ H l = some (.lst (as.map V.ref)) ∧ PairsAt H as ps ∧ ps[j]? = some p ∧ (∀ m, m < j → ps[m]? ≠ some p) ∧ Q (.int (j : Nat)) H
theorem mt_indexP {k : Nat} (hr : Room k X.A) : MtR X "list.index" rIndexP := by
  intro pins s σ H x xs v us Q I rx rxs h
  obtain ⟨l, a, as, ps, p, j, rfl, rfl, ha, hl, hps, hj, hno, q⟩ := h
  cases (show v = Value.ref l from rx)
  obtain ⟨uy, rfl, ry⟩ := vals1 rxs
  obtain ⟨cs, r1⟩ := Dp.reads I _ _ uy (dp_pair ha) ry
  obtain ⟨its, rv, ⟨⟨cls, dd, data, sl⟩, n, ho, hc, hdn, hd⟩, hlen⟩ := I.list (SqL.of (K := X.K) hl)
  simp only at hc hd
  subst hc hd
  obtain ⟨bs, r2⟩ := Dp.readsAll I (ps.map pairD) _ its (dp_pairs hps) rv
  have hmap := SeqAt.readsAll_map (ps.map pairD) its bs (can_pairs ps) r2
  have hu := hr.units
  have hlp : its.length = ps.length := by
    have := congrArg List.length hmap
    simpa using this
  have hjl : j < ps.length := (List.getElem?_eq_some_iff.mp hj).1
  have hj' : j < its.toArray.size := by simpa [hlp] using hjl
  have hsl := sizeLine_eq
  have hal : as.length = ps.length := Paired.length hps
  have rd : ∀ (m : Nat) (hm : m < its.toArray.size) (hm2 : m < ps.length), SeqAt.readOf s.heap its.toArray[m] = pairD ps[m] := fun m hm hm2 => by
    have e1 : (its.map (SeqAt.readOf s.heap))[m]? = (ps.map pairD)[m]? := by rw [hmap]
    have hm3 : m < its.length := by simpa using hm
    rw [List.getElem?_map, List.getElem?_map, List.getElem?_eq_getElem hm3, List.getElem?_eq_getElem hm2] at e1
    simpa using e1
  refine call_meets PySem.F.slot_list_index ⟨_, ho, rfl⟩ PySem.F.entry_list_index (PySem.F.args_list_index_2 _ _)
    (SeqAt.list_indexAt l its.toArray n dd sl uy (fun y => PyData.eqv (SeqAt.readOf s.heap y) (pairD p)) j hj' (by rw [List.length_map, hal] at hlen; omega) ?_ ?_)
    ⟨ho, SeqAt.items_eqAt (vs := its.toArray) (by simpa using r2) r1 (can_pairs ps) (by simp only [pairD, PyData.canLay0, PyData.canLayAll0]; rfl) ?_, ⟨.int (j : Nat), H, I.tok _, ⟨_, rfl⟩, q⟩⟩
  · rw [rd j hj' hjl, eqv_pair]
    have := (List.getElem?_eq_some_iff.mp hj).2
    rw [this]
    exact decide_eq_true rfl
  · intro m hm hmj
    have hm2 : m < ps.length := by omega
    rw [rd m hm hm2, eqv_pair]
    refine decide_eq_false fun z => hno m hmj ?_
    rw [List.getElem?_eq_getElem hm2, z]
  · have := Nat.min_le_right (PyData.depthAll (ps.map pairD)) (pairD p).depth
    rw [depth_pair] at this
    rw [depth_pair]
    omega
end
end L2
set_option Elab.async false
set_option linter.all false
set_option maxRecDepth 100000
set_option maxHeartbeats 4000000
namespace NH
open PySem L2
theorem same_new {H : Hp} {p : Addr} {o : HO} (n : H p = none) : Same H (upd H p o) := fun b u e => by rw [upd_ne (ne_of_none e n)]; exact e
theorem same_upd {H H1 : Hp} {p : Addr} {o : HO} (s : Same H H1) (n : H p = none) : Same H (upd H1 p o) := fun b u e => by
  rw [upd_ne (ne_of_none e n)]
  exact s _ _ e
structure BoxAt (H : Hp) (p : Addr) : Prop where
  ex : ∃ a b : Int, H p = some (.lst [.int a, .int b]) ∧ 0 ≤ b ∧ b < 2 ^ 40
theorem BoxAt.same {H H' : Hp} {p : Addr} (s : Same H H') (b : BoxAt H p) : BoxAt H' p := by
  obtain ⟨x, y, e, h0, h1⟩ := b.ex
  exact ⟨x, y, s _ _ e, h0, h1⟩
theorem box_upd {H : Hp} {p : Addr} {x y : Int} (h0 : 0 ≤ y) (h1 : y < 2 ^ 40) : BoxAt (upd H p (.lst [.int x, .int y])) p := ⟨x, y, upd_same, h0, h1⟩
theorem BoxAt.ne {H : Hp} {p q : Addr} (b : BoxAt H p) (h : H q = none) : q ≠ p := fun z => by
  obtain ⟨_, _, e, _⟩ := b.ex
  rw [← z, h] at e
  cases e
structure Step (p : Addr) (H H' : Hp) : Prop where
  keep : ∀ b o, b ≠ p → H b = some o → H' b = some o
  box : BoxAt H' p
theorem Step.refl {p : Addr} {H : Hp} (b : BoxAt H p) : Step p H H := ⟨fun _ _ _ e => e, b⟩
theorem Step.trans {p : Addr} {H H1 H2 : Hp} (a : Step p H H1) (b : Step p H1 H2) : Step p H H2 := ⟨fun c o n e => b.keep c o n (a.keep c o n e), b.box⟩
theorem Step.same {p : Addr} {H H1 H2 : Hp} (a : Step p H H1) (b : Same H1 H2) : Step p H H2 := ⟨fun c o n e => b c o (a.keep c o n e), a.box.same b⟩
theorem Step.free {p : Addr} {H H1 : Hp} {q : Addr} (a : Step p H H1) (n : H1 q = none) : H q = none := by
  cases e : H q with
  | none => rfl
  | some o =>
    rw [a.keep q o (a.box.ne n) e] at n
    cases n
theorem Step.new {p q : Addr} {H H1 : Hp} {o : HO} (a : Step p H H1) (n : H1 q = none) : Step p H (upd H1 q o) := a.same (same_new n)
theorem Step.take {p : Addr} {H H1 : Hp} {x y : Int} (a : Step p H H1) (h0 : 0 ≤ y) (h1 : y < 2 ^ 40) : Step p H (upd H1 p (.lst [.int x, .int y])) :=
  ⟨fun c o n e => by rw [upd_ne n]; exact a.keep c o n e, box_upd h0 h1⟩
theorem Step.put {p q : Addr} {H H1 : Hp} {o : HO} (a : Step p H H1) (n : H q = none) (hq : q ≠ p) : Step p H (upd H1 q o) := by
  refine ⟨fun c u hc e => ?_, ?_⟩
  · rw [upd_ne (ne_of_none e n)]
    exact a.keep c u hc e
  · obtain ⟨x, y, e, h0, h1⟩ := a.box.ex
    exact ⟨x, y, by rw [upd_ne hq.symm]; exact e, h0, h1⟩
def natV (i : Nat) : V := .int (i : Int)
theorem natsV_eq (n : Nat) : natsV n = (List.range n).map natV := rfl
theorem natV_get {l : List Nat} {i : Nat} {x : Nat} (h : l[i]? = some x) : (l.map natV)[i]? = some (natV x) := by rw [List.getElem?_map, h]; rfl
theorem natV_at {l : List Nat} {z : Int} {i : Nat} {x : Nat} (e : z = (i : Int)) (h : l[i]? = some x) : atI (l.map natV) z = some (natV x) := at_of e (natV_get h)
theorem ixN_nat {n : Nat} {z : Int} {i : Nat} (e : z = (i : Int)) (h : i < n) : ixN n z = some i := by
  subst e
  unfold ixN
  rw [if_pos (by omega), if_pos (by omega)]
  simp
def spTake : Sp := fun vs H Q _ => ∃ (p : Addr) (a b w : Int), vs = [.ref p, .int w] ∧ H p = some (.lst [.int a, .int b]) ∧ 0 ≤ b ∧ b < 2 ^ 40 ∧ 0 < w ∧ w < 2 ^ 30 ∧
  ∀ r a' b' : Int, 0 ≤ r → r < w → 0 ≤ b' → b' < 2 ^ 40 → Q (.int r) (upd H p (.lst [.int a', .int b']))
def spBox (K : PySem.W.Frag) : Sp := fun vs H Q _ => ∃ (a : Addr) (ns : List Int) (k : Int), vs = [.ref a, .int k] ∧ SqL K H a (ns.map V.int) ∧ 0 ≤ k ∧ k < 1000 ∧
  ∀ (p : Addr) (H' : Hp), H p = none → Same H H' → BoxAt H' p → Q (.ref p) H'
def spShuf : Sp := fun vs H Q _ => ∃ (p : Addr) (n : Nat), vs = [.ref p, natV n] ∧ BoxAt H p ∧ n < 100000 ∧
  ∀ (r : Addr) (π : List Nat) (H' : Hp), H r = none → Step p H H' → H' r = some (.lst (π.map natV)) → π.Perm (List.range n) → Q (.ref r) H'
theorem ints_at {ns : List Int} {j : Nat} (h : j < ns.length) : ∃ z, (ns.map V.int)[j]? = some (.int z) := by
  refine ⟨ns[j], ?_⟩
  rw [List.getElem?_map, List.getElem?_eq_getElem h]
  rfl
theorem ints_atI {ns : List Int} {k : Int} (h0 : 0 ≤ k) (h : k < ns.length) : ∃ z, atI (ns.map V.int) k = some (.int z) := by
  obtain ⟨z, e⟩ := ints_at (ns := ns) (j := k.toNat) (by omega)
  exact ⟨z, at_of (by omega) e⟩
theorem pow_ok (c : Int) {k : Int} (k0 : 0 ≤ k) (k1 : k < 1000) : (c % 2147483629 + 104729 * k + 12).natAbs < 2 ^ 64 := by
  have h1 := Int.emod_nonneg c (show (2147483629 : Int) ≠ 0 by decide)
  have h2 := Int.emod_lt_of_pos c (show (0 : Int) < 2147483629 by decide)
  omega
theorem seed_ok (x : Int) : 0 ≤ x % 2147483647 + 1 ∧ x % 2147483647 + 1 < 2 ^ 40 := by
  have h1 := Int.emod_nonneg x (show (2147483647 : Int) ≠ 0 by decide)
  have h2 := Int.emod_lt_of_pos x (show (0 : Int) < 2147483647 by decide)
  omega
theorem pick2 (b : Bool) (x y : Int) : atI [V.int x, V.int y] (if b = true then 1 else 0) = some (.int (if b = true then y else x)) := by cases b <;> rfl
theorem box_end {H H1 : Hp} {q p : Addr} {o : HO} {x y : Int} (nq : H1 q = none) (np : (upd H1 q o) p = none) (s1 : Same H H1) (h0 : 0 ≤ y) (h1 : y < 2 ^ 40) :
    H p = none ∧ Same H (upd (upd H1 q o) p (.lst [.int x, .int y])) ∧ BoxAt (upd (upd H1 q o) p (.lst [.int x, .int y])) p := by
  have s2 : Same H1 (upd H1 q o) := same_new nq
  have s3 : Same H (upd H1 q o) := s1.trans s2
  exact ⟨s3.free np, s3.trans (same_new np), ⟨x, y, upd_same, h0, h1⟩⟩
theorem erase_map {α β : Type} (f : α → β) : ∀ (l : List α) (k : Nat), (l.map f).eraseIdx k = (l.eraseIdx k).map f
  | [], _ => rfl
  | a :: r, 0 => rfl
  | a :: r, k + 1 => by
    show f a :: (r.map f).eraseIdx k = f a :: (r.eraseIdx k).map f
    rw [erase_map f r k]
theorem perm_erase : ∀ {l : List Nat} {k y : Nat}, l[k]? = some y → (y :: l.eraseIdx k).Perm l
  | [], k, y, h => by simp at h
  | a :: r, 0, y, h => by
    have e : a = y := by simpa using h
    subst e
    exact List.Perm.refl _
  | a :: r, k + 1, y, h => by
    have ih := perm_erase (l := r) (k := k) (y := y) (by simpa using h)
    show (y :: a :: r.eraseIdx k).Perm (a :: r)
    exact (List.Perm.swap a y _).trans (ih.cons a)
theorem perm_pop {n : Nat} {done rest : List Nat} {k y : Nat} (h : (done ++ rest).Perm (List.range n)) (hy : rest[k]? = some y) : ((done ++ [y]) ++ rest.eraseIdx k).Perm (List.range n) := by
  refine List.Perm.trans ?_ h
  rw [List.append_assoc]
  refine List.Perm.append_left done ?_
  exact perm_erase hy
end NH
set_option Elab.async false
set_option linter.all false
set_option maxRecDepth 100000
set_option maxHeartbeats 4000000
namespace NH
open PySem L2
def top (i : Nat) : Stmt := PySem.Challenge.pw_namelesshall_k04_webs_as_texts.main.body.getD i (.Pass ⟨0, 0, 0, 0⟩)
abbrev sBox : Stmt := top 24
abbrev sTake : Stmt := top 25
abbrev sShuf : Stmt := top 26
section
variable {P : Program} {w : World} {K : PySem.W.Frag} {mg : Str → Option Value} {base : Heap}
theorem scTake : FnScope ["_law_box_here", "_law_wide", "_law_digit", "_law_one"] ["_law_box_here", "_law_wide"] (defScope sTake) := ⟨rfl, rfl, rfl, by decide +kernel, rfl, by decide +kernel, by decide +kernel⟩
theorem ok_take {f : Addr} {fd : FuncData} (F : Fun K "_law_take" "_law_take" sTake f fd) : FnOk P w K mg base CX0 1 f fd ["_law_box_here", "_law_wide"] spTake := by
  refine F.ok scTake (fun vs H Q E h => ?_) (fun cdv A outer s H vs Q E hr h => ?_)
  · obtain ⟨p, a, b, w, rfl, _⟩ := h
    rfl
  · obtain ⟨p, a, b, wd, rfl, hp, b0, b1, w0, w1, k⟩ := h
    have nd := scTake.nd
    refine ⟨_, pss_cons (ps_if (pt_cmpR op_gt (pe_ix ix_list (pv 0) pe_int (fun _ _ => rfl)) pe_int (nomark _))
        (pss_cons (ps_set (i := 2) nd rfl (Or.inl rfl) (pe_op op_mod (pe_ix ix_list (pv 0) pe_int (fun _ _ => rfl)) (pv 1)))
        (pss_cons (ps_asg (pe_op op_fdiv (pe_ix ix_list (pv 0) pe_int (fun _ _ => rfl)) (pv 1)) (pg_sub (pv 0) pe_int set_list))
        (pss_one (ps_ret (pv 2)))))
        pss_nil)
      (pss_cons (ps_set (i := 3) nd rfl (Or.inl rfl) (pe_op op_mod (pe_op op_mul (pe_ix ix_list (pv 0) pe_int (fun _ _ => rfl)) pe_int) pe_int))
      (pss_cons (ps_asg (pe_op op_add (pe_op op_mod (pe_op op_add (pe_op op_mul (pv 3) pe_int) pe_int) pe_int) pe_int) (pg_sub (pv 0) pe_int set_list))
      (pss_one (ps_ret (pe_op op_mod (pe_op op_fdiv (pe_op op_add (pe_op op_mul (pv 3) pe_int) (pe_ix ix_list (pv 0) pe_int (fun _ _ => rfl))) pe_int) (pv 1)))))), ?_⟩
    refine ⟨_, rfl, p, _, _, _, rfl, rfl, SqL.of hp, rfl, _, _, rfl, rfl, _, rfl, ?_⟩
    refine ite2 (fun ha => ?_) (fun ha => ?_)
    · refine ⟨_, rfl, p, _, _, _, rfl, rfl, SqL.of hp, rfl, _, rfl, _, _, rfl, rfl, w0, ?_⟩
      refine ⟨_, rfl, p, _, _, _, rfl, rfl, SqL.of hp, rfl, _, rfl, _, _, rfl, rfl, ⟨w0, w1⟩, ?_⟩
      refine ⟨_, rfl, p, _, _, _, rfl, rfl, hp, rfl, ?_⟩
      refine ⟨_, rfl, ?_⟩
      exact k _ _ _ (Int.emod_nonneg _ (by omega)) (Int.emod_lt_of_pos _ w0) b0 b1
    · refine ⟨_, rfl, p, _, _, _, rfl, rfl, SqL.of hp, rfl, _, _, rfl, rfl, .inl ⟨by omega, by omega⟩, _, _, rfl, rfl, (by show (0 : Int) < 2147483647; decide), ?_⟩
      have h1 := Int.emod_nonneg (b * 69623) (show (2147483647 : Int) ≠ 0 by decide)
      have h2 := Int.emod_lt_of_pos (b * 69623) (show (0 : Int) < 2147483647 by decide)
      refine ⟨_, rfl, _, _, rfl, rfl, .inl ⟨by omega, by omega⟩, _, _, rfl, rfl, _, _, rfl, rfl, (by show (0 : Int) < 2147483629; decide), _, _, rfl, rfl, ?_⟩
      have h3 := Int.emod_nonneg (b * 69623 % 2147483647 * 48271 + 30103) (show (2147483629 : Int) ≠ 0 by decide)
      have h4 := Int.emod_lt_of_pos (b * 69623 % 2147483647 * 48271 + 30103) (show (0 : Int) < 2147483629 by decide)
      refine ⟨_, rfl, p, _, _, _, rfl, rfl, hp, rfl, ?_⟩
      refine ⟨_, rfl, _, _, rfl, rfl, .inl ⟨by omega, by omega⟩, _, rfl, p, _, _, _, rfl, rfl, SqL.of upd_same, rfl, _, _, rfl, rfl, _, _, rfl, rfl, ⟨by decide, by decide⟩, _, rfl, _, _, rfl, rfl, w0, ?_⟩
      exact k _ _ _ (Int.emod_nonneg _ (by omega)) (Int.emod_lt_of_pos _ w0) (by omega) (by omega)
theorem scBox : FnScope ["_law_script", "_law_k", "_law_cell", "_law_seed"] ["_law_script", "_law_k"] (defScope sBox) := ⟨rfl, rfl, rfl, by decide +kernel, rfl, by decide +kernel, by decide +kernel⟩
theorem ok_box {f : Addr} {fd : FuncData} (F : Fun K "_law_box" "_law_box" sBox f fd) (mlen : mg "len" = none) (mint : mg "int" = none) : FnOk P w K mg base CX0 1 f fd ["_law_script", "_law_k"] (spBox K) := by
  refine F.ok scBox (fun vs H Q E h => ?_) (fun cdv A outer s H vs Q E hr h => ?_)
  · obtain ⟨a, ns, k, rfl, _⟩ := h
    rfl
  · obtain ⟨a, ns, k, rfl, hS, k0, k1, kk⟩ := h
    have nd := scBox.nd
    refine ⟨_, pss_cons (ps_set (i := 2) nd rfl (Or.inl rfl) (pe_op op_mod (pe_op op_pow (pe_op op_add (pe_op op_mul pe_int (pv 1)) pe_int) pe_int) pe_int))
      (pss_cons (ps_if (pt_cmpR op_lt (pv 1) (pe_callB call_len_seq (by rfl) mlen PySem.boot_len (pa_cons (pv 0) pa_nil)) (nomark _))
        (pss_one (ps_set (i := 2) nd rfl (Or.inl rfl) (pe_ix ix_list (pv 0) (pv 1) (fun _ _ => rfl))))
        (pss_one (ps_if (pt_cmpR op_gt (pe_callB call_len_seq (by rfl) mlen PySem.boot_len (pa_cons (pv 0) pa_nil)) pe_int (nomark _))
          (pss_one (ps_set (i := 2) nd rfl (Or.inl rfl) (pe_op op_add (pv 2) (pe_op op_mul (pe_op op_mod (pe_ix ix_list (pv 0) (pe_op op_mod (pv 1) (pe_callB call_len_seq (by rfl) mlen PySem.boot_len (pa_cons (pv 0) pa_nil))) (fun _ _ => rfl)) pe_int) pe_int))))
          pss_nil)))
      (pss_cons (ps_set (i := 3) nd rfl (Or.inl rfl) (pe_op op_add (pe_op op_mod (pe_op op_pow (pe_op op_add (pe_op op_add (pe_op op_mod (pv 2) pe_int) (pe_op op_mul pe_int (pv 1))) pe_int) pe_int) pe_int) pe_int))
      (pss_one (ps_ret (pe_lst (pa_cons (pe_ix ix_list (pe_lst (pa_cons pe_int (pa_cons (pv 2) pa_nil))) (pe_callTy call_int1 (by rfl) mint (by decide +kernel) (pa_cons (pe_cmpR op_ge (pv 2) (pe_op op_pow pe_int pe_int) (nomark _)) pa_nil)) (fun _ _ => rfl)) (pa_cons (pv 3) pa_nil))))))), ?_⟩
    refine ⟨_, rfl, _, _, rfl, rfl, .inl ⟨by decide, by decide⟩, _, _, rfl, rfl, _, _, rfl, rfl, ⟨by decide, by decide, by omega⟩, _, _, rfl, rfl, (by show (0 : Int) < 2147483647; decide), ?_⟩
    refine ⟨_, rfl, _, rfl, a, _, rfl, .inl hS, _, _, rfl, rfl, _, rfl, ?_⟩
    refine ite2 (fun h1 => ?_) (fun h1 => ?_)
    · have h1 : k < ns.length := by simpa using of_decide_eq_true h1
      obtain ⟨z, ez⟩ := ints_atI k0 h1
      refine ⟨_, rfl, _, rfl, a, _, _, _, rfl, rfl, hS, ez, ?_⟩
      refine ⟨_, rfl, _, _, rfl, rfl, (by show (0 : Int) < 2147483629; decide), _, rfl, _, _, rfl, rfl, .inl ⟨by decide, by decide⟩, _, _, rfl, rfl, _, _, rfl, rfl, _, _, rfl, rfl, ⟨by decide, by decide, pow_ok _ k0 k1⟩, _, _, rfl, rfl, (by show (0 : Int) < 2147483647; decide), _, _, rfl, rfl, ?_⟩
      refine ⟨_, rfl, (by show 2 ≤ sizeLine; decide), fun q nq => ?_⟩
      refine ⟨_, rfl, _, _, rfl, rfl, ⟨by decide, by decide, by decide⟩, _, _, rfl, rfl, .inr ⟨_, rfl, ?_⟩⟩
      refine ⟨q, _, _, _, rfl, rfl, SqL.of upd_same, pick2 _ _ _, _, rfl, (by show 2 ≤ sizeLine; decide), fun p np => ?_⟩
      obtain ⟨e1, e2, e3⟩ := box_end (H := H) nq np (Same.refl H) (seed_ok _).1 (seed_ok _).2
      exact kk p _ e1 e2 e3
    · refine ⟨_, rfl, a, _, rfl, .inl hS, _, _, rfl, rfl, _, rfl, ?_⟩
      refine ite2 (fun h2 => ?_) (fun h2 => ?_)
      · have h2 : (0 : Int) < ns.length := by simpa using of_decide_eq_true h2
        obtain ⟨z, ez⟩ := ints_atI (ns := ns) (Int.emod_nonneg k (show (ns.length : Int) ≠ 0 by omega)) (Int.emod_lt_of_pos k h2)
        refine ⟨_, rfl, _, rfl, _, rfl, _, rfl, a, _, rfl, .inl hS, _, _, rfl, rfl, (by rw [List.length_map]; exact h2), a, _, _, _, rfl, rfl, hS, (by rw [List.length_map]; exact ez), _, _, rfl, rfl, (by show (0 : Int) < 2147483629; decide), _, _, rfl, rfl, .inr ⟨by decide, by decide⟩, _, _, rfl, rfl, ?_⟩
        refine ⟨_, rfl, _, _, rfl, rfl, (by show (0 : Int) < 2147483629; decide), _, rfl, _, _, rfl, rfl, .inl ⟨by decide, by decide⟩, _, _, rfl, rfl, _, _, rfl, rfl, _, _, rfl, rfl, ⟨by decide, by decide, pow_ok _ k0 k1⟩, _, _, rfl, rfl, (by show (0 : Int) < 2147483647; decide), _, _, rfl, rfl, ?_⟩
        refine ⟨_, rfl, (by show 2 ≤ sizeLine; decide), fun q nq => ?_⟩
        refine ⟨_, rfl, _, _, rfl, rfl, ⟨by decide, by decide, by decide⟩, _, _, rfl, rfl, .inr ⟨_, rfl, ?_⟩⟩
        refine ⟨q, _, _, _, rfl, rfl, SqL.of upd_same, pick2 _ _ _, _, rfl, (by show 2 ≤ sizeLine; decide), fun p np => ?_⟩
        obtain ⟨e1, e2, e3⟩ := box_end (H := H) nq np (Same.refl H) (seed_ok _).1 (seed_ok _).2
        exact kk p _ e1 e2 e3
      · 
        refine ⟨_, rfl, _, _, rfl, rfl, (by show (0 : Int) < 2147483629; decide), _, rfl, _, _, rfl, rfl, .inl ⟨by decide, by decide⟩, _, _, rfl, rfl, _, _, rfl, rfl, _, _, rfl, rfl, ⟨by decide, by decide, pow_ok _ k0 k1⟩, _, _, rfl, rfl, (by show (0 : Int) < 2147483647; decide), _, _, rfl, rfl, ?_⟩
        refine ⟨_, rfl, (by show 2 ≤ sizeLine; decide), fun q nq => ?_⟩
        refine ⟨_, rfl, _, _, rfl, rfl, ⟨by decide, by decide, by decide⟩, _, _, rfl, rfl, .inr ⟨_, rfl, ?_⟩⟩
        refine ⟨q, _, _, _, rfl, rfl, SqL.of upd_same, pick2 _ _ _, _, rfl, (by show 2 ≤ sizeLine; decide), fun p np => ?_⟩
        obtain ⟨e1, e2, e3⟩ := box_end (H := H) nq np (Same.refl H) (seed_ok _).1 (seed_ok _).2
        exact kk p _ e1 e2 e3
theorem scShuf : FnScope ["_law_box_here", "_law_many", "_law_left", "_law_k"] ["_law_box_here", "_law_many"] (defScope sShuf) := ⟨rfl, rfl, rfl, by decide +kernel, rfl, by decide +kernel, by decide +kernel⟩
theorem ok_shuf {f fT : Addr} {fd fdT : FuncData} (F : Fun K "_law_shuffled" "_law_shuffled" sShuf f fd) (GT : FnOk P w K mg base CX0 1 fT fdT ["_law_box_here", "_law_wide"] spTake) (bT : Binds K fdT ["_law_box_here", "_law_wide"] []) (mT : mg "_law_take" = some (.ref fT)) (kT : PySem.W.keepIn K (.ref fT) = true)
    (mrange : mg "range" = none) (mlist : mg "list" = none) : FnOk P w K mg base CX0 2 f fd ["_law_box_here", "_law_many"] spShuf := by
  refine F.ok scShuf (fun vs H Q E h => ?_) (fun cdv A outer s H vs Q E hr h => ?_)
  · obtain ⟨p, n, rfl, _⟩ := h
    rfl
  · obtain ⟨p, n, rfl, hb, hn, k⟩ := h
    have nd := scShuf.nd
    refine ⟨_, pss_cons (ps_set (i := 2) nd rfl (Or.inr rfl) (pe_callTy (call_list_rng (by rfl)) (by rfl) mlist (by decide +kernel) (pa_cons (pe_callTy call_rng1 (by rfl) mrange (by decide +kernel) (pa_cons (pv 1) pa_nil)) pa_nil)))
      (pss_one (ps_ret (pe_lc (own := [("_law_k", 3)]) (g := gName 3) (te := tBM K "list" rPopAt (tVar 2) (tCons (tCall spTake [] E0 (tCons (tVar 0) (tCons (tOp (rI0 fun i j => .int (i - j)) (tVar 1) (tVar 3)) tNil))) tNil)) (by rfl) nd (pi_range1 (by rfl) mrange (pa_cons (pv 1) pa_nil)) (blkOk_by (own := [("_law_k", 3)]) (N := ["_law_box_here", "_law_many", "_law_left", "_law_k"]) (sc := defScope sShuf) (by decide +kernel))
        (fun _ _ _ _ _ => pg_name (i := 3) nd rfl (Or.inl rfl)) (fun _ _ _ _ _ => pts_nil)
        (fun _ _ _ _ _ => by exact pe_bm PySem.F.plainAttrs_list PySem.F.slot_list_pop PySem.F.type_list_pop mt_popAt (pv 2) (pa_cons (pe_call GT hr (by rfl) mT kT bT .nil pass0 (pa_cons (pv 0) (pa_cons (pe_op op_sub (pv 1) (pv 3)) pa_nil))) pa_nil))))), ?_⟩
    refine ⟨_, rfl, _, rfl, fun r0 n0 => ⟨r0, n, rfl, upd_same, by omega, fun L nL => ?_⟩⟩
    have s1 := (Step.refl hb).new (o := .rng 0 n) n0
    have neL : L ≠ p := s1.box.ne nL
    have nLH : H L = none := s1.free nL
    have s2 := s1.new (o := .lst (natsV n)) nL
    refine ⟨_, rfl, _, rfl, by omega, by omega, fun D nD => ?_⟩
    have neD : D ≠ p := s2.box.ne nD
    have nDH : H D = none := s2.free nD
    have neDL : D ≠ L := fun z => by rw [z, upd_same] at nD; cases nD
    refine lc_range (lo := 0) (n := _) (fun i H1 => Step p H H1 ∧ ∃ rest done : List Nat, H1 L = some (.lst (rest.map natV)) ∧ H1 D = some (.lst (done.map natV)) ∧ (done ++ rest).Perm (List.range n) ∧ done.length = i)
      ⟨s2.new nD, List.range n, [], (by rw [upd_ne neDL.symm, upd_same, natsV_eq]), upd_same, List.Perm.refl _, rfl⟩ ?_ ?_
    · rintro i H1 hi ⟨s3, rest, done, hL, hD, hp, hl⟩
      have hi' : i < n := by omega
      have lens : done.length + rest.length = n := by
        have := hp.length_eq
        rw [List.length_append, List.length_range] at this
        exact this
      refine ⟨rfl, ?_⟩
      dsimp only [tYes]
      rw [if_pos rfl]
      obtain ⟨xa, xb, hx, hx0, hx1⟩ := s3.box.ex
      refine ⟨_, rfl, .inl ⟨rfl, _, SqL.of hL⟩, _, rfl, _, rfl, _, rfl, _, _, rfl, rfl, p, xa, xb, _, rfl, hx, hx0, hx1, by omega, by omega, fun r a' b' r0 r1 c0 c1 => ?_⟩
      have s4 := s3.take (x := a') c0 c1
      have hrl : r.toNat < rest.length := by omega
      have hy : rest[r.toNat]? = some rest[r.toNat] := List.getElem?_eq_getElem hrl
      refine ⟨L, _, r, r.toNat, _, rfl, rfl, (by rw [upd_ne neL]; exact hL), by omega, by omega, ?_, natV_get hy, ?_⟩
      · rw [List.length_map]
        exact (ixN_seq (ixN_nat (by omega) hrl)).1
      · have s5 := (s4.put (o := .lst ((rest.map natV).eraseIdx r.toNat)) nLH neL)
        refine ⟨done.map natV, (by rw [upd_ne neDL, upd_ne neD]; exact hD), (by rw [List.length_map, hl, sizeLine_eq]; omega), s5.put nDH neD, rest.eraseIdx r.toNat, done ++ [rest[r.toNat]], (by rw [upd_ne neDL.symm, upd_same, erase_map]), (by rw [List.map_append]; exact upd_same), perm_pop hp hy, (by rw [List.length_append, hl]; rfl)⟩
    · rintro H1 ⟨s3, rest, done, hL, hD, hp, hl⟩
      have lens : done.length + rest.length = n := by
        have := hp.length_eq
        rw [List.length_append, List.length_range] at this
        exact this
      have e : rest = [] := List.length_eq_zero_iff.mp (by omega)
      subst e
      rw [List.append_nil] at hp
      exact k D done H1 nDH s3 hD hp
end
end NH
set_option Elab.async false
set_option linter.all false
set_option maxRecDepth 100000
set_option maxHeartbeats 4000000
namespace NH
open PySem L2
abbrev End := Nat × Nat
abbrev Tie := End × End
def endsOf (t : Tie) : List End := if t.1 = t.2 then [t.1] else [t.1, t.2]
def ends (ties : List Tie) : List End := ties.flatMap endsOf
structure EndsOk (n room : Nat) (es : List End) (cnt : List Nat) : Prop where
  len : cnt.length = n
  le : ∀ (h c : Nat), cnt[h]? = some c → c ≤ room
  nd : es.Nodup
  mem : ∀ h s, (h, s) ∈ es ↔ ∃ c, cnt[h]? = some c ∧ s < c
theorem set_get {l : List Nat} {i j x : Nat} {c : Nat} (h : (l.set i x)[j]? = some c) : (j = i ∧ c = x) ∨ (j ≠ i ∧ l[j]? = some c) := by
  by_cases e : i = j
  · subst e
    have hl : i < l.length := by
      have := (List.getElem?_eq_some_iff.mp h).1
      simpa using this
    rw [List.getElem?_set_self hl] at h
    exact .inl ⟨rfl, (Option.some.inj h).symm⟩
  · rw [List.getElem?_set_ne e] at h
    exact .inr ⟨fun z => e z.symm, h⟩
theorem EndsOk.add {n room : Nat} {es : List End} {cnt : List Nat} {g c : Nat} (k : EndsOk n room es cnt) (hc : cnt[g]? = some c) (hr : c < room) : EndsOk n room (es ++ [(g, c)]) (cnt.set g (c + 1)) := by
  have hl : g < cnt.length := (List.getElem?_eq_some_iff.mp hc).1
  have hs : (cnt.set g (c + 1))[g]? = some (c + 1) := List.getElem?_set_self hl
  refine ⟨by rw [List.length_set, k.len], fun h d e => ?_, ?_, fun h s => ?_⟩
  · rcases set_get e with ⟨_, z⟩ | ⟨_, z⟩
    · omega
    · exact k.le h d z
  · refine nd_snoc k.nd fun m => ?_
    obtain ⟨d, e, hd⟩ := (k.mem g c).mp m
    rw [hc] at e
    cases e
    exact Nat.lt_irrefl _ hd
  · rw [List.mem_append, List.mem_singleton, k.mem]
    constructor
    · rintro (⟨d, e, hd⟩ | e)
      · by_cases z : g = h
        · subst z
          rw [hc] at e
          cases e
          exact ⟨_, hs, by omega⟩
        · exact ⟨d, by rw [List.getElem?_set_ne z]; exact e, hd⟩
      · cases e
        exact ⟨_, hs, by omega⟩
    · rintro ⟨d, e, hd⟩
      rcases set_get e with ⟨z, y⟩ | ⟨z, y⟩
      · subst z y
        by_cases q : s = c
        · exact .inr (by rw [q])
        · exact .inl ⟨c, hc, by omega⟩
      · exact .inl ⟨d, y, hd⟩
structure TiesOk (n room : Nat) (ties : List Tie) (cnt : List Nat) : Prop where
  ok : EndsOk n room (ends ties) cnt
theorem ends_snoc (ties : List Tie) (t : Tie) : ends (ties ++ [t]) = ends ties ++ endsOf t := by
  unfold ends
  rw [List.flatMap_append]
  simp
theorem TiesOk.nil (n room : Nat) : TiesOk n room [] (List.replicate n 0) := by
  refine ⟨⟨List.length_replicate, fun h c e => ?_, List.nodup_nil, fun h s => ?_⟩⟩
  · have := List.getElem?_eq_some_iff.mp e
    obtain ⟨_, z⟩ := this
    rw [List.getElem_replicate] at z
    omega
  · constructor
    · intro z
      exact absurd z (by simp [ends])
    · rintro ⟨c, e, hc⟩
      obtain ⟨_, z⟩ := List.getElem?_eq_some_iff.mp e
      rw [List.getElem_replicate] at z
      omega
section
variable {n room : Nat} {ties : List Tie} {cnt : List Nat} {g h c d : Nat}
theorem TiesOk.self (k : TiesOk n room ties cnt) (hc : cnt[g]? = some c) (hr : c < room) : TiesOk n room (ties ++ [((g, c), (g, c))]) (cnt.set g (c + 1)) := by
  refine ⟨?_⟩
  rw [ends_snoc, show endsOf ((g, c), (g, c)) = [(g, c)] from if_pos rfl]
  exact k.ok.add hc hr
theorem TiesOk.own (k : TiesOk n room ties cnt) (hc : cnt[g]? = some c) (hr : c + 1 < room) : TiesOk n room (ties ++ [((g, c), (g, c + 1))]) ((cnt.set g (c + 1)).set g (c + 1 + 1)) := by
  refine ⟨?_⟩
  have hl : g < cnt.length := (List.getElem?_eq_some_iff.mp hc).1
  have ne : ¬ ((g, c) : End) = (g, c + 1) := fun z => by
    have := congrArg Prod.snd z
    simp at this
  rw [ends_snoc, show endsOf ((g, c), (g, c + 1)) = [(g, c), (g, c + 1)] from if_neg ne]
  rw [show [((g, c) : End), (g, c + 1)] = [(g, c)] ++ [(g, c + 1)] from rfl, ← List.append_assoc]
  exact (k.ok.add hc (by omega)).add (List.getElem?_set_self hl) hr
theorem TiesOk.two (k : TiesOk n room ties cnt) (hgh : g ≠ h) (hc : cnt[g]? = some c) (hd : cnt[h]? = some d) (hr : c < room) (hr2 : d < room) : TiesOk n room (ties ++ [((g, c), (h, d))]) ((cnt.set h (d + 1)).set g (c + 1)) := by
  refine ⟨?_⟩
  have ne : ¬ ((g, c) : End) = (h, d) := fun z => hgh (congrArg Prod.fst z)
  rw [ends_snoc, show endsOf ((g, c), (h, d)) = [(g, c), (h, d)] from if_neg ne]
  rw [show [((g, c) : End), (h, d)] = [(g, c)] ++ [(h, d)] from rfl, ← List.append_assoc, List.set_comm _ _ hgh.symm]
  exact (k.ok.add hc hr).add (by rw [List.getElem?_set_ne hgh]; exact hd) hr2
theorem TiesOk.tree (k : TiesOk n room ties cnt) (hgh : h ≠ g) (hc : cnt[g]? = some c) (hd : cnt[h]? = some 0) (hr : c < room) (hr2 : 0 < room) : TiesOk n room (ties ++ [((h, 0), (g, c))]) ((cnt.set h 1).set g (c + 1)) := by
  refine ⟨?_⟩
  have ne : ¬ ((h, 0) : End) = (g, c) := fun z => hgh (congrArg Prod.fst z)
  rw [ends_snoc, show endsOf ((h, 0), (g, c)) = [(h, 0), (g, c)] from if_neg ne]
  rw [show [((h, 0) : End), (g, c)] = [(h, 0)] ++ [(g, c)] from rfl, ← List.append_assoc]
  exact (k.ok.add hd hr2).add (by rw [List.getElem?_set_ne hgh]; exact hc) hr
end
theorem sum_setN : ∀ {l : List Nat} {j z y : Nat}, l[j]? = some z → (l.set j y).sum + z = l.sum + y
  | [], j, z, y, h => by simp at h
  | a :: r, 0, z, y, h => by
    have e : a = z := by simpa using h
    subst e
    show (y :: r).sum + a = (a :: r).sum + y
    rw [List.sum_cons, List.sum_cons]
    omega
  | a :: r, j + 1, z, y, h => by
    have ih := sum_setN (l := r) (j := j) (z := z) (y := y) (by simpa using h)
    show (a :: r.set j y).sum + z = (a :: r).sum + y
    rw [List.sum_cons, List.sum_cons]
    omega
theorem sum_two : ∀ {h : Nat} {l : List Nat}, (∀ g, g < h → ∃ c, l[g]? = some c ∧ 2 ≤ c) → 2 * h ≤ l.sum
  | 0, _, _ => Nat.zero_le _
  | h + 1, [], k => by
    obtain ⟨c, e, _⟩ := k 0 (by omega)
    simp at e
  | h + 1, a :: r, k => by
    obtain ⟨c, e, hc⟩ := k 0 (by omega)
    have ea : a = c := by simpa using e
    have ih := sum_two (h := h) (l := r) fun g hg => by
      obtain ⟨c, e, hc⟩ := k (g + 1) (by omega)
      exact ⟨c, by simpa using e, hc⟩
    rw [List.sum_cons]
    omega
theorem room_left {room h : Nat} {l : List Nat} (hr : 2 ≤ room) (hl : h ≤ l.length) (hs : l.sum < 2 * h) : ∃ g c, g < h ∧ l[g]? = some c ∧ c < room := by
  apply Classical.byContradiction
  intro no
  have := sum_two (h := h) (l := l) fun g hg => by
    have hgl : g < l.length := by omega
    refine ⟨l[g], List.getElem?_eq_getElem hgl, ?_⟩
    apply Classical.byContradiction
    intro lt
    exact no ⟨g, l[g], hg, List.getElem?_eq_getElem hgl, by omega⟩
  omega
def Tree (n : Nat) (ties : List Tie) : Prop := ∀ h, 0 < h → h < n → ∃ g s t, g < h ∧ ((h, s), (g, t)) ∈ ties
theorem Tree.more {n : Nat} {ties : List Tie} {t : Tie} (k : Tree n ties) : Tree n (ties ++ [t]) := fun h h0 h1 => by
  obtain ⟨g, s, t', hg, m⟩ := k h h0 h1
  exact ⟨g, s, t', hg, List.mem_append_left _ m⟩
def PairN (H : Hp) (a : Addr) (e : End) : Prop := H a = some (.tup [natV e.1, natV e.2])
def TieAt (H : Hp) (a : Addr) (t : Tie) : Prop := ∃ x y, H a = some (.tup [.ref x, .ref y]) ∧ PairN H x t.1 ∧ PairN H y t.2
def Tups (H H' : Hp) : Prop := ∀ b xs, H b = some (.tup xs) → H' b = some (.tup xs)
theorem Tups.trans {H H1 H2 : Hp} (a : Tups H H1) (b : Tups H1 H2) : Tups H H2 := fun c xs e => b c xs (a c xs e)
theorem sTups {H H' : Hp} (s : Same H H') : Tups H H' := fun b xs e => s b _ e
theorem Step.tups {p : Addr} {H H' : Hp} (s : Step p H H') (hb : BoxAt H p) : Tups H H' := fun b xs e => s.keep b _ (fun z => by
  obtain ⟨_, _, e', _⟩ := hb.ex
  rw [z, e'] at e
  cases e) e
theorem tups_lst {H : Hp} {l : Addr} {xs : List V} {o : HO} (h : H l = some (.lst xs)) : Tups H (upd H l o) := fun b ys e => by
  rw [upd_ne (ne_of e h (fun z => nomatch z))]
  exact e
theorem TieAt.tups {H H' : Hp} {a : Addr} {t : Tie} (s : Tups H H') (h : TieAt H a t) : TieAt H' a t := by
  obtain ⟨x, y, e, e1, e2⟩ := h
  exact ⟨x, y, s _ _ e, s _ _ e1, s _ _ e2⟩
theorem paired_snoc {α β : Type} {R : α → β → Prop} {x : α} {y : β} (r : R x y) : ∀ {xs : List α} {ys : List β}, Paired R xs ys → Paired R (xs ++ [x]) (ys ++ [y])
  | _, _, .nil => .cons r .nil
  | _, _, .cons q t => .cons q (paired_snoc r t)
theorem paired_get {α β : Type} {R : α → β → Prop} : ∀ {xs : List α} {ys : List β} {i : Nat} {x : α}, Paired R xs ys → xs[i]? = some x → ∃ y, ys[i]? = some y ∧ R x y
  | _, _, _, _, .nil, e => by simp at e
  | _, _, 0, _, .cons r _, e => by simp at e; subst e; exact ⟨_, rfl, r⟩
  | _, _, i + 1, x, .cons _ t, e => by
    obtain ⟨u, h1, h2⟩ := paired_get (i := i) (x := x) t (by simpa using e)
    exact ⟨u, by simpa using h1, h2⟩
theorem paired_get' {α β : Type} {R : α → β → Prop} : ∀ {xs : List α} {ys : List β} {i : Nat} {y : β}, Paired R xs ys → ys[i]? = some y → ∃ x, xs[i]? = some x ∧ R x y
  | _, _, _, _, .nil, e => by simp at e
  | _, _, 0, _, .cons r _, e => by simp at e; subst e; exact ⟨_, rfl, r⟩
  | _, _, i + 1, x, .cons _ t, e => by
    obtain ⟨u, h1, h2⟩ := paired_get' (i := i) (y := x) t (by simpa using e)
    exact ⟨u, by simpa using h1, h2⟩
theorem take_snoc {α : Type} {l : List α} {i : Nat} {d : α} (h : l[i]? = some d) : l.take (i + 1) = l.take i ++ [d] := by
  rw [List.take_add_one, h]
  rfl
structure TiesAt (H : Hp) (l : Addr) (ties : List Tie) : Prop where
  ex : ∃ as : List Addr, H l = some (.lst (as.map V.ref)) ∧ Paired (TieAt H) as ties
theorem TiesAt.put {H H' : Hp} {l a : Addr} {as : List Addr} {ties : List Tie} {t : Tie} (e : H l = some (.lst (as.map V.ref))) (h : Paired (TieAt H) as ties) (s : Tups H H') (ht : TieAt H' a t) (hl : H' l = some (.lst (as.map V.ref ++ [.ref a]))) : TiesAt H' l (ties ++ [t]) := by
  refine ⟨as ++ [a], by rw [List.map_append]; exact hl, ?_⟩
  exact paired_snoc (R := TieAt H') ht (Paired.mapP h fun _ _ q => q.tups s)
def spTies : Sp := fun vs H Q _ => ∃ (p : Addr) (n room : Nat), vs = [.ref p, natV n, natV room] ∧ BoxAt H p ∧ 1 ≤ n ∧ n ≤ 1000 ∧ 2 ≤ room ∧ room ≤ 1000 ∧
  ∀ (r lt lc : Addr) (ties : List Tie) (cnt : List Nat) (H' : Hp), H r = none → Step p H H' → H' r = some (.tup [.ref lt, .ref lc]) → H lt = none → H lc = none → TiesAt H' lt ties → H' lc = some (.lst (cnt.map natV)) →
    TiesOk n room ties cnt → Tree n ties → Q (.ref r) H'
end NH
set_option Elab.async false
set_option linter.all false
set_option maxRecDepth 100000
set_option maxHeartbeats 4000000
namespace NH
open PySem L2
abbrev sTies : Stmt := top 27
structure Sel (cnt : List Nat) (room i : Nat) (sel : List Nat) : Prop where
  len : sel.length ≤ i
  has : ∀ x ∈ sel, x < i ∧ ∃ c, cnt[x]? = some c ∧ c < room
  all : ∀ g c, g < i → cnt[g]? = some c → c < room → g ∈ sel
theorem Sel.nil (cnt : List Nat) (room : Nat) : Sel cnt room 0 [] := ⟨Nat.le_refl _, (fun x hx => nomatch hx), fun g c h => absurd h (Nat.not_lt_zero _)⟩
theorem Sel.yes {cnt : List Nat} {room i c : Nat} {sel : List Nat} (s : Sel cnt room i sel) (e : cnt[i]? = some c) (h : c < room) : Sel cnt room (i + 1) (sel ++ [i]) := by
  refine ⟨by rw [List.length_append]; have := s.len; show sel.length + 1 ≤ i + 1; omega, fun x hx => ?_, fun g d hg ed hd => ?_⟩
  · rcases List.mem_append.mp hx with z | z
    · obtain ⟨a, b⟩ := s.has x z
      exact ⟨by omega, b⟩
    · rw [List.mem_singleton.mp z]
      exact ⟨by omega, c, e, h⟩
  · by_cases q : g = i
    · exact List.mem_append_right _ (by rw [q]; exact List.mem_singleton.mpr rfl)
    · exact List.mem_append_left _ (s.all g d (by omega) ed hd)
theorem Sel.no {cnt : List Nat} {room i c : Nat} {sel : List Nat} (s : Sel cnt room i sel) (e : cnt[i]? = some c) (h : ¬ c < room) : Sel cnt room (i + 1) sel := by
  refine ⟨Nat.le_succ_of_le s.len, fun x hx => ?_, fun g d hg ed hd => ?_⟩
  · obtain ⟨a, b⟩ := s.has x hx
    exact ⟨by omega, b⟩
  · refine s.all g d ?_ ed hd
    rcases Nat.lt_succ_iff_lt_or_eq.mp hg with q | q
    · exact q
    · subst q
      rw [e] at ed
      cases ed
      exact absurd hd h
abbrev nTies : List Str := ["_law_box_here", "_law_many", "_law_room", "_law_count", "_law_ties_here", "_law_h", "_law_g", "_law_some", "_law_k", "_law_form"]
section
variable {P : Program} {w : World} {K : PySem.W.Frag} {mg : Str → Option Value} {base : Heap}
theorem scTies : FnScope nTies ["_law_box_here", "_law_many", "_law_room"] (defScope sTies) := ⟨rfl, rfl, rfl, by decide +kernel, rfl, by decide +kernel, by decide +kernel⟩
abbrev ttSel (K : PySem.W.Frag) : TT := tTest (tOp (rI0 fun i j => .bl (decide (i < j))) (tOp (rIxL K) (tVar 3) (tVar 6)) (tVar 2))
theorem sel_lc {σ : St} {H1 : Hp} {Lc D : Addr} {cnt : List Nat} {room m : Nat} {Qd : Hp → Prop} (h3 : σ[3]? = some (some (.ref Lc))) (h2 : σ[2]? = some (some (natV room))) (h6 : 6 < σ.length) (hL : H1 Lc = some (.lst (cnt.map natV))) (hm : m ≤ cnt.length) (hm2 : m ≤ 1000) (nD : H1 D = none)
    (k : ∀ sel H2, Same H1 H2 → H2 D = some (.lst (sel.map natV)) → Sel cnt room m sel → Qd H2) :
    ∃ W : Nat → Nat → Hp → Prop, (∃ m, W 0 m (upd H1 D (.lst []))) ∧ ∀ i m' H, W i m' H →
      ((Itr 0 m).stop i H ∧ Qd H) ∨ ((Itr 0 m).go i H ∧ ∃ Nx : Hp → Prop, (∀ H', Nx H' → ∃ m'', m'' < m' ∧ W (i + 1) m'' H') ∧ ∀ x H', (Itr 0 m).yld i H x H' → gName 6 x (wipe σ [6]) H' fun σ2 H2 => wipe σ2 [6] = wipe σ [6] ∧ ttSel K σ2 H2 fun b H3 =>
        if b = true then tVar 6 σ2 H3 fun y H4 => ∃ acc, H4 D = some (.lst acc) ∧ acc.length < sizeLine ∧ Nx (upd H4 D (.lst (acc ++ [y]))) else Nx H3) := by
  have neD : Lc ≠ D := ne_of_none hL nD
  refine lc_range (lo := 0) (n := m) (σ := σ) (vs := [6]) (te := tVar 6) (tt := ttSel K) (g := gName 6) (fun i H2 => Same H1 H2 ∧ ∃ sel, H2 D = some (.lst (sel.map natV)) ∧ Sel cnt room i sel) ⟨same_new nD, [], upd_same, Sel.nil _ _⟩ ?_ ?_
  · rintro i H2 hi ⟨s2, sel, hD, hs⟩
    obtain ⟨c, ec⟩ : ∃ c, cnt[i]? = some c := ⟨cnt[i], List.getElem?_eq_getElem (by omega)⟩
    have e3 : ((σ.set 6 none).set 6 (some (.int (0 + (i : Int)))))[3]? = some (some (.ref Lc)) := by
      rw [List.getElem?_set_ne (by decide), List.getElem?_set_ne (by decide)]; exact h3
    have e2 : ((σ.set 6 none).set 6 (some (.int (0 + (i : Int)))))[2]? = some (some (natV room)) := by
      rw [List.getElem?_set_ne (by decide), List.getElem?_set_ne (by decide)]; exact h2
    have e6 : ((σ.set 6 none).set 6 (some (.int (0 + (i : Int)))))[6]? = some (some (.int (0 + (i : Int)))) := List.getElem?_set_self (by rw [List.length_set]; exact h6)
    refine ⟨?_, ?_⟩
    · show ((σ.set 6 none).set 6 (some (.int (0 + (i : Int))))).set 6 none = σ.set 6 none
      rw [List.set_set, List.set_set]
    · refine ⟨_, e3, _, e6, Lc, _, _, _, rfl, rfl, SqL.of (s2 _ _ hL), natV_at (by omega) ec, _, e2, _, _, rfl, rfl, _, rfl, ?_⟩
      refine ite2 (fun h => ?_) (fun h => ?_)
      · have h' : c < room := by
          have := of_decide_eq_true h
          omega
        refine ⟨_, e6, _, hD, (by rw [List.length_map, sizeLine_eq]; have := hs.len; omega), fun b o e => ?_, sel ++ [i], ?_, hs.yes ec h'⟩
        · rw [upd_ne (ne_of_none e nD)]
          exact s2 _ _ e
        · rw [upd_same, List.map_append]
          show _ = some (HO.lst (sel.map natV ++ [V.int ((i : Nat) : Int)]))
          rw [Int.zero_add]
      · have h' : ¬ c < room := fun z => h (decide_eq_true (by omega))
        exact ⟨s2, sel, hD, hs.no ec h'⟩
  · rintro H2 ⟨s2, sel, hD, hs⟩
    exact k sel H2 s2 hD hs
theorem app_tie {p Lt Lc t1 t2 t3 : Addr} {H H8 : Hp} {as : List Addr} {ties : List Tie} {cnt : List Nat} {x y : End} (s8 : Step p H H8) (hLc : H8 Lc = some (.lst (cnt.map natV))) (hLt : H8 Lt = some (.lst (as.map V.ref))) (hP : Paired (TieAt H8) as ties)
    (nLt : H Lt = none) (neLt : Lt ≠ p) (neLL : Lt ≠ Lc) (m1 : H8 t1 = none) (m2 : (upd H8 t1 (.tup [natV x.1, natV x.2])) t2 = none) (m3 : (upd (upd H8 t1 (.tup [natV x.1, natV x.2])) t2 (.tup [natV y.1, natV y.2])) t3 = none) :
    (upd (upd (upd H8 t1 (.tup [natV x.1, natV x.2])) t2 (.tup [natV y.1, natV y.2])) t3 (.tup [.ref t1, .ref t2])) Lt = some (.lst (as.map V.ref)) ∧
    Step p H (upd (upd (upd (upd H8 t1 (.tup [natV x.1, natV x.2])) t2 (.tup [natV y.1, natV y.2])) t3 (.tup [.ref t1, .ref t2])) Lt (.lst (as.map V.ref ++ [.ref t3]))) ∧
    (upd (upd (upd (upd H8 t1 (.tup [natV x.1, natV x.2])) t2 (.tup [natV y.1, natV y.2])) t3 (.tup [.ref t1, .ref t2])) Lt (.lst (as.map V.ref ++ [.ref t3]))) Lc = some (.lst (cnt.map natV)) ∧
    TiesAt (upd (upd (upd (upd H8 t1 (.tup [natV x.1, natV x.2])) t2 (.tup [natV y.1, natV y.2])) t3 (.tup [.ref t1, .ref t2])) Lt (.lst (as.map V.ref ++ [.ref t3]))) Lt (ties ++ [(x, y)]) := by
  have s67 := ((same_new (o := .tup [natV x.1, natV x.2]) m1).trans (same_new (o := .tup [natV y.1, natV y.2]) m2)).trans (same_new (o := .tup [.ref t1, .ref t2]) m3)
  have e1 := ((same_new (o := .tup [natV y.1, natV y.2]) m2).trans (same_new (o := .tup [.ref t1, .ref t2]) m3)) t1 _ upd_same
  have e2 := (same_new (o := .tup [.ref t1, .ref t2]) m3) t2 _ (upd_same (H := upd H8 t1 (.tup [natV x.1, natV x.2])) (o := .tup [natV y.1, natV y.2]))
  have e3 : (upd (upd (upd H8 t1 (.tup [natV x.1, natV x.2])) t2 (.tup [natV y.1, natV y.2])) t3 (.tup [.ref t1, .ref t2])) t3 = some (.tup [.ref t1, .ref t2]) := upd_same
  generalize (upd (upd (upd H8 t1 (.tup [natV x.1, natV x.2])) t2 (.tup [natV y.1, natV y.2])) t3 (.tup [.ref t1, .ref t2])) = H7 at s67 e1 e2 e3 ⊢
  have hLt7 := s67 _ _ hLt
  have tt8 := tups_lst (o := .lst (as.map V.ref ++ [.ref t3])) hLt7
  refine ⟨hLt7, (s8.same s67).put nLt neLt, by rw [upd_ne neLL.symm]; exact s67 _ _ hLc, ?_⟩
  exact TiesAt.put hLt hP ((sTups s67).trans tt8) ⟨t1, t2, tt8 _ _ e3, tt8 _ _ e1, tt8 _ _ e2⟩ upd_same
theorem rep0 (n : Nat) : (List.replicate n [V.int 0]).flatten = (List.replicate n 0).map natV := by
  induction n with
  | zero => rfl
  | succ n ih => rw [List.replicate_succ, List.replicate_succ, List.flatten_cons, ih]; rfl
theorem ok_ties {f fT : Addr} {fd fdT : FuncData} (F : Fun K "_law_ties" "_law_ties" sTies f fd) (GT : FnOk P w K mg base CX0 1 fT fdT ["_law_box_here", "_law_wide"] spTake) (bT : Binds K fdT ["_law_box_here", "_law_wide"] []) (mT : mg "_law_take" = some (.ref fT)) (kT : PySem.W.keepIn K (.ref fT) = true)
    (mrange : mg "range" = none) (mlen : mg "len" = none) : FnOk P w K mg base CX0 2 f fd ["_law_box_here", "_law_many", "_law_room"] spTies := by
  refine F.ok scTies (fun vs H Q E h => ?_) (fun cdv A outer s H vs Q E hr h => ?_)
  · obtain ⟨p, n, room, rfl, _⟩ := h
    rfl
  · obtain ⟨p, n, room, rfl, hb, n0, n1, r0, r1, k⟩ := h
    have nd := scTies.nd
    refine ⟨_, pss_cons (ps_set (i := 3) nd rfl (Or.inr rfl) (pe_op op_rep (pe_lst (pa_cons pe_int pa_nil)) (pv 1)))
      (pss_cons (ps_set (i := 4) nd rfl (Or.inl rfl) (pe_lst pa_nil))
      (pss_cons (ps_for PassesOwn.never rfl (pi_range2 (by rfl) mrange (pa_cons pe_int (pa_cons (pv 1) pa_nil))) (pg_name (i := 5) nd rfl (Or.inl rfl))
        (pss_cons (ps_setLc (i := 7) (own := [("_law_g", 6)]) (g := gName 6) (tt := ttSel K) (te := tVar 6) (by rfl) nd rfl rfl (sw_true rfl rfl rfl (by decide +kernel)) (pi_range1 (by rfl) mrange (pa_cons (pv 5) pa_nil)) (blkOk_by (own := [("_law_g", 6)]) (N := nTies) (sc := defScope sTies) (by decide +kernel))
          (fun _ _ _ _ _ => pg_name (i := 6) nd rfl (Or.inl rfl)) (fun _ _ _ _ _ => pts_one (pt_cmpR op_lt (pe_ix ix_list (pv 3) (pv 6) (fun _ _ => rfl)) (pv 2) (nomark _))) (fun _ _ _ _ _ => pv 6))
        (pss_cons (ps_set (i := 6) nd rfl (Or.inl rfl) (pe_ix ix_list (pv 7) (pe_call GT hr (by rfl) mT kT bT .nil pass0 (pa_cons (pv 0) (pa_cons (pe_callB call_len_seq (by rfl) mlen PySem.boot_len (pa_cons (pv 7) pa_nil)) pa_nil))) (fun _ _ => rfl)))
        (pss_cons (ps_expr (pe_bm PySem.F.plainAttrs_list PySem.F.slot_list_append PySem.F.type_list_append mt_append (pv 4) (pa_cons (pe_tup (pa_cons (pe_tup (pa_cons (pv 5) (pa_cons pe_int pa_nil))) (pa_cons (pe_tup (pa_cons (pv 6) (pa_cons (pe_ix ix_list (pv 3) (pv 6) (fun _ _ => rfl)) pa_nil))) pa_nil))) pa_nil)))
        (pss_one (ps_asg (pe_tup (pa_cons pe_int (pa_cons (pe_op op_add (pe_ix ix_list (pv 3) (pv 6) (fun _ _ => rfl)) pe_int) pa_nil))) (pg_tup (by rfl) (pgs_cons (pg_sub (pv 3) (pv 5) set_list) (pgs_cons (pg_sub (pv 3) (pv 6) set_list) pgs_nil)))))))))
      (pss_cons (ps_for PassesOwn.never rfl (pi_range1 (by rfl) mrange (pa_cons (pe_call GT hr (by rfl) mT kT bT .nil pass0 (pa_cons (pv 0) (pa_cons pe_int pa_nil))) pa_nil)) (pg_name (i := 8) nd rfl (Or.inl rfl))
        (pss_cons (ps_setLc (i := 7) (own := [("_law_g", 6)]) (g := gName 6) (tt := ttSel K) (te := tVar 6) (by rfl) nd rfl rfl (sw_true rfl rfl rfl (by decide +kernel)) (pi_range1 (by rfl) mrange (pa_cons (pv 1) pa_nil)) (blkOk_by (own := [("_law_g", 6)]) (N := nTies) (sc := defScope sTies) (by decide +kernel))
          (fun _ _ _ _ _ => pg_name (i := 6) nd rfl (Or.inl rfl)) (fun _ _ _ _ _ => pts_one (pt_cmpR op_lt (pe_ix ix_list (pv 3) (pv 6) (fun _ _ => rfl)) (pv 2) (nomark _))) (fun _ _ _ _ _ => pv 6))
        (pss_one (ps_if (pt_cmpR op_gt (pe_callB call_len_seq (by rfl) mlen PySem.boot_len (pa_cons (pv 7) pa_nil)) pe_int (nomark _))
          (pss_cons (ps_set (i := 9) nd rfl (Or.inl rfl) (pe_call GT hr (by rfl) mT kT bT .nil pass0 (pa_cons (pv 0) (pa_cons pe_int pa_nil))))
          (pss_cons (ps_par (i := 6) (j := 5) (by rfl) nd rfl rfl (by decide) rfl rfl (pa_cons (pe_ix ix_list (pv 7) (pe_call GT hr (by rfl) mT kT bT .nil pass0 (pa_cons (pv 0) (pa_cons (pe_callB call_len_seq (by rfl) mlen PySem.boot_len (pa_cons (pv 7) pa_nil)) pa_nil))) (fun _ _ => rfl))
            (pa_cons (pe_ix ix_list (pv 7) (pe_call GT hr (by rfl) mT kT bT .nil pass0 (pa_cons (pv 0) (pa_cons (pe_callB call_len_seq (by rfl) mlen PySem.boot_len (pa_cons (pv 7) pa_nil)) pa_nil))) (fun _ _ => rfl)) pa_nil)) (by rfl))
          (pss_cons (ps_if (PW.pt (pw_or (pt_cmpR op_eq (pv 9) pe_int (nomark _)) (pw_or1 (PW.pt (pw_and (pt_cmpR op_eq (pv 6) (pv 5) (nomark _)) (pw_and1 (pt_cmpR op_eq (pe_op op_add (pe_ix ix_list (pv 3) (pv 6) (fun _ _ => rfl)) pe_int) (pv 2) (nomark _))))))))
            (pss_cons (ps_set (i := 5) nd rfl (Or.inl rfl) (pv 6))
            (pss_one (ps_expr (pe_bm PySem.F.plainAttrs_list PySem.F.slot_list_append PySem.F.type_list_append mt_append (pv 4) (pa_cons (pe_tup (pa_cons (pe_tup (pa_cons (pv 6) (pa_cons (pe_ix ix_list (pv 3) (pv 6) (fun _ _ => rfl)) pa_nil))) (pa_cons (pe_tup (pa_cons (pv 6) (pa_cons (pe_ix ix_list (pv 3) (pv 6) (fun _ _ => rfl)) pa_nil))) pa_nil))) pa_nil)))))
            (pss_one (ps_if (pt_cmpR op_eq (pv 6) (pv 5) (nomark _))
              (pss_cons (ps_expr (pe_bm PySem.F.plainAttrs_list PySem.F.slot_list_append PySem.F.type_list_append mt_append (pv 4) (pa_cons (pe_tup (pa_cons (pe_tup (pa_cons (pv 6) (pa_cons (pe_ix ix_list (pv 3) (pv 6) (fun _ _ => rfl)) pa_nil))) (pa_cons (pe_tup (pa_cons (pv 6) (pa_cons (pe_op op_add (pe_ix ix_list (pv 3) (pv 6) (fun _ _ => rfl)) pe_int) pa_nil))) pa_nil))) pa_nil)))
              (pss_one (ps_asg (pe_op op_add (pe_ix ix_list (pv 3) (pv 6) (fun _ _ => rfl)) pe_int) (pg_sub (pv 3) (pv 6) set_list))))
              (pss_cons (ps_expr (pe_bm PySem.F.plainAttrs_list PySem.F.slot_list_append PySem.F.type_list_append mt_append (pv 4) (pa_cons (pe_tup (pa_cons (pe_tup (pa_cons (pv 6) (pa_cons (pe_ix ix_list (pv 3) (pv 6) (fun _ _ => rfl)) pa_nil))) (pa_cons (pe_tup (pa_cons (pv 5) (pa_cons (pe_ix ix_list (pv 3) (pv 5) (fun _ _ => rfl)) pa_nil))) pa_nil))) pa_nil)))
              (pss_one (ps_asg (pe_op op_add (pe_ix ix_list (pv 3) (pv 5) (fun _ _ => rfl)) pe_int) (pg_sub (pv 3) (pv 5) set_list)))))))
          (pss_one (ps_asg (pe_op op_add (pe_ix ix_list (pv 3) (pv 6) (fun _ _ => rfl)) pe_int) (pg_sub (pv 3) (pv 6) set_list))))))
          pss_nil))))
      (pss_one (ps_ret (pe_tup (pa_cons (pv 4) (pa_cons (pv 3) pa_nil)))))))), ?_⟩
    refine ⟨(by show 1 ≤ sizeLine; decide), fun a0 na0 => ⟨_, rfl, a0, _, _, rfl, rfl, upd_same, by omega, by omega, (by show 1 * (n : Int).toNat ≤ sizeLine; rw [sizeLine_eq]; omega), fun Lc nLc => ?_⟩⟩
    have s1 := (Step.refl hb).new (o := .lst [.int 0]) na0
    have nLcH : H Lc = none := s1.free nLc
    have neLc : Lc ≠ p := s1.box.ne nLc
    have hLc0 : (upd (upd H a0 (.lst [.int 0])) Lc (.lst (List.replicate (n : Int).toNat [V.int 0]).flatten)) Lc = some (.lst ((List.replicate n 0).map natV)) := by rw [upd_same, Int.toNat_natCast, rep0]
    have s2 := s1.new (o := .lst (List.replicate (n : Int).toNat [V.int 0]).flatten) nLc
    generalize (upd (upd H a0 (.lst [.int 0])) Lc (.lst (List.replicate (n : Int).toNat [V.int 0]).flatten)) = H2 at hLc0 s2 ⊢
    refine ⟨Nat.zero_le _, fun Lt nLt => ?_⟩
    have nLtH : H Lt = none := s2.free nLt
    have neLt : Lt ≠ p := s2.box.ne nLt
    have neLL : Lt ≠ Lc := fun z => by rw [z, hLc0] at nLt; cases nLt
    have s3 := s2.new (o := .lst []) nLt
    refine ⟨_, rfl, _, _, rfl, ⟨by decide, by decide, by omega, by omega⟩, ?_⟩
    refine for_range (lo := 1) (n := _) (fun i σ H1 => Step p H H1 ∧ ∃ (ties : List Tie) (cnt : List Nat) (o5 o6 o7 o8 o9 : Option V), σ = [some (.ref p), some (natV n), some (natV room), some (.ref Lc), some (.ref Lt), o5, o6, o7, o8, o9] ∧
        H1 Lc = some (.lst (cnt.map natV)) ∧ TiesAt H1 Lt ties ∧ TiesOk n room ties cnt ∧ cnt.sum = 2 * i ∧ (∀ j, i < j → j < n → cnt[j]? = some 0) ∧ Tree (i + 1) ties ∧ ties.length ≤ i)
      ⟨s3, [], List.replicate n 0, none, none, none, none, none, rfl, (by rw [upd_ne neLL.symm]; exact hLc0), ⟨[], upd_same, .nil⟩, TiesOk.nil n room, by simp, fun j _ hj => by simp [List.getElem?_replicate, hj], fun h h0 h1 => by omega, Nat.le_refl _⟩ ?_ ?_
    · rintro i σ H1 hi ⟨s4, ties, cnt, o5, o6, o7, o8, o9, rfl, hLc, ⟨as, hLt, hP⟩, ok, sum, zer, tree, tl⟩
      have hin : i + 1 < n := by omega
      have em : (1 + (i : Int)).toNat = i + 1 := by omega
      have cl := ok.ok.len
      refine ⟨_, rfl, _, rfl, by omega, by omega, fun D nD => sel_lc (K := K) (cnt := cnt) (room := room) (m := (1 + (i : Int)).toNat) rfl rfl (by simp) hLc (by omega) (by omega) nD fun sel H5 s5 hD hs => ?_⟩
      rw [em] at hs
      obtain ⟨g0, c0, hg0, e0, hc0⟩ := room_left r0 (show i + 1 ≤ cnt.length by omega) (by omega)
      have hsel : 0 < sel.length := List.length_pos_of_mem (hs.all g0 c0 hg0 e0 hc0)
      have s45 := s4.same s5
      have neD : D ≠ p := s4.box.ne nD
      have nDH : H D = none := s4.free nD
      have hLc5 := s5 _ _ hLc
      have hLt5 := s5 _ _ hLt
      have hP5 : Paired (TieAt H5) as ties := Paired.mapP hP fun _ _ q => q.tups (sTups s5)
      obtain ⟨xa, xb, hx, hx0, hx1⟩ := s45.box.ex
      have sl := hs.len
      refine ⟨_, rfl, _, rfl, _, rfl, D, _, rfl, .inl (SqL.of hD), p, xa, xb, _, rfl, hx, hx0, hx1, (by rw [List.length_map]; omega), (by rw [List.length_map]; omega), fun r a' b' q0 q1 c1 c2 => ?_⟩
      rw [List.length_map] at q1
      have hrl : r.toNat < sel.length := by omega
      have eg : sel[r.toNat]? = some sel[r.toNat] := List.getElem?_eq_getElem hrl
      obtain ⟨hgi, c, ec, hc⟩ := hs.has sel[r.toNat] (List.getElem_mem hrl)
      generalize sel[r.toNat] = g at eg hgi ec
      refine ⟨D, _, _, _, rfl, rfl, SqL.of (by rw [upd_ne neD]; exact hD), natV_at (by omega) eg, ?_⟩
      have s6 := s45.take (x := a') c1 c2
      have hLc6 : (upd H5 p (.lst [.int a', .int b'])) Lc = some (.lst (cnt.map natV)) := by rw [upd_ne neLc]; exact hLc5
      have hLt6 : (upd H5 p (.lst [.int a', .int b'])) Lt = some (.lst (as.map V.ref)) := by rw [upd_ne neLt]; exact hLt5
      have hP6 : Paired (TieAt (upd H5 p (.lst [.int a', .int b']))) as ties := Paired.mapP hP5 fun _ _ q => q.tups (tups_lst hx)
      generalize (upd H5 p (.lst [.int a', .int b'])) = H6 at s6 hLc6 hLt6 hP6 ⊢
      -- ties_here.append(((h, 0), (g, count[g])))
      refine ⟨_, rfl, .inl ⟨rfl, _, SqL.of hLt6⟩, _, rfl, (by show 2 ≤ sizeLine; decide), fun t1 m1 => ?_⟩
      refine ⟨_, rfl, _, rfl, _, rfl, Lc, _, _, _, rfl, rfl, SqL.of (same_new m1 _ _ hLc6), natV_at rfl ec, (by show 2 ≤ sizeLine; decide), fun t2 m2 => ⟨(by show 2 ≤ sizeLine; decide), fun t3 m3 => ?_⟩⟩
      have s67 := ((same_new (o := .tup [.int (1 + (i : Int)), .int 0]) m1).trans (same_new (o := .tup [natV g, natV c]) m2)).trans (same_new (o := .tup [.ref t1, .ref t2]) m3)
      have e1 := ((same_new (o := .tup [natV g, natV c]) m2).trans (same_new (o := .tup [.ref t1, .ref t2]) m3)) t1 _ upd_same
      have e2 := (same_new (o := .tup [.ref t1, .ref t2]) m3) t2 _ (upd_same (H := upd H6 t1 (.tup [.int (1 + (i : Int)), .int 0])) (o := .tup [natV g, natV c]))
      have e3 : (upd (upd (upd H6 t1 (.tup [.int (1 + (i : Int)), .int 0])) t2 (.tup [natV g, natV c])) t3 (.tup [.ref t1, .ref t2])) t3 = some (.tup [.ref t1, .ref t2]) := upd_same
      generalize (upd (upd (upd H6 t1 (.tup [.int (1 + (i : Int)), .int 0])) t2 (.tup [natV g, natV c])) t3 (.tup [.ref t1, .ref t2])) = H7 at s67 e1 e2 e3 ⊢
      have s7 := s6.same s67
      have hLc7 := s67 _ _ hLc6
      have hLt7 := s67 _ _ hLt6
      have al : as.length = ties.length := Paired.length hP
      refine ⟨Lt, _, _, rfl, rfl, hLt7, (by rw [List.length_map, sizeLine_eq]; omega), ?_⟩
      have s8 := s7.put (o := .lst (as.map V.ref ++ [.ref t3])) nLtH neLt
      have hLc8 : (upd H7 Lt (.lst (as.map V.ref ++ [.ref t3]))) Lc = some (.lst (cnt.map natV)) := by rw [upd_ne neLL.symm]; exact hLc7
      have tt8 := tups_lst (o := .lst (as.map V.ref ++ [.ref t3])) hLt7
      have hT8 : TiesAt (upd H7 Lt (.lst (as.map V.ref ++ [.ref t3]))) Lt (ties ++ [((i + 1, 0), (g, c))]) :=
        TiesAt.put hLt6 hP6 ((sTups s67).trans tt8) ⟨t1, t2, tt8 _ _ e3, tt8 _ _ (by rw [e1]; show some (HO.tup [V.int (1 + (i : Int)), V.int 0]) = some (HO.tup [V.int ((i + 1 : Nat) : Int), V.int ((0 : Nat) : Int)]); rw [show ((i + 1 : Nat) : Int) = 1 + (i : Int) by omega]; rfl), tt8 _ _ e2⟩ upd_same
      generalize (upd H7 Lt (.lst (as.map V.ref ++ [.ref t3]))) = H8 at s8 hLc8 hT8 ⊢
      -- count[h], count[g] = (1, count[g] + 1)
      have hgh : i + 1 ≠ g := by omega
      refine ⟨_, rfl, _, rfl, Lc, _, _, _, rfl, rfl, SqL.of hLc8, natV_at rfl ec, _, _, rfl, rfl, (by show 2 ≤ sizeLine; decide), fun t4 m4 => ?_⟩
      have s9 := s8.new (o := .tup [.int 1, .int ((c : Int) + 1)]) m4
      have hLc9 := same_new (o := .tup [.int 1, .int ((c : Int) + 1)]) m4 _ _ hLc8
      have hT9 : TiesAt (upd H8 t4 (.tup [.int 1, .int ((c : Int) + 1)])) Lt (ties ++ [((i + 1, 0), (g, c))]) := by
        obtain ⟨as', h1, h2⟩ := hT8.ex
        exact ⟨as', same_new m4 _ _ h1, Paired.mapP h2 fun _ _ q => q.tups (sTups (same_new m4))⟩
      have et : (upd H8 t4 (.tup [.int 1, .int ((c : Int) + 1)])) t4 = some (.tup [.int 1, .int ((c : Int) + 1)]) := upd_same
      generalize (upd H8 t4 (.tup [.int 1, .int ((c : Int) + 1)])) = H9 at s9 hLc9 hT9 et ⊢
      refine ⟨t4, _, rfl, SqT.of et, rfl, _, _, rfl, _, rfl, _, rfl, Lc, _, _, i + 1, rfl, rfl, hLc9, ixN_nat (by omega) (by rw [List.length_map]; omega), ?_⟩
      refine ⟨_, _, rfl, _, rfl, _, rfl, Lc, _, _, g, rfl, rfl, upd_same, ixN_nat rfl (by rw [List.length_set, List.length_map]; omega), rfl, ?_⟩
      have ez : cnt[i + 1]? = some 0 := zer (i + 1) (by omega) hin
      refine ⟨(s9.put nLcH neLc).put nLcH neLc, ties ++ [((i + 1, 0), (g, c))], (cnt.set (i + 1) 1).set g (c + 1), _, _, _, _, _, rfl, ?_, ?_, ok.tree hgh ec ez hc (by omega), ?_, fun j h1 h2 => ?_, ?_, by rw [List.length_append]; show ties.length + 1 ≤ i + 1; omega⟩
      · rw [upd_same, List.map_set, List.map_set]
        rfl
      · obtain ⟨as', h1, h2⟩ := hT9.ex
        have tt := (tups_lst (o := .lst ((cnt.map natV).set (i + 1) (.int 1))) hLc9).trans (tups_lst (o := .lst (((cnt.map natV).set (i + 1) (.int 1)).set g (.int ((c : Int) + 1)))) (upd_same (H := H9) (a := Lc) (o := .lst ((cnt.map natV).set (i + 1) (.int 1)))))
        exact ⟨as', by rw [upd_ne neLL, upd_ne neLL]; exact h1, Paired.mapP h2 fun _ _ q => q.tups tt⟩
      · have q1 := sum_setN (y := 1) ez
        have q2 := sum_setN (l := cnt.set (i + 1) 1) (j := g) (z := c) (y := c + 1) (by rw [List.getElem?_set_ne hgh]; exact ec)
        omega
      · rw [List.getElem?_set_ne (by omega), List.getElem?_set_ne (by omega)]
        exact zer j (by omega) h2
      · intro h h0 h1
        by_cases q : h = i + 1
        · subst q
          exact ⟨g, 0, c, hgi, List.mem_append_right _ (List.mem_singleton.mpr rfl)⟩
        · exact Tree.more (t := ((i + 1, 0), (g, c))) tree h h0 (by omega)
    · rintro σ H1 ⟨s4, ties, cnt, o5, o6, o7, o8, o9, rfl, hLc, hT, ok, _, _, tree, tl⟩
      have tree' : Tree n ties := fun h h0 h1 => tree h h0 (by omega)
      clear tree
      obtain ⟨xa, xb, hx, hx0, hx1⟩ := s4.box.ex
      refine ⟨_, rfl, p, xa, xb, _, rfl, hx, hx0, hx1, by decide, by decide, fun rr a' b' rr0 rr1 c1 c2 => ⟨_, rfl, by omega, by omega, ?_⟩⟩
      have s5 := s4.take (x := a') c1 c2
      have hLc5 : (upd H1 p (.lst [.int a', .int b'])) Lc = some (.lst (cnt.map natV)) := by rw [upd_ne neLc]; exact hLc
      have hT5 : TiesAt (upd H1 p (.lst [.int a', .int b'])) Lt ties := by
        obtain ⟨as, h1, h2⟩ := hT.ex
        exact ⟨as, by rw [upd_ne neLt]; exact h1, Paired.mapP h2 fun _ _ q => q.tups (tups_lst hx)⟩
      generalize (upd H1 p (.lst [.int a', .int b'])) = H5 at s5 hLc5 hT5 ⊢
      refine for_range (lo := 0) (n := _) (fun i σ H1 => Step p H H1 ∧ ∃ (ties : List Tie) (cnt : List Nat) (o5 o6 o7 o8 o9 : Option V), σ = [some (.ref p), some (natV n), some (natV room), some (.ref Lc), some (.ref Lt), o5, o6, o7, o8, o9] ∧
          H1 Lc = some (.lst (cnt.map natV)) ∧ TiesAt H1 Lt ties ∧ TiesOk n room ties cnt ∧ Tree n ties ∧ ties.length ≤ n + i)
        ⟨s5, ties, cnt, _, _, _, _, _, rfl, hLc5, hT5, ok, tree', by omega⟩ ?_ ?_
      · clear hx hx0 hx1 s4 hLc hT ok tree' tl s5 hLc5 hT5
        rintro i σ H1 hi ⟨s4, ties, cnt, o5, o6, o7, o8, o9, rfl, hLc, ⟨as, hLt, hP⟩, ok, tree, tl⟩
        have cl := ok.ok.len
        have hi4 : i < 4 := by omega
        refine ⟨_, rfl, _, rfl, by omega, by omega, fun D nD => sel_lc (K := K) (cnt := cnt) (room := room) (m := (n : Int).toNat) rfl rfl (by simp) hLc (by omega) (by omega) nD fun sel H5 s5 hD hs => ?_⟩
        rw [Int.toNat_natCast] at hs
        have s45 := s4.same s5
        have neD : D ≠ p := s4.box.ne nD
        have hLc5 := s5 _ _ hLc
        have hLt5 := s5 _ _ hLt
        have hP5 : Paired (TieAt H5) as ties := Paired.mapP hP fun _ _ q => q.tups (sTups s5)
        have sl := hs.len
        have al : as.length = ties.length := Paired.length hP
        refine ⟨_, rfl, D, _, rfl, .inl (SqL.of hD), _, _, rfl, rfl, _, rfl, ?_⟩
        refine ite2 (fun hpos => ?_) (fun hpos => ?_)
        · have hpos : 0 < sel.length := by
            have := of_decide_eq_true hpos
            rw [List.length_map] at this
            omega
          -- form
          obtain ⟨xa, xb, hx, hx0, hx1⟩ := s45.box.ex
          refine ⟨_, rfl, p, xa, xb, _, rfl, hx, hx0, hx1, by decide, by decide, fun fm a1 b1 f0 f1 c1 c2 => ?_⟩
          have s6 := s45.take (x := a1) c1 c2
          -- g, h
          refine ⟨_, rfl, _, rfl, _, rfl, D, _, rfl, .inl (SqL.of (by rw [upd_ne neD]; exact hD)), p, a1, b1, _, rfl, upd_same, c1, c2, (by rw [List.length_map]; omega), (by rw [List.length_map]; omega), fun rg a2 b2 g0 g1 c3 c4 => ?_⟩
          rw [List.length_map] at g1
          have s7 := s6.take (x := a2) c3 c4
          have hgl : rg.toNat < sel.length := by omega
          have eg : sel[rg.toNat]? = some sel[rg.toNat] := List.getElem?_eq_getElem hgl
          obtain ⟨hgi, c, ec, hc⟩ := hs.has sel[rg.toNat] (List.getElem_mem hgl)
          refine ⟨D, _, _, _, rfl, rfl, SqL.of (by rw [upd_ne neD, upd_ne neD]; exact hD), natV_at (by omega) eg, ?_⟩
          refine ⟨_, rfl, _, rfl, _, rfl, D, _, rfl, .inl (SqL.of (by rw [upd_ne neD, upd_ne neD]; exact hD)), p, a2, b2, _, rfl, upd_same, c3, c4, (by rw [List.length_map]; omega), (by rw [List.length_map]; omega), fun rh a3 b3 h0 h1 c5 c6 => ?_⟩
          rw [List.length_map] at h1
          have s8 := s7.take (x := a3) c5 c6
          have hhl : rh.toNat < sel.length := by omega
          have eh : sel[rh.toNat]? = some sel[rh.toNat] := List.getElem?_eq_getElem hhl
          obtain ⟨hhi, d, ed, hd⟩ := hs.has sel[rh.toNat] (List.getElem_mem hhl)
          refine ⟨D, _, _, _, rfl, rfl, SqL.of (by rw [upd_ne neD, upd_ne neD, upd_ne neD]; exact hD), natV_at (by omega) eh, _, _, rfl, ?_⟩
          have hLc8 : (upd (upd (upd H5 p (.lst [.int a1, .int b1])) p (.lst [.int a2, .int b2])) p (.lst [.int a3, .int b3])) Lc = some (.lst (cnt.map natV)) := by rw [upd_ne neLc, upd_ne neLc, upd_ne neLc]; exact hLc5
          have hLt8 : (upd (upd (upd H5 p (.lst [.int a1, .int b1])) p (.lst [.int a2, .int b2])) p (.lst [.int a3, .int b3])) Lt = some (.lst (as.map V.ref)) := by rw [upd_ne neLt, upd_ne neLt, upd_ne neLt]; exact hLt5
          have hP8 : Paired (TieAt (upd (upd (upd H5 p (.lst [.int a1, .int b1])) p (.lst [.int a2, .int b2])) p (.lst [.int a3, .int b3]))) as ties :=
            Paired.mapP hP5 fun _ _ q => ((q.tups (tups_lst hx)).tups (tups_lst upd_same)).tups (tups_lst upd_same)
          generalize (upd (upd (upd H5 p (.lst [.int a1, .int b1])) p (.lst [.int a2, .int b2])) p (.lst [.int a3, .int b3])) = H8 at s8 hLc8 hLt8 hP8 ⊢
          generalize sel[rg.toNat] = g at eg hgi ec
          generalize sel[rh.toNat] = h at eh hhi ed
          clear s45 s6 s7 s4 hx hx0 hx1 hLc5 hLt5 hP5 hLc hLt hP hD hs s5 nD eg eh
          -- what the last statement makes of it
          have last : ∀ (H9 : Hp) (ties' : List Tie) (cnt' : List Nat) (c' : Nat) (o5 : Option V), Step p H H9 → H9 Lc = some (.lst (cnt'.map natV)) → TiesAt H9 Lt ties' → cnt'[g]? = some c' → TiesOk n room ties' (cnt'.set g (c' + 1)) → Tree n ties' → ties'.length ≤ n + (i + 1) →
              Step p H (upd H9 Lc (.lst ((cnt'.map natV).set g (.int ((c' : Int) + 1))))) ∧ (upd H9 Lc (.lst ((cnt'.map natV).set g (.int ((c' : Int) + 1))))) Lc = some (.lst ((cnt'.set g (c' + 1)).map natV)) ∧ TiesAt (upd H9 Lc (.lst ((cnt'.map natV).set g (.int ((c' : Int) + 1))))) Lt ties' := by
            intro H9 ties' cnt' c' o5 t1 t2 t3 t4 t5 t6 t7
            refine ⟨t1.put nLcH neLc, by rw [upd_same, List.map_set]; rfl, ?_⟩
            obtain ⟨as', q1, q2⟩ := t3.ex
            exact ⟨as', by rw [upd_ne neLL]; exact q1, Paired.mapP q2 fun _ _ q => q.tups (tups_lst t2)⟩
          refine ⟨_, rfl, rfl, _, rfl, ?_⟩
          refine ite2 (fun hf => ?_) (fun hf => ?_)
          · refine iteT ?_
            refine ⟨_, rfl, ?_⟩
            refine ⟨_, rfl, .inl ⟨rfl, _, SqL.of hLt8⟩, _, rfl, _, rfl, _, rfl, Lc, _, _, _, rfl, rfl, SqL.of hLc8, natV_at rfl ec, (by show 2 ≤ sizeLine; decide), fun t1 m1 => ?_⟩
            refine ⟨_, rfl, _, rfl, _, rfl, Lc, _, _, _, rfl, rfl, SqL.of (same_new m1 _ _ hLc8), natV_at rfl ec, (by show 2 ≤ sizeLine; decide), fun t2 m2 => ⟨(by show 2 ≤ sizeLine; decide), fun t3 m3 => ?_⟩⟩
            obtain ⟨w1, w2, w3, w4⟩ := app_tie (x := (g, c)) (y := (g, c)) s8 hLc8 hLt8 hP8 nLtH neLt neLL m1 m2 m3
            refine ⟨Lt, _, _, rfl, rfl, w1, (by rw [List.length_map, sizeLine_eq]; omega), ?_⟩
            refine ⟨_, rfl, _, rfl, Lc, _, _, _, rfl, rfl, SqL.of w3, natV_at rfl ec, _, _, rfl, rfl, _, rfl, _, rfl, Lc, _, _, g, rfl, rfl, w3, ixN_nat rfl (by rw [List.length_map]; omega), ?_⟩
            obtain ⟨z1, z2, z3⟩ := last _ _ _ _ none w2 w3 w4 ec (ok.self ec hc) (Tree.more tree) (by rw [List.length_append]; show ties.length + 1 ≤ n + (i + 1); omega)
            exact ⟨z1, _, _, _, _, _, _, _, rfl, z2, z3, ok.self ec hc, Tree.more tree, by rw [List.length_append]; show ties.length + 1 ≤ n + (i + 1); omega⟩
          · refine ⟨_, rfl, _, rfl, rfl, _, rfl, ?_⟩
            refine ite2 (fun hgh => ?_) (fun hgh => ?_)
            · have hgh : g = h := by
                have := of_decide_eq_true hgh
                injection this with this
                omega
              subst hgh
              refine ⟨_, rfl, _, rfl, Lc, _, _, _, rfl, rfl, SqL.of hLc8, natV_at rfl ec, _, _, rfl, rfl, _, rfl, rfl, _, rfl, ?_⟩
              refine ite2 (fun hroom => ?_) (fun hroom => ?_)
              · 
                refine ⟨_, rfl, ?_⟩
                refine ⟨_, rfl, .inl ⟨rfl, _, SqL.of hLt8⟩, _, rfl, _, rfl, _, rfl, Lc, _, _, _, rfl, rfl, SqL.of hLc8, natV_at rfl ec, (by show 2 ≤ sizeLine; decide), fun t1 m1 => ?_⟩
                refine ⟨_, rfl, _, rfl, _, rfl, Lc, _, _, _, rfl, rfl, SqL.of (same_new m1 _ _ hLc8), natV_at rfl ec, (by show 2 ≤ sizeLine; decide), fun t2 m2 => ⟨(by show 2 ≤ sizeLine; decide), fun t3 m3 => ?_⟩⟩
                obtain ⟨w1, w2, w3, w4⟩ := app_tie (x := (g, c)) (y := (g, c)) s8 hLc8 hLt8 hP8 nLtH neLt neLL m1 m2 m3
                refine ⟨Lt, _, _, rfl, rfl, w1, (by rw [List.length_map, sizeLine_eq]; omega), ?_⟩
                refine ⟨_, rfl, _, rfl, Lc, _, _, _, rfl, rfl, SqL.of w3, natV_at rfl ec, _, _, rfl, rfl, _, rfl, _, rfl, Lc, _, _, g, rfl, rfl, w3, ixN_nat rfl (by rw [List.length_map]; omega), ?_⟩
                obtain ⟨z1, z2, z3⟩ := last _ _ _ _ none w2 w3 w4 ec (ok.self ec hc) (Tree.more tree) (by rw [List.length_append]; show ties.length + 1 ≤ n + (i + 1); omega)
                exact ⟨z1, _, _, _, _, _, _, _, rfl, z2, z3, ok.self ec hc, Tree.more tree, by rw [List.length_append]; show ties.length + 1 ≤ n + (i + 1); omega⟩
              · have hroom' : ¬ c + 1 = room := fun z => hroom (decide_eq_true (by show V.int ((c : Int) + 1) = V.int (room : Int); rw [← z]; rfl))
                refine ⟨_, rfl, _, rfl, rfl, _, rfl, ?_⟩
                refine ite2 (fun _ => ?_) (fun z => absurd (decide_eq_true rfl) z)
                refine ⟨_, rfl, .inl ⟨rfl, _, SqL.of hLt8⟩, _, rfl, _, rfl, _, rfl, Lc, _, _, _, rfl, rfl, SqL.of hLc8, natV_at rfl ec, (by show 2 ≤ sizeLine; decide), fun t1 m1 => ?_⟩
                refine ⟨_, rfl, _, rfl, _, rfl, Lc, _, _, _, rfl, rfl, SqL.of (same_new m1 _ _ hLc8), natV_at rfl ec, _, _, rfl, rfl, (by show 2 ≤ sizeLine; decide), fun t2 m2 => ⟨(by show 2 ≤ sizeLine; decide), fun t3 m3 => ?_⟩⟩
                obtain ⟨w1, w2, w3, w4⟩ := app_tie (x := (g, c)) (y := (g, c + 1)) s8 hLc8 hLt8 hP8 nLtH neLt neLL m1 m2 m3
                refine ⟨Lt, _, _, rfl, rfl, w1, (by rw [List.length_map, sizeLine_eq]; omega), ?_⟩
                refine ⟨_, rfl, _, rfl, Lc, _, _, _, rfl, rfl, SqL.of w3, natV_at rfl ec, _, _, rfl, rfl, _, rfl, _, rfl, Lc, _, _, g, rfl, rfl, w3, ixN_nat rfl (by rw [List.length_map]; omega), ?_⟩
                have w5 := w2.put (o := .lst ((cnt.map natV).set g (.int ((c : Int) + 1)))) nLcH neLc
                have w6 : (upd (upd (upd (upd (upd H8 t1 (.tup [natV g, natV c])) t2 (.tup [natV g, natV (c + 1)])) t3 (.tup [.ref t1, .ref t2])) Lt (.lst (as.map V.ref ++ [.ref t3]))) Lc (.lst ((cnt.map natV).set g (.int ((c : Int) + 1))))) Lc = some (.lst ((cnt.set g (c + 1)).map natV)) := by rw [upd_same, List.map_set]; rfl
                have w7 : TiesAt (upd (upd (upd (upd (upd H8 t1 (.tup [natV g, natV c])) t2 (.tup [natV g, natV (c + 1)])) t3 (.tup [.ref t1, .ref t2])) Lt (.lst (as.map V.ref ++ [.ref t3]))) Lc (.lst ((cnt.map natV).set g (.int ((c : Int) + 1))))) Lt (ties ++ [((g, c), (g, c + 1))]) := by
                  obtain ⟨as', q1, q2⟩ := w4.ex
                  exact ⟨as', by rw [upd_ne neLL]; exact q1, Paired.mapP q2 fun _ _ q => q.tups (tups_lst w3)⟩
                have ec' : (cnt.set g (c + 1))[g]? = some (c + 1) := List.getElem?_set_self (by omega)
                refine ⟨_, rfl, _, rfl, Lc, _, _, _, rfl, rfl, SqL.of w6, natV_at rfl ec', _, _, rfl, rfl, _, rfl, _, rfl, Lc, _, _, g, rfl, rfl, w6, ixN_nat rfl (by rw [List.length_map, List.length_set]; omega), ?_⟩
                obtain ⟨z1, z2, z3⟩ := last _ _ _ _ none w5 w6 w7 ec' (ok.own ec (by omega)) (Tree.more tree) (by rw [List.length_append]; show ties.length + 1 ≤ n + (i + 1); omega)
                exact ⟨z1, _, _, _, _, _, _, _, rfl, z2, z3, ok.own ec (by omega), Tree.more tree, by rw [List.length_append]; show ties.length + 1 ≤ n + (i + 1); omega⟩
            · have hgh : g ≠ h := fun z => hgh (decide_eq_true (by rw [z]))
              refine iteF ?_
              refine ⟨_, rfl, _, rfl, rfl, _, rfl, ?_⟩
              refine ite2 (fun z => absurd (show g = h by have := of_decide_eq_true z; injection this with this; omega) hgh) (fun _ => ?_)
              refine ⟨_, rfl, .inl ⟨rfl, _, SqL.of hLt8⟩, _, rfl, _, rfl, _, rfl, Lc, _, _, _, rfl, rfl, SqL.of hLc8, natV_at rfl ec, (by show 2 ≤ sizeLine; decide), fun t1 m1 => ?_⟩
              refine ⟨_, rfl, _, rfl, _, rfl, Lc, _, _, _, rfl, rfl, SqL.of (same_new m1 _ _ hLc8), natV_at rfl ed, (by show 2 ≤ sizeLine; decide), fun t2 m2 => ⟨(by show 2 ≤ sizeLine; decide), fun t3 m3 => ?_⟩⟩
              obtain ⟨w1, w2, w3, w4⟩ := app_tie (x := (g, c)) (y := (h, d)) s8 hLc8 hLt8 hP8 nLtH neLt neLL m1 m2 m3
              refine ⟨Lt, _, _, rfl, rfl, w1, (by rw [List.length_map, sizeLine_eq]; omega), ?_⟩
              refine ⟨_, rfl, _, rfl, Lc, _, _, _, rfl, rfl, SqL.of w3, natV_at rfl ed, _, _, rfl, rfl, _, rfl, _, rfl, Lc, _, _, h, rfl, rfl, w3, ixN_nat rfl (by rw [List.length_map]; omega), ?_⟩
              have w5 := w2.put (o := .lst ((cnt.map natV).set h (.int ((d : Int) + 1)))) nLcH neLc
              have w6 : (upd (upd (upd (upd (upd H8 t1 (.tup [natV g, natV c])) t2 (.tup [natV h, natV d])) t3 (.tup [.ref t1, .ref t2])) Lt (.lst (as.map V.ref ++ [.ref t3]))) Lc (.lst ((cnt.map natV).set h (.int ((d : Int) + 1))))) Lc = some (.lst ((cnt.set h (d + 1)).map natV)) := by rw [upd_same, List.map_set]; rfl
              have w7 : TiesAt (upd (upd (upd (upd (upd H8 t1 (.tup [natV g, natV c])) t2 (.tup [natV h, natV d])) t3 (.tup [.ref t1, .ref t2])) Lt (.lst (as.map V.ref ++ [.ref t3]))) Lc (.lst ((cnt.map natV).set h (.int ((d : Int) + 1))))) Lt (ties ++ [((g, c), (h, d))]) := by
                obtain ⟨as', q1, q2⟩ := w4.ex
                exact ⟨as', by rw [upd_ne neLL]; exact q1, Paired.mapP q2 fun _ _ q => q.tups (tups_lst w3)⟩
              have ec' : (cnt.set h (d + 1))[g]? = some c := by rw [List.getElem?_set_ne (fun z => hgh z.symm)]; exact ec
              refine ⟨_, rfl, _, rfl, Lc, _, _, _, rfl, rfl, SqL.of w6, natV_at rfl ec', _, _, rfl, rfl, _, rfl, _, rfl, Lc, _, _, g, rfl, rfl, w6, ixN_nat rfl (by rw [List.length_map, List.length_set]; omega), ?_⟩
              obtain ⟨z1, z2, z3⟩ := last _ _ _ _ none w5 w6 w7 ec' (ok.two hgh ec ed hc hd) (Tree.more tree) (by rw [List.length_append]; show ties.length + 1 ≤ n + (i + 1); omega)
              exact ⟨z1, _, _, _, _, _, _, _, rfl, z2, z3, ok.two hgh ec ed hc hd, Tree.more tree, by rw [List.length_append]; show ties.length + 1 ≤ n + (i + 1); omega⟩
        · exact ⟨s45, ties, cnt, _, _, _, _, _, rfl, hLc5, ⟨as, hLt5, hP5⟩, ok, tree, by omega⟩
      · rintro σ H1 ⟨s6, ties, cnt, o5, o6, o7, o8, o9, rfl, hLc, hT, ok, tree, tl⟩
        refine ⟨_, rfl, _, rfl, (by show 2 ≤ sizeLine; decide), fun r nr => ?_⟩
        refine k r Lt Lc ties cnt _ (s6.free nr) (s6.new nr) upd_same nLtH nLcH ?_ (same_new nr _ _ hLc) ok tree
        obtain ⟨as, h1, h2⟩ := hT.ex
        exact ⟨as, same_new nr _ _ h1, Paired.mapP h2 fun _ _ q => q.tups (sTups (same_new nr))⟩
end
end NH
set_option Elab.async false
set_option linter.all false
set_option maxRecDepth 100000
set_option maxHeartbeats 4000000
namespace NH
open PySem L2
abbrev PegD := Int × Int
abbrev HandD := Int × List PegD
abbrev WebD := List HandD
def PegsAt (H : Hp) (a : Addr) (ps : List PegD) : Prop := ∃ as : List Addr, H a = some (.tup (as.map V.ref)) ∧ PairsAt H as ps
def HandAt (H : Hp) (a : Addr) (hd : HandD) : Prop := ∃ b, H a = some (.tup [.int hd.1, .ref b]) ∧ PegsAt H b hd.2
def WebAt (H : Hp) (a : Addr) (w : WebD) : Prop := ∃ as : List Addr, H a = some (.tup (as.map V.ref)) ∧ Paired (HandAt H) as w
theorem pairs_tups {H H' : Hp} {as : List Addr} {ps : List PegD} (s : Tups H H') (h : PairsAt H as ps) : PairsAt H' as ps := Paired.mapP h fun _ _ e => s _ _ e
theorem PegsAt.tups {H H' : Hp} {a : Addr} {ps : List PegD} (s : Tups H H') (h : PegsAt H a ps) : PegsAt H' a ps := by
  obtain ⟨as, e, k⟩ := h
  exact ⟨as, s _ _ e, pairs_tups s k⟩
theorem HandAt.tups {H H' : Hp} {a : Addr} {hd : HandD} (s : Tups H H') (h : HandAt H a hd) : HandAt H' a hd := by
  obtain ⟨b, e, k⟩ := h
  exact ⟨b, s _ _ e, k.tups s⟩
theorem WebAt.tups {H H' : Hp} {a : Addr} {w : WebD} (s : Tups H H') (h : WebAt H a w) : WebAt H' a w := by
  obtain ⟨as, e, k⟩ := h
  exact ⟨as, s _ _ e, Paired.mapP k fun _ _ q => q.tups s⟩
def pegOf (w : WebD) (h p : Nat) : Option PegD := (w[h]?).bind fun hd => hd.2[p]?
structure Good (room : Nat) (w : WebD) : Prop where
  pos : 0 < w.length
  mark : ∀ (h : Nat) hd, w[h]? = some hd → 0 ≤ hd.1 ∧ hd.1 ≤ 9
  pegs : ∀ (h : Nat) hd, w[h]? = some hd → hd.2.length ≤ room
  tie : ∀ (h p : Nat) x, pegOf w h p = some x → ∃ g q : Nat, x = ((g : Int), (q : Int)) ∧ pegOf w g q = some ((h : Int), (p : Int))
  conn : ∀ S : Nat → Prop, (∀ h p g q : Nat, pegOf w h p = some ((g : Int), (q : Int)) → S h → S g) → ∀ a b, a < w.length → b < w.length → S a → S b
theorem pegOf_some {w : WebD} {h p : Nat} {x : PegD} (e : pegOf w h p = some x) : ∃ hd, w[h]? = some hd ∧ hd.2[p]? = some x := Option.bind_eq_some_iff.mp e
theorem pegOf_lt {w : WebD} {h p : Nat} {x : PegD} (e : pegOf w h p = some x) : h < w.length := by
  obtain ⟨hd, e1, _⟩ := pegOf_some e
  exact (List.getElem?_eq_some_iff.mp e1).1
abbrev Rows := List (List End)
def at2 (r : Rows) (h q : Nat) : Option End := (r[h]?).bind fun row => row[q]?
def put2 (r : Rows) (h q : Nat) (e : End) : Rows := r.set h ((r.getD h []).set q e)
theorem at2_put {r : Rows} {h q h' q' : Nat} {e x : End} (hx : at2 r h q = some x) : at2 (put2 r h q e) h' q' = if h' = h ∧ q' = q then some e else at2 r h' q' := by
  obtain ⟨row, e1, e2⟩ := Option.bind_eq_some_iff.mp hx
  obtain ⟨hl, e1'⟩ := List.getElem?_eq_some_iff.mp e1
  obtain ⟨ql, _⟩ := List.getElem?_eq_some_iff.mp e2
  have eg : r.getD h [] = row := by rw [List.getD_eq_getElem?_getD, e1]; rfl
  unfold at2 put2
  rw [eg]
  by_cases z : h = h'
  · subst z
    rw [List.getElem?_set_self hl, e1]
    show (row.set q e)[q']? = if h = h ∧ q' = q then some e else row[q']?
    by_cases y : q = q'
    · subst y
      rw [List.getElem?_set_self ql, if_pos ⟨rfl, rfl⟩]
    · rw [List.getElem?_set_ne y, if_neg (fun k => y k.2.symm)]
  · rw [List.getElem?_set_ne z, if_neg (fun k => z k.1.symm)]
structure NumOk (n : Nat) (cnt : List Nat) (num : List (List Nat)) : Prop where
  len : num.length = n
  perm : ∀ (h c : Nat) (π : List Nat), cnt[h]? = some c → num[h]? = some π → π.Perm (List.range c)
def numOf (num : List (List Nat)) (e : End) : Option Nat := (num[e.1]?).bind fun π => π[e.2]?
theorem numOf_inj {n : Nat} {cnt : List Nat} {num : List (List Nat)} (k : NumOk n cnt num) (hl : cnt.length = n) {h s s' q : Nat} (e : numOf num (h, s) = some q) (e' : numOf num (h, s') = some q) : s = s' := by
  obtain ⟨π, e1, e2⟩ := Option.bind_eq_some_iff.mp e
  obtain ⟨π', e1', e2'⟩ := Option.bind_eq_some_iff.mp e'
  dsimp only at e1 e1' e2 e2'
  rw [e1] at e1'
  cases e1'
  have hln : h < num.length := (List.getElem?_eq_some_iff.mp e1).1
  have hlc : h < cnt.length := by rw [hl, ← k.len]; exact hln
  have hc : cnt[h]? = some cnt[h] := List.getElem?_eq_getElem hlc
  have nd : π.Nodup := (k.perm h _ π hc e1).nodup_iff.mpr List.nodup_range
  exact nd_ix nd e2 e2'
theorem numOf_lt {n : Nat} {cnt : List Nat} {num : List (List Nat)} (k : NumOk n cnt num) {h s q c : Nat} (hc : cnt[h]? = some c) (e : numOf num (h, s) = some q) : q < c := by
  obtain ⟨π, e1, e2⟩ := Option.bind_eq_some_iff.mp e
  have := (k.perm h c π hc e1).mem_iff.mp (List.mem_of_getElem? e2)
  exact List.mem_range.mp this
theorem numOf_some {n : Nat} {cnt : List Nat} {num : List (List Nat)} (k : NumOk n cnt num) (hl : cnt.length = n) {h s c : Nat} (hc : cnt[h]? = some c) (hs : s < c) : ∃ q, numOf num (h, s) = some q := by
  have hlt : h < num.length := by rw [k.len, ← hl]; exact (List.getElem?_eq_some_iff.mp hc).1
  have e : num[h]? = some num[h] := List.getElem?_eq_getElem hlt
  have pl := (k.perm h c _ hc e).length_eq
  rw [List.length_range] at pl
  refine ⟨num[h][s]'(by omega), ?_⟩
  show (num[h]?).bind (fun π => π[s]?) = _
  rw [e]
  exact List.getElem?_eq_getElem (by omega)
theorem numOf_onto {n : Nat} {cnt : List Nat} {num : List (List Nat)} (k : NumOk n cnt num) (hl : cnt.length = n) {h q c : Nat} (hc : cnt[h]? = some c) (hq : q < c) : ∃ s, s < c ∧ numOf num (h, s) = some q := by
  have hlt : h < num.length := by rw [k.len, ← hl]; exact (List.getElem?_eq_some_iff.mp hc).1
  have e : num[h]? = some num[h] := List.getElem?_eq_getElem hlt
  have p := k.perm h c _ hc e
  have m : q ∈ num[h] := p.mem_iff.mpr (List.mem_range.mpr hq)
  obtain ⟨s, es⟩ := List.getElem?_of_mem m
  have pl := p.length_eq
  rw [List.length_range] at pl
  refine ⟨s, by have := (List.getElem?_eq_some_iff.mp es).1; omega, ?_⟩
  show (num[h]?).bind (fun π => π[s]?) = _
  rw [e]
  exact es
structure Filled (num : List (List Nat)) (ties : List Tie) (r : Rows) : Prop where
  fill : ∀ t ∈ ties, ∀ q q', numOf num t.1 = some q → numOf num t.2 = some q' → at2 r t.1.1 q = some (t.2.1, q') ∧ at2 r t.2.1 q' = some (t.1.1, q)
def Shape (cnt : List Nat) (r : Rows) : Prop := r.length = cnt.length ∧ ∀ (h c : Nat) row, cnt[h]? = some c → r[h]? = some row → row.length = c
theorem shape_at {cnt : List Nat} {r : Rows} (k : Shape cnt r) {h c q : Nat} (hc : cnt[h]? = some c) (hq : q < c) : ∃ x, at2 r h q = some x := by
  have hl : h < r.length := by rw [k.1]; exact (List.getElem?_eq_some_iff.mp hc).1
  have e : r[h]? = some r[h] := List.getElem?_eq_getElem hl
  have := k.2 h c _ hc e
  refine ⟨r[h][q]'(by omega), ?_⟩
  unfold at2
  rw [e]
  exact List.getElem?_eq_getElem (by omega)
theorem at2_lt {cnt : List Nat} {r : Rows} (k : Shape cnt r) {h q : Nat} {x : End} (e : at2 r h q = some x) : ∃ c, cnt[h]? = some c ∧ q < c := by
  obtain ⟨row, e1, e2⟩ := Option.bind_eq_some_iff.mp e
  have hl : h < cnt.length := by rw [← k.1]; exact (List.getElem?_eq_some_iff.mp e1).1
  have hc : cnt[h]? = some cnt[h] := List.getElem?_eq_getElem hl
  have := k.2 h _ row hc e1
  exact ⟨_, hc, by have := (List.getElem?_eq_some_iff.mp e2).1; omega⟩
theorem Shape.put {cnt : List Nat} {r : Rows} (k : Shape cnt r) {h q : Nat} {e : End} : Shape cnt (put2 r h q e) := by
  refine ⟨by unfold put2; rw [List.length_set]; exact k.1, fun h' c row hc hr => ?_⟩
  unfold put2 at hr
  by_cases z : h = h'
  · subst z
    have hl : h < r.length := by
      have := (List.getElem?_eq_some_iff.mp hr).1
      simpa using this
    rw [List.getElem?_set_self hl] at hr
    have e' := Option.some.inj hr
    rw [← e', List.length_set, List.getD_eq_getElem?_getD, List.getElem?_eq_getElem hl]
    exact k.2 h c _ hc (List.getElem?_eq_getElem hl)
  · rw [List.getElem?_set_ne z] at hr
    exact k.2 h' c row hc hr
theorem Filled.add {n room : Nat} {cnt : List Nat} {num : List (List Nat)} {pre : List Tie} {t : Tie} {r : Rows} {q q' : Nat} (kn : NumOk n cnt num) (kl : cnt.length = n) (nd : (ends (pre ++ [t])).Nodup) (ks : Shape cnt r) (kf : Filled num pre r)
    {x y : End} (e1 : numOf num t.1 = some q) (e2 : numOf num t.2 = some q') (a1 : at2 r t.1.1 q = some x) (a2 : at2 (put2 r t.1.1 q (t.2.1, q')) t.2.1 q' = some y) :
    Filled num (pre ++ [t]) (put2 (put2 r t.1.1 q (t.2.1, q')) t.2.1 q' (t.1.1, q)) := by
  have new : at2 (put2 (put2 r t.1.1 q (t.2.1, q')) t.2.1 q' (t.1.1, q)) t.1.1 q = some (t.2.1, q') ∧ at2 (put2 (put2 r t.1.1 q (t.2.1, q')) t.2.1 q' (t.1.1, q)) t.2.1 q' = some (t.1.1, q) := by
    refine ⟨?_, by rw [at2_put a2, if_pos ⟨rfl, rfl⟩]⟩
    rw [at2_put a2]
    by_cases z : t.1.1 = t.2.1 ∧ q = q'
    · rw [if_pos z, ← z.1, ← z.2]
    · rw [if_neg z, at2_put a1, if_pos ⟨rfl, rfl⟩]
  -- the places of an elder tie's ends are others
  have apart : ∀ (u : Tie), u ∈ pre → ∀ (e : End) (p : Nat), e ∈ endsOf u → numOf num e = some p → ∀ v, at2 r e.1 p = some v → at2 (put2 (put2 r t.1.1 q (t.2.1, q')) t.2.1 q' (t.1.1, q)) e.1 p = some v := by
    intro u hu e p he hp v hv
    have ndd : ∀ d ∈ endsOf t, d ≠ e := by
      intro d hd z
      subst z
      rw [ends_snoc] at nd
      exact (List.nodup_append.mp nd).2.2 d (List.mem_flatMap.mpr ⟨u, hu, he⟩) d hd rfl
    have m1 : t.1 ∈ endsOf t := by unfold endsOf; split <;> simp
    have m2 : t.2 ∈ endsOf t := by
      unfold endsOf
      split
      · rename_i z; rw [← z]; simp
      · simp
    have d1 : ¬ (e.1 = t.1.1 ∧ p = q) := fun z => ndd t.1 m1 (by
      have : numOf num (e.1, t.1.2) = some p := by rw [z.1, z.2]; exact e1
      have ee := numOf_inj kn kl this (show numOf num (e.1, e.2) = some p from hp)
      exact Prod.ext z.1.symm ee)
    have d2 : ¬ (e.1 = t.2.1 ∧ p = q') := fun z => ndd t.2 m2 (by
      have : numOf num (e.1, t.2.2) = some p := by rw [z.1, z.2]; exact e2
      have ee := numOf_inj kn kl this (show numOf num (e.1, e.2) = some p from hp)
      exact Prod.ext z.1.symm ee)
    rw [at2_put a2, if_neg d2, at2_put a1, if_neg d1]
    exact hv
  refine ⟨fun u hu p p' h1 h2 => ?_⟩
  rcases List.mem_append.mp hu with hu | hu
  · obtain ⟨k1, k2⟩ := kf.fill u hu p p' h1 h2
    have m1 : u.1 ∈ endsOf u := by unfold endsOf; split <;> simp
    have m2 : u.2 ∈ endsOf u := by
      unfold endsOf
      split
      · rename_i z; rw [← z]; simp
      · simp
    exact ⟨apart u hu u.1 p m1 h1 _ k1, apart u hu u.2 p' m2 h2 _ k2⟩
  · rw [List.mem_singleton.mp hu] at h1 h2 ⊢
    rw [e1] at h1
    rw [e2] at h2
    cases h1
    cases h2
    exact new
def pegI (e : End) : PegD := ((e.1 : Int), (e.2 : Int))
def webOf (ms : List Nat) (r : Rows) : WebD := List.zipWith (fun (m : Nat) (row : List End) => ((m : Int), row.map pegI)) ms r
theorem webOf_get {ms : List Nat} {r : Rows} {h : Nat} {hd : HandD} (e : (webOf ms r)[h]? = some hd) : ∃ m row, ms[h]? = some m ∧ r[h]? = some row ∧ hd = ((m : Int), row.map pegI) := by
  unfold webOf at e
  rw [List.getElem?_zipWith] at e
  cases e1 : ms[h]? with
  | none => rw [e1] at e; cases e
  | some m =>
    cases e2 : r[h]? with
    | none => rw [e1, e2] at e; cases e
    | some row =>
      rw [e1, e2] at e
      exact ⟨m, row, rfl, rfl, (Option.some.inj e).symm⟩
theorem pegOf_web {ms : List Nat} {r : Rows} (hl : ms.length = r.length) (h p : Nat) : pegOf (webOf ms r) h p = (at2 r h p).map pegI := by
  unfold pegOf at2 webOf
  rw [List.getElem?_zipWith]
  cases e2 : r[h]? with
  | none =>
    cases e1 : ms[h]? <;> rfl
  | some row =>
    have hm : h < ms.length := by rw [hl]; exact (List.getElem?_eq_some_iff.mp e2).1
    rw [List.getElem?_eq_getElem hm]
    show (row.map pegI)[p]? = (row[p]?).map pegI
    rw [List.getElem?_map]
theorem pegI_inj {e : End} {g q : Nat} (h : pegI e = ((g : Int), (q : Int))) : e = (g, q) := by
  have h1 := congrArg Prod.fst h
  have h2 := congrArg Prod.snd h
  simp only [pegI] at h1 h2
  exact Prod.ext (by exact_mod_cast h1) (by exact_mod_cast h2)
theorem plain_good {n room : Nat} {ties : List Tie} {cnt ms : List Nat} {num : List (List Nat)} {r : Rows} (n0 : 1 ≤ n) (ok : TiesOk n room ties cnt) (tree : Tree n ties) (kn : NumOk n cnt num) (ks : Shape cnt r) (kf : Filled num ties r)
    (ml : ms.length = n) (mk : ∀ m ∈ ms, m ≤ 9) : Good room (webOf ms r) ∧ (webOf ms r).length = n := by
  have cl := ok.ok.len
  have rl : r.length = n := by rw [ks.1, cl]
  have wl : (webOf ms r).length = n := by unfold webOf; rw [List.length_zipWith, ml, rl]; exact Nat.min_self _
  have hml : ms.length = r.length := by rw [ml, rl]
  -- a tie's two places lead to one another
  have back : ∀ h p x, at2 r h p = some x → at2 r x.1 x.2 = some (h, p) := by
    intro h p x hx
    obtain ⟨c, hc, hp⟩ := at2_lt ks hx
    obtain ⟨s, hs, es⟩ := numOf_onto kn cl hc hp
    have hm : (h, s) ∈ ends ties := (ok.ok.mem h s).mpr ⟨c, hc, hs⟩
    obtain ⟨t, ht, he⟩ := List.mem_flatMap.mp hm
    have two : (h, s) = t.1 ∨ (h, s) = t.2 := by
      unfold endsOf at he
      split at he
      · exact .inl (List.mem_singleton.mp he)
      · rcases List.mem_cons.mp he with z | z
        · exact .inl z
        · exact .inr (List.mem_singleton.mp z)
    have there : ∀ d ∈ endsOf t, ∃ q, numOf num d = some q := by
      intro d hd
      obtain ⟨c', hc', hs'⟩ := (ok.ok.mem d.1 d.2).mp (List.mem_flatMap.mpr ⟨t, ht, hd⟩)
      exact numOf_some kn cl hc' hs'
    have m1 : t.1 ∈ endsOf t := by unfold endsOf; split <;> simp
    have m2 : t.2 ∈ endsOf t := by
      unfold endsOf
      split
      · rename_i z; rw [← z]; simp
      · simp
    obtain ⟨q, e1⟩ := there t.1 m1
    obtain ⟨q', e2⟩ := there t.2 m2
    obtain ⟨f1, f2⟩ := kf.fill t ht q q' e1 e2
    rcases two with z | z
    · have eq : q = p := by rw [← z, es] at e1; exact (Option.some.inj e1).symm
      rw [← z] at f1 f2
      rw [eq, hx] at f1
      cases f1
      rw [eq] at f2
      exact f2
    · have eq : q' = p := by rw [← z, es] at e2; exact (Option.some.inj e2).symm
      rw [← z] at f1 f2
      rw [eq, hx] at f2
      cases f2
      rw [eq] at f1
      exact f1
  refine ⟨⟨by omega, fun h hd e => ?_, fun h hd e => ?_, fun h p x e => ?_, fun S hS a b ha hb => ?_⟩, wl⟩
  · obtain ⟨m, row, e1, _, rfl⟩ := webOf_get e
    have := mk m (List.mem_of_getElem? e1)
    exact ⟨by show (0 : Int) ≤ (m : Int); omega, by show (m : Int) ≤ 9; omega⟩
  · obtain ⟨m, row, _, e2, rfl⟩ := webOf_get e
    have hl : h < cnt.length := by rw [← ks.1]; exact (List.getElem?_eq_some_iff.mp e2).1
    have hc : cnt[h]? = some cnt[h] := List.getElem?_eq_getElem hl
    have := ks.2 h _ row hc e2
    have := ok.ok.le h _ hc
    show (row.map pegI).length ≤ room
    rw [List.length_map]
    omega
  · rw [pegOf_web hml] at e
    obtain ⟨x', e1, rfl⟩ := Option.map_eq_some_iff.mp e
    refine ⟨x'.1, x'.2, rfl, ?_⟩
    rw [pegOf_web hml, back h p x' e1]
    rfl
  · have adj : ∀ h p g q, at2 r h p = some (g, q) → S h → S g := fun h p g q e => hS h p g q (by rw [pegOf_web hml, e]; rfl)
    have root : ∀ h, h < n → (S h ↔ S 0) := by
      intro h
      induction h using Nat.strongRecOn with
      | ind h ih =>
        intro hn
        by_cases z : h = 0
        · rw [z]
        · obtain ⟨g, s, t, hg, hm⟩ := tree h (by omega) hn
          have mm : ∀ d ∈ endsOf ((h, s), (g, t)), d ∈ ends ties := fun d hd => List.mem_flatMap.mpr ⟨_, hm, hd⟩
          have ne : ¬ ((h, s) : End) = (g, t) := fun z => by
            have := congrArg Prod.fst z
            simp only at this
            omega
          have i1 : (h, s) ∈ ends ties := mm _ (by unfold endsOf; rw [if_neg ne]; simp)
          have i2 : (g, t) ∈ ends ties := mm _ (by unfold endsOf; rw [if_neg ne]; simp)
          obtain ⟨c1, hc1, hs1⟩ := (ok.ok.mem h s).mp i1
          obtain ⟨c2, hc2, hs2⟩ := (ok.ok.mem g t).mp i2
          obtain ⟨q, e1⟩ := numOf_some kn cl hc1 hs1
          obtain ⟨q', e2⟩ := numOf_some kn cl hc2 hs2
          obtain ⟨f1, f2⟩ := kf.fill _ hm q q' e1 e2
          have ihg := ih g hg (by omega)
          exact ⟨fun sh => ihg.mp (adj h q g q' f1 sh), fun s0 => adj g q' h q f2 (ihg.mpr s0)⟩
    intro sa
    rw [wl] at ha hb
    exact (root b hb).mpr ((root a ha).mp sa)
end NH
set_option Elab.async false
set_option linter.all false
set_option maxRecDepth 100000
set_option maxHeartbeats 4000000
namespace NH
open PySem L2
def RowAt (H : Hp) (l : Addr) (row : List End) : Prop := ∃ as : List Addr, H l = some (.lst (as.map V.ref)) ∧ Paired (PairN H) as row
structure PegSt (Hb H : Hp) (Lp : Addr) (rows : Rows) : Prop where
  ex : ∃ ls : List Addr, H Lp = some (.lst (ls.map V.ref)) ∧ ls.Nodup ∧ (∀ l ∈ ls, Hb l = none ∧ l ≠ Lp) ∧ Paired (RowAt H) ls rows
theorem RowAt.upd_other {H : Hp} {l m : Addr} {row : List End} {o : HO} {xs : List V} (h : RowAt H l row) (hm : H m = some (.lst xs)) (ne : l ≠ m) : RowAt (upd H m o) l row := by
  obtain ⟨as, e, k⟩ := h
  exact ⟨as, by rw [upd_ne ne]; exact e, Paired.mapP k fun _ _ q => tups_lst hm _ _ q⟩
theorem RowAt.same {H H' : Hp} {l : Addr} {row : List End} (s : Same H H') (h : RowAt H l row) : RowAt H' l row := by
  obtain ⟨as, e, k⟩ := h
  exact ⟨as, s _ _ e, Paired.mapP k fun _ _ q => s _ _ q⟩
theorem PegSt.same {Hb H H' : Hp} {Lp : Addr} {rows : Rows} (s : Same H H') (k : PegSt Hb H Lp rows) : PegSt Hb H' Lp rows := by
  obtain ⟨ls, e, nd, fr, p⟩ := k.ex
  exact ⟨ls, s _ _ e, nd, fr, Paired.mapP p fun _ _ q => q.same s⟩
theorem paired_set {α β : Type} {R R' : α → β → Prop} {x : α} {y : β} : ∀ {xs : List α} {ys : List β} {i : Nat}, Paired R xs ys → xs[i]? = some x → (∀ (j : Nat) a b, j ≠ i → xs[j]? = some a → ys[j]? = some b → R a b → R' a b) → R' x y → Paired R' xs (ys.set i y)
  | _, _, _, .nil, e, _, _ => by simp at e
  | _, _, 0, .cons r t, e, k, h => by
    simp at e
    subst e
    refine .cons h ?_
    clear h r
    have k' : ∀ (j : Nat) a b, _ → _ → R a b → R' a b := fun j a b e1 e2 q => k (j + 1) a b (by omega) e1 e2 q
    clear k
    induction t with
    | nil => exact .nil
    | cons r t ih => exact .cons (k' 0 _ _ rfl rfl r) (ih fun j a b e1 e2 q => k' (j + 1) a b e1 e2 q)
  | _, _, i + 1, .cons r t, e, k, h => .cons (k 0 _ _ (by omega) rfl rfl r) (paired_set (i := i) t (by simpa using e) (fun j a b hj e1 e2 q => k (j + 1) a b (by omega) e1 e2 q) h)
theorem paired_setv {α β : Type} {R R' : α → β → Prop} {x : α} {y : β} (up : ∀ a b, R a b → R' a b) (h : R' x y) : ∀ {xs : List α} {ys : List β} (i : Nat), Paired R xs ys → Paired R' (xs.set i x) (ys.set i y)
  | _, _, _, .nil => .nil
  | _, _, 0, .cons _ t => .cons h (Paired.mapP t up)
  | _, _, i + 1, .cons r t => .cons (up _ _ r) (paired_setv up h i t)
theorem PegSt.put {Hb H : Hp} {Lp t1 : Addr} {rows : Rows} {h q : Nat} {e x : End} (k : PegSt Hb H Lp rows) (hx : at2 rows h q = some x) (m1 : H t1 = none) :
    ∃ (ls : List Addr) (l : Addr) (as : List Addr), (upd H t1 (.tup [natV e.1, natV e.2])) Lp = some (.lst (ls.map V.ref)) ∧ ls[h]? = some l ∧ (upd H t1 (.tup [natV e.1, natV e.2])) l = some (.lst (as.map V.ref)) ∧ q < as.length ∧ Hb l = none ∧
      PegSt Hb (upd (upd H t1 (.tup [natV e.1, natV e.2])) l (.lst ((as.map V.ref).set q (.ref t1)))) Lp (put2 rows h q e) := by
  obtain ⟨row, e1, e2⟩ := Option.bind_eq_some_iff.mp hx
  have k' := k.same (same_new (o := .tup [natV e.1, natV e.2]) m1)
  have et : (upd H t1 (.tup [natV e.1, natV e.2])) t1 = some (.tup [natV e.1, natV e.2]) := upd_same
  generalize (upd H t1 (.tup [natV e.1, natV e.2])) = H1 at k' et ⊢
  obtain ⟨ls, hLp, nd, fr, hP⟩ := k'.ex
  obtain ⟨l, hl, as, hla, hPa⟩ := paired_get' hP e1
  have al : as.length = row.length := Paired.length hPa
  have ql : q < row.length := (List.getElem?_eq_some_iff.mp e2).1
  have lm := List.mem_of_getElem? hl
  have eg : rows.getD h [] = row := by rw [List.getD_eq_getElem?_getD, e1]; rfl
  refine ⟨ls, l, as, hLp, hl, hla, by omega, (fr l lm).1, ls, by rw [upd_ne (fun z => (fr l lm).2 z.symm)]; exact hLp, nd, fr, ?_⟩
  unfold put2
  rw [eg]
  refine paired_set (i := h) hP hl (fun j a b hj ea eb q' => ?_) ?_
  · exact q'.upd_other hla fun z => hj (by subst z; exact nd_ix nd ea hl)
  · refine ⟨as.set q t1, by rw [upd_same, List.map_set], ?_⟩
    have tt := tups_lst (o := .lst ((as.map V.ref).set q (.ref t1))) hla
    have up : ∀ a b, PairN H1 a b → PairN (upd H1 l (.lst ((as.map V.ref).set q (.ref t1)))) a b := fun a b z => tt _ _ z
    have new : PairN (upd H1 l (.lst ((as.map V.ref).set q (.ref t1)))) t1 e := tt _ _ et
    exact paired_setv up new q hPa
theorem paired_mem {α β : Type} {R R' : α → β → Prop} : ∀ {xs : List α} {ys : List β}, Paired R xs ys → (∀ a b, a ∈ xs → R a b → R' a b) → Paired R' xs ys
  | _, _, .nil, _ => .nil
  | _, _, .cons r t, k => .cons (k _ _ List.mem_cons_self r) (paired_mem t fun a b h => k a b (List.mem_cons_of_mem _ h))
theorem paired_mapI {H : Hp} : ∀ {as : List Addr} {row : List End}, Paired (PairN H) as row → PairsAt H as (row.map pegI)
  | _, _, .nil => .nil
  | _, _, .cons r t => .cons r (paired_mapI t)
theorem ends_take : ∀ (ties : List Tie) (i : Nat), (ends (ties.take i)).Sublist (ends ties)
  | [], i => by simp [ends]
  | t :: r, 0 => by
    rw [List.take_zero]
    exact List.nil_sublist _
  | t :: r, i + 1 => by
    show (endsOf t ++ ends (r.take i)).Sublist (endsOf t ++ ends r)
    exact List.Sublist.append_left (ends_take r i) _
def spMarks : Sp := fun vs H Q _ => ∃ (p : Addr) (n : Nat), vs = [.ref p, natV n] ∧ BoxAt H p ∧ n ≤ 1000 ∧
  ∀ (r : Addr) (ms : List Nat) (H' : Hp), H r = none → Step p H H' → H' r = some (.lst (ms.map natV)) → ms.length = n → (∀ m ∈ ms, m ≤ 9) → Q (.ref r) H'
def spPlain : Sp := fun vs H Q _ => ∃ (p : Addr) (most room : Nat), vs = [.ref p, natV most, natV room] ∧ BoxAt H p ∧ 1 ≤ most ∧ most ≤ 500 ∧ 2 ≤ room ∧ room ≤ 500 ∧
  ∀ (r : Addr) (w : WebD) (H' : Hp), H r = none → Step p H H' → WebAt H' r w → Good room w → w.length ≤ most → Q (.ref r) H'
theorem repN (n x : Nat) : (List.replicate n [natV x]).flatten = (List.replicate n x).map natV := by
  induction n with
  | zero => rfl
  | succ n ih => rw [List.replicate_succ, List.replicate_succ, List.flatten_cons, ih]; rfl
theorem repA (n : Nat) (x : Addr) : (List.replicate n [V.ref x]).flatten = (List.replicate n x).map V.ref := by
  induction n with
  | zero => rfl
  | succ n ih => rw [List.replicate_succ, List.replicate_succ, List.flatten_cons, ih]; rfl
theorem paired_rep {α β : Type} {R : α → β → Prop} {x : α} {y : β} (r : R x y) : ∀ n : Nat, Paired R (List.replicate n x) (List.replicate n y)
  | 0 => .nil
  | n + 1 => by rw [List.replicate_succ, List.replicate_succ]; exact .cons r (paired_rep r n)
def NumsAt (H : Hp) (nl : List Addr) (num : List (List Nat)) : Prop := Paired (fun l π => H l = some (.lst (π.map natV))) nl num
abbrev rTupOf (K : PySem.W.Frag) : List V → Hp → VK → Prop := fun xs H Q => ∃ p ys, xs = [.ref p] ∧ ((SqL K H p ys ∧ ∀ l, H l = none → Q (.ref l) (upd H l (.tup ys))) ∨ (SqT K H p ys ∧ Q (.ref p) H))
end NH
set_option Elab.async false
set_option linter.all false
set_option maxRecDepth 100000
set_option maxHeartbeats 4000000
namespace NH
open PySem L2
abbrev sMarks : Stmt := top 28
abbrev sPlain : Stmt := top 29
abbrev nMarks : List Str := ["_law_box_here", "_law_many", "_law_form", "_law_two", "_law_k"]
abbrev nPlain : List Str := ["_law_box_here", "_law_most", "_law_room", "_law_many", "_law_marks_here", "_law_ties_here", "_law_count", "_law_number", "_law_pegs", "_law_h", "_law_s", "_law_g", "_law_t", "_law_one", "_law_mark", "_law_some"]
section
variable {P : Program} {w : World} {K : PySem.W.Frag} {mg : Str → Option Value} {base : Heap}
theorem scMarks : FnScope nMarks ["_law_box_here", "_law_many"] (defScope sMarks) := ⟨rfl, rfl, rfl, by decide +kernel, rfl, by decide +kernel, by decide +kernel⟩
abbrev tTk (i : Nat) (z : Int) : TE := tCall spTake [] E0 (tCons (tVar i) (tCons (tC (.int z)) tNil))
theorem ok_marks {f fT : Addr} {fd fdT : FuncData} (F : Fun K "_law_marks" "_law_marks" sMarks f fd) (GT : FnOk P w K mg base CX0 1 fT fdT ["_law_box_here", "_law_wide"] spTake) (bT : Binds K fdT ["_law_box_here", "_law_wide"] []) (mT : mg "_law_take" = some (.ref fT)) (kT : PySem.W.keepIn K (.ref fT) = true)
    (mrange : mg "range" = none) : FnOk P w K mg base CX0 2 f fd ["_law_box_here", "_law_many"] spMarks := by
  refine F.ok scMarks (fun vs H Q E h => ?_) (fun cdv A outer s H vs Q E hr h => ?_)
  · obtain ⟨p, n, rfl, _⟩ := h
    rfl
  · obtain ⟨p, n, rfl, hb, hn, k⟩ := h
    have nd := scMarks.nd
    refine ⟨_, pss_cons (ps_set (i := 2) nd rfl (Or.inr rfl) (pe_call GT hr (by rfl) mT kT bT .nil pass0 (pa_cons (pv 0) (pa_cons pe_int pa_nil))))
      (pss_cons (ps_set (i := 3) nd rfl (Or.inr rfl) (pe_tup (pa_cons (pe_call GT hr (by rfl) mT kT bT .nil pass0 (pa_cons (pv 0) (pa_cons pe_int pa_nil))) (pa_cons (pe_call GT hr (by rfl) mT kT bT .nil pass0 (pa_cons (pv 0) (pa_cons pe_int pa_nil))) pa_nil))))
      (pss_cons (ps_if (pt_cmpR op_lt (pv 2) pe_int (nomark _)) (pss_one (ps_ret (pe_op op_rep (pe_lst (pa_cons (pe_ix ix_tup (pv 3) pe_int (fun _ _ => rfl)) pa_nil)) (pv 1)))) pss_nil)
      (pss_one (ps_ret (pe_lc (own := [("_law_k", 4)]) (g := gName 4)
        (te := tOp (rIxL K) (tLst (tCons (tOp (rIxT K) (tVar 3) (tTk 0 2)) (tCons (tTk 0 10) tNil))) (tOp (rI0 fun i j => .int (i - j)) (tVar 2) (tC (.int 2)))) (by rfl) nd (pi_range1 (by rfl) mrange (pa_cons (pv 1) pa_nil)) (blkOk_by (own := [("_law_k", 4)]) (N := nMarks) (sc := defScope sMarks) (by decide +kernel))
        (fun _ _ _ _ _ => pg_name (i := 4) nd rfl (Or.inl rfl)) (fun _ _ _ _ _ => pts_nil)
        (fun _ _ _ _ _ => by exact pe_ix ix_list (pe_lst (pa_cons (pe_ix ix_tup (pv 3) (pe_call GT hr (by rfl) mT kT bT .nil pass0 (pa_cons (pv 0) (pa_cons pe_int pa_nil))) (fun _ _ => rfl)) (pa_cons (pe_call GT hr (by rfl) mT kT bT .nil pass0 (pa_cons (pv 0) (pa_cons pe_int pa_nil))) pa_nil))) (pe_op op_sub (pv 2) pe_int) (fun _ _ => rfl))))))), ?_⟩
    obtain ⟨xa, xb, hx, hx0, hx1⟩ := hb.ex
    refine ⟨_, rfl, p, xa, xb, _, rfl, hx, hx0, hx1, by decide, by decide, fun fm a1 b1 f0 f1 c1 c2 => ?_⟩
    refine ⟨_, rfl, p, a1, b1, _, rfl, upd_same, c1, c2, by decide, by decide, fun x a2 b2 x0 x1 c3 c4 => ?_⟩
    refine ⟨_, rfl, p, a2, b2, _, rfl, upd_same, c3, c4, by decide, by decide, fun y a3 b3 y0 y1 c5 c6 => ⟨(by show 2 ≤ sizeLine; decide), fun T nT => ?_⟩⟩
    obtain ⟨x', rfl⟩ := Int.eq_ofNat_of_zero_le x0
    obtain ⟨y', rfl⟩ := Int.eq_ofNat_of_zero_le y0
    have s1 := ((((Step.refl hb).take (x := a1) c1 c2).take (x := a2) c3 c4).take (x := a3) c5 c6).new (o := .tup [.int (x' : Int), .int (y' : Int)]) nT
    have hT : (upd (upd (upd (upd H p (.lst [.int a1, .int b1])) p (.lst [.int a2, .int b2])) p (.lst [.int a3, .int b3])) T (.tup [.int (x' : Int), .int (y' : Int)])) T = some (.tup [.int (x' : Int), .int (y' : Int)]) := upd_same
    refine ⟨_, rfl, _, _, rfl, rfl, _, rfl, ?_⟩
    refine ite2 (fun hf => ?_) (fun hf => ?_)
    · refine ⟨_, rfl, T, _, _, _, rfl, rfl, SqT.of upd_same, rfl, (by show 1 ≤ sizeLine; decide), fun a0 n0 => ?_⟩
      have s2 := s1.new (o := .lst [natV x']) n0
      refine ⟨_, rfl, a0, _, _, rfl, rfl, upd_same, by omega, by omega, (by show 1 * (n : Int).toNat ≤ sizeLine; rw [sizeLine_eq]; omega), fun r nr => ?_⟩
      refine k r (List.replicate n x') _ (s2.free nr) (s2.new nr) ?_ List.length_replicate fun m hm => ?_
      · rw [upd_same, Int.toNat_natCast, ← repN]
        rfl
      · rw [(List.mem_replicate.mp hm).2]
        omega
    · have hf' : ¬ fm < 2 := fun z => hf (decide_eq_true z)
      generalize (upd (upd (upd (upd H p (.lst [.int a1, .int b1])) p (.lst [.int a2, .int b2])) p (.lst [.int a3, .int b3])) T (.tup [.int (x' : Int), .int (y' : Int)])) = H1 at s1 hT ⊢
      refine ⟨_, rfl, _, rfl, by omega, by omega, fun D nD => ?_⟩
      have neD : D ≠ p := s1.box.ne nD
      have nDH : H D = none := s1.free nD
      have neTp : T ≠ p := fun z => by obtain ⟨_, _, e, _⟩ := s1.box.ex; rw [← z, hT] at e; cases e
      refine lc_range (lo := 0) (n := _) (fun i H2 => Step p H H2 ∧ H2 T = some (.tup [natV x', natV y']) ∧ ∃ ms : List Nat, H2 D = some (.lst (ms.map natV)) ∧ ms.length = i ∧ ∀ m ∈ ms, m ≤ 9)
        ⟨s1.new nD, same_new nD _ _ hT, [], upd_same, rfl, (fun m hm => nomatch hm)⟩ ?_ ?_
      · rintro i H2 hi ⟨s2, hT2, ms, hD, ml, mk⟩
        refine ⟨rfl, ?_⟩
        dsimp only [tYes]
        rw [if_pos rfl]
        obtain ⟨xa, xb, hx, hx0, hx1⟩ := s2.box.ex
        refine ⟨_, rfl, _, rfl, p, xa, xb, _, rfl, hx, hx0, hx1, by decide, by decide, fun u a4 b4 u0 u1 c7 c8 => ?_⟩
        obtain ⟨v, ev, hv⟩ : ∃ v : Nat, atI [natV x', natV y'] u = some (natV v) ∧ v ≤ 9 := by
          have h : u = 0 ∨ u = 1 := by omega
          rcases h with rfl | rfl
          · exact ⟨x', rfl, by omega⟩
          · exact ⟨y', rfl, by omega⟩
        have s3 := s2.take (x := a4) c7 c8
        refine ⟨T, _, _, _, rfl, rfl, SqT.of (by rw [upd_ne neTp]; exact hT2), ev, ?_⟩
        refine ⟨_, rfl, p, a4, b4, _, rfl, upd_same, c7, c8, by decide, by decide, fun y2 a5 b5 y20 y21 c9 c10 => ⟨(by show 2 ≤ sizeLine; decide), fun a0 n0 => ?_⟩⟩
        obtain ⟨y3, rfl⟩ := Int.eq_ofNat_of_zero_le y20
        have s4 := (s3.take (x := a5) c9 c10).new (o := .lst [natV v, natV y3]) n0
        obtain ⟨z, ez, hz⟩ : ∃ z : Nat, atI [natV v, natV y3] (fm - 2) = some (natV z) ∧ z ≤ 9 := by
          have h : fm - 2 = 0 ∨ fm - 2 = 1 := by omega
          rcases h with h | h <;> rw [h]
          · exact ⟨v, rfl, hv⟩
          · exact ⟨y3, rfl, by omega⟩
        refine ⟨_, rfl, _, _, rfl, rfl, a0, _, _, _, rfl, rfl, SqL.of upd_same, ez, ?_⟩
        have hD4 : (upd (upd (upd H2 p (.lst [.int a4, .int b4])) p (.lst [.int a5, .int b5])) a0 (.lst [natV v, natV y3])) D = some (.lst (ms.map natV)) := by
          rw [upd_ne (fun z => by rw [← z, upd_ne neD, upd_ne neD, hD] at n0; cases n0), upd_ne neD, upd_ne neD]; exact hD
        have hT4 : (upd (upd (upd H2 p (.lst [.int a4, .int b4])) p (.lst [.int a5, .int b5])) a0 (.lst [natV v, natV y3])) T = some (.tup [natV x', natV y']) := by
          rw [upd_ne (fun z => by rw [← z, upd_ne neTp, upd_ne neTp, hT2] at n0; cases n0), upd_ne neTp, upd_ne neTp]; exact hT2
        refine ⟨_, hD4, (by rw [List.length_map, ml, sizeLine_eq]; omega), s4.put nDH neD, (by rw [upd_ne (ne_of hT4 hD4 (fun z => nomatch z))]; exact hT4), ms ++ [z], (by rw [List.map_append]; exact upd_same), (by rw [List.length_append, ml]; rfl), fun m hm => ?_⟩
        rcases List.mem_append.mp hm with q | q
        · exact mk m q
        · rw [List.mem_singleton.mp q]; exact hz
      · rintro H2 ⟨s2, hT2, ms, hD, ml, mk⟩
        exact k D ms H2 nDH s2 hD (by omega) mk
end
end NH
set_option Elab.async false
set_option linter.all false
set_option maxRecDepth 100000
set_option maxHeartbeats 4000000
namespace NH
open PySem L2
section
variable {P : Program} {w : World} {K : PySem.W.Frag} {mg : Str → Option Value} {base : Heap}
theorem scPlain : FnScope nPlain ["_law_box_here", "_law_most", "_law_room"] (defScope sPlain) := ⟨rfl, rfl, rfl, by decide +kernel, rfl, by decide +kernel, by decide +kernel⟩
structure Dr (P : Program) (w : World) (K : PySem.W.Frag) (mg : Str → Option Value) (base : Heap) : Prop where
  take : ∃ (f : Addr) (fd : FuncData), FnOk P w K mg base CX0 1 f fd ["_law_box_here", "_law_wide"] spTake ∧ Binds K fd ["_law_box_here", "_law_wide"] [] ∧ mg "_law_take" = some (.ref f) ∧ PySem.W.keepIn K (.ref f) = true
  shuf : ∃ (f : Addr) (fd : FuncData), FnOk P w K mg base CX0 2 f fd ["_law_box_here", "_law_many"] spShuf ∧ Binds K fd ["_law_box_here", "_law_many"] [] ∧ mg "_law_shuffled" = some (.ref f) ∧ PySem.W.keepIn K (.ref f) = true
  mrange : mg "range" = none
  mlen : mg "len" = none
  mtuple : mg "tuple" = none
  mlist : mg "list" = none
  mzip : mg "zip" = none
  menum : mg "enumerate" = none
  mmin : mg "min" = none
  mmax : mg "max" = none
structure Dr2 (P : Program) (w : World) (K : PySem.W.Frag) (mg : Str → Option Value) (base : Heap) : Prop extends Dr P w K mg base where
  marks : ∃ (f : Addr) (fd : FuncData), FnOk P w K mg base CX0 2 f fd ["_law_box_here", "_law_many"] spMarks ∧ Binds K fd ["_law_box_here", "_law_many"] [] ∧ mg "_law_marks" = some (.ref f) ∧ PySem.W.keepIn K (.ref f) = true
  ties : ∃ (f : Addr) (fd : FuncData), FnOk P w K mg base CX0 2 f fd ["_law_box_here", "_law_many", "_law_room"] spTies ∧ Binds K fd ["_law_box_here", "_law_many", "_law_room"] [] ∧ mg "_law_ties" = some (.ref f) ∧ PySem.W.keepIn K (.ref f) = true
theorem ok_plain {f : Addr} {fd : FuncData} (F : Fun K "_law_plain_web" "_law_plain_web" sPlain f fd) (G : Dr2 P w K mg base) : FnOk P w K mg base CX0 3 f fd ["_law_box_here", "_law_most", "_law_room"] spPlain := by
  obtain ⟨fT, fdT, GT, bT, mT, kT⟩ := G.take
  obtain ⟨fS, fdS, GS, bS, mS, kS⟩ := G.shuf
  obtain ⟨fM, fdM, GM, bM, mM, kM⟩ := G.marks
  obtain ⟨fI, fdI, GI, bI, mI, kI⟩ := G.ties
  refine F.ok scPlain (fun vs H Q E h => ?_) (fun cdv A outer s H vs Q E hr h => ?_)
  · obtain ⟨p, most, room, rfl, _⟩ := h
    rfl
  · obtain ⟨p, most, room, rfl, hb, o0, o1, r0, r1, k⟩ := h
    have nd := scPlain.nd
    have hr1 := hr.mono (show 1 ≤ 2 by decide)
    refine ⟨_, pss_cons (ps_set (i := 3) nd rfl (Or.inl rfl) (pe_op op_add pe_int (pe_call GT hr1 (by rfl) mT kT bT .nil pass0 (pa_cons (pv 0) (pa_cons (pv 1) pa_nil)))))
      (pss_cons (ps_set (i := 4) nd rfl (Or.inl rfl) (pe_call GM hr (by rfl) mM kM bM .nil pass0 (pa_cons (pv 0) (pa_cons (pv 3) pa_nil))))
      (pss_cons (ps_asg (pe_call GI hr (by rfl) mI kI bI .nil pass0 (pa_cons (pv 0) (pa_cons (pv 3) (pa_cons (pv 2) pa_nil)))) (pg_tup (by rfl) (pgs_cons (pg_name (i := 5) nd rfl (Or.inl rfl)) (pgs_cons (pg_name (i := 6) nd rfl (Or.inl rfl)) pgs_nil))))
      (pss_cons (ps_setLc (i := 7) (own := [("_law_one", 13)]) (g := gName 13) (te := tCall spShuf [] E0 (tCons (tVar 0) (tCons (tVar 13) tNil))) (by rfl) nd rfl rfl (sw_true rfl rfl rfl (by decide +kernel)) (pi_list (pv 6)) (blkOk_by (own := [("_law_one", 13)]) (N := nPlain) (sc := defScope sPlain) (by decide +kernel))
          (fun _ _ _ _ _ => pg_name (i := 13) nd rfl (Or.inl rfl)) (fun _ _ _ _ _ => pts_nil) (fun _ _ _ _ _ => pe_call GS hr (by rfl) mS kS bS .nil pass0 (pa_cons (pv 0) (pa_cons (pv 13) pa_nil))))
      (pss_cons (ps_setLc (i := 8) (own := [("_law_one", 13)]) (g := gName 13) (te := tOp rRep (tLst (tCons (tTup (tCons (tC (.int 0)) (tCons (tC (.int 0)) tNil))) tNil)) (tVar 13)) (by rfl) nd rfl rfl (sw_true rfl rfl rfl (by decide +kernel)) (pi_list (pv 6)) (blkOk_by (own := [("_law_one", 13)]) (N := nPlain) (sc := defScope sPlain) (by decide +kernel))
          (fun _ _ _ _ _ => pg_name (i := 13) nd rfl (Or.inl rfl)) (fun _ _ _ _ _ => pts_nil) (fun _ _ _ _ _ => by exact pe_op op_rep (pe_lst (pa_cons (pe_tup (pa_cons pe_int (pa_cons pe_int pa_nil))) pa_nil)) (pv 13)))
      (pss_cons (ps_for PassesOwn.never rfl (pi_list (pv 5)) (pg_tup (by rfl) (pgs_cons (pg_tup (by rfl) (pgs_cons (pg_name (i := 9) nd rfl (Or.inl rfl)) (pgs_cons (pg_name (i := 10) nd rfl (Or.inl rfl)) pgs_nil))) (pgs_cons (pg_tup (by rfl) (pgs_cons (pg_name (i := 11) nd rfl (Or.inl rfl)) (pgs_cons (pg_name (i := 12) nd rfl (Or.inl rfl)) pgs_nil))) pgs_nil)))
        (pss_cons (ps_asg (pe_tup (pa_cons (pv 11) (pa_cons (pe_ix ix_list (pe_ix ix_list (pv 7) (pv 11) (fun _ _ => rfl)) (pv 12) (fun _ _ => rfl)) pa_nil))) (pg_sub (pe_ix ix_list (pv 8) (pv 9) (fun _ _ => rfl)) (pe_ix ix_list (pe_ix ix_list (pv 7) (pv 9) (fun _ _ => rfl)) (pv 10) (fun _ _ => rfl)) set_list))
        (pss_one (ps_asg (pe_tup (pa_cons (pv 9) (pa_cons (pe_ix ix_list (pe_ix ix_list (pv 7) (pv 9) (fun _ _ => rfl)) (pv 10) (fun _ _ => rfl)) pa_nil))) (pg_sub (pe_ix ix_list (pv 8) (pv 11) (fun _ _ => rfl)) (pe_ix ix_list (pe_ix ix_list (pv 7) (pv 11) (fun _ _ => rfl)) (pv 12) (fun _ _ => rfl)) set_list)))))
      (pss_one (ps_ret (pe_callTy call_tuple_of (by rfl) G.mtuple (by decide +kernel) (pa_cons (pe_lc (own := [("_law_mark", 14), ("_law_some", 15)]) (g := gTup K 2 (gCons (gName 14) (gCons (gName 15) gNil))) (te := tTup (tCons (tVar 14) (tCons (tCB (rTupOf K) (tCons (tVar 15) tNil)) tNil))) (by rfl) nd
          (pi_zip (by rfl) G.mzip (pa_cons (pv 4) (pa_cons (pv 8) pa_nil))) (blkOk_by (own := [("_law_mark", 14), ("_law_some", 15)]) (N := nPlain) (sc := defScope sPlain) (by decide +kernel))
          (fun _ _ _ _ _ => by exact pg_tup (by rfl) (pgs_cons (pg_name (i := 14) nd rfl (Or.inl rfl)) (pgs_cons (pg_name (i := 15) nd rfl (Or.inl rfl)) pgs_nil))) (fun _ _ _ _ _ => pts_nil)
          (fun _ _ _ _ _ => by exact pe_tup (pa_cons (pv 14) (pa_cons (pe_callTy call_tuple_of (by rfl) G.mtuple (by decide +kernel) (pa_cons (pv 15) pa_nil)) pa_nil)))) pa_nil))))))))), ?_⟩
    obtain ⟨xa, xb, hx, hx0, hx1⟩ := hb.ex
    refine ⟨_, rfl, _, rfl, p, xa, xb, _, rfl, hx, hx0, hx1, by omega, by omega, fun r a1 b1 rz rl c1 c2 => ⟨_, _, rfl, rfl, ?_⟩⟩
    obtain ⟨r', rfl⟩ := Int.eq_ofNat_of_zero_le rz
    have s1 := (Step.refl hb).take (x := a1) c1 c2
    generalize (upd H p (.lst [.int a1, .int b1])) = H1 at s1 ⊢
    -- marks
    refine ⟨_, rfl, _, rfl, p, 1 + r', rfl, s1.box, by omega, fun Lm ms H2 nLm s2 hLm ml mk => ?_⟩
    have neLm : Lm ≠ p := s1.box.ne nLm
    -- ties
    refine ⟨_, rfl, _, rfl, _, rfl, p, 1 + r', room, rfl, s2.box, by omega, by omega, r0, by omega, fun rt Lt Lc ties cnt H3 nrt s3 hrt nLt nLc hT hLc ok tree => ?_⟩
    have neLt : Lt ≠ p := s2.box.ne nLt
    have neLc : Lc ≠ p := s2.box.ne nLc
    have hLm3 := s3.keep _ _ neLm hLm
    have s13 := s1.trans (s2.trans s3)
    refine ⟨rt, _, rfl, SqT.of hrt, rfl, _, _, rfl, _, _, rfl, rfl, ?_⟩
    have cl := ok.ok.len
    -- number
    refine ⟨_, rfl, Lc, rfl, ⟨_, SqL.of hLc⟩, fun D nD => ?_⟩
    have neD : D ≠ p := s3.box.ne nD
    refine lc_list (K := K) (a := Lc) (xs := cnt.map natV) (fun i H4 => Step p H3 H4 ∧ ∃ (nl : List Addr) (num : List (List Nat)), H4 D = some (.lst (nl.map V.ref)) ∧ NumsAt H4 nl num ∧ num.length = i ∧ (∀ l ∈ nl, l ≠ D ∧ l ≠ p) ∧
        ∀ (j c : Nat) (π : List Nat), cnt[j]? = some c → num[j]? = some π → π.Perm (List.range c))
      ⟨(Step.refl s3.box).new nD, [], [], upd_same, .nil, rfl, (fun l hl => nomatch hl), fun j c π _ e => by simp at e⟩ (fun i H4 _ ⟨s4, _⟩ => SqL.of (s4.keep _ _ neLc hLc)) ?_ ?_
    · rintro i x H4 hxi ⟨s4, nl, num, hD, hN, nlen, nfr, nperm⟩
      rw [List.getElem?_map] at hxi
      obtain ⟨c, ec, rfl⟩ := Option.map_eq_some_iff.mp hxi
      have hil : i < cnt.length := (List.getElem?_eq_some_iff.mp ec).1
      have cr := ok.ok.le i c ec
      refine ⟨rfl, ?_⟩
      dsimp only [tYes]
      rw [if_pos rfl]
      refine ⟨_, rfl, _, rfl, p, c, rfl, s4.box, by omega, fun q π H5 nq s5 hq hp => ?_⟩
      have nqD : q ≠ D := fun z => by rw [z, hD] at nq; cases nq
      have nll : nl.length = num.length := Paired.length hN
      have hD5 := s5.keep _ _ neD hD
      refine ⟨_, hD5, (by rw [List.length_map, nll, nlen, sizeLine_eq]; omega), (s4.trans s5).put (o := .lst (nl.map V.ref ++ [.ref q])) nD neD, nl ++ [q], num ++ [π], (by rw [List.map_append]; exact upd_same), ?_, (by rw [List.length_append, nlen]; rfl), fun l hl => ?_, fun j c' π' e1 e2 => ?_⟩
      · have up : ∀ (l : Addr) (π' : List Nat), l ∈ nl → H4 l = some (.lst (π'.map natV)) → (upd H5 D (.lst (nl.map V.ref ++ [.ref q]))) l = some (.lst (π'.map natV)) := fun l π' hl e => by
          rw [upd_ne (nfr l hl).1]
          exact s5.keep _ _ (nfr l hl).2 e
        have hN2 : NumsAt (upd H5 D (.lst (nl.map V.ref ++ [.ref q]))) nl num := paired_mem hN fun l π' hl e => up l π' hl e
        have hnew : (upd H5 D (HO.lst (nl.map V.ref ++ [V.ref q]))) q = some (HO.lst (π.map natV)) := by rw [upd_ne nqD]; exact hq
        exact paired_snoc (R := fun (l : Addr) (π' : List Nat) => (upd H5 D (HO.lst (nl.map V.ref ++ [V.ref q]))) l = some (HO.lst (π'.map natV))) hnew hN2
      · rcases List.mem_append.mp hl with z | z
        · exact nfr l z
        · rw [List.mem_singleton.mp z]
          exact ⟨nqD, s4.box.ne nq⟩
      · by_cases z : j < num.length
        · rw [List.getElem?_append_left z] at e2
          exact nperm j c' π' e1 e2
        · rw [List.getElem?_append_right (by omega)] at e2
          have ej : j = i := by
            have := (List.getElem?_eq_some_iff.mp e2).1
            simp at this
            omega
          subst ej
          rw [nlen, Nat.sub_self] at e2
          rw [ec] at e1
          cases e1
          cases e2
          exact hp
    rintro H4 ⟨s4, nl, num, hD, hN, nlen, nfr, nperm⟩
    rw [List.length_map] at nlen
    have kn : NumOk (1 + r') cnt num := ⟨by omega, nperm⟩
    have hLc4 := s4.keep _ _ neLc hLc
    have hLm4 := s4.keep _ _ neLm hLm3
    have hT4 : TiesAt H4 Lt ties := by
      obtain ⟨as, h1, h2⟩ := hT.ex
      exact ⟨as, s4.keep _ _ neLt h1, Paired.mapP h2 fun _ _ q => q.tups (s4.tups s3.box)⟩
    -- pegs
    refine ⟨_, rfl, Lc, rfl, ⟨_, SqL.of hLc4⟩, fun Lp nLp => ?_⟩
    have neLp : Lp ≠ p := s4.box.ne nLp
    refine lc_list (K := K) (a := Lc) (xs := cnt.map natV) (fun i H6 => Step p H4 H6 ∧ ∃ rows : Rows, PegSt H4 H6 Lp rows ∧ rows.length = i ∧ ∀ (j c : Nat) row, cnt[j]? = some c → rows[j]? = some row → row.length = c)
      ⟨(Step.refl s4.box).new nLp, [], ⟨[], upd_same, List.nodup_nil, (fun l hl => nomatch hl), .nil⟩, rfl, fun j c row _ e => by simp at e⟩ (fun i H6 _ ⟨s6, _⟩ => SqL.of (s6.keep _ _ neLc hLc4)) ?_ ?_
    · rintro i x H6 hxi ⟨s6, rows, hPg, rlen, rsh⟩
      rw [List.getElem?_map] at hxi
      obtain ⟨c, ec, rfl⟩ := Option.map_eq_some_iff.mp hxi
      have hil : i < cnt.length := (List.getElem?_eq_some_iff.mp ec).1
      have cr := ok.ok.le i c ec
      refine ⟨rfl, ?_⟩
      dsimp only [tYes]
      rw [if_pos rfl]
      refine ⟨(by show 2 ≤ sizeLine; decide), fun z mz => ⟨(by show 1 ≤ sizeLine; decide), fun a0 m0 => ⟨_, rfl, a0, _, _, rfl, rfl, upd_same, by omega, by omega, (by show 1 * (c : Int).toNat ≤ sizeLine; rw [sizeLine_eq]; omega), fun l nl' => ?_⟩⟩⟩
      have q1 := (same_new (o := .tup [.int 0, .int 0]) mz).trans (same_new (o := .lst [.ref z]) m0)
      have q2 := same_new (o := .lst (List.replicate (c : Int).toNat [V.ref z]).flatten) nl'
      have q := q1.trans q2
      have nl6 : H6 l = none := q1.free nl'
      have ez := q2 _ _ ((same_new (o := .lst [.ref z]) m0) _ _ (upd_same (H := H6) (a := z) (o := .tup [.int 0, .int 0])))
      have el : (upd (upd (upd H6 z (.tup [.int 0, .int 0])) a0 (.lst [.ref z])) l (.lst (List.replicate (c : Int).toNat [V.ref z]).flatten)) l = some (.lst ((List.replicate c z).map V.ref)) := by rw [upd_same, Int.toNat_natCast, repA]
      generalize (upd (upd (upd H6 z (.tup [.int 0, .int 0])) a0 (.lst [.ref z])) l (.lst (List.replicate (c : Int).toNat [V.ref z]).flatten)) = H7 at q q2 ez el ⊢
      obtain ⟨ls, hLp, lnd, lfr, hP⟩ := hPg.ex
      have hLp7 := q _ _ hLp
      have lll : ls.length = rows.length := Paired.length hP
      have neLl : l ≠ Lp := fun z => by rw [z, hLp] at nl6; cases nl6
      refine ⟨_, hLp7, (by rw [List.length_map, lll, rlen, sizeLine_eq]; omega), (s6.same q).put nLp neLp, rows ++ [List.replicate c (0, 0)], ⟨ls ++ [l], (by rw [List.map_append]; exact upd_same), ?_, fun m hm => ?_, ?_⟩, (by rw [List.length_append, rlen]; rfl), fun j c' row e1 e2 => ?_⟩
      · refine nd_snoc lnd fun hm => ?_
        obtain ⟨j, ej⟩ := List.getElem?_of_mem hm
        obtain ⟨row, _, as, e, _⟩ := paired_get hP ej
        rw [nl6] at e
        cases e
      · rcases List.mem_append.mp hm with y | y
        · exact lfr m y
        · rw [List.mem_singleton.mp y]
          exact ⟨s6.free nl6, neLl⟩
      · have hP2 : Paired (RowAt (upd H7 Lp (.lst (ls.map V.ref ++ [.ref l])))) ls rows := paired_mem hP fun m row hm e => (e.same q).upd_other hLp7 (lfr m hm).2
        refine paired_snoc (R := RowAt (upd H7 Lp (.lst (ls.map V.ref ++ [.ref l])))) (RowAt.upd_other ⟨List.replicate c z, el, ?_⟩ hLp7 neLl) hP2
        exact paired_rep (R := PairN H7) (by show H7 z = some (.tup [natV 0, natV 0]); exact ez) c
      · by_cases y : j < rows.length
        · rw [List.getElem?_append_left y] at e2
          exact rsh j c' row e1 e2
        · rw [List.getElem?_append_right (by omega)] at e2
          have ej : j = i := by
            have := (List.getElem?_eq_some_iff.mp e2).1
            simp at this
            omega
          subst ej
          rw [rlen, Nat.sub_self] at e2
          rw [ec] at e1
          cases e1
          cases e2
          exact List.length_replicate
    rintro H6 ⟨s6, rows, hPg, rlen, rsh⟩
    rw [List.length_map] at rlen
    -- the ties
    obtain ⟨as, hLt4, hTP⟩ := hT4.ex
    have hLt6 := s6.keep _ _ neLt hLt4
    refine ⟨_, rfl, Lt, rfl, ⟨_, SqL.of hLt6⟩, for_list (K := K) (a := Lt) (xs := as.map V.ref) (fun i σ H7 => ∃ (rows : Rows) (o9 o10 o11 o12 o13 o14 o15 : Option V), σ = [some (.ref p), some (natV most), some (natV room), some (natV (1 + r')), some (.ref Lm), some (.ref Lt), some (.ref Lc), some (.ref D), some (.ref Lp), o9, o10, o11, o12, o13, o14, o15] ∧
        Step p H4 H7 ∧ PegSt H4 H7 Lp rows ∧ Shape cnt rows ∧ Filled num (ties.take i) rows)
      ⟨rows, none, none, none, none, none, none, none, rfl, s6, hPg, ⟨by omega, rsh⟩, ⟨fun t ht => by simp at ht⟩⟩ (fun i σ H7 _ ⟨_, _, _, _, _, _, _, _, _, s7, _⟩ => SqL.of (s7.keep _ _ neLt hLt4)) ?_ ?_⟩
    · clear hPg rsh rlen s6 hLt6
      rintro i y σ H7 hyi ⟨rows, o9, o10, o11, o12, o13, o14, o15, rfl, s7, hPg, sh, fl⟩
      rw [List.getElem?_map] at hyi
      obtain ⟨ta, eta, rfl⟩ := Option.map_eq_some_iff.mp hyi
      obtain ⟨t, et, x, y, e0, e1, e2⟩ := paired_get hTP eta
      have tt7 := s7.tups s4.box
      have hD7 := s7.keep _ _ neD hD
      have hN7 : NumsAt H7 nl num := paired_mem hN fun l π hl e => s7.keep _ _ (nfr l hl).2 e
      refine ⟨ta, _, rfl, SqT.of (tt7 _ _ e0), rfl, _, _, rfl, ⟨x, _, rfl, SqT.of (tt7 _ _ e1), rfl, _, _, rfl, _, _, rfl, rfl, ?_⟩⟩
      refine ⟨_, _, rfl, ⟨y, _, rfl, SqT.of (tt7 _ _ e2), rfl, _, _, rfl, _, _, rfl, rfl, rfl, ?_⟩⟩
      -- the numbers of its ends
      have tm : t ∈ ties := List.mem_of_getElem? et
      have m1 : t.1 ∈ endsOf t := by unfold endsOf; split <;> simp
      have m2 : t.2 ∈ endsOf t := by
        unfold endsOf
        split
        · rename_i z; rw [← z]; simp
        · simp
      obtain ⟨ch, ech, hsh⟩ := (ok.ok.mem t.1.1 t.1.2).mp (List.mem_flatMap.mpr ⟨t, tm, m1⟩)
      obtain ⟨cg, ecg, hsg⟩ := (ok.ok.mem t.2.1 t.2.2).mp (List.mem_flatMap.mpr ⟨t, tm, m2⟩)
      obtain ⟨q, eq⟩ := numOf_some kn cl ech hsh
      obtain ⟨q', eq'⟩ := numOf_some kn cl ecg hsg
      have qlt := numOf_lt kn ech eq
      have qlt' := numOf_lt kn ecg eq'
      obtain ⟨π, ep, eqq⟩ := Option.bind_eq_some_iff.mp eq
      obtain ⟨π', ep', eqq'⟩ := Option.bind_eq_some_iff.mp eq'
      obtain ⟨lh, elh, hlh⟩ := paired_get' hN7 ep
      obtain ⟨lg, elg, hlg⟩ := paired_get' hN7 ep'
      have glh : (nl.map V.ref)[t.1.1]? = some (.ref lh) := by rw [List.getElem?_map, elh]; rfl
      have glg : (nl.map V.ref)[t.2.1]? = some (.ref lg) := by rw [List.getElem?_map, elg]; rfl
      obtain ⟨x1, ex1⟩ := shape_at sh ech qlt
      -- pegs[h][number[h][s]] = (g, number[g][t])
      refine ⟨_, rfl, _, rfl, _, rfl, D, _, _, _, rfl, rfl, SqL.of hD7, at_of rfl glg, _, rfl, lg, _, _, _, rfl, rfl, SqL.of hlg, natV_at rfl eqq', (by show 2 ≤ sizeLine; decide), fun t1 n1 => ?_⟩
      obtain ⟨ls, l, as', hLp8, ell, hl8, ql8, nl8, hPg8⟩ := hPg.put (e := (t.2.1, q')) ex1 n1
      have sm1 := same_new (o := .tup [natV t.2.1, natV q']) n1
      have nelp : l ≠ p := s4.box.ne nl8
      have gl : (ls.map V.ref)[t.1.1]? = some (.ref l) := by rw [List.getElem?_map, ell]; rfl
      refine ⟨_, rfl, _, rfl, Lp, _, _, _, rfl, rfl, SqL.of hLp8, at_of rfl gl, _, rfl, _, rfl, D, _, _, _, rfl, rfl, SqL.of (sm1 _ _ hD7), at_of rfl glh, _, rfl, lh, _, _, _, rfl, rfl, SqL.of (sm1 _ _ hlh), natV_at rfl eqq, l, _, _, q, rfl, rfl, hl8, ixN_nat rfl (by rw [List.length_map]; omega), ?_⟩
      have s8 := (s7.same sm1).put (o := .lst ((as'.map V.ref).set q (.ref t1))) nl8 nelp
      generalize (upd (upd H7 t1 (.tup [natV t.2.1, natV q'])) l (.lst ((as'.map V.ref).set q (.ref t1)))) = H8 at s8 hPg8 ⊢
      have sh8 := sh.put (h := t.1.1) (q := q) (e := (t.2.1, q'))
      obtain ⟨x2, ex2⟩ := shape_at sh8 ecg qlt'
      have hD8 := s8.keep _ _ neD hD
      have hN8 : NumsAt H8 nl num := paired_mem hN fun l π hl e => s8.keep _ _ (nfr l hl).2 e
      have hlh8 : H8 lh = some (.lst (π.map natV)) := by
        obtain ⟨a, b, c⟩ := paired_get hN8 elh
        rw [ep] at b
        cases b
        exact c
      have hlg8 : H8 lg = some (.lst (π'.map natV)) := by
        obtain ⟨a, b, c⟩ := paired_get hN8 elg
        rw [ep'] at b
        cases b
        exact c
      -- pegs[g][number[g][t]] = (h, number[h][s])
      refine ⟨_, rfl, _, rfl, _, rfl, D, _, _, _, rfl, rfl, SqL.of hD8, at_of rfl glh, _, rfl, lh, _, _, _, rfl, rfl, SqL.of hlh8, natV_at rfl eqq, (by show 2 ≤ sizeLine; decide), fun t2 n2 => ?_⟩
      obtain ⟨ls2, l2, as2, hLp9, ell2, hl9, ql9, nl9, hPg9⟩ := hPg8.put (e := (t.1.1, q)) ex2 n2
      have sm2 := same_new (o := .tup [natV t.1.1, natV q]) n2
      have nelp2 : l2 ≠ p := s4.box.ne nl9
      have gl2 : (ls2.map V.ref)[t.2.1]? = some (.ref l2) := by rw [List.getElem?_map, ell2]; rfl
      refine ⟨_, rfl, _, rfl, Lp, _, _, _, rfl, rfl, SqL.of hLp9, at_of rfl gl2, _, rfl, _, rfl, D, _, _, _, rfl, rfl, SqL.of (sm2 _ _ hD8), at_of rfl glg, _, rfl, lg, _, _, _, rfl, rfl, SqL.of (sm2 _ _ hlg8), natV_at rfl eqq', l2, _, _, q', rfl, rfl, hl9, ixN_nat rfl (by rw [List.length_map]; omega), ?_⟩
      have s9 := (s8.same sm2).put (o := .lst ((as2.map V.ref).set q' (.ref t2))) nl9 nelp2
      refine ⟨_, _, _, _, _, _, _, _, rfl, s9, hPg9, sh8.put, ?_⟩
      rw [take_snoc et]
      refine Filled.add (room := room) kn cl ?_ sh fl eq eq' ex1 ex2
      rw [← take_snoc et]
      exact (ok.ok.nd).sublist (ends_take _ _)
    -- the web
    · rintro σ H7 ⟨rows, o9, o10, o11, o12, o13, o14, o15, rfl, s7, hPg, sh, fl⟩
      rw [List.length_map, Paired.length hTP, List.take_length] at fl
      obtain ⟨gd, wl⟩ := plain_good (ms := ms) (by omega) ok tree kn sh fl ml mk
      obtain ⟨ls, hLp, lnd, lfr, hP⟩ := hPg.ex
      have hLm7 := s7.keep _ _ neLm hLm4
      have rl : rows.length = 1 + r' := by rw [sh.1, cl]
      have lll : ls.length = rows.length := Paired.length hP
      refine ⟨_, rfl, _, rfl, Lm, Lp, _, _, rfl, SqL.of hLm7, SqL.of hLp, fun D3 n3 => ?_⟩
      refine lc_zip (K := K) (a := Lm) (b := Lp) (xs := ms.map natV) (ys := ls.map V.ref) (by rw [List.length_map, List.length_map]; omega) (fun i H8 => Same H7 H8 ∧ ∃ hs : List Addr, H8 D3 = some (.lst (hs.map V.ref)) ∧ hs.length = i ∧ Paired (HandAt H8) hs ((webOf ms rows).take i))
        ⟨same_new n3, [], upd_same, rfl, .nil⟩ (fun i H8 _ ⟨s8, _⟩ => ⟨SqL.of (s8 _ _ hLm7), SqL.of (s8 _ _ hLp)⟩) ?_ ?_
      · rintro i x y T H8 hxi hyi ⟨s8, hs, hD3, hl, hH⟩ nT
        rw [List.getElem?_map] at hxi hyi
        obtain ⟨m, em, rfl⟩ := Option.map_eq_some_iff.mp hxi
        obtain ⟨l, el, rfl⟩ := Option.map_eq_some_iff.mp hyi
        obtain ⟨row, er, as', hla, hra⟩ := paired_get hP el
        have s9 := s8.trans (same_new (o := .tup [natV m, .ref l]) nT)
        have sT := same_new (o := .tup [natV m, .ref l]) nT
        refine ⟨T, _, rfl, SqT.of upd_same, rfl, _, _, rfl, _, _, rfl, rfl, rfl, ?_⟩
        dsimp only [tYes]
        rw [if_pos rfl]
        refine ⟨_, rfl, _, rfl, l, _, rfl, .inl ⟨SqL.of (s9 _ _ hla), fun q nq => ⟨(by show 2 ≤ sizeLine; decide), fun hd nh => ?_⟩⟩⟩
        have q1 := (same_new (o := .tup (as'.map V.ref)) nq).trans (same_new (o := .tup [natV m, .ref q]) nh)
        have q0 := sT.trans q1
        have eq1 := (same_new (o := .tup [natV m, .ref q]) nh) _ _ (upd_same (a := q) (o := .tup (as'.map V.ref)) (H := upd H8 T (.tup [natV m, .ref l])))
        have eh : (upd (upd (upd H8 T (.tup [natV m, .ref l])) q (.tup (as'.map V.ref))) hd (.tup [natV m, .ref q])) hd = some (.tup [natV m, .ref q]) := upd_same
        generalize (upd (upd (upd H8 T (.tup [natV m, .ref l])) q (.tup (as'.map V.ref))) hd (.tup [natV m, .ref q])) = H9 at q1 q0 eq1 eh ⊢
        have hD9 := q0 _ _ hD3
        have il : i < ms.length := (List.getElem?_eq_some_iff.mp em).1
        refine ⟨_, hD9, (by rw [List.length_map, hl, sizeLine_eq]; omega), fun b o e => ?_, hs ++ [hd], (by rw [List.map_append]; exact upd_same), (by rw [List.length_append, hl]; rfl), ?_⟩
        · rw [upd_ne (ne_of_none e n3)]
          exact q0 _ _ (s8 _ _ e)
        · have ew : (webOf ms rows)[i]? = some ((m : Int), row.map pegI) := by
            unfold webOf
            rw [List.getElem?_zipWith, em, er]
          rw [take_snoc ew]
          have tt := (sTups q0).trans (tups_lst (o := .lst (hs.map V.ref ++ [.ref hd])) hD9)
          have tt9 := tups_lst (o := .lst (hs.map V.ref ++ [.ref hd])) hD9
          have hra9 : Paired (PairN (upd H9 D3 (.lst (hs.map V.ref ++ [.ref hd])))) as' row := Paired.mapP hra fun a b z => tt _ _ (s8 _ _ z)
          have hnew : HandAt (upd H9 D3 (.lst (hs.map V.ref ++ [.ref hd]))) hd ((m : Int), row.map pegI) := ⟨q, tt9 _ _ eh, as', tt9 _ _ eq1, paired_mapI hra9⟩
          exact paired_snoc (R := HandAt (upd H9 D3 (.lst (hs.map V.ref ++ [.ref hd])))) hnew (Paired.mapP hH fun _ _ z => z.tups tt)
      · rintro H8 ⟨s8, hs, hD3, hl, hH⟩
        rw [List.length_map, ml] at hH
        rw [List.take_of_length_le (by omega)] at hH
        refine ⟨D3, _, rfl, .inl ⟨SqL.of hD3, fun r nr => ?_⟩⟩
        have sAll : Step p H (upd H8 r (.tup (hs.map V.ref))) := (((s13.trans s4).trans s7).same s8).new nr
        refine k r (webOf ms rows) _ ((((s13.trans s4).trans s7).same s8).free nr) sAll ⟨hs, upd_same, Paired.mapP hH fun _ _ z => z.tups (sTups (same_new nr))⟩ gd (by omega)
end
end NH
set_option Elab.async false
set_option linter.all false
set_option maxRecDepth 100000
set_option maxHeartbeats 4000000
namespace NH
open PySem L2
def renI (π : List Nat) (x : PegD) : PegD := ((((π[x.1.toNat]?).getD 0 : Nat) : Int), x.2)
def renH (π : List Nat) (hd : HandD) : HandD := (hd.1, hd.2.map (renI π))
structure RenOf (w : WebD) (π : List Nat) (w' : WebD) : Prop where
  len : w'.length = w.length
  at_ : ∀ (h j : Nat) hd, π[h]? = some j → w[h]? = some hd → w'[j]? = some (renH π hd)
theorem perm_onto {n j : Nat} {π : List Nat} (h : π.Perm (List.range n)) (hj : j < n) : ∃ i, i < n ∧ π[i]? = some j := by
  have m : j ∈ π := h.mem_iff.mpr (List.mem_range.mpr hj)
  obtain ⟨i, e⟩ := List.getElem?_of_mem m
  have := h.length_eq
  rw [List.length_range] at this
  exact ⟨i, by have := (List.getElem?_eq_some_iff.mp e).1; omega, e⟩
theorem perm_lt {n i j : Nat} {π : List Nat} (h : π.Perm (List.range n)) (e : π[i]? = some j) : j < n := List.mem_range.mp (h.mem_iff.mp (List.mem_of_getElem? e))
theorem perm_get {n i : Nat} {π : List Nat} (h : π.Perm (List.range n)) (hi : i < n) : ∃ j, π[i]? = some j := by
  have := h.length_eq
  rw [List.length_range] at this
  exact ⟨π[i]'(by omega), List.getElem?_eq_getElem (by omega)⟩
theorem perm_inj {n i i' j : Nat} {π : List Nat} (h : π.Perm (List.range n)) (e : π[i]? = some j) (e' : π[i']? = some j) : i = i' := nd_ix (h.nodup_iff.mpr List.nodup_range) e e'
theorem RenOf.peg {w w' : WebD} {π : List Nat} (r : RenOf w π w') {h j p : Nat} (e : π[h]? = some j) (hh : h < w.length) : pegOf w' j p = (pegOf w h p).map (renI π) := by
  have e1 : w[h]? = some w[h] := List.getElem?_eq_getElem hh
  unfold pegOf
  rw [e1, r.at_ h j _ e e1]
  show ((w[h]).2.map (renI π))[p]? = ((w[h]).2[p]?).map (renI π)
  rw [List.getElem?_map]
theorem renI_nat {π : List Nat} {g j q : Nat} (e : π[g]? = some j) : renI π ((g : Int), (q : Int)) = ((j : Int), (q : Int)) := by
  unfold renI
  simp only [Int.toNat_natCast, e, Option.getD_some]
theorem RenOf.good {room : Nat} {w w' : WebD} {π : List Nat} (r : RenOf w π w') (hp : π.Perm (List.range w.length)) (g : Good room w) : Good room w' := by
  have hl := r.len
  -- each hand of the new web comes from one of the old
  have from_ : ∀ (j : Nat) hd', w'[j]? = some hd' → ∃ (h : Nat) (hd : HandD), π[h]? = some j ∧ w[h]? = some hd ∧ hd' = renH π hd := by
    intro j hd' e
    have hj : j < w.length := by rw [← hl]; exact (List.getElem?_eq_some_iff.mp e).1
    obtain ⟨h, hh, eh⟩ := perm_onto hp hj
    have e1 : w[h]? = some w[h] := List.getElem?_eq_getElem hh
    rw [r.at_ h j _ eh e1] at e
    exact ⟨h, _, eh, e1, (Option.some.inj e).symm⟩
  refine ⟨by rw [hl]; exact g.pos, fun j hd' e => ?_, fun j hd' e => ?_, fun j p x e => ?_, fun S hS a b ha hb sa => ?_⟩
  · obtain ⟨h, hd, _, e1, rfl⟩ := from_ j hd' e
    exact g.mark h hd e1
  · obtain ⟨h, hd, _, e1, rfl⟩ := from_ j hd' e
    show (hd.2.map (renI π)).length ≤ room
    rw [List.length_map]
    exact g.pegs h hd e1
  · have hj : j < w.length := by rw [← hl]; exact pegOf_lt e
    obtain ⟨h, hh, eh⟩ := perm_onto hp hj
    rw [r.peg eh hh] at e
    obtain ⟨x0, e0, rfl⟩ := Option.map_eq_some_iff.mp e
    obtain ⟨g', q, rfl, back⟩ := g.tie h p x0 e0
    have hg := pegOf_lt back
    obtain ⟨j', ej'⟩ := perm_get hp hg
    refine ⟨j', q, renI_nat ej', ?_⟩
    rw [r.peg ej' hg, back]
    show some (renI π ((h : Int), (p : Int))) = _
    rw [renI_nat eh]
  · have closed : ∀ h p g' q : Nat, pegOf w h p = some ((g' : Int), (q : Int)) → (∃ j, π[h]? = some j ∧ S j) → ∃ j, π[g']? = some j ∧ S j := by
      rintro h p g' q e ⟨j, ej, sj⟩
      obtain ⟨g2, q2, e2, back⟩ := g.tie h p _ e
      have hg : g' < w.length := by
        have z := congrArg Prod.fst e2
        simp only at z
        have : g' = g2 := by exact_mod_cast z
        rw [this]
        exact pegOf_lt back
      obtain ⟨j', ej'⟩ := perm_get hp hg
      refine ⟨j', ej', hS j p j' q ?_ sj⟩
      rw [r.peg ej (pegOf_lt e), e]
      show some (renI π ((g' : Int), (q : Int))) = _
      rw [renI_nat ej']
    rw [hl] at ha hb
    obtain ⟨ia, hia, ea⟩ := perm_onto hp ha
    obtain ⟨ib, hib, eb⟩ := perm_onto hp hb
    obtain ⟨j, ej, sj⟩ := g.conn (fun h => ∃ j, π[h]? = some j ∧ S j) closed ia ib hia hib ⟨a, ea, sa⟩
    rw [eb] at ej
    cases ej
    exact sj
theorem collect {β : Type} {R : Addr → β → Prop} : ∀ (xs : List V) (P : Nat → β → Prop), (∀ (j : Nat) x, xs[j]? = some x → ∃ a y, x = .ref a ∧ R a y ∧ P j y) → ∃ (as : List Addr) (ys : List β), xs = as.map V.ref ∧ Paired R as ys ∧ ∀ (j : Nat) y, ys[j]? = some y → P j y
  | [], P, _ => ⟨[], [], rfl, .nil, fun j y e => by simp at e⟩
  | x :: xs, P, h => by
    obtain ⟨a, y, rfl, r, p⟩ := h 0 x rfl
    obtain ⟨as, ys, e, k, q⟩ := collect xs (fun j => P (j + 1)) fun j x e => h (j + 1) x (by simpa using e)
    refine ⟨a :: as, y :: ys, by rw [e]; rfl, .cons r k, fun j z ez => ?_⟩
    cases j with
    | zero => simp at ez; rw [← ez]; exact p
    | succ j => exact q j z (by simpa using ez)
def spRen : Sp := fun vs H Q _ => ∃ (a r : Addr) (w : WebD) (π : List Nat), vs = [.ref a, .ref r] ∧ WebAt H a w ∧ H r = some (.lst (π.map natV)) ∧ π.Perm (List.range w.length) ∧ w.length ≤ 1000 ∧
  (∀ (h p : Nat) x, pegOf w h p = some x → ∃ g q : Nat, x = ((g : Int), (q : Int)) ∧ g < w.length) ∧ (∀ (h : Nat) hd, w[h]? = some hd → hd.2.length ≤ 1000) ∧
  ∀ (q : Addr) (w' : WebD) (H' : Hp), H q = none → Same H H' → WebAt H' q w' → RenOf w π w' → Q (.ref q) H'
end NH
set_option Elab.async false
set_option linter.all false
set_option maxRecDepth 100000
set_option maxHeartbeats 4000000
namespace NH
open PySem L2
abbrev sRen : Stmt := top 30
abbrev nRen : List Str := ["_law_web_here", "_law_row", "_law_found", "_law_h", "_law_mark", "_law_pegs", "_law_g", "_law_q"]
section
variable {P : Program} {w : World} {K : PySem.W.Frag} {mg : Str → Option Value} {base : Heap}
theorem scRen : FnScope nRen ["_law_web_here", "_law_row"] (defScope sRen) := ⟨rfl, rfl, rfl, by decide +kernel, rfl, by decide +kernel, by decide +kernel⟩
theorem ok_ren {f : Addr} {fd : FuncData} (F : Fun K "_law_renamed" "_law_renamed" sRen f fd) (G : Dr P w K mg base) : FnOk P w K mg base CX0 1 f fd ["_law_web_here", "_law_row"] spRen := by
  refine F.ok scRen (fun vs H Q E h => ?_) (fun cdv A outer s H vs Q E hr h => ?_)
  · obtain ⟨a, r, w', π, rfl, _⟩ := h
    rfl
  · obtain ⟨a, r, wb, π, rfl, hW, hR, hp, wl, hpeg, hpl, k⟩ := h
    have nd := scRen.nd
    refine ⟨_, pss_cons (ps_set (i := 2) nd rfl (Or.inl rfl) (pe_op op_rep (pe_lst (pa_cons pe_non pa_nil)) (pe_callB call_len_seq (by rfl) G.mlen PySem.boot_len (pa_cons (pv 0) pa_nil))))
      (pss_cons (ps_for PassesOwn.never rfl (pi_enumT (by rfl) G.menum (pa_cons (pv 0) pa_nil)) (pg_tup (by rfl) (pgs_cons (pg_name (i := 3) nd rfl (Or.inl rfl)) (pgs_cons (pg_tup (by rfl) (pgs_cons (pg_name (i := 4) nd rfl (Or.inl rfl)) (pgs_cons (pg_name (i := 5) nd rfl (Or.inl rfl)) pgs_nil))) pgs_nil)))
        (pss_one (ps_asg (pe_tup (pa_cons (pv 4) (pa_cons (pe_callTy call_tuple_of (by rfl) G.mtuple (by decide +kernel) (pa_cons (pe_lc (own := [("_law_g", 6), ("_law_q", 7)]) (g := gTup K 2 (gCons (gName 6) (gCons (gName 7) gNil))) (te := tTup (tCons (tOp (rIxL K) (tVar 1) (tVar 6)) (tCons (tVar 7) tNil))) (by rfl) nd (pi_tup (pv 5)) (blkOk_by (own := [("_law_g", 6), ("_law_q", 7)]) (N := nRen) (sc := defScope sRen) (by decide +kernel))
            (fun _ _ _ _ _ => by exact pg_tup (by rfl) (pgs_cons (pg_name (i := 6) nd rfl (Or.inl rfl)) (pgs_cons (pg_name (i := 7) nd rfl (Or.inl rfl)) pgs_nil))) (fun _ _ _ _ _ => pts_nil)
            (fun _ _ _ _ _ => by exact pe_tup (pa_cons (pe_ix ix_list (pv 1) (pv 6) (fun _ _ => rfl)) (pa_cons (pv 7) pa_nil)))) pa_nil)) pa_nil)))
          (pg_sub (pv 2) (pe_ix ix_list (pv 1) (pv 3) (fun _ _ => rfl)) set_list))))
      (pss_one (ps_ret (pe_callTy call_tuple_of (by rfl) G.mtuple (by decide +kernel) (pa_cons (pv 2) pa_nil))))), ?_⟩
    obtain ⟨hs, hWa, hWP⟩ := hW
    have hsl : hs.length = wb.length := Paired.length hWP
    refine ⟨(by show 1 ≤ sizeLine; decide), fun a0 n0 => ⟨_, rfl, a, _, rfl, .inr (SqT.of (same_new n0 _ _ hWa)), a0, _, _, rfl, rfl, upd_same, by omega, (by rw [List.length_map]; omega), (by show 1 * ((hs.map V.ref).length : Int).toNat ≤ sizeLine; rw [List.length_map, sizeLine_eq]; omega), fun L nL => ?_⟩⟩
    have s1 := (same_new (o := .lst [.non]) n0).trans (same_new (o := .lst (List.replicate ((hs.map V.ref).length : Int).toNat [V.non]).flatten) nL)
    have nLH : H L = none := (same_new (o := .lst [.non]) n0).free nL
    have hL1 : (upd (upd H a0 (.lst [.non])) L (.lst (List.replicate ((hs.map V.ref).length : Int).toNat [V.non]).flatten)) L = some (.lst (List.replicate ((hs.map V.ref).length : Int).toNat [V.non]).flatten) := upd_same
    have hll : (List.replicate ((hs.map V.ref).length : Int).toNat [V.non]).flatten.length = wb.length := by rw [len_rep, List.length_map]; show ((hs.length : Int)).toNat * 1 = _; omega
    generalize (List.replicate ((hs.map V.ref).length : Int).toNat [V.non]).flatten = xs0 at s1 hL1 hll ⊢
    generalize (upd (upd H a0 (.lst [.non])) L (.lst xs0)) = H1 at s1 hL1 ⊢
    refine ⟨_, rfl, a, _, rfl, SqT.of (s1 _ _ hWa), for_enumT (K := K) (a := a) (xs := hs.map V.ref) (fun i σ H2 => Same H H2 ∧ ∃ (xs : List V) (o3 o4 o5 o6 o7 : Option V), σ = [some (.ref a), some (.ref r), some (.ref L), o3, o4, o5, o6, o7] ∧ H2 L = some (.lst xs) ∧ xs.length = wb.length ∧
        ∀ (h j : Nat), h < i → π[h]? = some j → ∃ b hd, xs[j]? = some (.ref b) ∧ wb[h]? = some hd ∧ HandAt H2 b (renH π hd))
      ⟨s1, xs0, none, none, none, none, none, rfl, hL1, hll, fun h j hh => absurd hh (Nat.not_lt_zero _)⟩ (fun i σ H2 _ ⟨s2, _⟩ => SqT.of (s2 _ _ hWa)) ?_ ?_⟩
    · rintro i y T σ H2 hyi ⟨s2, xs, o3, o4, o5, o6, o7, rfl, hL, xl, hx⟩ nT
      rw [List.getElem?_map] at hyi
      obtain ⟨ha, eha, rfl⟩ := Option.map_eq_some_iff.mp hyi
      obtain ⟨hd, ehd, b, eb, ps, hps, hpp⟩ := paired_get hWP eha
      have sT := same_new (o := .tup [.int (i : Nat), .ref ha]) nT
      have s3 := s2.trans sT
      have hL3 := sT _ _ hL
      have il : i < wb.length := (List.getElem?_eq_some_iff.mp ehd).1
      obtain ⟨j, ej⟩ := perm_get hp il
      have jl := perm_lt hp ej
      refine ⟨T, _, rfl, SqT.of upd_same, rfl, _, _, rfl, _, _, rfl, ⟨ha, _, rfl, SqT.of (s3 _ _ eb), rfl, _, _, rfl, _, _, rfl, rfl, rfl, ?_⟩⟩
      generalize (upd H2 T (.tup [.int (i : Nat), .ref ha])) = H3 at sT s3 hL3 ⊢
      -- the pegs, by their new numbers
      refine ⟨_, rfl, _, rfl, b, rfl, ⟨_, SqT.of (s3 _ _ hps)⟩, fun D nD => ?_⟩
      have psl : ps.length = hd.2.length := Paired.length hpp
      refine lc_tup (K := K) (a := b) (xs := ps.map V.ref) (fun c H4 => Same H3 H4 ∧ ∃ bs : List Addr, H4 D = some (.lst (bs.map V.ref)) ∧ bs.length = c ∧ PairsAt H4 bs ((hd.2.take c).map (renI π)))
        ⟨same_new nD, [], upd_same, rfl, .nil⟩ (fun c H4 _ ⟨s4, _⟩ => SqT.of (s4 _ _ (s3 _ _ hps))) ?_ ?_
      · rintro c y H4 hyc ⟨s4, bs, hD, bl, hbs⟩
        rw [List.getElem?_map] at hyc
        obtain ⟨pa, epa, rfl⟩ := Option.map_eq_some_iff.mp hyc
        obtain ⟨x, ex, hpa⟩ := paired_get hpp epa
        obtain ⟨g, q, rfl, gl⟩ := hpeg i c x (by unfold pegOf; rw [ehd]; exact ex)
        obtain ⟨g', eg'⟩ := perm_get hp gl
        refine ⟨pa, _, rfl, SqT.of (s4 _ _ (s3 _ _ hpa)), rfl, _, _, rfl, _, _, rfl, rfl, rfl, ?_⟩
        dsimp only [tYes]
        rw [if_pos rfl]
        refine ⟨_, rfl, _, rfl, r, _, _, _, rfl, rfl, SqL.of (s4 _ _ (s3 _ _ hR)), natV_at rfl eg', _, rfl, (by show 2 ≤ sizeLine; decide), fun t nt => ?_⟩
        have st := same_new (o := .tup [natV g', .int (q : Int)]) nt
        have hD4 := st _ _ hD
        have pl := hpl i hd ehd
        have cl : c < hd.2.length := (List.getElem?_eq_some_iff.mp ex).1
        refine ⟨_, hD4, (by rw [List.length_map, bl, sizeLine_eq]; omega), fun z o e => ?_, bs ++ [t], (by rw [List.map_append]; exact upd_same), (by rw [List.length_append, bl]; rfl), ?_⟩
        · rw [upd_ne (ne_of_none e nD)]
          exact st _ _ (s4 _ _ e)
        · have tt := (sTups st).trans (tups_lst (o := .lst (bs.map V.ref ++ [.ref t])) hD4)
          rw [take_snoc ex, List.map_append]
          have hnew : PairAt (upd (upd H4 t (.tup [natV g', .int (q : Int)])) D (.lst (bs.map V.ref ++ [.ref t]))) t (renI π ((g : Int), (q : Int))) := by
            rw [renI_nat eg']
            exact tups_lst (o := .lst (bs.map V.ref ++ [.ref t])) hD4 _ _ upd_same
          exact paired_snoc (R := PairAt (upd (upd H4 t (.tup [natV g', .int (q : Int)])) D (.lst (bs.map V.ref ++ [.ref t])))) hnew (pairs_tups tt hbs)
      · rintro H4 ⟨s4, bs, hD, bl, hbs⟩
        rw [List.length_map, psl, List.take_length] at hbs
        refine ⟨D, _, rfl, .inl ⟨SqL.of hD, fun pt npt => ⟨(by show 2 ≤ sizeLine; decide), fun hn nhn => ?_⟩⟩⟩
        have q1 := (same_new (o := .tup (bs.map V.ref)) npt).trans (same_new (o := .tup [.int hd.1, .ref pt]) nhn)
        have ept := (same_new (o := .tup [.int hd.1, .ref pt]) nhn) _ _ (upd_same (H := H4) (a := pt) (o := .tup (bs.map V.ref)))
        have ehn : (upd (upd H4 pt (.tup (bs.map V.ref))) hn (.tup [.int hd.1, .ref pt])) hn = some (.tup [.int hd.1, .ref pt]) := upd_same
        generalize (upd (upd H4 pt (.tup (bs.map V.ref))) hn (.tup [.int hd.1, .ref pt])) = H5 at q1 ept ehn ⊢
        have s5 := s4.trans q1
        have hL5 := s5 _ _ hL3
        have hnew : HandAt H5 hn (renH π hd) := ⟨pt, ehn, bs, ept, pairs_tups (sTups q1) hbs⟩
        refine ⟨_, rfl, _, rfl, _, rfl, r, _, _, _, rfl, rfl, SqL.of (s5 _ _ (s3 _ _ hR)), natV_at rfl ej, L, _, _, j, rfl, rfl, hL5, ixN_nat rfl (by omega), ?_⟩
        have tL := tups_lst (o := .lst (xs.set j (.ref hn))) hL5
        refine ⟨same_upd (s3.trans s5) nLH, xs.set j (.ref hn), _, _, _, _, _, rfl, upd_same, by rw [List.length_set]; exact xl, fun h j' hh ej' => ?_⟩
        by_cases z : h = i
        · subst z
          rw [ej] at ej'
          cases ej'
          exact ⟨hn, hd, List.getElem?_set_self (by omega), ehd, hnew.tups tL⟩
        · obtain ⟨b', hd', e1, e2, e3⟩ := hx h j' (by omega) ej'
          refine ⟨b', hd', ?_, e2, (e3.tups (sTups (sT.trans s5))).tups tL⟩
          rw [List.getElem?_set_ne (fun y => z (perm_inj hp ej' (by rw [← y]; exact ej)))]
          exact e1
    · rintro σ H2 ⟨s2, xs, o3, o4, o5, o6, o7, rfl, hL, xl, hx⟩
      rw [List.length_map, hsl] at hx
      obtain ⟨as, w', rfl, hP, hP2⟩ := collect (R := HandAt H2) xs (fun j y => ∀ (h : Nat) hd, π[h]? = some j → wb[h]? = some hd → y = renH π hd) fun j x e => by
        have jl : j < wb.length := by rw [← xl]; exact (List.getElem?_eq_some_iff.mp e).1
        obtain ⟨h, hh, eh⟩ := perm_onto hp jl
        obtain ⟨b, hd, e1, e2, e3⟩ := hx h j hh eh
        rw [e] at e1
        cases e1
        refine ⟨b, renH π hd, rfl, e3, fun h' hd' eh' e' => ?_⟩
        have : h' = h := perm_inj hp eh' eh
        subst this
        rw [e2] at e'
        cases e'
        rfl
      have wl' : w'.length = wb.length := by
        have := Paired.length hP
        rw [List.length_map] at xl
        omega
      refine ⟨_, rfl, L, _, rfl, .inl ⟨SqL.of hL, fun q nq => ?_⟩⟩
      refine k q w' _ (s2.free nq) (s2.trans (same_new nq)) ⟨as, upd_same, Paired.mapP hP fun _ _ z => z.tups (sTups (same_new nq))⟩ ⟨wl', fun h j hd eh e => ?_⟩
      have jl := perm_lt hp eh
      have e1 : w'[j]? = some (w'[j]'(by omega)) := List.getElem?_eq_getElem (by omega)
      rw [e1, hP2 j _ e1 h hd eh e]
end
end NH
set_option Elab.async false
set_option linter.all false
set_option maxRecDepth 100000
set_option maxHeartbeats 4000000
namespace NH
open PySem L2
structure Inv2 (n : Nat) (a b : List Nat) : Prop where
  la : a.length = n
  lb : b.length = n
  ab : ∀ s, s < n → ∃ t, t < n ∧ a[s]? = some t ∧ b[t]? = some s
  ba : ∀ t, t < n → ∃ s, s < n ∧ b[t]? = some s ∧ a[s]? = some t
theorem Inv2.symm {n : Nat} {a b : List Nat} (k : Inv2 n a b) : Inv2 n b a := ⟨k.lb, k.la, k.ba, k.ab⟩
theorem Inv2.of_perm {n : Nat} {a b : List Nat} (hp : a.Perm (List.range n)) (lb : b.length = n) (h : ∀ s i : Nat, b[s]? = some i → a[i]? = some s) : Inv2 n a b := by
  have la := hp.length_eq
  rw [List.length_range] at la
  refine ⟨la, lb, fun s hs => ?_, fun t ht => ?_⟩
  · obtain ⟨t, et⟩ := perm_get hp hs
    have tl := perm_lt hp et
    have e : b[t]? = some (b[t]'(by omega)) := List.getElem?_eq_getElem (by omega)
    have e2 := h t _ e
    have : b[t]'(by omega) = s := perm_inj hp e2 et
    exact ⟨t, tl, et, by rw [e, this]⟩
  · have e : b[t]? = some (b[t]'(by omega)) := List.getElem?_eq_getElem (by omega)
    have e2 := h t _ e
    have sl : b[t]'(by omega) < n := by
      have := (List.getElem?_eq_some_iff.mp e2).1
      omega
    exact ⟨_, sl, e, e2⟩
structure Invo (n : Nat) (a : List Nat) : Prop where
  len : a.length = n
  inv : ∀ s, s < n → ∃ t, t < n ∧ a[s]? = some t ∧ a[t]? = some s
theorem invo_range (n : Nat) : Invo n (List.range n) := ⟨List.length_range, fun s hs => ⟨s, hs, by rw [List.getElem?_range hs], by rw [List.getElem?_range hs]⟩⟩
theorem Invo.swap {n : Nat} {a : List Nat} {i : Nat} (k : Invo n a) (h1 : i + 1 < n) (e0 : a[i]? = some i) (e1 : a[i + 1]? = some (i + 1)) : Invo n ((a.set i (i + 1)).set (i + 1) i) := by
  have la := k.len
  refine ⟨by rw [List.length_set, List.length_set]; exact la, fun s hs => ?_⟩
  have g0 : ((a.set i (i + 1)).set (i + 1) i)[i]? = some (i + 1) := by rw [List.getElem?_set_ne (by omega), List.getElem?_set_self (by omega)]
  have g1 : ((a.set i (i + 1)).set (i + 1) i)[i + 1]? = some i := List.getElem?_set_self (by rw [List.length_set]; omega)
  have go : ∀ s, s ≠ i → s ≠ i + 1 → ((a.set i (i + 1)).set (i + 1) i)[s]? = a[s]? := fun s z0 z1 => by rw [List.getElem?_set_ne (by omega), List.getElem?_set_ne (by omega)]
  by_cases z0 : s = i
  · subst z0
    exact ⟨s + 1, h1, g0, g1⟩
  · by_cases z1 : s = i + 1
    · subst z1
      exact ⟨i, by omega, g1, g0⟩
    · obtain ⟨t, tl, a1, a2⟩ := k.inv s hs
      have t0 : t ≠ i := fun z => by rw [z, e0] at a2; exact z0 (Option.some.inj a2).symm
      have t1 : t ≠ i + 1 := fun z => by rw [z, e1] at a2; exact z1 (Option.some.inj a2).symm
      exact ⟨t, tl, by rw [go s z0 z1]; exact a1, by rw [go t t0 t1]; exact a2⟩
theorem mod_back {n c x : Int} (hn : 0 < n) (h0 : 0 ≤ x) (h1 : x < n) : ((x - c) % n + c) % n = x := by
  rw [Int.emod_add_emod, Int.sub_add_cancel, Int.emod_eq_of_lt h0 h1]
theorem mod_back2 {n c x : Int} (hn : 0 < n) (h0 : 0 ≤ x) (h1 : x < n) : ((x + c) % n - c) % n = x := by
  rw [Int.emod_sub_emod, Int.add_sub_cancel, Int.emod_eq_of_lt h0 h1]
def tuV (n c : Nat) (row : List Nat) (s : Nat) : Nat := ((((row.getD (((s : Int) + c) % n).toNat 0 : Nat) : Int) - c) % n).toNat
def tuRow (n c : Nat) (row : List Nat) : List Nat := (List.range n).map (tuV n c row)
theorem tuRow_get {n c s : Nat} {row : List Nat} (h : s < n) : (tuRow n c row)[s]? = some (tuV n c row s) := by
  unfold tuRow
  rw [List.getElem?_map, List.getElem?_range h]
  rfl
theorem tuV_at {n c s : Nat} {row : List Nat} (k : Invo n row) (h : s < n) : ∃ u v : Nat, ((s : Int) + c) % n = (u : Int) ∧ u < n ∧ row[u]? = some v ∧ v < n ∧ row[v]? = some u ∧ ((v : Int) - c) % n = (tuV n c row s : Int) ∧ tuV n c row s < n := by
  have hn : (0 : Int) < n := by omega
  have a0 := Int.emod_nonneg ((s : Int) + c) (show (n : Int) ≠ 0 by omega)
  have a1 := Int.emod_lt_of_pos ((s : Int) + c) hn
  obtain ⟨u, eu⟩ := Int.eq_ofNat_of_zero_le a0
  have ul : u < n := by omega
  obtain ⟨v, vl, e1, e2⟩ := k.inv u ul
  have b0 := Int.emod_nonneg ((v : Int) - c) (show (n : Int) ≠ 0 by omega)
  have b1 := Int.emod_lt_of_pos ((v : Int) - c) hn
  have et : tuV n c row s = (((v : Int) - c) % n).toNat := by
    unfold tuV
    rw [eu, Int.toNat_natCast, List.getD_eq_getElem?_getD, e1]
    rfl
  exact ⟨u, v, eu, ul, e1, vl, e2, by omega, by omega⟩
theorem Invo.turned {n c : Nat} {row : List Nat} (k : Invo n row) : Inv2 n (tuRow n c row) (tuRow n c row) := by
  have hl : (tuRow n c row).length = n := by unfold tuRow; rw [List.length_map, List.length_range]
  have key : ∀ s, s < n → ∃ t, t < n ∧ (tuRow n c row)[s]? = some t ∧ (tuRow n c row)[t]? = some s := fun s hs => by
    obtain ⟨u, v, eu, ul, e1, vl, e2, et, tl⟩ := tuV_at (c := c) k hs
    refine ⟨tuV n c row s, tl, tuRow_get hs, ?_⟩
    rw [tuRow_get tl]
    obtain ⟨u', v', eu', ul', e1', vl', e2', et', tl'⟩ := tuV_at (c := c) k tl
    have hn : (0 : Int) < n := by omega
    have q1 : (u' : Int) = v := by
      rw [← eu', ← et]
      exact mod_back hn (by omega) (by omega)
    have q2 : u' = v := by omega
    subst q2
    rw [e2] at e1'
    cases e1'
    have q3 : (tuV n c row (tuV n c row s) : Int) = s := by
      rw [← et', ← eu]
      exact mod_back2 hn (by omega) (by omega)
    congr 1
    omega
  exact ⟨hl, hl, key, key⟩
abbrev Turns := Nat → Nat → Option (List Nat)
def putF (F : Turns) (h p : Nat) (r : List Nat) : Turns := fun h' p' => if h' = h ∧ p' = p then some r else F h' p'
theorem putF_self {F : Turns} {h p : Nat} {r : List Nat} : putF F h p r h p = some r := if_pos ⟨rfl, rfl⟩
theorem putF_ne {F : Turns} {h p h' p' : Nat} {r : List Nat} (z : ¬ (h' = h ∧ p' = p)) : putF F h p r h' p' = F h' p' := if_neg z
structure TurnP (n : Nat) (w : WebD) (F : Turns) (i j : Nat) : Prop where
  dom : ∀ h p r, F h p = some r → ∃ g q r', pegOf w h p = some (((g : Nat) : Int), ((q : Nat) : Int)) ∧ F g q = some r' ∧ Inv2 n r r'
  cov : ∀ h p x, (h < i ∨ (h = i ∧ p < j)) → pegOf w h p = some x → ∃ r, F h p = some r
theorem TurnP.nil {n : Nat} {w : WebD} : TurnP n w (fun _ _ => none) 0 0 := ⟨fun h p r e => (nomatch e), fun h p x hh _ => by omega⟩
section
variable {n room : Nat} {w : WebD} {F : Turns} {i j : Nat}
theorem peg_nat {g q g' q' : Nat} (h : some (((g : Nat) : Int), ((q : Nat) : Int)) = some (((g' : Nat) : Int), ((q' : Nat) : Int))) : g = g' ∧ q = q' := by
  have := Option.some.inj h
  injection this with a b
  omega
theorem TurnP.self (gd : Good room w) (k : TurnP n w F i j) {r : List Nat} (e : pegOf w i j = some ((i : Int), (j : Int))) (hr : Inv2 n r r) : TurnP n w (putF F i j r) i (j + 1) := by
  refine ⟨fun h p r0 e0 => ?_, fun h p x hh e0 => ?_⟩
  · by_cases z : h = i ∧ p = j
    · obtain ⟨rfl, rfl⟩ := z
      rw [putF_self] at e0
      cases e0
      exact ⟨h, p, r, e, putF_self, hr⟩
    · rw [putF_ne z] at e0
      obtain ⟨g, q, r', e1, e2, e3⟩ := k.dom h p r0 e0
      refine ⟨g, q, r', e1, ?_, e3⟩
      rw [putF_ne]
      · exact e2
      · rintro ⟨rfl, rfl⟩
        obtain ⟨g', q', x1, x2⟩ := gd.tie h p _ e1
        obtain ⟨rfl, rfl⟩ := peg_nat (congrArg some x1)
        rw [e] at x2
        obtain ⟨rfl, rfl⟩ := peg_nat x2
        exact z ⟨rfl, rfl⟩
  · by_cases z : h = i ∧ p = j
    · obtain ⟨rfl, rfl⟩ := z
      exact ⟨r, putF_self⟩
    · rw [putF_ne z]
      exact k.cov h p x (by omega) e0
theorem TurnP.pair (gd : Good room w) (k : TurnP n w F i j) {r r' : List Nat} {g q : Nat} (e : pegOf w i j = some ((g : Int), (q : Int))) (ne : ¬ (g = i ∧ q = j)) (hr : Inv2 n r r') : TurnP n w (putF (putF F i j r) g q r') i (j + 1) := by
  have eb : pegOf w g q = some ((i : Int), (j : Int)) := by
    obtain ⟨g', q', x1, x2⟩ := gd.tie i j _ e
    obtain ⟨rfl, rfl⟩ := peg_nat (congrArg some x1)
    exact x2
  have a1 : putF (putF F i j r) g q r' i j = some r := by rw [putF_ne (fun z => ne ⟨z.1.symm, z.2.symm⟩), putF_self]
  refine ⟨fun h p r0 e0 => ?_, fun h p x hh e0 => ?_⟩
  · by_cases z : h = g ∧ p = q
    · obtain ⟨rfl, rfl⟩ := z
      rw [putF_self] at e0
      cases e0
      exact ⟨i, j, r, eb, a1, hr.symm⟩
    · by_cases z2 : h = i ∧ p = j
      · obtain ⟨rfl, rfl⟩ := z2
        rw [a1] at e0
        cases e0
        exact ⟨g, q, r', e, putF_self, hr⟩
      · rw [putF_ne z, putF_ne z2] at e0
        obtain ⟨a, b, r2, e1, e2, e3⟩ := k.dom h p r0 e0
        obtain ⟨a', b', x1, x2⟩ := gd.tie h p _ e1
        obtain ⟨rfl, rfl⟩ := peg_nat (congrArg some x1)
        refine ⟨a, b, r2, e1, ?_, e3⟩
        rw [putF_ne, putF_ne]
        · exact e2
        · rintro ⟨rfl, rfl⟩
          rw [e] at x2
          obtain ⟨rfl, rfl⟩ := peg_nat x2
          exact z ⟨rfl, rfl⟩
        · rintro ⟨rfl, rfl⟩
          rw [eb] at x2
          obtain ⟨rfl, rfl⟩ := peg_nat x2
          exact z2 ⟨rfl, rfl⟩
  · by_cases z : h = g ∧ p = q
    · obtain ⟨rfl, rfl⟩ := z
      exact ⟨r', putF_self⟩
    · by_cases z2 : h = i ∧ p = j
      · obtain ⟨rfl, rfl⟩ := z2
        exact ⟨r, a1⟩
      · rw [putF_ne z, putF_ne z2]
        exact k.cov h p x (by omega) e0
theorem TurnP.skip (gd : Good room w) (k : TurnP n w F i j) {g q : Nat} (e : pegOf w i j = some ((g : Int), (q : Int))) (lt : g < i ∨ (g = i ∧ q < j)) : TurnP n w F i (j + 1) := by
  refine ⟨k.dom, fun h p x hh e0 => ?_⟩
  by_cases z2 : h = i ∧ p = j
  · obtain ⟨rfl, rfl⟩ := z2
    obtain ⟨g', q', x1, x2⟩ := gd.tie h p _ e
    obtain ⟨rfl, rfl⟩ := peg_nat (congrArg some x1)
    obtain ⟨r, er⟩ := k.cov g q _ lt x2
    obtain ⟨a, b, r', y1, y2, _⟩ := k.dom g q r er
    rw [x2] at y1
    obtain ⟨rfl, rfl⟩ := peg_nat y1
    exact ⟨r', y2⟩
  · exact k.cov h p x (by omega) e0
theorem TurnP.row (k : TurnP n w F i j) (hj : ∀ hd, w[i]? = some hd → hd.2.length = j) : TurnP n w F (i + 1) 0 := by
  refine ⟨k.dom, fun h p x hh e0 => k.cov h p x ?_ e0⟩
  by_cases z : h = i
  · subst z
    obtain ⟨hd, e1, e2⟩ := pegOf_some e0
    have := hj hd e1
    have := (List.getElem?_eq_some_iff.mp e2).1
    omega
  · omega
structure TurnOk (n : Nat) (w : WebD) (F : Turns) : Prop where
  all : ∀ h p x, pegOf w h p = some x → ∃ (g q : Nat) (r r' : List Nat), x = ((g : Int), (q : Int)) ∧ F h p = some r ∧ F g q = some r' ∧ Inv2 n r r'
theorem TurnP.ok (k : TurnP n w F w.length 0) : TurnOk n w F := ⟨fun h p x e => by
  obtain ⟨r, er⟩ := k.cov h p x (.inl (pegOf_lt e)) e
  obtain ⟨g, q, r', e1, e2, e3⟩ := k.dom h p r er
  rw [e] at e1
  exact ⟨g, q, r, r', Option.some.inj e1, er, e2, e3⟩⟩
end
abbrev keyP (h p : Nat) : List Key := [.inl (h : Int), .inl (p : Int)]
theorem keyP_eq {h p h' p' : Nat} : keyP h p = keyP h' p' ↔ h = h' ∧ p = p' := by
  constructor
  · intro e
    injection e with a b
    injection b with b _
    injection a with a
    injection b with b
    omega
  · rintro ⟨rfl, rfl⟩
    rfl
structure TurnAt (H0 H : Hp) (D : Addr) (F : Turns) (m : Nat) : Prop where
  ex : ∃ kvs : List (List Key × V), H D = some (.dT kvs) ∧ kvs.length ≤ m ∧ ∀ h p r, F h p = some r → ∃ l, valV kvs (keyP h p) = some (.ref l) ∧ H l = some (.lst (r.map natV)) ∧ H0 l = none ∧ l ≠ D
theorem TurnAt.put {H0 H H' : Hp} {D l : Addr} {F : Turns} {m h p : Nat} {r : List Nat} {kvs : List (List Key × V)} (k : ∀ h p r, F h p = some r → ∃ l, valV kvs (keyP h p) = some (.ref l) ∧ H l = some (.lst (r.map natV)) ∧ H0 l = none ∧ l ≠ D)
    (s : ∀ l xs, H0 l = none → l ≠ D → H l = some (.lst xs) → H' l = some (.lst xs)) (hm : kvs.length ≤ m) (hl : H' l = some (.lst (r.map natV))) (n0 : H0 l = none) (ne : l ≠ D) : TurnAt H0 (upd H' D (.dT (putK kvs (keyP h p) (.ref l)))) D (putF F h p r) (m + 1) := by
  refine ⟨_, upd_same, by have := length_putK kvs (keyP h p) (.ref l); omega, fun h' p' r' e => ?_⟩
  rw [valV_put]
  by_cases z : h' = h ∧ p' = p
  · obtain ⟨rfl, rfl⟩ := z
    rw [putF_self] at e
    cases e
    exact ⟨l, if_pos rfl, by rw [upd_ne ne]; exact hl, n0, ne⟩
  · rw [putF_ne z] at e
    obtain ⟨l', e1, e2, e3, e4⟩ := k h' p' r' e
    exact ⟨l', by rw [if_neg (fun y => z (keyP_eq.mp y))]; exact e1, by rw [upd_ne e4]; exact s _ _ e3 e4 e2, e3, e4⟩
def spTurn : Sp := fun vs H Q _ => ∃ (p a : Addr) (wb : WebD) (n room : Nat), vs = [.ref p, .ref a, natV n] ∧ BoxAt H p ∧ WebAt H a wb ∧ Good room wb ∧ wb.length ≤ 1000 ∧ room ≤ 1000 ∧ 1 ≤ n ∧ n ≤ 1000 ∧
  ∀ (D : Addr) (F : Turns) (H' : Hp), H D = none → Step p H H' → TurnAt H H' D F 4000000 → TurnOk n wb F → Q (.ref D) H'
end NH
set_option Elab.async false
set_option linter.all false
set_option maxRecDepth 100000
set_option maxHeartbeats 4000000
theorem L2.Room.units1 {k : Nat} {A : PySem.Around} (r : L2.Room k A) : A.units + 1 < PySem.cLine := by have := r.un; omega
namespace NH
open PySem L2
section
variable {X : Cx}
def rEqP : R2 := fun x y H Q => ∃ a b p q, x = .ref a ∧ y = .ref b ∧ PairAt H a p ∧ PairAt H b q ∧ Q (.bl (decide (p = q))) H
def rLtP : R2 := fun x y H Q => ∃ a b p q, x = .ref a ∧ y = .ref b ∧ PairAt H a p ∧ PairAt H b q ∧ Q (.bl (decide (p.1 < q.1 ∨ (p.1 = q.1 ∧ p.2 < q.2)))) H
theorem shaped_pair (p : Int × Int) : SeqAt.shaped (pairD p) = true := by rfl
theorem op_eqP {k : Nat} (hr : Room k X.A) : OpR X (compareOp .Eq) rEqP := by
  intro pins s σ H x y v u Q I rx ry h
  obtain ⟨a, b, p, q, rfl, rfl, ha, hb, k⟩ := h
  refine op_eqD hr.units pins s σ H _ _ v u Q I rx ry ⟨_, _, dp_pair ha, dp_pair hb, shaped_pair p, shaped_pair q, ?_⟩
  rw [eqv_pair]
  exact k
theorem lex_pair (p q : Int × Int) : HT.lexLt [p.1, p.2] [q.1, q.2] = decide (p.1 < q.1 ∨ (p.1 = q.1 ∧ p.2 < q.2)) := by
  rw [HT.lexLt_cons, HT.lexLt_cons, HT.lexLt_nil_nil]
  by_cases h : p.1 = q.1
  · rw [if_pos h]
    by_cases h2 : p.2 = q.2
    · rw [if_pos h2]
      symm
      rw [decide_eq_false_iff_not]
      omega
    · rw [if_neg h2]
      rw [decide_eq_decide]
      omega
  · rw [if_neg h, decide_eq_decide]
    omega
theorem op_ltP {k : Nat} (hr : Room k X.A) : OpR X (compareOp .Lt) rLtP := by
  intro pins s σ H x y v u Q I rx ry h
  obtain ⟨a, b, p, q, rfl, rfl, ha, hb, k⟩ := h
  refine op_ltT hr.units0 pins s σ H _ _ v u Q I rx ry ⟨a, b, [p.1, p.2], [q.1, q.2], rfl, rfl, SqT.of ha, SqT.of hb, ?_⟩
  rw [lex_pair]
  exact k
end
theorem flat_nats (l : List Nat) : (l.map natV).all flatV = true := by
  rw [List.all_eq_true]
  intro x hx
  obtain ⟨n, _, rfl⟩ := List.mem_map.mp hx
  rfl
theorem eqV_nat (a b : Nat) : eqV (natV a) (natV b) = decide (a = b) := by
  show ((a : Int) == (b : Int)) = _
  by_cases h : a = b
  · subst h; simp
  · have : ¬ (a : Int) = b := by omega
    simp [h, this]
theorem index_nats {K : PySem.W.Frag} {H : Hp} {a : Addr} {l : List Nat} {j y : Nat} {Q : VK} (h : SqL K H a (l.map natV)) (nd : l.Nodup) (e : l[j]? = some y) (q : Q (.int (j : Nat)) H) : rIndex K (.ref a) [natV y] H Q := by
  refine ⟨a, _, natV y, j, natV y, rfl, rfl, h, rfl, flat_nats l, natV_get e, by rw [eqV_nat]; simp, fun m z' hm ez => ?_, q⟩
  rw [List.getElem?_map] at ez
  obtain ⟨z, e1, rfl⟩ := Option.map_eq_some_iff.mp ez
  rw [eqV_nat, decide_eq_false_iff_not]
  rintro rfl
  have := nd_ix nd e1 e
  omega
theorem TurnAt.same {H0 H1 H2 : Hp} {D : Addr} {F : Turns} {m : Nat} (s : Same H1 H2) (k : TurnAt H0 H1 D F m) : TurnAt H0 H2 D F m := by
  obtain ⟨kvs, e, hl, h⟩ := k.ex
  refine ⟨kvs, s _ _ e, hl, fun h' p r f => ?_⟩
  obtain ⟨l, a, b, c, d⟩ := h h' p r f
  exact ⟨l, a, s _ _ b, c, d⟩
theorem TurnAt.step {p : Addr} {H0 H1 H2 : Hp} {D : Addr} {F : Turns} {m : Nat} (hb : BoxAt H0 p) (nD : H0 D = none) (s : Step p H1 H2) (k : TurnAt H0 H1 D F m) : TurnAt H0 H2 D F m := by
  obtain ⟨kvs, e, hl, h⟩ := k.ex
  refine ⟨kvs, s.keep _ _ (hb.ne nD) e, hl, fun h' p r f => ?_⟩
  obtain ⟨l, a, b, c, d⟩ := h h' p r f
  exact ⟨l, a, s.keep _ _ (hb.ne c) b, c, d⟩
theorem TurnAt.mono {H0 H1 : Hp} {D : Addr} {F : Turns} {m m' : Nat} (h : m ≤ m') (k : TurnAt H0 H1 D F m) : TurnAt H0 H1 D F m' := by
  obtain ⟨kvs, e, hl, r⟩ := k.ex
  exact ⟨kvs, e, by omega, r⟩
theorem range_get {n i : Nat} (h : i < n) : (List.range n)[i]? = some i := List.getElem?_range h
end NH
set_option Elab.async false
set_option linter.all false
set_option maxRecDepth 100000
set_option maxHeartbeats 4000000
namespace NH
open PySem L2
abbrev sTurn : Stmt := top 31
abbrev nTurn : List Str := ["_law_box_here", "_law_web_here", "_law_sheets", "_law_found", "_law_h", "_law_mark", "_law_pegs", "_law_p", "_law_g", "_law_q", "_law_row", "_law_k", "_law_shift", "_law_s"]
section
variable {P : Program} {w : World} {K : PySem.W.Frag} {mg : Str → Option Value} {base : Heap}
theorem scTurn : FnScope nTurn ["_law_box_here", "_law_web_here", "_law_sheets"] (defScope sTurn) := ⟨rfl, rfl, rfl, by decide +kernel, rfl, by decide +kernel, by decide +kernel⟩
theorem ok_turn {f : Addr} {fd : FuncData} (F : Fun K "_law_turnings" "_law_turnings" sTurn f fd) (G : Dr P w K mg base) : FnOk P w K mg base CX0 3 f fd ["_law_box_here", "_law_web_here", "_law_sheets"] spTurn := by
  obtain ⟨fT, fdT, GT, bT, mT, kT⟩ := G.take
  obtain ⟨fS, fdS, GS, bS, mS, kS⟩ := G.shuf
  refine F.ok scTurn (fun vs H Q E h => ?_) (fun cdv A outer s H vs Q E hr h => ?_)
  · obtain ⟨p, a, wb, n, room, rfl, _⟩ := h
    rfl
  · obtain ⟨p, a, wb, n, room, rfl, hb, hW, gd, wl, rl, n1, n2, k⟩ := h
    have nd := scTurn.nd
    have hr1 := hr.mono (show 1 ≤ 2 by decide)
    refine ⟨_, pss_cons (ps_set (i := 3) nd rfl (Or.inl rfl) pe_dnewT)
      (pss_cons (ps_for PassesOwn.never rfl (pi_enumT (by rfl) G.menum (pa_cons (pv 1) pa_nil)) (pg_tup (by rfl) (pgs_cons (pg_name (i := 4) nd rfl (Or.inl rfl)) (pgs_cons (pg_tup (by rfl) (pgs_cons (pg_name (i := 5) nd rfl (Or.inl rfl)) (pgs_cons (pg_name (i := 6) nd rfl (Or.inl rfl)) pgs_nil))) pgs_nil)))
        (pss_one (ps_for PassesOwn.never rfl (pi_enumT (by rfl) G.menum (pa_cons (pv 6) pa_nil)) (pg_tup (by rfl) (pgs_cons (pg_name (i := 7) nd rfl (Or.inl rfl)) (pgs_cons (pg_tup (by rfl) (pgs_cons (pg_name (i := 8) nd rfl (Or.inl rfl)) (pgs_cons (pg_name (i := 9) nd rfl (Or.inl rfl)) pgs_nil))) pgs_nil)))
          (pss_one (ps_if (pt_cmpR (op_eqP hr) (pe_tup (pa_cons (pv 8) (pa_cons (pv 9) pa_nil))) (pe_tup (pa_cons (pv 4) (pa_cons (pv 7) pa_nil))) (nomark _))
            (pss_cons (ps_set (i := 10) nd rfl (Or.inr rfl) (pe_callTy (call_list_rng (by rfl)) (by rfl) G.mlist (by decide +kernel) (pa_cons (pe_callTy call_rng1 (by rfl) G.mrange (by decide +kernel) (pa_cons (pv 2) pa_nil)) pa_nil)))
            (pss_cons (ps_for PassesOwn.never rfl (pi_range1 (by rfl) G.mrange (pa_cons (pe_op op_fdiv (pv 2) pe_int) pa_nil)) (pg_name (i := 11) nd rfl (Or.inl rfl))
              (pss_one (ps_if (pt_cmpR op_gt (pe_call GT hr1 (by rfl) mT kT bT .nil pass0 (pa_cons (pv 0) (pa_cons pe_int pa_nil))) pe_int (nomark _))
                (pss_one (ps_asg (pe_tup (pa_cons (pe_op op_add (pe_op op_mul pe_int (pv 11)) pe_int) (pa_cons (pe_op op_mul pe_int (pv 11)) pa_nil))) (pg_tup (by rfl) (pgs_cons (pg_sub (pv 10) (pe_op op_mul pe_int (pv 11)) set_list) (pgs_cons (pg_sub (pv 10) (pe_op op_add (pe_op op_mul pe_int (pv 11)) pe_int) set_list) pgs_nil))))) pss_nil)))
            (pss_cons (ps_set (i := 12) nd rfl (Or.inr rfl) (pe_call GT hr1 (by rfl) mT kT bT .nil pass0 (pa_cons (pv 0) (pa_cons (pv 2) pa_nil))))
            (pss_one (ps_dput hr.units1 (pv 3) (pe_tup (pa_cons (pv 4) (pa_cons (pv 7) pa_nil)))
              (pe_lc (own := [("_law_s", 13)]) (g := gName 13) (te := tOp (rI (fun _ j => 0 < j) fun i j => .int (i % j)) (tOp (rI0 fun i j => .int (i - j)) (tOp (rIxL K) (tVar 10) (tOp (rI (fun _ j => 0 < j) fun i j => .int (i % j)) (tOp (rI0 fun i j => .int (i + j)) (tVar 13) (tVar 12)) (tVar 2))) (tVar 12)) (tVar 2)) (by rfl) nd (pi_range1 (by rfl) G.mrange (pa_cons (pv 2) pa_nil)) (blkOk_by (own := [("_law_s", 13)]) (N := nTurn) (sc := defScope sTurn) (by decide +kernel))
                (fun _ _ _ _ _ => pg_name (i := 13) nd rfl (Or.inl rfl)) (fun _ _ _ _ _ => pts_nil)
                (fun _ _ _ _ _ => by exact pe_op op_mod (pe_op op_sub (pe_ix ix_list (pv 10) (pe_op op_mod (pe_op op_add (pv 13) (pv 12)) (pv 2)) (fun _ _ => rfl)) (pv 12)) (pv 2))) rfl)))))
            (pss_one (ps_if (pt_cmpR (op_ltP hr) (pe_tup (pa_cons (pv 4) (pa_cons (pv 7) pa_nil))) (pe_tup (pa_cons (pv 8) (pa_cons (pv 9) pa_nil))) (nomark _))
              (pss_cons (ps_set (i := 10) nd rfl (Or.inr rfl) (pe_call GS hr (by rfl) mS kS bS .nil pass0 (pa_cons (pv 0) (pa_cons (pv 2) pa_nil))))
              (pss_cons (ps_dput hr.units1 (pv 3) (pe_tup (pa_cons (pv 4) (pa_cons (pv 7) pa_nil))) (pv 10) rfl)
              (pss_one (ps_dput hr.units1 (pv 3) (pe_tup (pa_cons (pv 8) (pa_cons (pv 9) pa_nil)))
                (pe_lc (own := [("_law_s", 13)]) (g := gName 13) (te := tBM K "list" (rIndex K) (tVar 10) (tCons (tVar 13) tNil)) (by rfl) nd (pi_range1 (by rfl) G.mrange (pa_cons (pv 2) pa_nil)) (blkOk_by (own := [("_law_s", 13)]) (N := nTurn) (sc := defScope sTurn) (by decide +kernel))
                  (fun _ _ _ _ _ => pg_name (i := 13) nd rfl (Or.inl rfl)) (fun _ _ _ _ _ => pts_nil)
                  (fun _ _ _ _ _ => by exact pe_bm PySem.F.plainAttrs_list PySem.F.slot_list_index PySem.F.type_list_index mt_index (pv 10) (pa_cons (pv 13) pa_nil))) rfl)))) pss_nil)))))))
      (pss_one (ps_ret (pv 3)))), ?_⟩
    obtain ⟨hs, hWa, hWP⟩ := hW
    have hsl : hs.length = wb.length := Paired.length hWP
    intro D nD
    have neD : D ≠ p := hb.ne nD
    have hn0 : (n : Int) ≠ 0 := by omega
    refine ⟨_, rfl, a, _, rfl, SqT.of (same_new nD _ _ hWa), for_enumT (K := K) (a := a) (xs := hs.map V.ref) (fun i σ H2 => Step p H H2 ∧ ∃ (F : Turns) (o4 o5 o6 o7 o8 o9 o10 o11 o12 o13 : Option V), σ = [some (.ref p), some (.ref a), some (natV n), some (.ref D), o4, o5, o6, o7, o8, o9, o10, o11, o12, o13] ∧ TurnAt H H2 D F (2 * (1000 * i)) ∧ TurnP n wb F i 0)
      ⟨(Step.refl hb).new nD, fun _ _ => none, none, none, none, none, none, none, none, none, none, none, rfl, ⟨[], upd_same, Nat.zero_le _, fun _ _ _ e => nomatch e⟩, TurnP.nil⟩ (fun i σ H2 _ ⟨s2, _⟩ => SqT.of (s2.tups hb _ _ hWa)) ?_ ?_⟩
    · rintro i y T σ H2 hyi ⟨s2, F, o4, o5, o6, o7, o8, o9, o10, o11, o12, o13, rfl, tA, tP⟩ nT
      rw [List.getElem?_map] at hyi
      obtain ⟨ha, eha, rfl⟩ := Option.map_eq_some_iff.mp hyi
      obtain ⟨hd, ehd, b, eb, ps, hps, hpp⟩ := paired_get hWP eha
      have s3 := s2.new (o := .tup [.int (i : Nat), .ref ha]) nT
      have tA3 := tA.same (same_new (o := .tup [.int (i : Nat), .ref ha]) nT)
      have il : i < wb.length := (List.getElem?_eq_some_iff.mp ehd).1
      have pl := gd.pegs i hd ehd
      have psl : ps.length = hd.2.length := Paired.length hpp
      refine ⟨T, _, rfl, SqT.of upd_same, rfl, _, _, rfl, _, _, rfl, ⟨ha, _, rfl, SqT.of (s3.tups hb _ _ eb), rfl, _, _, rfl, _, _, rfl, rfl, rfl, ?_⟩⟩
      generalize (upd H2 T (.tup [.int (i : Nat), .ref ha])) = H3 at s3 tA3 ⊢
      refine ⟨_, rfl, b, _, rfl, SqT.of (s3.tups hb _ _ hps), for_enumT (K := K) (a := b) (xs := ps.map V.ref) (fun j σ H4 => Step p H H4 ∧ ∃ (F : Turns) (o7 o8 o9 o10 o11 o12 o13 : Option V), σ = [some (.ref p), some (.ref a), some (natV n), some (.ref D), some (natV i), some (.int hd.1), some (.ref b), o7, o8, o9, o10, o11, o12, o13] ∧ TurnAt H H4 D F (2 * (1000 * i + j)) ∧ TurnP n wb F i j)
        ⟨s3, F, _, _, _, _, _, _, _, rfl, tA3, tP⟩ (fun j σ H4 _ ⟨s4, _⟩ => SqT.of (s4.tups hb _ _ hps)) ?_ ?_⟩
      · clear tA tP tA3 s2 s3
        rintro j y T2 σ H4 hyj ⟨s4, F, o7, o8, o9, o10, o11, o12, o13, rfl, tA, tP⟩ nT2
        rw [List.getElem?_map] at hyj
        obtain ⟨pa, epa, rfl⟩ := Option.map_eq_some_iff.mp hyj
        obtain ⟨x, ex, hpa⟩ := paired_get hpp epa
        have epeg : pegOf wb i j = some x := by unfold pegOf; rw [ehd]; exact ex
        obtain ⟨g, q, rfl, eback⟩ := gd.tie i j x epeg
        have jl : j < hd.2.length := (List.getElem?_eq_some_iff.mp ex).1
        have s5 := s4.new (o := .tup [.int (j : Nat), .ref pa]) nT2
        have tA5 := tA.same (same_new (o := .tup [.int (j : Nat), .ref pa]) nT2)
        refine ⟨T2, _, rfl, SqT.of upd_same, rfl, _, _, rfl, _, _, rfl, ⟨pa, _, rfl, SqT.of (s5.tups hb _ _ hpa), rfl, _, _, rfl, _, _, rfl, rfl, rfl, ?_⟩⟩
        clear tA
        generalize (upd H4 T2 (.tup [.int (j : Nat), .ref pa])) = H5 at s5 tA5 ⊢
        refine ⟨_, rfl, _, rfl, (by show 2 ≤ sizeLine; decide), fun t1 m1 => ⟨_, rfl, _, rfl, (by show 2 ≤ sizeLine; decide), fun t2 m2 => ?_⟩⟩
        have q1 := same_new (o := .tup [.int (g : Int), .int (q : Int)]) m1
        have q2 := same_new (o := .tup [natV i, .int (j : Int)]) m2
        have e1 := q2 _ _ (upd_same (H := H5) (a := t1) (o := .tup [.int (g : Int), .int (q : Int)]))
        have e2 : (upd (upd H5 t1 (.tup [.int (g : Int), .int (q : Int)])) t2 (.tup [natV i, .int (j : Int)])) t2 = some (.tup [natV i, .int (j : Int)]) := upd_same
        have s6 := s5.same (q1.trans q2)
        have tA6 := tA5.same (q1.trans q2)
        refine ⟨t1, t2, ((g : Int), (q : Int)), ((i : Int), (j : Int)), rfl, rfl, e1, e2, _, rfl, ?_⟩
        clear tA5 s5 q1 
        generalize (upd (upd H5 t1 (.tup [.int (g : Int), .int (q : Int)])) t2 (.tup [natV i, .int (j : Int)])) = H6 at s6 tA6 e1 e2 ⊢
        refine ite2 (fun hc => ?_) (fun hc => ?_)
        · have hc := of_decide_eq_true hc
          injection hc with hc1 hc2
          have hc1 : g = i := by omega
          have hc2 : q = j := by omega
          subst hc1 hc2
          refine ⟨_, rfl, _, rfl, fun r nr => ⟨r, n, rfl, upd_same, by omega, fun L nL => ?_⟩⟩
          have q3 := same_new (o := .rng 0 (n : Int)) nr
          have s7 := s6.same q3
          have tA7 := tA6.same q3
          clear tA6 s6 e1 e2 q2 q3
          generalize (upd H6 r (.rng 0 (n : Int))) = H7 at s7 tA7 nL ⊢
          have nLH : H L = none := s7.free nL
          have neL : L ≠ p := hb.ne nLH
          have neLD : L ≠ D := fun z => by
            obtain ⟨_, e, _⟩ := tA7.ex
            rw [← z, nL] at e
            cases e
          have eL : (upd H7 L (.lst (natsV n))) L = some (.lst ((List.range n).map natV)) := upd_same
          refine ⟨_, rfl, _, _, rfl, rfl, ⟨by decide, by decide⟩, _, rfl, by omega, by omega, for_range (lo := 0) (n := _) (fun c σ H8 => Step p H7 H8 ∧ ∃ (row : List Nat) (o11 : Option V), σ = [some (.ref p), some (.ref a), some (natV n), some (.ref D), some (natV g), some (.int hd.1), some (.ref b), some (natV q), some (natV g), some (natV q), some (.ref L), o11, o12, o13] ∧ H8 L = some (.lst (row.map natV)) ∧ Invo n row ∧ ∀ s : Nat, 2 * c ≤ s → s < n → row[s]? = some s)
            ⟨(Step.refl s7.box).new nL, List.range n, _, rfl, eL, invo_range n, fun s _ hs => range_get hs⟩ ?_ ?_⟩
          · rintro c σ H8 hcl ⟨s8, row, o11, rfl, eL8, iv, rest⟩
            have hc2 : 2 * c + 1 < n := by omega
            obtain ⟨xa, xb, hx, hx0, hx1⟩ := s8.box.ex
            refine ⟨_, rfl, p, xa, xb, _, rfl, hx, hx0, hx1, by decide, by decide, fun u a1 b1 u0 u1 c1 c2 => ?_⟩
            have s9 := s8.take (x := a1) c1 c2
            have eL9 : (upd H8 p (.lst [.int a1, .int b1])) L = some (.lst (row.map natV)) := by rw [upd_ne neL]; exact eL8
            generalize (upd H8 p (.lst [.int a1, .int b1])) = H9 at s9 eL9 ⊢
            refine ⟨_, _, rfl, rfl, _, rfl, ?_⟩
            refine ite2 (fun _ => ?_) (fun _ => ?_)
            · have cm : CMul 2 (0 + (c : Int)) := .inl ⟨by decide, by decide⟩
              have z1 : V.int (2 * (0 + (c : Int)) + 1) = natV (2 * c + 1) := by unfold natV; congr 1; omega
              have z0 : V.int (2 * (0 + (c : Int))) = natV (2 * c) := by unfold natV; congr 1; omega
              have ll : (row.map natV).length = n := by rw [List.length_map]; exact iv.len
              refine ⟨_, rfl, _, _, rfl, rfl, cm, _, _, rfl, rfl, _, rfl, _, _, rfl, rfl, cm, (by show 2 ≤ sizeLine; decide), fun T3 nT3 => ?_⟩
              have eL10 := (same_new (o := .tup [.int (2 * (0 + (c : Int)) + 1), .int (2 * (0 + (c : Int)))]) nT3) _ _ eL9
              have s10 := s9.new (o := .tup [.int (2 * (0 + (c : Int)) + 1), .int (2 * (0 + (c : Int)))]) nT3
              refine ⟨T3, _, rfl, SqT.of upd_same, rfl, _, _, rfl, _, rfl, _, rfl, _, _, rfl, rfl, cm, L, _, _, 2 * c, rfl, rfl, eL10, ixN_nat (by omega) (by omega), ?_⟩
              refine ⟨_, _, rfl, _, rfl, _, rfl, _, _, rfl, rfl, cm, _, _, rfl, rfl, L, _, _, 2 * c + 1, rfl, rfl, upd_same, ixN_nat (by omega) (by rw [List.length_set]; omega), rfl, ?_⟩
              have hX : ((row.map natV).set (2 * c) (.int (2 * (0 + (c : Int)) + 1))).set (2 * c + 1) (.int (2 * (0 + (c : Int)))) = ((row.set (2 * c) (2 * c + 1)).set (2 * c + 1) (2 * c)).map natV := by rw [z1, z0, ← List.map_set, ← List.map_set]
              refine ⟨(s10.put nL neL).put nL neL, (row.set (2 * c) (2 * c + 1)).set (2 * c + 1) (2 * c), _, rfl, (by rw [← hX]; exact upd_same), iv.swap hc2 (rest _ (by omega) (by omega)) (rest _ (by omega) (by omega)), fun s h1 h2 => ?_⟩
              rw [List.getElem?_set_ne (by omega), List.getElem?_set_ne (by omega)]
              exact rest s (by omega) h2
            · exact ⟨s9, row, _, rfl, eL9, iv, fun s h1 h2 => rest s (by omega) h2⟩
          · rintro σ H8 ⟨s8, row, o11, rfl, eL8, iv, _⟩
            obtain ⟨xa, xb, hx, hx0, hx1⟩ := s8.box.ex
            refine ⟨_, rfl, _, rfl, p, xa, xb, _, rfl, hx, hx0, hx1, by omega, by omega, fun u a1 b1 u0 u1 c1 c2 => ?_⟩
            obtain ⟨u, rfl⟩ := Int.eq_ofNat_of_zero_le u0
            have s9 := s8.take (x := a1) c1 c2
            have eL9 : (upd H8 p (.lst [.int a1, .int b1])) L = some (.lst (row.map natV)) := by rw [upd_ne neL]; exact eL8
            generalize (upd H8 p (.lst [.int a1, .int b1])) = H9 at s9 eL9 ⊢
            have tA9 := tA7.step hb nD s9
            refine ⟨_, rfl, _, rfl, by omega, by omega, fun D2 nD2 => ?_⟩
            have s79 := s7.trans s9
            have nD2H : H D2 = none := s79.free nD2
            have neD2 : D2 ≠ D := fun z => by
              obtain ⟨_, e, _⟩ := tA9.ex
              rw [← z, nD2] at e
              cases e
            have neDL : L ≠ D2 := fun z => by rw [z, nD2] at eL9; cases eL9
            refine lc_range (lo := 0) (n := _) (fun c H10 => Same H9 H10 ∧ H10 D2 = some (.lst (((tuRow n u row).take c).map natV))) ⟨same_new nD2, upd_same⟩ ?_ ?_
            · rintro c H10 hcl ⟨s10, eD2⟩
              obtain ⟨u', v', eu', ul', ev', vl', _, et', tl'⟩ := tuV_at (c := u) (s := c) iv (by omega)
              refine ⟨rfl, ?_⟩
              dsimp only [tYes]
              rw [if_pos rfl]
              refine ⟨_, rfl, _, rfl, _, rfl, _, _, rfl, rfl, _, rfl, _, _, rfl, rfl, (by omega), L, _, _, _, rfl, rfl, SqL.of (s10 _ _ eL9), natV_at (i := u') (by rw [Int.zero_add]; exact eu') ev', _, rfl, _, _, rfl, rfl, _, rfl, _, _, rfl, rfl, (by omega), ?_⟩
              refine ⟨_, eD2, (by rw [List.length_map, List.length_take, sizeLine_eq]; omega), same_upd s10 nD2, ?_⟩
              rw [upd_same, take_snoc (tuRow_get (by omega)), List.map_append]
              show some (HO.lst (_ ++ [V.int (((v' : Int) - u) % n)])) = some (HO.lst (_ ++ [V.int (tuV n u row c : Int)]))
              rw [et']
            · rintro H10 ⟨s10, eD2⟩
              rw [Int.toNat_natCast, List.take_of_length_le (by unfold tuRow; rw [List.length_map, List.length_range]; omega)] at eD2
              refine ⟨_, rfl, _, rfl, _, rfl, (by show 2 ≤ sizeLine; decide), fun t3 m3 => ?_⟩
              have q4 := same_new (o := .tup [natV g, natV q]) m3
              have tA11 := (tA9.same s10).same q4
              have eD11 := q4 _ _ eD2
              have s11 := (s79.same s10).same q4
              have e11 : (upd H10 t3 (.tup [natV g, natV q])) t3 = some (.tup [natV g, natV q]) := upd_same
              generalize (upd H10 t3 (.tup [natV g, natV q])) = H11 at tA11 eD11 s11 e11 ⊢
              obtain ⟨kvs, eD, hl, kk⟩ := tA11.ex
              refine ⟨D, _, rfl, DPut.t (k := keyP g q) eD e11 (by rw [sizeLine_eq]; omega), ?_⟩
              exact ⟨s11.put nD neD, putF F g q (tuRow n u row), _, _, _, _, _, _, _, rfl, (TurnAt.put kk (fun _ _ _ _ e => e) hl eD11 nD2H neD2).mono (by omega), tP.self gd epeg iv.turned⟩
        · refine ⟨_, rfl, _, rfl, (by show 2 ≤ sizeLine; decide), fun t3 m3 => ⟨_, rfl, _, rfl, (by show 2 ≤ sizeLine; decide), fun t4 m4 => ?_⟩⟩
          have q3 := same_new (o := .tup [natV i, .int (j : Int)]) m3
          have q4 := same_new (o := .tup [.int (g : Int), .int (q : Int)]) m4
          have e3 := q4 _ _ (upd_same (H := H6) (a := t3) (o := .tup [natV i, .int (j : Int)]))
          have e4 : (upd (upd H6 t3 (.tup [natV i, .int (j : Int)])) t4 (.tup [.int (g : Int), .int (q : Int)])) t4 = some (.tup [.int (g : Int), .int (q : Int)]) := upd_same
          have s7 := s6.same (q3.trans q4)
          have tA7 := tA6.same (q3.trans q4)
          refine ⟨t3, t4, ((i : Int), (j : Int)), ((g : Int), (q : Int)), rfl, rfl, e3, e4, _, rfl, ?_⟩
          clear tA6 s6 q3
          generalize (upd (upd H6 t3 (.tup [natV i, .int (j : Int)])) t4 (.tup [.int (g : Int), .int (q : Int)])) = H7 at s7 tA7 e3 e4 ⊢
          have ne : ¬ (g = i ∧ q = j) := fun z => hc (decide_eq_true (by rw [z.1, z.2]))
          refine ite2 (fun hlt => ?_) (fun hlt => ?_)
          · refine ⟨_, rfl, _, rfl, p, n, rfl, s7.box, by omega, fun L π H8 nL s8 eL hp => ?_⟩
            have tA8 := tA7.step hb nD s8
            have nLH : H L = none := s7.free nL
            have neLD : L ≠ D := fun z => by
              obtain ⟨_, e, _⟩ := tA7.ex
              rw [← z, nL] at e
              cases e
            refine ⟨_, rfl, _, rfl, _, rfl, _, rfl, (by show 2 ≤ sizeLine; decide), fun t5 m5 => ?_⟩
            have q5 := same_new (o := .tup [natV i, .int (j : Int)]) m5
            have tA9 := tA8.same q5
            have eL9 := q5 _ _ eL
            have s9 := (s7.trans s8).same q5
            have e9 : (upd H8 t5 (.tup [natV i, .int (j : Int)])) t5 = some (.tup [natV i, .int (j : Int)]) := upd_same
            generalize (upd H8 t5 (.tup [natV i, .int (j : Int)])) = H9 at tA9 eL9 s9 e9 ⊢
            obtain ⟨kvs, eD, hl, kk⟩ := tA9.ex
            refine ⟨D, _, rfl, DPut.t (k := keyP i j) eD e9 (by rw [sizeLine_eq]; omega), ?_⟩
            have tA10 := TurnAt.put (h := i) (p := j) (r := π) kk (fun _ _ _ _ e => e) hl eL9 nLH neLD
            have s10 : Step p H (upd H9 D (.dT (putK kvs (keyP i j) (.ref L)))) := s9.put nD neD
            have eL10 : (upd H9 D (.dT (putK kvs (keyP i j) (.ref L)))) L = some (.lst (π.map natV)) := by rw [upd_ne neLD]; exact eL9
            generalize (upd H9 D (.dT (putK kvs (keyP i j) (.ref L)))) = H10 at tA10 s10 eL10 ⊢
            refine ⟨_, rfl, _, rfl, by omega, by omega, fun D2 nD2 => ?_⟩
            have nD2H : H D2 = none := s10.free nD2
            have neD2 : D2 ≠ D := fun z => by
              obtain ⟨_, e, _⟩ := tA10.ex
              rw [← z, nD2] at e
              cases e
            have pnd : π.Nodup := hp.nodup_iff.mpr List.nodup_range
            refine lc_range (lo := 0) (n := _) (fun c H11 => Same H10 H11 ∧ ∃ xs : List Nat, H11 D2 = some (.lst (xs.map natV)) ∧ xs.length = c ∧ ∀ s i : Nat, xs[s]? = some i → π[i]? = some s) ⟨same_new nD2, [], upd_same, rfl, fun s i e => by simp at e⟩ ?_ ?_
            · rintro c H11 hcl ⟨s11, xs, eD2, xl, hxs⟩
              obtain ⟨y, hy, ey⟩ := perm_onto hp (show c < n by omega)
              refine ⟨rfl, ?_⟩
              dsimp only [tYes]
              rw [if_pos rfl]
              have zc : V.int (0 + (c : Int)) = natV c := by unfold natV; rw [Int.zero_add]
              refine ⟨_, rfl, .inl ⟨rfl, _, SqL.of (s11 _ _ eL10)⟩, _, rfl, ?_⟩
              rw [zc]
              dsimp only [tNil]
              refine index_nats (SqL.of (s11 _ _ eL10)) pnd ey ?_
              refine ⟨_, eD2, (by rw [List.length_map, xl, sizeLine_eq]; omega), same_upd s11 nD2, xs ++ [y], (by rw [List.map_append]; exact upd_same), (by rw [List.length_append, xl]; rfl), fun s i e => ?_⟩
              by_cases z : s < xs.length
              · rw [List.getElem?_append_left z] at e
                exact hxs s i e
              · rw [List.getElem?_append_right (by omega)] at e
                have : s = c := by
                  have := (List.getElem?_eq_some_iff.mp e).1
                  simp at this
                  omega
                subst this
                rw [xl, Nat.sub_self] at e
                cases e
                exact ey
            · rintro H11 ⟨s11, xs, eD2, xl, hxs⟩
              rw [Int.toNat_natCast] at xl
              refine ⟨_, rfl, _, rfl, _, rfl, (by show 2 ≤ sizeLine; decide), fun t6 m6 => ?_⟩
              have q6 := same_new (o := .tup [.int (g : Int), .int (q : Int)]) m6
              have tA12 := (tA10.same s11).same q6
              have eD12 := q6 _ _ eD2
              have s12 := (s10.same s11).same q6
              have e12 : (upd H11 t6 (.tup [.int (g : Int), .int (q : Int)])) t6 = some (.tup [.int (g : Int), .int (q : Int)]) := upd_same
              generalize (upd H11 t6 (.tup [.int (g : Int), .int (q : Int)])) = H12 at tA12 eD12 s12 e12 ⊢
              obtain ⟨kvs', eD', hl', kk'⟩ := tA12.ex
              refine ⟨D, _, rfl, DPut.t (k := keyP g q) eD' e12 (by rw [sizeLine_eq]; omega), ?_⟩
              exact ⟨s12.put nD neD, putF (putF F i j π) g q xs, _, _, _, _, _, _, _, rfl, (TurnAt.put kk' (fun _ _ _ _ e => e) hl' eD12 nD2H neD2).mono (by omega), tP.pair gd epeg ne (Inv2.of_perm hp xl hxs)⟩
          · have hlt : ¬ ((i : Int) < g ∨ ((i : Int) = g ∧ (j : Int) < q)) := fun z => hlt (decide_eq_true z)
            exact ⟨s7, F, _, _, _, _, _, _, _, rfl, tA7.mono (by omega), tP.skip gd epeg (by omega)⟩
      · rintro σ H4 ⟨s4, F, o7, o8, o9, o10, o11, o12, o13, rfl, tA, tP⟩
        rw [List.length_map, psl] at tA tP
        exact ⟨s4, F, _, _, _, _, _, _, _, _, _, _, rfl, tA.mono (by omega), tP.row fun hd' e => by rw [ehd] at e; cases e; rfl⟩
    · rintro σ H2 ⟨s2, F, o4, o5, o6, o7, o8, o9, o10, o11, o12, o13, rfl, tA, tP⟩
      rw [List.length_map, hsl] at tA tP
      exact ⟨_, rfl, k D F H2 nD s2 (tA.mono (by omega)) tP.ok⟩
end
end NH
set_option Elab.async false
set_option linter.all false
set_option maxRecDepth 100000
set_option maxHeartbeats 4000000
namespace NH
open PySem L2
theorem nd_bound : ∀ (m : Nat) (l : List Nat), l.Nodup → (∀ x ∈ l, x < m) → l.length ≤ m
  | 0, l, _, h => by
    cases l with
    | nil => exact Nat.le_refl _
    | cons a r => exact absurd (h a (List.mem_cons_self ..)) (Nat.not_lt_zero _)
  | m + 1, l, nd, h => by
    by_cases z : m ∈ l
    · have h1 := nd_bound m (l.erase m) (nd.erase m) fun x hx => by
        have h2 := (nd.mem_erase_iff).mp hx
        have := h x h2.2
        have := h2.1
        omega
      rw [List.length_erase_of_mem z] at h1
      omega
    · have := nd_bound m l nd fun x hx => by
        have h1 := h x hx
        have : x ≠ m := fun y => z (y ▸ hx)
        omega
      omega
theorem nd_pairs {a b : Nat} {l : List End} (nd : l.Nodup) (h : ∀ x ∈ l, x.1 < a ∧ x.2 < b) : l.length ≤ a * b := by
  have inj : ∀ x ∈ l, ∀ y ∈ l, x.1 * b + x.2 = y.1 * b + y.2 → x = y := by
    intro x hx y hy e
    have h1 := h x hx
    have h2 := h y hy
    have d1 : (x.1 * b + x.2) / b = x.1 := by
      rw [Nat.mul_comm, Nat.mul_add_div (by omega), Nat.div_eq_of_lt h1.2, Nat.add_zero]
    have d2 : (y.1 * b + y.2) / b = y.1 := by
      rw [Nat.mul_comm, Nat.mul_add_div (by omega), Nat.div_eq_of_lt h2.2, Nat.add_zero]
    have e1 : x.1 = y.1 := by rw [← d1, ← d2, e]
    have e2 : x.2 = y.2 := by rw [e1] at e; omega
    exact Prod.ext e1 e2
  have nd2 : (l.map fun x => x.1 * b + x.2).Nodup := by
    clear h
    induction l with
    | nil => exact List.nodup_nil
    | cons a r ih =>
      rw [List.map_cons, List.nodup_cons]
      rw [List.nodup_cons] at nd
      refine ⟨fun hm => ?_, ih nd.2 fun x hx y hy => inj x (List.mem_cons_of_mem _ hx) y (List.mem_cons_of_mem _ hy)⟩
      obtain ⟨y, hy, e⟩ := List.mem_map.mp hm
      have := inj y (List.mem_cons_of_mem _ hy) a (List.mem_cons_self ..) e
      subst this
      exact nd.1 hy
  have := nd_bound (a * b) _ nd2 fun x hx => by
    obtain ⟨y, hy, rfl⟩ := List.mem_map.mp hx
    have h1 := h y hy
    have : (y.1 + 1) * b ≤ a * b := Nat.mul_le_mul_right _ h1.1
    rw [Nat.succ_mul] at this
    omega
  rwa [List.length_map] at this
def tuAt (F : Turns) (h p s : Nat) : Option Nat := (F h p).bind fun r => r[s]?
theorem TurnOk.at {n : Nat} {w : WebD} {F : Turns} (k : TurnOk n w F) {h p s : Nat} {x : PegD} (e : pegOf w h p = some x) (hs : s < n) : ∃ (g q t : Nat), x = ((g : Int), (q : Int)) ∧ tuAt F h p s = some t ∧ t < n ∧ tuAt F g q t = some s := by
  obtain ⟨g, q, r, r', rfl, e1, e2, iv⟩ := k.all h p x e
  obtain ⟨t, tl, a, b⟩ := iv.ab s hs
  exact ⟨g, q, t, rfl, by unfold tuAt; rw [e1]; exact a, tl, by unfold tuAt; rw [e2]; exact b⟩
structure Cov (n : Nat) (w : WebD) (F : Turns) (l : List End) (c j : Nat) : Prop where
  nd : l.Nodup
  zero : l[0]? = some (0, 0)
  inb : ∀ x ∈ l, x.1 < w.length ∧ x.2 < n
  closed : ∀ (k h s p g q : Nat), (k < c ∨ (k = c ∧ p < j)) → l[k]? = some (h, s) → pegOf w h p = some ((g : Int), (q : Int)) → ∃ t, tuAt F h p s = some t ∧ (g, t) ∈ l
  tree : ∀ k : Nat, 0 < k → k < l.length → ∃ k' h s p g q t : Nat, k' < k ∧ l[k']? = some (h, s) ∧ pegOf w h p = some ((g : Int), (q : Int)) ∧ tuAt F h p s = some t ∧ l[k]? = some (g, t)
section
variable {n room : Nat} {w : WebD} {F : Turns} {l : List End} {c j : Nat}
theorem Cov.first (h0 : 0 < w.length) (hn : 0 < n) : Cov n w F [(0, 0)] 0 0 :=
  ⟨List.nodup_cons.mpr ⟨(fun h => nomatch h), List.nodup_nil⟩, rfl, fun x hx => by rw [List.mem_singleton.mp hx]; exact ⟨h0, hn⟩, fun k h s p g q hk => by omega, fun k k0 k1 => by simp at k1; omega⟩
theorem Cov.len (k : Cov n w F l c j) : l.length ≤ w.length * n := nd_pairs k.nd k.inb
theorem Cov.old (k : Cov n w F l c j) {h s g q t : Nat} (e : l[c]? = some (h, s)) (ep : pegOf w h j = some ((g : Int), (q : Int))) (et : tuAt F h j s = some t) (hm : (g, t) ∈ l) : Cov n w F l c (j + 1) := by
  refine ⟨k.nd, k.zero, k.inb, fun k' h' s' p' g' q' hk e' ep' => ?_, k.tree⟩
  by_cases z : k' = c ∧ p' = j
  · obtain ⟨rfl, rfl⟩ := z
    rw [e] at e'
    cases e'
    rw [ep] at ep'
    obtain ⟨rfl, rfl⟩ := peg_nat ep'
    exact ⟨t, et, hm⟩
  · exact k.closed k' h' s' p' g' q' (by omega) e' ep'
theorem Cov.add (k : Cov n w F l c j) {h s g q t : Nat} (e : l[c]? = some (h, s)) (ep : pegOf w h j = some ((g : Int), (q : Int))) (et : tuAt F h j s = some t) (hm : ¬ (g, t) ∈ l) (hg : g < w.length) (ht : t < n) : Cov n w F (l ++ [(g, t)]) c (j + 1) := by
  have cl : c < l.length := (List.getElem?_eq_some_iff.mp e).1
  have up : ∀ {i : Nat} {x : End}, l[i]? = some x → (l ++ [(g, t)])[i]? = some x := fun e => by
    have := (List.getElem?_eq_some_iff.mp e).1
    rw [List.getElem?_append_left this]
    exact e
  have lk : (l ++ [(g, t)])[l.length]? = some (g, t) := by rw [List.getElem?_append_right (Nat.le_refl _), Nat.sub_self]; rfl
  refine ⟨nd_snoc k.nd hm, up k.zero, fun x hx => ?_, fun k' h' s' p' g' q' hk e' ep' => ?_, fun k' k0 k1 => ?_⟩
  · rcases List.mem_append.mp hx with z | z
    · exact k.inb x z
    · rw [List.mem_singleton.mp z]
      exact ⟨hg, ht⟩
  · have kl : k' < l.length := by omega
    rw [List.getElem?_append_left kl] at e'
    by_cases z : k' = c ∧ p' = j
    · obtain ⟨rfl, rfl⟩ := z
      rw [e] at e'
      cases e'
      rw [ep] at ep'
      obtain ⟨rfl, rfl⟩ := peg_nat ep'
      exact ⟨t, et, List.mem_append_right _ (List.mem_singleton.mpr rfl)⟩
    · obtain ⟨t', a, b⟩ := k.closed k' h' s' p' g' q' (by omega) e' ep'
      exact ⟨t', a, List.mem_append_left _ b⟩
  · rw [List.length_append] at k1
    by_cases z : k' < l.length
    · obtain ⟨a, h', s', p', g', q', t', x1, x2, x3, x4, x5⟩ := k.tree k' k0 z
      exact ⟨a, h', s', p', g', q', t', x1, up x2, x3, x4, up x5⟩
    · have : k' = l.length := by simp at k1; omega
      subst this
      exact ⟨c, h, s, j, g, q, t, cl, up e, ep, et, lk⟩
theorem Cov.next (k : Cov n w F l c j) {h s : Nat} {hd : HandD} (e : l[c]? = some (h, s)) (eh : w[h]? = some hd) (hj : hd.2.length = j) : Cov n w F l (c + 1) 0 := by
  refine ⟨k.nd, k.zero, k.inb, fun k' h' s' p' g' q' hk e' ep' => k.closed k' h' s' p' g' q' ?_ e' ep', k.tree⟩
  by_cases z : k' = c
  · subst z
    rw [e] at e'
    cases e'
    obtain ⟨hd', e1, e2⟩ := pegOf_some ep'
    rw [eh] at e1
    cases e1
    have := (List.getElem?_eq_some_iff.mp e2).1
    omega
  · omega
structure CovOf (w : WebD) (F : Turns) (l : List End) (w' : WebD) : Prop where
  len : w'.length = l.length
  at_ : ∀ (k h s : Nat) hd, l[k]? = some (h, s) → w[h]? = some hd → ∃ hd' : HandD, w'[k]? = some hd' ∧ hd'.1 = hd.1 ∧ hd'.2.length = hd.2.length ∧
    ∀ p g q : Nat, hd.2[p]? = some ((g : Int), (q : Int)) → ∃ t k' : Nat, tuAt F h p s = some t ∧ l[k']? = some (g, t) ∧ hd'.2[p]? = some ((k' : Int), (q : Int))
theorem CovOf.peg {w' : WebD} (r : CovOf w F l w') {k h s p g q : Nat} (e : l[k]? = some (h, s)) (ep : pegOf w h p = some ((g : Int), (q : Int))) : ∃ t k' : Nat, tuAt F h p s = some t ∧ l[k']? = some (g, t) ∧ pegOf w' k p = some ((k' : Int), (q : Int)) := by
  obtain ⟨hd, e1, e2⟩ := pegOf_some ep
  obtain ⟨hd', a, _, _, d⟩ := r.at_ k h s hd e e1
  obtain ⟨t, k', x, y, z⟩ := d p g q e2
  exact ⟨t, k', x, y, by unfold pegOf; rw [a]; exact z⟩
theorem CovOf.good {w' : WebD} (gd : Good room w) (tk : TurnOk n w F) (cv : Cov n w F l l.length 0) (r : CovOf w F l w') : Good room w' := by
  have hl := r.len
  have l0 : 0 < l.length := (List.getElem?_eq_some_iff.mp cv.zero).1
  have hand : ∀ k : Nat, k < l.length → ∃ (h s : Nat) (hd : HandD), l[k]? = some (h, s) ∧ w[h]? = some hd ∧ s < n := by
    intro k hk
    have e : l[k]? = some (l[k].1, l[k].2) := List.getElem?_eq_getElem hk
    have b := cv.inb l[k] (List.getElem_mem hk)
    exact ⟨_, _, _, e, List.getElem?_eq_getElem b.1, b.2⟩
  have tie : ∀ (h p : Nat) x, pegOf w' h p = some x → ∃ g q : Nat, x = ((g : Int), (q : Int)) ∧ pegOf w' g q = some ((h : Int), (p : Int)) := by
    intro k p x ex
    have kl : k < l.length := by rw [← hl]; exact pegOf_lt ex
    obtain ⟨h, s, hd, e1, e2, sl⟩ := hand k kl
    obtain ⟨hd', a, b, c, d⟩ := r.at_ k h s hd e1 e2
    have pl : p < hd.2.length := by
      obtain ⟨hd2, z1, z2⟩ := pegOf_some ex
      rw [a] at z1
      cases z1
      have := (List.getElem?_eq_some_iff.mp z2).1
      omega
    have ep : pegOf w h p = some (hd.2[p]) := by unfold pegOf; rw [e2]; exact List.getElem?_eq_getElem pl
    obtain ⟨g, q, exq, back⟩ := gd.tie h p _ ep
    rw [exq] at ep
    obtain ⟨g2, q2, t, zz, et, tl, et2⟩ := tk.at ep sl
    obtain ⟨rfl, rfl⟩ := peg_nat (congrArg some zz)
    obtain ⟨t', k', f1, f2, f3⟩ := r.peg e1 ep
    rw [et] at f1
    cases f1
    rw [ex] at f3
    cases f3
    refine ⟨k', q, rfl, ?_⟩
    obtain ⟨s', k2, g1, g2, g3⟩ := r.peg f2 back
    rw [et2] at g1
    cases g1
    have : k2 = k := nd_ix cv.nd g2 e1
    subst this
    exact g3
  have edge : ∀ k : Nat, 0 < k → k < l.length → ∃ k' p q : Nat, k' < k ∧ pegOf w' k' p = some ((k : Int), (q : Int)) := by
    intro k k0 k1
    obtain ⟨k', h, s, p, g, q, t, x1, x2, x3, x4, x5⟩ := cv.tree k k0 k1
    obtain ⟨t', k2, f1, f2, f3⟩ := r.peg x2 x3
    rw [x4] at f1
    cases f1
    have : k2 = k := nd_ix cv.nd f2 x5
    subst this
    exact ⟨k', p, q, x1, f3⟩
  refine ⟨by omega, fun k hd' e => ?_, fun k hd' e => ?_, tie, fun S hS a b ha hb sa => ?_⟩
  · have kl : k < l.length := by rw [← hl]; exact (List.getElem?_eq_some_iff.mp e).1
    obtain ⟨h, s, hd, e1, e2, sl⟩ := hand k kl
    obtain ⟨hd2, a, b, c, d⟩ := r.at_ k h s hd e1 e2
    rw [e] at a
    cases a
    rw [b]
    exact gd.mark h hd e2
  · have kl : k < l.length := by rw [← hl]; exact (List.getElem?_eq_some_iff.mp e).1
    obtain ⟨h, s, hd, e1, e2, sl⟩ := hand k kl
    obtain ⟨hd2, a, b, c, d⟩ := r.at_ k h s hd e1 e2
    rw [e] at a
    cases a
    rw [c]
    exact gd.pegs h hd e2
  · have down : ∀ m k : Nat, k ≤ m → k < l.length → S k → S 0 := by
      intro m
      induction m with
      | zero => intro k hk _ sk; rw [show k = 0 by omega] at sk; exact sk
      | succ m ih =>
        intro k hk kl sk
        by_cases k0 : k = 0
        · rw [k0] at sk; exact sk
        · obtain ⟨k', p, q, x1, x2⟩ := edge k (by omega) kl
          obtain ⟨g, q', y1, y2⟩ := tie k' p _ x2
          obtain ⟨rfl, rfl⟩ := peg_nat (congrArg some y1)
          exact ih k' (by omega) (by omega) (hS k q k' p y2 sk)
    have up : ∀ m k : Nat, k ≤ m → k < l.length → S 0 → S k := by
      intro m
      induction m with
      | zero => intro k hk _ sk; rw [show k = 0 by omega]; exact sk
      | succ m ih =>
        intro k hk kl sk
        by_cases k0 : k = 0
        · rw [k0]; exact sk
        · obtain ⟨k', p, q, x1, x2⟩ := edge k (by omega) kl
          exact hS k' p k q x2 (ih k' (by omega) (by omega) sk)
    exact up b b (Nat.le_refl _) (by omega) (down a a (Nat.le_refl _) (by omega) sa)
end
theorem TurnAt.get {H0 H : Hp} {D b : Addr} {F : Turns} {m h p s t : Nat} (k : TurnAt H0 H D F m) (e : tuAt F h p s = some t) (eb : H b = some (.tup [natV h, natV p])) : ∃ (l : Addr) (r : List Nat), DGet H D (.ref b) (some (.ref l)) ∧ H l = some (.lst (r.map natV)) ∧ r[s]? = some t := by
  obtain ⟨kvs, eD, _, kk⟩ := k.ex
  obtain ⟨r, e1, e2⟩ := Option.bind_eq_some_iff.mp e
  obtain ⟨l, a, b', _, _⟩ := kk h p r e1
  refine ⟨l, r, ?_, b', e2⟩
  rw [← a]
  exact DGet.t eD eb
theorem mem_pegI {l : List End} {g t : Nat} : (((g : Int), (t : Int)) ∈ l.map pegI) ↔ (g, t) ∈ l := by
  constructor
  · intro h
    obtain ⟨x, hx, e⟩ := List.mem_map.mp h
    rw [← pegI_inj e]
    exact hx
  · intro h
    exact List.mem_map.mpr ⟨_, h, rfl⟩
theorem get_pegI {l : List End} {k : Nat} {x : PegD} (e : (l.map pegI)[k]? = some x) : ∃ h s : Nat, l[k]? = some (h, s) ∧ x = ((h : Int), (s : Int)) := by
  rw [List.getElem?_map] at e
  obtain ⟨y, e1, rfl⟩ := Option.map_eq_some_iff.mp e
  exact ⟨y.1, y.2, e1, rfl⟩
theorem pegI_get {l : List End} {k h s : Nat} (e : l[k]? = some (h, s)) : (l.map pegI)[k]? = some ((h : Int), (s : Int)) := by rw [List.getElem?_map, e]; rfl
theorem web_hand {K : PySem.W.Frag} {H : Hp} {a : Addr} {hs : List Addr} {wb : WebD} (hWa : H a = some (.tup (hs.map V.ref))) (hWP : Paired (HandAt H) hs wb) {h : Nat} (hl : h < wb.length) :
    ∃ (ha b : Addr) (hd : HandD) (ps : List Addr), wb[h]? = some hd ∧ atI (hs.map V.ref) (h : Int) = some (.ref ha) ∧ H ha = some (.tup [.int hd.1, .ref b]) ∧ H b = some (.tup (ps.map V.ref)) ∧ PairsAt H ps hd.2 := by
  have e : wb[h]? = some wb[h] := List.getElem?_eq_getElem hl
  obtain ⟨ha, e1, b, e2, ps, e3, e4⟩ := paired_get' hWP e
  exact ⟨ha, b, _, ps, e, at_of rfl (by rw [List.getElem?_map, e1]; rfl), e2, e3, e4⟩
def CovHand (F : Turns) (l : List End) (h s : Nat) (hd hd' : HandD) : Prop := hd'.1 = hd.1 ∧ hd'.2.length = hd.2.length ∧
  ∀ p g q : Nat, hd.2[p]? = some ((g : Int), (q : Int)) → ∃ t k' : Nat, tuAt F h p s = some t ∧ l[k']? = some (g, t) ∧ hd'.2[p]? = some ((k' : Int), (q : Int))
theorem first_pegI {l : List End} (nd : l.Nodup) {k g t : Nat} (e : l[k]? = some (g, t)) : ∀ m, m < k → (l.map pegI)[m]? ≠ some ((g : Int), (t : Int)) := by
  intro m hm e'
  obtain ⟨h, s, e1, e2⟩ := get_pegI e'
  obtain ⟨rfl, rfl⟩ := peg_nat (congrArg some e2)
  have := nd_ix nd e e1
  omega
def spCover : Sp := fun vs H Q _ => ∃ (p a : Addr) (wb : WebD) (n room : Nat), vs = [.ref p, .ref a, natV n] ∧ BoxAt H p ∧ WebAt H a wb ∧ Good room wb ∧ wb.length * n ≤ 1000 ∧ wb.length ≤ 1000 ∧ room ≤ 1000 ∧ 1 ≤ n ∧ n ≤ 1000 ∧
  ∀ (r rw rl : Addr) (F : Turns) (l : List End) (w0 w' : WebD) (π ld : List Nat) (H' : Hp), H r = none → H rw = none → Step p H H' → H' r = some (.tup [.ref rw, .ref rl]) → WebAt H' rw w' → H' rl = some (.tup (ld.map natV)) → TurnOk n wb F → Cov n wb F l l.length 0 → CovOf wb F l w0 →
    π.Perm (List.range l.length) → RenOf w0 π w' → ld.length = l.length → (∀ (k j h s : Nat), π[k]? = some j → l[k]? = some (h, s) → ld[j]? = some h) → Q (.ref r) H'
end NH
set_option Elab.async false
set_option linter.all false
set_option maxRecDepth 100000
set_option maxHeartbeats 4000000
namespace NH
open PySem L2
abbrev sCov : Stmt := top 32
abbrev nCov : List Str := ["_law_box_here", "_law_web_here", "_law_sheets", "_law_turnings_here", "_law_there", "_law_at", "_law_h", "_law_s", "_law_p", "_law_g", "_law_q", "_law_found", "_law_pegs", "_law_row", "_law_leading", "_law_k"]
section
variable {P : Program} {w : World} {K : PySem.W.Frag} {mg : Str → Option Value} {base : Heap}
theorem scCov : FnScope nCov ["_law_box_here", "_law_web_here", "_law_sheets"] (defScope sCov) := ⟨rfl, rfl, rfl, by decide +kernel, rfl, by decide +kernel, by decide +kernel⟩
structure Dr3 (P : Program) (w : World) (K : PySem.W.Frag) (mg : Str → Option Value) (base : Heap) : Prop extends Dr P w K mg base where
  turn : ∃ (f : Addr) (fd : FuncData), FnOk P w K mg base CX0 3 f fd ["_law_box_here", "_law_web_here", "_law_sheets"] spTurn ∧ Binds K fd ["_law_box_here", "_law_web_here", "_law_sheets"] [] ∧ mg "_law_turnings" = some (.ref f) ∧ PySem.W.keepIn K (.ref f) = true
  ren : ∃ (f : Addr) (fd : FuncData), FnOk P w K mg base CX0 1 f fd ["_law_web_here", "_law_row"] spRen ∧ Binds K fd ["_law_web_here", "_law_row"] [] ∧ mg "_law_renamed" = some (.ref f) ∧ PySem.W.keepIn K (.ref f) = true
abbrev tTg (K : PySem.W.Frag) : TE := tTup (tCons (tVar 9) (tCons (tOp (rIxL K) (tDGet (tVar 3) (tTup (tCons (tVar 6) (tCons (tVar 8) tNil)))) (tVar 7)) tNil))
theorem ok_cov {f : Addr} {fd : FuncData} (F : Fun K "_law_cover" "_law_cover" sCov f fd) (G : Dr3 P w K mg base) : FnOk P w K mg base CX0 4 f fd ["_law_box_here", "_law_web_here", "_law_sheets"] spCover := by
  obtain ⟨fS, fdS, GS, bS, mS, kS⟩ := G.shuf
  obtain ⟨fU, fdU, GU, bU, mU, kU⟩ := G.turn
  obtain ⟨fR, fdR, GR, bR, mR, kR⟩ := G.ren
  refine F.ok scCov (fun vs H Q E h => ?_) (fun cdv A outer s H vs Q E hr h => ?_)
  · obtain ⟨p, a, wb, n, room, rfl, _⟩ := h
    rfl
  · obtain ⟨p, a, wb, n, room, rfl, hb, hW, gd, bnd, wl, rl, n1, n2, k⟩ := h
    have nd := scCov.nd
    have hr1 := hr.mono (show 1 ≤ 3 by decide)
    have hr2 := hr.mono (show 2 ≤ 3 by decide)
    refine ⟨_, pss_cons (ps_set (i := 3) nd rfl (Or.inr rfl) (pe_call GU hr (by rfl) mU kU bU .nil pass0 (pa_cons (pv 0) (pa_cons (pv 1) (pa_cons (pv 2) pa_nil)))))
      (pss_cons (ps_set (i := 4) nd rfl (Or.inr rfl) (pe_lst (pa_cons (pe_tup (pa_cons pe_int (pa_cons pe_int pa_nil))) pa_nil)))
      (pss_cons (ps_set (i := 5) nd rfl (Or.inl rfl) pe_int)
      (pss_cons (ps_while PassesOwn.never (pt_cmpR op_lt (pv 5) (pe_callB call_len_seq (by rfl) G.mlen PySem.boot_len (pa_cons (pv 4) pa_nil)) (nomark _))
        (pss_cons (ps_asg (pe_ix ix_list (pv 4) (pv 5) (fun _ _ => rfl)) (pg_tup (by rfl) (pgs_cons (pg_name (i := 6) nd rfl (Or.inr rfl)) (pgs_cons (pg_name (i := 7) nd rfl (Or.inr rfl)) pgs_nil))))
        (pss_cons (ps_for PassesOwn.never rfl (pi_enumT (by rfl) G.menum (pa_cons (pe_ix ix_tup (pe_ix ix_tup (pv 1) (pv 6) (fun _ _ => rfl)) pe_int (fun _ _ => rfl)) pa_nil)) (pg_tup (by rfl) (pgs_cons (pg_name (i := 8) nd rfl (Or.inl rfl)) (pgs_cons (pg_tup (by rfl) (pgs_cons (pg_name (i := 9) nd rfl (Or.inl rfl)) (pgs_cons (pg_name (i := 10) nd rfl (Or.inl rfl)) pgs_nil))) pgs_nil)))
          (pss_one (ps_if (pt_cmpR (op_notInP hr) (pe_tup (pa_cons (pv 9) (pa_cons (pe_ix ix_list (pe_dget hr.units1 (pv 3) (pe_tup (pa_cons (pv 6) (pa_cons (pv 8) pa_nil))) (fun _ _ => rfl)) (pv 7) (fun _ _ => rfl)) pa_nil))) (pv 4) (by rfl))
            (pss_one (ps_expr (pe_bm PySem.F.plainAttrs_list PySem.F.slot_list_append PySem.F.type_list_append mt_append (pv 4) (pa_cons (pe_tup (pa_cons (pv 9) (pa_cons (pe_ix ix_list (pe_dget hr.units1 (pv 3) (pe_tup (pa_cons (pv 6) (pa_cons (pv 8) pa_nil))) (fun _ _ => rfl)) (pv 7) (fun _ _ => rfl)) pa_nil))) pa_nil)))) pss_nil)))
        (pss_one (ps_set (i := 5) nd rfl (Or.inl rfl) (pe_op op_add (pv 5) pe_int))))))
      (pss_cons (ps_set (i := 11) nd rfl (Or.inl rfl) (pe_lst pa_nil))
      (pss_cons (ps_for PassesOwn.never rfl (pi_list (pv 4)) (pg_tup (by rfl) (pgs_cons (pg_name (i := 6) nd rfl (Or.inr rfl)) (pgs_cons (pg_name (i := 7) nd rfl (Or.inr rfl)) pgs_nil)))
        (pss_cons (ps_setLc (i := 12) (own := [("_law_p", 8), ("_law_g", 9), ("_law_q", 10)]) (g := gTup K 2 (gCons (gName 8) (gCons (gTup K 2 (gCons (gName 9) (gCons (gName 10) gNil))) gNil))) (te := tTup (tCons (tBM K "list" rIndexP (tVar 4) (tCons (tTg K) tNil)) (tCons (tVar 10) tNil))) (by rfl) nd rfl rfl (sw_true rfl rfl rfl (by decide +kernel))
            (pi_enumT (by rfl) G.menum (pa_cons (pe_ix ix_tup (pe_ix ix_tup (pv 1) (pv 6) (fun _ _ => rfl)) pe_int (fun _ _ => rfl)) pa_nil)) (blkOk_by (own := [("_law_p", 8), ("_law_g", 9), ("_law_q", 10)]) (N := nCov) (sc := defScope sCov) (by decide +kernel))
            (fun _ _ _ _ _ => by exact pg_tup (by rfl) (pgs_cons (pg_name (i := 8) nd rfl (Or.inl rfl)) (pgs_cons (pg_tup (by rfl) (pgs_cons (pg_name (i := 9) nd rfl (Or.inl rfl)) (pgs_cons (pg_name (i := 10) nd rfl (Or.inl rfl)) pgs_nil))) pgs_nil))) (fun _ _ _ _ _ => pts_nil)
            (fun _ _ _ _ _ => by exact pe_tup (pa_cons (pe_bm PySem.F.plainAttrs_list PySem.F.slot_list_index PySem.F.type_list_index (mt_indexP hr) (pv 4) (pa_cons (pe_tup (pa_cons (pv 9) (pa_cons (pe_ix ix_list (pe_dget hr.units1 (pv 3) (pe_tup (pa_cons (pv 6) (pa_cons (pv 8) pa_nil))) (fun _ _ => rfl)) (pv 7) (fun _ _ => rfl)) pa_nil))) pa_nil)) (pa_cons (pv 10) pa_nil))))
        (pss_one (ps_expr (pe_bm PySem.F.plainAttrs_list PySem.F.slot_list_append PySem.F.type_list_append mt_append (pv 11) (pa_cons (pe_tup (pa_cons (pe_ix ix_tup (pe_ix ix_tup (pv 1) (pv 6) (fun _ _ => rfl)) pe_int (fun _ _ => rfl)) (pa_cons (pe_callTy call_tuple_of (by rfl) G.mtuple (by decide +kernel) (pa_cons (pv 12) pa_nil)) pa_nil))) pa_nil))))))
      (pss_cons (ps_set (i := 13) nd rfl (Or.inl rfl) (pe_call GS hr2 (by rfl) mS kS bS .nil pass0 (pa_cons (pv 0) (pa_cons (pe_callB call_len_seq (by rfl) G.mlen PySem.boot_len (pa_cons (pv 4) pa_nil)) pa_nil))))
      (pss_cons (ps_set (i := 14) nd rfl (Or.inl rfl) (pe_op op_rep (pe_lst (pa_cons pe_int pa_nil)) (pe_callB call_len_seq (by rfl) G.mlen PySem.boot_len (pa_cons (pv 4) pa_nil))))
      (pss_cons (ps_for PassesOwn.never rfl (pi_enum (by rfl) G.menum (pa_cons (pv 4) pa_nil)) (pg_tup (by rfl) (pgs_cons (pg_name (i := 15) nd rfl (Or.inl rfl)) (pgs_cons (pg_tup (by rfl) (pgs_cons (pg_name (i := 6) nd rfl (Or.inr rfl)) (pgs_cons (pg_name (i := 7) nd rfl (Or.inr rfl)) pgs_nil))) pgs_nil)))
        (pss_one (ps_asg (pv 6) (pg_sub (pv 14) (pe_ix ix_list (pv 13) (pv 15) (fun _ _ => rfl)) set_list))))
      (pss_one (ps_ret (pe_tup (pa_cons (pe_call GR hr1 (by rfl) mR kR bR .nil pass0 (pa_cons (pe_callTy call_tuple_of (by rfl) G.mtuple (by decide +kernel) (pa_cons (pv 11) pa_nil)) (pa_cons (pv 13) pa_nil))) (pa_cons (pe_callTy call_tuple_of (by rfl) G.mtuple (by decide +kernel) (pa_cons (pv 14) pa_nil)) pa_nil))))))))))))), ?_⟩
    obtain ⟨hs, hWa, hWP⟩ := hW
    have hsl : hs.length = wb.length := Paired.length hWP
    refine ⟨_, rfl, _, rfl, _, rfl, p, a, wb, n, room, rfl, hb, ⟨hs, hWa, hWP⟩, gd, wl, rl, n1, n2, fun D F H1 nD s1 tA tk => ?_⟩
    have neD : D ≠ p := hb.ne nD
    have hWa1 := s1.tups hb _ _ hWa
    have hWP1 : Paired (HandAt H1) hs wb := Paired.mapP hWP fun _ _ z => z.tups (s1.tups hb)
    -- the first one
    refine ⟨(by show 2 ≤ sizeLine; decide), fun t0 m0 => ⟨(by show 1 ≤ sizeLine; decide), fun L nL => ?_⟩⟩
    have q0 := same_new (o := .tup [.int 0, .int 0]) m0
    have e0 : (upd H1 t0 (.tup [.int 0, .int 0])) t0 = some (.tup [.int 0, .int 0]) := upd_same
    have tA2 := tA.same q0
    have s2 := s1.same q0
    have hWa2 := q0 _ _ hWa1
    have hWP2 : Paired (HandAt (upd H1 t0 (.tup [.int 0, .int 0]))) hs wb := Paired.mapP hWP1 fun _ _ z => z.tups (sTups q0)
    clear hWa1 hWP1
    generalize (upd H1 t0 (.tup [.int 0, .int 0])) = H2 at e0 tA2 s2 hWa2 hWP2 nL ⊢
    have nLH : H L = none := s2.free nL
    have neL : L ≠ p := hb.ne nLH
    have w0 : 0 < wb.length := gd.pos
    have hL0 : PairsAt (upd H2 L (.lst [.ref t0])) [t0] ([((0 : Nat), (0 : Nat))].map pegI) := .cons (same_new nL _ _ e0) .nil
    refine ⟨fun m σ H3 => ∃ (c : Nat) (as : List Addr) (l : List End) (o6 o7 o8 o9 o10 : Option V), m = 1001 - c ∧ σ = [some (.ref p), some (.ref a), some (natV n), some (.ref D), some (.ref L), some (natV c), o6, o7, o8, o9, o10, none, none, none, none, none] ∧ Same H2 H3 ∧ H3 L = some (.lst (as.map V.ref)) ∧ PairsAt H3 as (l.map pegI) ∧ Cov n wb F l c 0 ∧ c ≤ l.length,
      ⟨_, 0, [t0], [(0, 0)], none, none, none, none, none, rfl, rfl, same_new nL, upd_same, hL0, Cov.first w0 (by omega), Nat.zero_le _⟩, ?_⟩
    rintro m σ H3 ⟨c, as, l, o6, o7, o8, o9, o10, rfl, rfl, s3, hL, hP, cv, cl⟩
    have asl : as.length = l.length := by have := Paired.length hP; rwa [List.length_map] at this
    have ll := cv.len
    refine ⟨_, rfl, _, rfl, L, _, rfl, .inl (SqL.of hL), _, _, rfl, rfl, _, rfl, ?_⟩
    rw [List.length_map, asl]
    refine ite2 (fun hlt => ?_) (fun hlt => ?_)
    · have hlt : c < l.length := by
        have := of_decide_eq_true hlt
        omega
      obtain ⟨h, s, ehs⟩ : ∃ h s : Nat, l[c]? = some (h, s) := ⟨l[c].1, l[c].2, List.getElem?_eq_getElem hlt⟩
      have hin := cv.inb (h, s) (List.mem_of_getElem? ehs)
      obtain ⟨ta, eta, hta⟩ := paired_get' hP (pegI_get ehs)
      obtain ⟨ha, b, hd, ps, ehd, eat, eha, eb, hps⟩ := web_hand (K := K) hWa2 hWP2 hin.1
      have psl : ps.length = hd.2.length := Paired.length hps
      refine ⟨fun σ' H' => ∃ m', m' < 1001 - c ∧ _, fun σ' H' z => z, ?_⟩
      refine ⟨_, rfl, _, rfl, L, _, _, _, rfl, rfl, SqL.of hL, at_of rfl (by rw [List.getElem?_map, eta]; rfl), ?_⟩
      refine ⟨ta, _, rfl, SqT.of hta, rfl, _, _, rfl, _, _, rfl, rfl, ?_⟩
      refine ⟨_, rfl, _, rfl, a, _, _, _, rfl, rfl, SqT.of (s3 _ _ hWa2), eat, ha, _, _, _, rfl, rfl, SqT.of (s3 _ _ eha), rfl, b, _, rfl, SqT.of (s3 _ _ eb), ?_⟩
      refine for_enumT (K := K) (a := b) (xs := ps.map V.ref) (fun j σ H4 => ∃ (as : List Addr) (l : List End) (o8 o9 o10 : Option V), σ = [some (.ref p), some (.ref a), some (natV n), some (.ref D), some (.ref L), some (natV c), some (natV h), some (natV s), o8, o9, o10, none, none, none, none, none] ∧ Same H2 H4 ∧ H4 L = some (.lst (as.map V.ref)) ∧ PairsAt H4 as (l.map pegI) ∧ Cov n wb F l c j ∧ l[c]? = some (h, s))
        ⟨as, l, _, _, _, rfl, s3, hL, hP, cv, ehs⟩ (fun j σ H4 _ ⟨_, _, _, _, _, _, s4, _⟩ => SqT.of (s4 _ _ eb)) ?_ ?_
      · clear hP hL s3 ll asl cl hlt eta hta ehs cv
        rintro j y T σ H4 hyj ⟨as, l, o8, o9, o10, rfl, s4, hL, hP, cv, ehs⟩ nT
        rw [List.getElem?_map] at hyj
        obtain ⟨pa, epa, rfl⟩ := Option.map_eq_some_iff.mp hyj
        obtain ⟨x, ex, hpa⟩ := paired_get hps epa
        have epeg : pegOf wb h j = some x := by unfold pegOf; rw [ehd]; exact ex
        obtain ⟨g, q, t, rfl, et, tl, et2⟩ := tk.at epeg hin.2
        have gl : g < wb.length := by
          obtain ⟨g', q', z1, z2⟩ := gd.tie h j _ epeg
          obtain ⟨rfl, rfl⟩ := peg_nat (congrArg some z1)
          exact pegOf_lt z2
        have asl : as.length = l.length := by have := Paired.length hP; rwa [List.length_map] at this
        have ll := cv.len
        have qT := same_new (o := .tup [.int (j : Nat), .ref pa]) nT
        have s5 := s4.trans qT
        have hL5 := qT _ _ hL
        have hP5 := pairs_tups (sTups qT) hP
        refine ⟨T, _, rfl, SqT.of upd_same, rfl, _, _, rfl, _, _, rfl, ⟨pa, _, rfl, SqT.of (s5 _ _ hpa), rfl, _, _, rfl, _, _, rfl, rfl, rfl, ?_⟩⟩
        generalize (upd H4 T (.tup [.int (j : Nat), .ref pa])) = H5 at s5 hL5 hP5 ⊢
        clear qT
        refine ⟨_, rfl, _, rfl, _, rfl, _, rfl, (by show 2 ≤ sizeLine; decide), fun t1 m1 => ?_⟩
        have q1 := same_new (o := .tup [natV h, .int (j : Int)]) m1
        obtain ⟨lr, r, dg, elr, er⟩ := (tA2.same (s5.trans q1)).get et (b := t1) upd_same
        refine ⟨D, _, rfl, dg, _, rfl, lr, _, _, _, rfl, rfl, SqL.of elr, natV_at rfl er, (by show 2 ≤ sizeLine; decide), fun t2 m2 => ?_⟩
        have q2 := same_new (o := .tup [.int ((g : Int), (q : Int)).fst, natV t]) m2
        have q12 := q1.trans q2
        have s6 := s5.trans q12
        have hL6 := q12 _ _ hL5
        have hP6 := pairs_tups (sTups q12) hP5
        have e2 : (upd (upd H5 t1 (.tup [natV h, .int (j : Int)])) t2 (.tup [.int ((g : Int), (q : Int)).fst, natV t])) t2 = some (.tup [.int ((g : Int), (q : Int)).fst, natV t]) := upd_same
        refine ⟨_, rfl, t2, L, as, l.map pegI, ((g : Int), (t : Int)), rfl, rfl, e2, hL6, hP6, _, rfl, ?_⟩
        clear dg elr er q1 q12
        generalize (upd (upd H5 t1 (.tup [natV h, .int (j : Int)])) t2 (.tup [.int ((g : Int), (q : Int)).fst, natV t])) = H6 at s6 hL6 hP6 e2 ⊢
        refine ite2 (fun hin2 => ?_) (fun hin2 => ?_)
        · have hno : ¬ (g, t) ∈ l := by
            rw [if_pos rfl, Bool.not_eq_true', decide_eq_false_iff_not, mem_pegI] at hin2
            exact hin2
          refine ⟨_, rfl, .inl ⟨rfl, _, SqL.of hL6⟩, _, rfl, _, rfl, _, rfl, _, rfl, (by show 2 ≤ sizeLine; decide), fun t3 m3 => ?_⟩
          have q3 := same_new (o := .tup [natV h, .int (j : Int)]) m3
          obtain ⟨lr, r, dg, elr, er⟩ := (tA2.same (s6.trans q3)).get et (b := t3) upd_same
          refine ⟨D, _, rfl, dg, _, rfl, lr, _, _, _, rfl, rfl, SqL.of elr, natV_at rfl er, (by show 2 ≤ sizeLine; decide), fun t4 m4 => ?_⟩
          have q34 := q3.trans (same_new (o := .tup [.int ((g : Int), (q : Int)).fst, natV t]) m4)
          have s7 := s6.trans q34
          have hL7 := q34 _ _ hL6
          have hP7 := pairs_tups (sTups q34) hP6
          have e4 : (upd (upd H6 t3 (.tup [natV h, .int (j : Int)])) t4 (.tup [.int ((g : Int), (q : Int)).fst, natV t])) t4 = some (.tup [.int ((g : Int), (q : Int)).fst, natV t]) := upd_same
          clear dg elr er q3 q34
          generalize (upd (upd H6 t3 (.tup [natV h, .int (j : Int)])) t4 (.tup [.int ((g : Int), (q : Int)).fst, natV t])) = H7 at s7 hL7 hP7 e4 ⊢
          refine ⟨L, _, _, rfl, rfl, hL7, (by rw [List.length_map, asl, sizeLine_eq]; omega), ?_⟩
          have tt := tups_lst (o := .lst (as.map V.ref ++ [.ref t4])) hL7
          refine ⟨as ++ [t4], l ++ [(g, t)], _, _, _, rfl, same_upd s7 nL, (by rw [List.map_append]; exact upd_same), ?_, cv.add ehs epeg et hno gl tl, ?_⟩
          · rw [List.map_append]
            have hnew : PairAt (upd H7 L (.lst (as.map V.ref ++ [.ref t4]))) t4 (pegI (g, t)) := tt _ _ e4
            exact paired_snoc (R := PairAt (upd H7 L (.lst (as.map V.ref ++ [.ref t4])))) hnew (pairs_tups tt hP7)
          · rw [List.getElem?_append_left (List.getElem?_eq_some_iff.mp ehs).1]
            exact ehs
        · have hyes : (g, t) ∈ l := by
            rw [if_pos rfl, Bool.not_eq_true', decide_eq_false_iff_not, mem_pegI] at hin2
            exact Classical.not_not.mp hin2
          exact ⟨as, l, _, _, _, rfl, s6, hL6, hP6, cv.old ehs epeg et hyes, ehs⟩
      · rintro σ H4 ⟨as, l, o8, o9, o10, rfl, s4, hL, hP, cv, ehs⟩
        rw [List.length_map, psl] at cv
        have cl : c < l.length := (List.getElem?_eq_some_iff.mp ehs).1
        have ll := cv.len
        refine ⟨_, rfl, _, _, rfl, rfl, ?_⟩
        exact ⟨1001 - (c + 1), by omega, c + 1, as, l, _, _, _, _, _, rfl, rfl, s4, hL, hP, cv.next ehs ehd rfl, by omega⟩
    · have hc : c = l.length := by
        have : ¬ ((c : Int) < (l.length : Int)) := fun z => hlt (decide_eq_true z)
        omega
      subst hc
      -- the hands above
      refine ⟨(by show 0 ≤ sizeLine; decide), fun Lf nLf => ?_⟩
      have nLf2 : H2 Lf = none := s3.free nLf
      have neLL : L ≠ Lf := fun z => by rw [← z, hL] at nLf; cases nLf
      refine ⟨_, rfl, L, rfl, ⟨_, SqL.of (same_new nLf _ _ hL)⟩, for_list (K := K) (a := L) (xs := as.map V.ref) (fun i σ H4 => Same H3 H4 ∧ ∃ (ns : List Addr) (wn : WebD) (o6 o7 o8 o9 o10 o12 : Option V), σ = [some (.ref p), some (.ref a), some (natV n), some (.ref D), some (.ref L), some (natV l.length), o6, o7, o8, o9, o10, some (.ref Lf), o12, none, none, none] ∧ H4 Lf = some (.lst (ns.map V.ref)) ∧ Paired (HandAt H4) ns wn ∧ wn.length = i ∧
          ∀ (k h s : Nat) hd, k < i → l[k]? = some (h, s) → wb[h]? = some hd → ∃ hd', wn[k]? = some hd' ∧ CovHand F l h s hd hd')
        ⟨same_new nLf, [], [], _, _, _, _, _, _, rfl, upd_same, .nil, rfl, fun k h s hd hk => absurd hk (Nat.not_lt_zero _)⟩ (fun i σ H4 _ ⟨s4, _⟩ => SqL.of (s4 _ _ hL)) ?_ ?_⟩
      · rintro i y σ H4 hyi ⟨s4, ns, wn, o6, o7, o8, o9, o10, o12, rfl, hLf, hN, wnl, hC⟩
        rw [List.getElem?_map] at hyi
        obtain ⟨ta, eta, rfl⟩ := Option.map_eq_some_iff.mp hyi
        obtain ⟨x, ex, hta⟩ := paired_get hP eta
        obtain ⟨h, s, ehs, rfl⟩ := get_pegI ex
        have hin := cv.inb (h, s) (List.mem_of_getElem? ehs)
        have s24 := s3.trans s4
        obtain ⟨ha, b, hd, ps, ehd, eat, eha, eb, hps⟩ := web_hand (K := K) hWa2 hWP2 hin.1
        have psl : ps.length = hd.2.length := Paired.length hps
        refine ⟨ta, _, rfl, SqT.of (s4 _ _ hta), rfl, _, _, rfl, _, _, rfl, rfl, ?_⟩
        refine ⟨_, rfl, _, rfl, a, _, _, _, rfl, rfl, SqT.of (s24 _ _ hWa2), eat, ha, _, _, _, rfl, rfl, SqT.of (s24 _ _ eha), rfl, b, _, rfl, SqT.of (s24 _ _ eb), fun Dp nDp => ?_⟩
        have nDp2 : H2 Dp = none := s24.free nDp
        refine lc_enumT (K := K) (a := b) (xs := ps.map V.ref) (fun c H5 => Same H4 H5 ∧ ∃ (bs : List Addr) (qs : List PegD), H5 Dp = some (.lst (bs.map V.ref)) ∧ PairsAt H5 bs qs ∧ qs.length = c ∧ ∀ p g q : Nat, p < c → hd.2[p]? = some ((g : Int), (q : Int)) → ∃ t k' : Nat, tuAt F h p s = some t ∧ l[k']? = some (g, t) ∧ qs[p]? = some ((k' : Int), (q : Int)))
          ⟨same_new nDp, [], [], upd_same, .nil, rfl, fun p g q hp => absurd hp (Nat.not_lt_zero _)⟩ (fun c H5 _ ⟨s5, _⟩ => SqT.of (s5 _ _ (s24 _ _ eb))) ?_ ?_
        · rintro j y T H5 hyj ⟨s5, bs, qs, hDp, hQ, ql, hqs⟩ nT
          rw [List.getElem?_map] at hyj
          obtain ⟨pa, epa, rfl⟩ := Option.map_eq_some_iff.mp hyj
          obtain ⟨x, exj, hpa⟩ := paired_get hps epa
          have epeg : pegOf wb h j = some x := by unfold pegOf; rw [ehd]; exact exj
          obtain ⟨g, q, t, rfl, et, tl, et2⟩ := tk.at epeg hin.2
          obtain ⟨t', et', hm⟩ := cv.closed i h s j g q (.inl (by rw [← asl]; exact (List.getElem?_eq_some_iff.mp eta).1)) ehs epeg
          rw [et] at et'
          cases et'
          obtain ⟨k', ek'⟩ := List.getElem?_of_mem hm
          have jl : j < hd.2.length := (List.getElem?_eq_some_iff.mp exj).1
          have qT := same_new (o := .tup [.int (j : Nat), .ref pa]) nT
          have s6 := s5.trans qT
          have hDp6 := qT _ _ hDp
          have hQ6 := pairs_tups (sTups qT) hQ
          refine ⟨T, _, rfl, SqT.of upd_same, rfl, _, _, rfl, _, _, rfl, ⟨pa, _, rfl, SqT.of (s6 _ _ (s24 _ _ hpa)), rfl, _, _, rfl, _, _, rfl, rfl, rfl, rfl, ?_⟩⟩
          generalize (upd H5 T (.tup [.int (j : Nat), .ref pa])) = H6 at s6 hDp6 hQ6 ⊢
          clear qT
          dsimp only [tYes]
          rw [if_pos rfl]
          refine ⟨_, rfl, .inl ⟨rfl, _, SqL.of (s6 _ _ (s4 _ _ hL))⟩, _, rfl, _, rfl, _, rfl, _, rfl, (by show 2 ≤ sizeLine; decide), fun t1 m1 => ?_⟩
          have q1 := same_new (o := .tup [.int (h : Int), .int (j : Int)]) m1
          obtain ⟨lr, r, dg, elr, er⟩ := (tA2.same ((s24.trans s6).trans q1)).get et (b := t1) upd_same
          refine ⟨D, _, rfl, dg, _, rfl, lr, _, _, _, rfl, rfl, SqL.of elr, natV_at rfl er, (by show 2 ≤ sizeLine; decide), fun t2 m2 => ?_⟩
          have q12 := q1.trans (same_new (o := .tup [.int (g : Int), natV t]) m2)
          have s7 := s6.trans q12
          have hDp7 := q12 _ _ hDp6
          have hQ7 := pairs_tups (sTups q12) hQ6
          have e2 : (upd (upd H6 t1 (.tup [.int (h : Int), .int (j : Int)])) t2 (.tup [.int (g : Int), natV t])) t2 = some (.tup [.int (g : Int), natV t]) := upd_same
          clear dg elr er q1 q12
          refine ⟨L, t2, as, l.map pegI, ((g : Int), (t : Int)), k', rfl, rfl, e2, s7 _ _ (s4 _ _ hL), pairs_tups (sTups (s4.trans s7)) hP, pegI_get ek', first_pegI cv.nd ek', _, rfl, (by show 2 ≤ sizeLine; decide), fun t3 m3 => ?_⟩
          generalize (upd (upd H6 t1 (.tup [.int (h : Int), .int (j : Int)])) t2 (.tup [.int (g : Int), natV t])) = H7 at s7 hDp7 hQ7 e2 m3 ⊢
          have q3 := same_new (o := .tup [.int (k' : Nat), .int ((g : Int), (q : Int)).snd]) m3
          have hDp8 := q3 _ _ hDp7
          have tt := (sTups q3).trans (tups_lst (o := .lst (bs.map V.ref ++ [V.ref t3])) hDp8)
          have pl := gd.pegs h hd ehd
          have bl : bs.length = qs.length := Paired.length hQ
          refine ⟨_, hDp8, (by rw [List.length_map, bl, ql, sizeLine_eq]; omega), same_upd (s7.trans q3) nDp, bs ++ [t3], qs ++ [((k' : Int), (q : Int))], (by rw [List.map_append]; exact upd_same), ?_, (by rw [List.length_append, ql]; rfl), fun p' g' q' hp' e' => ?_⟩
          · have hnew : PairAt (upd (upd H7 t3 (.tup [.int (k' : Nat), .int ((g : Int), (q : Int)).snd])) Dp (.lst (bs.map V.ref ++ [V.ref t3]))) t3 ((k' : Int), (q : Int)) := (tups_lst (o := .lst (bs.map V.ref ++ [V.ref t3])) hDp8) _ _ upd_same
            exact paired_snoc (R := PairAt (upd (upd H7 t3 (.tup [.int (k' : Nat), .int ((g : Int), (q : Int)).snd])) Dp (.lst (bs.map V.ref ++ [V.ref t3])))) hnew (pairs_tups tt hQ7)
          · by_cases z : p' = j
            · subst z
              rw [exj] at e'
              obtain ⟨rfl, rfl⟩ := peg_nat e'
              exact ⟨t, k', et, ek', by rw [List.getElem?_append_right (by omega), ql, Nat.sub_self]; rfl⟩
            · obtain ⟨t', k2, a1, a2, a3⟩ := hqs p' g' q' (by omega) e'
              exact ⟨t', k2, a1, a2, by rw [List.getElem?_append_left (by omega)]; exact a3⟩
        · rintro H5 ⟨s5, bs, qs, hDp, hQ, ql, hqs⟩
          rw [List.length_map, psl] at ql hqs
          have s25 := s24.trans s5
          refine ⟨_, rfl, .inl ⟨rfl, _, SqL.of (s5 _ _ hLf)⟩, _, rfl, _, rfl, a, _, _, _, rfl, rfl, SqT.of (s25 _ _ hWa2), eat, ha, _, _, _, rfl, rfl, SqT.of (s25 _ _ eha), rfl, ?_⟩
          refine ⟨_, rfl, Dp, _, rfl, .inl ⟨SqL.of hDp, fun pt npt => ⟨(by show 2 ≤ sizeLine; decide), fun hn nhn => ?_⟩⟩⟩
          have q1 := same_new (o := .tup (bs.map V.ref)) npt
          have q2 := same_new (o := .tup [.int hd.1, .ref pt]) nhn
          have q12 := q1.trans q2
          have hLf6 := q12 _ _ (s5 _ _ hLf)
          have ept := q2 _ _ (upd_same (H := H5) (a := pt) (o := .tup (bs.map V.ref)))
          have ehn : (upd (upd H5 pt (.tup (bs.map V.ref))) hn (.tup [.int hd.1, .ref pt])) hn = some (.tup [.int hd.1, .ref pt]) := upd_same
          have hQ6 := pairs_tups (sTups q12) hQ
          have hN6 : Paired (HandAt (upd (upd H5 pt (.tup (bs.map V.ref))) hn (.tup [.int hd.1, .ref pt]))) ns wn := Paired.mapP hN fun _ _ z => z.tups (sTups (s5.trans q12))
          have s6 := (s4.trans s5).trans q12
          generalize (upd (upd H5 pt (.tup (bs.map V.ref))) hn (.tup [.int hd.1, .ref pt])) = H6 at hLf6 ept ehn hQ6 hN6 s6 ⊢
          have nl : ns.length = wn.length := Paired.length hN
          have il : i < as.length := (List.getElem?_eq_some_iff.mp eta).1
          refine ⟨Lf, _, _, rfl, rfl, hLf6, (by rw [List.length_map, nl, wnl, sizeLine_eq]; omega), ?_⟩
          have tt := tups_lst (o := .lst (ns.map V.ref ++ [.ref hn])) hLf6
          have hnew : HandAt (upd H6 Lf (.lst (ns.map V.ref ++ [.ref hn]))) hn (hd.1, qs) := HandAt.tups tt ⟨pt, ehn, bs, ept, hQ6⟩
          refine ⟨same_upd s6 nLf, ns ++ [hn], wn ++ [(hd.1, qs)], _, _, _, _, _, _, rfl, (by rw [List.map_append]; exact upd_same), paired_snoc (R := HandAt (upd H6 Lf (.lst (ns.map V.ref ++ [.ref hn])))) hnew (Paired.mapP hN6 fun _ _ z => z.tups tt), (by rw [List.length_append, wnl]; rfl), fun k' h' s' hd' hk e1 e2 => ?_⟩
          by_cases z : k' = i
          · subst z
            rw [ehs] at e1
            cases e1
            rw [ehd] at e2
            cases e2
            refine ⟨(hd.1, qs), by rw [List.getElem?_append_right (by omega), wnl, Nat.sub_self]; rfl, rfl, ql, fun p' g' q' e' => hqs p' g' q' (List.getElem?_eq_some_iff.mp e').1 e'⟩
          · obtain ⟨hd2, a1, a2⟩ := hC k' h' s' hd' (by omega) e1 e2
            exact ⟨hd2, by rw [List.getElem?_append_left (by omega)]; exact a1, a2⟩
      · rintro σ H4 ⟨s4, ns, wn, o6, o7, o8, o9, o10, o12, rfl, hLf, hN, wnl, hC⟩
        rw [List.length_map, asl] at wnl hC
        have cof : CovOf wb F l wn := ⟨wnl, fun k h s hd e1 e2 => by
          obtain ⟨hd', a1, a2⟩ := hC k h s hd (List.getElem?_eq_some_iff.mp e1).1 e1 e2
          exact ⟨hd', a1, a2⟩⟩
        have gdn := cof.good gd tk cv
        have hL4 := s4 _ _ hL
        have s04 := (s2.same s3).same s4
        refine ⟨_, rfl, _, rfl, L, _, rfl, .inl (SqL.of hL4), ?_⟩
        rw [List.length_map, asl]
        refine ⟨p, l.length, rfl, s04.box, by omega, fun Lr π H5 nLr s5 hLr hp => ?_⟩
        have nLf0 : H Lf = none := s2.free nLf2
        have hL5 := s5.keep _ _ neL hL4
        have hLf5 := s5.keep _ _ (hb.ne nLf0) hLf
        have hN5 : Paired (HandAt H5) ns wn := Paired.mapP hN fun _ _ z => z.tups (s5.tups s04.box)
        have s05 := s04.trans s5
        refine ⟨(by show 1 ≤ sizeLine; decide), fun a0 n0 => ⟨_, rfl, L, _, rfl, .inl (SqL.of (same_new n0 _ _ hL5)), ?_⟩⟩
        rw [List.length_map, asl]
        refine ⟨a0, _, _, rfl, rfl, upd_same, by omega, by omega, (by show 1 * (l.length : Int).toNat ≤ sizeLine; rw [sizeLine_eq]; omega), fun Ld nLd => ?_⟩
        have q0 := same_new (o := .lst [.int 0]) n0
        have s06 := s05.same q0
        have hL6 := q0 _ _ hL5
        have hLf6 := q0 _ _ hLf5
        have hLr6 := q0 _ _ hLr
        have hN6 : Paired (HandAt (upd H5 a0 (.lst [.int 0]))) ns wn := Paired.mapP hN5 fun _ _ z => z.tups (sTups q0)
        have hP6 : PairsAt (upd H5 a0 (.lst [.int 0])) as (l.map pegI) := pairs_tups (((sTups s4).trans (s5.tups s04.box)).trans (sTups q0)) hP
        generalize (upd H5 a0 (.lst [.int 0])) = H6 at s06 hL6 hLf6 hLr6 hN6 hP6 nLd ⊢
        have hld0 : (upd H6 Ld (.lst (List.replicate (l.length : Int).toNat [V.int 0]).flatten)) Ld = some (.lst ((List.replicate l.length 0).map natV)) := by rw [upd_same, Int.toNat_natCast, rep0]
        refine ⟨_, rfl, L, _, rfl, SqL.of (same_new nLd _ _ hL6), for_enum (K := K) (a := L) (xs := as.map V.ref) (fun i σ H7 => Same H6 H7 ∧ ∃ (ld : List Nat) (o6 o7 o15 : Option V), σ = [some (.ref p), some (.ref a), some (natV n), some (.ref D), some (.ref L), some (natV l.length), o6, o7, o8, o9, o10, some (.ref Lf), o12, some (.ref Lr), some (.ref Ld), o15] ∧ H7 Ld = some (.lst (ld.map natV)) ∧ ld.length = l.length ∧ ∀ k j h s : Nat, k < i → π[k]? = some j → l[k]? = some (h, s) → ld[j]? = some h)
          ⟨same_new nLd, _, _, _, _, rfl, hld0, List.length_replicate, fun k j h s hk => absurd hk (Nat.not_lt_zero _)⟩ (fun i σ H7 _ ⟨s7, _⟩ => SqL.of (s7 _ _ hL6)) ?_ ?_⟩
        · rintro i y T σ H7 hyi ⟨s7, ld, o6, o7, o15, rfl, hLd, ldl, hld⟩ nT
          rw [List.getElem?_map] at hyi
          obtain ⟨ta, eta, rfl⟩ := Option.map_eq_some_iff.mp hyi
          obtain ⟨x, ex, hta⟩ := paired_get hP6 eta
          obtain ⟨h, s, ehs, rfl⟩ := get_pegI ex
          have il : i < l.length := (List.getElem?_eq_some_iff.mp ehs).1
          obtain ⟨j, ej⟩ := perm_get hp il
          have jl := perm_lt hp ej
          have qT := same_new (o := .tup [.int (i : Nat), .ref ta]) nT
          have s8 := s7.trans qT
          refine ⟨T, _, rfl, SqT.of upd_same, rfl, _, _, rfl, _, _, rfl, ⟨ta, _, rfl, SqT.of (s8 _ _ hta), rfl, _, _, rfl, _, _, rfl, rfl, rfl, ?_⟩⟩
          refine ⟨_, rfl, _, rfl, _, rfl, _, rfl, Lr, _, _, _, rfl, rfl, SqL.of (s8 _ _ hLr6), natV_at rfl ej, Ld, _, _, j, rfl, rfl, qT _ _ hLd, ixN_nat rfl (by rw [List.length_map]; omega), ?_⟩
          refine ⟨same_upd s8 nLd, ld.set j h, _, _, _, rfl, (by rw [List.map_set]; exact upd_same), (by rw [List.length_set]; exact ldl), fun k' j' h' s' hk e1 e2 => ?_⟩
          by_cases z : k' = i
          · subst z
            rw [ej] at e1
            cases e1
            rw [ehs] at e2
            cases e2
            exact List.getElem?_set_self (by omega)
          · rw [List.getElem?_set_ne (fun y => z (perm_inj hp e1 (by rw [← y]; exact ej)))]
            exact hld k' j' h' s' (by omega) e1 e2
        · rintro σ H7 ⟨s7, ld, o6, o7, o15, rfl, hLd, ldl, hld⟩
          rw [List.length_map, asl] at hld
          have hN7 : Paired (HandAt H7) ns wn := Paired.mapP hN6 fun _ _ z => z.tups (sTups s7)
          refine ⟨_, rfl, Lf, _, rfl, .inl ⟨SqL.of (s7 _ _ hLf6), fun wt nwt => ?_⟩⟩
          have qw := same_new (o := .tup (ns.map V.ref)) nwt
          have s08 := (s06.same s7).same qw
          have hpw : π.Perm (List.range wn.length) := by rw [wnl]; exact hp
          refine ⟨_, rfl, wt, Lr, wn, π, rfl, ⟨ns, upd_same, Paired.mapP hN7 fun _ _ z => z.tups (sTups qw)⟩, qw _ _ (s7 _ _ hLr6), hpw, by omega, ?_, ?_, fun rw' w' H8 nrw s8 hW8 ren => ?_⟩
          · intro h' p' x e
            obtain ⟨g, q, rfl, back⟩ := gdn.tie h' p' x e
            exact ⟨g, q, rfl, pegOf_lt back⟩
          · intro h' hd' e
            have := gdn.pegs h' hd' e
            omega
          · have hLd8 := s8 _ _ (qw _ _ hLd)
            refine ⟨_, rfl, Ld, _, rfl, .inl ⟨SqL.of hLd8, fun lt nlt => ⟨(by show 2 ≤ sizeLine; decide), fun r nr => ?_⟩⟩⟩
            have ql := same_new (o := .tup (ld.map natV)) nlt
            have qr := same_new (o := .tup [.ref rw', .ref lt]) nr
            have s9 := ((s08.same s8).same ql).same qr
            exact k r rw' lt F l wn w' π ld _ (((s08.same s8).same ql).free nr) (s08.free nrw) s9 upd_same (hW8.tups (sTups (ql.trans qr))) (qr _ _ upd_same) tk cv cof hp ren ldl (fun k' j' h' s' e1 e2 => hld k' j' h' s' (List.getElem?_eq_some_iff.mp e2).1 e1 e2)
end
end NH
set_option Elab.async false
set_option linter.all false
set_option maxRecDepth 100000
set_option maxHeartbeats 4000000
namespace NH
open PySem L2
abbrev sWeb : Stmt := top 33
abbrev nWeb : List Str := ["_law_box_here", "_law_most", "_law_room", "_law_sheets", "_law_lesser"]
section
variable {P : Program} {w : World} {K : PySem.W.Frag} {mg : Str → Option Value} {base : Heap}
theorem scWeb : FnScope nWeb ["_law_box_here", "_law_most", "_law_room"] (defScope sWeb) := ⟨rfl, rfl, rfl, by decide +kernel, rfl, by decide +kernel, by decide +kernel⟩
structure Dr4 (P : Program) (w : World) (K : PySem.W.Frag) (mg : Str → Option Value) (base : Heap) : Prop extends Dr P w K mg base where
  plain : ∃ (f : Addr) (fd : FuncData), FnOk P w K mg base CX0 3 f fd ["_law_box_here", "_law_most", "_law_room"] spPlain ∧ Binds K fd ["_law_box_here", "_law_most", "_law_room"] [] ∧ mg "_law_plain_web" = some (.ref f) ∧ PySem.W.keepIn K (.ref f) = true
  cover : ∃ (f : Addr) (fd : FuncData), FnOk P w K mg base CX0 4 f fd ["_law_box_here", "_law_web_here", "_law_sheets"] spCover ∧ Binds K fd ["_law_box_here", "_law_web_here", "_law_sheets"] [] ∧ mg "_law_cover" = some (.ref f) ∧ PySem.W.keepIn K (.ref f) = true
theorem ok_web {f : Addr} {fd : FuncData} (F : Fun K "_law_web" "_law_web" sWeb f fd) (G : Dr4 P w K mg base) : FnOk P w K mg base CX0 5 f fd ["_law_box_here", "_law_most", "_law_room"] spPlain := by
  obtain ⟨fT, fdT, GT, bT, mT, kT⟩ := G.take
  obtain ⟨fP, fdP, GP, bP, mP, kP⟩ := G.plain
  obtain ⟨fC, fdC, GC, bC, mC, kC⟩ := G.cover
  refine F.ok scWeb (fun vs H Q E h => ?_) (fun cdv A outer s H vs Q E hr h => ?_)
  · obtain ⟨p, most, room, rfl, _⟩ := h
    rfl
  · obtain ⟨p, most, room, rfl, hb, o0, o1, r0, r1, k⟩ := h
    have nd := scWeb.nd
    have hr1 := hr.mono (show 1 ≤ 4 by decide)
    have hr3 := hr.mono (show 3 ≤ 4 by decide)
    refine ⟨_, pss_cons (ps_if (PW.pt (pw_or (pt_cmpR op_eq (pe_call GT hr1 (by rfl) mT kT bT .nil pass0 (pa_cons (pv 0) (pa_cons pe_int pa_nil))) pe_int (nomark _)) (pw_or1 (pt_cmpR op_lt (pv 1) pe_int (nomark _)))))
        (pss_one (ps_ret (pe_call GP hr3 (by rfl) mP kP bP .nil pass0 (pa_cons (pv 0) (pa_cons (pv 1) (pa_cons (pv 2) pa_nil)))))) pss_nil)
      (pss_cons (ps_set (i := 3) nd rfl (Or.inl rfl) (pe_op op_add pe_int (pe_call GT hr1 (by rfl) mT kT bT .nil pass0 (pa_cons (pv 0) (pa_cons (pe_callB (call_min2 (by rfl)) (by rfl) G.mmin (by decide +kernel) (pa_cons pe_int (pa_cons (pe_op op_sub (pv 1) pe_int) pa_nil))) pa_nil)))))
      (pss_cons (ps_set (i := 4) nd rfl (Or.inl rfl) (pe_call GP hr3 (by rfl) mP kP bP .nil pass0 (pa_cons (pv 0) (pa_cons (pe_callB (call_max2 (by rfl)) (by rfl) G.mmax (by decide +kernel) (pa_cons pe_int (pa_cons (pe_op op_fdiv (pv 1) (pv 3)) pa_nil))) (pa_cons (pv 2) pa_nil)))))
      (pss_one (ps_ret (pe_ix ix_tup (pe_call GC hr (by rfl) mC kC bC .nil pass0 (pa_cons (pv 0) (pa_cons (pv 4) (pa_cons (pv 3) pa_nil)))) pe_int (fun _ _ => rfl)))))), ?_⟩
    obtain ⟨xa, xb, hx, hx0, hx1⟩ := hb.ex
    have plain : ∀ H1, Step p H H1 → spPlain [.ref p, natV most, natV room] H1 Q E0 := fun H1 s1 =>
      ⟨p, most, room, rfl, s1.box, o0, o1, r0, r1, fun r wb H' nr s2 hW gd wl => k r wb H' (s1.free nr) (s1.trans s2) hW gd wl⟩
    refine ⟨_, rfl, p, xa, xb, _, rfl, hx, hx0, hx1, by decide, by decide, fun u a1 b1 u0 u1 c1 c2 => ?_⟩
    have s1 := (Step.refl hb).take (x := a1) c1 c2
    generalize (upd H p (.lst [.int a1, .int b1])) = H1 at s1 ⊢
    refine ⟨rfl, _, rfl, ?_⟩
    refine ite2 (fun _ => iteT ?_) (fun _ => ⟨_, rfl, _, _, rfl, rfl, _, rfl, ?_⟩)
    · exact ⟨_, rfl, _, rfl, _, rfl, plain H1 s1⟩
    · refine ite2 (fun _ => ⟨_, rfl, _, rfl, _, rfl, plain H1 s1⟩) (fun hm => ?_)
      have hm : ¬ (most : Int) < 2 := fun z => hm (decide_eq_true z)
      obtain ⟨xa, xb, hx, hx0, hx1⟩ := s1.box.ex
      have hmn : 0 < (if (most : Int) - 1 < 3 then (most : Int) - 1 else 3) ∧ (if (most : Int) - 1 < 3 then (most : Int) - 1 else 3) ≤ 3 ∧ (if (most : Int) - 1 < 3 then (most : Int) - 1 else 3) ≤ (most : Int) - 1 := by
        split <;> omega
      refine ⟨_, rfl, _, rfl, _, _, rfl, rfl, _, _, rfl, p, xa, xb, _, rfl, hx, hx0, hx1, hmn.1, by have := hmn.2.1; omega, fun u2 a2 b2 v0 v1 c3 c4 => ⟨_, _, rfl, rfl, ?_⟩⟩
      obtain ⟨u2, rfl⟩ := Int.eq_ofNat_of_zero_le v0
      generalize hq : (if (most : Int) - 1 < 3 then (most : Int) - 1 else 3) = mn at hmn v1
      have s2 := s1.take (x := a2) c3 c4
      generalize (upd H1 p (.lst [.int a2, .int b2])) = H2 at s2 ⊢
      have dl : (most : Int) / (2 + (u2 : Int)) = ((most / (2 + u2) : Nat) : Int) := by rw [Int.natCast_ediv, Int.natCast_add]; rfl
      have dpos : 1 ≤ most / (2 + u2) := (Nat.one_le_div_iff (by omega)).mpr (by omega)
      have dmul : most / (2 + u2) * (2 + u2) ≤ most := Nat.div_mul_le_self _ _
      have dle : most / (2 + u2) ≤ most := Nat.div_le_self _ _
      refine ⟨_, rfl, _, rfl, _, rfl, _, _, rfl, rfl, ⟨by omega, by omega⟩, _, _, rfl, _, rfl, p, most / (2 + u2), room, ?_, s2.box, dpos, by omega, r0, r1, fun r wb H3 nr s3 hW gd wl => ?_⟩
      · rw [dl]
        have : (if ((most / (2 + u2) : Nat) : Int) > 1 then ((most / (2 + u2) : Nat) : Int) else 1) = ((most / (2 + u2) : Nat) : Int) := by split <;> omega
        rw [this]
        rfl
      have s23 := s2.trans s3
      have bnd : wb.length * (2 + u2) ≤ most := Nat.le_trans (Nat.mul_le_mul_right _ wl) dmul
      refine ⟨_, rfl, _, rfl, _, rfl, p, r, wb, 2 + u2, room, rfl, s23.box, hW, gd, by omega, by omega, by omega, by omega, by omega, fun rr rw' rl F l w0 w' π ld H4 nrr nrw s4 hrr hW4 hrl tk cv cof hp ren ldl hld => ?_⟩
      have g0 := cof.good gd tk cv
      have hp' : π.Perm (List.range w0.length) := by rw [cof.len]; exact hp
      have ll := cv.len
      have rl' := ren.len
      have cl' := cof.len
      exact ⟨rr, _, _, _, rfl, rfl, SqT.of hrr, rfl, k rw' w' H4 (s23.free nrw) (s23.trans s4) hW4 (ren.good hp' g0) (by omega)⟩
end
end NH
set_option Elab.async false
set_option linter.all false
set_option maxRecDepth 100000
set_option maxHeartbeats 2000000
namespace L2
open PySem PySem.Spec PyProof.Rows
def Xr (a C : Addr) (dx : Option Addr) : HO := .ext fun h => ∃ (t : Addr) (sl : Array (Option Value)), h.get? a = some ⟨.ref C, dx, .fields #[.ref t, .none, .none, .none, .bool false, .none], sl⟩
theorem Xr_ok {P : Program} {w : World} {H : Hp} {h : Heap} {a C : Addr} {dx : Option Addr} (e : ∃ (t : Addr) (sl : Array (Option Value)), h.get? a = some ⟨.ref C, dx, .fields #[.ref t, .none, .none, .none, .bool false, .none], sl⟩) : ObjOk P w H h a (Xr a C dx) := by
  refine ⟨e, ?_, fun h1 h2 ⟨fl, sl, q⟩ k => ⟨fl, sl, k _ q⟩⟩
  obtain ⟨fl, sl, e⟩ := e
  exact ⟨_, e⟩
theorem Xr_at {P : Program} {w : World} {H : Hp} {h : Heap} {a C : Addr} {dx : Option Addr} (hok : HOk P w H h) (e : H a = some (Xr a C dx)) : ∃ (t : Addr) (sl : Array (Option Value)), h.get? a = some ⟨.ref C, dx, .fields #[.ref t, .none, .none, .none, .bool false, .none], sl⟩ := (hok a _ e).1
section
variable {X : Cx} {pins : List (Addr × Obj)} {σ : St} {H : Hp} {s : Shared} {a C dx : Addr} {fs : List (Str × V)} {f : Str} {v : V} {A : Around} {E : Value → Shared → Prop}
theorem rset0_ok {y : V} {u : Value} {Q : Unit → Shared → Prop} (I : Inv X pins σ H s) (e : H a = some (Xr a C none)) (c : XCls X.K C) (n : NoAttr X.K C f) (ry : RelV y u)
    (h : ∀ dx s', H dx = none → Inv X pins σ (upd (upd H dx (.xd [(f, y)])) a (Xr a C (some dx))) s' → Q () s') : wpAny (model X.prog X.w) A (setAttr (.ref a) f u) Q E s := by
  obtain ⟨fl, sl, hx⟩ := Xr_at I.hok e
  refine x_set0 I.kIn hx c n fun h' dx hdx hx' hn k => h dx _ (I.hok.fresh hdx) ?_
  have nd : H dx = none := I.hok.fresh hdx
  have hda : dx ≠ a := fun z => by rw [z, e] at nd; cases nd
  have na : ∀ b, H b = none → b ≠ a := fun b q z => by rw [z, e] at q; cases q
  have nb : ∀ b o, s.heap.get? b = some o → b ≠ dx := fun b o q => Nat.ne_of_lt (Nat.lt_of_lt_of_le (Heap.lt_size q) hdx)
  have other : ∀ b o, H b = some o → o ≠ Xr a C none → (upd (upd H dx (.xd [(f, y)])) a (Xr a C (some dx))) b = some o := fun b o q z => by
    rw [upd_ne (ne_of q e z), upd_ne (ne_of_none q nd)]; exact q
  refine I.un ⟨fun b o q z _ _ => k b o (na b z) q, fun b o q z _ _ => ⟨o.slots, k b o (na b z) q⟩, fun b o q z _ => ?_, fun b o q _ => ?_, fun b xs q => other b _ q (fun z => nomatch z), fun b o xs q => other b _ q (fun z => nomatch z),
    fun b ps q => ⟨#[], by rw [other b _ q (fun z => nomatch z)]; simp⟩⟩ fun b o q => ?_
  · rw [upd_ne (na b z), upd_ne (nb b o q)]; exact z
  · by_cases hb : b = a
    · rw [hb]; exact ⟨_, hx'⟩
    · exact ⟨o, k b o hb q⟩
  · by_cases hb : b = a
    · subst hb
      rw [upd_same] at q
      cases q
      exact Xr_ok ⟨_, _, hx'⟩
    · rw [upd_ne hb] at q
      by_cases hb2 : b = dx
      · subst hb2
        rw [upd_same] at q
        cases q
        refine ⟨_, hn, fun g => ?_, fun g hg => ?_, by show 1 ≤ 1000; decide⟩
        · by_cases z : g = f
          · subst z
            rw [if_pos rfl]
            show RelO (List.lookup g [(g, y)]) _
            rw [List.lookup_cons_self]
            exact ry
          · rw [if_neg z]
            show RelO (List.lookup g [(f, y)]) none
            rw [show List.lookup g [(f, y)] = none from by simp [List.lookup, beq_eq_false_iff_ne.mpr z]]
            exact True.intro
        · by_cases z : g = f
          · rw [z]; exact List.mem_cons_self
          · exact absurd (if_neg z) hg
      · rw [upd_ne hb2] at q
        refine (I.hok b o q).stay (fun c' u' hc z => k c' u' ?_ z) (fun c' z => other c' _ z (fun z => nomatch z)) fun c' xs z => other c' _ z (fun z => nomatch z)
        rcases hc with hc | hc
        · rw [hc]; exact hb
        · exact ne_of hc e (fun z => nomatch z)
theorem rset1_ok {y : V} {u : Value} {Q : Unit → Shared → Prop} (I : Inv X pins σ H s) (e : H a = some (Xr a C (some dx))) (ed : H dx = some (.xd fs)) (c : XCls X.K C) (n : NoAttr X.K C f) (hl : fs.length < 1000) (ry : RelV y u)
    (h : ∀ s', Inv X pins σ (upd H dx (.xd (putF f y fs))) s' → Q () s') : wpAny (model X.prog X.w) A (setAttr (.ref a) f u) Q E s := by
  obtain ⟨fl, sl, hx⟩ := Xr_at I.hok e
  obtain ⟨mA, ns, r, wi, _⟩ := (show ObjOk X.prog X.w H s.heap dx (.xd fs) from I.hok dx _ ed)
  have hda : dx ≠ a := ne_of ed e (fun z => nomatch z)
  have hz : (fs.map (·.1)).length ≤ sizeLine := by rw [List.length_map, sizeLine_eq]; omega
  refine x_set1 I.kIn hx ns hda c n wi hz fun h' hn sb => h _ ?_
  have hd : ∃ o, h'.get? dx = some o := let ⟨o, _, _, e', _⟩ := hn; ⟨o, e'⟩
  refine I.write (x := dx) (e := dx) (by rw [ed]; exact True.intro) (.inl rfl) (fun b q hb z => (sb.2 b hb).trans z) hd ?_
  refine ⟨_, hn, fun g => ?_, fun g hg => ?_, ?_⟩
  · rw [lookup_putF]
    by_cases q : g = f
    · rw [if_pos q, if_pos q]; exact ry
    · rw [if_neg q, if_neg q]; exact r g
  · by_cases q : g = f
    · rw [q]; exact (keys_putF f y fs).1
    · refine (keys_putF f y fs).2 g (wi g fun z => hg ?_)
      show (if g = f then some u else mA g) = none
      rw [if_neg q]; exact z
  · have := length_putF f y fs; omega
end
def sFldR0 (K : PySem.W.Frag) (ta tv : TE) (f : Str) : TS := fun D σ H => tv σ H fun y H1 => ta σ H1 fun x H2 => ∃ a C, x = .ref a ∧ H2 a = some (Xr a C none) ∧ XCls K C ∧ NoAttr K C f ∧
  ∀ dx, H2 dx = none → D.nx σ (upd (upd H2 dx (.xd [(f, y)])) a (Xr a C (some dx)))
def sFldR1 (K : PySem.W.Frag) (ta tv : TE) (f : Str) : TS := fun D σ H => tv σ H fun y H1 => ta σ H1 fun x H2 => ∃ a C dx fs, x = .ref a ∧ H2 a = some (Xr a C (some dx)) ∧ H2 dx = some (.xd fs) ∧ XCls K C ∧ NoAttr K C f ∧ fs.length < 1000 ∧
  D.nx σ (upd H2 dx (.xd (putF f y fs)))
section
variable {X : Cx} {o e value : Expr} {f : Str} {pos pos' tpos : Pos} {ta tv : TE}
theorem ps_fldR0 (ha : PE X o ta) (hv : PE X value tv) (hs : swapsWith value (some (.Attribute o f pos')) pos.line X.env = pure false) : PS X (.Assign [.Attribute o f pos'] value pos) (sFldR0 X.K ta tv f) := by
  intro pins s σ H D I h
  refine plainObj_wpAny_Assign_Attribute (thn (hv pins s σ H _ I h) fun u s1 ⟨y, H1, I1, ry, q⟩ => thn (ha pins s1 σ H1 _ I1 q) fun ov s2 ⟨x, H2, I2, rx, a, C, ex, ea, c, n, q2⟩ => ?_) hs
  subst ex
  obtain rfl : ov = Value.ref a := rx
  exact rset0_ok I2 ea c n ry fun dx s3 nd I3 => ⟨σ, _, I3, q2 dx nd⟩
theorem ps_fldR1 (ha : PE X o ta) (hv : PE X value tv) (hs : swapsWith value (some (.Attribute o f pos')) pos.line X.env = pure false) : PS X (.Assign [.Attribute o f pos'] value pos) (sFldR1 X.K ta tv f) := by
  intro pins s σ H D I h
  refine plainObj_wpAny_Assign_Attribute (thn (hv pins s σ H _ I h) fun u s1 ⟨y, H1, I1, ry, q⟩ => thn (ha pins s1 σ H1 _ I1 q) fun ov s2 ⟨x, H2, I2, rx, a, C, dx, fs, ex, ea, ed, c, n, l, q2⟩ => ?_) hs
  subst ex
  obtain rfl : ov = Value.ref a := rx
  exact rset1_ok I2 ea ed c n l ry fun s3 I3 => ⟨σ, _, I3, q2⟩
end
def tMakeR (C : Addr) (sp : Sp) (E : XK) (t : TA) : TE := fun σ H Q => t σ H fun vs H1 => ∀ x, H1 x = none → sp (.ref x :: vs) (upd H1 x (Xr x C none)) (fun v H2 => v = .non ∧ Q (.ref x) H2) E
section
variable {X : Cx} {CX : CXT} {k : Nat} {f C : Addr} {fd : FuncData} {ps : List Str} {sp : Sp} {E : XK} {x m : Str} {p pos apos : Pos} {e o : Expr} {es : List Expr} {ta : TE} {t : TA}
theorem run_makeR {pins : List (Addr × Obj)} {σ : St} {H : Hp} {s : Shared} {Q : VK} {us : List Value} {vs : List V} (M : ownX X.K C (some (.ref f)) = true) (hf : PySem.W.isFn X.K (.ref f) = true)
    (F : FnOk X.prog X.w X.K X.mg X.base CX k f fd ps sp) (hr : Room (k + 1) X.A) (hb : Binds X.K fd ps [])
    (hx : Passes CX X E) (I : Inv X pins σ H s) (r : Vals vs us) (hps : ps.length ≤ 1000)
    (h : ∀ x, H x = none → sp (.ref x :: vs) (upd H x (Xr x C none)) (fun v H2 => v = .non ∧ Q (.ref x) H2) E) :
    wpAny (model X.prog X.w) X.A (call (.ref C) us) (EP X pins σ Q) X.xe s := by
  have hq := h (s.heap.objs.size + 1) (I.hok.fresh (Nat.le_succ _))
  have e2 : ((s.heap.push (tupObj us)).push (excObj C s.heap.objs.size)).get? (s.heap.objs.size + 1) = some (excObj C s.heap.objs.size) := by
    have := Heap.get?_push_size (s.heap.push (tupObj us)) (o := excObj C s.heap.objs.size) rfl
    rwa [Heap.size_push] at this
  have I1 : Inv X pins σ H { s with heap := s.heap.push (tupObj us) } := I.kept (t' := s.toks) fun b u q => Heap.get?_push_of_some _ q
  have I2 : Inv X pins σ (upd H (s.heap.objs.size + 1) (Xr (s.heap.objs.size + 1) C none)) { s with heap := (s.heap.push (tupObj us)).push (excObj C s.heap.objs.size) } :=
    I1.laid (t' := s.toks) (fun b u q => Heap.get?_push_of_some _ q) (Nat.le_of_eq (Heap.size_push _ _)) (Xr_ok ⟨_, _, e2⟩)
  have r2 : Vals (V.ref (s.heap.objs.size + 1) :: vs) (Value.ref (s.heap.objs.size + 1) :: us) := .cons rfl r
  have hl0 : (Value.ref (s.heap.objs.size + 1) :: us).length = ps.length := by
    have e := r2.length
    rw [F.len _ _ _ _ hq] at e
    exact e.symm
  have hl : (Value.ref (s.heap.objs.size + 1) :: us ++ []).length = ps.length := by rw [List.append_nil]; exact hl0
  have hus : us.length ≤ sizeLine := by
    rw [List.length_cons] at hl0
    rw [sizeLine_eq]
    omega
  refine x_make_i I.kIn M hf hus (wpAny_call (codeAny_mono (F.run _ X.stack _ _ ⟨Value.ref (s.heap.objs.size + 1) :: us, []⟩ (Value.ref (s.heap.objs.size + 1) :: us) _ _ E (hr.make C us [])
    (I2.env0.make C us []) (by have := hb { s with heap := (s.heap.push (tupObj us)).push (excObj C s.heap.objs.size) } (Value.ref (s.heap.objs.size + 1) :: us) I2.kIn hl; rw [List.append_nil] at this; exact this) r2 hq) fun r s' hq' => ?_))
  cases r with
  | error e => exact hx pins σ _ _ e s' I2 hq'
  | ok fl =>
    cases fl with
    | ret u =>
      obtain ⟨v, H', I3, rv, ev, q3⟩ := I2.after hq'
      subst ev
      exact ⟨rv, ⟨V.ref (s.heap.objs.size + 1), H', I3, rfl, q3⟩⟩
    | next => exact False.elim hq'
    | brk => exact False.elim hq'
    | cont => exact False.elim hq'
theorem pe_makeR (M : ownX X.K C (some (.ref f)) = true) (hf : PySem.W.isFn X.K (.ref f) = true) (kp : PySem.W.keepIn X.K (.ref C) = true) (F : FnOk X.prog X.w X.K X.mg X.base CX k f fd ps sp) (hr : Room (k + 1) X.A) (hg : Gl X x) (hm : X.mg x = some (.ref C))
    (hb : Binds X.K fd ps []) (hx : Passes CX X E) (ha : PA X (e :: es) t) (hps : ps.length ≤ 1000 := by decide) (hdb : (x == ("__debug__" : Str)) = false := by decide)
    (he : starEach (e :: es) X.env = (false, eval e X.env) :: starEach es X.env := by rfl) (hpl : (backTo pos (starEach es X.env)).any (·.1) = false := by rfl) :
    PE X (.Call (.Name x p) (e :: es) [] pos) (tMakeR C sp E t) := by
  intro pins s σ H Q I h
  refine wpAny_Call_Name_kw (ld_glob I hg hm ?_ hdb)
  refine PySem.W.callWith_K (h₀ := X.base) I.ok.mod.kin kp (thn (ha pos pins s σ H _ I h) fun us s1 ⟨vs, H1, I1, r, q⟩ => ⟨I1.kIn, ?_⟩) he hpl
  exact run_makeR M hf F hr hb hx I1 r hps q
end
end L2
set_option Elab.async false
set_option linter.all false
set_option maxRecDepth 100000
set_option maxHeartbeats 2000000
namespace L2
open PySem PySem.Spec PyProof.Rows
def FlyAt (h : Heap) (a C dx : Addr) (T : Option (Addr × Value)) : Prop :=
  ∃ (fl : Array Value) (sl : Array (Option Value)), h.get? a = some ⟨.ref C, some dx, .fields fl, sl⟩ ∧ 1 < fl.size ∧
    match T with
    | none => fl[1]? = some .none
    | some (t, v) => fl[1]? = some (.ref t) ∧ t ≠ a ∧ ∃ oT ts, h.get? t = some oT ∧ oT.data = .fields ts ∧ ts[3]? = some v
structure Chg (fs : List Addr) (a : Addr) (ts : List Addr) (h h' : Heap) : Prop where
  keep : ∀ b o, h.get? b = some o → b ≠ a → b ∉ ts → b ∉ fs → h'.get? b = some o
  slot : ∀ b o, h.get? b = some o → b ≠ a → b ∉ ts → ∃ sl, h'.get? b = some { o with slots := sl }
theorem Chg.refl {fs ts : List Addr} {a : Addr} {h : Heap} : Chg fs a ts h h := ⟨fun _ _ e _ _ _ => e, fun _ o e _ _ => ⟨o.slots, e⟩⟩
section
variable {M : Model} {A : Around} {E : Value → Shared → Prop} {s : Shared} {base : Heap} {env : Env} {outer : List Env} {L a C dx : Addr}
theorem fly_no_frame {h : Heap} {l : List Env} (hl : h.FunFrames base l) {fl : Array Value} {sl : Array (Option Value)} {cls : Value} {d : Option Addr} (he : h.get? a = some ⟨cls, d, .fields fl, sl⟩) : a ∉ frs l := fun hm => by
  obtain ⟨_, o, ho, no⟩ := hl.mem hm
  cases he.symm.trans ho
  exact no fl rfl
theorem put_second {h : Heap} {c : Value} {d : Option Addr} {fl : Array Value} {sl : Array (Option Value)} {o : Obj} (he : h.get? a = some ⟨c, d, .fields fl, sl⟩) (nf : o.isFreed = false) :
    let h' := (h.push o).update a (Obj.mapFields (·.setIfInBounds 1 (.ref h.objs.size)))
    h'.get? a = some ⟨c, d, .fields (fl.setIfInBounds 1 (.ref h.objs.size)), sl⟩ ∧ h'.get? h.objs.size = some o ∧ ∀ b u, b ≠ a → h.get? b = some u → h'.get? b = some u := by
  have lt := Heap.lt_size he
  exact ⟨Heap.get?_update_self _ (Heap.get?_push_of_some _ he) rfl, (Heap.get?_update_ne _ _ _ _ (Nat.ne_of_gt lt)).trans (Heap.get?_push_size _ nf), fun b u n e => (Heap.get?_update_ne _ _ _ _ n).trans (Heap.get?_push_of_some _ e)⟩
theorem entry_ok {head : Value} {hadNext : Bool} {fl : Array Value} {sl : Array (Option Value)} {Q : Unit → Shared → Prop}
    (hfr : A.frames = some (env :: outer)) (hl : s.heap.FunFrames base (env :: outer)) (hf : env.frame = some L) (he : s.heap.get? a = some ⟨.ref C, some dx, .fields fl, sl⟩) (hsz : 1 < fl.size)
    (h : ∀ h' T, s.heap.objs.size ≤ T → FlyAt h' a C dx (some (T, rawInt L)) → Chg (frs (env :: outer)) a [] s.heap h' → Q () { s with heap := h' }) :
    wpAny M A (do let fr ← frameOf env; let pl ← entryPlaceOf L hadNext; let b ← EntryCells.newEntry head fr .none (rawInt L) .none pl; setField (.ref a) 1 b) Q E s := by
  refine wpAny_bind (wpAny_frameOf_fun hfr hl hf fun g same => wpAny_bind (wpAny_entryPlaceOf fun pl hpl => ?_))
  have eg : g.get? a = some ⟨.ref C, some dx, .fields fl, sl⟩ := (same.2.1 a (fly_no_frame hl he)).trans he
  refine wpAny_bind (wpAny_newObj_type ?_ (hpl.sizeOk5 _ _ _ _ _))
  obtain ⟨p1, p2, p3⟩ := put_second (o := { cls := .type "traceback", data := .fields ([head, .ref L, .none, rawInt L, .none] ++ if pl.isEmpty then List.replicate 6 Value.none else pl).toArray }) eg rfl
  refine wpAny_setField (Heap.get?_push_of_some _ eg) rfl hsz (h _ g.objs.size (Nat.le_of_eq same.1.symm) ⟨_, sl, p1, by simpa using hsz, by simp [hsz], Nat.ne_of_gt (Heap.lt_size eg), _, _, p2, rfl, by simp⟩ ⟨fun b o e n1 _ n3 => p3 b o n1 ((same.2.1 b n3).trans e), fun b o e n1 _ => ?_⟩)
  obtain ⟨sl', e1⟩ := same.2.2 b o e
  exact ⟨sl', p3 b _ n1 e1⟩
theorem note_ok {T : Option (Addr × Value)} {Q : Unit → Shared → Prop} (hfr : A.frames = some (env :: outer)) (hl : s.heap.FunFrames base (env :: outer)) (hf : env.frame = some L) (fly : FlyAt s.heap a C dx T)
    (hv : ∀ t v, T = some (t, v) → v = .none ∨ v = rawInt L)
    (h : ∀ h' t', ((∃ v, T = some (t', v)) ∨ s.heap.objs.size ≤ t') → FlyAt h' a C dx (some (t', rawInt L)) → Chg (frs (env :: outer)) a (T.toList.map (·.1)) s.heap h' → Q () { s with heap := h' }) : wpAny M A (noteFrame (.ref a) env) Q E s := by
  obtain ⟨fl, sl, he, hsz, hT⟩ := fly
  unfold noteFrame
  simp only [hf]
  cases T with
  | none =>
    refine wpAny_bind (wpAny_field he rfl hT ?_)
    rw [if_neg (by decide)]
    exact entry_ok hfr hl hf he hsz fun h' T' hT' f c => h h' T' (.inr hT') f c
  | some tv =>
    obtain ⟨t, v⟩ := tv
    obtain ⟨h1, hta, oT, ts, ht, hdt, h3⟩ := hT
    refine wpAny_bind (wpAny_field he rfl h1 ?_)
    rw [if_pos (show (Value.ref t != Value.none) = true from by simp)]
    refine wpAny_bind (wpAny_field ht hdt h3 ?_)
    rcases hv t v rfl with rfl | rfl
    · rw [if_neg (show ¬ ((Value.none == rawInt L) = true) from by simp [rawInt])]
      obtain ⟨hsz3, _⟩ := Array.getElem?_eq_some_iff.mp h3
      refine wpAny_bind (wpAny_setField ht hdt hsz3 ?_)
      have other : ∀ b, b ≠ t → (s.heap.update t (Obj.mapFields (·.setIfInBounds 3 Value.none))).get? b = s.heap.get? b := fun b hb => Heap.get?_update_other _ _ (Ne.symm hb)
      have noRecord : ∀ b o, s.heap.get? b = some o → (∀ vs, o.data ≠ .fields vs) → b ≠ t := fun b o hb hnf q => by
        rw [q, ht] at hb; injection hb with hb; subst hb; exact hnf ts hdt
      have hsize : (s.heap.update t (Obj.mapFields (·.setIfInBounds 3 Value.none))).objs.size = s.heap.objs.size := by first | exact Heap.size_update .. | simp [Heap.update]
      refine entry_ok (s := { s with heap := s.heap.update t (Obj.mapFields (·.setIfInBounds 3 Value.none)) }) hfr (hl.of_keeps fun b o hb hnf => ⟨o, (other b (noRecord b o hb hnf)).trans hb, rfl⟩) hf ((other a (Ne.symm hta)).trans he) hsz fun h' T' hT' f c => h h' T' (.inr (by rw [← hsize]; exact hT')) f ?_
      refine ⟨fun b o e n1 n2 n3 => c.keep b o ((other b (fun z => n2 (by simp [z]))).trans e) n1 (by simp) n3, fun b o e n1 n2 => c.slot b o ((other b (fun z => n2 (by simp [z]))).trans e) n1 (by simp)⟩
    · rw [if_pos (show (rawInt L == rawInt L) = true from by simp)]
      exact wpAny_pure (h s.heap t (.inl ⟨_, rfl⟩) ⟨fl, sl, he, hsz, h1, hta, oT, ts, ht, hdt, h3⟩ Chg.refl)
theorem flight_ok {t : Addr} {v : Value} {fr : Option Addr} {fs : List Addr} {Q : Unit → Shared → Prop} (fly : FlyAt s.heap a C dx (some (t, v)))
    (h : ∀ h', FlyAt h' a C dx (some (t, fr.elim .none fun f => rawInt f)) → Chg fs a [t] s.heap h' → Q () { s with heap := h' }) : wpAny M A (setFlight (.ref a) fr) Q E s := by
  obtain ⟨fl, sl, he, hsz, h1, hta, oT, ts, ht, hdt, h3⟩ := fly
  obtain ⟨hsz3, _⟩ := Array.getElem?_eq_some_iff.mp h3
  unfold setFlight
  refine wpAny_bind (wpAny_field he rfl h1 ?_)
  rw [if_pos (show (Value.ref t != Value.none) = true from by simp)]
  have other : ∀ b, b ≠ t → (s.heap.update t (Obj.mapFields (·.setIfInBounds 3 (fr.elim Value.none fun f => rawInt f)))).get? b = s.heap.get? b := fun b hb => Heap.get?_update_other _ _ (Ne.symm hb)
  refine wpAny_setField ht hdt hsz3 (h _ ?_ ?_)
  · exact ⟨fl, sl, (other a (Ne.symm hta)).trans he, hsz, h1, hta, _, _, Heap.get?_update_self _ ht (Obj.isFreed_of_fields (Obj.data_mapFields hdt _)), Obj.data_mapFields hdt _, by simp [hsz3]⟩
  · exact ⟨fun b o e n1 n2 _ => (other b (fun z => n2 (by simp [z]))).trans e, fun b o e n1 n2 => ⟨o.slots, (other b (fun z => n2 (by simp [z]))).trans e⟩⟩
end
end L2
set_option Elab.async false
set_option linter.all false
set_option maxRecDepth 100000
set_option maxHeartbeats 2000000
namespace L2
open PySem PySem.Spec PyProof.Rows
section
variable {X : Cx} {pins : List (Addr × Obj)} {σ : St} {H : Hp} {s : Shared} {a C dx : Addr}
def Free (X : Cx) (pins : List (Addr × Obj)) (H : Hp) (t : Addr) : Prop := X.s_0.heap.objs.size ≤ t ∧ H t = none ∧ t ≠ X.env.locals ∧ (∀ x c, X.env.cells.lookup x = some c → c ≠ t) ∧ ∀ p ∈ X.pn ++ pins, p.1 ≠ t
theorem Inv.chg {h' : Heap} {o : HO} {ts : List Addr} {T : Option (Addr × Value)} (I : Inv X pins σ H s) (ha : H a = some o) (ho : (o = Xn a C (some dx)) ∨ (o = Xr a C (some dx)))
    (hts : ∀ t ∈ ts, Free X pins H t) (fly : FlyAt h' a C dx T) (c : Chg (frs X.stack) a ts s.heap h') : Inv X pins σ (upd H a (Xn a C (some dx))) { s with heap := h' } := by
  have na : ∀ b, H b = none → b ≠ a := fun b e z => by rw [z, ha] at e; cases e
  have noT : ∀ b xs, H b = some (.tup xs) → b ≠ a := fun b xs e z => by
    rw [z, ha] at e; rcases ho with q | q <;> (rw [q] at e; cases e)
  have noF : ∀ b u v, H b = some (.frz u v) → b ≠ a := fun b u v e z => by
    rw [z, ha] at e; rcases ho with q | q <;> (rw [q] at e; cases e)
  have noB : ∀ b u, H b = some (.tbl u) → b ≠ a := fun b u e z => by
    rw [z, ha] at e; rcases ho with q | q <;> (rw [q] at e; cases e)
  have noO : ∀ b u, H b = some (.own u) → b ≠ a := fun b u e z => by
    rw [z, ha] at e; rcases ho with q | q <;> (rw [q] at e; cases e)
  have nts : ∀ b u, H b = some u → b ∉ ts := fun b u e z => by
    have := (hts b z).2.1
    rw [e] at this; cases this
  have nfs : ∀ b u, H b = some u → b ∉ frs X.stack := fun b u e z => by
    have := I.stkFree b z
    rw [e] at this; cases this
  have stk : ∀ b, b ≠ X.env.locals → b ∉ X.fs → b ∉ frs X.stack := fun b n1 n2 z => (List.mem_cons.mp (I.stkSub b z)).elim n1 n2
  have aobj : ∃ u, h'.get? a = some u := by obtain ⟨fl, sl, e, _⟩ := fly; exact ⟨_, e⟩
  refine I.step (g' := s.gens) (d' := s.drawn) (t' := s.toks) (ch := ts) (fun b hb => ?_) (fun b u n1 n2 n3 e n => c.keep b u e (na b n) n3 (stk b n1 n2)) (fun b u n1 n2 n3 e n => c.slot b u e (na b n) n3)
    (fun b u _ _ n => by rw [upd_ne (na b n)]; exact n) (fun b u n3 e => ?_) (fun b xs e => by rw [upd_ne (noT b xs e)]; exact e) (fun b u v e => by rw [upd_ne (noF b u v e)]; exact e)
    (fun b u e => ⟨#[], by rw [upd_ne (noB b u e), e]; simp⟩) (fun m hm => ?_) (fun b u e => ?_) I.bare
  · obtain ⟨f1, f2, f3, f4, f5⟩ := hts b hb
    exact ⟨.inr f1, f3, f4, f5⟩
  · by_cases z : b = a
    · rw [z]; exact aobj
    · obtain ⟨sl, q⟩ := c.slot b u e z n3
      exact ⟨_, q⟩
  · obtain ⟨u, es, ep, hu, r⟩ := hm
    obtain ⟨sl, q⟩ := c.slot X.env.locals u hu (na _ I.free) (fun z => (hts _ z).2.2.1 rfl)
    exact ⟨_, es, ep, q, r⟩
  · by_cases z : b = a
    · subst z
      rw [upd_same] at e
      cases e
      obtain ⟨fl, sl, q, _⟩ := fly
      exact Xn_ok ⟨fl, sl, q⟩
    · rw [upd_ne z] at e
      refine (I.hok b u e).stay (fun c' v hc q => ?_) (fun c' q => by rw [upd_ne (noO c' _ q)]; exact q) (fun c' xs q => by rw [upd_ne (noT c' xs q)]; exact q)
      have hc' : ∃ u', H c' = some u' := by
        rcases hc with z' | z'
        · exact ⟨u, by rw [z']; exact e⟩
        · exact ⟨_, z'⟩
      obtain ⟨u', hu'⟩ := hc'
      refine c.keep c' v q ?_ (nts _ _ hu') (nfs _ _ hu')
      rcases hc with z' | z'
      · rw [z']; exact z
      · exact noO _ _ z'
end
def XE1 (X : Cx) (E : XK) : Value → Shared → Prop := fun v s' => ∃ σ H a C dx T, v = .ref a ∧ Inv X [] σ H s' ∧ H a = some (Xn a C (some dx)) ∧ FlyAt s'.heap a C dx T ∧ (∀ t v, T = some (t, v) → Free X [] H t ∧ (v = .none ∨ v = rawInt X.env.locals)) ∧ E (.ref a) (some dx) H
def CX1 (P : Program) (w : World) : CXT := fun outer H s E e s' => ∃ H' a C dx t, e = .ref a ∧ s'.os = s.os ∧ AllBare s'.gens ∧ Un (frs outer) [] H H' s.heap s'.heap ∧ HOk P w H' s'.heap ∧ H' a = some (Xn a C (some dx)) ∧
  s.heap.objs.size ≤ t ∧ H' t = none ∧ FlyAt s'.heap a C dx (some (t, .none)) ∧ E (.ref a) (some dx) H'
structure Plain (X : Cx) : Prop where
  pn : X.pn = []
  ex : X.ex = []
  st : X.stack = X.env :: X.outer
  fr : X.env.frame = some X.env.locals
section
variable {X : Cx} {pins : List (Addr × Obj)} {σ : St} {H : Hp} {s : Shared} {a C dx : Addr} {E : XK}
theorem upd_id {H : Hp} {a : Addr} {o : HO} (h : H a = some o) : upd H a o = H := by
  funext b
  unfold upd
  split
  · rename_i z; rw [z, h]
  · rfl
theorem Free.of_new {pins : List (Addr × Obj)} {s : Shared} (I : Inv X pins σ H s) {t : Addr} (h : s.heap.objs.size ≤ t) : Free X pins H t :=
  ⟨Nat.le_trans I.sz h, I.hok.fresh h, Nat.ne_of_gt (Nat.lt_of_lt_of_le I.lt h), fun x c e z => by
    obtain ⟨v, o, ho, _⟩ := I.cell x c e
    exact absurd (Nat.lt_of_lt_of_le (Heap.lt_size ho) h) (by rw [z]; exact Nat.lt_irrefl _), fun p hp z => by
    obtain ⟨e, _⟩ := I.pin p hp
    exact absurd (Nat.lt_of_lt_of_le (Heap.lt_size e) h) (by rw [z]; exact Nat.lt_irrefl _)⟩
theorem xe_note {A : Around} {M : Model} {T : Option (Addr × Value)} {o : HO} {Q : Unit → Shared → Prop} {E' : Value → Shared → Prop} (P : Plain X) (hA : A.frames = some X.stack) (I : Inv X pins σ H s) (ha : H a = some o) (ho : (o = Xn a C (some dx)) ∨ (o = Xr a C (some dx))) (fly : FlyAt s.heap a C dx T)
    (hT : ∀ t v, T = some (t, v) → Free X pins H t ∧ (v = .none ∨ v = rawInt X.env.locals))
    (h : ∀ h' t', Inv X pins σ (upd H a (Xn a C (some dx))) { s with heap := h' } → FlyAt h' a C dx (some (t', rawInt X.env.locals)) → Free X pins (upd H a (Xn a C (some dx))) t' → ((∃ v, T = some (t', v)) ∨ s.heap.objs.size ≤ t') → Q () { s with heap := h' }) :
    wpAny M A (noteFrame (.ref a) X.env) Q E' s := by
  have hfr : A.frames = some (X.env :: X.outer) := by rw [hA, P.st]
  have hl : s.heap.FunFrames X.base (X.env :: X.outer) := by have := I.stack; rwa [P.st] at this
  refine note_ok hfr hl P.fr fly (fun t v e => (hT t v e).2) fun h' t' ht' f c => ?_
  have I' : Inv X pins σ (upd H a (Xn a C (some dx))) { s with heap := h' } := by
    refine I.chg ha ho (ts := T.toList.map (·.1)) (fun t ht => ?_) f (by rw [P.st]; exact c)
    obtain ⟨⟨t1, v1⟩, m1, rfl⟩ := List.mem_map.mp ht
    have : T = some (t1, v1) := by
      cases T with
      | none => cases m1
      | some y => rw [List.mem_singleton.mp m1]
    exact (hT t1 v1 this).1
  refine h h' t' I' f ?_ ht'
  have hal : a < s.heap.objs.size := (I.hok a o ha).lt
  rcases ht' with ⟨v, e⟩ | e
  · obtain ⟨f1, f2, f3, f4⟩ := (hT t' v e).1
    exact ⟨f1, by rw [upd_ne (fun z => by rw [z, ha] at f2; cases f2)]; exact f2, f3, f4⟩
  · obtain ⟨f1, f2, f3, f4⟩ := Free.of_new I e
    exact ⟨f1, by rw [upd_ne (fun z => by rw [z] at e; exact absurd (Nat.lt_of_lt_of_le hal e) (Nat.lt_irrefl _))]; exact f2, f3, f4⟩
theorem xe_flight {A : Around} {M : Model} {t : Addr} {v : Value} {fr : Option Addr} {Q : Unit → Shared → Prop} {E' : Value → Shared → Prop} (P : Plain X) (I : Inv X pins σ H s) (ha : H a = some (Xn a C (some dx))) (fly : FlyAt s.heap a C dx (some (t, v))) (hT : Free X pins H t)
    (h : ∀ h', Inv X pins σ H { s with heap := h' } → FlyAt h' a C dx (some (t, fr.elim .none fun f => rawInt f)) → Q () { s with heap := h' }) :
    wpAny M A (setFlight (.ref a) fr) Q E' s := by
  refine flight_ok (fs := frs X.stack) fly fun h' f c => h h' ?_ f
  have := I.chg ha (.inl rfl) (ts := [t]) (fun t' ht => by rw [List.mem_singleton.mp ht]; exact hT) f c
  rwa [upd_id ha] at this
theorem xe_passes (P : Plain X) {M : Model} : PassesOwn M X.A X.env (XE1 X E) := by
  rintro e s' ⟨σ, H, a, C, dx, T, rfl, I, ha, fly, hT, q⟩
  refine xe_note P I.ok.frames I ha (.inl rfl) fly hT fun h' t' I1 f1 fr1 _ => ?_
  rw [upd_id ha] at I1 fr1
  obtain ⟨fl, sl, he, hsz, h1, hta, oT, ts, ht, hdt, h3⟩ := id f1
  unfold cameBackBy
  refine wpAny_bind (wpAny_field he rfl h1 ?_)
  rw [if_neg (show ¬ ((Value.ref t' == Value.none) = true) from by simp)]
  refine xe_flight (s := { s' with heap := h' }) P I1 ha f1 fr1 fun h2 I2 f2 => ?_
  rw [P.fr] at f2
  exact ⟨σ, H, a, C, dx, _, rfl, I2, ha, f2, fun t v e => by cases e; exact ⟨fr1, .inr rfl⟩, q⟩
theorem xe_leaves (P : Plain X) {e : Value} {s' : Shared} {E' : Value → Shared → Prop} (h : XE1 X E e s') : wpAny (model X.prog X.w) X.A (leaving X.env e) (fun _ s'' => CX1 X.prog X.w X.outer X.H_0 X.s_0 E e s'') E' s' := by
  obtain ⟨σ, H, a, C, dx, T, rfl, I, ha, fly, hT, q⟩ := h
  unfold leaving
  refine wpAny_bind (xe_note P I.ok.frames I ha (.inl rfl) fly hT fun h' t' I1 f1 fr1 _ => ?_)
  rw [upd_id ha] at I1 fr1
  refine xe_flight (s := { s' with heap := h' }) P I1 ha f1 fr1 fun h2 I2 f2 => ?_
  have hb := I2.base
  rw [P.ex] at hb
  exact ⟨H, a, C, dx, t', rfl, I2.os, I2.bare, hb, I2.hok, ha, fr1.1, fr1.2.1, f2, q⟩
end
def metaTy (K : PySem.W.Frag) (C : Addr) : Bool := match K.lookup C with
  | some o => o.cls == .type "type"
  | none => false
def tRaise (K : PySem.W.Frag) (te : TE) (E : XK) : TS := fun _ σ H => te σ H fun x H1 => ∃ a C dx, x = .ref a ∧ H1 a = some (Xr a C (some dx)) ∧ (∃ fs, H1 dx = some (.xd fs)) ∧ XCls K C ∧ metaTy K C = true ∧ E (.ref a) (some dx) (upd H1 a (Xn a C (some dx)))
theorem ps_raise {X : Cx} {e : Expr} {te : TE} {E : XK} {pos : Pos} (P : Plain X) (hc : X.calm = true) (he : PE (X.wish (XE1 X E)) e te) : PS (X.wish (XE1 X E)) (.Raise (some e) none pos) (tRaise X.K te E) := by
  intro pins s σ H D I h
  show wpAny _ _ (do standAt pos; raiseStmt X.env (some (do let v ← eval e X.env; standAt pos; pure v)) none) _ _ s
  refine wpAny_bind (wpAny_standAt ?_)
  unfold raiseStmt
  dsimp only
  refine wpAny_bind (wpAny_bind (thn (he pins s σ H _ I h) fun v s1 ⟨x, H1, I1, r1, a, C, dx, ex, ea, ⟨fs, ed⟩, cl, mt, q⟩ => wpAny_bind (wpAny_standAt (wpAny_pure ?_))))
  subst ex
  obtain rfl : v = Value.ref a := r1
  have I2 : Inv X [] σ H1 s1 := (I1.unwish).pins_of fun p hp => absurd hp (by simp)
  obtain ⟨t, sl, ha⟩ := Xr_at I2.hok ea
  obtain ⟨mA, ns, _⟩ := (show ObjOk X.prog X.w H1 s1.heap dx (.xd fs) from I2.hok dx _ ed)
  obtain ⟨od, ho, _⟩ := lookIn_ns ns
  have J : PySem.W.InstAt s1.heap a ⟨.ref C, some dx, .fields #[.ref t, .none, .none, .none, .bool false, .none], sl⟩ C (some od) := ⟨ha, rfl, rfl, ho⟩
  have L0 := J.type (M := model X.prog X.w)
  have Lb : PySem.W.Looks (model X.prog X.w) s1.heap (isInstance (.ref a) (.type "BaseException")) true := L0.andThen (PySem.W.looks_mroIn I2.kIn cl.mb)
  have hnt : ∀ {A : Around} {E' : Value → Shared → Prop} {Q' : Bool → Shared → Prop}, Q' false s1 → wpAny (model X.prog X.w) A (isType (.ref a)) Q' E' s1 := by
    intro A E' Q' hq
    simp only [isType, loadHead]
    exact wpAny_bind (wpAny_loadPart ha (wpAny_pure hq))
  have Lm : ∃ oC, s1.heap.get? C = some oC ∧ oC.cls = .type "type" := by
    unfold metaTy at mt
    split at mt
    · rename_i o ho
      exact ⟨o, I2.kIn _ _ ho, beq_iff_eq.mp mt⟩
    · cases mt
  obtain ⟨oC, hoC, hoC2⟩ := Lm
  refine wpAny_bind (wpAny_pure ?_)
  dsimp only
  refine wpAny_bind (wpAny_holding ?_)
  unfold excFromValue isExcClass
  refine wpAny_bind (wpAny_bind (hnt ?_))
  simp only [Bool.false_eq_true, if_false]
  refine wpAny_pure ?_
  simp only [Bool.false_eq_true, if_false]
  refine wpAny_bind (Lb.here ?_)
  simp only [if_true]
  refine wpAny_pure ?_
  refine wpAny_bind (hnt ?_)
  simp only [Bool.false_eq_true, if_false]
  unfold raisedInstance
  refine wpAny_bind (wpAny_bind (L0.here ?_))
  refine wpAny_bind (wpAny_typeOf (T := "type") ⟨oC, hoC, hoC2⟩ ?_)
  rw [if_pos (by rfl)]
  refine wpAny_pure ?_
  unfold setFlight raiseNew
  refine wpAny_bind (wpAny_bind (wpAny_field ha rfl (x := .none) rfl ?_))
  rw [if_neg (by decide)]
  refine wpAny_pure (wpAny_bind (wpAny_handled ?_))
  have fin : XE1 X E (.ref a) s1 := by
    have fly : FlyAt s1.heap a C dx none := ⟨_, sl, ha, by show 1 < 6; decide, rfl⟩
    have I3 := I2.chg ea (.inr rfl) (ts := []) (fun t ht => absurd ht (by simp)) fly Chg.refl
    exact ⟨σ, _, a, C, dx, none, rfl, I3, upd_same, fly, fun t v e => (nomatch e), q⟩
  rw [show (X.wish (XE1 X E)).A.handled = none from I2.ok.hd hc]
  first
    | exact wpAny_throw fin
    | exact wpAny_bind (wpAny_pure (wpAny_throw fin))
end L2
set_option Elab.async false
set_option linter.all false
set_option maxRecDepth 100000
set_option maxHeartbeats 2000000
namespace L2
open PySem PySem.Spec PyProof.Rows
section
variable {P : Program} {w : World} {K : PySem.W.Frag} {mg : Str → Option Value} {base : Heap}
theorem plain_of {CX : CXT} {N : List Str} {qual : Str} {scope : Scope} {f : Addr} {cdv : Value} {A : Around} {outer : List Env} {s : Shared} {H : Hp} {E : XK} : Plain (cxOf CX P w K mg base N qual scope f cdv A outer s H E) := ⟨rfl, rfl, rfl, rfl⟩
abbrev cx1 (P : Program) (w : World) (K : PySem.W.Frag) (mg : Str → Option Value) (base : Heap) (N : List Str) (qual : Str) (scope : Scope) (f : Addr) (cdv : Value) (A : Around) (outer : List Env) (s : Shared) (H : Hp) (E : XK) : Cx :=
  (cxOf (CX1 P w) P w K mg base N qual scope f cdv A outer s H E).wish (XE1 (cxOf (CX1 P w) P w K mg base N qual scope f cdv A outer s H E) E)
theorem Fun.okX {x qual : Str} {st : Stmt} {f : Addr} {fd : FuncData} {N ps : List Str} {k : Nat} {sp : Sp} (F : Fun K x qual st f fd) (S : FnScope N ps (defScope st)) (len : ∀ vs H Q E, sp vs H Q E → vs.length = ps.length)
    (hbody : ∀ (cdv : Value) (A : Around) (outer : List Env) (s : Shared) (H : Hp) (vs : List V) (Q : VK) (E : XK), Room k (A.deeper (envOfC qual (defScope st) s.heap.objs.size f cdv)) → sp vs H Q E →
      ∃ t, PSs (cx1 P w K mg base N qual (defScope st) f cdv A outer s H E) (defBody st) t ∧ t { nx := fun _ H' => Q .non H', rt := Q } (start N vs) H) : FnOk P w K mg base (CX1 P w) (k + 1) f fd ps sp := by
  obtain ⟨oc, od, kV, doc, pm, an, cdv, ct, osl, rfl, lk, hcd⟩ := F.ex
  refine fn_of lk hcd S len fun A outer s H vs Q E hr hsp => ?_
  obtain ⟨t, h, q⟩ := hbody cdv A outer s H vs Q E hr hsp
  refine ⟨t, fun pins s1 σ H1 D I hw => ?_, q⟩
  exact wpAny_mono (h pins s1 σ H1 D (I.wish _) hw) (fun _ _ z => z.unwish) fun e s2 z => xe_leaves plain_of z
end
end L2
set_option Elab.async false
set_option linter.all false
set_option maxRecDepth 100000
set_option maxHeartbeats 2000000
set_option Elab.async false
set_option linter.all false
set_option maxRecDepth 100000
set_option maxHeartbeats 4000000
namespace NH
open PySem L2
def TieOk (w : WebD) (h p : Nat) (x : PegD) : Prop := ∃ g q : Nat, x = ((g : Int), (q : Int)) ∧ pegOf w g q = some ((h : Int), (p : Int))
def MarkOk (hd : HandD) : Prop := 0 ≤ hd.1 ∧ hd.1 ≤ 9
def Fine (w : WebD) (h : Nat) : Prop := ∃ hd, w[h]? = some hd ∧ MarkOk hd ∧ hd.2.length ≤ 4 ∧ ∀ (p : Nat) x, hd.2[p]? = some x → TieOk w h p x
inductive Bad (w : WebD) (h : Nat) : Str → Prop
  | mark {hd : HandD} : w[h]? = some hd → ¬ MarkOk hd → Bad w h "mark"
  | pegs {hd : HandD} : w[h]? = some hd → MarkOk hd → 4 < hd.2.length → Bad w h "pegs"
  | tie {hd : HandD} {p : Nat} {x : PegD} : w[h]? = some hd → MarkOk hd → hd.2.length ≤ 4 → hd.2[p]? = some x → ¬ TieOk w h p x → Bad w h "tie"
theorem Bad.not_fine {w : WebD} {h : Nat} {s : Str} (b : Bad w h s) : ¬ Fine w h := by
  rintro ⟨hd, e, m, l, t⟩
  cases b with
  | mark e' n => rw [e] at e'; cases e'; exact n m
  | pegs e' _ n => rw [e] at e'; cases e'; omega
  | tie e' _ _ ex n => rw [e] at e'; cases e'; exact n (t _ _ ex)
theorem Bad.unique {w : WebD} {h : Nat} {s s' : Str} (b : Bad w h s) (b' : Bad w h s') : s = s' := by
  cases b with
  | mark e n => cases b' with
    | mark => rfl
    | pegs e' m _ => rw [e] at e'; cases e'; exact absurd m n
    | tie e' m _ _ _ => rw [e] at e'; cases e'; exact absurd m n
  | pegs e m l => cases b' with
    | mark e' n => rw [e] at e'; cases e'; exact absurd m n
    | pegs => rfl
    | tie e' _ l' _ _ => rw [e] at e'; cases e'; omega
  | tie e m l _ _ => cases b' with
    | mark e' n => rw [e] at e'; cases e'; exact absurd m n
    | pegs e' _ l' => rw [e] at e'; cases e'; omega
    | tie => rfl
theorem Bad.lt {w : WebD} {h : Nat} {s : Str} (b : Bad w h s) : h < w.length := by
  cases b with
  | mark e _ => exact (List.getElem?_eq_some_iff.mp e).1
  | pegs e _ _ => exact (List.getElem?_eq_some_iff.mp e).1
  | tie e _ _ _ _ => exact (List.getElem?_eq_some_iff.mp e).1
def Rch (w : WebD) (h : Nat) : Prop := ∀ S : Nat → Prop, S 0 → (∀ a p g (q : Int), pegOf w a p = some (((g : Nat) : Int), q) → S a → S g) → S h
theorem Rch.zero {w : WebD} : Rch w 0 := fun S s0 _ => s0
theorem Rch.step {w : WebD} {a p g : Nat} {q : Int} (r : Rch w a) (e : pegOf w a p = some ((g : Int), q)) : Rch w g := fun S s0 hs => hs a p g q e (r S s0 hs)
inductive Due (w : WebD) : Option (Str × Nat) → Prop
  | hands : w = [] → Due w (some ("hands", 0))
  | hand {h : Nat} {s : Str} : (∀ h', h' < h → Fine w h') → Bad w h s → Due w (some (s, h))
  | apart {h : Nat} : (∀ h', h' < w.length → Fine w h') → h < w.length → (∀ h', h' < h → Rch w h') → ¬ Rch w h → Due w (some ("apart", h))
  | good : w ≠ [] → (∀ h', h' < w.length → Fine w h') → (∀ h', h' < w.length → Rch w h') → Due w none
theorem Due.unique {w : WebD} {d d' : Option (Str × Nat)} (a : Due w d) (b : Due w d') : d = d' := by
  have two : ∀ {h h' : Nat} {s s' : Str}, (∀ k, k < h → Fine w k) → Bad w h s → (∀ k, k < h' → Fine w k) → Bad w h' s' → some (s, h) = some (s', h') := by
    intro h h' s s' f1 b1 f2 b2
    have : h = h' := by
      rcases Nat.lt_trichotomy h h' with z | z | z
      · exact absurd (f2 h z) b1.not_fine
      · exact z
      · exact absurd (f1 h' z) b2.not_fine
    subst this
    rw [b1.unique b2]
  cases a with
  | hands e => cases b with
    | hands => rfl
    | hand _ b => have := b.lt; rw [e] at this; exact absurd this (Nat.not_lt_zero _)
    | apart _ l _ _ => rw [e] at l; exact absurd l (Nat.not_lt_zero _)
    | good n _ _ => exact absurd e n
  | hand f1 b1 => cases b with
    | hands e => have := b1.lt; rw [e] at this; exact absurd this (Nat.not_lt_zero _)
    | hand f2 b2 => exact two f1 b1 f2 b2
    | apart f2 _ _ _ => exact absurd (f2 _ b1.lt) b1.not_fine
    | good _ f2 _ => exact absurd (f2 _ b1.lt) b1.not_fine
  | @apart h f1 l r n => cases b with
    | hands e => rw [e] at l; exact absurd l (Nat.not_lt_zero _)
    | hand f2 b2 => exact absurd (f1 _ b2.lt) b2.not_fine
    | @apart h' f2 l' r' n' =>
      have : h = h' := by
        rcases Nat.lt_trichotomy h h' with z | z | z
        · exact absurd (r' h z) n
        · exact z
        · exact absurd (r h' z) n'
      rw [this]
    | good _ _ r' => exact absurd (r' _ l) n
  | good n f1 r => cases b with
    | hands e => exact absurd e n
    | hand f2 b2 => exact absurd (f1 _ b2.lt) b2.not_fine
    | apart _ l _ n' => exact absurd (r _ l) n'
    | good => rfl
theorem Fine.peg {w : WebD} (f : ∀ h, h < w.length → Fine w h) {h p : Nat} {x : PegD} (e : pegOf w h p = some x) : ∃ g q : Nat, x = ((g : Int), (q : Int)) ∧ g < w.length := by
  obtain ⟨hd, e1, _, _, t⟩ := f h (pegOf_lt e)
  obtain ⟨hd', e2, e3⟩ := pegOf_some e
  rw [e1] at e2
  cases e2
  obtain ⟨g, q, rfl, b⟩ := t p x e3
  exact ⟨g, q, rfl, pegOf_lt b⟩
structure Walk (w : WebD) (bs : List Bool) (ws : List Nat) (h c : Nat) : Prop where
  len : bs.length = w.length
  zero : bs[0]? = some true
  rch : ∀ k : Nat, bs[k]? = some true → Rch w k
  wait : ∀ k ∈ ws, bs[k]? = some true
  shut : ∀ k p g : Nat, ∀ q : Int, bs[k]? = some true → k ∉ ws → (k = h → p < c) → pegOf w k p = some ((g : Int), q) → bs[g]? = some true
  here : bs[h]? = some true
theorem count_set : ∀ {bs : List Bool} {g : Nat}, bs[g]? = some false → (bs.set g true).count false + 1 = bs.count false
  | [], g, h => by simp at h
  | b :: r, 0, h => by
    have e : b = false := by simpa using h
    subst e
    show (true :: r).count false + 1 = (false :: r).count false
    rw [List.count_cons, List.count_cons]
    simp
  | b :: r, g + 1, h => by
    have ih := count_set (bs := r) (g := g) (by simpa using h)
    show (b :: r.set g true).count false + 1 = (b :: r).count false
    rw [List.count_cons, List.count_cons]
    omega
section
variable {w : WebD} {bs : List Bool} {ws : List Nat} {h c : Nat}
theorem Walk.old (k : Walk w bs ws h c) {g : Nat} {q : Int} (e : pegOf w h c = some ((g : Int), q)) (hg : bs[g]? = some true) : Walk w bs ws h (c + 1) := by
  refine ⟨k.len, k.zero, k.rch, k.wait, fun k' p g' q' e1 e2 e3 e4 => ?_, k.here⟩
  by_cases z : k' = h ∧ p = c
  · obtain ⟨rfl, rfl⟩ := z
    rw [e] at e4
    injection e4 with e4
    injection e4 with e4
    have : g = g' := by omega
    rw [← this]
    exact hg
  · exact k.shut k' p g' q' e1 e2 (fun y => by have := e3 y; omega) e4
theorem Walk.new (k : Walk w bs ws h c) {g : Nat} {q : Int} (e : pegOf w h c = some ((g : Int), q)) (hg : bs[g]? = some false) : Walk w (bs.set g true) (ws ++ [g]) h (c + 1) := by
  have gl : g < bs.length := (List.getElem?_eq_some_iff.mp hg).1
  have up : ∀ k' : Nat, bs[k']? = some true → (bs.set g true)[k']? = some true := fun k' e' => by
    by_cases z : g = k'
    · subst z; exact List.getElem?_set_self gl
    · rw [List.getElem?_set_ne z]; exact e'
  refine ⟨by rw [List.length_set]; exact k.len, up _ k.zero, fun k' e' => ?_, fun k' hk => ?_, fun k' p g' q' e1 e2 e3 e4 => ?_, up _ k.here⟩
  · by_cases z : g = k'
    · subst z; exact (k.rch h k.here).step e
    · rw [List.getElem?_set_ne z] at e'; exact k.rch k' e'
  · rcases List.mem_append.mp hk with z | z
    · exact up _ (k.wait k' z)
    · rw [List.mem_singleton.mp z]; exact List.getElem?_set_self gl
  · have ng : k' ≠ g := fun z => e2 (by rw [z]; exact List.mem_append_right _ (List.mem_singleton.mpr rfl))
    rw [List.getElem?_set_ne (Ne.symm ng)] at e1
    by_cases z : k' = h ∧ p = c
    · obtain ⟨rfl, rfl⟩ := z
      rw [e] at e4
      injection e4 with e4
      injection e4 with e4
      have : g = g' := by omega
      rw [← this]
      exact List.getElem?_set_self gl
    · exact up _ (k.shut k' p g' q' e1 (fun y => e2 (List.mem_append_left _ y)) (fun y => by have := e3 y; omega) e4)
theorem Walk.pop {ws : List Nat} {h h' c : Nat} (k : Walk w bs (ws ++ [h']) h c) (done : h ∉ ws ++ [h'] → ∀ hd, w[h]? = some hd → hd.2.length ≤ c) : Walk w bs ws h' 0 := by
  refine ⟨k.len, k.zero, k.rch, fun k' hk => k.wait k' (List.mem_append_left _ hk), fun k' p g q e1 e2 e3 e4 => ?_, k.wait h' (List.mem_append_right _ (List.mem_singleton.mpr rfl))⟩
  by_cases z : k' = h'
  · exact absurd (e3 z) (Nat.not_lt_zero _)
  · have nin : k' ∉ ws ++ [h'] := fun y => by
      rcases List.mem_append.mp y with y | y
      · exact e2 y
      · exact z (List.mem_singleton.mp y)
    refine k.shut k' p g q e1 nin (fun y => ?_) e4
    subst y
    obtain ⟨hd, a1, a2⟩ := pegOf_some e4
    have := done nin hd a1
    have := (List.getElem?_eq_some_iff.mp a2).1
    omega
theorem Walk.done (k : Walk w bs [] h c) (done : ∀ hd, w[h]? = some hd → hd.2.length ≤ c) : ∀ k : Nat, k < w.length → (bs[k]? = some true ↔ Rch w k) := by
  intro k' hk
  refine ⟨k.rch k', fun r => r (fun x => bs[x]? = some true) k.zero fun a p g q e sa => k.shut a p g q sa (fun y => (nomatch y)) (fun y => ?_) e⟩
  subst y
  obtain ⟨hd, a1, a2⟩ := pegOf_some e
  have := done hd a1
  have := (List.getElem?_eq_some_iff.mp a2).1
  omega
end
def spBack : Sp := fun vs H Q _ => ∃ (a : Addr) (w : WebD) (h p : Nat) (x : PegD), vs = [.ref a, natV h, natV p] ∧ WebAt H a w ∧ pegOf w h p = some x ∧ w.length ≤ 1000 ∧
  ∀ (b : Bool) (H' : Hp), Same H H' → (b = true ↔ TieOk w h p x) → Q (.bl b) H'
def WordAt (w : WebD) (h : Nat) (v : V) : Prop := (v = .non ∧ Fine w h) ∨ ∃ s, v = .str s ∧ Bad w h s
def spWrong : Sp := fun vs H Q _ => ∃ (a : Addr) (w : WebD) (h : Nat), vs = [.ref a, natV h] ∧ WebAt H a w ∧ h < w.length ∧ w.length ≤ 1000 ∧ (∀ (h : Nat) hd, w[h]? = some hd → hd.2.length ≤ 1000) ∧
  ∀ (v : V) (H' : Hp), Same H H' → WordAt w h v → Q v H'
def spReach : Sp := fun vs H Q _ => ∃ (a : Addr) (w : WebD), vs = [.ref a] ∧ WebAt H a w ∧ 0 < w.length ∧ w.length ≤ 1000 ∧ (∀ h, h < w.length → Fine w h) ∧
  ∀ (r : Addr) (bs : List Bool) (H' : Hp), Same H H' → H r = none → H' r = some (.lst (bs.map V.bl)) → bs.length = w.length → (∀ k : Nat, k < w.length → (bs[k]? = some true ↔ Rch w k)) → Q (.ref r) H'
end NH
set_option Elab.async false
set_option linter.all false
set_option maxRecDepth 100000
set_option maxHeartbeats 4000000
set_option Elab.async false
set_option linter.all false
set_option maxRecDepth 100000
set_option maxHeartbeats 4000000
namespace NH
open PySem L2
theorem join {Pv nx : St → Hp → Prop} {G : Prop} (h1 : (∀ σ H, Pv σ H → nx σ H) → G) (h2 : ∀ σ H, Pv σ H → nx σ H) : G := h1 h2
end NH
set_option Elab.async false
set_option linter.all false
set_option maxRecDepth 100000
set_option maxHeartbeats 1000000
namespace L2
open PySem PySem.Spec PyProof.Rows
theorem tIter_but {h h' : Heap} {b it t : Addr} {i : Nat} (x : h.IsTupleIter it t i) (k : Heap.SameBut b h h') (n : it ≠ b) : h'.IsTupleIter it t i := tupIter_at x fun o e => k.extBut _ _ n e
theorem tup_but {h h' : Heap} {b t : Addr} {its : Array Value} (x : h.IsTuple t its) (k : Heap.SameBut b h h') (n : t ≠ b) : h'.IsTuple t its := tup_at x fun o e => k.extBut _ _ n e
section
variable {prog : Program} {w : World} {A : Around} {E : Value → Shared → Prop} {s : Shared} {z TI TO i1 i2 l1 l2 : Addr} {k1 k2 : Nat} {xs ys : Array Value} {a b : Value}
theorem zt_head {Q : Fin → Shared → Prop} (D : ZipApart z TI TO i1 i2 l1 l2) (hz : IsZip s.heap z TI TO .none) (hTI : IsPair s.heap TI (.ref i1) (.ref i2)) (hTO : IsPair s.heap TO a b)
    (h1 : s.heap.IsTupleIter i1 l1 k1) (h2 : s.heap.IsTupleIter i2 l2 k2) (t1 : s.heap.IsTuple l1 xs) (t2 : s.heap.IsTuple l2 ys) (hh : A.handled = none)
    (hE : (xs[k1]? = none ∨ ys[k2]? = none) → ∀ h' e, (∀ c o, c ≠ z → c ≠ TO → c ≠ i1 → c ≠ i2 → s.heap.get? c = some o → h'.get? c = some o) → (∃ o, h'.get? e = some o ∧ o.cls = .type "StopIteration") → E (.ref e) { s with heap := h' })
    (hQ : ∀ x y, xs[k1]? = some x → ys[k2]? = some y → ∀ h', IsZip h' z TI TO (rawInt s.heap.objs.size) → IsPair h' TO x y → h'.IsTupleIter i1 l1 (k1 + 1) → h'.IsTupleIter i2 l2 (k2 + 1) → IsPair h' s.heap.objs.size x y → h'.objs.size = s.heap.objs.size + 1 →
      (∀ c o, c ≠ z → c ≠ TO → c ≠ i1 → c ≠ i2 → s.heap.get? c = some o → h'.get? c = some o) → Q (.done (.ret (.ref s.heap.objs.size))) { s with heap := h' }) :
    wpAny (model prog w) A (Builtin.«zip.__next__» ⟨[.ref z], []⟩) Q E s := by
  obtain ⟨hp, gs, dr, tk, os⟩ := s
  replace hz : hp.get? z = some _ := hz
  wp_walk using wpAny_seqItems hTI rfl, wpAny_setField_rec hz (by simp)
  intro g1 z1 d1
  replace z1 : IsZip g1 z TI TO .ellipsis := z1
  have j1 := tIter_but h1 d1 D.i1z
  have u1 := tup_but t1 d1 D.l1z
  show wpAny _ _ (forIn [(Value.ref i1, 0), (Value.ref i2, 1)] _ _ >>= _) _ _ _
  rw [List.forIn_cons]
  cases ex : xs[k1]? with
  | none =>
    wp_walk using wpAny_onRaise, nextOf_tup_end (s := ⟨g1, gs, dr, tk, os⟩) hh j1 u1 ex
    rintro g2 e d2 ⟨oe, ho, hc⟩
    have z2 : IsZip g2 z TI TO .ellipsis := d2 _ _ D.i1z.symm z1
    have ne : e ≠ z := fun q => by rw [q, z2] at ho; cases ho; simp at hc
    exact wpAny_setField_rec z2 (by simp) fun g3 _ d3 => hE (.inl ex) g3 e (fun c o n1 _ n3 _ q => d3.extBut _ _ n1 (d2 _ _ n3 (d1.extBut _ _ n1 q))) ⟨oe, d3.extBut _ _ ne ho, hc⟩
  | some x =>
    wp_walk using wpAny_onRaise, nextOf_tup_item (s := ⟨g1, gs, dr, tk, os⟩) j1 u1 ex
    intro g2 m1 d2
    have p2 : IsPair g2 TO a b := d2.extBut _ _ D.TOi1 (d1.extBut _ _ D.TOz hTO)
    wp_walk using wpAny_seqItems (s := ⟨g2, gs, dr, tk, os⟩) p2 rfl, wpAny_updateSeq_pair (s := ⟨g2, gs, dr, tk, os⟩) p2
    intro g3 p3 d3
    replace p3 : IsPair g3 TO x b := p3
    have j2 := tIter_but (tIter_but (tIter_but h2 d1 D.i2z) d2 D.i12.symm) d3 D.TOi2.symm
    have u2 := tup_but (tup_but (tup_but t2 d1 D.l2z) d2 D.l2i1) d3 D.l2TO
    refine wpAny_bind (wpAny_letGo (wpAny_pure ?_))
    show wpAny _ _ (forIn [(Value.ref i2, 1)] _ _) _ _ _
    rw [List.forIn_cons]
    cases ey : ys[k2]? with
    | none =>
      wp_walk using wpAny_onRaise, nextOf_tup_end (s := ⟨g3, gs, dr, tk, os⟩) hh j2 u2 ey
      rintro g4 e d4 ⟨oe, ho, hc⟩
      have z4 : IsZip g4 z TI TO .ellipsis := d4 _ _ D.i2z.symm (d3.extBut _ _ D.TOz.symm (d2.extBut _ _ D.i1z.symm z1))
      have ne : e ≠ z := fun q => by rw [q, z4] at ho; cases ho; simp at hc
      exact wpAny_setField_rec z4 (by simp) fun g5 _ d5 => hE (.inr ey) g5 e (fun c o n1 n2 n3 n4 q => d5.extBut _ _ n1 (d4 _ _ n4 (d3.extBut _ _ n2 (d2.extBut _ _ n3 (d1.extBut _ _ n1 q))))) ⟨oe, d5.extBut _ _ ne ho, hc⟩
    | some y =>
      wp_walk using wpAny_onRaise, nextOf_tup_item (s := ⟨g3, gs, dr, tk, os⟩) j2 u2 ey
      intro g4 m2 d4
      have p4 : IsPair g4 TO x b := d4.extBut _ _ D.TOi2 p3
      wp_walk using wpAny_seqItems (s := ⟨g4, gs, dr, tk, os⟩) p4 rfl, wpAny_updateSeq_pair (s := ⟨g4, gs, dr, tk, os⟩) p4
      intro g5 p5 d5
      replace p5 : IsPair g5 TO x y := p5
      have sz : g5.objs.size = hp.objs.size := by rw [d5.1, d4.1, d3.1, d2.1, d1.1]
      have z5 : IsZip g5 z TI TO .ellipsis := d5.extBut _ _ D.TOz.symm (d4.extBut _ _ D.i2z.symm (d3.extBut _ _ D.TOz.symm (d2.extBut _ _ D.i1z.symm z1)))
      have kp : ∀ c o, c ≠ z → c ≠ TO → c ≠ i1 → c ≠ i2 → hp.get? c = some o → g5.get? c = some o := fun c o n1 n2 n3 n4 q =>
        d5.extBut _ _ n2 (d4.extBut _ _ n4 (d3.extBut _ _ n2 (d2.extBut _ _ n3 (d1.extBut _ _ n1 q))))
      have m1' := tIter_but (tIter_but (tIter_but m1 d3 D.TOi1.symm) d4 D.i12) d5 D.TOi1.symm
      have m2' := tIter_but m2 d5 D.TOi2.symm
      have lt := Heap.lt_size z5
      have z6 : IsZip (g5.push { cls := .type "tuple", data := .seq #[x, y] }) z TI TO .ellipsis := Heap.get?_push_of_some _ z5
      refine wpAny_bind (wpAny_letGo (wpAny_pure ?_))
      show wpAny _ _ (forIn [] _ _) _ _ _
      rw [List.forIn_nil]
      wp_walk using wpAny_seqItems (s := ⟨g5, gs, dr, tk, os⟩) p5 rfl, wpAny_setField_rec (s := ⟨_, gs, dr, tk, os⟩) z6 (by simp)
      intro g7 z7 d7
      replace z7 : IsZip g7 z TI TO (rawInt g5.objs.size) := z7
      wp_walk using wpAny_setField_rec (s := ⟨g7, gs, dr, tk, os⟩) z7 (by simp)
      intro g8 z8 d8
      replace z8 : IsZip g8 z TI TO (rawInt g5.objs.size) := z8
      have up : ∀ c o, c ≠ z → g5.get? c = some o → g8.get? c = some o := fun c o n1 q => d8.extBut _ _ n1 (d7.extBut _ _ n1 (Heap.get?_push_of_some _ q))
      have p8 : IsPair g8 g5.objs.size x y := d8.extBut _ _ (Nat.ne_of_gt lt) (d7.extBut _ _ (Nat.ne_of_gt lt) (Heap.get?_push_size _ rfl))
      have s8 : g8.objs.size = g5.objs.size + 1 := by rw [d8.1, d7.1, Heap.size_push]
      rw [sz] at z8 p8 s8
      wp_walk
      show Q (.done (.ret (.ref g5.objs.size))) _
      rw [sz]
      exact hQ x y ex ey g8 z8 (up _ _ D.TOz p5) (tupIter_at m1' fun o q => up _ o D.i1z q) (tupIter_at m2' fun o q => up _ o D.i2z q) p8 s8 fun c o n1 n2 n3 n4 q => up c o n1 (kp c o n1 n2 n3 n4 q)
theorem next_zt {Q : Option Value → Shared → Prop} (hh : A.handled = none) (D : ZipApart z TI TO i1 i2 l1 l2) (hz : IsZip s.heap z TI TO .none) (hTI : IsPair s.heap TI (.ref i1) (.ref i2)) (hTO : IsPair s.heap TO a b)
    (h1 : s.heap.IsTupleIter i1 l1 k1) (h2 : s.heap.IsTupleIter i2 l2 k2) (t1 : s.heap.IsTuple l1 xs) (t2 : s.heap.IsTuple l2 ys)
    (hE : (xs[k1]? = none ∨ ys[k2]? = none) → ∀ h', (∀ c o, c ≠ z → c ≠ TO → c ≠ i1 → c ≠ i2 → s.heap.get? c = some o → h'.get? c = some o) → Q none { s with heap := h' })
    (hQ : ∀ x y, xs[k1]? = some x → ys[k2]? = some y → ∀ h', IsZip h' z TI TO (rawInt s.heap.objs.size) → IsPair h' TO x y → h'.IsTupleIter i1 l1 (k1 + 1) → h'.IsTupleIter i2 l2 (k2 + 1) → IsPair h' s.heap.objs.size x y → h'.objs.size = s.heap.objs.size + 1 →
      (∀ c o, c ≠ z → c ≠ TO → c ≠ i1 → c ≠ i2 → s.heap.get? c = some o → h'.get? c = some o) → Q (some (.ref s.heap.objs.size)) { s with heap := h' }) :
    wpAny (model prog w) A (pyNext (.ref z)) Q E s := by
  have hT : s.TypeIs (.ref z) "zip" := ⟨_, hz, rfl⟩
  unfold pyNext
  refine wpAny_bind (wpAny_attempt (wpAny_callSpecial?_slot (name := Str.ofString "__next__") hT F.slot_zip_next (wpAny_call_entry F.slot_zip_next hT F.entry_zip_next (zt_head D hz hTI hTO h1 h2 t1 t2 hh (fun en h' e kp ⟨o, ho, hc⟩ => ?_) fun x y ex ey h' c1 c2 c3 c4 c5 c6 c7 => ?_) (F.args_zip_next_1 _))))
  · exact wpAny_bind (wpAny_isInstance (T := "StopIteration") (b := true) ⟨o, ho, hc⟩ isSubtype_stop (wpAny_pure (hE en h' kp)))
  · exact ⟨_, rfl, wpAny_pure (hQ x y ex ey h' c1 c2 c3 c4 c5 c6 c7)⟩
end
abbrev zt1 (h : Heap) (l1 : Addr) : Heap := h.push { cls := .type "tuple_iterator", data := .fields #[.ref l1, .int 0 0] }
abbrev zt2 (h : Heap) (l1 l2 : Addr) : Heap := (zt1 h l1).push { cls := .type "tuple_iterator", data := .fields #[.ref l2, .int 0 0] }
abbrev zt3 (h : Heap) (l1 l2 : Addr) : Heap := (zt2 h l1 l2).push { cls := .type "tuple", data := .seq #[.ref h.objs.size, .ref (zt1 h l1).objs.size] }
abbrev zt4 (h : Heap) (l1 l2 : Addr) : Heap := (zt3 h l1 l2).push { cls := .type "tuple", data := .seq #[.none, .none] }
abbrev zt5 (h : Heap) (l1 l2 : Addr) : Heap := (zt4 h l1 l2).push { cls := .type "zip", data := .fields #[.none, .bool false, .bool false, .ref (zt2 h l1 l2).objs.size, .ref (zt3 h l1 l2).objs.size] }
theorem meets_zt (l1 l2 : Addr) (xs ys : Array Value) : Meets (Builtin.«zip.__new__» ⟨[.type "zip", .ref l1, .ref l2], []⟩) (fun _ R s => s.heap.IsTuple l1 xs ∧ s.heap.IsTuple l2 ys ∧ R (.ok (.ret (.ref (zt4 s.heap l1 l2).objs.size))) { s with heap := zt5 s.heap l1 l2 }) :=
  .of_wp fun prog w A R s h => by
    obtain ⟨hp, g, d, tk, os⟩ := s
    obtain ⟨t1, t2, h⟩ := h
    have hsub := sub_zip
    have e1 : Heap.IsTuple (Shared.heap ⟨hp, g, d, tk, os⟩) l1 xs := t1
    have e2 : Heap.IsTuple (Shared.heap ⟨hp.push { cls := .type "tuple_iterator", data := .fields #[.ref l1, .int 0 0] }, g, d, tk, os⟩) l2 ys := tup_at t2 fun o q => Heap.get?_push_of_some _ q
    wp_walk using wpAny_pyIter_tuple e1, wpAny_pyIter_tuple e2
    exact ⟨_, rfl, h⟩
section
variable {prog : Program} {w : World} {A : Around} {E : Value → Shared → Prop} {s : Shared}
theorem call_zt {l1 l2 : Addr} {xs ys : Array Value} {Q : Value → Shared → Prop} (t1 : s.heap.IsTuple l1 xs) (t2 : s.heap.IsTuple l2 ys)
    (h : ∀ h', IsZip h' (s.heap.objs.size + 4) (s.heap.objs.size + 2) (s.heap.objs.size + 3) .none → IsPair h' (s.heap.objs.size + 2) (.ref s.heap.objs.size) (.ref (s.heap.objs.size + 1)) → IsPair h' (s.heap.objs.size + 3) .none .none →
      h'.IsTupleIter s.heap.objs.size l1 0 → h'.IsTupleIter (s.heap.objs.size + 1) l2 0 → (∀ c o, s.heap.get? c = some o → h'.get? c = some o) → Q (.ref (s.heap.objs.size + 4)) { s with heap := h' }) :
    wpAny (model prog w) A (call (.type "zip") [.ref l1, .ref l2]) Q E s := by
  refine callType_new F.called_zip (by decide) (F.typeCall_zip_2 _ _) (F.newCall_zip_2 _ _) (fun obj => F.args_object_init_3 obj _ _) F.entry_zip_new (meets_zt l1 l2 xs ys) ⟨t1, t2, ?_⟩
  have z1 : (zt1 s.heap l1).objs.size = s.heap.objs.size + 1 := Heap.size_push ..
  have z2 : (zt2 s.heap l1 l2).objs.size = s.heap.objs.size + 2 := by rw [Heap.size_push, z1]
  have z3 : (zt3 s.heap l1 l2).objs.size = s.heap.objs.size + 3 := by rw [Heap.size_push, z2]
  have z4 : (zt4 s.heap l1 l2).objs.size = s.heap.objs.size + 4 := by rw [Heap.size_push, z3]
  have p : ∀ {h : Heap} {o o' : Obj} {c : Addr}, h.get? c = some o' → (h.push o).get? c = some o' := fun q => Heap.get?_push_of_some _ q
  have g5 : (zt5 s.heap l1 l2).get? (zt4 s.heap l1 l2).objs.size = some _ := Heap.get?_push_size _ rfl
  have g4 : (zt5 s.heap l1 l2).get? (zt3 s.heap l1 l2).objs.size = some _ := p (Heap.get?_push_size _ rfl)
  have g3 : (zt5 s.heap l1 l2).get? (zt2 s.heap l1 l2).objs.size = some _ := p (p (Heap.get?_push_size _ rfl))
  have g2 : (zt5 s.heap l1 l2).get? (zt1 s.heap l1).objs.size = some _ := p (p (p (Heap.get?_push_size _ rfl)))
  have g1 : (zt5 s.heap l1 l2).get? s.heap.objs.size = some _ := p (p (p (p (Heap.get?_push_size _ rfl))))
  show _ ∧ _
  rw [z2, z3, z4] at g5
  rw [z1, z2] at g3
  rw [z3] at g4
  rw [z1] at g2
  rw [z4]
  exact ⟨⟨_, g5, rfl⟩, h _ g5 g3 g4 ⟨_, g1, rfl, rfl⟩ ⟨_, g2, rfl, rfl⟩ fun c o x => p (p (p (p (p x))))⟩
end
def ItzT (K : PySem.W.Frag) (a b : Addr) : It :=
  ⟨fun i H => ∃ (xs ys : List V) (x y : V), SqT K H a xs ∧ SqT K H b ys ∧ xs[i]? = some x ∧ ys[i]? = some y,
    fun i H v H' => ∃ T x y, v = .ref T ∧ H T = none ∧ H' = upd H T (.tup [x, y]) ∧ (∀ xs, SqT K H a xs → xs[i]? = some x) ∧ ∀ ys, SqT K H b ys → ys[i]? = some y,
    fun i H => ∃ xs ys : List V, SqT K H a xs ∧ SqT K H b ys ∧ (xs.length ≤ i ∨ ys.length ≤ i)⟩
theorem turn_zt {P : Program} {w : World} {K : PySem.W.Frag} {elts : List Expr} {kk : Nat} {tpos : Pos} {a b z TI TO i1 i2 : Addr} (D : ZipApart z TI TO i1 i2 a b) :
    Turn P w K (.Tuple elts kk tpos) (ItzT K a b) [z, TI, TO, i1, i2] z (fun i h => IsZip h z TI TO .none ∧ IsPair h TI (.ref i1) (.ref i2) ∧ (∃ x y, IsPair h TO x y) ∧ h.IsTupleIter i1 a i ∧ h.IsTupleIter i2 b i) where
  mem := by simp
  obj := fun i h st c hc => by
    obtain ⟨hz, hTI, ⟨x, y, hTO⟩, ⟨o1, e1, _, d1⟩, ⟨o2, e2, _, d2⟩⟩ := st
    have five : c = z ∨ c = TI ∨ c = TO ∨ c = i1 ∨ c = i2 := by simpa using hc
    rcases five with rfl | rfl | rfl | rfl | rfl
    · exact ⟨_, hz, fun v q => nomatch q⟩
    · exact ⟨_, hTI, fun v q => nomatch q⟩
    · exact ⟨_, hTO, fun v q => nomatch q⟩
    · exact ⟨o1, e1, fun v q => by rw [d1] at q; cases q⟩
    · exact ⟨o2, e2, fun v q => by rw [d2] at q; cases q⟩
  keep := fun i h h' ⟨hz, hTI, ⟨x, y, hTO⟩, h1, h2⟩ k =>
    ⟨k z (by simp) _ hz, k TI (by simp) _ hTI, ⟨x, y, k TO (by simp) _ hTO⟩, tupIter_at h1 fun o q => k i1 (by simp) o q, tupIter_at h2 fun o q => k i2 (by simp) o q⟩
  item := by
    intro X hP hw hK hc i pins s σ H E I hf st hg
    subst hP hw hK
    obtain ⟨hz, hTI, ⟨x0, y0, hTO⟩, h1, h2⟩ := st
    obtain ⟨xs, ys, x, y, hqx, hqy, hx, hy⟩ := hg
    obtain ⟨its, rv, p, _⟩ := I.tuple hqx
    obtain ⟨its2, rv2, p2, _⟩ := I.tuple hqy
    obtain ⟨u, hu, ru⟩ := rv.get hx
    obtain ⟨u2, hu2, ru2⟩ := rv2.get hy
    have hzl : z < s.heap.objs.size := Heap.lt_size hz
    have hu' : its.toArray[i]? = some u := by simpa using hu
    have hu2' : its2.toArray[i]? = some u2 := by simpa using hu2
    refine next_zt (I.ok.hd hc) D hz hTI hTO h1 h2 p p2 (fun en => ?_) fun v v2 ev ev2 h' z' TO' h1' h2' hT hsz hk => ?_
    · rcases en with q | q
      · rw [hu'] at q; cases q
      · rw [hu2'] at q; cases q
    rw [hu'] at ev
    rw [hu2'] at ev2
    cases ev
    cases ev2
    refine ⟨_, rfl, wpAny_letOwnedTupleGo_zip (s := { s with heap := h' }) z' fun h'' z'' sb => ?_⟩
    have hT2 : h''.get? s.heap.objs.size = some { cls := .type "tuple", data := .seq #[u, u2] } := (sb.2 _ (Nat.ne_of_gt hzl)).trans hT
    have new : ObjOk X.prog X.w (upd H s.heap.objs.size (.tup [x, y])) h'' s.heap.objs.size (.tup [x, y]) := ⟨by show 2 ≤ sizeLine; decide, [u, u2], .cons ru (.cons ru2 .nil), ⟨_, hT2, rfl, _, rfl⟩⟩
    have ot : ∀ c, c ∉ [z, TI, TO, i1, i2] → c ≠ z ∧ c ≠ TO ∧ c ≠ i1 ∧ c ≠ i2 := fun c hb => ⟨fun q => hb (by simp [q]), fun q => hb (by simp [q]), fun q => hb (by simp [q]), fun q => hb (by simp [q])⟩
    have I1 : Inv X pins σ (upd H s.heap.objs.size (.tup [x, y])) { s with heap := h'' } :=
      I.turnedNew (t' := s.toks) (ch := [z, TI, TO, i1, i2]) (fun c o hb q => (sb.2 c (ot c hb).1).trans (hk c o (ot c hb).1 (ot c hb).2.1 (ot c hb).2.2.1 (ot c hb).2.2.2 q)) hf (Nat.le_refl _) new
    refine ⟨.ref s.heap.objs.size, _, I1, rfl, ⟨_, x, y, rfl, I.hok.fresh (Nat.le_refl _), rfl, fun l hl => by rw [I.tuple_inj hl hqx]; exact hx, fun l hl => by rw [I.tuple_inj hl hqy]; exact hy⟩, ⟨z'', ?_, ⟨u, u2, ?_⟩, ?_, ?_⟩, fun c hcm => ?_⟩
    · exact (sb.2 _ D.TIz).trans (hk _ _ D.TIz D.TITO D.TIi1 D.TIi2 hTI)
    · exact (sb.2 _ D.TOz).trans TO'
    · exact tupIter_at h1' fun o q => (sb.2 _ D.i1z).trans q
    · exact tupIter_at h2' fun o q => (sb.2 _ D.i2z).trans q
    · have hlt : c < s.heap.objs.size := by
        have five : c = z ∨ c = TI ∨ c = TO ∨ c = i1 ∨ c = i2 := by simpa using hcm
        rcases five with rfl | rfl | rfl | rfl | rfl
        · exact hzl
        · exact Heap.lt_size hTI
        · exact Heap.lt_size hTO
        · obtain ⟨_, e1, _⟩ := h1; exact Heap.lt_size e1
        · obtain ⟨_, e2, _⟩ := h2; exact Heap.lt_size e2
      rw [upd_ne (Nat.ne_of_lt hlt)]
      exact (hf c hcm).1
  done := by
    intro X hP hw hK hc i pins s σ H E I hf st hg
    subst hP hw hK
    obtain ⟨hz, hTI, ⟨x0, y0, hTO⟩, h1, h2⟩ := st
    obtain ⟨xs, ys, hqx, hqy, hend⟩ := hg
    obtain ⟨its, rv, p, _⟩ := I.tuple hqx
    obtain ⟨its2, rv2, p2, _⟩ := I.tuple hqy
    have e1 := rv.length
    have e2 := rv2.length
    have ot : ∀ c, c ∉ [z, TI, TO, i1, i2] → c ≠ z ∧ c ≠ TO ∧ c ≠ i1 ∧ c ≠ i2 := fun c hb => ⟨fun q => hb (by simp [q]), fun q => hb (by simp [q]), fun q => hb (by simp [q]), fun q => hb (by simp [q])⟩
    refine next_zt (I.ok.hd hc) D hz hTI hTO h1 h2 p p2 (fun _ h' hk => ⟨rfl, I.turnedL (t' := s.toks) (ch := [z, TI, TO, i1, i2]) (fun c o hb q => hk c o (ot c hb).1 (ot c hb).2.1 (ot c hb).2.2.1 (ot c hb).2.2.2 q) hf⟩) fun v v2 ev ev2 => ?_
    have l1 := (Array.getElem?_eq_some_iff.mp ev).1
    have l2 := (Array.getElem?_eq_some_iff.mp ev2).1
    simp at l1 l2
    omega
  self := fun A i s Q E st h => wpAny_pyIter_zip st.1 h
def iZipA (K : PySem.W.Frag) (ta : TA) : TI := fun σ H R => ta σ H fun vs H1 => ∃ a b xs ys, vs = [.ref a, .ref b] ∧ ((SqL K H1 a xs ∧ SqL K H1 b ys ∧ R (Itz K a b) H1) ∨ (SqT K H1 a xs ∧ SqT K H1 b ys ∧ R (ItzT K a b) H1))
theorem five_ge {n c : Nat} (h : c ∈ [n + 4, n + 2, n + 3, n, n + 1]) : n ≤ c := by
  simp only [List.mem_cons, List.not_mem_nil, or_false] at h
  omega
theorem pi_zipA {X : Cx} {e e2 : Expr} {ta : TA} {p pos tpos : Pos} {elts : List Expr} {kk : Nat} (hg : Gl X "zip") (hm : X.mg "zip" = none) (ha : PA X [e, e2] ta)
    (hs : starEach [e, e2] X.env = (false, eval e X.env) :: starEach [e2] X.env := by rfl) (hpl : (backTo pos (starEach [e2] X.env)).any (·.1) = false := by rfl) :
    PI X (.Tuple elts kk tpos) (.Call (.Name "zip" p) [e, e2] [] pos) (iZipA X.K ta) := by
  intro pins s σ H R I h
  refine Call_ (ld_blt I hg hm boot_zip5 (PyProof.Rows.callWith_type1 (thn (ha pos pins s σ H _ I h) fun us s1 ⟨vs, H1, I1, r1, q1⟩ => ?_) hs hpl))
  obtain ⟨a, b, xs, ys, ex, q1⟩ := q1
  subst ex
  obtain ⟨ua, ub, rfl, ra, rb⟩ := vals2 r1
  cases (show ua = Value.ref a from ra)
  cases (show ub = Value.ref b from rb)
  rcases q1 with ⟨hqx, hqy, q⟩ | ⟨hqx, hqy, q⟩
  · obtain ⟨its, rv, p1, _⟩ := I1.list hqx
    obtain ⟨its2, rv2, p2, _⟩ := I1.list hqy
    refine call_zip_2 p1.isList p2.isList fun h' hz hTI hTO h1 h2 hsz hk => wpAny_pyIter_zip hz ?_
    have I2 : Inv X pins σ H1 { s1 with heap := h' } := I1.kept (t' := s1.toks) hk
    exact ⟨s1.heap.objs.size + 4, [s1.heap.objs.size + 4, s1.heap.objs.size + 2, s1.heap.objs.size + 3, s1.heap.objs.size, s1.heap.objs.size + 1], _, _, H1, rfl, I2, turn_zip (PySem.W.ktu_apart s1.heap.objs.size a b p1.lt p2.lt), ⟨hz, hTI, ⟨_, _, hTO⟩, h1, h2⟩, fun c hcm => I1.fpOk (five_ge hcm) (I1.hok.fresh (five_ge hcm)), q⟩
  · obtain ⟨its, rv, p1, _⟩ := I1.tuple hqx
    obtain ⟨its2, rv2, p2, _⟩ := I1.tuple hqy
    have la : a < s1.heap.objs.size := by obtain ⟨_, e, _⟩ := p1; exact Heap.lt_size e
    have lb : b < s1.heap.objs.size := by obtain ⟨_, e, _⟩ := p2; exact Heap.lt_size e
    refine call_zt p1 p2 fun h' hz hTI hTO h1 h2 hk => wpAny_pyIter_zip hz ?_
    have I2 : Inv X pins σ H1 { s1 with heap := h' } := I1.kept (t' := s1.toks) hk
    exact ⟨s1.heap.objs.size + 4, [s1.heap.objs.size + 4, s1.heap.objs.size + 2, s1.heap.objs.size + 3, s1.heap.objs.size, s1.heap.objs.size + 1], _, _, H1, rfl, I2, turn_zt (PySem.W.ktu_apart s1.heap.objs.size a b la lb), ⟨hz, hTI, ⟨_, _, hTO⟩, h1, h2⟩, fun c hcm => I1.fpOk (five_ge hcm) (I1.hok.fresh (five_ge hcm)), q⟩
theorem lc_zipT {K : PySem.W.Frag} {a b : Addr} {xs ys : List V} {g : TG} {tt : TT} {te : TE} {vs : List Nat} {σ : St} {H1 : Hp} {D : Addr} {Qd : Hp → Prop} (hxy : xs.length = ys.length) (Pv : Nat → Hp → Prop) (h0 : Pv 0 (upd H1 D (.lst [])))
    (hl : ∀ i H, i ≤ xs.length → Pv i H → SqT K H a xs ∧ SqT K H b ys)
    (hs : ∀ i x y T H, xs[i]? = some x → ys[i]? = some y → Pv i H → H T = none → g (.ref T) (wipe σ vs) (upd H T (.tup [x, y])) fun σ2 H2 => wipe σ2 vs = wipe σ vs ∧ tt σ2 H2 fun b H3 =>
      if b = true then te σ2 H3 fun y H4 => ∃ acc, H4 D = some (.lst acc) ∧ acc.length < sizeLine ∧ Pv (i + 1) (upd H4 D (.lst (acc ++ [y]))) else Pv (i + 1) H3) (hd : ∀ H, Pv xs.length H → Qd H) :
    ∃ W : Nat → Nat → Hp → Prop, (∃ m, W 0 m (upd H1 D (.lst []))) ∧ ∀ i m H, W i m H →
      ((ItzT K a b).stop i H ∧ Qd H) ∨ ((ItzT K a b).go i H ∧ ∃ Nx : Hp → Prop, (∀ H', Nx H' → ∃ m', m' < m ∧ W (i + 1) m' H') ∧ ∀ x H', (ItzT K a b).yld i H x H' → g x (wipe σ vs) H' fun σ2 H2 => wipe σ2 vs = wipe σ vs ∧ tt σ2 H2 fun b H3 =>
        if b = true then te σ2 H3 fun y H4 => ∃ acc, H4 D = some (.lst acc) ∧ acc.length < sizeLine ∧ Nx (upd H4 D (.lst (acc ++ [y]))) else Nx H3) := by
  refine ⟨fun i m H => m = xs.length - i ∧ i ≤ xs.length ∧ Pv i H, ⟨xs.length, by simp, Nat.zero_le _, h0⟩, ?_⟩
  rintro i m H ⟨rfl, hi, p⟩
  obtain ⟨q1, q2⟩ := hl i H hi p
  by_cases hlt : i < xs.length
  · have hlt2 : i < ys.length := by omega
    refine .inr ⟨⟨xs, ys, xs[i], ys[i], q1, q2, by simp [hlt], by simp [hlt2]⟩, Pv (i + 1), fun H' p' => ⟨xs.length - (i + 1), by omega, rfl, hlt, p'⟩, fun x H' y => ?_⟩
    obtain ⟨T, x', y', rfl, nT, rfl, hx, hy⟩ := y
    exact hs i x' y' T H (hx xs q1) (hy ys q2) p nT
  · have e : i = xs.length := by omega
    subst e
    exact .inl ⟨⟨xs, ys, q1, q2, .inl (Nat.le_refl _)⟩, hd H p⟩
end L2
set_option Elab.async false
set_option linter.all false
set_option maxRecDepth 100000
set_option maxHeartbeats 1000000
namespace L2
open PySem PySem.Spec PyProof.Rows
section
variable {X : Cx} {pins : List (Addr × Obj)} {σ : St} {H : Hp} {s : Shared} {A : Around} {E : Value → Shared → Prop}
theorem ty_kit {x : V} {u t : Value} (I : Inv X pins σ H s) (rx : RelV x u) (ty : TyOf X.K H x t) : ∃ Hx : Heap → Prop, PySem.W.KitX X.K u t Hx ∧ Hx s.heap ∧ u ≠ .builtin "__main__.__loader__#opaque" := by
  cases ty with
  | non => cases (show u = Value.none from rx); exact ⟨_, PySem.W.kitx_none, True.intro, fun z => nomatch z⟩
  | bl y => cases (show u = Value.bool y from rx); exact ⟨_, PySem.W.kitx_bool, True.intro, fun z => nomatch z⟩
  | int i => obtain ⟨t, q⟩ := (show ∃ t, u = Value.int i t from rx); cases q; exact ⟨_, PySem.W.kitx_int, True.intro, fun z => nomatch z⟩
  | str y => obtain ⟨t, q⟩ := (show ∃ t, u = Value.str y t from rx); cases q; exact ⟨_, PySem.W.kitx_str, True.intro, fun z => nomatch z⟩
  | flt y => obtain ⟨t, q⟩ := (show ∃ t, u = Value.float y t from rx); cases q; exact ⟨_, PySem.W.kitx_float, True.intro, fun z => nomatch z⟩
  | @lst a xs ea =>
    cases (show u = Value.ref a from rx)
    obtain ⟨_, _, n, _, h1⟩ := (show ObjOk X.prog X.w H s.heap a (.lst xs) from I.hok a _ ea)
    exact ⟨_, PySem.W.kitx_list, ⟨_, h1, rfl⟩, fun z => nomatch z⟩
  | @frz a ob xs ea =>
    cases (show u = Value.ref a from rx)
    obtain ⟨_, _, _, n, _, h1⟩ := (show ObjOk X.prog X.w H s.heap a (.frz ob (.lst xs)) from I.hok a _ ea)
    exact ⟨_, PySem.W.kitx_list, ⟨_, h1, rfl⟩, fun z => nomatch z⟩
  | @tup a xs ea =>
    cases (show u = Value.ref a from rx)
    obtain ⟨_, _, _, p⟩ := (show ObjOk X.prog X.w H s.heap a (.tup xs) from I.hok a _ ea)
    obtain ⟨o, h1, h2, _⟩ := p
    exact ⟨_, PySem.W.kitx_tuple, ⟨o, h1, h2⟩, fun z => nomatch z⟩
  | @dK a kvs ea =>
    cases (show u = Value.ref a from rx)
    obtain ⟨_, _, vs, _, p⟩ := (show ObjOk X.prog X.w H s.heap a (.dK kvs) from I.hok a _ ea)
    obtain ⟨o, es, ep, h1, h2, _⟩ := p
    exact ⟨_, PySem.W.kitx_dict, ⟨o, h1, h2.1⟩, fun z => nomatch z⟩
  | @dT a kvs ea =>
    cases (show u = Value.ref a from rx)
    obtain ⟨_, _, xs, _, o, es, ep, h1, h2, _⟩ := (show ObjOk X.prog X.w H s.heap a (.dT kvs) from I.hok a _ ea)
    exact ⟨_, PySem.W.kitx_dict, ⟨o, h1, h2.1⟩, fun z => nomatch z⟩
  | @ins a C dx fs ea cl ha hn htk hm =>
    cases (show u = Value.ref a from rx)
    obtain ⟨mA, O, _⟩ := ins_get I.hok ea
    obtain ⟨od, J, _⟩ := O.look
    exact ⟨_, PySem.W.kitx_own (cl.get _) cl.hd ha hn htk hm, J, fun z => nomatch z⟩
end
theorem vals_ty : ∀ {ns : List String} {us : List Value}, Vals (ns.map V.ty) us → us = ns.map Value.type
  | [], _, .nil => rfl
  | n :: ns, _, .cons r t => by
    rw [vals_ty t, show _ = Value.type n from r]
    rfl
section
variable {K : PySem.W.Frag}
theorem kTT : PySem.W.kitOne K (.type "tuple") (.type "tuple") = some true := rfl
theorem kTL : PySem.W.kitOne K (.type "tuple") (.type "list") = some false := by rfl
theorem kLT : PySem.W.kitOne K (.type "list") (.type "tuple") = some false := by rfl
theorem kLL : PySem.W.kitOne K (.type "list") (.type "list") = some true := rfl
theorem kaT : PySem.W.kitAny K (.type "tuple") (["list", "tuple"].map Value.type) = some true := by rfl
theorem kaL : PySem.W.kitAny K (.type "list") (["list", "tuple"].map Value.type) = some true := by rfl
theorem kaI : PySem.W.kitAny K (.type "int") (["list", "tuple"].map Value.type) = some false := by rfl
theorem kaB : PySem.W.kitAny K (.type "bool") (["list", "tuple"].map Value.type) = some false := by rfl
theorem kaN : PySem.W.kitAny K (.type "NoneType") (["list", "tuple"].map Value.type) = some false := by rfl
theorem kaS : PySem.W.kitAny K (.type "str") (["list", "tuple"].map Value.type) = some false := by rfl
theorem kIB : PySem.W.kitOne K (.type "int") (.type "bool") = some false := by rfl
theorem kBB : PySem.W.kitOne K (.type "bool") (.type "bool") = some true := by rfl
theorem kNB : PySem.W.kitOne K (.type "NoneType") (.type "bool") = some false := by rfl
theorem kSB : PySem.W.kitOne K (.type "str") (.type "bool") = some false := by rfl
end
end L2
namespace NH
open PySem L2
def Alk (H : Hp) : Nat → V → V → Prop
  | 0, _, _ => False
  | n + 1, x, y => (x = y ∧ flatV x = true) ∨ ∃ a b xs ys, x = .ref a ∧ y = .ref b ∧ ((H a = some (.lst xs) ∧ H b = some (.lst ys)) ∨ (H a = some (.tup xs) ∧ H b = some (.tup ys))) ∧ xs.length ≤ 100000 ∧ Paired (Alk H n) xs ys
theorem paired_two {α β γ δ : Type} {R : α → γ → Prop} {R' : β → γ → Prop} {S : δ → δ → Prop} {f : α → δ} {g : β → δ} (k : ∀ a b c, R a c → R' b c → S (f a) (g b)) : ∀ {as : List α} {bs : List β} {cs : List γ}, Paired R as cs → Paired R' bs cs → Paired S (as.map f) (bs.map g)
  | _, _, _, .nil, .nil => .nil
  | _, _, _, .cons r t, .cons r' t' => .cons (k _ _ _ r r') (paired_two k t t')
theorem alk_pair {H : Hp} {a b : Addr} {p : PegD} (h : PairAt H a p) (h' : PairAt H b p) : Alk H 2 (.ref a) (.ref b) :=
  .inr ⟨a, b, _, _, rfl, rfl, .inr ⟨h, h'⟩, by show 2 ≤ 100000; decide, .cons (.inl ⟨rfl, rfl⟩) (.cons (.inl ⟨rfl, rfl⟩) .nil)⟩
theorem alk_pegs {H : Hp} {a b : Addr} {ps : List PegD} (h : PegsAt H a ps) (h' : PegsAt H b ps) (l : ps.length ≤ 100000) : Alk H 3 (.ref a) (.ref b) := by
  obtain ⟨as, e, k⟩ := h
  obtain ⟨bs, e', k'⟩ := h'
  exact .inr ⟨a, b, _, _, rfl, rfl, .inr ⟨e, e'⟩, by rw [List.length_map, Paired.length k]; exact l, paired_two (R := PairAt H) (R' := PairAt H) (fun _ _ _ r r' => alk_pair r r') k k'⟩
theorem alk_hand {H : Hp} {a b : Addr} {hd : HandD} (l : hd.2.length ≤ 100000) (h : HandAt H a hd) (h' : HandAt H b hd) : Alk H 4 (.ref a) (.ref b) := by
  obtain ⟨p, e, k⟩ := h
  obtain ⟨p', e', k'⟩ := h'
  exact .inr ⟨a, b, _, _, rfl, rfl, .inr ⟨e, e'⟩, by show 2 ≤ 100000; decide, .cons (.inl ⟨rfl, rfl⟩) (.cons (alk_pegs k k' l) .nil)⟩
theorem alk_hands {H : Hp} : ∀ {w : WebD} {as bs : List Addr}, (∀ hd ∈ w, hd.2.length ≤ 100000) → Paired (HandAt H) as w → Paired (HandAt H) bs w → Paired (Alk H 4) (as.map V.ref) (bs.map V.ref)
  | _, _, _, _, .nil, .nil => .nil
  | _, _, _, l, .cons r t, .cons r' t' => .cons (alk_hand (l _ List.mem_cons_self) r r') (alk_hands (fun hd h => l hd (List.mem_cons_of_mem _ h)) t t')
theorem alk_web {H : Hp} {a b : Addr} {w : WebD} (h : WebAt H a w) (h' : WebAt H b w) (l : w.length ≤ 100000) (l' : ∀ hd ∈ w, hd.2.length ≤ 100000) : Alk H 5 (.ref a) (.ref b) := by
  obtain ⟨as, e, k⟩ := h
  obtain ⟨bs, e', k'⟩ := h'
  exact .inr ⟨a, b, _, _, rfl, rfl, .inr ⟨e, e'⟩, by rw [List.length_map, Paired.length k]; exact l, alk_hands l' k k'⟩
end NH
set_option Elab.async false
set_option linter.all false
set_option maxRecDepth 100000
set_option maxHeartbeats 1000000
set_option Elab.async false
set_option linter.all false
set_option maxRecDepth 100000
set_option maxHeartbeats 1000000
set_option Elab.async false
set_option linter.all false
set_option maxRecDepth 100000
set_option maxHeartbeats 1000000
namespace NH
open PySem L2
def FnAt (P : Program) (w : World) (K : PySem.W.Frag) (mg : Str → Option Value) (base : Heap) (n : Nat) (x : Str) (ps : List Str) (sp : Sp) : Prop :=
  ∃ (f : Addr) (fd : FuncData), FnOk P w K mg base CX0 n f fd ps sp ∧ Binds K fd ps [] ∧ mg x = some (.ref f) ∧ PySem.W.keepIn K (.ref f) = true
theorem plen_mem {w : WebD} {n : Nat} (h : ∀ (i : Nat) hd, w[i]? = some hd → hd.2.length ≤ n) : ∀ hd ∈ w, hd.2.length ≤ n := fun hd hm => by
  obtain ⟨i, e⟩ := List.getElem?_of_mem hm
  exact h i hd e
theorem Alk.web {H : Hp} {a b : Addr} {w : WebD} (h : WebAt H a w) (h' : WebAt H b w) (l : w.length ≤ 1000) (l' : ∀ (i : Nat) hd, w[i]? = some hd → hd.2.length ≤ 1000) : Alk H 5 (.ref a) (.ref b) :=
  alk_web h h' (by omega) fun hd hm => by have := plen_mem l' hd hm; omega
end NH
set_option Elab.async false
set_option linter.all false
set_option maxRecDepth 100000
set_option maxHeartbeats 1000000
set_option Elab.async false
set_option linter.all false
set_option maxRecDepth 100000
set_option maxHeartbeats 1000000
set_option Elab.async false
set_option linter.all false
set_option maxRecDepth 100000
set_option maxHeartbeats 1000000
set_option Elab.async false
set_option linter.all false
set_option maxRecDepth 100000
set_option maxHeartbeats 1000000
set_option Elab.async false
set_option linter.all false
set_option maxRecDepth 100000
set_option maxHeartbeats 1000000
set_option Elab.async false
set_option linter.all false
set_option maxRecDepth 100000
set_option maxHeartbeats 1000000
set_option Elab.async false
set_option linter.all false
set_option maxRecDepth 100000
set_option maxHeartbeats 1000000
set_option Elab.async false
set_option linter.all false
set_option maxRecDepth 100000
set_option maxHeartbeats 1000000
set_option Elab.async false
set_option linter.all false
set_option maxRecDepth 100000
set_option maxHeartbeats 4000000
set_option Elab.async false
set_option linter.all false
set_option maxRecDepth 100000
set_option maxHeartbeats 1000000
set_option Elab.async false
set_option linter.all false
set_option maxRecDepth 100000
set_option maxHeartbeats 1000000
namespace L2
open PySem PySem.Spec PyProof.Rows
structure BltMod (h : Heap) (mg : Str → Option Value) : Prop where
  ex : ∃ bm ob, mg "__builtins__" = some (.ref bm) ∧ bm ≠ builtinsNs ∧ h.get? bm = some ob ∧ ob.cls = .type "module" ∧ ob.dict = some builtinsNs ∧ ob.data = .plain
def OnlyT (tabs : List (Addr × Addr)) (H : Hp) : Prop := ∀ b, H b = none ∨ (∃ o xs, H b = some (.frz o (.lst xs))) ∨ (b ∈ tabs.map (·.2) ∧ H b = some (.tbl #[]))
theorem law_callT {P : Program} {w : World} {K : PySem.W.Frag} {mg mb : Str → Option Value} {CX : CXT} {k : Nat} {fa a : Addr} {fd : FuncData} {x : Str} {sp : Sp} {s₁ : Shared} {vs : List Value} {ns : List Int} {tabs : List (Addr × Addr)}
    (KX : K.In s₁.heap) (hns : s₁.heap.Ns mainGlobals mg) (hb : s₁.heap.Ns builtinsNs mb) (hbb : ∀ x : Str, x ≠ "__name__" → mb x = bootBuiltins x) (hlim : s₁.heap.NoLimit) (hg : s₁.gens = #[])
    (ha : s₁.heap.get? a = some { cls := .type "list", data := .seq vs.toArray }) (hi : IntsAre vs ns) (hl : ns.length ≤ sizeLine) (hr : Room k callerA)
    (hT : PySem.W.TabsAt tabs s₁.heap) (hbm : BltMod s₁.heap mg) (hnt : PySem.W.noTabs K = true)
    (F : ∀ base : Heap, K.In base → base.Ns mainGlobals mg → (∀ q ∈ tabs, PySem.W.CodeHd base q.1 q.2) → BltMod base mg → FnOk P w K mg base CX k fa fd [x] sp) (hbind : ∀ (s : Shared) (u : Value), BindsTo s fd ⟨[u], []⟩ [(x, u)])
    (hsp : ∀ H : Hp, OnlyT tabs H → (∀ q ∈ tabs, H q.2 = some (.tbl #[])) → SqL K H a (ns.map V.int) → sp [.ref a] H (fun v _ => v = .bl true) fun _ _ _ => False)
    (hCX : ∀ H e s', CX [] H s₁ (fun _ _ _ => False) e s' → False) :
    codeAny (model P w) callerA (.call (.ref fa) ⟨[.ref a], []⟩) (fun r s' => r = .ok (.ret (.bool true)) ∧ OldK s₁.heap s'.heap ∧ s'.os = s₁.os ∧ AllBare s'.gens) s₁ := by
  have rv := vals_ints hi
  have lenV := hi.length
  have tabO : ∀ b ∈ tabs.map (·.2), s₁.heap.get? b = some (PySem.W.tabObj #[]) := fun b hb => by
    obtain ⟨q, hq, rfl⟩ := List.mem_map.mp hb
    exact (hT q hq).2
  have aT : a ∉ tabs.map (·.2) := fun z => by
    have := tabO a z
    rw [ha] at this
    cases this
  have core : ∀ H : Hp, OnlyT tabs H → (∀ q ∈ tabs, H q.2 = some (.tbl #[])) → SqL K H a (ns.map V.int) → HOk P w H s₁.heap → (∀ b, H b ≠ none → b = a ∨ b ∈ tabs.map (·.2)) → (H a ≠ none → K.lookup a = none) →
      codeAny (model P w) callerA (.call (.ref fa) ⟨[.ref a], []⟩) (fun r s' => r = .ok (.ret (.bool true)) ∧ OldK s₁.heap s'.heap ∧ s'.os = s₁.os ∧ AllBare s'.gens) s₁ := by
    intro H hO hTb hS hok hA hK
    have base_of : ∀ {b : Addr} {o : Obj}, s₁.heap.get? b = some o → H b = none → (hidT s₁.heap H).get? b = some o := fun e n => hidT_get e n
    have noA : ∀ {b : Addr} {o : Obj} {es : Array DictEntry} {ep : Nat}, s₁.heap.get? b = some o → o.data = .dict es ep → H b = none := fun {b o es ep} e d => by
      cases q : H b with
      | none => rfl
      | some u =>
        rcases hA b (by rw [q]; simp) with e' | e'
        · subst e'
          rw [ha] at e; cases e
          have d' : Data.seq vs.toArray _ = Data.dict es ep := d
          cases d'
        · rw [tabO b e'] at e; cases e
          have d' : Data.fields _ = Data.dict es ep := d
          cases d'
    have nsK : ∀ {b : Addr} {m : Str → Option Value}, s₁.heap.Ns b m → (hidT s₁.heap H).Ns b m := fun {b m} ⟨o, es, ep, e, d, r⟩ => ⟨o, es, ep, base_of e (noA e d), d, r⟩
    have hKb : K.In (hidT s₁.heap H) := fun b o e => base_of (KX b o e) (by
      cases q : H b with
      | none => rfl
      | some u =>
        rcases hA b (by rw [q]; simp) with e' | e'
        · subst e'
          rw [hK (by rw [q]; simp)] at e; cases e
        · have z := KX b o e
          rw [tabO b e'] at z
          cases z
          have h2 := List.all_eq_true.mp hnt (b, _) (PySem.W.mem_of_lookupK e)
          exact absurd (show false = true from h2) Bool.false_ne_true)
    have hCd : ∀ q ∈ tabs, PySem.W.CodeHd (hidT s₁.heap H) q.1 q.2 := fun q hq => by
      obtain ⟨o, vs', file, tf, flags, tg, inF, text, tt, e1, r1, r⟩ := (hT q hq).1
      refine ⟨o, vs', file, tf, flags, tg, inF, text, tt, base_of e1 ?_, r1, r⟩
      cases z : H q.1 with
      | none => rfl
      | some u =>
        rcases hA q.1 (by rw [z]; simp) with e' | e'
        · rw [e', ha] at e1
          cases e1
          injection (show (Value.type "list") = .type "code" from r1) with z1
          exact absurd z1 (by decide)
        · rw [tabO _ e'] at e1
          cases e1
          cases r1
    have hB : BltMod (hidT s₁.heap H) mg := by
      obtain ⟨bm, ob, b1, b2, b3, b4, b5, b6⟩ := hbm.ex
      refine ⟨bm, ob, b1, b2, base_of b3 ?_, b4, b5, b6⟩
      cases z : H bm with
      | none => rfl
      | some u =>
        rcases hA bm (by rw [z]; simp) with e' | e'
        · rw [e', ha] at b3
          cases b3
          cases b6
        · rw [tabO _ e'] at b3
          cases b3
          cases b6
    have hM : Mod K mg (hidT s₁.heap H) := ⟨hKb, nsK hns, ⟨mb, nsK hb, hbb⟩, let ⟨mc, h1, h2⟩ := hlim; ⟨mc, nsK h1, h2⟩⟩
    have e0 : Env0 P w K mg (hidT s₁.heap H) callerA [] s₁ H := ⟨rfl, hM, fun b o e => of_hidT e, Nat.le_of_eq (hidT_size _ _), trivial, fun b hb => absurd (show b ∈ ([] : List Addr) from hb) (by simp), hok, .of_eq hg⟩
    refine codeAny_mono ((F _ hKb (nsK hns) hCd hB).run callerA [] s₁ H ⟨[.ref a], []⟩ [.ref a] [.ref a] _ _ hr e0 (hbind s₁ (.ref a)) (.cons rfl .nil) (hsp H hO hTb hS)) fun r s' h => ?_
    cases r with
    | error e => exact (hCX H e s' h).elim
    | ok fl =>
      cases fl with
      | next => exact False.elim h
      | brk => exact False.elim h
      | cont => exact False.elim h
      | ret u =>
        obtain ⟨v, H', os, bare, un, hok', r', q⟩ := h
        have q' : v = .bl true := q
        subst q'
        obtain rfl : u = Value.bool true := r'
        have each : ∀ b o, s₁.heap.get? b = some o → s'.heap.get? b = some o ∨ (b ∈ tabs.map (·.2) ∧ o = PySem.W.tabObj #[] ∧ ∃ more, s'.heap.get? b = some (PySem.W.tabObj more)) := fun b o e => by
          cases q : H b with
          | none => exact .inl (un.keep b o e q (by intro z; exact absurd (show b ∈ ([] : List Addr) from z) (by simp)) (by simp))
          | some u =>
            rcases hO b with z | ⟨ob, xs, z⟩ | ⟨m, z⟩
            · rw [q] at z; cases z
            · have z2 := un.frzs b ob _ z
              obtain ⟨e1, _⟩ := hok b _ z
              obtain ⟨e2, _⟩ := hok' b _ z2
              rw [e] at e1; cases e1
              exact .inl e2
            · obtain ⟨more, z2⟩ := un.tbls b _ z
              have e2 : s'.heap.get? b = some _ := hok' b _ z2
              rw [tabO b m] at e
              cases e
              exact .inr ⟨m, rfl, _, e2⟩
        refine ⟨rfl, ⟨fun b o e => ?_, fun b o e => ?_⟩, os, bare⟩
        · rcases each b o e with h | ⟨m, rfl, more, h⟩
          · exact .inl h
          · obtain ⟨q, hq, rfl⟩ := List.mem_map.mp m
            refine .inr (.inl ⟨((hT q hq).1.tab (hT q hq).2).isCodeTable, rfl, #[], more, rfl, ?_⟩)
            rw [h]
            simp
        · rcases each b o e with h | ⟨m, rfl, more, h⟩
          · exact ⟨_, h⟩
          · exact ⟨_, h⟩
  have pick : ∀ b, (if b ∈ tabs.map (·.2) then some (HO.tbl #[]) else none) ≠ none → b ∈ tabs.map (·.2) := fun b z => by
    by_cases hb : b ∈ tabs.map (·.2)
    · exact hb
    · rw [if_neg hb] at z; exact absurd rfl z
  cases hk : K.lookup a with
  | some o =>
    have e := KX a o hk
    rw [ha] at e
    cases e
    refine core (fun b => if b ∈ tabs.map (·.2) then some (.tbl #[]) else none) (fun b => ?_) (fun q hq => if_pos (List.mem_map_of_mem hq)) (.inr ⟨_, vs.toArray, _, hk, rfl, rfl, rfl, by rw [List.size_toArray, lenV]; exact hl, by simpa using rv⟩) (fun b u z => ?_) (fun b z => .inr (pick b z)) fun z => absurd (if_neg aT) z
    · by_cases hb : b ∈ tabs.map (·.2)
      · exact .inr (.inr ⟨hb, if_pos hb⟩)
      · exact .inl (if_neg hb)
    · by_cases hb : b ∈ tabs.map (·.2)
      · have z' := (if_pos hb).symm.trans z
        cases z'
        exact tabO b hb
      · have z' := (if_neg hb).symm.trans z
        cases z'
  | none =>
    refine core (fun b => if b = a then some (.frz { cls := .type "list", data := .seq vs.toArray } (.lst (ns.map V.int))) else if b ∈ tabs.map (·.2) then some (.tbl #[]) else none) (fun b => ?_) (fun q hq => ?_) (.inl (.inr ⟨{ cls := .type "list", data := .seq vs.toArray }, if_pos rfl⟩)) (fun b u z => ?_) (fun b z => ?_) fun _ => hk
    · by_cases hb : b = a
      · exact .inr (.inl ⟨_, _, if_pos hb⟩)
      · by_cases hb2 : b ∈ tabs.map (·.2)
        · exact .inr (.inr ⟨hb2, (if_neg hb).trans (if_pos hb2)⟩)
        · exact .inl ((if_neg hb).trans (if_neg hb2))
    · have hm := List.mem_map_of_mem (f := (·.2)) hq
      show (if q.2 = a then _ else if q.2 ∈ tabs.map (·.2) then _ else _) = _
      rw [if_neg (show ¬ q.2 = a from fun z => aT (z ▸ hm)), if_pos hm]
    · by_cases hb : b = a
      · have z' := (if_pos hb).symm.trans z
        cases z'
        subst hb
        exact ⟨ha, by rw [List.length_map]; exact hl, vs, _, rv, ha⟩
      · have z1 := (if_neg hb).symm.trans z
        by_cases hb2 : b ∈ tabs.map (·.2)
        · have z' := (if_pos hb2).symm.trans z1
          cases z'
          exact tabO b hb2
        · have z' := (if_neg hb2).symm.trans z1
          cases z'
    · by_cases hb : b = a
      · exact .inl hb
      · by_cases hb2 : b ∈ tabs.map (·.2)
        · exact .inr hb2
        · exact absurd ((if_neg hb).trans (if_neg hb2)) z
theorem walk_ofT {l : PySem.W.OpenLaw} {n k : Nat} {q : Program} {loose : List Str} {XP : (Str → Option Value) → Heap → Prop} {YP : World → Heap → Prop} {d : DefRec} {K : Params → PySem.W.Frag} {CX : World → CXT} {sp : World → List (Addr × Addr) → Sp} {x : Str} {xs : List Str} {tabs : Params → List (Addr × Addr)}
    (hn : l.most = some n) (hn2 : n ≤ sizeLine) (hdf : d.params.defaults = []) (hr : Room k callerA)
    (hY : ∀ (w : World) (h : Heap), YP w h → (K w.params).In h)
    (hx : ∀ y ∈ xs, ∃ d', (recsOf q).find? (fun e => e.name == y) = some d')
    (ht : ∀ p, ∀ t ∈ tabs p, ∃ y ∈ xs, PySem.W.tabIn (K p) y = some t) (hnt : ∀ p, PySem.W.noTabs (K p) = true)
    (F : ∀ (w : World) (mg : Str → Option Value) (fa : Addr) (h : Heap), (K w.params).In h → h.Ns mainGlobals mg → mg d.name = some (.ref fa) →
      ∃ fd : FuncData, (∀ (s : Shared) (u : Value), BindsTo s fd ⟨[u], []⟩ [(x, u)]) ∧
        ∀ base : Heap, (K w.params).In base → base.Ns mainGlobals mg → (∀ t ∈ tabs w.params, PySem.W.CodeHd base t.1 t.2) → BltMod base mg → FnOk l.prog w (K w.params) mg base (CX w) k fa fd [x] (sp w (tabs w.params)))
    (hsp : ∀ (w : World) (H : Hp) (a : Addr) (ns : List Int), ns.length ≤ n → OnlyT (tabs w.params) H → (∀ t ∈ tabs w.params, H t.2 = some (.tbl #[])) → SqL (K w.params) H a (ns.map V.int) → sp w (tabs w.params) [.ref a] H (fun v _ => v = .bl true) fun _ _ _ => False)
    (hCX : ∀ (w : World) (H : Hp) (s : Shared) (e : Value) (s' : Shared), CX w [] H s (fun _ _ _ => False) e s' → False) :
    PySem.W.WalkO q loose XP YP l.row.toRowW d [] (fun f vs => PySem.call f vs) := by
  refine Att.attach_call hn hdf fun w s₀ s₁ mg mb fa o pm cd doc a vs ns G Y ho hd hcd hmg hobj hints hlen hg => ?_
  have KX := hY w _ Y
  obtain ⟨fd, hb, hF⟩ := F w mg fa _ KX G.T.g hmg
  have hT : PySem.W.TabsAt (tabs w.params) s₁.heap := fun t mt => by
    obtain ⟨y, my, ey⟩ := ht w.params t mt
    obtain ⟨d', ed⟩ := hx y my
    exact PySem.W.tab_of G.T KX ed ey
  exact law_callT KX G.T.g G.T.b G.T.builtins G.T.nolimit hg hobj hints (Nat.le_trans hlen hn2) hr hT ⟨G.T.bmain⟩ (hnt _) hF hb (fun H hO hTb hS => hsp w H a ns hlen hO hTb hS) fun H e s' => hCX w H s₁ e s'
end L2
set_option Elab.async false
set_option linter.all false
set_option maxRecDepth 100000
set_option maxHeartbeats 1000000
namespace L2
open PySem PySem.Spec PyProof.Rows
section
variable {prog : Program} {w : World} {A : Around}
abbrev genE (elt tg iter : Expr) (scope : Scope) (pos : Pos) : Expr := .GeneratorExp elt [⟨tg, iter, [], 0⟩] scope pos
abbrev genL (elt tg iter : Expr) (scope : Scope) (pos : Pos) (I : Addr) (cenv : Env) : Code := .compLoop (genE elt tg iter scope pos) 0 (.ref I) .none cenv
abbrev genS (elt tg iter : Expr) (scope : Scope) (pos : Pos) (I : Addr) (cenv : Env) : Code := .compStart (genE elt tg iter scope pos) 0 (.ref I) .none cenv
def GenTurn (prog : Program) (w : World) (A' : Around) (elt tg : Expr) (I : Addr) (cenv : Env) (J : Nat → Nat → Shared → Prop) (Yl : Nat → Nat → Value → Shared → Prop) (Dn : Shared → Prop) : Prop :=
  ∀ i m s, J i m s → wpAny (model prog w) A' (pyNext (.ref I)) (fun r s1 => match r with
    | none => Dn s1
    | some v => wpAny (model prog w) A' (letOwnedTupleGo tg (.ref I) v) (fun _ s2 => wpAny (model prog w) A' (assign tg cenv v) (fun _ s3 => wpAny (model prog w) A' (eval elt cenv) (fun y s4 => ∃ m', m' < m ∧ Yl i m' y s4) (fun _ _ => False) s3) (fun _ _ => False) s2) (fun _ _ => False) s1) (fun _ _ => False) s
abbrev genR (Dn : Shared → Prop) : GenEnd := fun _ _ r s₁ => r = .ok .next ∧ Dn s₁
abbrev genY (Yl : Nat → Nat → Value → Shared → Prop) (Rl : Value → Shared → Shared → Prop) : Protocol := fun n _ v s kap => ∃ i m, m ≤ n ∧ Yl i m v s ∧ ∀ s', Rl v s s' → kap (.send .none) s'
theorem yields {cenv : Env} (hco : cenv.scope.isCoroutine = false) : yieldOut cenv = yieldValue := by
  funext v
  simp [yieldOut, hco]
theorem seg_genI {elt tg iter : Expr} {scope : Scope} {pos : Pos} {I : Addr} {cenv : Env} {J : Nat → Nat → Shared → Prop} {Yl : Nat → Nat → Value → Shared → Prop} {Dn : Shared → Prop} {Rl : Value → Shared → Shared → Prop}
    (hco : cenv.scope.isCoroutine = false) (go : GenTurn prog w (A.over (genL elt tg iter scope pos I cenv) []) elt tg I cenv J Yl Dn) (re : ∀ i m y s s', Yl i m y s → Rl y s s' → J (i + 1) m s') :
    ∀ (m n i : Nat) (s₀ s : Shared), m ≤ n → J i m s → Seg (model prog w) A (genR Dn) (genY Yl Rl) n s₀ (genL elt tg iter scope pos I cenv) ((model prog w).den (genL elt tg iter scope pos I cenv)) [] s := by
  intro m
  induction m using Nat.strongRecOn with
  | _ m ih =>
    intro n i s₀ s hmn hj
    have turn := go i m s hj
    have den : (model prog w).den (genL elt tg iter scope pos I cenv) = (compTurn (genE elt tg iter scope pos) 0 (.ref I) .none cenv).onRaise (leaving cenv) := rfl
    rw [den, Sem.onRaise_eq_wrap, compTurn_gen]
    refine seg_bind_wrap (wpAny_standAt (seg_bind_wrap (wpAny_mono turn (fun r s1 h1 => ?_) fun _ _ e => e.elim)))
    cases r with
    | none => exact seg_end (.ok .next) ⟨rfl, h1⟩
    | some v =>
      refine seg_bind_wrap (wpAny_mono h1 (fun _ s2 h2 => seg_bind_wrap (wpAny_mono h2 (fun _ s3 h3 => seg_bind_wrap (wpAny_pure ?_)) fun _ _ e => e.elim)) fun _ _ e => e.elim)
      simp only [if_true, yields hco, Sem.bind_eq_wrap', Sem.wrap_wrap]
      refine seg_wrap (wpAny_mono h3 (fun y s4 ⟨m', lt, hy⟩ => ?_) fun _ _ e => e.elim)
      cases n with
      | zero => omega
      | succ n => exact seg_at (seg_yield rfl rfl rfl ⟨i, m', by omega, hy, fun s' hr => seg_again rfl (ih m' lt n (i + 1) s' s' (by omega) (re i m' y s4 s' hy hr))⟩)
theorem seg_startI {elt tg iter : Expr} {scope : Scope} {pos : Pos} {I : Addr} {cenv : Env} {J : Nat → Nat → Shared → Prop} {Yl : Nat → Nat → Value → Shared → Prop} {Dn : Shared → Prop} {Rl : Value → Shared → Shared → Prop}
    (hco : cenv.scope.isCoroutine = false) (go : GenTurn prog w (A.over (genL elt tg iter scope pos I cenv) []) elt tg I cenv J Yl Dn) (re : ∀ i m y s s', Yl i m y s → Rl y s s' → J (i + 1) m s')
    {m n : Nat} {s₀ s : Shared} (hmn : m ≤ n) (hj : J 0 m s) (self : ∀ (A' : Around) (Q : Value → Shared → Prop) (E : Value → Shared → Prop), Q (.ref I) s → wpAny (model prog w) A' (pyIter (.ref I)) Q E s) :
    Seg (model prog w) A (genR Dn) (genY Yl Rl) n s₀ (genS elt tg iter scope pos I cenv) ((model prog w).den (genS elt tg iter scope pos I cenv)) [] s := by
  have loop := seg_genI (A := A) hco go re m n 0 s₀ s hmn hj
  have den : (model prog w).den (genS elt tg iter scope pos I cenv) = (compStart (genE elt tg iter scope pos) 0 (.ref I) .none cenv).onRaise (leaving cenv) := rfl
  rw [den, Sem.onRaise_eq_wrap]
  unfold compStart
  refine seg_bind_wrap (m := ask) (wpAny_askSetting ?_)
  split
  · exact seg_again rfl loop
  · refine seg_bind_wrap (wpAny_rule ?_)
    exact seg_bind_wrap (m := standAt iter.pos) (wpAny_standAt (seg_bind_wrap (self _ _ _ (seg_again rfl loop))))
structure GenIAt (prog : Program) (w : World) (A : Around) (Yl : Nat → Nat → Value → Shared → Prop) (Dn : Shared → Prop) (Rl : Value → Shared → Shared → Prop) (a : Addr) (g n : Nat) (s : Shared) : Prop where
  gen : s.heap.IsGen a g
  st : ∃ gs, s.gens[g]? = some gs ∧ gs.Goes (model prog w) A.in1 (genR Dn) (genY Yl Rl) n (.send .none) (s.setGen g .running)
theorem next_genI {Yl : Nat → Nat → Value → Shared → Prop} {Dn : Shared → Prop} {Rl : Value → Shared → Shared → Prop} {a : Addr} {g n : Nat} {s : Shared} {Q : Option Value → Shared → Prop} {E : Value → Shared → Prop}
    (hh : A.handled = none) (hl : s.heap.NoLimit) (hroom : A.depth < recursionLimit) (h : GenIAt prog w A Yl Dn Rl a g n s)
    (hY : ∀ v s₁ gs' i m, gs'.bare = true → m ≤ n - 1 → Yl i m v s₁ → (∀ s', Rl v s₁ s' → ∃ n', n = n' + 1 ∧ gs'.Goes (model prog w) A.in1 (genR Dn) (genY Yl Rl) n' (.send .none) s') → Q (some v) (s₁.setGen g gs'))
    (hD : ∀ s₁ h', Dn s₁ → (∀ b o, s₁.heap.get? b = some o → h'.get? b = some o) → Q none { s₁.setGen g .finished with heap := h' }) :
    wpAny (model prog w) A (pyNext (.ref a)) Q E s := by
  obtain ⟨gs, hgs, hgo⟩ := h.st
  refine wpAny_pyNext_genexpQ (P := fun _ _ s₁ => Dn s₁) hh hl hroom h.gen hgs hgo (fun v s₁ gs' hb hv => ?_) (fun s₁ hp h' hk => hD s₁ h' hp hk)
  obtain ⟨i, m, hm, hy, hkap⟩ := hv
  refine hY v s₁ gs' i m hb hm hy fun s' hr => ?_
  have := hkap s' hr
  cases n with
  | zero => exact this.elim
  | succ n' => exact ⟨n', rfl, this⟩
end
end L2
set_option Elab.async false
set_option linter.all false
set_option maxRecDepth 100000
set_option maxHeartbeats 1000000
namespace L2
open PySem PySem.Spec PyProof.Rows
section
variable {prog : Program} {w : World} {A : Around} {Yl : Nat → Nat → Value → Shared → Prop} {Dn : Shared → Prop} {Rl : Value → Shared → Shared → Prop} {a : Addr} {g : Nat} {R : Result → Shared → Prop}
structure GenUse (st : Bool) (Yl : Nat → Nat → Value → Shared → Prop) (Rl : Value → Shared → Shared → Prop) (a : Addr) (g : Nat) : Prop where
  bool : ∀ i m v s, Yl i m v s → ∃ b, v = .bool b
  gen : ∀ i m v s, Yl i m v s → s.heap.IsGen a g ∧ s.heap.NoLimit ∧ g < s.gens.size
  back : ∀ i m s gs', Yl i m (.bool (!st)) s → gs'.bare = true → Rl (.bool (!st)) s ((s.setGen g gs').setGen g .running)
theorem setGen_at {s : Shared} {g : Nat} {x : GenState} (h : g < s.gens.size) : (s.setGen g x).gens[g]? = some x := by
  simp [Shared.setGen, h]
theorem GenUse.on {st : Bool} (U : GenUse st Yl Rl a g) {i m n : Nat} {s₁ : Shared} {gs' : GenState} (hy : Yl i m (.bool (!st)) s₁) (hb : gs'.bare = true)
    (k : ∀ s', Rl (.bool (!st)) s₁ s' → ∃ n', n = n' + 1 ∧ gs'.Goes (model prog w) A.in1 (genR Dn) (genY Yl Rl) n' (.send .none) s') : ∃ n', n = n' + 1 ∧ (s₁.setGen g gs').heap.NoLimit ∧ GenIAt prog w A Yl Dn Rl a g n' (s₁.setGen g gs') := by
  obtain ⟨h1, h2, h3⟩ := U.gen i m _ s₁ hy
  obtain ⟨n', e, h⟩ := k _ (U.back i m s₁ gs' hy hb)
  exact ⟨n', e, h2, h1, gs', setGen_at h3, h⟩
theorem any_loopI (U : GenUse true Yl Rl a g) (hh : A.handled = none) (hroom : A.in1.depth < recursionLimit)
    (hT : ∀ i m s gs', Yl i m (.bool true) s → gs'.bare = true → R (.ok (.ret (.bool true))) (s.setGen g gs'))
    (hF : ∀ s₁ h', Dn s₁ → (∀ b o, s₁.heap.get? b = some o → h'.get? b = some o) → R (.ok (.ret (.bool false))) { s₁.setGen g .finished with heap := h' })
    (n : Nat) : ∀ s : Shared, s.heap.NoLimit → GenIAt prog w A.in1 Yl Dn Rl a g n s → codeAny (model prog w) A (.builtin "any.loop" ⟨[.ref a], []⟩) R s := by
  induction n using Nat.strongRecOn with
  | _ n ih =>
    intro s hl h
    refine codeAny_builtin F.entry_any_loop (by
      rw [Around.under_plainId F.plain_any_loop]
      refine wpAny_bind (next_genI hh hl hroom h (fun v s₁ gs' i m hb hm hy k => ?_) fun s₁ h' hd hk => ?_)
      · obtain ⟨b, rfl⟩ := U.bool i m v s₁ hy
        cases b with
        | false =>
          wp_walk using wpAny_truthy_bool
          obtain ⟨n', rfl, hl', h'⟩ := U.on hy hb k
          exact ⟨plainId_quiet F.plain_any_loop _, ih n' (Nat.lt_succ_self _) _ hl' h'⟩
        | true =>
          wp_walk using wpAny_truthy_bool
          exact hT i m s₁ gs' hy hb
      · wp_walk
        exact hF s₁ h' hd hk)
theorem call_anyI {n : Nat} {s : Shared} {E : Value → Shared → Prop} {Q : Value → Shared → Prop} (U : GenUse true Yl Rl a g) (hh : A.handled = none) (hroom : A.in1.depth < recursionLimit) (hl : s.heap.NoLimit) (h : GenIAt prog w A.in1 Yl Dn Rl a g n s)
    (hT : ∀ i m s gs', Yl i m (.bool true) s → gs'.bare = true → Q (.bool true) (s.setGen g gs'))
    (hF : ∀ s₁ h', Dn s₁ → (∀ b o, s₁.heap.get? b = some o → h'.get? b = some o) → Q (.bool false) { s₁.setGen g .finished with heap := h' }) :
    wpAny (model prog w) A (call (.builtin "any") [.ref a]) Q E s := by
  have loop := any_loopI (A := A) (R := fun r s' => match r with | .ok (.ret v) => Q v s' | .ok _ => False | .error e => E e s') U hh hroom hT hF n s hl h
  exact call_function_tree F.kind_any F.plain_any F.entry_any (F.args_any1 _) (wpAny_bind (m := oneArg "any" _) (wpAny_pure (wpAny_bind (wpAny_pyIter_gen h.gen (wpAny_pure ⟨plainId_quiet F.plain_any_loop _, loop⟩)))))
end
end L2
set_option Elab.async false
set_option linter.all false
set_option maxRecDepth 100000
set_option maxHeartbeats 1000000
namespace L2
open PySem PySem.Spec PyProof.Rows
abbrev Cx.gblk (X : Cx) (A' : Around) (s : Shared) (H : Hp) (cenv : Env) (fp : List Addr) (pn : List (Addr × Obj)) : Cx := { X with A := A', s_0 := s, H_0 := H, env := cenv, outer := X.stack, stack := cenv :: X.stack, ex := fp, fn := fun _ => false, pn := pn, xe := fun _ _ => False }
abbrev genV (X : Cx) (scope : Scope) (C : Addr) (code : Value) : Env := genEnv scope (cloFrom X.env.cells scope.names []) C code builtinsNs X.env
section
variable {X : Cx} {pins : List (Addr × Obj)} {σ : St} {H : Hp} {s : Shared}
theorem gen_start {scope : Scope} {own : List (Str × Nat)} {fp : List Addr} {code : Value} {A' : Around} {s' : Shared} {m : Str → Option Value} {a : Addr} {oa : Obj} (I : Inv X pins σ H s) (ok : BlkOk X.N X.env.scope scope own) (hN : X.N.Nodup) (hfp : ∀ b ∈ fp, FpOk X pins H b ∧ b < s.heap.objs.size)
    (hcell : ∀ y ∈ scope.names, y.2 ≠ .cell) (hfr : A'.frames = some (genV X scope s.heap.objs.size code :: X.stack)) (hh : A'.handled = none)
    (kp : ∀ b o, s.heap.get? b = some o → s'.heap.get? b = some o) (hns : s'.heap.Ns s.heap.objs.size m) (hos : s'.os = s.os) (hbare : AllBare s'.gens) (ha : s'.heap.get? a = some oa) (haC : s.heap.objs.size < a) (hoa : ∀ v, oa.data ≠ .cell v) :
    Inv (X.gblk A' s H (genV X scope s.heap.objs.size code) fp [(a, oa)]) [] (wipe σ (own.map (·.2))) H s' := by
  have hfree : ∀ y ∈ scope.names, y.2 = .free → ∃ c, X.env.cells.lookup y.1 = some c := fun y hy e => by
    rcases ok.free y hy e with k | k
    · exact I.ok.has _ (.inl k)
    · exact I.ok.has _ (.inr k)
  generalize hcenv : genV X scope s.heap.objs.size code = cenv at hfr ⊢
  have hL : cenv.locals = s.heap.objs.size := by rw [← hcenv]; rfl
  have hF : cenv.frame = some s.heap.objs.size := by rw [← hcenv]; rfl
  have hcl : cenv.cells = cloFrom X.env.cells scope.names [] := by rw [← hcenv]; rfl
  have hsc : cenv.scope = scope := by rw [← hcenv]; rfl
  have cm : ∀ {y c}, (y, c) ∈ cloFrom X.env.cells scope.names [] → X.env.cells.lookup y = some c ∧ c < s.heap.objs.size := fun {y c} hm => by
    rcases cloFrom_mem hm with hm | ⟨h1, rfl⟩
    · cases hm
    · obtain ⟨c, hc⟩ := hfree _ h1 rfl
      rw [hc]
      obtain ⟨w, z⟩ := I.cell _ _ hc
      exact ⟨rfl, z.lt⟩
  have mem : ∀ {y c}, cenv.cells.lookup y = some c → X.env.cells.lookup y = some c ∧ c < s.heap.objs.size := fun {y c} e => by
    rw [hcl] at e
    exact cm (PySem.mem_of_lookup e)
  have look : ∀ {y}, scope.names.lookup y = some .free → ∃ c, cenv.cells.lookup y = some c ∧ X.env.cells.lookup y = some c := fun {y} hl => by
    have hy : (y, NameKind.free) ∈ scope.names := PySem.mem_of_lookup hl
    obtain ⟨c', e'⟩ := mem_lookup (cloFrom_has (cells := X.env.cells) (acc := []) hy)
    rw [← hcl] at e'
    exact ⟨c', e', (mem e').1⟩
  have kd : ∀ y, cenv.kindOf y = scope.names.lookup y := fun y => by
    show cenv.scope.names.lookup y = _
    rw [hsc]
  have okB : (X.gblk A' s H cenv fp [(a, oa)]).Ok := by
    refine ⟨I.ok.mod, by show cenv.scope.kind = _; rw [hsc]; exact ok.kind, by show cenv.globals = _; rw [← hcenv]; exact I.ok.glob, by show cenv.builtins = _; rw [← hcenv]; rfl, by show s.heap.objs.size ≤ cenv.locals; rw [hL]; exact Nat.le_refl _,
      fun y z c e1 e2 => I.ok.inj y z c (mem e1).1 (mem e2).1, fun y hy => ?_, fun y c z e => absurd z Bool.false_ne_true, fun _ => hh, hfr, .inr ⟨rfl, by show cenv.frame = some cenv.locals; rw [hF, hL]⟩, fun b hb => ⟨?_, fun y c e z => ?_⟩, I.bs, Nat.le_trans I.ok.bsz I.sz, fun b o e hb => ?_, fun b hb z => ?_, I.stack, I.stkFree⟩
    · show ∃ c, cenv.cells.lookup y = some c
      have hy : cenv.kindOf y = some .cell ∨ cenv.kindOf y = some .free := hy
      rw [kd] at hy
      rcases hy with hy | hy
      · exact absurd rfl (hcell _ (PySem.mem_of_lookup hy))
      · obtain ⟨c, h1, _⟩ := look hy
        exact ⟨c, h1⟩
    · show b ≠ cenv.locals
      rw [hL]; exact Nat.ne_of_lt (hfp b hb).2
    · exact (hfp b hb).1.2.2.2.2.1 y c (mem e).1 z
    · rcases (hfp b hb).1.2.2.2.1 with z | z
      · exact I.ok.noex b o e z
      · exact absurd (Nat.lt_of_lt_of_le (Heap.lt_size e) (Nat.le_trans I.ok.bsz z)) (Nat.lt_irrefl _)
    · rcases List.mem_cons.mp (I.stkSub b z) with z | z
      · exact (hfp b hb).1.2.1 z
      · exact (hfp b hb).1.2.2.1 z
  refine ⟨okB, hos, hbare, Un.kept kp, ⟨m, ?_, fun i y av e1 e2 e3 => ?_⟩, fun y c e => ?_, ?_, fun y c e => ?_, fun p hp => ?_, I.hok.kept kp, by rw [wipe_length]; exact I.len⟩
  · show Heap.Ns _ cenv.locals _
    rw [hL]
    exact hns
  · obtain ⟨e2, hne⟩ := wipe_some e2
    have hfr : scope.names.lookup y = some .free ∧ (cenv.kindOf y = some .cell ∨ cenv.kindOf y = some .free) := by
      have e3 : Vis cenv.scope y := e3
      rw [hsc] at e3
      have no : ∀ k, scope.names.lookup y = some k → ¬ (k = .local ∨ k = .cell) := fun k e hh => by
        rcases ok.own _ (PySem.mem_of_lookup e) hh with e' | e'
        · obtain ⟨p, hp, hpy⟩ := List.mem_map.mp e'
          have e3 := ok.ix p hp
          have : p.1 = y := hpy
          rw [this] at e3
          exact hne (List.mem_map.mpr ⟨p, hp, nodup_ix hN e3 e1⟩)
        · exact e' (List.mem_of_getElem? e1)
      rcases e3 with e3 | e3 | e3
      · exact absurd (.inl rfl) (no _ e3)
      · exact absurd (.inr rfl) (no _ e3)
      · exact ⟨e3, .inr (by rw [kd]; exact e3)⟩
    obtain ⟨m, hn, hl⟩ := I.loc
    have hvis : Vis X.env.scope y := (ok.free _ (PySem.mem_of_lookup hfr.1) rfl).elim (fun k => .inr (.inl k)) (fun k => .inr (.inr k))
    obtain ⟨w, r, q⟩ := hl i y av e1 e2 hvis
    refine ⟨w, r, .inr ⟨hfr.2, ?_⟩⟩
    obtain ⟨c, h1, h2⟩ := look hfr.1
    rcases q with ⟨k, _⟩ | ⟨_, c', e', z⟩
    · have k : X.env.scope.names.lookup y = some .local := k
      rcases ok.free _ (PySem.mem_of_lookup hfr.1) rfl with k' | k' <;> rw [show X.env.scope.names.lookup y = _ from k'] at k <;> cases k
    · rw [h2] at e'; cases e'
      exact ⟨c, h1, z.keeps kp⟩
  · obtain ⟨h1, _⟩ := mem e
    obtain ⟨w, z⟩ := I.cell y c h1
    exact ⟨w, z.keeps kp⟩
  · show H cenv.locals = none
    rw [hL]; exact I.hok.fresh (Nat.le_refl _)
  · exact I.freeC y c (mem e).1
  · have hp : p = (a, oa) := by
      have : p ∈ [(a, oa)] ++ ([] : List (Addr × Obj)) := hp
      simpa using this
    subst hp
    refine ⟨ha, I.hok.fresh (Nat.le_of_lt haC), by show a ≠ cenv.locals; rw [hL]; exact Nat.ne_of_gt haC, fun z => ?_, hoa⟩
    rcases List.mem_cons.mp (I.stkSub a z) with z | z
    · exact absurd (Nat.lt_trans I.lt haC) (by rw [z]; exact Nat.lt_irrefl _)
    · exact I.nofs (Nat.le_of_lt haC) z
end
end L2
set_option Elab.async false
set_option linter.all false
set_option maxRecDepth 100000
set_option maxHeartbeats 1000000
namespace L2
open PySem PySem.Spec PyProof.Rows
section
variable {M : Model} {A : Around} {E : Value → Shared → Prop} {s : Shared}
theorem genexprCodeT {env : Env} {c P : Addr} {ps : Array Value} {pos : Pos} {qualname : Str} {scope : Scope} {Q : Value → Shared → Prop} (hc : env.code = .ref c) (hC : PySem.W.CodeHd s.heap c P) (hP : s.heap.get? P = some (PySem.W.tabObj ps)) (ht : TriplesOk ps.toList)
    (hQ : ∀ code h' tk more, (∀ b o, b ≠ P → s.heap.get? b = some o → h'.get? b = some o) → h'.get? P = some (PySem.W.tabObj (ps ++ more)) → TriplesOk (ps ++ more).toList → Q code { s with heap := h', toks := tk }) :
    wpAny M A (genexprCode env pos qualname scope) Q E s := by
  have tab := hC.code hP ht
  obtain ⟨o, vs, file, tf, flags, tg, inF, text, tt, op, ho, hd, h11, h2, h7, h9, h10, hop, hpd, htr, hne⟩ := tab
  cases hP.symm.trans hop
  have some_c : (Value.ref c == Value.none) = false := rfl
  unfold genexprCode codeAt
  simp only [hc, some_c, Bool.false_eq_true, ↓reduceIte]
  wp_walk using wpAny_fieldsOf ho hd
  simp only [h11]
  wp_walk using wpAny_fieldsOf hP hpd
  cases among : codeAmong pos ps.toList with
  | some cv => exact wpAny_pure (hQ cv s.heap s.toks #[] (fun _ _ _ e => e) (by simpa using hP) (by simpa using ht))
  | none =>
    simp only [h2, h7, h9, h10]
    refine wpAny_bind (wpAny_newCode fun c' P' h' tk hk _ _ _ _ => ?_)
    have put : (h'.update P (Obj.mapFields fun vs => if (codeAmong pos vs.toList).isSome = true then vs else vs ++ #[rawInt pos.line, rawInt pos.col, .ref c'])).get? P = some (PySem.W.tabObj (ps ++ #[rawInt pos.line, rawInt pos.col, .ref c'])) := by
      refine (Heap.get?_update_self _ (hk _ _ hP) rfl).trans ?_
      simp [Obj.mapFields, PySem.W.tabObj, among]
    have three : (ps ++ #[rawInt pos.line, rawInt pos.col, Value.ref c']).toList = ps.toList ++ [rawInt pos.line, rawInt pos.col, .ref c'] := by rw [Array.toList_append]
    refine wpAny_bind (wpAny_updateFieldsOfTheText (hk _ _ hP) hpd (wpAny_bind (wpAny_fieldsOf put rfl ?_)))
    rw [three, codeAmong_snoc _ htr among]
    exact wpAny_pure (hQ _ _ _ #[rawInt pos.line, rawInt pos.col, .ref c'] (fun b o' hb e => (Heap.get?_update_ne _ _ _ _ hb).trans (hk b o' e)) put (by rw [three]; exact TriplesOk_snoc _ _ _ _ htr))
end
section
variable {X : Cx} {pins : List (Addr × Obj)} {σ : St} {H : Hp} {s : Shared}
theorem Inv.grow {P : Addr} {ps more : Array Value} {h' : Heap} {t' : Nat} (I : Inv X pins σ H s) (hP : H P = some (.tbl ps)) (k : ∀ b u, b ≠ P → s.heap.get? b = some u → h'.get? b = some u) (hp : h'.get? P = some (PySem.W.tabObj (ps ++ more))) :
    Inv X pins σ (upd H P (.tbl (ps ++ more))) { s with heap := h', toks := t' } := by
  have ne0 : ∀ {b}, H b = none → b ≠ P := fun {b} n z => by rw [z, hP] at n; cases n
  refine I.call' (ch := []) rfl ⟨fun b o q n _ _ => k b o (ne0 n) q, fun b o q n _ _ => ⟨o.slots, k b o (ne0 n) q⟩, fun b o q n _ => by rw [upd_ne (ne0 n)]; exact n, fun b o q _ => ?_, fun b xs q => ?_, fun b o u q => ?_, fun b qs q => ?_⟩ ?_ I.bare (fun b hb => nomatch hb)
  · by_cases z : b = P
    · rw [z]; exact ⟨_, hp⟩
    · exact ⟨o, k b o z q⟩
  · rw [upd_ne (fun z => by rw [z, hP] at q; cases q)]; exact q
  · rw [upd_ne (fun z => by rw [z, hP] at q; cases q)]; exact q
  · by_cases z : b = P
    · subst z
      rw [hP] at q
      cases q
      exact ⟨more, upd_same⟩
    · exact ⟨#[], by rw [upd_ne z, q]; simp⟩
  · intro b u q
    by_cases z : b = P
    · subst z
      rw [upd_same] at q
      cases q
      exact hp
    · rw [upd_ne z] at q
      refine (I.hok b u q).stay (fun c v hc r => k c v ?_ r) (fun c r => ?_) fun c xs r => ?_
      · rcases hc with rfl | hc
        · exact z
        · intro z'
          rw [z', hP] at hc
          cases hc
      · rw [upd_ne (fun z' => by rw [z', hP] at r; cases r)]; exact r
      · rw [upd_ne (fun z' => by rw [z', hP] at r; cases r)]; exact r
theorem Inv.setGen {g : Nat} {gs : GenState} (I : Inv X pins σ H s) (hb : gs.bare = true) : Inv X pins σ H (s.setGen g gs) := by
  have : AllBare (s.setGen g gs).gens := by
    intro x hx
    have hb0 := I.bare
    simp only [Shared.setGen] at hx
    rcases Array.mem_or_eq_of_mem_setIfInBounds hx with h | h
    · exact hb0 x h
    · rw [h]; exact hb
  exact I.call' (ch := []) rfl Un.refl I.hok this (fun b hb => nomatch hb)
end
end L2
set_option Elab.async false
set_option linter.all false
set_option maxRecDepth 100000
set_option maxHeartbeats 1000000
namespace L2
open PySem
theorem gens_setGen (s : Shared) (g : Nat) (x : GenState) : (s.setGen g x).gens.size = s.gens.size := by simp [Shared.setGen]
theorem runs_gens {M : Model} {Γ : Ctx} {p : Pos} {t : Sem Fin} {fs : List Frame} {s s' : Shared} {e : End} (h : Runs M Γ p t fs s e s') : s.gens.size ≤ s'.gens.size := by
  induction h <;> (try simp only [Shared.setGen, Array.size_setIfInBounds, Array.size_push] at *) <;> omega
theorem returns_gens {M : Model} {Γ : Ctx} {p : Pos} {s s' : Shared} {r : Result} (h : Returns M Γ p s r s') : s.gens.size ≤ s'.gens.size := runs_gens h
theorem wakes_gens {M : Model} {Γ : Ctx} {p : Pos} {g : Nat} {r : Resume} {s s' : Shared} {res : GenResult} (h : Wakes M Γ p g r s res s') : s.gens.size ≤ s'.gens.size := by
  have key : ∀ {c p₁ t fs e₁ s₁ x}, Runs M (Γ.wake c p) p₁ t fs (s.setGen g .running) e₁ s₁ → s.gens.size ≤ (s₁.setGen g x).gens.size := fun hr => by
    have := runs_gens hr
    rw [gens_setGen] at this ⊢
    exact this
  unfold Wakes at h
  split at h
  · exact h.elim
  · split at h
    · obtain ⟨e₁, s₁, hr, _, _, rfl⟩ := h; exact key hr
    · rw [h.2]; first | exact Nat.le_refl _ | (rw [gens_setGen]; exact Nat.le_refl _)
    · rw [h.2]; first | exact Nat.le_refl _ | (rw [gens_setGen]; exact Nat.le_refl _)
  · obtain ⟨e₁, s₁, hr, _, _, rfl⟩ := h; exact key hr
  · rw [h.2]; first | exact Nat.le_refl _ | (rw [gens_setGen]; exact Nat.le_refl _)
  · rw [h.2]; first | exact Nat.le_refl _ | (rw [gens_setGen]; exact Nat.le_refl _)
open PySem.Sem in
theorem wp_gens {α : Type} (M : Model) (Γ : Ctx) (n : Nat) (t : Sem α) : ∀ (Q : α → Pos → Shared → Prop) (E : Value → Pos → Shared → Prop) (p : Pos) (s : Shared), n ≤ s.gens.size → Sem.wp M Γ t Q E p s →
    Sem.wp M Γ t (fun a p' s' => n ≤ s'.gens.size ∧ Q a p' s') (fun e p' s' => n ≤ s'.gens.size ∧ E e p' s') p s := by
  induction t <;> intro Q E p s hn h
  all_goals first
    | exact h
    | exact ⟨hn, h⟩
    | (rename_i ih; exact ih _ Q E _ _ hn h)
    | (rename_i ih; exact ⟨h.1, ih _ Q E _ _ hn h.2⟩)
    | (rename_i ih; obtain ⟨x, e, h⟩ := h; exact ⟨x, e, ih _ Q E _ _ hn h⟩)
    | (rename_i ih; obtain ⟨r, s', hr, h⟩ := h; exact ⟨r, s', hr, ih r Q E _ s' (Nat.le_trans hn (returns_gens hr)) h⟩)
    | (rename_i ih; obtain ⟨r, s', hw, h⟩ := h; exact ⟨r, s', hw, ih r Q E _ s' (Nat.le_trans hn (wakes_gens hw)) h⟩)
    | (rename_i ih; refine ih _ Q E _ _ (Nat.le_trans hn ?_) h; show s.gens.size ≤ (s.gens.push _).size; rw [Array.size_push]; exact Nat.le_succ _)
theorem wpAny_gens {α : Type} {M : Model} {A : Around} {s : Shared} {t : Sem α} {Q : α → Shared → Prop} {E : Value → Shared → Prop} {n : Nat} (hn : n ≤ s.gens.size) (h : wpAny M A t Q E s) :
    wpAny M A t (fun a s' => n ≤ s'.gens.size ∧ Q a s') E s :=
  wpAny_mono (Q := fun a s' => n ≤ s'.gens.size ∧ Q a s') (E := fun e s' => n ≤ s'.gens.size ∧ E e s') (fun Γ p hΓ => wp_gens M Γ n t _ _ p s hn (h Γ p hΓ)) (fun _ _ x => x) (fun _ _ x => x.2)
end L2
set_option Elab.async false
set_option linter.all false
set_option maxRecDepth 100000
set_option maxHeartbeats 1000000
namespace L2
open PySem PySem.Spec PyProof.Rows
def tGen (st : Bool) (P : Addr) (wi : TI) (g : TG) (te : TE) (vs : List Nat) : TE := fun σ H Q => wi σ H fun J H1 => ∃ ps, H1 P = some (.tbl ps) ∧ TriplesOk ps.toList ∧ ∀ more, TriplesOk (ps ++ more).toList →
  ∃ W : Nat → Nat → Hp → Prop, (∃ m, W 0 m (upd H1 P (.tbl (ps ++ more)))) ∧ ∀ i m H, W i m H →
    (J.stop i H ∧ Q (.bl (!st)) H) ∨ (J.go i H ∧ ∃ Nx : Hp → Prop, (∀ H', Nx H' → ∃ m', m' < m ∧ W (i + 1) m' H') ∧ ∀ x H', J.yld i H x H' → g x (wipe σ vs) H' fun σ2 H2 => wipe σ2 vs = wipe σ vs ∧
      te σ2 H2 fun y H4 => ∃ b, y = .bl b ∧ if b = st then Q (.bl st) H4 else Nx H4)
abbrev genA (A : Around) (elt tg iter : Expr) (scope : Scope) (pos : Pos) (I : Addr) (cenv : Env) : Around := A.in1.in1.over (genL elt tg iter scope pos I cenv) []
theorem genA_frames {A : Around} {elt tg iter : Expr} {scope : Scope} {pos : Pos} {I : Addr} {cenv : Env} {l : List Env} (h : A.frames = some l) : (genA A elt tg iter scope pos I cenv).frames = some (cenv :: l) := by
  show pushEnvs [cenv] (pushEnvs [] A.frames) = _
  rw [h]
  rfl
theorem genA_room {A : Around} {elt tg iter : Expr} {scope : Scope} {pos : Pos} {I : Addr} {cenv : Env} {k : Nat} (r : Room (k + 1) A) : Room k (genA A elt tg iter scope pos I cenv) := by
  refine ⟨?_, r.hd, ?_, ?_⟩
  · first | exact r.gd | (simpa [genA, Around.over, Code.guards, Code.isGuard, guardIds, pushGuards, guardsOf] using r.gd)
  · have := r.dp
    show A.depth + 0 + 1 + 3 * k + 5 < _
    omega
  · have := r.un
    show A.units + 1 + 1 + 0 + 3 + 16 * k + 200 < _
    omega
section
variable {X : Cx} {pins : List (Addr × Obj)} {σ : St} {H : Hp} {s : Shared} {Q : VK}
theorem gen_core {nm : String} {st : Bool} {elt tg iter : Expr} {scope : Scope} {own : List (Str × Nat)} {gpos : Pos} {wi : TI} {g : TG} {te : TE} {c P bm : Addr} {ob : Obj} {k : Nat} (hc : X.calm = true) (hN : X.N.Nodup) (hr : Room (k + 1) X.A) (hi : PI X tg iter wi) (ok : BlkOk X.N X.env.scope scope own)
    (hco : scope.isCoroutine = false) (hcell : ∀ y ∈ scope.names, y.2 ≠ .cell) (h0 : scope.names.lookup (".0" : Str) = some NameKind.local) (hcode : X.env.code = .ref c) (hC : PySem.W.CodeHd X.base c P)
    (hbm : X.mg "__builtins__" = some (.ref bm)) (hbne : bm ≠ builtinsNs) (hbo : X.base.get? bm = some ob) (hbc : ob.cls = .type "module") (hbd : ob.dict = some builtinsNs) (hbp : ob.data = .plain)
    (hg : ∀ (A' : Around) (s : Shared) (H : Hp) (C : Addr) (code : Value) (fp : List Addr) (pn : List (Addr × Obj)), Room k A' → PG (X.gblk A' s H (genV X scope C code) fp pn) tg g)
    (he : ∀ (A' : Around) (s : Shared) (H : Hp) (C : Addr) (code : Value) (fp : List Addr) (pn : List (Addr × Obj)), Room k A' → PE (X.gblk A' s H (genV X scope C code) fp pn) elt te)
    (hs : ∀ x, genFold iter X.env x = pure x)
    (cons : ∀ (Yl : Nat → Nat → Value → Shared → Prop) (Dn : Shared → Prop) (Rl : Value → Shared → Shared → Prop) (a : Addr) (g n : Nat) (s : Shared) (Q' : Value → Shared → Prop), GenUse st Yl Rl a g → s.heap.NoLimit → GenIAt X.prog X.w X.A.in1 Yl Dn Rl a g n s →
      (∀ i m s gs', Yl i m (.bool st) s → gs'.bare = true → Q' (.bool st) (s.setGen g gs')) →
      (∀ s₁ h', Dn s₁ → (∀ b o, s₁.heap.get? b = some o → h'.get? b = some o) → Q' (.bool (!st)) { s₁.setGen g .finished with heap := h' }) → wpAny (model X.prog X.w) X.A (call (.builtin nm) [.ref a]) Q' X.xe s)
    (I : Inv X pins σ H s) (h : tGen st P wi g te (own.map (·.2)) σ H Q) :
    wpAny (model X.prog X.w) X.A (eval (.GeneratorExp elt [⟨tg, iter, [], 0⟩] scope gpos) X.env) (fun gv s1 => wpAny (model X.prog X.w) X.A (call (.builtin nm) [gv]) (EP X pins σ Q) X.xe s1) X.xe s := by
  have hfree : ∀ y ∈ scope.names, y.2 = .free → ∃ c, X.env.cells.lookup y.1 = some c := fun y hy e => by
    rcases ok.free y hy e with k | k
    · exact I.ok.has _ (.inl k)
    · exact I.ok.has _ (.inr k)
  refine wpAny_GeneratorExp_make hco (closure_ok hfree) hcell h0 ok.kind hr.depth (thn (hi pins s σ H _ I h) fun xv s1 hx => thn hx fun itv s2 h2 => ?_) hs
  obtain ⟨it, fp, tn, J, H2, e, I2, T, st2, f2, ps, hP, htr, q⟩ := h2
  subst e
  refine ⟨I2.nolimit, genexprCodeT hcode (hC.keeps I2.bk) (I2.hok P _ hP) htr fun code h3 tk3 more k3 hp3 htr3 => ?_⟩
  obtain ⟨W, ⟨m0, w0⟩, turn⟩ := q more htr3
  have I3 := I2.grow (t' := tk3) hP k3 hp3
  have nP : ∀ b ∈ fp, b ≠ P := fun b hb z => by
    have := (f2 b hb).1
    rw [z, hP] at this
    cases this
  have st3 : tn 0 h3 := T.keep _ _ _ st2 fun b hb o e => k3 b o (nP b hb) e
  have f3 : ∀ b ∈ fp, FpOk X pins (upd H2 P (.tbl (ps ++ more))) b ∧ b < h3.objs.size := fun b hb => by
    obtain ⟨o, e, _⟩ := T.obj _ _ st3 b hb
    exact ⟨⟨by rw [upd_ne (nP b hb)]; exact (f2 b hb).1, (f2 b hb).2⟩, Heap.lt_size e⟩
  generalize hH3 : upd H2 P (.tbl (ps ++ more)) = H3 at I3 w0 f3
  generalize hs3 : ({ s2 with heap := h3, toks := tk3 } : Shared) = s3 at I3 ⊢
  have e3 : s3.heap = h3 := by rw [← hs3]
  rw [← e3] at st3 f3
  have mgs : s3.heap.Ns mainGlobals X.mg := I3.mod.glob.keeps I3.bk
  rw [I3.ok.glob]
  refine wpAny_builtinsFor mgs hbm hbne (I3.bk _ _ hbo) hbc hbd hbp ?_
  intro h' hn' hs'
  have hsz : h'.objs.size = s3.heap.objs.size + 1 := by rw [hs'.1, Heap.size_push]
  have kp' : ∀ b o, s3.heap.get? b = some o → h'.get? b = some o := fun b o e => hs'.extBut b o (Nat.ne_of_lt (Heap.lt_size e)) (Heap.get?_push_of_some _ e)
  have ha0 : (h'.push { cls := .type "generator", data := .fields #[.int s3.gens.size 0, .str "<genexpr>" (s3.toks + 1), .str (X.env.qual ++ "<genexpr>") (s3.toks + 1 + 1)] }).get? h'.objs.size = some ({ cls := .type "generator", data := .fields #[.int s3.gens.size 0, .str "<genexpr>" (s3.toks + 1), .str (X.env.qual ++ "<genexpr>") (s3.toks + 1 + 1)] } : Obj) := Heap.get?_push_size _ rfl
  have hgen0 : ∀ hh : Heap, hh.get? h'.objs.size = some ({ cls := .type "generator", data := .fields #[.int s3.gens.size 0, .str "<genexpr>" (s3.toks + 1), .str (X.env.qual ++ "<genexpr>") (s3.toks + 1 + 1)] } : Obj) → hh.IsGen h'.objs.size s3.gens.size := fun hh e => ⟨_, _, _, e, rfl, rfl, rfl⟩
  have hcel : ∀ v, ({ cls := .type "generator", data := .fields #[.int s3.gens.size 0, .str "<genexpr>" (s3.toks + 1), .str (X.env.qual ++ "<genexpr>") (s3.toks + 1 + 1)] } : Obj).data ≠ .cell v := fun v z => by cases z
  generalize ({ cls := .type "generator", data := .fields #[.int s3.gens.size 0, .str "<genexpr>" (s3.toks + 1), .str (X.env.qual ++ "<genexpr>") (s3.toks + 1 + 1)] } : Obj) = oa at ha0 hgen0 hcel ⊢
  show wpAny _ _ (call (.builtin nm) [.ref h'.objs.size]) _ _ { s3 with gens := s3.gens.push (.fresh (genS elt tg iter scope gpos it (genV X scope s3.heap.objs.size code))), toks := s3.toks + 1 + 1 + 1, heap := h'.push oa }
  have kp4 : ∀ b o, s3.heap.get? b = some o → (h'.push oa).get? b = some o := fun b o e => Heap.get?_push_of_some _ (kp' b o e)
  have st4 : tn 0 (h'.push oa) := T.keep _ _ _ st3 fun b _ o e => kp4 b o e
  have hfrA := genA_frames (elt := elt) (tg := tg) (iter := iter) (scope := scope) (pos := gpos) (I := it) (cenv := genV X scope s3.heap.objs.size code) I.ok.frames
  have hrA : Room k (genA X.A elt tg iter scope gpos it (genV X scope s3.heap.objs.size code)) := genA_room hr
  have hbare : AllBare (s3.gens.push (.fresh (genS elt tg iter scope gpos it (genV X scope s3.heap.objs.size code)))) := by
    intro x hx
    rcases Array.mem_push.mp hx with h | h
    · exact I3.bare x h
    · rw [h]; rfl
  have I4 := gen_start (s' := { s3 with gens := s3.gens.push (.fresh (genS elt tg iter scope gpos it (genV X scope s3.heap.objs.size code))), toks := s3.toks + 1 + 1 + 1, heap := h'.push oa }) (a := h'.objs.size) (oa := oa) I3 ok hN f3 hcell hfrA hrA.hd kp4 (hn'.push _) rfl hbare ha0 (by rw [hsz]; exact Nat.lt_succ_self _) hcel
  have pg := hg _ s3 H3 s3.heap.objs.size code fp [(h'.objs.size, oa)] hrA
  have pe := he _ s3 H3 s3.heap.objs.size code fp [(h'.objs.size, oa)] hrA
  have hgs : (s3.gens.push (.fresh (genS elt tg iter scope gpos it (genV X scope s3.heap.objs.size code))))[s3.gens.size]? = some (.fresh (genS elt tg iter scope gpos it (genV X scope s3.heap.objs.size code))) := Array.getElem?_push_size ..
  have hg4 : s3.gens.size < (s3.gens.push (.fresh (genS elt tg iter scope gpos it (genV X scope s3.heap.objs.size code)))).size := by rw [Array.size_push]; exact Nat.lt_succ_self _
  generalize hs4 : ({ s3 with gens := s3.gens.push (.fresh (genS elt tg iter scope gpos it (genV X scope s3.heap.objs.size code))), toks := s3.toks + 1 + 1 + 1, heap := h'.push oa } : Shared) = s4 at I4 ⊢
  have g4 : s3.gens.size < s4.gens.size := by rw [← hs4]; exact hg4
  have gs4 : s4.gens[s3.gens.size]? = some (.fresh (genS elt tg iter scope gpos it (genV X scope s3.heap.objs.size code))) := by rw [← hs4]; exact hgs
  have t4 : tn 0 s4.heap := by rw [← hs4]; exact st4
  have a4 : s4.heap.get? h'.objs.size = some oa := by rw [← hs4]; exact ha0
  generalize hcenv : genV X scope s3.heap.objs.size code = cenv at I4 pg pe gs4 hrA
  have hcs : cenv.scope.isCoroutine = false := by rw [← hcenv]; exact hco
  have hlt : ∀ b ∈ fp, b ≠ h'.objs.size := fun b hb => Nat.ne_of_lt (by rw [hsz]; exact Nat.lt_succ_of_lt (f3 b hb).2)
  generalize hA' : genA X.A elt tg iter scope gpos it cenv = A' at I4 pg pe hrA
  have nfp : ∀ b ∈ fp, H3 b = none := fun b hb => (f3 b hb).1.1
  have stat : ∀ {σ' : St} {H' : Hp} {s' : Shared}, Inv (X.gblk A' s3 H3 cenv fp [(h'.objs.size, oa)]) [] σ' H' s' → (∀ b ∈ fp, H' b = none) → ∀ b ∈ fp, FpOk (X.gblk A' s3 H3 cenv fp [(h'.objs.size, oa)]) [] H' b := fun {σ' H' s'} I' hn b hb =>
    ⟨hn b hb, (I'.ok.exf b hb).1, I'.ok.exfs b hb, .inl hb, fun x c e => (I'.ok.exf b hb).2 x c e, fun p hp => by
      have : p ∈ [(h'.objs.size, oa)] ++ ([] : List (Addr × Obj)) := hp
      have : p = (h'.objs.size, oa) := by simpa using this
      rw [this]
      exact (hlt b hb).symm⟩
  have back : ∀ {σ' : St} {H' : Hp} {s' : Shared}, Inv (X.gblk A' s3 H3 cenv fp [(h'.objs.size, oa)]) [] σ' H' s' → Inv X pins σ H' s' := fun {σ' H' s'} I' =>
    I3.call' (ch := fp) I'.os I'.base I'.hok I'.bare fun b hb => ⟨(f3 b hb).1.2.2.2.1, (f3 b hb).1.2.1, (f3 b hb).1.2.2.2.2.1, (f3 b hb).1.2.2.2.2.2⟩
  have there : ∀ {σ' : St} {H' : Hp} {s' : Shared}, Inv (X.gblk A' s3 H3 cenv fp [(h'.objs.size, oa)]) [] σ' H' s' → s'.heap.get? h'.objs.size = some oa := fun {σ' H' s'} I' =>
    (I'.pin (h'.objs.size, oa) (List.mem_append_left _ (List.mem_singleton.mpr rfl))).1
  refine cons
    (fun i m v s => s3.gens.size < s.gens.size ∧ ∃ (b : Bool) (H' : Hp), v = .bool b ∧ Inv (X.gblk A' s3 H3 cenv fp [(h'.objs.size, oa)]) [] (wipe σ (own.map (·.2))) H' s ∧ ((b = st ∧ Q (.bl st) H') ∨ (b ≠ st ∧ tn (i + 1) s.heap ∧ (∀ b ∈ fp, H' b = none) ∧ ∃ m1, m = m1 + 1 ∧ W (i + 1) m1 H')))
    (fun s => ∃ H', Inv (X.gblk A' s3 H3 cenv fp [(h'.objs.size, oa)]) [] (wipe σ (own.map (·.2))) H' s ∧ Q (.bl (!st)) H')
    (fun v s s' => v = .bool (!st) ∧ ∃ gs', GenState.bare gs' = true ∧ s' = (s.setGen s3.gens.size gs').setGen s3.gens.size .running)
    h'.objs.size s3.gens.size (m0 + 1) s4 _ ⟨?_, ?_, ?_⟩ I4.nolimit ⟨hgen0 _ a4, _, gs4, rfl, ?_⟩ ?_ ?_
  · rintro i m v s ⟨_, b, _, e, _⟩
    exact ⟨b, e⟩
  · rintro i m v s ⟨hgn, b, H', e, I', _⟩
    exact ⟨hgen0 _ (there I'), I'.nolimit, hgn⟩
  · intro i m s gs' _ hb
    exact ⟨rfl, gs', hb, rfl⟩
  · subst hA'
    refine seg_startI (A := X.A.in1.in1) (J := fun i m s => s3.gens.size < s.gens.size ∧ ∃ m1, m = m1 + 1 ∧ ∃ H', Inv (X.gblk (genA X.A elt tg iter scope gpos it cenv) s3 H3 cenv fp [(h'.objs.size, oa)]) [] (wipe σ (own.map (·.2))) H' s ∧ tn i s.heap ∧ (∀ b ∈ fp, H' b = none) ∧ W i m1 H') hcs ?_ ?_ (Nat.le_refl _)
      ⟨by rw [gens_setGen]; exact g4, m0, rfl, H3, I4.setGen rfl, t4, nfp, w0⟩ (fun A2 Q2 E2 hq => T.self A2 0 _ Q2 E2 t4 hq)
    · rintro i m s5 ⟨g5, m1, rfl, H5, I5, st5, n5, w5⟩
      rcases turn i m1 H5 w5 with ⟨stop, qq⟩ | ⟨go, Nx, hNx, step⟩
      · have td := T.done (X.gblk (genA X.A elt tg iter scope gpos it cenv) s3 H3 cenv fp [(h'.objs.size, oa)]) rfl rfl rfl hc i [] s5 _ H5 (fun _ _ => False) I5 (stat I5 n5) st5 stop
        refine thnF td fun r s6 ⟨hr6, I6⟩ => ?_
        subst hr6
        exact ⟨H5, I6, qq⟩
      · have ti := T.item (X.gblk (genA X.A elt tg iter scope gpos it cenv) s3 H3 cenv fp [(h'.objs.size, oa)]) rfl rfl rfl hc i [] s5 _ H5 (fun _ _ => False) I5 (stat I5 n5) st5 go
        refine thnF (wpAny_gens (n := s3.gens.size + 1) g5 ti) fun r s6 ⟨g6, u, hr6, h6⟩ => ?_
        subst hr6
        refine thnF (wpAny_gens (n := s3.gens.size + 1) g6 h6) fun _ s7 ⟨g7, x, H7, I7, r7, y7, st7, n7⟩ => ?_
        have I7' := I7.pinned (stat I7 n7) (T.obj _ _ st7)
        refine thnF (wpAny_gens (n := s3.gens.size + 1) g7 (pg _ s7 _ H7 x u _ I7' r7 (step x H7 y7))) fun _ s8 ⟨g8, σ8, H8, I8, hw8, q8⟩ => ?_
        refine thnF (wpAny_gens (n := s3.gens.size + 1) g8 (pe _ s8 σ8 H8 _ I8 q8)) fun z s9 ⟨g9, yv, H9, I9, r9, b, eb, hb⟩ => ?_
        subst eb
        obtain rfl : z = Value.bool b := r9
        have pin' : ∀ b ∈ fp, ∀ o, s7.heap.get? b = some o → s9.heap.get? b = some o ∧ H9 b = none := fun b hb o e =>
          let z := I9.pin (b, o) (List.mem_append_right _ (List.mem_append_right _ (mem_pinsAt hb e)))
          ⟨z.1, z.2.1⟩
        have hl : (wipe σ (own.map (·.2))).length = σ8.length := by rw [← hw8, wipe_length]
        have I10 : Inv (X.gblk (genA X.A elt tg iter scope gpos it cenv) s3 H3 cenv fp [(h'.objs.size, oa)]) [] (wipe σ (own.map (·.2))) H9 s9 := (I9.unpinned (pins := [])).weak hl fun j v e => by
          rw [← hw8] at e
          exact (wipe_some e).1
        by_cases hbs : b = st
        · rw [if_pos hbs] at hb
          exact ⟨0, Nat.succ_pos _, g9, b, H9, rfl, I10, .inl ⟨hbs, hb⟩⟩
        · rw [if_neg hbs] at hb
          obtain ⟨m', hm', w'⟩ := hNx H9 hb
          refine ⟨m' + 1, Nat.succ_lt_succ hm', g9, b, H9, rfl, I10, .inr ⟨hbs, T.keep _ _ _ st7 fun b hb o e => (pin' b hb o e).1, fun b hb => ?_, m', rfl, w'⟩⟩
          obtain ⟨o, e, _⟩ := T.obj _ _ st7 b hb
          exact (pin' b hb o e).2
    · rintro i m y s s' ⟨hgn, b, H', e, I', hh⟩ ⟨e2, gs', hbr, rfl⟩
      rw [e] at e2
      have e2 : b = !st := by cases e2; rfl
      rcases hh with ⟨z, _⟩ | ⟨_, z1, z2, m1, z3, z4⟩
      · rw [z] at e2; cases st <;> cases e2
      · exact ⟨by rw [gens_setGen, gens_setGen]; exact hgn, m1, z3, H', (I'.setGen hbr).setGen rfl, z1, z2, z4⟩
  · rintro i m s gs' ⟨_, b, H', e, I', hh⟩ hb
    have e : st = b := by cases e; rfl
    rcases hh with ⟨_, z⟩ | ⟨z, _⟩
    · exact ⟨.bl st, H', (back I').setGen hb, rfl, z⟩
    · exact absurd e.symm z
  · rintro s₁ h2 ⟨H', I', z⟩ hk
    exact ⟨.bl (!st), H', ((back I').setGen (g := s3.gens.size) (gs := .finished) rfl).kept (t' := s₁.toks) hk, rfl, z⟩
end
end L2
set_option Elab.async false
set_option linter.all false
set_option maxRecDepth 100000
set_option maxHeartbeats 1000000
namespace L2
open PySem PySem.Spec PyProof.Rows
structure GenHd (X : Cx) (P : Addr) : Prop where
  code : ∃ c, X.env.code = .ref c ∧ PySem.W.CodeHd X.base c P
  blt : ∃ bm ob, X.mg "__builtins__" = some (.ref bm) ∧ bm ≠ builtinsNs ∧ X.base.get? bm = some ob ∧ ob.cls = .type "module" ∧ ob.dict = some builtinsNs ∧ ob.data = .plain
section
variable {X : Cx}
theorem pe_anyG {elt tg iter : Expr} {scope : Scope} {own : List (Str × Nat)} {p pos gpos : Pos} {wi : TI} {g : TG} {te : TE} {P : Addr} {k : Nat} (hG : GenHd X P) (hgl : Gl X "any") (hm : X.mg "any" = none) (hc : X.calm = true) (hN : X.N.Nodup) (hr : Room (k + 1) X.A) (hi : PI X tg iter wi) (ok : BlkOk X.N X.env.scope scope own)
    (hco : scope.isCoroutine = false) (hcell : ∀ y ∈ scope.names, y.2 ≠ .cell) (h0 : scope.names.lookup (".0" : Str) = some NameKind.local)
    (hg : ∀ (A' : Around) (s : Shared) (H : Hp) (C : Addr) (code : Value) (fp : List Addr) (pn : List (Addr × Obj)), Room k A' → PG (X.gblk A' s H (genV X scope C code) fp pn) tg g)
    (he : ∀ (A' : Around) (s : Shared) (H : Hp) (C : Addr) (code : Value) (fp : List Addr) (pn : List (Addr × Obj)), Room k A' → PE (X.gblk A' s H (genV X scope C code) fp pn) elt te)
    (hs : ∀ x, genFold iter X.env x = pure x := by intro _; rfl)
    (hst : starEach [Expr.GeneratorExp elt [⟨tg, iter, [], 0⟩] scope gpos] X.env = [(false, eval (.GeneratorExp elt [⟨tg, iter, [], 0⟩] scope gpos) X.env)] := by rfl) :
    PE X (.Call (.Name "any" p) [.GeneratorExp elt [⟨tg, iter, [], 0⟩] scope gpos] [] pos) (tGen true P wi g te (own.map (·.2))) := by
  intro pins s σ H Q I h
  obtain ⟨c, hcode, hC⟩ := hG.code
  obtain ⟨bm, ob, b1, b2, b3, b4, b5, b6⟩ := hG.blt
  refine wpAny_Call_Name_kw (ld_blt I hgl hm (by decide +kernel : bootBuiltins "any" = some (.builtin "any")) ?_ (by decide) (by decide))
  refine PyProof.Rows.callWith_builtin1 ?_ hst (by rfl)
  rw [hst]
  refine Calls.spliced_cons (thn (gen_core (nm := "any") (st := true) hc hN hr hi ok hco hcell h0 hcode hC b1 b2 b3 b4 b5 b6 hg he hs ?_ I h) fun gv s1 h1 => Calls.spliced_nil h1)
  exact fun Yl Dn Rl a g n s Q' U hl hgi hT hF => call_anyI U hr.hd hr.in1.depth hl hgi hT hF
end
end L2
set_option Elab.async false
set_option linter.all false
set_option maxRecDepth 100000
set_option maxHeartbeats 1000000
namespace L2
open PySem PySem.Spec PyProof.Rows
section
variable {P : Program} {w : World} {K : PySem.W.Frag} {mg : Str → Option Value} {base : Heap}
theorem Fun.okC {x qual : Str} {st : Stmt} {f : Addr} {fd : FuncData} {N ps : List Str} {k : Nat} {sp : Sp} (F : Fun K x qual st f fd) (S : FnScope N ps (defScope st)) (len : ∀ vs H Q E, sp vs H Q E → vs.length = ps.length)
    (hbody : ∀ (cdv : Value) (A : Around) (outer : List Env) (s : Shared) (H : Hp) (vs : List V) (Q : VK) (E : XK), fd.code = cdv → Room k (A.deeper (envOfC qual (defScope st) s.heap.objs.size f cdv)) → sp vs H Q E →
      ∃ t, PSs (cxOf CX0 P w K mg base N qual (defScope st) f cdv A outer s H E).nox (defBody st) t ∧ t { nx := fun _ H' => Q .non H', rt := Q } (start N vs) H) : FnOk P w K mg base CX0 (k + 1) f fd ps sp := by
  obtain ⟨oc, od, kV, doc, pm, an, cdv, ct, osl, rfl, lk, hcd⟩ := F.ex
  refine fn_of lk hcd S len fun A outer s H vs Q E hr hsp => ?_
  obtain ⟨t, h, q⟩ := hbody cdv A outer s H vs Q E rfl hr hsp
  exact ⟨t, h.nox, q⟩
theorem genHd {X : Cx} {c T : Addr} {fd : FuncData} {cdv : Value} (hc : fd.code = .ref c) (e : fd.code = cdv) (hx : X.env.code = cdv) (hC : PySem.W.CodeHd X.base c T) (B : BltMod X.base X.mg) : GenHd X T := ⟨⟨c, by rw [hx, ← e, hc], hC⟩, B.ex⟩
end
end L2
namespace L2
open PySem PySem.Spec PyProof.Rows
theorem walk_ofX {l : PySem.W.OpenLaw} {n k : Nat} {q : Program} {loose : List Str} {XP : (Str → Option Value) → Heap → Prop} {YP : World → Heap → Prop} {d : DefRec} {K : Params → PySem.W.Frag} {sp : PySem.W.Frag → List (Addr × Addr) → Sp} {x : Str} (xs : List Str)
    (hn : l.most = some n) (hn2 : n ≤ sizeLine) (hdf : d.params.defaults = []) (hr : Room k callerA)
    (hY : ∀ (w : World) (h : Heap), YP w h → (K w.params).In h)
    (hx : ∀ y ∈ xs, ∃ d', (recsOf q).find? (fun e => e.name == y) = some d') (hnt : ∀ p, PySem.W.noTabs (K p) = true)
    (F : ∀ (w : World) (mg : Str → Option Value) (fa : Addr) (h : Heap), (K w.params).In h → h.Ns mainGlobals mg → mg d.name = some (.ref fa) →
      ∃ fd : FuncData, (∀ (s : Shared) (u : Value), BindsTo s fd ⟨[u], []⟩ [(x, u)]) ∧
        ∀ base : Heap, (K w.params).In base → base.Ns mainGlobals mg → (∀ t ∈ xs.filterMap (PySem.W.tabIn (K w.params)), PySem.W.CodeHd base t.1 t.2) → BltMod base mg → FnOk l.prog w (K w.params) mg base CX0 k fa fd [x] (sp (K w.params) (xs.filterMap (PySem.W.tabIn (K w.params)))))
    (hsp : ∀ (K : PySem.W.Frag) (tabs : List (Addr × Addr)) (H : Hp) (a : Addr) (ns : List Int), ns.length ≤ n → OnlyT tabs H → (∀ t ∈ tabs, H t.2 = some (.tbl #[])) → SqL K H a (ns.map V.int) → sp K tabs [.ref a] H (fun v _ => v = .bl true) fun _ _ _ => False) :
    PySem.W.WalkO q loose XP YP l.row.toRowW d [] (fun f vs => PySem.call f vs) :=
  walk_ofT (K := K) (CX := fun _ => CX0) (sp := fun w tabs => sp (K w.params) tabs) (xs := xs) (tabs := fun p => xs.filterMap (PySem.W.tabIn (K p))) hn hn2 hdf hr hY hx (fun p t mt => by obtain ⟨y, my, e⟩ := List.mem_filterMap.mp mt; exact ⟨y, my, e⟩) hnt F
    (fun w H a ns h1 h2 h3 h4 => hsp (K w.params) _ H a ns h1 h2 h3 h4) fun _ _ _ _ _ z => z
end L2
set_option Elab.async false
set_option linter.all false
set_option maxRecDepth 100000
set_option maxHeartbeats 1000000
namespace NH
open PySem L2
structure TblAt (H : Hp) (T : Addr) : Prop where
  ex : ∃ ps, H T = some (.tbl ps) ∧ TriplesOk ps.toList
theorem TblAt.same {H H' : Hp} {T : Addr} (s : Same H H') (b : TblAt H T) : TblAt H' T := by
  obtain ⟨ps, e, h⟩ := b.ex
  exact ⟨ps, s _ _ e, h⟩
theorem TblAt.zero {H : Hp} {T : Addr} (h : H T = some (.tbl #[])) : TblAt H T := ⟨#[], h, trivial⟩
theorem TblAt.ne {H : Hp} {T q : Addr} (b : TblAt H T) (h : H q = none) : q ≠ T := fun z => by
  obtain ⟨_, e, _⟩ := b.ex
  rw [← z, h] at e
  cases e
structure StepT (T : Addr) (H H' : Hp) : Prop where
  keep : ∀ b o, b ≠ T → H b = some o → H' b = some o
  tbl : TblAt H' T
theorem StepT.refl {T : Addr} {H : Hp} (b : TblAt H T) : StepT T H H := ⟨fun _ _ _ e => e, b⟩
theorem StepT.trans {T : Addr} {H H1 H2 : Hp} (a : StepT T H H1) (b : StepT T H1 H2) : StepT T H H2 := ⟨fun c o n e => b.keep c o n (a.keep c o n e), b.tbl⟩
theorem StepT.same {T : Addr} {H H1 H2 : Hp} (a : StepT T H H1) (b : Same H1 H2) : StepT T H H2 := ⟨fun c o n e => b c o (a.keep c o n e), a.tbl.same b⟩
theorem StepT.free {T : Addr} {H H1 : Hp} {q : Addr} (a : StepT T H H1) (n : H1 q = none) : H q = none := by
  cases e : H q with
  | none => rfl
  | some o =>
    rw [a.keep q o (a.tbl.ne n) e] at n
    cases n
theorem StepT.new {T q : Addr} {H H1 : Hp} {o : HO} (a : StepT T H H1) (n : H1 q = none) : StepT T H (upd H1 q o) := a.same (same_new n)
theorem StepT.tups {T : Addr} {H H' : Hp} (s : StepT T H H') (hb : TblAt H T) : Tups H H' := fun b xs e => s.keep b _ (fun z => by
  obtain ⟨_, e', _⟩ := hb.ex
  rw [z, e'] at e
  cases e) e
end NH
set_option Elab.async false
set_option linter.all false
set_option maxRecDepth 100000
set_option maxHeartbeats 1000000
set_option Elab.async false
set_option linter.all false
set_option maxRecDepth 100000
set_option maxHeartbeats 1000000
set_option Elab.async false
set_option linter.all false
set_option maxRecDepth 100000
set_option maxHeartbeats 1000000
namespace NH
open PySem L2
theorem StepT.grow {T : Addr} {H : Hp} {qs : Array Value} (t' : TriplesOk qs.toList) : StepT T H (upd H T (.tbl qs)) := ⟨fun b o n q => by rw [upd_ne n]; exact q, ⟨_, upd_same, t'⟩⟩
end NH
set_option Elab.async false
set_option linter.all false
set_option maxRecDepth 100000
set_option maxHeartbeats 1000000
set_option Elab.async false
set_option linter.all false
set_option maxRecDepth 100000
set_option maxHeartbeats 1000000
namespace NH
open PySem L2
def optV : Option Nat → V
  | none => .non
  | some x => natV x
end NH
namespace NH
open PySem L2
theorem StepT.put {T q : Addr} {H H1 : Hp} {o : HO} (a : StepT T H H1) (n : H q = none) (ne : q ≠ T) : StepT T H (upd H1 q o) := ⟨fun b u nb e => by rw [upd_ne (ne_of_none e n)]; exact a.keep b u nb e, by
  obtain ⟨ps, e, t⟩ := a.tbl.ex
  exact ⟨ps, by rw [upd_ne (Ne.symm ne)]; exact e, t⟩⟩
end NH
set_option Elab.async false
set_option linter.all false
set_option maxRecDepth 100000
set_option maxHeartbeats 1000000
set_option Elab.async false
set_option linter.all false
set_option maxRecDepth 100000
set_option maxHeartbeats 1000000
set_option Elab.async false
set_option linter.all false
set_option maxRecDepth 100000
set_option maxHeartbeats 1000000
set_option Elab.async false
set_option linter.all false
set_option maxRecDepth 100000
set_option maxHeartbeats 1000000
set_option Elab.async false
set_option linter.all false
set_option maxRecDepth 100000
set_option maxHeartbeats 1000000
set_option Elab.async false
set_option linter.all false
set_option maxRecDepth 100000
set_option maxHeartbeats 1000000
namespace NH
open PySem L2
theorem StepT.seqL {K : PySem.W.Frag} {T : Addr} {H H' : Hp} {a : Addr} {xs : List V} (e : StepT T H H') (tb : TblAt H T) (h : SqL K H a xs) : SqL K H' a xs := by
  obtain ⟨ps, et, _⟩ := tb.ex
  rcases h with (h | ⟨o, h⟩) | h
  · exact .inl (.inl (e.keep _ _ (fun z => by rw [z, et] at h; cases h) h))
  · exact .inl (.inr ⟨o, e.keep _ _ (fun z => by rw [z, et] at h; cases h) h⟩)
  · exact .inr h
end NH
set_option Elab.async false
set_option linter.all false
set_option maxRecDepth 100000
set_option maxHeartbeats 1000000
set_option Elab.async false
set_option linter.all false
set_option maxRecDepth 100000
set_option maxHeartbeats 1000000
set_option Elab.async false
set_option linter.all false
set_option maxRecDepth 100000
set_option maxHeartbeats 1000000
namespace L2
open PySem PySem.Spec PyProof.Rows
theorem FnOk.calm {P : Program} {w : World} {K : PySem.W.Frag} {mg : Str → Option Value} {base : Heap} {k : Nat} {f : Addr} {fd : FuncData} {ps : List Str} {sp sp0 : Sp} (F : FnOk P w K mg base (CX1 P w) k f fd ps sp)
    (h : ∀ vs H Q E, sp0 vs H Q E → sp vs H Q (fun _ _ _ => False)) : FnOk P w K mg base CX0 k f fd ps sp0 := by
  refine ⟨fun vs H Q E q => F.len vs H Q _ (h vs H Q E q), fun A outer s H args us vs Q E hr e b v q => ?_⟩
  refine codeAny_mono (F.run A outer s H args us vs Q _ hr e b v (h _ _ _ E q)) fun r s' hq => ?_
  cases r with
  | ok fl =>
    cases fl with
    | ret u => exact hq
    | next => exact hq
    | brk => exact hq
    | cont => exact hq
  | error e' =>
    obtain ⟨_, _, _, _, _, _, _, _, _, _, _, _, _, _, z⟩ := hq
    exact z
end L2
namespace NH
open PySem L2
theorem Good.due {w : WebD} (g : Good 4 w) : Due w none := by
  refine .good (fun z => by have := g.pos; rw [z] at this; exact absurd this (by decide)) (fun h hl => ?_) (fun h hl => ?_)
  · refine ⟨w[h], List.getElem?_eq_getElem hl, g.mark h _ (List.getElem?_eq_getElem hl), g.pegs h _ (List.getElem?_eq_getElem hl), fun p x e => ?_⟩
    exact g.tie h p x (by unfold pegOf; rw [List.getElem?_eq_getElem hl]; exact e)
  · intro S s0 hs
    exact g.conn S (fun a p g' q e sa => hs a p g' q e sa) 0 h g.pos hl s0
def spLookG : Sp := fun vs H Q _ => ∃ (a : Addr) (w : WebD), vs = [.ref a] ∧ WebAt H a w ∧ Good 4 w ∧ w.length ≤ 100 ∧ ∀ H', Same H H' → Q (.bl true) H'
end NH
set_option Elab.async false
set_option linter.all false
set_option maxRecDepth 100000
set_option maxHeartbeats 1000000
namespace L2
open PySem PySem.Spec PyProof.Rows
section
variable {x : Str} {g : TG} {te : TE} {vs : List Nat} {σ : St} {Hm : Hp} {st : Bool} {Qs Qe : Hp → Prop}
theorem g_str (Pv : Nat → Hp → Prop) (h0 : Pv 0 Hm)
    (hs : ∀ i c H, x.cps.toList[i]? = some c → Pv i H → g (.str ⟨#[c]⟩) (wipe σ vs) H fun σ2 H2 => wipe σ2 vs = wipe σ vs ∧ te σ2 H2 fun y H4 => ∃ b, y = .bl b ∧ if b = st then Qs H4 else Pv (i + 1) H4) (hd : ∀ H, Pv x.cps.toList.length H → Qe H) :
    ∃ W : Nat → Nat → Hp → Prop, (∃ m, W 0 m Hm) ∧ ∀ i m H, W i m H →
      ((Its x).stop i H ∧ Qe H) ∨ ((Its x).go i H ∧ ∃ Nx : Hp → Prop, (∀ H', Nx H' → ∃ m', m' < m ∧ W (i + 1) m' H') ∧ ∀ v H', (Its x).yld i H v H' → g v (wipe σ vs) H' fun σ2 H2 => wipe σ2 vs = wipe σ vs ∧
        te σ2 H2 fun y H4 => ∃ b, y = .bl b ∧ if b = st then Qs H4 else Nx H4) := by
  have sz : x.cps.toList.length = x.cps.size := Array.length_toList
  refine ⟨fun i m H => m = x.cps.size - i ∧ i ≤ x.cps.size ∧ Pv i H, ⟨x.cps.size, by simp, Nat.zero_le _, h0⟩, ?_⟩
  rintro i m H ⟨rfl, hi, p⟩
  by_cases hlt : i < x.cps.size
  · refine .inr ⟨hlt, Pv (i + 1), fun H' p' => ⟨x.cps.size - (i + 1), by omega, rfl, hlt, p'⟩, fun v H' y => ?_⟩
    obtain ⟨e, c, ec, rfl⟩ := y
    subst e
    exact hs i c _ (by rw [Array.getElem?_toList]; exact ec) p
  · have e : i = x.cps.size := by omega
    subst e
    exact .inl ⟨Nat.le_refl _, hd H (by rw [sz]; exact p)⟩
end
abbrev rNotInSign : R2 := fun x y H Q => ∃ (c : Nat) (z : Str), x = .str ⟨#[c]⟩ ∧ y = .str z ∧ Q (.bl (!decide (c ∈ z.cps.toList))) H
def tF2 (t1 : TE) (m : Str) (t2 : TE) : TE := fun σ H Q => t1 σ H fun x H1 => ∃ i : Int, x = .int i ∧ i.natAbs.log2 < 1920 ∧ (Str.ofString (toString i)).length + m.length ≤ sizeLine ∧ t2 σ H1 fun y H2 => ∃ j : Int, y = .int j ∧ j.natAbs.log2 < 1920 ∧
  (Str.ofString (toString i)).length + m.length + (Str.ofString (toString j)).length ≤ sizeLine ∧ Q (.str ((Str.ofString (toString i) ++ m) ++ Str.ofString (toString j))) H2
theorem empty_add (x : Str) : Str.empty ++ x = x := TL.ext_tl (by rw [TL.tl_append]; rfl)
theorem pe_f2i {X : Cx} {m : Str} {e1 e2 : Expr} {t1 t2 : TE} {j : Nat} {p1 p2 p3 pos : Pos} (h1 : PE X e1 t1) (h2 : PE X e2 t2) : PE X (.JoinedStr [.FormattedValue e1 (-1) none p1, .Constant (.str m) j p2, .FormattedValue e2 (-1) none p3] pos) (tF2 t1 m t2) := by
  intro pins s σ H Q I h
  refine JoinedStr_many (joinParts_cons (FormattedValue_plain ?_))
  refine thn (h1 pins s σ H _ I h) fun v s1 hv => ?_
  obtain ⟨x, H1, I1, r1, i, ex, hi, hl0, q⟩ := hv
  subst ex
  obtain ⟨t, rfl⟩ := r1
  refine formatField_int_small hi ?_
  show _ ∧ _
  rw [empty_add]
  obtain ⟨l1, l2⟩ : (Str.ofString (toString i)).length ≤ sizeLine ∧ True := ⟨int_text_fits hi, trivial⟩
  refine ⟨l1, joinParts_cons (Calls.Constant_str ?_)⟩
  have I2 := (I1.tok (s1.toks + 1 + 1)).tok (s1.toks + 1 + 1 + 1)
  have key : wpAny (model X.prog X.w) X.A (joinParts (Str.ofString (toString i) ++ m) [eval (.FormattedValue e2 (-1) none p3) X.env]) (EP X pins σ Q) X.xe { s1 with toks := s1.toks + 1 + 1 + 1 } := by
    refine joinParts_cons (FormattedValue_plain ?_)
    refine thn (h2 pins _ σ H1 _ I2 q) fun v2 s2 hv2 => ?_
    obtain ⟨y, H2, I3, r2, k, ey, hk, hl, q2⟩ := hv2
    subst ey
    obtain ⟨t', rfl⟩ := r2
    refine formatField_int_small hk ?_
    have e2 : ((Str.ofString (toString i) ++ m) ++ Str.ofString (toString k)).length = (Str.ofString (toString i)).length + m.length + (Str.ofString (toString k)).length := by rw [strLen_append, strLen_append]
    exact ⟨by rw [e2]; exact hl, joinParts_nil ⟨.str _, H2, (I3.tok _).tok _, ⟨_, rfl⟩, q2⟩ (by rw [e2]; exact hl)⟩
  exact ⟨by rw [strLen_append]; exact hl0, key⟩
def optP : Option (Int × Int) → PyData
  | none => .none
  | some x => .tuple [.int x.1, .int x.2]
def rInN : R2 := fun x y H Q => ∃ (l : Addr) (vs : List V) (os : List (Option (Int × Int))), x = .non ∧ y = .ref l ∧ H l = some (.lst vs) ∧ Paired (fun v o => (o = none ∧ v = .non) ∨ ∃ p a, o = some p ∧ v = .ref a ∧ H a = some (.tup [.int p.1, .int p.2])) vs os ∧ Q (.bl (decide (none ∈ os))) H
theorem op_inN {X : Cx} {k : Nat} (hr : Room k X.A) : OpR X (compareOp .In) rInN := by
  intro pins s σ H x y v u Q I rx ry h
  obtain ⟨l, vs, os, rfl, rfl, hl, hp, q⟩ := h
  have da : DpAll X.K H vs (os.map optP) := by
    clear q hl
    induction hp with
    | nil => exact .nil
    | cons r _ ih =>
      refine .cons ?_ ih
      rcases r with ⟨rfl, rfl⟩ | ⟨p, a, rfl, rfl, e⟩
      · exact .non
      · exact .tup (SqT.of e) (.cons (.int _) (.cons (.int _) .nil))
  obtain ⟨cs, r1⟩ := Dp.reads I _ _ v (Dp.non (K := X.K) (H := H)) rx
  obtain ⟨bs, r2⟩ := Dp.reads I _ _ u (Dp.lst (K := X.K) (SqL.of hl) da) ry
  have hu := hr.units
  refine SeqAt.in_list_reads r2 r1 ?_ rfl ?_ ?_
  · clear hp q da r2
    induction os with
    | nil => rfl
    | cons o os ih =>
      cases o with
      | none => exact ih
      | some p => exact ih
  · have := Nat.min_le_right (PyData.depthAll (os.map optP)) PyData.none.depth
    have e : PyData.none.depth = 0 := rfl
    omega
  · have e : ((os.map optP).any fun y => PyData.eqv y PyData.none) = decide (none ∈ os) := by
      clear hp q da r2
      induction os with
      | nil => rfl
      | cons o os ih =>
        rw [List.map_cons, List.any_cons, ih]
        cases o with
        | none => simp [optP, PyData.eqv]
        | some p => simp [optP, PyData.eqv]
    rw [e]
    exact ⟨.bl _, H, I, rfl, q⟩
end L2
set_option Elab.async false
set_option linter.all false
set_option maxRecDepth 100000
set_option maxHeartbeats 1000000
namespace NH
open PySem L2 TL
def numZ (i : Int) : Str := Str.ofString (toString i)
def pegS (x : PegD) : Str := (numZ x.1 ++ ".") ++ numZ x.2
def handS (hd : HandD) : Str := Txt.join " " (("hand" : Str) :: numZ hd.1 :: hd.2.map pegS)
def webS (w : WebD) : Str := Txt.join "\n" (w.map handS)
def figB (z : Str) : Bool := !(decide (z.length = 0) || (tl z).any fun c => !decide (c ∈ tl "0123456789")) && (decide (z.length = 1) || !decide ((tl z).head? = some 48))
def readN (z : Str) (k : Nat) : Option Nat := if k < z.length then none else if figB z = true then some (NumText.digitsVal (tl z)) else none
def readP (z : Str) : Option PegD := match (Txt.split z ".").map fun y => readN y 2 with
  | [some a, some b] => some ((a : Int), (b : Int))
  | _ => none
def allS {α : Type} : List (Option α) → Option (List α)
  | [] => some []
  | none :: _ => none
  | some x :: r => (allS r).map (x :: ·)
def readH (z : Str) : Option HandD := match Txt.split z " " with
  | w0 :: w1 :: rest => if w0 = "hand" then (readN w1 2).bind fun m => (allS (rest.map readP)).map fun ps => ((m : Int), ps) else none
  | _ => none
theorem allS_none {α : Type} : ∀ {l : List (Option α)}, none ∈ l → allS l = none
  | none :: _, _ => rfl
  | some x :: r, h => by
    rcases List.mem_cons.mp h with h | h
    · cases h
    · show (allS r).map _ = none
      rw [allS_none h]
      rfl
theorem allS_some {α : Type} : ∀ {l : List (Option α)}, ¬ none ∈ l → ∃ r : List α, l = r.map some ∧ allS l = some r
  | [], _ => ⟨[], rfl, rfl⟩
  | none :: _, h => absurd List.mem_cons_self h
  | some x :: l, h => by
    obtain ⟨r, e1, e2⟩ := allS_some (l := l) fun z => h (List.mem_cons_of_mem _ z)
    exact ⟨x :: r, by rw [e1]; rfl, by show (allS l).map _ = _; rw [e2]; rfl⟩
theorem allS_map {α : Type} (r : List α) : allS (r.map some) = some r := by
  induction r with
  | nil => rfl
  | cons x r ih => show (allS (r.map some)).map _ = _; rw [ih]; rfl
theorem fig_mem {c : Nat} : c ∈ tl "0123456789" ↔ 48 ≤ c ∧ c ≤ 57 := by
  have e : tl "0123456789" = [48, 49, 50, 51, 52, 53, 54, 55, 56, 57] := by decide +kernel
  rw [e]
  simp only [List.mem_cons, List.not_mem_nil, or_false]
  omega
theorem figB_digits {z : Str} (h : figB z = true) : NumText.AllDigits (tl z) ∧ tl z ≠ [] := by
  unfold figB at h
  rw [Bool.and_eq_true] at h
  obtain ⟨h, _⟩ := h
  rw [Bool.not_eq_true', Bool.or_eq_false_iff] at h
  obtain ⟨h1, h2⟩ := h
  refine ⟨fun c hc => ?_, fun e => ?_⟩
  · have := List.any_eq_false.mp h2 c hc
    have m : c ∈ tl "0123456789" := by
      apply Classical.byContradiction
      intro n
      rw [decide_eq_false n] at this
      exact this rfl
    exact fig_mem.mp m
  · have : z.length = 0 := by rw [len_tl, e]; rfl
    rw [decide_eq_true this] at h1
    cases h1
structure SmH (hd : HandD) : Prop where
  mark : ∃ m : Nat, hd.1 = (m : Int) ∧ m < 100
  pegs : ∀ x ∈ hd.2, ∃ g q : Nat, x = ((g : Int), (q : Int)) ∧ g < 100 ∧ q < 100
  few : hd.2.length ≤ 100
structure SmW (w : WebD) : Prop where
  hand : ∀ hd ∈ w, SmH hd
  pos : 0 < w.length
  len : w.length ≤ 100
theorem SmW.of {w : WebD} (g : Good 4 w) (l : w.length ≤ 99) : SmW w := by
  refine ⟨fun hd hm => ?_, g.pos, by omega⟩
  obtain ⟨h, e⟩ := List.getElem?_of_mem hm
  refine ⟨?_, fun x hx => ?_, by have := g.pegs h hd e; omega⟩
  · obtain ⟨m0, m1⟩ := g.mark h hd e
    exact ⟨hd.1.toNat, by omega, by omega⟩
  · obtain ⟨p, ep⟩ := List.getElem?_of_mem hx
    obtain ⟨g', q, rfl, back⟩ := g.tie h p x (by unfold pegOf; rw [e]; exact ep)
    have gl := pegOf_lt back
    obtain ⟨hd2, f1, f2⟩ := pegOf_some back
    have ql := (List.getElem?_eq_some_iff.mp f2).1
    have := g.pegs g' hd2 f1
    exact ⟨g', q, rfl, by omega, by omega⟩
theorem numZ_tl (n : Nat) : tl (numZ (n : Int)) = numL n := tl_num n
theorem numZ_len {n : Nat} (h : n < 100) : (numZ (n : Int)).length ≤ 2 := by
  rw [len_tl, numZ_tl]
  exact numL_len (by decide) h
theorem numL_head {n : Nat} (h : n < 100) : (numL n).length = 1 ∨ (numL n).head? ≠ some 48 := by
  by_cases c : n < 10
  · rw [numL_lt c]; exact .inl rfl
  · right
    rw [numL_step (by omega), numL_lt (by omega)]
    show some (48 + n / 10) ≠ some 48
    intro z
    have := Option.some.inj z
    omega
theorem figB_num {n : Nat} (h : n < 100) : figB (numZ (n : Int)) = true := by
  unfold figB
  rw [len_tl, numZ_tl]
  have d := numL_digits n
  have ne := numL_ne n
  have a : ((numL n).any fun c => !decide (c ∈ tl "0123456789")) = false := List.any_eq_false.mpr fun c hc => by
    rw [decide_eq_true (fig_mem.mpr (d c hc))]
    exact Bool.false_ne_true
  rw [a, decide_eq_false (fun z => ne (List.length_eq_zero_iff.mp z))]
  rcases numL_head h with z | z
  · rw [decide_eq_true z]; rfl
  · rw [decide_eq_false z]; simp
theorem readN_num {n : Nat} (h : n < 100) : readN (numZ (n : Int)) 2 = some n := by
  unfold readN
  rw [if_neg (by have := numZ_len h; omega), if_pos (figB_num h), numZ_tl, numL_val]
theorem split_peg {g q : Nat} : Txt.split (pegS ((g : Int), (q : Int))) "." = [numZ (g : Int), numZ (q : Int)] := by
  have e : pegS ((g : Int), (q : Int)) = Txt.join "." [numZ (g : Int), numZ (q : Int)] := by
    refine ext_tl ?_
    unfold pegS
    rw [join_eq, tl_join, tl_append, tl_append, List.append_assoc]
    rfl
  rw [e]
  refine split_join (s := 46) (S := []) (by decide +kernel) (by decide +kernel) (by simp) fun p hp => ?_
  rcases List.mem_cons.mp hp with rfl | hp
  · rw [numZ_tl]; exact numL_free (.inl (by decide))
  · rw [List.mem_singleton.mp hp, numZ_tl]; exact numL_free (.inl (by decide))
theorem readP_peg {x : PegD} (h : ∃ g q : Nat, x = ((g : Int), (q : Int)) ∧ g < 100 ∧ q < 100) : readP (pegS x) = some x := by
  obtain ⟨g, q, rfl, hg, hq⟩ := h
  unfold readP
  rw [split_peg, List.map_cons, List.map_cons, List.map_nil, readN_num hg, readN_num hq]
theorem peg_free {x : PegD} (h : ∃ g q : Nat, x = ((g : Int), (q : Int)) ∧ g < 100 ∧ q < 100) {s : Nat} (hs : s < 46) : s ∉ tl (pegS x) := by
  obtain ⟨g, q, rfl, hg, hq⟩ := h
  unfold pegS
  rw [tl_append, tl_append, numZ_tl, numZ_tl]
  intro m
  have e : tl "." = [46] := by decide +kernel
  rw [e] at m
  rcases List.mem_append.mp m with m | m
  · rcases List.mem_append.mp m with m | m
    · exact numL_free (.inl (by omega)) m
    · have := List.mem_singleton.mp m
      omega
  · exact numL_free (.inl (by omega)) m
theorem split_hand {hd : HandD} (h : SmH hd) : Txt.split (handS hd) " " = ("hand" : Str) :: numZ hd.1 :: hd.2.map pegS := by
  refine split_join (s := 32) (S := []) (by decide +kernel) (by decide +kernel) (by simp) fun p hp => ?_
  rcases List.mem_cons.mp hp with rfl | hp
  · decide +kernel
  · rcases List.mem_cons.mp hp with rfl | hp
    · obtain ⟨m, e, _⟩ := h.mark
      rw [e, numZ_tl]
      exact numL_free (.inl (by decide))
    · obtain ⟨x, hx, rfl⟩ := List.mem_map.mp hp
      exact peg_free (h.pegs x hx) (by decide)
theorem readH_hand {hd : HandD} (h : SmH hd) : readH (handS hd) = some hd := by
  unfold readH
  rw [split_hand h]
  obtain ⟨m, e, hm⟩ := h.mark
  dsimp only
  rw [if_pos rfl, e, readN_num hm, List.map_map]
  have e2 : hd.2.map (readP ∘ pegS) = hd.2.map some := List.map_congr_left fun x hx => readP_peg (h.pegs x hx)
  rw [e2, allS_map]
  show some ((m : Int), hd.2) = some hd
  rw [← e]
theorem mem_joinL {c : Nat} {S : List Nat} : ∀ {ps : List (List Nat)}, c ∈ joinL S ps → c ∈ S ∨ ∃ p ∈ ps, c ∈ p
  | [], h => absurd h List.not_mem_nil
  | [p], h => .inr ⟨p, List.mem_singleton.mpr rfl, h⟩
  | p :: q :: r, h => by
    rcases List.mem_append.mp (show c ∈ p ++ (S ++ joinL S (q :: r)) from h) with h | h
    · exact .inr ⟨p, List.mem_cons_self, h⟩
    · rcases List.mem_append.mp h with h | h
      · exact .inl h
      · rcases mem_joinL h with h | ⟨x, hx, hc⟩
        · exact .inl h
        · exact .inr ⟨x, List.mem_cons_of_mem _ hx, hc⟩
theorem hand_free {hd : HandD} (h : SmH hd) : 10 ∉ tl (handS hd) := fun m => by
  unfold handS at m
  rw [join_eq, tl_join] at m
  rcases mem_joinL m with m | ⟨p, hp, hc⟩
  · revert m
    decide +kernel
  · obtain ⟨y, hy, rfl⟩ := List.mem_map.mp hp
    rcases List.mem_cons.mp hy with rfl | hy
    · revert hc
      decide +kernel
    · rcases List.mem_cons.mp hy with rfl | hy
      · obtain ⟨k, e, _⟩ := h.mark
        rw [e, numZ_tl] at hc
        exact numL_free (.inl (by decide)) hc
      · obtain ⟨x, hx, rfl⟩ := List.mem_map.mp hy
        exact peg_free (h.pegs x hx) (by decide) hc
theorem split_web {w : WebD} (h : SmW w) : Txt.split (webS w) "\n" = w.map handS := by
  refine split_join (s := 10) (S := []) (by decide +kernel) (by decide +kernel) (fun z => ?_) fun p hp => ?_
  · have z := congrArg List.length z
    rw [List.length_map] at z
    have := h.pos
    have z : w.length = 0 := z
    omega
  · obtain ⟨hd, hm, rfl⟩ := List.mem_map.mp hp
    exact hand_free (h.hand hd hm)
theorem joinL_len (S : List Nat) : ∀ ps : List (List Nat), (joinL S ps).length ≤ (ps.map List.length).sum + ps.length * S.length
  | [] => Nat.zero_le _
  | [p] => by simp [joinL]
  | p :: q :: r => by
    have ih := joinL_len S (q :: r)
    show (p ++ (S ++ joinL S (q :: r))).length ≤ _
    rw [List.length_append, List.length_append, List.map_cons, List.sum_cons, List.length_cons, Nat.succ_mul]
    omega
theorem join_len (y : Str) (ps : List Str) : (Txt.join y ps).length ≤ (ps.map (·.length)).sum + ps.length * y.length := by
  rw [len_tl, join_eq, tl_join]
  refine Nat.le_trans (joinL_len _ _) ?_
  rw [List.map_map, List.length_map, ← len_tl]
  have : ps.map (List.length ∘ tl) = ps.map (·.length) := List.map_congr_left fun x _ => (len_tl x).symm
  rw [this]
  exact Nat.le_refl _
theorem sum_le {c : Nat} : ∀ {l : List Nat}, (∀ x ∈ l, x ≤ c) → l.sum ≤ l.length * c
  | [], _ => by simp
  | x :: l, h => by
    have := sum_le (c := c) fun y hy => h y (List.mem_cons_of_mem x hy)
    have := h x List.mem_cons_self
    rw [List.sum_cons, List.length_cons, Nat.succ_mul]
    omega
theorem pegS_len {x : PegD} (h : ∃ g q : Nat, x = ((g : Int), (q : Int)) ∧ g < 100 ∧ q < 100) : (pegS x).length ≤ 5 := by
  obtain ⟨g, q, rfl, hg, hq⟩ := h
  unfold pegS
  rw [strLen_append, strLen_append]
  have a := numZ_len hg
  have b := numZ_len hq
  have c : ("." : Str).length = 1 := by decide +kernel
  show (numZ (g : Int)).length + ("." : Str).length + (numZ (q : Int)).length ≤ 5
  omega
theorem words_len {hd : HandD} (h : SmH hd) : ((("hand" : Str) :: numZ hd.1 :: hd.2.map pegS).map (·.length)).sum ≤ 506 := by
  obtain ⟨m, e, hm⟩ := h.mark
  have a := numZ_len hm
  have b := sum_le (c := 5) (l := (hd.2.map pegS).map (·.length)) fun x hx => by
    obtain ⟨y, hy, rfl⟩ := List.mem_map.mp hx
    obtain ⟨z, hz, rfl⟩ := List.mem_map.mp hy
    exact pegS_len (h.pegs z hz)
  rw [List.length_map, List.length_map] at b
  have f := h.few
  have c : ("hand" : Str).length = 4 := by decide +kernel
  rw [List.map_cons, List.map_cons, List.sum_cons, List.sum_cons, e, c]
  have : hd.2.length * 5 ≤ 100 * 5 := Nat.mul_le_mul_right 5 f
  omega
theorem hand_room {hd : HandD} (h : SmH hd) : ((("hand" : Str) :: numZ hd.1 :: hd.2.map pegS).map (·.length)).sum + (("hand" : Str) :: numZ hd.1 :: hd.2.map pegS).length * (" " : Str).length ≤ 700 := by
  have a := words_len h
  have f := h.few
  have c : (" " : Str).length = 1 := by decide +kernel
  rw [c, List.length_cons, List.length_cons, List.length_map]
  omega
theorem handS_len {hd : HandD} (h : SmH hd) : (handS hd).length ≤ 700 := Nat.le_trans (join_len _ _) (hand_room h)
theorem web_room {w : WebD} (h : SmW w) : ((w.map handS).map (·.length)).sum + (w.map handS).length * ("\n" : Str).length ≤ 80000 := by
  have b := sum_le (c := 700) (l := (w.map handS).map (·.length)) fun x hx => by
    obtain ⟨y, hy, rfl⟩ := List.mem_map.mp hx
    obtain ⟨z, hz, rfl⟩ := List.mem_map.mp hy
    exact handS_len (h.hand z hz)
  rw [List.length_map, List.length_map] at b
  have c : ("\n" : Str).length = 1 := by decide +kernel
  rw [c, List.length_map]
  have := h.len
  have : w.length * 700 ≤ 100 * 700 := Nat.mul_le_mul_right 700 h.len
  omega
theorem webS_len {w : WebD} (h : SmW w) : (webS w).length ≤ 80000 := Nat.le_trans (join_len _ _) (web_room h)
theorem hand_law (hd : HandD) : ("hand " : Str) ++ Txt.join " " (numZ hd.1 :: hd.2.map pegS) = handS hd := by
  refine ext_tl ?_
  unfold handS
  rw [tl_append, join_eq, join_eq, tl_join, tl_join, List.map_cons, List.map_cons, List.map_cons]
  show _ = tl ("hand" : Str) ++ (tl " " ++ joinL (tl " ") (tl (numZ hd.1) :: (hd.2.map pegS).map tl))
  rw [← List.append_assoc]
  have : tl ("hand " : Str) = tl ("hand" : Str) ++ tl " " := by decide +kernel
  rw [this]
end NH
set_option Elab.async false
set_option linter.all false
set_option maxRecDepth 100000
set_option maxHeartbeats 4000000
namespace NH
open PySem L2 TL
abbrev sFig : Stmt := top 6
abbrev nFig : List Str := ["text", "sign"]
theorem scFig : FnScope nFig ["text"] (defScope sFig) := ⟨rfl, rfl, rfl, by decide +kernel, rfl, by decide +kernel, by decide +kernel⟩
theorem len_eqN {n k : Nat} : decide (V.int (n : Int) = V.int (k : Int)) = decide (n = k) := by
  by_cases h : n = k
  · rw [decide_eq_true h, h, decide_eq_true rfl]
  · rw [decide_eq_false h]
    exact decide_eq_false fun z => h (by injection z with z; omega)
section
variable {P : Program} {w : World} {K : PySem.W.Frag} {mg : Str → Option Value} {base : Heap}
def spFig (T : Addr) : Sp := fun vs H Q _ => ∃ z : Str, vs = [.str z] ∧ z.length ≤ sizeLine ∧ TblAt H T ∧ ∀ H', StepT T H H' → Q (.bl (figB z)) H'
theorem ok_fig {f : Addr} {fd : FuncData} {c T : Addr} {vF : Value} (F : Fun K "are_figures" "are_figures" sFig f fd) (hc : fd.code = .ref c) (hC : PySem.W.CodeHd base c T) (B : BltMod base mg) (mlen : mg "len" = none) (many : mg "any" = none) (gF : mg "FIGURES" = some vF) (rF : RelV (.str "0123456789") vF) : FnOk P w K mg base CX0 2 f fd ["text"] (spFig T) := by
  refine F.okC scFig (fun vs H Q E h => ?_) (fun cdv A outer s H vs Q E ec hr h => ?_)
  · obtain ⟨z, rfl, _⟩ := h
    rfl
  · have nd := scFig.nd
    have hG : GenHd (cxOf CX0 P w K mg base nFig "are_figures" (defScope sFig) f cdv A outer s H E).nox T := genHd hc ec rfl hC B
    obtain ⟨z, rfl, hz, tb, k⟩ := h
    refine ⟨_, (pss_cons (ps_if (PW.pt (pw_or (pt_cmpR op_eq (pe_callB call_len_str (by rfl) mlen PySem.boot_len (pa_cons (pv 0) pa_nil)) pe_int (nomark _)) (pw_or1 (pt_val (pe_anyG (k := 0) (own := [("sign", 1)]) (g := (gName 1)) (te := (tOp rNotInSign (tVar 1) (tC (.str "0123456789")))) hG (by rfl) many (by rfl) nd hr (pi_str (pv 0)) (blkOk_by (own := [("sign", 1)]) (N := nFig) (sc := defScope sFig) (by decide +kernel)) rfl (by decide +kernel) rfl
          (fun _ _ _ _ _ _ _ _ => by exact (pg_name (i := 1) nd rfl (Or.inl rfl)))
          (fun _ _ _ _ _ _ _ _ => by exact (pe_cmpR op_notIn_sign (pv 1) (pe_glob (v := .str "0123456789") (by rfl) gF rF) (by rfl)))))))) (pss_one (ps_ret pe_bl)) pss_nil)
      (pss_one (ps_ret (pe_or (pe_cmpR op_eq (pe_callB call_len_str (by rfl) mlen PySem.boot_len (pa_cons (pv 0) pa_nil)) pe_int (nomark _)) (pe_one (pe_cmpR op_ne (pe_ix ix_str (pv 0) pe_int (fun _ _ => rfl)) pe_str (nomark _))))))), ?_⟩
    refine ⟨_, rfl, z, rfl, hz, rfl, _, rfl, ?_⟩
    rw [show (V.int 0) = V.int ((0 : Nat) : Int) from rfl, len_eqN]
    by_cases e : z.length = 0
    · rw [decide_eq_true e]
      refine iteT (iteT ?_)
      have q := k H (StepT.refl tb)
      unfold figB at q
      rw [decide_eq_true e, Bool.true_or, Bool.not_true, Bool.false_and] at q
      exact q
    rw [decide_eq_false e]
    refine iteF ?_
    obtain ⟨tp, etb, tok⟩ := tb.ex
    refine ⟨_, rfl, z, rfl, tp, etb, tok, fun more tok' => ?_⟩
    have st1 : StepT T H (upd H T (.tbl (tp ++ more))) := StepT.grow tok'
    refine g_str (x := z) (st := true) (fun i H2 => StepT T H H2 ∧ ((tl z).take i).any (fun c => !decide (c ∈ tl "0123456789")) = false) ⟨st1, rfl⟩ ?_ ?_
    · rintro i c H2 ec ⟨s2, al⟩
      refine ⟨rfl, ?_⟩
      refine ⟨_, rfl, c, _, rfl, rfl, _, rfl, ?_⟩
      by_cases m : c ∈ tl "0123456789"
      · rw [decide_eq_true m]
        refine iteF ⟨s2, ?_⟩
        rw [take_snoc ec, List.any_append, al, List.any_cons, List.any_nil, decide_eq_true m]
        rfl
      · rw [decide_eq_false m]
        refine iteT ?_
        refine ⟨_, rfl, iteT ?_⟩
        have q := k _ s2
        unfold figB at q
        have a : ((tl z).any fun c => !decide (c ∈ tl "0123456789")) = true := List.any_eq_true.mpr ⟨c, List.mem_of_getElem? ec, by rw [decide_eq_false m]; rfl⟩
        rw [a, Bool.or_true, Bool.not_true, Bool.false_and] at q
        exact q
    · rintro H2 ⟨s2, al⟩
      rw [List.take_length] at al
      refine ⟨_, rfl, iteF ?_⟩
      have q := k _ s2
      unfold figB at q
      rw [al, decide_eq_false e, Bool.or_false, Bool.not_false, Bool.true_and] at q
      refine ⟨_, rfl, z, rfl, hz, rfl, _, rfl, ?_⟩
      rw [show (V.int 1) = V.int ((1 : Nat) : Int) from rfl, len_eqN]
      by_cases e1 : z.length = 1
      · rw [decide_eq_true e1] at q ⊢
        rw [Bool.true_or] at q
        exact iteT q
      · rw [decide_eq_false e1] at q ⊢
        rw [Bool.false_or] at q
        refine iteF ?_
        cases ez : tl z with
        | nil => exact absurd (by rw [len_tl, ez]; rfl) e
        | cons c r =>
          refine ⟨_, rfl, z, 0, c, rfl, rfl, hz, atI_nat (j := 0) (by rw [show z.cps.toList = c :: r from ez]; rfl), rfl, ?_⟩
          rw [ez] at q
          have d : decide (V.str ⟨#[c]⟩ = V.str "0") = decide ((c :: r).head? = some 48) := by
            refine decide_eq_decide.mpr ⟨fun y => ?_, fun y => ?_⟩
            · have y := V.str.inj y
              have : (⟨#[c]⟩ : Str).cps.toList = ("0" : Str).cps.toList := by rw [y]
              have z0 : ("0" : Str).cps.toList = [48] := by decide +kernel
              rw [z0] at this
              have : c = 48 := by simpa using this
              rw [this]
              rfl
            · have : c = 48 := Option.some.inj y
              subst this
              exact congrArg V.str (TL.ext_tl (by decide +kernel))
          rw [d]
          exact q
end
end NH
set_option Elab.async false
set_option linter.all false
set_option maxRecDepth 100000
set_option maxHeartbeats 4000000
namespace NH
open PySem L2 TL
abbrev sNum : Stmt := top 7
abbrev nNum : List Str := ["text", "most_figures"]
theorem scNum : FnScope nNum ["text", "most_figures"] (defScope sNum) := ⟨rfl, rfl, rfl, by decide +kernel, rfl, by decide +kernel, by decide +kernel⟩
def spNum (T : Addr) : Sp := fun vs H Q _ => ∃ (z : Str) (k : Nat), vs = [.str z, natV k] ∧ z.length ≤ sizeLine ∧ k ≤ 600 ∧ TblAt H T ∧ ∀ H', StepT T H H' → Q (optV (readN z k)) H'
section
variable {P : Program} {w : World} {K : PySem.W.Frag} {mg : Str → Option Value} {base : Heap}
theorem ok_num {f : Addr} {fd : FuncData} {T : Addr} (F : Fun K "read_number" "read_number" sNum f fd) (G : Dr P w K mg base) (mint : mg "int" = none) (CF : FnAt P w K mg base 2 "are_figures" ["text"] (spFig T)) : FnOk P w K mg base CX0 3 f fd ["text", "most_figures"] (spNum T) := by
  obtain ⟨fF, fdF, GF, bF, mF, kF⟩ := CF
  refine F.ok scNum (fun vs H Q E h => ?_) (fun cdv A outer s H vs Q E hr h => ?_)
  · obtain ⟨z, k, rfl, _⟩ := h
    rfl
  · have nd := scNum.nd
    have hrF := hr
    obtain ⟨z, n, rfl, hz, hn, tb, k⟩ := h
    refine ⟨_, (pss_cons (ps_if (PW.pt (pw_or (pt_cmpR op_gt (pe_callB call_len_str (by rfl) G.mlen PySem.boot_len (pa_cons (pv 0) pa_nil)) (pv 1) (nomark _)) (pw_or1 (pt_not (pt_val (pe_call GF hrF (by rfl) mF kF bF .nil pass0 (pa_cons (pv 0) pa_nil))))))) (pss_one (ps_ret pe_non)) pss_nil)
      (pss_one (ps_ret (pe_callTy call_int_str (by rfl) mint (by decide +kernel) (pa_cons (pv 0) pa_nil))))), ?_⟩
    refine ⟨_, rfl, z, rfl, hz, _, rfl, _, _, rfl, rfl, _, rfl, ?_⟩
    by_cases c : n < z.length
    · rw [decide_eq_true (by omega : (n : Int) < (z.length : Int))]
      refine iteT (iteT ?_)
      have q := k H (StepT.refl tb)
      unfold readN at q
      rw [if_pos c] at q
      exact q
    · rw [decide_eq_false (by omega : ¬ (n : Int) < (z.length : Int))]
      refine iteF ?_
      refine ⟨_, rfl, z, rfl, hz, tb, fun H2 s2 => ⟨_, rfl, ?_⟩⟩
      have q := k H2 s2
      unfold readN at q
      rw [if_neg c] at q
      cases e : figB z with
      | false =>
        rw [e] at q
        exact iteT q
      | true =>
        rw [e] at q
        refine iteF ?_
        obtain ⟨d1, d2⟩ := figB_digits e
        refine ⟨_, rfl, z, _, rfl, intText_digits d1 d2 (by omega), by omega, ?_⟩
        exact q
end
end NH
set_option Elab.async false
set_option linter.all false
set_option maxRecDepth 100000
set_option maxHeartbeats 4000000
namespace NH
open PySem L2 TL
abbrev sPeg : Stmt := top 21
abbrev nPeg : List Str := ["word", "numbers", "figures"]
theorem scPeg : FnScope nPeg ["word"] (defScope sPeg) := ⟨rfl, rfl, rfl, by decide +kernel, rfl, by decide +kernel, by decide +kernel⟩
theorem split_len (z : Str) (y : Str) : (Txt.split z y).length ≤ z.length + 2 := PyProof.Rows.split_le z y
theorem spl_part_len {S : List Nat} : ∀ (l : List Nat) (k : Nat) (acc : List Nat), ∀ p ∈ spl S k acc l, p.length ≤ acc.length + l.length
  | [], k, acc, p, h => by
    rw [spl_nil] at h
    rw [List.mem_singleton.mp h]
    simp
  | c :: r, 0, acc, p, h => by
    cases e : pre S (c :: r) with
    | true =>
      rw [spl_hit e] at h
      rcases List.mem_cons.mp h with h | h
      · rw [h]; simp
      · have := spl_part_len r _ [] p h
        simp at this ⊢
        omega
    | false =>
      rw [spl_miss e] at h
      have := spl_part_len r 0 (acc ++ [c]) p h
      rw [List.length_append] at this
      simp at this ⊢
      omega
  | c :: r, k + 1, acc, p, h => by
    have := spl_part_len r k acc p h
    simp at this ⊢
    omega
theorem split_part {z y : Str} (hy : tl y ≠ []) (hk : y.cps.all (· < 256) = true) {p : Str} (h : p ∈ Txt.split z y) : p.length ≤ z.length := by
  have m : tl p ∈ (Txt.split z y).map tl := List.mem_map.mpr ⟨p, h, rfl⟩
  rw [split_spl z y hy (kind_ok hk)] at m
  have := spl_part_len _ _ _ _ m
  rw [len_tl, len_tl]
  simpa using this
def spPeg (T : Addr) : Sp := fun vs H Q _ => ∃ z : Str, vs = [.str z] ∧ z.length ≤ 1000000 ∧ TblAt H T ∧ (readP z = none → ∀ H', StepT T H H' → Q .non H') ∧ ∀ x, readP z = some x → ∀ (a : Addr) (H' : Hp), StepT T H H' → PairAt H' a x → Q (.ref a) H'
theorem readP_cases (z : Str) : (∃ a b : Nat, (Txt.split z ".").map (fun y => readN y 2) = [some a, some b] ∧ readP z = some ((a : Int), (b : Int))) ∨ (readP z = none ∧ (((Txt.split z ".").length ≠ 2) ∨ none ∈ (Txt.split z ".").map fun y => readN y 2)) := by
  unfold readP
  have hl : (Txt.split z ".").length = ((Txt.split z ".").map fun y => readN y 2).length := (List.length_map _).symm
  rw [hl]
  generalize (Txt.split z ".").map (fun y => readN y 2) = l
  match l with
  | [] => exact .inr ⟨rfl, .inl (by simp)⟩
  | [x] => exact .inr ⟨by cases x <;> rfl, .inl (by simp)⟩
  | [some a, some b] => exact .inl ⟨a, b, rfl, rfl⟩
  | [none, x] => exact .inr ⟨by cases x <;> rfl, .inr (by simp)⟩
  | [some a, none] => exact .inr ⟨rfl, .inr (by simp)⟩
  | x :: y :: u :: r => exact .inr ⟨by cases x <;> cases y <;> rfl, .inl (by simp)⟩
theorem flat_opts (l : List (Option Nat)) : (l.map optV).all flatV = true := List.all_eq_true.mpr fun x hx => by
  obtain ⟨o, _, rfl⟩ := List.mem_map.mp hx
  cases o <;> rfl
theorem inV_non (l : List (Option Nat)) : inV .non (l.map optV) = decide (none ∈ l) := by
  induction l with
  | nil => rfl
  | cons o l ih =>
    unfold inV at ih ⊢
    rw [List.map_cons, List.any_cons, ih]
    cases o with
    | none => simp [optV, eqV]
    | some n =>
      show (false || decide (none ∈ l)) = _
      rw [Bool.false_or]
      simp
section
variable {P : Program} {w : World} {K : PySem.W.Frag} {mg : Str → Option Value} {base : Heap}
theorem ok_peg {f : Addr} {fd : FuncData} {T : Addr} {vM : Value} (F : Fun K "read_peg" "read_peg" sPeg f fd) (G : Dr P w K mg base) (gM : mg "MOST_FIGURES" = some vM) (rM : RelV (.int 2) vM) (CN : FnAt P w K mg base 3 "read_number" ["text", "most_figures"] (spNum T)) : FnOk P w K mg base CX0 4 f fd ["word"] (spPeg T) := by
  obtain ⟨fN, fdN, GN, bN, mN, kN⟩ := CN
  refine F.ok scPeg (fun vs H Q E h => ?_) (fun cdv A outer s H vs Q E hr h => ?_)
  · obtain ⟨z, rfl, _⟩ := h
    rfl
  · have nd := scPeg.nd
    have hrN := hr
    obtain ⟨z, rfl, hz, tb, k1, k2⟩ := h
    refine ⟨_, (pss_cons (ps_setLc (i := 1) (own := [("figures", 2)]) (g := (gName 2)) (tt := tYes) (te := (tCall (spNum T) [] E0 (tCons (tVar 2) (tCons (tC (.int 2)) tNil)))) (by rfl) nd rfl rfl (sw_true rfl rfl rfl (by decide +kernel)) (pi_list (pe_split (pv 0) pe_str)) (blkOk_by (own := [("figures", 2)]) (N := nPeg) (sc := defScope sPeg) (by decide +kernel))
            (fun _ _ _ _ _ => by exact (pg_name (i := 2) nd rfl (Or.inl rfl))) (fun _ _ _ _ _ => by exact pts_nil) (fun _ _ _ _ _ => by exact (pe_call GN hrN (by rfl) mN kN bN .nil pass0 (pa_cons (pv 2) (pa_cons (pe_glob (v := .int 2) (by rfl) gM rM) pa_nil)))))
      (pss_cons (ps_if (PW.pt (pw_or (pt_cmpR op_ne (pe_callB call_len_seq (by rfl) G.mlen PySem.boot_len (pa_cons (pv 1) pa_nil)) pe_int (nomark _)) (pw_or1 (pt_cmpR op_in_seq pe_non (pv 1) (by rfl))))) (pss_one (ps_ret pe_non)) pss_nil)
      (pss_one (ps_ret (pe_tup (pa_cons (pe_ix ix_list (pv 1) pe_int (fun _ _ => rfl)) (pa_cons (pe_ix ix_list (pv 1) pe_int (fun _ _ => rfl)) pa_nil))))))), ?_⟩
    have sl : sizeLine = sizeLine := rfl
    have pl : ∀ y ∈ Txt.split z ".", y.length ≤ z.length := fun y hy => split_part (by decide +kernel) (by decide +kernel) hy
    have sll := split_len z "."
    refine ⟨_, rfl, ⟨z, rfl⟩, z, _, rfl, rfl, (by decide +kernel), (by rw [sizeLine_eq]; omega), fun L nL => ?_⟩
    have s1 := same_new (o := .lst ((Txt.split z ".").map V.str)) nL
    have eL : (upd H L (.lst ((Txt.split z ".").map V.str))) L = some (.lst ((Txt.split z ".").map V.str)) := upd_same
    generalize (upd H L (.lst ((Txt.split z ".").map V.str))) = H1 at s1 eL ⊢
    have tb1 : TblAt H1 T := tb.same s1
    have neLT : L ≠ T := fun y => by
      obtain ⟨_, e, _⟩ := tb1.ex
      rw [y, e] at eL
      cases eL
    refine ⟨L, rfl, ⟨_, SqL.of eL⟩, fun D nD => ?_⟩
    have neDT : D ≠ T := tb1.ne nD
    have neLD : L ≠ D := fun y => by rw [← y, eL] at nD; cases nD
    refine lc_list (K := K) (a := L) (xs := (Txt.split z ".").map V.str) (fun i H2 => StepT T H1 H2 ∧ H2 D = some (.lst ((((Txt.split z ".").take i).map fun y => readN y 2).map optV))) ⟨(StepT.refl tb1).new nD, upd_same⟩ (fun i H2 _ ⟨s2, _⟩ => SqL.of (s2.keep L _ neLT eL)) ?_ ?_
    · rintro i v H2 hv ⟨s2, hD⟩
      rw [List.getElem?_map] at hv
      obtain ⟨y, ey, rfl⟩ := Option.map_eq_some_iff.mp hv
      have yl := pl y (List.mem_of_getElem? ey)
      refine ⟨rfl, ?_⟩
      dsimp only [tYes]
      rw [if_pos rfl]
      refine ⟨_, rfl, y, 2, rfl, (by rw [sizeLine_eq]; omega), by decide, s2.tbl, fun H3 s3 => ?_⟩
      refine ⟨_, s3.keep D _ neDT hD, ?_, (s2.trans s3).put nD neDT, ?_⟩
      · rw [List.length_map, List.length_map, List.length_take, sizeLine_eq]
        omega
      · rw [upd_same, take_snoc ey, List.map_append, List.map_append]
        rfl
    · rintro H2 ⟨s2, hD⟩
      rw [List.length_map, List.take_length] at hD
      have st := (StepT.refl tb).same s1 |>.trans s2
      refine ⟨_, rfl, D, _, rfl, .inl (SqL.of hD), rfl, _, rfl, ?_⟩
      rw [List.length_map, List.length_map, show (V.int 2) = V.int ((2 : Nat) : Int) from rfl, len_eqN]
      rcases readP_cases z with ⟨a, b, e1, e2⟩ | ⟨e1, e2⟩
      · have l2 : (Txt.split z ".").length = 2 := by
          have := congrArg List.length e1
          rwa [List.length_map] at this
        rw [decide_eq_true l2]
        refine iteF ?_
        refine ⟨_, rfl, D, _, rfl, .inl (SqL.of hD), rfl, flat_opts _, _, rfl, ?_⟩
        dsimp only
        rw [inV_non, e1, decide_eq_false (by simp)]
        refine iteF ?_
        rw [e1] at hD
        refine ⟨_, rfl, D, _, _, _, rfl, rfl, SqL.of hD, atI_nat (j := 0) rfl, _, rfl, D, _, _, _, rfl, rfl, SqL.of hD, atI_nat (j := 1) rfl, (by show 2 ≤ sizeLine; decide), fun p np => ?_⟩
        exact k2 _ e2 p _ (st.new np) upd_same
      · by_cases l2 : (Txt.split z ".").length = 2
        · have mem : none ∈ (Txt.split z ".").map fun y => readN y 2 := e2.resolve_left fun y => y l2
          rw [decide_eq_true l2]
          refine iteF ?_
          refine ⟨_, rfl, D, _, rfl, .inl (SqL.of hD), rfl, flat_opts _, _, rfl, ?_⟩
          dsimp only
          rw [inV_non, decide_eq_true mem]
          exact iteT (k1 e1 H2 st)
        · rw [decide_eq_false l2]
          exact iteT (iteT (k1 e1 H2 st))
end
end NH
set_option Elab.async false
set_option linter.all false
set_option maxRecDepth 100000
set_option maxHeartbeats 4000000
namespace NH
open PySem L2 TL
abbrev sHnd : Stmt := top 20
abbrev nHnd : List Str := ["row", "words", "mark", "pegs", "word"]
theorem scHnd : FnScope nHnd ["row"] (defScope sHnd) := ⟨rfl, rfl, rfl, by decide +kernel, rfl, by decide +kernel, by decide +kernel⟩
def PV (H : Hp) (v : V) (o : Option PegD) : Prop := (o = none ∧ v = .non) ∨ ∃ (p : PegD) (a : Addr), o = some p ∧ v = .ref a ∧ H a = some (.tup [.int p.1, .int p.2])
theorem PV.tups {H H' : Hp} (s : Tups H H') {v : V} {o : Option PegD} : PV H v o → PV H' v o
  | .inl h => .inl h
  | .inr ⟨p, a, e1, e2, e3⟩ => .inr ⟨p, a, e1, e2, s _ _ e3⟩
theorem pv_all {H : Hp} : ∀ {r : List PegD} {vs : List V}, Paired (PV H) vs (r.map some) → ∃ as : List Addr, vs = as.map V.ref ∧ PairsAt H as r
  | [], _, h => by cases h; exact ⟨[], rfl, .nil⟩
  | x :: r, _, h => by
    rw [List.map_cons] at h
    cases h with
    | cons h0 ht =>
      obtain ⟨as, rfl, pa⟩ := pv_all ht
      rcases h0 with ⟨z, _⟩ | ⟨p, a, z, rfl, e⟩
      · cases z
      · cases z
        exact ⟨a :: as, rfl, .cons e pa⟩
def spHnd (T : Addr) : Sp := fun vs H Q _ => ∃ z : Str, vs = [.str z] ∧ z.length ≤ 100000 ∧ TblAt H T ∧ (readH z = none → ∀ H', StepT T H H' → Q .non H') ∧ ∀ x, readH z = some x → ∀ (a : Addr) (H' : Hp), StepT T H H' → HandAt H' a x → Q (.ref a) H'
theorem cutV_two {xs : List V} : cutV xs (some 2) none = xs.drop 2 := by
  unfold cutV
  rw [show (2 : Int) = ((2 : Nat) : Int) from rfl, show HT.sIx xs.length xs.length none = xs.length from rfl, HT.sIx_nat]
  by_cases c : 2 ≤ xs.length
  · rw [Nat.min_eq_left c, List.take_of_length_le (by rw [List.length_drop]; omega)]
  · have c' : xs.length ≤ 2 := by omega
    rw [Nat.min_eq_right c', List.drop_of_length_le (Nat.le_refl _), List.drop_of_length_le c']
    simp
section
variable {P : Program} {w : World} {K : PySem.W.Frag} {mg : Str → Option Value} {base : Heap}
theorem ok_hnd {f : Addr} {fd : FuncData} {T : Addr} {vM : Value} (F : Fun K "read_hand" "read_hand" sHnd f fd) (G : Dr P w K mg base) (gM : mg "MOST_FIGURES" = some vM) (rM : RelV (.int 2) vM) (CN : FnAt P w K mg base 3 "read_number" ["text", "most_figures"] (spNum T)) (CP : FnAt P w K mg base 4 "read_peg" ["word"] (spPeg T)) : FnOk P w K mg base CX0 5 f fd ["row"] (spHnd T) := by
  obtain ⟨fN, fdN, GN, bN, mN, kN⟩ := CN
  obtain ⟨fP, fdP, GP, bP, mP, kP⟩ := CP
  refine F.ok scHnd (fun vs H Q E h => ?_) (fun cdv A outer s H vs Q E hr h => ?_)
  · obtain ⟨z, rfl, _⟩ := h
    rfl
  · have nd := scHnd.nd
    have hrN := hr.mono (show 3 ≤ 4 by decide)
    have hrP := hr
    obtain ⟨z, rfl, hz, tb, k1, k2⟩ := h
    refine ⟨_, (pss_cons (ps_set (i := 1) nd rfl (Or.inl rfl) (pe_split (pv 0) pe_str))
      (pss_cons (ps_if (PW.pt (pw_or (pt_cmpR op_lt (pe_callB call_len_seq (by rfl) G.mlen PySem.boot_len (pa_cons (pv 1) pa_nil)) pe_int (nomark _)) (pw_or1 (pt_cmpR op_ne (pe_ix ix_list (pv 1) pe_int (fun _ _ => rfl)) pe_str (nomark _))))) (pss_one (ps_ret pe_non)) pss_nil)
      (pss_cons (ps_set (i := 2) nd rfl (Or.inl rfl) (pe_call GN hrN (by rfl) mN kN bN .nil pass0 (pa_cons (pe_ix ix_list (pv 1) pe_int (fun _ _ => rfl)) (pa_cons (pe_glob (v := .int 2) (by rfl) gM rM) pa_nil))))
      (pss_cons (ps_setLc (i := 3) (own := [("word", 4)]) (g := (gName 4)) (tt := tYes) (te := (tCall (spPeg T) [] E0 (tCons (tVar 4) tNil))) (by rfl) nd rfl rfl (sw_true rfl rfl rfl (by decide +kernel)) (pi_list (pe_slice sl_list (pv 1) (po_some pe_int) po_none)) (blkOk_by (own := [("word", 4)]) (N := nHnd) (sc := defScope sHnd) (by decide +kernel))
            (fun _ _ _ _ _ => by exact (pg_name (i := 4) nd rfl (Or.inl rfl))) (fun _ _ _ _ _ => by exact pts_nil) (fun _ _ _ _ _ => by exact (pe_call GP hrP (by rfl) mP kP bP .nil pass0 (pa_cons (pv 4) pa_nil))))
      (pss_cons (ps_if (PW.pt (pw_or (pt_cmpR op_isN (pv 2) pe_non (nomark _)) (pw_or1 (pt_cmpR (op_inN hr) pe_non (pv 3) (by rfl))))) (pss_one (ps_ret pe_non)) pss_nil)
      (pss_one (ps_ret (pe_tup (pa_cons (pv 2) (pa_cons (pe_callTy call_tuple_of (by rfl) G.mtuple (by decide +kernel) (pa_cons (pv 3) pa_nil)) pa_nil)))))))))), ?_⟩
    have pl : ∀ y ∈ Txt.split z " ", y.length ≤ z.length := fun y hy => split_part (by decide +kernel) (by decide +kernel) hy
    have sll := split_len z " "
    refine ⟨_, rfl, ⟨z, rfl⟩, z, _, rfl, rfl, (by decide +kernel), (by rw [sizeLine_eq]; omega), fun L nL => ?_⟩
    have s1 := same_new (o := .lst ((Txt.split z " ").map V.str)) nL
    have eL : (upd H L (.lst ((Txt.split z " ").map V.str))) L = some (.lst ((Txt.split z " ").map V.str)) := upd_same
    generalize (upd H L (.lst ((Txt.split z " ").map V.str))) = H1 at s1 eL ⊢
    have tb1 : TblAt H1 T := tb.same s1
    have neLT : L ≠ T := fun y => by
      obtain ⟨_, e, _⟩ := tb1.ex
      rw [y, e] at eL
      cases eL
    have st1 : StepT T H H1 := (StepT.refl tb).same s1
    refine ⟨_, rfl, L, _, rfl, .inl (SqL.of eL), _, _, rfl, rfl, _, rfl, ?_⟩
    rw [List.length_map]
    unfold readH at k1 k2
    revert k1 k2 eL pl sll
    generalize Txt.split z " " = ws
    intro k1 k2 pl sll eL
    match ws with
    | [] => exact iteT (iteT (k1 rfl H1 st1))
    | [w0] => exact iteT (iteT (k1 rfl H1 st1))
    | w0 :: w1 :: rest =>
      rw [decide_eq_false (by rw [List.length_cons, List.length_cons]; omega)]
      refine iteF ?_
      refine ⟨_, rfl, L, _, _, _, rfl, rfl, SqL.of eL, atI_nat (j := 0) rfl, rfl, _, rfl, ?_⟩
      by_cases c0 : w0 = ("hand" : Str)
      case neg =>
        rw [decide_eq_false (fun y => c0 (V.str.inj y))]
        dsimp only at k1
        rw [if_neg c0] at k1
        exact iteT (k1 rfl H1 st1)
      subst c0
      rw [decide_eq_true rfl]
      refine iteF ?_
      dsimp only at k1 k2
      rw [if_pos rfl] at k1 k2
      have w1l := pl w1 (by simp)
      refine ⟨_, rfl, L, _, _, _, rfl, rfl, SqL.of eL, atI_nat (j := 1) rfl, w1, 2, rfl, (by rw [sizeLine_eq]; omega), by decide, tb1, fun H2 s2 => ?_⟩
      have st2 := st1.trans s2
      have eL2 := s2.keep L _ neLT eL
      refine ⟨_, rfl, _, rfl, L, _, rfl, SqL.of eL2, fun S nS => ?_⟩
      rw [cutV_two]
      have s3 := same_new (o := .lst (((("hand" : Str) :: w1 :: rest).map V.str).drop 2)) nS
      have eS : (upd H2 S (.lst (((("hand" : Str) :: w1 :: rest).map V.str).drop 2))) S = some (.lst (rest.map V.str)) := upd_same
      generalize (upd H2 S (.lst (((("hand" : Str) :: w1 :: rest).map V.str).drop 2))) = H3 at s3 eS ⊢
      have tb3 : TblAt H3 T := st2.tbl.same s3
      have neST : S ≠ T := fun y => by
        obtain ⟨_, e, _⟩ := tb3.ex
        rw [y, e] at eS
        cases eS
      refine ⟨S, rfl, ⟨_, SqL.of eS⟩, fun D nD => ?_⟩
      have neDT : D ≠ T := tb3.ne nD
      refine lc_list (K := K) (a := S) (xs := rest.map V.str) (fun i H4 => StepT T H3 H4 ∧ ∃ vs, H4 D = some (.lst vs) ∧ Paired (PV H4) vs ((rest.take i).map readP)) ⟨(StepT.refl tb3).new nD, [], upd_same, .nil⟩ (fun i H4 _ ⟨s4, _⟩ => SqL.of (s4.keep S _ neST eS)) ?_ ?_
      · rintro i v H4 hv ⟨s4, vs, hD, hvs⟩
        rw [List.getElem?_map] at hv
        obtain ⟨y, ey, rfl⟩ := Option.map_eq_some_iff.mp hv
        have ym := List.mem_of_getElem? ey
        have yl := pl y (by simp [ym])
        have vl : vs.length ≤ i := by rw [Paired.length hvs, List.length_map, List.length_take]; omega
        have il := (List.getElem?_eq_some_iff.mp ey).1
        have fin : ∀ (v : V) (H5 : Hp), StepT T H4 H5 → PV H5 v (readP y) → ∃ acc, H5 D = some (.lst acc) ∧ acc.length < sizeLine ∧ (StepT T H3 (upd H5 D (.lst (acc ++ [v]))) ∧ ∃ vs, (upd H5 D (.lst (acc ++ [v]))) D = some (.lst vs) ∧ Paired (PV (upd H5 D (.lst (acc ++ [v])))) vs ((rest.take (i + 1)).map readP)) := fun v H5 s5 pv => by
          have hD5 := s5.keep D _ neDT hD
          have tt := tups_lst (o := HO.lst (vs ++ [v])) hD5
          refine ⟨vs, hD5, (by rw [sizeLine_eq]; simp at sll; omega), (s4.trans s5).put nD neDT, vs ++ [v], upd_same, ?_⟩
          rw [take_snoc ey, List.map_append]
          exact paired_snoc (R := PV (upd H5 D (.lst (vs ++ [v])))) (pv.tups tt) (Paired.mapP hvs fun _ _ z => PV.tups ((s5.tups s4.tbl).trans tt) z)
        refine ⟨rfl, ?_⟩
        dsimp only [tYes]
        rw [if_pos rfl]
        refine ⟨_, rfl, y, rfl, by omega, s4.tbl, fun e H5 s5 => fin _ H5 s5 (.inl ⟨e, rfl⟩), fun x e a H5 s5 ha => fin _ H5 s5 (.inr ⟨x, a, e, rfl, ha⟩)⟩
      · rintro H4 ⟨s4, vs, hD, hvs⟩
        rw [List.length_map, List.take_length] at hvs
        have st4 := (st2.same s3).trans s4
        refine ⟨_, rfl, rfl, _, rfl, ?_⟩
        cases em : readN w1 2 with
        | none =>
          rw [em] at k1
          exact iteT (iteT (k1 rfl H4 st4))
        | some m =>
          rw [em] at k1 k2
          refine iteF ?_
          refine ⟨_, rfl, D, vs, _, rfl, rfl, hD, hvs, _, rfl, ?_⟩
          by_cases no : none ∈ rest.map readP
          · rw [decide_eq_true no]
            have k1' := k1 (by rw [allS_none no]; rfl)
            exact iteT (k1' H4 st4)
          · rw [decide_eq_false no]
            refine iteF ?_
            obtain ⟨r, e1, e2⟩ := allS_some no
            rw [e1] at hvs
            obtain ⟨as, rfl, pa⟩ := pv_all hvs
            refine ⟨_, rfl, _, rfl, D, _, rfl, .inl ⟨SqL.of hD, fun b nb => ⟨(by show 2 ≤ sizeLine; decide), fun t nt => ?_⟩⟩⟩
            have q1 := same_new (o := .tup (as.map V.ref)) nb
            have q2 := same_new (o := .tup [natV m, .ref b]) nt
            refine k2 _ (by rw [e2]; rfl) t _ ((st4.same q1).same q2) ⟨b, upd_same, as, q2 _ _ upd_same, pairs_tups (sTups (q1.trans q2)) pa⟩
end
end NH
set_option Elab.async false
set_option linter.all false
set_option maxRecDepth 100000
set_option maxHeartbeats 4000000
namespace NH
open PySem L2
abbrev sBack : Stmt := top 13
abbrev sWrong : Stmt := top 12
abbrev sReach : Stmt := top 14
abbrev nBack : List Str := ["web", "hand", "peg", "other", "place", "pegs"]
abbrev nWrong : List Str := ["web", "hand", "mark", "pegs", "peg"]
abbrev nReach : List Str := ["web", "there", "waiting", "hand", "other", "place"]
section
variable {P : Program} {w : World} {K : PySem.W.Frag} {mg : Str → Option Value} {base : Heap}
theorem scBack : FnScope nBack ["web", "hand", "peg"] (defScope sBack) := ⟨rfl, rfl, rfl, by decide +kernel, rfl, by decide +kernel, by decide +kernel⟩
theorem scWrong : FnScope nWrong ["web", "hand"] (defScope sWrong) := ⟨rfl, rfl, rfl, by decide +kernel, rfl, by decide +kernel, by decide +kernel⟩
theorem scReach : FnScope nReach ["web"] (defScope sReach) := ⟨rfl, rfl, rfl, by decide +kernel, rfl, by decide +kernel, by decide +kernel⟩
theorem at_pair {ps : List Addr} {qs : List PegD} {H : Hp} (h : PairsAt H ps qs) {p : Nat} {x : PegD} (e : qs[p]? = some x) : ∃ pa, atI (ps.map V.ref) (p : Int) = some (.ref pa) ∧ PairAt H pa x := by
  obtain ⟨pa, e1, e2⟩ := paired_get' h e
  exact ⟨pa, at_of rfl (by rw [List.getElem?_map, e1]; rfl), e2⟩
theorem ok_back {f : Addr} {fd : FuncData} (F : Fun K "leads_back" "leads_back" sBack f fd) (mlen : mg "len" = none) : FnOk P w K mg base CX0 1 f fd ["web", "hand", "peg"] spBack := by
  refine F.ok scBack (fun vs H Q E h => ?_) (fun cdv A outer s H vs Q E hr h => ?_)
  · obtain ⟨a, wb, h, p, x, rfl, _⟩ := h
    rfl
  · obtain ⟨a, wb, h, p, x, rfl, hW, ep, wl, k⟩ := h
    have nd := scBack.nd
    refine ⟨_, pss_cons (ps_asg (pe_ix ix_tup (pe_ix ix_tup (pe_ix ix_tup (pv 0) (pv 1) (fun _ _ => rfl)) pe_int (fun _ _ => rfl)) (pv 2) (fun _ _ => rfl)) (pg_tup (by rfl) (pgs_cons (pg_name (i := 3) nd rfl (Or.inl rfl)) (pgs_cons (pg_name (i := 4) nd rfl (Or.inl rfl)) pgs_nil))))
      (pss_cons (ps_if (PW.pt (pw_or (pt_cmpR op_lt (pv 3) pe_int (nomark _)) (pw_or1 (pt_cmpR op_ge (pv 3) (pe_callB call_len_seq (by rfl) mlen PySem.boot_len (pa_cons (pv 0) pa_nil)) (nomark _))))) (pss_one (ps_ret pe_bl)) pss_nil)
      (pss_cons (ps_set (i := 5) nd rfl (Or.inl rfl) (pe_ix ix_tup (pe_ix ix_tup (pv 0) (pv 3) (fun _ _ => rfl)) pe_int (fun _ _ => rfl)))
      (pss_cons (ps_if (PW.pt (pw_or (pt_cmpR op_lt (pv 4) pe_int (nomark _)) (pw_or1 (pt_cmpR op_ge (pv 4) (pe_callB call_len_seq (by rfl) mlen PySem.boot_len (pa_cons (pv 5) pa_nil)) (nomark _))))) (pss_one (ps_ret pe_bl)) pss_nil)
      (pss_one (ps_ret (pe_cmpR (op_eqP hr) (pe_ix ix_tup (pv 5) (pv 4) (fun _ _ => rfl)) (pe_tup (pa_cons (pv 1) (pa_cons (pv 2) pa_nil))) (nomark _))))))), ?_⟩
    obtain ⟨hs, hWa, hWP⟩ := hW
    have hsl : hs.length = wb.length := Paired.length hWP
    obtain ⟨ha, b, hd, ps, ehd, eat, eha, eb, hps⟩ := web_hand (K := K) hWa hWP (pegOf_lt ep)
    have ex : hd.2[p]? = some x := by
      obtain ⟨hd', e1, e2⟩ := pegOf_some ep
      rw [ehd] at e1
      cases e1
      exact e2
    obtain ⟨pa, epa, hpa⟩ := at_pair hps ex
    have no : ∀ {P : Prop}, ¬ TieOk wb h p x → (false = true ↔ TieOk wb h p x) := fun {P} n => ⟨fun z => (nomatch z), fun z => absurd z n⟩
    refine ⟨_, rfl, _, rfl, a, _, _, _, rfl, rfl, SqT.of hWa, eat, ha, _, _, _, rfl, rfl, SqT.of eha, rfl, _, rfl, b, _, _, _, rfl, rfl, SqT.of eb, epa, ?_⟩
    refine ⟨pa, _, rfl, SqT.of hpa, rfl, _, _, rfl, _, _, rfl, rfl, ?_⟩
    refine ⟨_, rfl, _, _, rfl, rfl, _, rfl, ?_⟩
    refine ite2 (fun h1 => iteT ?_) (fun h1 => ?_)
    · have h1 := of_decide_eq_true h1
      refine k false H (fun _ _ e => e) (no (P := True) ?_)
      rintro ⟨g, q, rfl, _⟩
      omega
    refine ⟨_, rfl, _, rfl, a, _, rfl, .inr (SqT.of hWa), _, _, rfl, rfl, _, rfl, ?_⟩
    have h1 : ¬ x.1 < 0 := fun z => h1 (decide_eq_true z)
    refine ite2 (fun h2 => ?_) (fun h2 => ?_)
    · have h2 := of_decide_eq_true h2
      rw [List.length_map, hsl] at h2
      refine k false H (fun _ _ e => e) (no (P := True) ?_)
      rintro ⟨g, q, rfl, e⟩
      have := pegOf_lt e
      simp only at h2
      omega
    have h2 : ¬ ((wb.length : Int) ≤ x.1) := fun z => h2 (decide_eq_true (by rw [List.length_map, hsl]; exact z))
    obtain ⟨x1, x2⟩ := x
    simp only at h1 h2
    obtain ⟨g, rfl⟩ := Int.eq_ofNat_of_zero_le (Int.not_lt.mp h1)
    obtain ⟨ha2, b2, hd2, ps2, ehd2, eat2, eha2, eb2, hps2⟩ := web_hand (K := K) hWa hWP (show g < wb.length by omega)
    have psl2 : ps2.length = hd2.2.length := Paired.length hps2
    refine ⟨_, rfl, _, rfl, a, _, _, _, rfl, rfl, SqT.of hWa, eat2, ha2, _, _, _, rfl, rfl, SqT.of eha2, rfl, ?_⟩
    refine ⟨_, rfl, _, _, rfl, rfl, _, rfl, ?_⟩
    refine ite2 (fun h3 => iteT ?_) (fun h3 => ?_)
    · have h3 := of_decide_eq_true h3
      refine k false H (fun _ _ e => e) (no (P := True) ?_)
      rintro ⟨g', q, e, _⟩
      injection e with e1 e2
      simp only at h3
      omega
    refine ⟨_, rfl, _, rfl, b2, _, rfl, .inr (SqT.of eb2), _, _, rfl, rfl, _, rfl, ?_⟩
    have h3 : ¬ x2 < 0 := fun z => h3 (decide_eq_true z)
    refine ite2 (fun h4 => ?_) (fun h4 => ?_)
    · have h4 := of_decide_eq_true h4
      rw [List.length_map, psl2] at h4
      refine k false H (fun _ _ e => e) (no (P := True) ?_)
      rintro ⟨g', q, e, e'⟩
      injection e with e1 e2
      obtain ⟨hd3, y1, y2⟩ := pegOf_some e'
      have : g = g' := by omega
      subst this
      rw [ehd2] at y1
      cases y1
      have := (List.getElem?_eq_some_iff.mp y2).1
      simp only at h4
      omega
    have h4 : ¬ ((hd2.2.length : Int) ≤ x2) := fun z => h4 (decide_eq_true (by rw [List.length_map, psl2]; exact z))
    obtain ⟨q, rfl⟩ := Int.eq_ofNat_of_zero_le (Int.not_lt.mp h3)
    have eq2 : hd2.2[q]? = some (hd2.2[q]'(by omega)) := List.getElem?_eq_getElem (by omega)
    obtain ⟨pa2, epa2, hpa2⟩ := at_pair hps2 eq2
    refine ⟨_, rfl, _, rfl, b2, _, _, _, rfl, rfl, SqT.of eb2, epa2, _, rfl, _, rfl, (by show 2 ≤ sizeLine; decide), fun t mt => ?_⟩
    have st := same_new (o := .tup [natV h, natV p]) mt
    refine ⟨pa2, t, _, ((h : Int), (p : Int)), rfl, rfl, st _ _ hpa2, upd_same, k _ _ st ?_⟩
    rw [decide_eq_true_iff]
    constructor
    · intro e
      refine ⟨g, q, rfl, ?_⟩
      unfold pegOf
      rw [ehd2]
      show hd2.2[q]? = _
      rw [eq2, e]
    · rintro ⟨g', q', e, e'⟩
      obtain ⟨rfl, rfl⟩ := peg_nat (congrArg some e)
      unfold pegOf at e'
      rw [ehd2] at e'
      rw [show hd2.2[q]? = _ from e'] at eq2
      exact (Option.some.inj eq2).symm
end
end NH
set_option Elab.async false
set_option linter.all false
set_option maxRecDepth 100000
set_option maxHeartbeats 4000000
namespace NH
open PySem L2
abbrev sIW : Stmt := inClass (top 2) 0
section
variable {P : Program} {w : World} {K : PySem.W.Frag} {mg : Str → Option Value} {base : Heap}
def spIWr (C : Addr) : Sp := fun vs H Q _ => ∃ (x : Addr) (y z : V), vs = [.ref x, y, z] ∧ H x = some (Xr x C none) ∧
  ∀ (dx : Addr) (H' : Hp), H dx = none → (∀ b o, b ≠ x → H b = some o → H' b = some o) → H' x = some (Xr x C (some dx)) → H' dx = some (.xd (L2.putF "at" z [("word", y)])) → Q .non H'
theorem scIW : FnScope ["self", "word", "at"] ["self", "word", "at"] (defScope sIW) := ⟨rfl, rfl, rfl, by decide +kernel, rfl, by decide +kernel, by decide +kernel⟩
theorem ok_iw {f C : Addr} {fd : FuncData} (F : Fun K "__init__" "NoWeb.__init__" sIW f fd) (x : XCls K C) (a1 : NoAttr K C "word") (a2 : NoAttr K C "at") : FnOk P w K mg base CX0 1 f fd ["self", "word", "at"] (spIWr C) := by
  refine F.ok scIW (fun vs H Q E h => ?_) (fun cdv A outer s H vs Q E hr h => ?_)
  · obtain ⟨x, y, z, rfl, _⟩ := h
    rfl
  · obtain ⟨x', y, z, rfl, hx, k⟩ := h
    refine ⟨_, pss_cons (ps_fldR0 (pv 0) (pv 1) rfl) (pss_one (ps_fldR1 (pv 0) (pv 2) rfl)), ?_⟩
    refine ⟨_, rfl, _, rfl, x', C, rfl, hx, x, a1, fun dx nd => ?_⟩
    have hdx : dx ≠ x' := fun z => by rw [z, hx] at nd; cases nd
    refine ⟨_, rfl, _, rfl, x', C, dx, _, rfl, upd_same, (by rw [upd_ne hdx, upd_same]), x, a2, (by show 1 < 1000; decide), ?_⟩
    refine k dx _ nd (fun b o hb e => ?_) (by rw [upd_ne hdx.symm, upd_same]) upd_same
    rw [upd_ne (ne_of_none e nd), upd_ne hb, upd_ne (ne_of_none e nd)]
    exact e
end
end NH
set_option Elab.async false
set_option linter.all false
set_option maxRecDepth 100000
set_option maxHeartbeats 4000000
namespace NH
open PySem L2
abbrev sLook : Stmt := top 11
abbrev nLook : List Str := ["web", "hand", "word", "there"]
section
variable {P : Program} {w : World} {K : PySem.W.Frag} {mg : Str → Option Value} {base : Heap}
theorem ok_wrong {f fB : Addr} {fd fdB : FuncData} (F : Fun K "wrong_word" "wrong_word" sWrong f fd) (GB : FnOk P w K mg base CX0 1 fB fdB ["web", "hand", "peg"] spBack) (bB : Binds K fdB ["web", "hand", "peg"] []) (mB : mg "leads_back" = some (.ref fB)) (kB : PySem.W.keepIn K (.ref fB) = true)
    (mlen : mg "len" = none) (mrange : mg "range" = none) {uM uP : Value} (mM : mg "MOST_MARK" = some uM) (rM : RelV (.int 9) uM) (mP : mg "MOST_PEGS" = some uP) (rP : RelV (.int 4) uP) : FnOk P w K mg base CX0 2 f fd ["web", "hand"] spWrong := by
  refine F.ok scWrong (fun vs H Q E h => ?_) (fun cdv A outer s H vs Q E hr h => ?_)
  · obtain ⟨a, wb, h, rfl, _⟩ := h
    rfl
  · obtain ⟨a, wb, h, rfl, hW, hl, wl, pl, k⟩ := h
    have nd := scWrong.nd
    refine ⟨_, pss_cons (ps_asg (pe_ix ix_tup (pv 0) (pv 1) (fun _ _ => rfl)) (pg_tup (by rfl) (pgs_cons (pg_name (i := 2) nd rfl (Or.inl rfl)) (pgs_cons (pg_name (i := 3) nd rfl (Or.inl rfl)) pgs_nil))))
      (pss_cons (ps_if (PW.pt (pw_or (pt_cmpR op_lt (pv 2) pe_int (nomark _)) (pw_or1 (pt_cmpR op_gt (pv 2) (pe_glob (v := .int 9) (by rfl) mM rM) (nomark _))))) (pss_one (ps_ret pe_str)) pss_nil)
      (pss_cons (ps_if (pt_cmpR op_gt (pe_callB call_len_seq (by rfl) mlen PySem.boot_len (pa_cons (pv 3) pa_nil)) (pe_glob (v := .int 4) (by rfl) mP rP) (nomark _)) (pss_one (ps_ret pe_str)) pss_nil)
      (pss_cons (ps_for PassesOwn.never rfl (pi_range1 (by rfl) mrange (pa_cons (pe_callB call_len_seq (by rfl) mlen PySem.boot_len (pa_cons (pv 3) pa_nil)) pa_nil)) (pg_name (i := 4) nd rfl (Or.inl rfl))
        (pss_one (ps_if (pt_not (pt_val (pe_call GB hr (by rfl) mB kB bB .nil pass0 (pa_cons (pv 0) (pa_cons (pv 1) (pa_cons (pv 4) pa_nil)))))) (pss_one (ps_ret pe_str)) pss_nil)))
      (pss_one (ps_ret pe_non))))), ?_⟩
    have hW' := hW
    obtain ⟨hs, hWa, hWP⟩ := hW
    obtain ⟨ha, b, hd, ps, ehd, eat, eha, eb, hps⟩ := web_hand (K := K) hWa hWP hl
    have psl : ps.length = hd.2.length := Paired.length hps
    refine ⟨_, rfl, _, rfl, a, _, _, _, rfl, rfl, SqT.of hWa, eat, ha, _, rfl, SqT.of eha, rfl, _, _, rfl, _, _, rfl, rfl, ?_⟩
    refine ⟨_, rfl, _, _, rfl, rfl, _, rfl, ?_⟩
    refine ite2 (fun h1 => iteT ?_) (fun h1 => ?_)
    · have h1 := of_decide_eq_true h1
      exact k _ H (fun _ _ e => e) (.inr ⟨_, rfl, .mark ehd (fun z => by have := z.1; omega)⟩)
    have h1 : ¬ hd.1 < 0 := fun z => h1 (decide_eq_true z)
    refine ⟨_, rfl, _, _, rfl, rfl, _, rfl, ?_⟩
    refine ite2 (fun h2 => ?_) (fun h2 => ?_)
    · have h2 := of_decide_eq_true h2
      exact k _ H (fun _ _ e => e) (.inr ⟨_, rfl, .mark ehd (fun z => by have := z.2; omega)⟩)
    have h2 : ¬ (9 : Int) < hd.1 := fun z => h2 (decide_eq_true z)
    have mk : MarkOk hd := ⟨by omega, by omega⟩
    refine ⟨_, rfl, b, _, rfl, .inr (SqT.of eb), _, _, rfl, rfl, _, rfl, ?_⟩
    rw [List.length_map, psl]
    refine ite2 (fun h3 => ?_) (fun h3 => ?_)
    · have h3 := of_decide_eq_true h3
      exact k _ H (fun _ _ e => e) (.inr ⟨_, rfl, .pegs ehd mk (by omega)⟩)
    have h3 : ¬ (4 : Int) < hd.2.length := fun z => h3 (decide_eq_true z)
    refine ⟨_, rfl, b, _, rfl, .inr (SqT.of eb), ?_⟩
    rw [List.length_map, psl]
    refine ⟨_, rfl, by omega, by omega, for_range (lo := 0) (n := _) (fun c σ H1 => Same H H1 ∧ ∃ o4 : Option V, σ = [some (.ref a), some (natV h), some (.int hd.1), some (.ref b), o4] ∧ ∀ (p : Nat) x, p < c → hd.2[p]? = some x → TieOk wb h p x)
      ⟨fun _ _ e => e, none, rfl, fun p x hp => absurd hp (Nat.not_lt_zero _)⟩ ?_ ?_⟩
    · rintro c σ H1 hc ⟨s1, o4, rfl, ok⟩
      have cl : c < hd.2.length := by omega
      have ex : hd.2[c]? = some hd.2[c] := List.getElem?_eq_getElem cl
      have ep : pegOf wb h c = some hd.2[c] := by unfold pegOf; rw [ehd]; exact ex
      have zc : V.int (0 + (c : Int)) = natV c := by unfold natV; rw [Int.zero_add]
      refine ⟨_, rfl, _, rfl, _, rfl, a, wb, h, c, _, (by rw [zc]; rfl), hW'.tups (sTups s1), ep, wl, fun b' H2 s2 hb' => ⟨_, rfl, ?_⟩⟩
      refine ite2 (fun h4 => ?_) (fun h4 => ?_)
      · have : b' = false := by cases b' <;> first | rfl | exact absurd h4 (by decide)
        subst this
        exact k _ H2 (s1.trans s2) (.inr ⟨_, rfl, .tie ehd mk (by omega) ex (fun z => absurd (hb'.mpr z) Bool.false_ne_true)⟩)
      · have : b' = true := by cases b' <;> first | rfl | exact absurd rfl h4
        subst this
        refine ⟨s1.trans s2, _, rfl, fun p x hp e => ?_⟩
        by_cases z : p = c
        · subst z
          rw [ex] at e
          cases e
          exact hb'.mp rfl
        · exact ok p x (by omega) e
    · rintro σ H1 ⟨s1, o4, rfl, ok⟩
      rw [Int.toNat_natCast] at ok
      exact k .non H1 s1 (.inl ⟨rfl, hd, ehd, mk, by omega, fun p x e => ok p x (List.getElem?_eq_some_iff.mp e).1 e⟩)
theorem bl_at {bs : List Bool} {i : Nat} {b : Bool} (h : bs[i]? = some b) : atI (bs.map V.bl) (i : Int) = some (.bl b) := at_of rfl (by rw [List.getElem?_map, h]; rfl)
theorem repB (n : Nat) : (List.replicate n [V.bl false]).flatten = (List.replicate n false).map V.bl := by
  induction n with
  | zero => rfl
  | succ n ih => rw [List.replicate_succ, List.replicate_succ, List.flatten_cons, ih]; rfl
theorem ok_reach {f : Addr} {fd : FuncData} (F : Fun K "reached" "reached" sReach f fd) (mlen : mg "len" = none) : FnOk P w K mg base CX0 1 f fd ["web"] spReach := by
  refine F.ok scReach (fun vs H Q E h => ?_) (fun cdv A outer s H vs Q E hr h => ?_)
  · obtain ⟨a, wb, rfl, _⟩ := h
    rfl
  · obtain ⟨a, wb, rfl, hW, w0, wl, fine, k⟩ := h
    have nd := scReach.nd
    refine ⟨_, pss_cons (ps_set (i := 1) nd rfl (Or.inl rfl) (pe_op op_rep (pe_lst (pa_cons pe_bl pa_nil)) (pe_callB call_len_seq (by rfl) mlen PySem.boot_len (pa_cons (pv 0) pa_nil))))
      (pss_cons (ps_asg pe_bl (pg_sub (pv 1) pe_int set_list))
      (pss_cons (ps_set (i := 2) nd rfl (Or.inl rfl) (pe_lst (pa_cons pe_int pa_nil)))
      (pss_cons (ps_while PassesOwn.never (pt_truth (pv 2) (fun _ => rfl))
        (pss_cons (ps_set (i := 3) nd rfl (Or.inl rfl) (pe_bm0 PySem.F.plainAttrs_list PySem.F.slot_list_pop PySem.F.type_list_pop mt_pop (pv 2)))
        (pss_one (ps_for PassesOwn.never rfl (pi_tup (pe_ix ix_tup (pe_ix ix_tup (pv 0) (pv 3) (fun _ _ => rfl)) pe_int (fun _ _ => rfl))) (pg_tup (by rfl) (pgs_cons (pg_name (i := 4) nd rfl (Or.inl rfl)) (pgs_cons (pg_name (i := 5) nd rfl (Or.inl rfl)) pgs_nil)))
          (pss_one (ps_if (pt_not (pt_val (pe_ix ix_list (pv 1) (pv 4) (fun _ _ => rfl)))) (pss_cons (ps_asg pe_bl (pg_sub (pv 1) (pv 4) set_list)) (pss_one (ps_expr (pe_bm PySem.F.plainAttrs_list PySem.F.slot_list_append PySem.F.type_list_append mt_append (pv 2) (pa_cons (pv 4) pa_nil))))) pss_nil))))))
      (pss_one (ps_ret (pv 1)))))), ?_⟩
    obtain ⟨hs, hWa, hWP⟩ := hW
    have hsl : hs.length = wb.length := Paired.length hWP
    refine ⟨(by show 1 ≤ sizeLine; decide), fun a0 n0 => ⟨_, rfl, a, _, rfl, .inr (SqT.of (same_new n0 _ _ hWa)), ?_⟩⟩
    rw [List.length_map, hsl]
    refine ⟨a0, _, _, rfl, rfl, upd_same, by omega, by omega, (by show 1 * (wb.length : Int).toNat ≤ sizeLine; rw [sizeLine_eq]; omega), fun Lb nLb => ?_⟩
    have q0 := same_new (o := .lst [.bl false]) n0
    have nLbH : H Lb = none := q0.free nLb
    have s1 := q0.trans (same_new (o := .lst (List.replicate (wb.length : Int).toNat [V.bl false]).flatten) nLb)
    have eLb : (upd (upd H a0 (.lst [.bl false])) Lb (.lst (List.replicate (wb.length : Int).toNat [V.bl false]).flatten)) Lb = some (.lst ((List.replicate wb.length false).map V.bl)) := by rw [upd_same, Int.toNat_natCast, repB]
    generalize (upd (upd H a0 (.lst [.bl false])) Lb (.lst (List.replicate (wb.length : Int).toNat [V.bl false]).flatten)) = H1 at s1 eLb ⊢
    refine ⟨_, rfl, Lb, _, _, 0, rfl, rfl, eLb, ixN_nat rfl (by rw [List.length_map, List.length_replicate]; omega), ?_⟩
    refine ⟨(by show 1 ≤ sizeLine; decide), fun Lw nLw => ?_⟩
    have s2 := same_upd (o := .lst (((List.replicate wb.length false).map V.bl).set 0 (.bl true))) s1 nLbH
    have nLwH : H Lw = none := s2.free nLw
    have neL : Lb ≠ Lw := fun z => by rw [← z, upd_same] at nLw; cases nLw
    have eLb2 : (upd (upd H1 Lb (.lst (((List.replicate wb.length false).map V.bl).set 0 (.bl true)))) Lw (.lst [.int 0])) Lb = some (.lst (((List.replicate wb.length false).set 0 true).map V.bl)) := by
      rw [upd_ne neL, upd_same, List.map_set]
    have wk0 : Walk wb ((List.replicate wb.length false).set 0 true) [0] 0 0 := by
      have z0 : ((List.replicate wb.length false).set 0 true)[0]? = some true := List.getElem?_set_self (by rw [List.length_replicate]; omega)
      have on : ∀ k : Nat, ((List.replicate wb.length false).set 0 true)[k]? = some true → k = 0 := fun k e => by
        apply Classical.byContradiction
        intro ne
        rw [List.getElem?_set_ne (Ne.symm ne)] at e
        have := (List.getElem?_eq_some_iff.mp e).2
        rw [List.getElem_replicate] at this
        cases this
      exact ⟨by rw [List.length_set, List.length_replicate], z0, fun k e => by rw [on k e]; exact Rch.zero, fun k hk => by rw [List.mem_singleton.mp hk]; exact z0, fun k p g q e n => absurd (List.mem_singleton.mpr (on k e)) n, z0⟩
    refine ⟨fun m σ H3 => ∃ (bs : List Bool) (ws : List Nat) (h c : Nat) (o3 o4 o5 : Option V), m = 2 * bs.count false + ws.length ∧ σ = [some (.ref a), some (.ref Lb), some (.ref Lw), o3, o4, o5] ∧ Same H H3 ∧ H3 Lb = some (.lst (bs.map V.bl)) ∧ H3 Lw = some (.lst (ws.map natV)) ∧ ws.length ≤ 5000 ∧ Walk wb bs ws h c ∧ (h ∉ ws → ∀ hd, wb[h]? = some hd → hd.2.length ≤ c) ∧ 2 * bs.count false + ws.length ≤ 5000,
      ⟨_, _, [0], 0, 0, none, none, none, rfl, rfl, same_upd s2 nLwH, eLb2, upd_same, by decide, wk0, fun n => absurd (List.mem_singleton.mpr rfl) n, ?_⟩, ?_⟩
    · have := List.count_le_length (a := false) (l := (List.replicate wb.length false).set 0 true)
      rw [List.length_set, List.length_replicate] at this
      show 2 * _ + 1 ≤ 5000
      omega
    rintro m σ H3 ⟨bs, ws, h, c, o3, o4, o5, rfl, rfl, s3, eB, eW, wsl, wk, dn, bd⟩
    refine ⟨_, rfl, _, .inl ⟨_, SqL.of eW, rfl⟩, ?_⟩
    rcases List.eq_nil_or_concat ws with rfl | ⟨ws', h', rfl⟩
    · refine iteF ?_
      exact ⟨_, rfl, k Lb bs H3 s3 nLbH eB wk.len (wk.done (dn (fun z => nomatch z)))⟩
    · rw [List.concat_eq_append] at *
      have he : (!((ws' ++ [h']).map natV).isEmpty) = true := by rw [List.map_append]; cases ws'.map natV <;> rfl
      rw [he]
      refine iteT ⟨fun σ' H' => ∃ m', m' < 2 * bs.count false + (ws' ++ [h']).length ∧ _, fun σ' H' z => z, ?_⟩
      have wl1 : (ws' ++ [h']).length = ws'.length + 1 := by rw [List.length_append]; rfl
      have wk1 := wk.pop dn
      have hl' : h' < wb.length := by rw [← wk1.len]; exact (List.getElem?_eq_some_iff.mp wk1.here).1
      refine ⟨_, rfl, .inl ⟨rfl, _, SqL.of eW⟩, Lw, _, natV h', rfl, rfl, eW, (by rw [List.map_append, List.length_append, List.getElem?_append_right (by show _ ≤ _ + 1 - 1; omega)]; show [natV h'][_ + 1 - 1 - _]? = _; rw [Nat.add_sub_cancel, Nat.sub_self]; rfl), ?_⟩
      have edl : ((ws' ++ [h']).map natV).dropLast = ws'.map natV := by rw [List.map_append]; exact List.dropLast_concat
      rw [edl]
      have s4 := same_upd (o := .lst (ws'.map natV)) s3 nLwH
      have eB4 : (upd H3 Lw (.lst (ws'.map natV))) Lb = some (.lst (bs.map V.bl)) := by rw [upd_ne neL]; exact eB
      have eW4 : (upd H3 Lw (.lst (ws'.map natV))) Lw = some (.lst (ws'.map natV)) := upd_same
      generalize (upd H3 Lw (.lst (ws'.map natV))) = H4 at s4 eB4 eW4 ⊢
      obtain ⟨ha, b, hd, ps, ehd, eat, eha, eb, hps⟩ := web_hand (K := K) hWa hWP hl'
      have psl : ps.length = hd.2.length := Paired.length hps
      refine ⟨_, rfl, _, rfl, a, _, _, _, rfl, rfl, SqT.of (s4 _ _ hWa), eat, ha, _, _, _, rfl, rfl, SqT.of (s4 _ _ eha), rfl, b, rfl, ⟨_, SqT.of (s4 _ _ eb)⟩, ?_⟩
      refine for_tup (K := K) (a := b) (xs := ps.map V.ref) (fun c σ H5 => ∃ (bs2 : List Bool) (ws2 : List Nat) (o4 o5 : Option V), σ = [some (.ref a), some (.ref Lb), some (.ref Lw), some (natV h'), o4, o5] ∧ Same H H5 ∧ H5 Lb = some (.lst (bs2.map V.bl)) ∧ H5 Lw = some (.lst (ws2.map natV)) ∧ Walk wb bs2 ws2 h' c ∧ 2 * bs2.count false + ws2.length + 1 ≤ 2 * bs.count false + (ws' ++ [h']).length)
        ⟨bs, ws', _, _, rfl, s4, eB4, eW4, wk1, by omega⟩ (fun c σ H5 _ ⟨_, _, _, _, _, s5, _⟩ => SqT.of (s5 _ _ eb)) ?_ ?_
      · rintro c y σ H5 hyc ⟨bs2, ws2, o4, o5, rfl, s5, eB5, eW5, wk5, bd5⟩
        rw [List.getElem?_map] at hyc
        obtain ⟨pa, epa, rfl⟩ := Option.map_eq_some_iff.mp hyc
        obtain ⟨x, ex, hpa⟩ := paired_get hps epa
        have epeg : pegOf wb h' c = some x := by unfold pegOf; rw [ehd]; exact ex
        obtain ⟨g, q, rfl, gl⟩ := Fine.peg fine epeg
        have eg : bs2[g]? = some (bs2[g]'(by rw [wk5.len]; exact gl)) := List.getElem?_eq_getElem (by rw [wk5.len]; exact gl)
        refine ⟨pa, _, rfl, SqT.of (s5 _ _ hpa), rfl, _, _, rfl, _, _, rfl, rfl, ?_⟩
        refine ⟨_, rfl, _, rfl, Lb, _, _, _, rfl, rfl, SqL.of eB5, bl_at eg, _, rfl, ?_⟩
        generalize (bs2[g]'(by rw [wk5.len]; exact gl)) = bb at eg
        cases bb with
        | true =>
          refine iteF ?_
          exact ⟨bs2, ws2, _, _, rfl, s5, eB5, eW5, wk5.old epeg eg, bd5⟩
        | false =>
          refine iteT ?_
          have gb : g < bs2.length := (List.getElem?_eq_some_iff.mp eg).1
          have cs := count_set eg
          refine ⟨_, rfl, _, rfl, Lb, _, _, g, rfl, rfl, eB5, ixN_nat rfl (by rw [List.length_map]; exact gb), ?_⟩
          have s6 := same_upd (o := .lst ((bs2.map V.bl).set g (.bl true))) s5 nLbH
          have eB6 : (upd H5 Lb (.lst ((bs2.map V.bl).set g (.bl true)))) Lb = some (.lst ((bs2.set g true).map V.bl)) := by rw [upd_same, List.map_set]
          have eW6 : (upd H5 Lb (.lst ((bs2.map V.bl).set g (.bl true)))) Lw = some (.lst (ws2.map natV)) := by rw [upd_ne neL.symm]; exact eW5
          generalize (upd H5 Lb (.lst ((bs2.map V.bl).set g (.bl true)))) = H6 at s6 eB6 eW6 ⊢
          refine ⟨_, rfl, .inl ⟨rfl, _, SqL.of eW6⟩, _, rfl, Lw, _, _, rfl, rfl, eW6, (by rw [List.length_map, sizeLine_eq]; omega), ?_⟩
          refine ⟨bs2.set g true, ws2 ++ [g], _, _, rfl, same_upd s6 nLwH, (by rw [upd_ne neL]; exact eB6), (by rw [List.map_append]; exact upd_same), wk5.new epeg eg, ?_⟩
          rw [List.length_append]
          show 2 * _ + (ws2.length + 1) + 1 ≤ _
          omega
      · rintro σ H5 ⟨bs2, ws2, o4, o5, rfl, s5, eB5, eW5, wk5, bd5⟩
        rw [List.length_map, psl] at wk5
        exact ⟨2 * bs2.count false + ws2.length, by omega, bs2, ws2, h', hd.2.length, _, _, _, rfl, rfl, s5, eB5, eW5, by omega, wk5, fun _ hd2 e => (by rw [ehd] at e; cases e; exact Nat.le_refl _), by omega⟩
end
end NH
set_option Elab.async false
set_option linter.all false
set_option maxRecDepth 100000
set_option maxHeartbeats 4000000
namespace NH
open PySem L2
section
variable {P : Program} {w : World} {K : PySem.W.Frag} {mg : Str → Option Value} {base : Heap}
theorem scLook : FnScope nLook ["web"] (defScope sLook) := ⟨rfl, rfl, rfl, by decide +kernel, rfl, by decide +kernel, by decide +kernel⟩
def spLook (c : Addr) : Sp := fun vs H Q E => ∃ (a : Addr) (w : WebD), vs = [.ref a] ∧ WebAt H a w ∧ w.length ≤ 1000 ∧ (∀ (h : Nat) hd, w[h]? = some hd → hd.2.length ≤ 1000) ∧
  (∀ H', Same H H' → Due w none → Q (.bl true) H') ∧
  ∀ (x dx : Addr) (s : Str) (h : Nat) (H' : Hp), Same H H' → Due w (some (s, h)) → H x = none → H' x = some (Xn x c (some dx)) → H' dx = some (.xd [("word", .str s), ("at", natV h)]) → E (.ref x) (some dx) H'
structure Rais (P : Program) (w : World) (K : PySem.W.Frag) (mg : Str → Option Value) (base : Heap) (c : Addr) : Prop where
  x : XCls K c
  mt : metaTy K c = true
  kp : PySem.W.keepIn K (.ref c) = true
  m : mg "NoWeb" = some (.ref c)
  init : ∃ (f : Addr) (fd : FuncData), ownX K c (some (.ref f)) = true ∧ PySem.W.isFn K (.ref f) = true ∧ FnOk P w K mg base CX0 1 f fd ["self", "word", "at"] (spIWr c) ∧ Binds K fd ["self", "word", "at"] []
theorem ok_look {f fW fR c : Addr} {fd fdW fdR : FuncData} (F : Fun K "look" "look" sLook f fd) (GW : FnOk P w K mg base CX0 2 fW fdW ["web", "hand"] spWrong) (bW : Binds K fdW ["web", "hand"] []) (mW : mg "wrong_word" = some (.ref fW)) (kW : PySem.W.keepIn K (.ref fW) = true)
    (GR : FnOk P w K mg base CX0 1 fR fdR ["web"] spReach) (bR : Binds K fdR ["web"] []) (mR : mg "reached" = some (.ref fR)) (kR : PySem.W.keepIn K (.ref fR) = true)
    (mlen : mg "len" = none) (mrange : mg "range" = none) (menum : mg "enumerate" = none) (R : Rais P w K mg base c) : FnOk P w K mg base (CX1 P w) 3 f fd ["web"] (spLook c) := by
  obtain ⟨fI, fdI, own, isf, GI, bI⟩ := R.init
  refine F.okX scLook (fun vs H Q E h => ?_) (fun cdv A outer s H vs Q E hr h => ?_)
  · obtain ⟨a, wb, rfl, _⟩ := h
    rfl
  · obtain ⟨a, wb, rfl, hW, wl, pl, kQ, kE⟩ := h
    have nd := scLook.nd
    have hr1 := hr.mono (show 1 ≤ 2 by decide)
    refine ⟨_, pss_cons (ps_if (pt_cmpR op_eq (pe_callB call_len_seq (by rfl) mlen PySem.boot_len (pa_cons (pv 0) pa_nil)) pe_int (nomark _)) (pss_one (ps_raise plain_of rfl (pe_makeR own isf R.kp GI hr (by rfl) R.m bI pass0 (pa_cons pe_str (pa_cons pe_int pa_nil))))) pss_nil)
      (pss_cons (ps_for (xe_passes plain_of) rfl (pi_range1 (by rfl) mrange (pa_cons (pe_callB call_len_seq (by rfl) mlen PySem.boot_len (pa_cons (pv 0) pa_nil)) pa_nil)) (pg_name (i := 1) nd rfl (Or.inl rfl))
        (pss_cons (ps_set (i := 2) nd rfl (Or.inl rfl) (pe_call GW hr (by rfl) mW kW bW .nil pass0 (pa_cons (pv 0) (pa_cons (pv 1) pa_nil))))
        (pss_one (ps_if (pt_cmpR op_notN (pv 2) pe_non (nomark _)) (pss_one (ps_raise plain_of rfl (pe_makeR own isf R.kp GI hr (by rfl) R.m bI pass0 (pa_cons (pv 2) (pa_cons (pv 1) pa_nil))))) pss_nil))))
      (pss_cons (ps_for (xe_passes plain_of) rfl (pi_enum (by rfl) menum (pa_cons (pe_call GR hr1 (by rfl) mR kR bR .nil pass0 (pa_cons (pv 0) pa_nil)) pa_nil)) (pg_tup (by rfl) (pgs_cons (pg_name (i := 1) nd rfl (Or.inl rfl)) (pgs_cons (pg_name (i := 3) nd rfl (Or.inl rfl)) pgs_nil)))
        (pss_one (ps_if (pt_not (pt_val (pv 3))) (pss_one (ps_raise plain_of rfl (pe_makeR own isf R.kp GI hr (by rfl) R.m bI pass0 (pa_cons pe_str (pa_cons (pv 1) pa_nil))))) pss_nil)))
      (pss_one (ps_ret pe_bl)))), ?_⟩
    have hW' := hW
    obtain ⟨hs, hWa, hWP⟩ := hW
    have hsl : hs.length = wb.length := Paired.length hWP
    -- what raising asks
    have rais : ∀ (s : Str) (h : Nat) (H1 : Hp), Same H H1 → Due wb (some (s, h)) → ∀ x, H1 x = none → spIWr c [.ref x, .str s, natV h] (upd H1 x (Xr x c none)) (fun v H2 => v = .non ∧ ∃ a C dx, V.ref x = .ref a ∧ H2 a = some (Xr a C (some dx)) ∧ (∃ fs, H2 dx = some (.xd fs)) ∧ XCls K C ∧ metaTy K C = true ∧ E (.ref a) (some dx) (upd H2 a (Xn a C (some dx)))) E0 := by
      intro s h H1 s1 due x nx
      refine ⟨x, .str s, natV h, rfl, upd_same, fun dx H2 ndx kp e1 e2 => ⟨rfl, x, c, dx, rfl, e1, ⟨_, e2⟩, R.x, R.mt, ?_⟩⟩
      have hdx : dx ≠ x := fun z => by rw [z, upd_same] at ndx; cases ndx
      refine kE x dx s h _ (fun b o e => ?_) due (s1.free nx) upd_same (by rw [upd_ne hdx]; exact e2)
      have hb : b ≠ x := ne_of_none (s1 _ _ e) nx
      rw [upd_ne hb]
      exact kp b o hb (by rw [upd_ne hb]; exact s1 _ _ e)
    refine ⟨_, rfl, a, _, rfl, .inr (SqT.of hWa), rfl, _, rfl, ?_⟩
    rw [List.length_map, hsl]
    refine ite2 (fun h0 => ?_) (fun h0 => ?_)
    · have h0 := of_decide_eq_true h0
      have hn : wb = [] := by
        injection h0 with h0
        exact List.length_eq_zero_iff.mp (by omega)
      exact rais "hands" 0 H (fun _ _ e => e) (.hands hn)
    have h0 : wb ≠ [] := fun z => h0 (decide_eq_true (by rw [z]; rfl))
    have w0 : 0 < wb.length := List.length_pos_iff.mpr h0
    refine ⟨_, rfl, a, _, rfl, .inr (SqT.of hWa), ?_⟩
    rw [List.length_map, hsl]
    refine ⟨_, rfl, by omega, by omega, for_range (lo := 0) (n := _) (fun i σ H1 => Same H H1 ∧ ∃ (o1 o2 : Option V), σ = [some (.ref a), o1, o2, none] ∧ ∀ h, h < i → Fine wb h) ⟨fun _ _ e => e, none, none, rfl, fun h hh => absurd hh (Nat.not_lt_zero _)⟩ ?_ ?_⟩
    · rintro i σ H1 hi ⟨s1, o1, o2, rfl, fi⟩
      have zi : V.int (0 + (i : Int)) = natV i := by unfold natV; rw [Int.zero_add]
      refine ⟨_, rfl, _, rfl, a, wb, i, (by rw [zi]; rfl), hW'.tups (sTups s1), by omega, wl, pl, fun v H2 s2 wd => ?_⟩
      refine ⟨_, rfl, rfl, _, rfl, ?_⟩
      rcases wd with ⟨rfl, fn⟩ | ⟨s, rfl, bad⟩
      · refine iteF ⟨s1.trans s2, _, _, rfl, fun h hh => ?_⟩
        by_cases z : h = i
        · rw [z]; exact fn
        · exact fi h (by omega)
      · refine iteT ?_
        refine ⟨_, rfl, _, rfl, ?_⟩
        rw [zi]
        exact rais s i H2 (s1.trans s2) (.hand fi bad)
    · rintro σ H1 ⟨s1, o1, o2, rfl, fi⟩
      rw [Int.toNat_natCast] at fi
      refine ⟨_, rfl, a, wb, rfl, hW'.tups (sTups s1), w0, wl, fi, fun r bs H2 s2 nr er bl rch => ?_⟩
      refine ⟨r, _, rfl, SqL.of er, for_enum (K := K) (a := r) (xs := bs.map V.bl) (fun i σ H3 => Same H2 H3 ∧ ∃ (o1 o2 o3 : Option V), σ = [some (.ref a), o1, o2, o3] ∧ ∀ h, h < i → Rch wb h) ⟨fun _ _ e => e, _, _, _, rfl, fun h hh => absurd hh (Nat.not_lt_zero _)⟩ (fun i σ H3 _ ⟨s3, _⟩ => SqL.of (s3 _ _ er)) ?_ ?_⟩
      · rintro i y T σ H3 hyi ⟨s3, o1, o2, o3, rfl, ri⟩ nT
        rw [List.getElem?_map] at hyi
        obtain ⟨bb, ebb, rfl⟩ := Option.map_eq_some_iff.mp hyi
        have il : i < wb.length := by rw [← bl]; exact (List.getElem?_eq_some_iff.mp ebb).1
        have s4 := s3.trans (same_new (o := .tup [.int (i : Nat), .bl bb]) nT)
        refine ⟨T, _, rfl, SqT.of upd_same, rfl, _, _, rfl, _, _, rfl, rfl, ?_⟩
        refine ⟨_, rfl, _, rfl, ?_⟩
        cases bb with
        | true =>
          refine iteF ⟨s4, _, _, _, rfl, fun h hh => ?_⟩
          by_cases z : h = i
          · rw [z]; exact (rch i il).mp ebb
          · exact ri h (by omega)
        | false =>
          refine iteT ?_
          refine ⟨_, rfl, ?_⟩
          refine rais "apart" i _ ((s1.trans s2).trans s4) (.apart fi il ri fun z => ?_)
          have := (rch i il).mpr z
          rw [ebb] at this
          cases this
      · rintro σ H3 ⟨s3, o1, o2, o3, rfl, ri⟩
        rw [List.length_map, bl] at ri
        exact kQ H3 ((s1.trans s2).trans s3) (.good h0 fi ri)
theorem ok_lookG {f c : Addr} {fd : FuncData} (F : FnOk P w K mg base (CX1 P w) 3 f fd ["web"] (spLook c)) : FnOk P w K mg base CX0 3 f fd ["web"] spLookG :=
  FnOk.calm F fun vs H Q E ⟨a, wb, e, hW, gd, wl, k⟩ => ⟨a, wb, e, hW, by omega, fun h hd q => by have := gd.pegs h hd q; omega, fun H' s _ => k H' s, fun x dx s h H' _ d _ _ _ => by
    have := Due.unique d gd.due
    cases this⟩
end
end NH
set_option Elab.async false
set_option linter.all false
set_option maxRecDepth 100000
set_option maxHeartbeats 4000000
namespace NH
open PySem L2 TL
abbrev sRdw : Stmt := top 19
abbrev nRdw : List Str := ["text", "hands", "at", "row", "hand", "web"]
theorem scRdw : FnScope nRdw ["text"] (defScope sRdw) := ⟨rfl, rfl, rfl, by decide +kernel, rfl, by decide +kernel, by decide +kernel⟩
def spRdw (T : Addr) : Sp := fun vs H Q _ => ∃ (w : WebD), vs = [.str (webS w)] ∧ SmW w ∧ Good 4 w ∧ w.length ≤ 100 ∧ TblAt H T ∧ ∀ (a : Addr) (H' : Hp), StepT T H H' → WebAt H' a w → Q (.ref a) H'
section
variable {P : Program} {w : World} {K : PySem.W.Frag} {mg : Str → Option Value} {base : Heap}
theorem ok_rdw {f : Addr} {fd : FuncData} {T : Addr} (F : Fun K "read_web" "read_web" sRdw f fd) (G : Dr P w K mg base) (CD : FnAt P w K mg base 5 "read_hand" ["row"] (spHnd T)) (CK : FnAt P w K mg base 3 "look" ["web"] spLookG) : FnOk P w K mg base CX0 6 f fd ["text"] (spRdw T) := by
  obtain ⟨fD, fdD, GD, bD, mD, kD⟩ := CD
  obtain ⟨fK, fdK, GK, bK, mK, kK⟩ := CK
  refine F.ok scRdw (fun vs H Q E h => ?_) (fun cdv A outer s H vs Q E hr h => ?_)
  · obtain ⟨z, rfl, _⟩ := h
    rfl
  · have nd := scRdw.nd
    have hrD := hr
    have hrK := hr.mono (show 3 ≤ 5 by decide)
    obtain ⟨wb, rfl, sm, gd, wl, tb, k⟩ := h
    refine ⟨_, (pss_cons (ps_set (i := 1) nd rfl (Or.inl rfl) (pe_lst pa_nil))
      (pss_cons (ps_for PassesOwn.never rfl (pi_enum (by rfl) G.menum (pa_cons (pe_split (pv 0) pe_str) pa_nil)) (pg_tup (by rfl) (pgs_cons (pg_name (i := 2) nd rfl (Or.inl rfl)) (pgs_cons (pg_name (i := 3) nd rfl (Or.inl rfl)) pgs_nil)))
        (pss_cons (ps_set (i := 4) nd rfl (Or.inl rfl) (pe_call GD hrD (by rfl) mD kD bD .nil pass0 (pa_cons (pv 3) pa_nil)))
        (pss_cons (ps_if (pt_cmpR op_isN (pv 4) pe_non (nomark _)) (pss_one ps_never) pss_nil)
        (pss_one (ps_expr (pe_bm PySem.F.plainAttrs_list PySem.F.slot_list_append PySem.F.type_list_append mt_append (pv 1) (pa_cons (pv 4) pa_nil)))))))
      (pss_cons (ps_set (i := 5) nd rfl (Or.inl rfl) (pe_callTy call_tuple_of (by rfl) G.mtuple (by decide +kernel) (pa_cons (pv 1) pa_nil)))
      (pss_cons (ps_expr (pe_call GK hrK (by rfl) mK kK bK .nil pass0 (pa_cons (pv 5) pa_nil)))
      (pss_one (ps_ret (pv 5))))))), ?_⟩
    have zl := webS_len sm
    refine ⟨(by show 0 ≤ sizeLine; decide), fun D nD => ?_⟩
    have s0 := same_new (o := .lst []) nD
    have eD : (upd H D (.lst [])) D = some (.lst []) := upd_same
    generalize (upd H D (.lst [])) = H0 at s0 eD ⊢
    refine ⟨_, rfl, ⟨_, rfl⟩, _, _, rfl, rfl, (by decide +kernel), (by rw [sizeLine_eq]; omega), fun L nL => ?_⟩
    rw [split_web sm]
    have s1 := same_new (o := .lst ((wb.map handS).map V.str)) nL
    have eL : (upd H0 L (.lst ((wb.map handS).map V.str))) L = some (.lst ((wb.map handS).map V.str)) := upd_same
    have eD1 := s1 _ _ eD
    generalize (upd H0 L (.lst ((wb.map handS).map V.str))) = H1 at s1 eL eD1 ⊢
    have tb1 : TblAt H1 T := (tb.same s0).same s1
    have neLT : L ≠ T := fun y => by
      obtain ⟨_, e, _⟩ := tb1.ex
      rw [y, e] at eL
      cases eL
    have neDT : D ≠ T := fun y => by
      obtain ⟨_, e, _⟩ := tb1.ex
      rw [y, e] at eD1
      cases eD1
    have neLD : L ≠ D := fun y => by rw [y, eD] at nL; cases nL
    refine ⟨L, _, rfl, SqL.of eL, for_enum (K := K) (a := L) (xs := (wb.map handS).map V.str) (fun i σ H2 => StepT T H H2 ∧ H2 L = some (.lst ((wb.map handS).map V.str)) ∧ (∃ as : List Addr, H2 D = some (.lst (as.map V.ref)) ∧ Paired (HandAt H2) as (wb.take i)) ∧ ∃ o2 o3 o4 o5 : Option V, σ = [some (.str (webS wb)), some (.ref D), o2, o3, o4, o5])
      ⟨((StepT.refl tb).same s0).same s1, eL, ⟨[], eD1, .nil⟩, none, none, none, none, rfl⟩ (fun i σ H2 _ ⟨_, e, _⟩ => SqL.of e) ?_ ?_⟩
    · rintro i v U σ H2 hv ⟨s2, eL2, ⟨as, hD, has⟩, o2, o3, o4, o5, rfl⟩ nU
      rw [List.getElem?_map] at hv
      obtain ⟨y, ey, rfl⟩ := Option.map_eq_some_iff.mp hv
      rw [List.getElem?_map] at ey
      obtain ⟨hd, ehd, rfl⟩ := Option.map_eq_some_iff.mp ey
      have sh := sm.hand hd (List.mem_of_getElem? ehd)
      have sU := same_new (o := .tup [.int (i : Nat), .str (handS hd)]) nU
      have s3 := s2.same sU
      refine ⟨U, _, rfl, SqT.of upd_same, rfl, _, _, rfl, _, _, rfl, rfl, ?_⟩
      have hD3 := sU _ _ hD
      have eL3 := sU _ _ eL2
      have has3 := Paired.mapP has fun _ _ z => HandAt.tups (sTups sU) z
      generalize (upd H2 U (.tup [.int (i : Nat), .str (handS hd)])) = H3 at sU s3 hD3 eL3 has3 ⊢
      have hl := handS_len sh
      refine ⟨_, rfl, handS hd, rfl, (by omega), s3.tbl, (fun e => by rw [readH_hand sh] at e; cases e), fun x ex a H4 s4 ha => ?_⟩
      rw [readH_hand sh] at ex
      cases ex
      refine ⟨_, rfl, rfl, _, rfl, ?_⟩
      refine iteF ?_
      have hD4 := s4.keep D _ neDT hD3
      have eL4 := s4.keep L _ neLT eL3
      refine ⟨_, rfl, .inl ⟨rfl, _, SqL.of hD4⟩, _, rfl, D, _, _, rfl, rfl, hD4, (by rw [List.length_map, Paired.length has, List.length_take, sizeLine_eq]; omega), ?_⟩
      have tt := tups_lst (o := HO.lst (as.map V.ref ++ [.ref a])) hD4
      refine ⟨?_, by rw [upd_ne neLD]; exact eL4, ⟨as ++ [a], by rw [upd_same, List.map_append]; rfl, ?_⟩, _, _, _, _, rfl⟩
      · exact (s3.trans s4).put nD neDT
      · rw [take_snoc ehd]
        exact paired_snoc (R := HandAt (upd H4 D (.lst (as.map V.ref ++ [.ref a])))) (ha.tups tt) (Paired.mapP has3 fun _ _ z => HandAt.tups ((s4.tups s3.tbl).trans tt) z)
    · rintro σ H2 ⟨s2, eL2, ⟨as, hD, has⟩, o2, o3, o4, o5, rfl⟩
      rw [List.length_map, List.length_map, List.take_length] at has
      refine ⟨_, rfl, D, _, rfl, .inl ⟨SqL.of hD, fun r nr => ?_⟩⟩
      have sr := same_new (o := .tup (as.map V.ref)) nr
      have hW : WebAt (upd H2 r (.tup (as.map V.ref))) r wb := ⟨as, upd_same, Paired.mapP has fun _ _ z => HandAt.tups (sTups sr) z⟩
      refine ⟨_, rfl, r, wb, rfl, hW, gd, wl, fun H4 s4 => ?_⟩
      exact ⟨_, rfl, k r H4 ((s2.same sr).same s4) (hW.tups (sTups s4))⟩
end
end NH
set_option Elab.async false
set_option linter.all false
set_option maxRecDepth 100000
set_option maxHeartbeats 4000000
namespace NH
open PySem L2 TL
abbrev sShh : Stmt := top 18
abbrev nShh : List Str := ["mark", "pegs", "words", "hand", "peg"]
theorem scShh : FnScope nShh ["mark", "pegs"] (defScope sShh) := ⟨rfl, rfl, rfl, by decide +kernel, rfl, by decide +kernel, by decide +kernel⟩
abbrev sShw : Stmt := top 17
abbrev nShw : List Str := ["web", "mark", "pegs"]
theorem scShw : FnScope nShw ["web"] (defScope sShw) := ⟨rfl, rfl, rfl, by decide +kernel, rfl, by decide +kernel, by decide +kernel⟩
abbrev sLwt : Stmt := top 34
abbrev nLwt : List Str := ["_law_web_here", "_law_rows", "_law_mark", "_law_pegs", "_law_g", "_law_q"]
theorem scLwt : FnScope nLwt ["_law_web_here"] (defScope sLwt) := ⟨rfl, rfl, rfl, by decide +kernel, rfl, by decide +kernel, by decide +kernel⟩
theorem small_log {m : Nat} (h : m < 100) : (m : Int).natAbs.log2 < 1920 := by
  rw [Int.natAbs_natCast]
  by_cases z : m = 0
  · subst z; decide
  · have := (Nat.log2_lt (k := 7) z).mpr (by omega)
    omega
def spShH : Sp := fun vs H Q _ => ∃ (b : Addr) (hd : HandD), vs = [.int hd.1, .ref b] ∧ PegsAt H b hd.2 ∧ SmH hd ∧ ∀ H', Same H H' → Q (.str (handS hd)) H'
def spShW : Sp := fun vs H Q _ => ∃ (a : Addr) (w : WebD), vs = [.ref a] ∧ WebAt H a w ∧ SmW w ∧ ∀ H', Same H H' → Q (.str (webS w)) H'
section
variable {P : Program} {w : World} {K : PySem.W.Frag} {mg : Str → Option Value} {base : Heap}
theorem ok_shh {f : Addr} {fd : FuncData} (F : Fun K "show_hand" "show_hand" sShh f fd) (G : Dr P w K mg base) (mstr : mg "str" = none) : FnOk P w K mg base CX0 1 f fd ["mark", "pegs"] spShH := by
  refine F.ok scShh (fun vs H Q E h => ?_) (fun cdv A outer s H vs Q E hr h => ?_)
  · obtain ⟨b, hd, rfl, _⟩ := h
    rfl
  · obtain ⟨b, hd, rfl, ⟨ps, eb, hps⟩, sm, k⟩ := h
    have nd := scShh.nd
    refine ⟨_, (pss_cons (ps_set (i := 2) nd rfl (Or.inl rfl) (pe_lst (pa_cons pe_str (pa_cons (pe_callTy call_str_int (by rfl) mstr (by decide +kernel) (pa_cons (pv 0) pa_nil)) pa_nil))))
      (pss_cons (ps_for PassesOwn.never rfl (pi_tup (pv 1)) (pg_tup (by rfl) (pgs_cons (pg_name (i := 3) nd rfl (Or.inl rfl)) (pgs_cons (pg_name (i := 4) nd rfl (Or.inl rfl)) pgs_nil)))
        (pss_one (ps_expr (pe_bm PySem.F.plainAttrs_list PySem.F.slot_list_append PySem.F.type_list_append mt_append (pv 2) (pa_cons (pe_f2i (pv 3) (pv 4)) pa_nil)))))
      (pss_one (ps_ret (pe_join pe_str (pv 2)))))), ?_⟩
    have psl : ps.length = hd.2.length := Paired.length hps
    obtain ⟨m, em, hm⟩ := sm.mark
    have few := sm.few
    refine ⟨_, rfl, _, rfl, (by rw [em]; exact small_log hm), (by show 2 ≤ sizeLine; decide), fun D nD => ?_⟩
    have s1 := same_new (o := .lst [.str "hand", .str (numZ hd.1)]) nD
    refine ⟨_, rfl, b, rfl, ⟨_, SqT.of (s1 _ _ eb)⟩, ?_⟩
    refine for_tup (K := K) (a := b) (xs := ps.map V.ref) (fun i σ H2 => Same H H2 ∧ H2 D = some (.lst ((("hand" : Str) :: numZ hd.1 :: (hd.2.take i).map pegS).map V.str)) ∧ ∃ o3 o4 : Option V, σ = [some (.int hd.1), some (.ref b), some (.ref D), o3, o4])
      ⟨s1, upd_same, none, none, rfl⟩ (fun i σ H2 _ ⟨s2, _⟩ => SqT.of (s2 _ _ eb)) ?_ ?_
    · rintro i v σ H2 hv ⟨s2, hD, o3, o4, rfl⟩
      rw [List.getElem?_map] at hv
      obtain ⟨pa, epa, rfl⟩ := Option.map_eq_some_iff.mp hv
      obtain ⟨x, ex, hpa⟩ := paired_get hps epa
      obtain ⟨g, q, rfl, hg, hq⟩ := sm.pegs x (List.mem_of_getElem? ex)
      have lg := numZ_len hg
      have lq := numZ_len hq
      have c1 : ("." : Str).length = 1 := by decide +kernel
      refine ⟨pa, _, rfl, SqT.of (s2 _ _ hpa), rfl, _, _, rfl, _, _, rfl, rfl, ?_⟩
      refine ⟨_, rfl, .inl ⟨rfl, _, SqL.of hD⟩, _, rfl, _, rfl, small_log hg, ?_, _, rfl, _, rfl, small_log hq, ?_, D, _, _, rfl, rfl, hD, ?_, ?_⟩
      · show (numZ (g : Int)).length + _ ≤ _
        rw [c1, sizeLine_eq]
        omega
      · show (numZ (g : Int)).length + _ + (numZ (q : Int)).length ≤ _
        rw [c1, sizeLine_eq]
        omega
      · rw [List.length_map, List.length_cons, List.length_cons, List.length_map, List.length_take, sizeLine_eq]
        omega
      · refine ⟨same_upd s2 nD, ?_, _, _, rfl⟩
        rw [upd_same, take_snoc ex, List.map_append, List.map_cons, List.map_cons, List.map_cons, List.map_cons, List.map_append]
        rfl
    · rintro σ H2 ⟨s2, hD, o3, o4, rfl⟩
      rw [List.length_map, psl, List.take_length] at hD
      refine ⟨⟨_, rfl⟩, _, rfl, _, D, _, rfl, rfl, .inl (SqL.of hD), ?_, ?_⟩
      · have := hand_room sm
        omega
      · exact k H2 s2
theorem ok_shw {f : Addr} {fd : FuncData} (F : Fun K "show_web" "show_web" sShw f fd) (G : Dr P w K mg base) (CH : FnAt P w K mg base 1 "show_hand" ["mark", "pegs"] spShH) : FnOk P w K mg base CX0 2 f fd ["web"] spShW := by
  obtain ⟨fH, fdH, GH, bH, mH, kH⟩ := CH
  refine F.ok scShw (fun vs H Q E h => ?_) (fun cdv A outer s H vs Q E hr h => ?_)
  · obtain ⟨b, hd, rfl, _⟩ := h
    rfl
  · obtain ⟨a, wb, rfl, ⟨hs, ea, hps⟩, sm, k⟩ := h
    have nd := scShw.nd
    have hrH := hr
    refine ⟨_, (pss_one (ps_ret (pe_join pe_str (pe_lc (own := [("mark", 1), ("pegs", 2)]) (g := (gTup K 2 (gCons (gName 1) (gCons (gName 2) gNil)))) (tt := tYes) (te := (tCall spShH [] E0 (tCons (tVar 1) (tCons (tVar 2) tNil))))
          (by rfl) nd (pi_tup (pv 0)) (blkOk_by (own := [("mark", 1), ("pegs", 2)]) (N := nShw) (sc := defScope sShw) (by decide +kernel))
          (fun _ _ _ _ _ => by exact (pg_tup (by rfl) (pgs_cons (pg_name (i := 1) nd rfl (Or.inl rfl)) (pgs_cons (pg_name (i := 2) nd rfl (Or.inl rfl)) pgs_nil)))) (fun _ _ _ _ _ => by exact pts_nil) (fun _ _ _ _ _ => by exact (pe_call GH hrH (by rfl) mH kH bH .nil pass0 (pa_cons (pv 1) (pa_cons (pv 2) pa_nil)))))))), ?_⟩
    have hsl : hs.length = wb.length := Paired.length hps
    have wl := sm.len
    refine ⟨⟨_, rfl⟩, _, rfl, a, rfl, ⟨_, SqT.of ea⟩, fun D nD => ?_⟩
    refine lc_tup (K := K) (a := a) (xs := hs.map V.ref) (fun i H2 => Same H H2 ∧ H2 D = some (.lst (((wb.take i).map handS).map V.str))) ⟨same_new nD, upd_same⟩ (fun i H2 _ ⟨s2, _⟩ => SqT.of (s2 _ _ ea)) ?_ ?_
    · rintro i v H2 hv ⟨s2, hD⟩
      rw [List.getElem?_map] at hv
      obtain ⟨ha, eha, rfl⟩ := Option.map_eq_some_iff.mp hv
      obtain ⟨hd, ehd, b, e2, hb⟩ := paired_get hps eha
      refine ⟨ha, _, rfl, SqT.of (s2 _ _ e2), rfl, _, _, rfl, _, _, rfl, rfl, rfl, ?_⟩
      dsimp only [tYes]
      rw [if_pos rfl]
      refine ⟨_, rfl, _, rfl, b, hd, rfl, hb.tups (sTups s2), sm.hand hd (List.mem_of_getElem? ehd), fun H3 s3 => ?_⟩
      refine ⟨_, s3 _ _ hD, ?_, same_upd (s2.trans s3) nD, ?_⟩
      · rw [List.length_map, List.length_map, List.length_take, sizeLine_eq]
        omega
      · rw [upd_same, take_snoc ehd, List.map_append, List.map_append]
        rfl
    · rintro H2 ⟨s2, hD⟩
      rw [List.length_map, hsl, List.take_length] at hD
      refine ⟨_, D, _, rfl, rfl, .inl (SqL.of hD), ?_, ?_⟩
      · have := web_room sm
        omega
      · exact k H2 s2
theorem ok_lwt {f : Addr} {fd : FuncData} (F : Fun K "_law_web_text" "_law_web_text" sLwt f fd) (G : Dr P w K mg base) (mstr : mg "str" = none) : FnOk P w K mg base CX0 1 f fd ["_law_web_here"] spShW := by
  refine F.ok scLwt (fun vs H Q E h => ?_) (fun cdv A outer s H vs Q E hr h => ?_)
  · obtain ⟨b, hd, rfl, _⟩ := h
    rfl
  · obtain ⟨a, wb, rfl, ⟨hs, ea, hps⟩, sm, k⟩ := h
    have nd := scLwt.nd
    refine ⟨_, (pss_cons (ps_set (i := 1) nd rfl (Or.inl rfl) (pe_lst pa_nil))
      (pss_cons (ps_for PassesOwn.never rfl (pi_tup (pv 0)) (pg_tup (by rfl) (pgs_cons (pg_name (i := 2) nd rfl (Or.inl rfl)) (pgs_cons (pg_name (i := 3) nd rfl (Or.inl rfl)) pgs_nil)))
        (pss_one (ps_expr (pe_bm PySem.F.plainAttrs_list PySem.F.slot_list_append PySem.F.type_list_append mt_append (pv 1) (pa_cons (pe_op op_add_str pe_str (pe_join pe_str (pe_op op_cat (pe_lst (pa_cons (pe_callTy call_str_int (by rfl) mstr (by decide +kernel) (pa_cons (pv 2) pa_nil)) pa_nil)) (pe_lc (own := [("_law_g", 4), ("_law_q", 5)]) (g := (gTup K 2 (gCons (gName 4) (gCons (gName 5) gNil)))) (tt := tYes) (te := (tOp (fun x y H Q => ∃ i j, x = .str i ∧ y = .str j ∧ i.length + j.length ≤ sizeLine ∧ Q (.str (i ++ j)) H) (tOp (fun x y H Q => ∃ i j, x = .str i ∧ y = .str j ∧ i.length + j.length ≤ sizeLine ∧ Q (.str (i ++ j)) H) (tCB (fun xs H Q => ∃ i, xs = [.int i] ∧ i.natAbs.log2 < 1920 ∧ Q (.str (toString i)) H) (tCons (tVar 4) tNil)) (tC (.str "."))) (tCB (fun xs H Q => ∃ i, xs = [.int i] ∧ i.natAbs.log2 < 1920 ∧ Q (.str (toString i)) H) (tCons (tVar 5) tNil))))
          (by rfl) nd (pi_tup (pv 3)) (blkOk_by (own := [("_law_g", 4), ("_law_q", 5)]) (N := nLwt) (sc := defScope sLwt) (by decide +kernel))
          (fun _ _ _ _ _ => by exact (pg_tup (by rfl) (pgs_cons (pg_name (i := 4) nd rfl (Or.inl rfl)) (pgs_cons (pg_name (i := 5) nd rfl (Or.inl rfl)) pgs_nil)))) (fun _ _ _ _ _ => by exact pts_nil) (fun _ _ _ _ _ => by exact (pe_op op_add_str (pe_op op_add_str (pe_callTy call_str_int (by rfl) mstr (by decide +kernel) (pa_cons (pv 4) pa_nil)) pe_str) (pe_callTy call_str_int (by rfl) mstr (by decide +kernel) (pa_cons (pv 5) pa_nil)))))))) pa_nil)))))
      (pss_one (ps_ret (pe_join pe_str (pv 1)))))), ?_⟩
    have hsl : hs.length = wb.length := Paired.length hps
    have wl := sm.len
    refine ⟨(by show 0 ≤ sizeLine; decide), fun D nD => ?_⟩
    have s1 := same_new (o := .lst []) nD
    refine ⟨_, rfl, a, rfl, ⟨_, SqT.of (s1 _ _ ea)⟩, ?_⟩
    refine for_tup (K := K) (a := a) (xs := hs.map V.ref) (fun i σ H2 => Same H H2 ∧ H2 D = some (.lst (((wb.take i).map handS).map V.str)) ∧ ∃ o2 o3 o4 o5 : Option V, σ = [some (.ref a), some (.ref D), o2, o3, o4, o5])
      ⟨s1, upd_same, none, none, none, none, rfl⟩ (fun i σ H2 _ ⟨s2, _⟩ => SqT.of (s2 _ _ ea)) ?_ ?_
    · rintro i v σ H2 hv ⟨s2, hD, o2, o3, o4, o5, rfl⟩
      rw [List.getElem?_map] at hv
      obtain ⟨ha, eha, rfl⟩ := Option.map_eq_some_iff.mp hv
      obtain ⟨hd, ehd, b, e2, ps, eb, pb⟩ := paired_get hps eha
      have psl : ps.length = hd.2.length := Paired.length pb
      have sh := sm.hand hd (List.mem_of_getElem? ehd)
      obtain ⟨m, em, hm⟩ := sh.mark
      have few := sh.few
      have room := hand_room sh
      refine ⟨ha, _, rfl, SqT.of (s2 _ _ e2), rfl, _, _, rfl, _, _, rfl, rfl, ?_⟩
      refine ⟨_, rfl, .inl ⟨rfl, _, SqL.of hD⟩, ⟨_, rfl⟩, _, rfl, _, rfl, (by rw [em]; exact small_log hm), (by show 1 ≤ sizeLine; decide), fun M nM => ?_⟩
      have q1 := same_new (o := .lst [.str (Str.ofString (toString hd.1))]) nM
      have eM : (upd H2 M (.lst [.str (Str.ofString (toString hd.1))])) M = some (.lst [.str (numZ hd.1)]) := upd_same
      have s3 := s2.trans q1
      have hD3 := q1 _ _ hD
      generalize (upd H2 M (.lst [.str (Str.ofString (toString hd.1))])) = H3 at q1 eM s3 hD3 ⊢
      refine ⟨_, rfl, b, rfl, ⟨_, SqT.of (s3 _ _ eb)⟩, fun C nC => ?_⟩
      refine lc_tup (K := K) (a := b) (xs := ps.map V.ref) (fun c H4 => Same H3 H4 ∧ H4 C = some (.lst (((hd.2.take c).map pegS).map V.str))) ⟨same_new nC, upd_same⟩ (fun c H4 _ ⟨s4, _⟩ => SqT.of (s4 _ _ (s3 _ _ eb))) ?_ ?_
      · rintro c v H4 hv ⟨s4, hC⟩
        rw [List.getElem?_map] at hv
        obtain ⟨pa, epa, rfl⟩ := Option.map_eq_some_iff.mp hv
        obtain ⟨x, ex, hpa⟩ := paired_get pb epa
        obtain ⟨g, q, rfl, hg, hq⟩ := sh.pegs x (List.mem_of_getElem? ex)
        have lg := numZ_len hg
        have lq := numZ_len hq
        have c1 : ("." : Str).length = 1 := by decide +kernel
        have s34 := s3.trans s4
        refine ⟨pa, _, rfl, SqT.of (s34 _ _ hpa), rfl, _, _, rfl, _, _, rfl, rfl, rfl, ?_⟩
        dsimp only [tYes]
        rw [if_pos rfl]
        refine ⟨_, rfl, _, rfl, small_log hg, _, _, rfl, rfl, ?_, _, rfl, _, rfl, small_log hq, _, _, rfl, rfl, ?_, ?_⟩
        · show (numZ (g : Int)).length + _ ≤ _
          rw [c1, sizeLine_eq]
          omega
        · rw [strLen_append]
          show (numZ (g : Int)).length + _ + (numZ (q : Int)).length ≤ _
          rw [c1, sizeLine_eq]
          omega
        · refine ⟨_, hC, ?_, same_upd s4 nC, ?_⟩
          · rw [List.length_map, List.length_map, List.length_take, sizeLine_eq]
            omega
          · rw [upd_same, take_snoc ex, List.map_append, List.map_append]
            rfl
      · rintro H4 ⟨s4, hC⟩
        rw [List.length_map, psl, List.take_length] at hC
        refine ⟨M, C, _, _, rfl, rfl, s4 _ _ eM, hC, ?_, fun J nJ => ?_⟩
        · rw [List.length_map, List.length_map, sizeLine_eq]
          show 1 + _ ≤ _
          omega
        have s5 := s4.trans (same_new (o := .lst ([.str (numZ hd.1)] ++ (hd.2.map pegS).map V.str)) nJ)
        have eJ : (upd H4 J (.lst ([.str (numZ hd.1)] ++ (hd.2.map pegS).map V.str))) J = some (.lst ((numZ hd.1 :: hd.2.map pegS).map V.str)) := upd_same
        generalize (upd H4 J (.lst ([.str (numZ hd.1)] ++ (hd.2.map pegS).map V.str))) = H5 at s5 eJ ⊢
        have jr : ((numZ hd.1 :: hd.2.map pegS).map (·.length)).sum + (numZ hd.1 :: hd.2.map pegS).length * (" " : Str).length ≤ 700 := by
          rw [List.map_cons, List.sum_cons, List.length_cons, Nat.succ_mul] at room
          omega
        refine ⟨_, J, _, rfl, rfl, .inl (SqL.of eJ), by omega, _, _, rfl, rfl, ?_, ?_⟩
        · have := join_len " " (numZ hd.1 :: hd.2.map pegS)
          have c5 : ("hand " : Str).length = 5 := by decide +kernel
          rw [c5, sizeLine_eq]
          omega
        rw [hand_law]
        refine ⟨D, _, _, rfl, rfl, s5 _ _ hD3, ?_, ?_⟩
        · rw [List.length_map, List.length_map, List.length_take, sizeLine_eq]
          omega
        · refine ⟨same_upd (s3.trans s5) nD, ?_, _, _, _, _, rfl⟩
          rw [upd_same, take_snoc ehd, List.map_append, List.map_append]
          rfl
    · rintro σ H2 ⟨s2, hD, o2, o3, o4, o5, rfl⟩
      rw [List.length_map, hsl, List.take_length] at hD
      refine ⟨⟨_, rfl⟩, _, rfl, _, D, _, rfl, rfl, .inl (SqL.of hD), ?_, ?_⟩
      · have := web_room sm
        omega
      · exact k H2 s2
end
end NH
set_option Elab.async false
set_option linter.all false
set_option maxRecDepth 100000
set_option maxHeartbeats 1000000
set_option Elab.async false
set_option linter.all false
set_option maxRecDepth 100000
set_option maxHeartbeats 2000000
set_option Elab.async false
set_option linter.all false
set_option maxRecDepth 100000
set_option maxHeartbeats 1000000
set_option Elab.async false
set_option linter.all false
set_option maxRecDepth 100000
set_option maxHeartbeats 1000000
namespace NH
open PySem PySem.SetTable
section
variable {K : Type} [DecidableEq K]
abbrev Row (K : Type) := List (Nat × K × Addr)
variable {hash : K → Int} {t : SetTable} {L : Row K}
end
end NH
set_option Elab.async false
set_option linter.all false
set_option maxRecDepth 100000
set_option maxHeartbeats 1000000
set_option Elab.async false
set_option linter.all false
set_option maxRecDepth 100000
set_option maxHeartbeats 2000000
set_option Elab.async false
set_option linter.all false
set_option maxRecDepth 100000
set_option maxHeartbeats 2000000
set_option Elab.async false
set_option linter.all false
set_option maxRecDepth 100000
set_option maxHeartbeats 2000000
set_option Elab.async false
set_option linter.all false
set_option maxRecDepth 100000
set_option maxHeartbeats 4000000
set_option Elab.async false
set_option linter.all false
set_option maxRecDepth 100000
set_option maxHeartbeats 4000000
set_option Elab.async false
set_option linter.all false
set_option maxRecDepth 100000
set_option maxHeartbeats 4000000
set_option Elab.async false
set_option linter.all false
set_option maxRecDepth 100000
set_option maxHeartbeats 4000000
set_option Elab.async false
set_option linter.all false
set_option maxRecDepth 100000
set_option maxHeartbeats 4000000
set_option Elab.async false
set_option linter.all false
set_option maxRecDepth 100000
set_option maxHeartbeats 4000000
set_option Elab.async false
set_option linter.all false
set_option maxRecDepth 100000
set_option maxHeartbeats 4000000
set_option Elab.async false
set_option linter.all false
set_option maxRecDepth 100000
set_option maxHeartbeats 4000000
set_option Elab.async false
set_option linter.all false
set_option maxRecDepth 100000
set_option maxHeartbeats 4000000
set_option Elab.async false
set_option linter.all false
set_option maxRecDepth 100000
set_option maxHeartbeats 4000000
set_option Elab.async false
set_option linter.all false
set_option maxRecDepth 100000
set_option maxHeartbeats 4000000
set_option Elab.async false
set_option linter.all false
set_option maxRecDepth 100000
set_option maxHeartbeats 2000000
set_option Elab.async false
set_option linter.all false
set_option maxRecDepth 100000
set_option maxHeartbeats 1000000
set_option Elab.async false
set_option linter.all false
set_option maxRecDepth 100000
set_option maxHeartbeats 1000000
set_option Elab.async false
set_option linter.all false
set_option maxRecDepth 100000
set_option maxHeartbeats 1000000
namespace L2
open PySem PySem.Spec PyProof.Rows
def Tu (H : Hp) (a : Addr) (xs : List V) : Prop := H a = some (.tup xs) ∨ ∃ o : Obj, H a = some (.frz o (.tup xs))
theorem Tu.sq {K : PySem.W.Frag} {H : Hp} {a : Addr} {xs : List V} : Tu H a xs → SqT K H a xs
  | .inl e => SqT.of e
  | .inr ⟨o, e⟩ => .inl (.inr ⟨o, e⟩)
theorem Tu.same {H H' : Hp} {a : Addr} {xs : List V} (s : ∀ b o, H b = some o → H' b = some o) : Tu H a xs → Tu H' a xs
  | .inl e => .inl (s _ _ e)
  | .inr ⟨o, e⟩ => .inr ⟨o, s _ _ e⟩
inductive TyD (K : PySem.W.Frag) (H : Hp) : V → Value → Prop where
  | any {x : V} {t : Value} : TyOf K H x t → TyD K H x t
  | frz {a : Addr} {o : Obj} {xs : List V} : H a = some (.frz o (.tup xs)) → TyD K H (.ref a) (.type "tuple")
theorem Tu.ty {K : PySem.W.Frag} {H : Hp} {a : Addr} {xs : List V} : Tu H a xs → TyD K H (.ref a) (.type "tuple")
  | .inl e => .any (.tup e)
  | .inr ⟨_, e⟩ => .frz e
section
variable {X : Cx} {pins : List (Addr × Obj)} {σ : St} {H : Hp} {s : Shared}
theorem tyD_kit {x : V} {u t : Value} (I : Inv X pins σ H s) (rx : RelV x u) (ty : TyD X.K H x t) : ∃ Hx : Heap → Prop, PySem.W.KitX X.K u t Hx ∧ Hx s.heap ∧ u ≠ .builtin "__main__.__loader__#opaque" := by
  cases ty with
  | any ty => exact ty_kit I rx ty
  | @frz a ob xs ea =>
    cases (show u = Value.ref a from rx)
    obtain ⟨_, _, its, _, p⟩ := (show ObjOk X.prog X.w H s.heap a (.frz ob (.tup xs)) from I.hok a _ ea)
    obtain ⟨o, h1, h2, _⟩ := p
    exact ⟨_, PySem.W.kitx_tuple, ⟨o, h1, h2⟩, fun z => nomatch z⟩
end
def rIsiD (K : PySem.W.Frag) : List V → Hp → VK → Prop := fun xs H Q => ∃ x c t u b, xs = [x, c] ∧ TyD K H x t ∧ clsV c u ∧ PySem.W.kitOne K t u = some b ∧ Q (.bl b) H
theorem call_isiD {X : Cx} : CallR X (.builtin "isinstance") (rIsiD X.K) := by
  intro pins s σ H xs us Q I r h
  obtain ⟨x, c, t, cu, b, rfl, ty, hc, hk, q⟩ := h
  obtain ⟨u, w', rfl, r1, r2⟩ := vals2 r
  have ew : w' = cu := by
    cases c <;> first | exact (show False from hc).elim | exact r2.trans hc.symm
  rw [ew]
  obtain ⟨Hx, kx, hx, ne⟩ := tyD_kit I r1 ty
  exact PySem.W.kia_one kx I.kIn hx hk ne fun tk => ⟨.bl b, H, I.tok tk, rfl, q⟩
def rIsiTD (K : PySem.W.Frag) : List V → Hp → VK → Prop := fun xs H Q => ∃ x p t b, ∃ ns : List String, xs = [x, .ref p] ∧ TyD K H x t ∧ H p = some (.tup (ns.map V.ty)) ∧ PySem.W.kitAny K t (ns.map Value.type) = some b ∧ Q (.bl b) H
theorem call_isiTD {X : Cx} : CallR X (.builtin "isinstance") (rIsiTD X.K) := by
  intro pins s σ H xs us Q I r h
  obtain ⟨x, p, t, b, ns, rfl, ty, hp, hk, q⟩ := h
  obtain ⟨u, w', rfl, r1, r2⟩ := vals2 r
  have ew : w' = Value.ref p := r2
  rw [ew]
  obtain ⟨Hx, kx, hx, ne⟩ := tyD_kit I r1 ty
  obtain ⟨_, us', rv, ⟨o, ho, hc, n, hd⟩⟩ := (show ObjOk X.prog X.w H s.heap p (.tup (ns.map V.ty)) from I.hok p _ hp)
  rw [vals_ty rv] at hd
  obtain ⟨cls, dd, data, sl⟩ := o
  cases hc
  cases hd
  exact PySem.W.kia_tup kx I.kIn hx ho hk ne fun tk => ⟨.bl b, H, I.tok tk, rfl, q⟩
end L2
namespace NH
open PySem L2
def AlkD (H : Hp) : Nat → V → V → Prop
  | 0, _, _ => False
  | n + 1, x, y => (x = y ∧ flatV x = true) ∨ ∃ a b xs ys, x = .ref a ∧ y = .ref b ∧ ((H a = some (.lst xs) ∧ H b = some (.lst ys)) ∨ (Tu H a xs ∧ Tu H b ys)) ∧ xs.length ≤ 100000 ∧ Paired (AlkD H n) xs ys
theorem AlkD.same {H H' : Hp} (s : Same H H') : ∀ {n : Nat} {x y : V}, AlkD H n x y → AlkD H' n x y
  | 0, _, _, h => h
  | n + 1, x, y, .inl h => .inl h
  | n + 1, x, y, .inr ⟨a, b, xs, ys, e1, e2, .inl ⟨u, v⟩, hl, hp⟩ => .inr ⟨a, b, xs, ys, e1, e2, .inl ⟨s _ _ u, s _ _ v⟩, hl, Paired.mapP hp fun _ _ z => AlkD.same s z⟩
  | n + 1, x, y, .inr ⟨a, b, xs, ys, e1, e2, .inr ⟨u, v⟩, hl, hp⟩ => .inr ⟨a, b, xs, ys, e1, e2, .inr ⟨u.same s, v.same s⟩, hl, Paired.mapP hp fun _ _ z => AlkD.same s z⟩
theorem AlkD.mono {H : Hp} : ∀ {n m : Nat} {x y : V}, n ≤ m → AlkD H n x y → AlkD H m x y
  | 0, _, _, _, _, h => h.elim
  | n + 1, 0, _, _, l, _ => absurd l (Nat.not_succ_le_zero _)
  | n + 1, m + 1, x, y, l, .inl h => .inl h
  | n + 1, m + 1, x, y, l, .inr ⟨a, b, xs, ys, e1, e2, hh, hl, hp⟩ => .inr ⟨a, b, xs, ys, e1, e2, hh, hl, Paired.mapP hp fun _ _ z => AlkD.mono (by omega) z⟩
theorem Alk.toD {H : Hp} : ∀ {n : Nat} {x y : V}, Alk H n x y → AlkD H n x y
  | 0, _, _, h => h.elim
  | n + 1, x, y, .inl h => .inl h
  | n + 1, x, y, .inr ⟨a, b, xs, ys, e1, e2, .inl hh, hl, hp⟩ => .inr ⟨a, b, xs, ys, e1, e2, .inl hh, hl, Paired.mapP hp fun _ _ z => Alk.toD z⟩
  | n + 1, x, y, .inr ⟨a, b, xs, ys, e1, e2, .inr ⟨u, v⟩, hl, hp⟩ => .inr ⟨a, b, xs, ys, e1, e2, .inr ⟨.inl u, .inl v⟩, hl, Paired.mapP hp fun _ _ z => Alk.toD z⟩
def spAlikeD (n : Nat) : Sp := fun vs H Q _ => ∃ x y, vs = [x, y] ∧ AlkD H n x y ∧ ∀ H', Same H H' → Q (.bl true) H'
end NH
set_option Elab.async false
set_option linter.all false
set_option maxRecDepth 100000
set_option maxHeartbeats 4000000
namespace NH
open PySem L2
abbrev sAlike : Stmt := top 23
abbrev nAlike : List Str := ["_law_found", "_law_due", "_law_one", "_law_other"]
section
variable {P : Program} {w : World} {K : PySem.W.Frag} {mg : Str → Option Value} {base : Heap}
theorem scAlike : FnScope nAlike ["_law_found", "_law_due"] (defScope sAlike) := ⟨rfl, rfl, rfl, by decide +kernel, rfl, by decide +kernel, by decide +kernel⟩
theorem all_rep (n : Nat) : (List.replicate n true).all id = true := by
  rw [List.all_eq_true]
  intro x hx
  rw [List.eq_of_mem_replicate hx]
  rfl
theorem ok_alike {f : Addr} {fd : FuncData} (F : Fun K "_law_alike" "_law_alike" sAlike f fd) (b : Binds K fd ["_law_found", "_law_due"] []) (m : mg "_law_alike" = some (.ref f)) (kp : PySem.W.keepIn K (.ref f) = true)
    (misi : mg "isinstance" = none) (mlist : mg "list" = none) (mtuple : mg "tuple" = none) (mbool : mg "bool" = none) (mlen : mg "len" = none) (mall : mg "all" = none) (mzip : mg "zip" = none) :
    ∀ n : Nat, FnOk P w K mg base CX0 n f fd ["_law_found", "_law_due"] (spAlikeD n)
  | 0 => ⟨fun vs H Q E h => by obtain ⟨x, y, _, h, _⟩ := h; exact h.elim, fun A outer s H args us vs Q E hr he hb hv h => by obtain ⟨x, y, _, h, _⟩ := h; exact h.elim⟩
  | n + 1 => by
    have ih := ok_alike F b m kp misi mlist mtuple mbool mlen mall mzip n
    refine F.ok scAlike (fun vs H Q E h => ?_) (fun cdv A outer s H vs Q E hr h => ?_)
    · obtain ⟨x, y, rfl, _⟩ := h
      rfl
    obtain ⟨x, y, rfl, hA, k⟩ := h
    have nd := scAlike.nd
    have bisi : bootBuiltins "isinstance" = some (.builtin "isinstance") := by decide +kernel
    have ball : bootBuiltins "all" = some (.builtin "all") := by decide +kernel
    have blist : bootBuiltins "list" = some (.type "list") := by decide +kernel
    have btuple : bootBuiltins "tuple" = some (.type "tuple") := by decide +kernel
    have bbool : bootBuiltins "bool" = some (.type "bool") := by decide +kernel
    refine ⟨_, pss_cons (ps_if (pt_val (pe_callB call_isiTD (by rfl) misi bisi (pa_cons (pv 1) (pa_cons (pe_tup (pa_cons (pe_bltn (v := .ty "list") (by rfl) mlist blist rfl) (pa_cons (pe_bltn (v := .ty "tuple") (by rfl) mtuple btuple rfl) pa_nil))) pa_nil))))
        (pss_cons (ps_if (PW.pt (pw_or (pt_cmpR op_ne (pe_callB call_isiD (by rfl) misi bisi (pa_cons (pv 0) (pa_cons (pe_bltn (v := .ty "tuple") (by rfl) mtuple btuple rfl) pa_nil))) (pe_callB call_isiD (by rfl) misi bisi (pa_cons (pv 1) (pa_cons (pe_bltn (v := .ty "tuple") (by rfl) mtuple btuple rfl) pa_nil))) (nomark _))
            (pw_or1 (pt_cmpR op_ne (pe_callB call_isiD (by rfl) misi bisi (pa_cons (pv 0) (pa_cons (pe_bltn (v := .ty "list") (by rfl) mlist blist rfl) pa_nil))) (pe_callB call_isiD (by rfl) misi bisi (pa_cons (pv 1) (pa_cons (pe_bltn (v := .ty "list") (by rfl) mlist blist rfl) pa_nil))) (nomark _)))))
          (pss_one (ps_ret pe_bl)) pss_nil)
        (pss_one (ps_ret (pe_and (pe_cmpR op_eq (pe_callB call_len_seq (by rfl) mlen PySem.boot_len (pa_cons (pv 0) pa_nil)) (pe_callB call_len_seq (by rfl) mlen PySem.boot_len (pa_cons (pv 1) pa_nil)) (nomark _))
          (pe_one (pe_callB (cr_all rfl) (by rfl) mall ball (pa_cons
            (pe_lc (own := [("_law_one", 2), ("_law_other", 3)]) (g := gTup K 2 (gCons (gName 2) (gCons (gName 3) gNil))) (te := tCall (spAlikeD n) [] E0 (tCons (tVar 2) (tCons (tVar 3) tNil)))
              (by rfl) nd (pi_zipA (by rfl) mzip (pa_cons (pv 0) (pa_cons (pv 1) pa_nil))) (blkOk_by (own := [("_law_one", 2), ("_law_other", 3)]) (N := nAlike) (sc := defScope sAlike) (by decide +kernel))
              (fun _ _ _ _ _ => by exact pg_tup (by rfl) (pgs_cons (pg_name (i := 2) nd rfl (Or.inl rfl)) (pgs_cons (pg_name (i := 3) nd rfl (Or.inl rfl)) pgs_nil))) (fun _ _ _ _ _ => pts_nil)
              (fun _ _ _ _ _ => by exact pe_call ih hr (by rfl) m kp b .nil pass0 (pa_cons (pv 2) (pa_cons (pv 3) pa_nil)))) pa_nil)))))))
        pss_nil)
      (pss_one (ps_ret (pe_and (pe_cmpR op_eq (pe_callB call_isiD (by rfl) misi bisi (pa_cons (pv 0) (pa_cons (pe_bltn (v := .ty "bool") (by rfl) mbool bbool rfl) pa_nil))) (pe_callB call_isiD (by rfl) misi bisi (pa_cons (pv 1) (pa_cons (pe_bltn (v := .ty "bool") (by rfl) mbool bbool rfl) pa_nil))) (nomark _))
        (pe_one (pe_cmpR op_eq (pv 0) (pv 1) (nomark _)))))), ?_⟩
    refine ⟨_, rfl, (by show 2 ≤ sizeLine; decide), fun T nT => ?_⟩
    have sT := same_new (o := .tup [V.ty "list", V.ty "tuple"]) nT
    have eT : (upd H T (.tup [V.ty "list", V.ty "tuple"])) T = some (.tup [V.ty "list", V.ty "tuple"]) := upd_same
    have hA1 := hA.same sT
    generalize (upd H T (.tup [V.ty "list", V.ty "tuple"])) = H1 at sT eT hA1 ⊢
    rcases hA1 with ⟨rfl, fl⟩ | ⟨a, c, xs, ys, rfl, rfl, hh, hl, hp⟩
    · -- a thing without parts
      have one : ∃ t bb, TyOf K H1 x t ∧ PySem.W.kitAny K t (["list", "tuple"].map Value.type) = some false ∧ PySem.W.kitOne K t (.type "bool") = some bb ∧ scal x x = true := by
        cases x with
        | non => exact ⟨_, _, .non, kaN, kNB, rfl⟩
        | bl b => exact ⟨_, _, .bl b, kaB, kBB, rfl⟩
        | int i => exact ⟨_, _, .int i, kaI, kIB, rfl⟩
        | str s => exact ⟨_, _, .str s, kaS, kSB, rfl⟩
        | _ => exact absurd (show false = true from fl) Bool.false_ne_true
      obtain ⟨t, bb, ty, k1, k2, k3⟩ := one
      refine ⟨x, T, t, false, ["list", "tuple"], rfl, .any ty, eT, k1, _, rfl, ?_⟩
      refine iteF ?_
      refine ⟨_, rfl, x, .ty "bool", t, _, bb, rfl, .any ty, rfl, k2, _, rfl, x, .ty "bool", t, _, bb, rfl, .any ty, rfl, k2, rfl, _, rfl, ?_⟩
      rw [decide_eq_true rfl]
      refine ⟨_, rfl, _, rfl, k3, ?_⟩
      rw [decide_eq_true rfl]
      exact k H1 sT
    · have same : xs.length = ys.length := Paired.length hp
      have lz : ∀ i : Nat, i < xs.length → i < sizeLine := fun i hi => by rw [sizeLine_eq]; omega
      rcases hh with ⟨ea, ec⟩ | ⟨ea, ec⟩
      · refine ⟨_, T, _, true, ["list", "tuple"], rfl, .any (.lst ec), eT, kaL, _, rfl, ?_⟩
        refine iteT ?_
        refine ⟨_, rfl, _, .ty "tuple", _, _, _, rfl, .any (.lst ea), rfl, kLT, _, rfl, _, .ty "tuple", _, _, _, rfl, .any (.lst ec), rfl, kLT, rfl, _, rfl, ?_⟩
        refine iteF ?_
        refine ⟨_, rfl, _, .ty "list", _, _, _, rfl, .any (.lst ea), rfl, kLL, _, rfl, _, .ty "list", _, _, _, rfl, .any (.lst ec), rfl, kLL, rfl, _, rfl, ?_⟩
        refine iteF ?_
        refine ⟨_, rfl, a, _, rfl, .inl (SqL.of ea), _, rfl, c, _, rfl, .inl (SqL.of ec), rfl, _, rfl, ?_⟩
        rw [same, decide_eq_true rfl]
        refine ⟨_, rfl, _, rfl, a, c, xs, ys, rfl, .inl ⟨SqL.of ea, SqL.of ec, fun D nD => ?_⟩⟩
        refine lc_zip (K := K) (a := a) (b := c) (xs := xs) (ys := ys) same (fun i H2 => Same H1 H2 ∧ H2 D = some (.lst (List.replicate i (V.bl true)))) ⟨same_new nD, upd_same⟩ (fun i H2 _ ⟨s2, _⟩ => ⟨SqL.of (s2 _ _ ea), SqL.of (s2 _ _ ec)⟩) ?_ ?_
        · rintro i p q U H2 ep eq ⟨s2, eD⟩ nU
          have il := (List.getElem?_eq_some_iff.mp ep).1
          have sU := same_new (o := .tup [p, q]) nU
          refine ⟨U, _, rfl, SqT.of upd_same, rfl, _, _, rfl, _, _, rfl, rfl, rfl, ?_⟩
          dsimp only [tYes]
          rw [if_pos rfl]
          obtain ⟨q', eq', hpq⟩ := paired_get hp ep
          rw [eq] at eq'
          cases eq'
          refine ⟨_, rfl, _, rfl, p, q, rfl, (hpq.same (s2.trans sU)), fun H3 s3 => ?_⟩
          refine ⟨_, s3 _ _ (sU _ _ eD), (by rw [List.length_replicate]; exact lz i il), fun z o e => ?_, (by rw [upd_same, ← List.replicate_succ'])⟩
          rw [upd_ne (ne_of_none e nD)]
          exact s3 _ _ (sU _ _ (s2 _ _ e))
        · rintro H2 ⟨s2, eD⟩
          refine ⟨D, List.replicate xs.length true, rfl, SqL.of (by rw [eD, List.map_replicate]), ?_⟩
          rw [all_rep]
          exact k H2 (sT.trans s2)
      · refine ⟨_, T, _, true, ["list", "tuple"], rfl, ec.ty, eT, kaT, _, rfl, ?_⟩
        refine iteT ?_
        refine ⟨_, rfl, _, .ty "tuple", _, _, _, rfl, ea.ty, rfl, kTT, _, rfl, _, .ty "tuple", _, _, _, rfl, ec.ty, rfl, kTT, rfl, _, rfl, ?_⟩
        refine iteF ?_
        refine ⟨_, rfl, _, .ty "list", _, _, _, rfl, ea.ty, rfl, kTL, _, rfl, _, .ty "list", _, _, _, rfl, ec.ty, rfl, kTL, rfl, _, rfl, ?_⟩
        refine iteF ?_
        refine ⟨_, rfl, a, _, rfl, .inr (ea.sq), _, rfl, c, _, rfl, .inr (ec.sq), rfl, _, rfl, ?_⟩
        rw [same, decide_eq_true rfl]
        refine ⟨_, rfl, _, rfl, a, c, xs, ys, rfl, .inr ⟨ea.sq, ec.sq, fun D nD => ?_⟩⟩
        refine lc_zipT (K := K) (a := a) (b := c) (xs := xs) (ys := ys) same (fun i H2 => Same H1 H2 ∧ H2 D = some (.lst (List.replicate i (V.bl true)))) ⟨same_new nD, upd_same⟩ (fun i H2 _ ⟨s2, _⟩ => ⟨(ea.same s2).sq, (ec.same s2).sq⟩) ?_ ?_
        · rintro i p q U H2 ep eq ⟨s2, eD⟩ nU
          have il := (List.getElem?_eq_some_iff.mp ep).1
          have sU := same_new (o := .tup [p, q]) nU
          refine ⟨U, _, rfl, SqT.of upd_same, rfl, _, _, rfl, _, _, rfl, rfl, rfl, ?_⟩
          dsimp only [tYes]
          rw [if_pos rfl]
          obtain ⟨q', eq', hpq⟩ := paired_get hp ep
          rw [eq] at eq'
          cases eq'
          refine ⟨_, rfl, _, rfl, p, q, rfl, (hpq.same (s2.trans sU)), fun H3 s3 => ?_⟩
          refine ⟨_, s3 _ _ (sU _ _ eD), (by rw [List.length_replicate]; exact lz i il), fun z o e => ?_, (by rw [upd_same, ← List.replicate_succ'])⟩
          rw [upd_ne (ne_of_none e nD)]
          exact s3 _ _ (sU _ _ (s2 _ _ e))
        · rintro H2 ⟨s2, eD⟩
          refine ⟨D, List.replicate xs.length true, rfl, SqL.of (by rw [eD, List.map_replicate]), ?_⟩
          rw [all_rep]
          exact k H2 (sT.trans s2)
end
end NH
set_option Elab.async false
set_option linter.all false
set_option maxRecDepth 100000
set_option maxHeartbeats 1000000
namespace NH
open PySem L2
structure StepB (p T : Addr) (H H' : Hp) : Prop where
  keep : ∀ b o, b ≠ p → b ≠ T → H b = some o → H' b = some o
  box : BoxAt H' p
  tbl : TblAt H' T
section
variable {p T : Addr} {H H1 H2 : Hp}
theorem box_tbl (b : BoxAt H p) (t : TblAt H T) : T ≠ p := fun z => by
  obtain ⟨x, y, e, _⟩ := b.ex
  obtain ⟨ps, e', _⟩ := t.ex
  rw [z, e] at e'
  cases e'
theorem StepB.refl (b : BoxAt H p) (t : TblAt H T) : StepB p T H H := ⟨fun _ _ _ _ e => e, b, t⟩
theorem StepB.step (a : StepB p T H H1) (s : Step p H1 H2) : StepB p T H H2 := ⟨fun c o n m e => s.keep c o n (a.keep c o n m e), s.box, by
  obtain ⟨ps, e, h⟩ := a.tbl.ex
  exact ⟨ps, s.keep _ _ (box_tbl a.box a.tbl) e, h⟩⟩
theorem StepB.tups (a : StepB p T H H1) (b : BoxAt H p) (t : TblAt H T) : Tups H H1 := fun c xs e => a.keep c _ (fun z => by
    obtain ⟨x, y, e', _⟩ := b.ex
    rw [z, e'] at e
    cases e) (fun z => by
    obtain ⟨ps, e', _⟩ := t.ex
    rw [z, e'] at e
    cases e) e
theorem StepB.out (z : StepT T H H1) (n : H p = none) (a : StepB p T H1 H2) : StepT T H H2 := ⟨fun b o m e => a.keep b o (ne_of_none e n) m (z.keep b o m e), a.tbl⟩
end
end NH
set_option Elab.async false
set_option linter.all false
set_option maxRecDepth 100000
set_option maxHeartbeats 4000000
namespace NH
open PySem L2 TL
abbrev sRig : Stmt := top 35
abbrev nRig : List Str := ["_law_web_here", "_law_text"]
theorem scRig : FnScope nRig ["_law_web_here"] (defScope sRig) := ⟨rfl, rfl, rfl, by decide +kernel, rfl, by decide +kernel, by decide +kernel⟩
abbrev sLaw : Stmt := top 36
abbrev nLaw : List Str := ["_law_script", "_law_some", "_law_k", "_law_box_here", "_law_web_here"]
theorem scLaw : FnScope nLaw ["_law_script"] (defScope sLaw) := ⟨rfl, rfl, rfl, by decide +kernel, rfl, by decide +kernel, by decide +kernel⟩
theorem cut_mem {xs : List V} {lo hi : Option Int} {v : V} (h : v ∈ cutV xs lo hi) : v ∈ xs := List.mem_of_mem_drop (List.mem_of_mem_take h)
structure G99 (H : Hp) (v : V) : Prop where
  ex : ∃ (a : Addr) (w : WebD), v = .ref a ∧ WebAt H a w ∧ Good 4 w ∧ w.length ≤ 99
theorem G99.tups {H H' : Hp} {v : V} (s : Tups H H') (h : G99 H v) : G99 H' v := let ⟨a, w, e, k, g, l⟩ := h.ex; ⟨a, w, e, k.tups s, g, l⟩
def spRig (T : Addr) : Sp := fun vs H Q _ => ∃ (a : Addr) (w : WebD), vs = [.ref a] ∧ WebAt H a w ∧ Good 4 w ∧ w.length ≤ 99 ∧ TblAt H T ∧ ∀ H', StepT T H H' → Q (.bl true) H'
def spLaw (K : PySem.W.Frag) (tabs : List (Addr × Addr)) : Sp := fun vs H Q _ => ∃ (a : Addr) (ns : List Int), vs = [.ref a] ∧ SqL K H a (ns.map V.int) ∧ ns.length ≤ 63 ∧ (∀ t ∈ tabs, H t.2 = some (.tbl #[])) ∧ ∀ H', Q (.bl true) H'
section
variable {P : Program} {w : World} {K : PySem.W.Frag} {mg : Str → Option Value} {base : Heap}
theorem ok_rig {f : Addr} {fd : FuncData} {T : Addr} (F : Fun K "_law_right" "_law_right" sRig f fd) (G : Dr P w K mg base) (misi : mg "isinstance" = none) (mstr : mg "str" = none) (CS : FnAt P w K mg base 2 "show_web" ["web"] spShW) (CX : FnAt P w K mg base 1 "_law_web_text" ["_law_web_here"] spShW) (CR : FnAt P w K mg base 6 "read_web" ["text"] (spRdw T))
    (CA : FnAt P w K mg base 6 "_law_alike" ["_law_found", "_law_due"] (spAlikeD 6)) : FnOk P w K mg base CX0 7 f fd ["_law_web_here"] (spRig T) := by
  obtain ⟨fS, fdS, GS, bS, mS, kS⟩ := CS
  obtain ⟨fX, fdX, GX, bX, mX, kX⟩ := CX
  obtain ⟨fR, fdR, GR, bR, mR, kR⟩ := CR
  obtain ⟨fA, fdA, GA, bA, mA, kA⟩ := CA
  refine F.ok scRig (fun vs H Q E h => ?_) (fun cdv A outer s H vs Q E hr h => ?_)
  · obtain ⟨a, wb, rfl, _⟩ := h
    rfl
  · obtain ⟨a, wb, rfl, hW, gd, wl, tb, k⟩ := h
    have nd := scRig.nd
    have hrS := hr.mono (show 2 ≤ 6 by decide)
    have hrX := hr.mono (show 1 ≤ 6 by decide)
    have hrR := hr
    have hrA := hr
    refine ⟨_, (pss_cons (ps_set (i := 1) nd rfl (Or.inl rfl) (pe_call GS hrS (by rfl) mS kS bS .nil pass0 (pa_cons (pv 0) pa_nil)))
      (pss_cons (ps_if (PW.pt (pw_or (pt_not (pt_val (pe_callB call_isi (by rfl) misi (by decide +kernel) (pa_cons (pv 1) (pa_cons (pe_bltn (v := .ty "str") (by rfl) mstr (by decide +kernel) rfl) pa_nil))))) (pw_or (pt_cmpR op_ne (pv 1) (pe_call GX hrX (by rfl) mX kX bX .nil pass0 (pa_cons (pv 0) pa_nil)) (nomark _)) (pw_or1 (pt_not (pt_val (pe_call GA hrA (by rfl) mA kA bA .nil pass0 (pa_cons (pe_call GR hrR (by rfl) mR kR bR .nil pass0 (pa_cons (pv 1) pa_nil)) (pa_cons (pv 0) pa_nil))))))))) (pss_one (ps_ret pe_bl)) pss_nil)
      (pss_one (ps_ret (pe_cmpR op_eq (pe_call GS hrS (by rfl) mS kS bS .nil pass0 (pa_cons (pe_call GR hrR (by rfl) mR kR bR .nil pass0 (pa_cons (pv 1) pa_nil)) pa_nil)) (pv 1) (nomark _)))))), ?_⟩
    have sm := SmW.of gd wl
    refine ⟨_, rfl, a, wb, rfl, hW, sm, fun H1 s1 => ?_⟩
    have hW1 := hW.tups (sTups s1)
    refine ⟨_, rfl, _, _, _, _, _, rfl, .any (.str _), rfl, rfl, _, rfl, ?_⟩
    refine iteF ?_
    refine ⟨_, rfl, _, rfl, a, wb, rfl, hW1, sm, fun H2 s2 => ?_⟩
    have hW2 := hW1.tups (sTups s2)
    refine ⟨rfl, _, rfl, ?_⟩
    rw [decide_eq_true rfl]
    refine iteF ?_
    have tb2 := (tb.same s1).same s2
    refine ⟨_, rfl, wb, rfl, sm, gd, by omega, tb2, fun b H3 s3 hB => ?_⟩
    have hW3 := hW2.tups (s3.tups tb2)
    refine ⟨_, rfl, _, _, rfl, (Alk.web hB hW3 (by omega) (fun i hd e => by have := gd.pegs i hd e; omega)).toD.mono (by decide), fun H4 s4 => ⟨_, rfl, ?_⟩⟩
    refine iteF ?_
    have S4 := ((((StepT.refl tb).same s1).same s2).trans s3).same s4
    refine ⟨_, rfl, wb, rfl, sm, gd, by omega, S4.tbl, fun c H5 s5 hC => ?_⟩
    refine ⟨c, wb, rfl, hC, sm, fun H6 s6 => ?_⟩
    refine ⟨_, rfl, rfl, ?_⟩
    rw [decide_eq_true rfl]
    exact k H6 ((S4.trans s5).same s6)
theorem ok_law {f : Addr} {fd : FuncData} {tabs : List (Addr × Addr)} {cc T : Addr} (hT : (cc, T) ∈ tabs) (F : Fun K "law" "law" sLaw f fd) (G : Dr P w K mg base) (mall : mg "all" = none) (CB : FnAt P w K mg base 1 "_law_box" ["_law_script", "_law_k"] (spBox K)) (CY : FnAt P w K mg base 3 "_law_plain_web" ["_law_box_here", "_law_most", "_law_room"] spPlain) (CW : FnAt P w K mg base 5 "_law_web" ["_law_box_here", "_law_most", "_law_room"] spPlain)
    (CI : FnAt P w K mg base 7 "_law_right" ["_law_web_here"] (spRig T)) : FnOk P w K mg base CX0 8 f fd ["_law_script"] (spLaw K tabs) := by
  obtain ⟨fB, fdB, GB, bB, mB, kB⟩ := CB
  obtain ⟨fT, fdT, GT, bT, mT, kT⟩ := G.take
  obtain ⟨fY, fdY, GY, bY, mY, kY⟩ := CY
  obtain ⟨fW, fdW, GW, bW, mW, kW⟩ := CW
  obtain ⟨fI, fdI, GI, bI, mI, kI⟩ := CI
  refine F.ok scLaw (fun vs H Q E h => ?_) (fun cdv A outer s H vs Q E hr h => ?_)
  · obtain ⟨a, ns, rfl, _⟩ := h
    rfl
  · obtain ⟨a0, ns, rfl, hS, hlen, htb, k⟩ := h
    have nd := scLaw.nd
    have hrB := hr.mono (show 1 ≤ 7 by decide)
    have hrT := hr.mono (show 1 ≤ 7 by decide)
    have hrY := hr.mono (show 3 ≤ 7 by decide)
    have hrW := hr.mono (show 5 ≤ 7 by decide)
    have hrI := hr
    refine ⟨_, (pss_cons (ps_set (i := 1) nd rfl (Or.inl rfl) (pe_lst pa_nil))
      (pss_cons (ps_for PassesOwn.never rfl (pi_range1 (by rfl) G.mrange (pa_cons (pe_op op_add pe_int (pe_callB call_len_seq (by rfl) G.mlen PySem.boot_len (pa_cons (pe_slice sl_list (pv 0) po_none (po_some pe_int)) pa_nil))) pa_nil)) (pg_name (i := 2) nd rfl (Or.inl rfl))
        (pss_cons (ps_set (i := 3) nd rfl (Or.inl rfl) (pe_call GB hrB (by rfl) mB kB bB .nil pass0 (pa_cons (pv 0) (pa_cons (pv 2) pa_nil))))
        (pss_cons (ps_set (i := 4) nd rfl (Or.inl rfl) (pe_call GW hrW (by rfl) mW kW bW .nil pass0 (pa_cons (pv 3) (pa_cons pe_int (pa_cons pe_int pa_nil)))))
        (pss_cons (ps_if (pt_cmpR op_eq (pe_call GT hrT (by rfl) mT kT bT .nil pass0 (pa_cons (pv 3) (pa_cons pe_int pa_nil))) pe_int (nomark _)) (pss_one (ps_set (i := 4) nd rfl (Or.inl rfl) (pe_call GY hrY (by rfl) mY kY bY .nil pass0 (pa_cons (pv 3) (pa_cons pe_int (pa_cons pe_int pa_nil)))))) pss_nil)
        (pss_one (ps_expr (pe_bm PySem.F.plainAttrs_list PySem.F.slot_list_append PySem.F.type_list_append mt_append (pv 1) (pa_cons (pv 4) pa_nil))))))))
      (pss_one (ps_ret (pe_callB (cr_all rfl) (by rfl) mall (by decide +kernel) (pa_cons (pe_lc (own := [("_law_web_here", 4)]) (g := (gName 4)) (tt := tYes) (te := (tCall (spRig T) [] E0 (tCons (tVar 4) tNil)))
          (by rfl) nd (pi_list (pe_op op_cat (pv 1) (pe_slice sl_list (pv 1) po_none (po_some pe_int)))) (blkOk_by (own := [("_law_web_here", 4)]) (N := nLaw) (sc := defScope sLaw) (by decide +kernel))
          (fun _ _ _ _ _ => by exact (pg_name (i := 4) nd rfl (Or.inl rfl))) (fun _ _ _ _ _ => by exact pts_nil) (fun _ _ _ _ _ => by exact (pe_call GI hrI (by rfl) mI kI bI .nil pass0 (pa_cons (pv 4) pa_nil)))) pa_nil)))))), ?_⟩
    have tb : TblAt H T := TblAt.zero (htb _ hT)
    refine ⟨(by show 0 ≤ sizeLine; decide), fun L nL => ?_⟩
    have sL := same_new (o := .lst []) nL
    have eL : (upd H L (.lst [])) L = some (.lst []) := upd_same
    generalize (upd H L (.lst [])) = H0 at sL eL ⊢
    have tb0 : TblAt H0 T := tb.same sL
    have LT : L ≠ T := fun z => by
      obtain ⟨_, e, _⟩ := tb0.ex
      rw [z, e] at eL
      cases eL
    refine ⟨_, rfl, _, rfl, a0, _, rfl, ((StepT.refl tb).same sL).seqL tb hS, fun l0 nl0 => ?_⟩
    have s0 := same_new (o := .lst (cutV (ns.map V.int) none (some 6))) nl0
    have cl : (cutV (ns.map V.int) none (some 6)).length ≤ 63 := Nat.le_trans (cutV_length _ _ _) (by rw [List.length_map]; exact hlen)
    refine ⟨l0, _, rfl, .inl (SqL.of upd_same), _, _, rfl, rfl, _, rfl, (by omega), (by omega), ?_⟩
    refine for_range (lo := 0) (n := _) (fun i σ H1 => StepT T H H1 ∧ (∃ vs, H1 L = some (.lst vs) ∧ vs.length = i ∧ ∀ v ∈ vs, G99 H1 v) ∧ ∃ o2 o3 o4 : Option V, σ = [some (.ref a0), some (.ref L), o2, o3, o4]) ⟨(StepT.refl tb).same (sL.trans s0), ⟨[], s0 _ _ eL, rfl, fun v m => by cases m⟩, none, none, none, rfl⟩ ?_ ?_
    · rintro i σ H1 hi ⟨s1, ⟨vs, eV, vl, hvs⟩, o2, o3, o4, rfl⟩
      have hi' : (i : Int) < 64 := by omega
      refine ⟨_, rfl, _, rfl, a0, ns, _, rfl, s1.seqL tb hS, by omega, by omega, fun p H2 np sb hb2 => ?_⟩
      have nH : H p = none := s1.free np
      have Lp : L ≠ p := fun z => by rw [← z, eV] at np; cases np
      have z2 := s1.same sb
      have tb2 : TblAt H2 T := z2.tbl
      have B2 : StepB p T H2 H2 := StepB.refl hb2 tb2
      refine ⟨_, rfl, p, 8, 4, rfl, hb2, by decide, by decide, by decide, by decide, fun g wb H3 ng s3 hW gd wl => ?_⟩
      have B3 := B2.step s3
      obtain ⟨xa, xb, hx, hx0, hx1⟩ := B3.box.ex
      refine ⟨_, rfl, p, xa, xb, _, rfl, hx, hx0, hx1, by decide, by decide, fun u a1 b1 u0 u1 c1 c2 => ?_⟩
      have q4 := (Step.refl B3.box).take (x := a1) c1 c2
      have B4 := B3.step q4
      have u4 := q4.tups B3.box
      generalize (upd H3 p (.lst [.int a1, .int b1])) = H4 at q4 B4 u4 ⊢
      refine ⟨rfl, _, rfl, ?_⟩
      apply join (Pv := fun σ Hj => StepB p T H2 Hj ∧ ∃ g, G99 Hj (.ref g) ∧ σ = [some (.ref a0), some (.ref L), some (.int (0 + (i : Int))), some (.ref p), some (.ref g)])
      case h1 =>
        intro rest
        refine ite2 (fun _ => ?_) (fun _ => rest _ _ ⟨B4, g, ⟨g, wb, rfl, hW.tups u4, gd, by omega⟩, rfl⟩)
        refine ⟨_, rfl, p, 99, 4, rfl, B4.box, by decide, by decide, by decide, by decide, fun g' wb' H5 ng' s5 hW' gd' wl' => ?_⟩
        exact rest _ _ ⟨B4.step s5, g', ⟨g', wb', rfl, hW', gd', wl'⟩, rfl⟩
      rintro σ H5 ⟨B5, g, hg, rfl⟩
      have eV5 := B5.keep L _ Lp LT (sb _ _ eV)
      refine ⟨_, rfl, .inl ⟨rfl, _, SqL.of eV5⟩, _, rfl, L, _, _, rfl, rfl, eV5, (by rw [vl, sizeLine_eq]; omega), ?_⟩
      have tt := tups_lst (o := HO.lst (vs ++ [.ref g])) eV5
      have z5 : StepT T H H5 := StepB.out z2 nH B5
      refine ⟨z5.put nL LT, ⟨_, upd_same, by rw [List.length_append, vl]; rfl, fun v m => ?_⟩, _, _, _, rfl⟩
      rcases List.mem_append.mp m with m | m
      · exact (hvs v m).tups (((sTups sb).trans (B5.tups hb2 tb2)).trans tt)
      · rw [List.mem_singleton.mp m]
        exact hg.tups tt
    · rintro σ H1 ⟨s1, ⟨xs, eX, xl, hxs⟩, o2, o3, o4, rfl⟩
      have xl' : xs.length ≤ 1000 := by omega
      refine ⟨_, rfl, _, rfl, _, rfl, L, _, rfl, SqL.of eX, fun L4 nL4 => ?_⟩
      have q4' := same_new (o := HO.lst (cutV xs none (some 1))) nL4
      have cul := cutV_length xs none (some 1)
      refine ⟨L, L4, _, _, rfl, rfl, q4' _ _ eX, upd_same, (by rw [sizeLine_eq]; omega), fun L5 nL5 => ⟨L5, rfl, ⟨_, SqL.of upd_same⟩, ?_⟩⟩
      have sy := q4'.trans (same_new (o := HO.lst (xs ++ cutV xs none (some 1))) nL5)
      have eL5 : (upd (upd H1 L4 (HO.lst (cutV xs none (some 1)))) L5 (HO.lst (xs ++ cutV xs none (some 1)))) L5 = some (HO.lst (xs ++ cutV xs none (some 1))) := upd_same
      have hys : ∀ v ∈ xs ++ cutV xs none (some 1), G99 (upd (upd H1 L4 (HO.lst (cutV xs none (some 1)))) L5 (HO.lst (xs ++ cutV xs none (some 1)))) v := fun v m => by
        rcases List.mem_append.mp m with m | m
        · exact (hxs v m).tups (sTups sy)
        · exact (hxs v (cut_mem m)).tups (sTups sy)
      have tby : TblAt _ T := s1.tbl.same sy
      have yl : (xs ++ cutV xs none (some 1)).length ≤ 2000 := by rw [List.length_append]; omega
      generalize (upd (upd H1 L4 (HO.lst (cutV xs none (some 1)))) L5 (HO.lst (xs ++ cutV xs none (some 1)))) = Hy at eL5 hys tby ⊢
      have neT : L5 ≠ T := fun z => by
        obtain ⟨_, e, _⟩ := tby.ex
        rw [z, e] at eL5
        cases eL5
      refine fun M nM => ?_
      have MT : M ≠ T := tby.ne nM
      refine lc_list (K := K) (a := L5) (xs := xs ++ cutV xs none (some 1)) (fun j Hc => StepT T Hy Hc ∧ Hc M = some (.lst ((List.replicate j true).map V.bl))) ⟨(StepT.refl tby).new nM, upd_same⟩ (fun j Hc _ ⟨sc, _⟩ => SqL.of (sc.keep L5 _ neT eL5)) ?_ ?_
      · rintro j v Hc hv ⟨sc, hM⟩
        have jl := (List.getElem?_eq_some_iff.mp hv).1
        have tu := sc.tups tby
        obtain ⟨g, wg, rfl, hg, gg, gl⟩ := ((hys v (List.mem_of_getElem? hv)).tups tu).ex
        refine ⟨rfl, ?_⟩
        dsimp only [tYes]
        rw [if_pos rfl]
        refine ⟨_, rfl, g, wg, rfl, hg, gg, gl, sc.tbl, fun He se => ?_⟩
        refine ⟨_, se.keep M _ MT hM, (by rw [List.length_map, List.length_replicate, sizeLine_eq]; omega), (sc.trans se).put nM MT, ?_⟩
        rw [upd_same, List.replicate_succ', List.map_append]
        rfl
      · rintro Hc ⟨sc, hM⟩
        refine ⟨M, _, rfl, SqL.of hM, ?_⟩
        have e : (List.replicate (xs ++ cutV xs none (some 1)).length true).all id = true := by
          rw [List.all_eq_true]
          intro b hb
          rw [List.eq_of_mem_replicate hb]
          rfl
        rw [e]
        exact k Hc
end
end NH
set_option Elab.async false
set_option linter.all false
set_option maxRecDepth 100000
set_option maxHeartbeats 4000000
namespace NH
open PySem L2
def xclsB (K : PySem.W.Frag) (C : Addr) : Bool :=
  (PySem.W.findIn K (.ref C) "__getattribute__" == some (some (.builtin "BaseException.__getattribute__"))) && (PySem.W.findIn K (.ref C) "__getattr__" == some none) && (PySem.W.mroIn K C (.type "BaseException") == some true) &&
  (PySem.W.mroIn K C (.type "object") == some true) && PySem.W.hasDictIn K C && (PySem.W.findIn K (.ref C) "__class__" == some (some (.builtin "object.__class__"))) &&
  (PySem.W.specialIn K (.builtin "object.__class__") "__get__" == some (some (.builtin "getset_descriptor.__get__"))) && (PySem.W.takesIn K (.builtin "object.__class__") == some true) && excOver K C &&
  (PySem.W.findIn K (.ref C) "__setattr__" == some (some (.builtin "object.__setattr__")))
theorem xcls_of {K : PySem.W.Frag} {C : Addr} (h : xclsB K C = true) : XCls K C := by
  unfold xclsB at h
  simp only [Bool.and_eq_true, beq_iff_eq] at h
  obtain ⟨⟨⟨⟨⟨⟨⟨⟨⟨h1, h2⟩, h3⟩, h4⟩, h5⟩, h6⟩, h7⟩, h8⟩, h9⟩, h10⟩ := h
  exact ⟨h1, h2, h3, h4, h5, h6, h7, h8, h9, h10⟩
theorem all_mk {l : PySem.W.OpenLaw} {w : World} {K : PySem.W.Frag} {h : Heap} {mg : Str → Option Value} {fa : Addr} (X : K.In h) (G : h.Ns mainGlobals mg) (hfa : mg "law" = some (.ref fa))
    {CW : Addr}
    {fIW : Addr} {ocIW kVIW dcIW pmIW cdIW ctIW : Value} {odIW anIW : Option Addr} {slIW : Array (Option Value)}
    {tMOST_MARK : Tok}
    {tMOST_PEGS : Tok}
    {tMOST_FIGURES : Tok}
    {tFIGURES : Tok}
    {fDbox : Addr} {ocDbox kVDbox dcDbox pmDbox cdDbox ctDbox : Value} {odDbox anDbox : Option Addr} {slDbox : Array (Option Value)}
    {fDtake : Addr} {ocDtake kVDtake dcDtake pmDtake cdDtake ctDtake : Value} {odDtake anDtake : Option Addr} {slDtake : Array (Option Value)}
    {fDshuf : Addr} {ocDshuf kVDshuf dcDshuf pmDshuf cdDshuf ctDshuf : Value} {odDshuf anDshuf : Option Addr} {slDshuf : Array (Option Value)}
    {fDties : Addr} {ocDties kVDties dcDties pmDties cdDties ctDties : Value} {odDties anDties : Option Addr} {slDties : Array (Option Value)}
    {fDmarks : Addr} {ocDmarks kVDmarks dcDmarks pmDmarks cdDmarks ctDmarks : Value} {odDmarks anDmarks : Option Addr} {slDmarks : Array (Option Value)}
    {fDplain : Addr} {ocDplain kVDplain dcDplain pmDplain cdDplain ctDplain : Value} {odDplain anDplain : Option Addr} {slDplain : Array (Option Value)}
    {fDren : Addr} {ocDren kVDren dcDren pmDren cdDren ctDren : Value} {odDren anDren : Option Addr} {slDren : Array (Option Value)}
    {fDturn : Addr} {ocDturn kVDturn dcDturn pmDturn cdDturn ctDturn : Value} {odDturn anDturn : Option Addr} {slDturn : Array (Option Value)}
    {fDcov : Addr} {ocDcov kVDcov dcDcov pmDcov cdDcov ctDcov : Value} {odDcov anDcov : Option Addr} {slDcov : Array (Option Value)}
    {fDweb : Addr} {ocDweb kVDweb dcDweb pmDweb cdDweb ctDweb : Value} {odDweb anDweb : Option Addr} {slDweb : Array (Option Value)}
    {fDalike : Addr} {ocDalike kVDalike dcDalike pmDalike cdDalike ctDalike : Value} {odDalike anDalike : Option Addr} {slDalike : Array (Option Value)}
    {fDback : Addr} {ocDback kVDback dcDback pmDback cdDback ctDback : Value} {odDback anDback : Option Addr} {slDback : Array (Option Value)}
    {fDwrong : Addr} {ocDwrong kVDwrong dcDwrong pmDwrong cdDwrong ctDwrong : Value} {odDwrong anDwrong : Option Addr} {slDwrong : Array (Option Value)}
    {fDreach : Addr} {ocDreach kVDreach dcDreach pmDreach cdDreach ctDreach : Value} {odDreach anDreach : Option Addr} {slDreach : Array (Option Value)}
    {fDlook : Addr} {ocDlook kVDlook dcDlook pmDlook cdDlook ctDlook : Value} {odDlook anDlook : Option Addr} {slDlook : Array (Option Value)}
    {fDfig : Addr} {ocDfig kVDfig dcDfig pmDfig cdDfig ctDfig : Value} {odDfig anDfig : Option Addr} {slDfig : Array (Option Value)}
    {fDnum : Addr} {ocDnum kVDnum dcDnum pmDnum cdDnum ctDnum : Value} {odDnum anDnum : Option Addr} {slDnum : Array (Option Value)}
    {fDpeg : Addr} {ocDpeg kVDpeg dcDpeg pmDpeg cdDpeg ctDpeg : Value} {odDpeg anDpeg : Option Addr} {slDpeg : Array (Option Value)}
    {fDhnd : Addr} {ocDhnd kVDhnd dcDhnd pmDhnd cdDhnd ctDhnd : Value} {odDhnd anDhnd : Option Addr} {slDhnd : Array (Option Value)}
    {fDrdw : Addr} {ocDrdw kVDrdw dcDrdw pmDrdw cdDrdw ctDrdw : Value} {odDrdw anDrdw : Option Addr} {slDrdw : Array (Option Value)}
    {fDshh : Addr} {ocDshh kVDshh dcDshh pmDshh cdDshh ctDshh : Value} {odDshh anDshh : Option Addr} {slDshh : Array (Option Value)}
    {fDshw : Addr} {ocDshw kVDshw dcDshw pmDshw cdDshw ctDshw : Value} {odDshw anDshw : Option Addr} {slDshw : Array (Option Value)}
    {fDlwt : Addr} {ocDlwt kVDlwt dcDlwt pmDlwt cdDlwt ctDlwt : Value} {odDlwt anDlwt : Option Addr} {slDlwt : Array (Option Value)}
    {fDrig : Addr} {ocDrig kVDrig dcDrig pmDrig cdDrig ctDrig : Value} {odDrig anDrig : Option Addr} {slDrig : Array (Option Value)}
    {fDlaw : Addr} {ocDlaw kVDlaw dcDlaw pmDlaw cdDlaw ctDlaw : Value} {odDlaw anDlaw : Option Addr} {slDlaw : Array (Option Value)}
    (cW : PySem.W.nsIn K mainGlobals "NoWeb" = some (some (.ref CW)))
    (xW : xclsB K CW = true)
    (kpW : PySem.W.keepIn K (.ref CW) = true)
    (mtW : metaTy K CW = true)
    (naWword : PySem.W.findIn K (.ref CW) "word" = some none)
    (naWat : PySem.W.findIn K (.ref CW) "at" = some none)
    (aIW : PySem.W.findIn K (.ref CW) "__init__" = some (some (.ref fIW)))
    (lIW : K.lookup fIW = some ⟨ocIW, odIW, .func (PySem.W.fnOf "__init__" "NoWeb.__init__" (defArgs sIW) (defBody sIW) (defScope sIW) .none kVIW dcIW pmIW anIW cdIW ctIW), slIW⟩)
    (dIW : PySem.W.codeIn K cdIW "NoWeb.__init__" = true)
    (kIW : PySem.W.keepIn K (.ref fIW) = true)
    (oW : ownX K CW (some (.ref fIW)) = true)
    (nW : PySem.W.isFn K (.ref fIW) = true)
    (z_len : PySem.W.nsIn K mainGlobals "len" = some none)
    (z_int : PySem.W.nsIn K mainGlobals "int" = some none)
    (z_range : PySem.W.nsIn K mainGlobals "range" = some none)
    (z_tuple : PySem.W.nsIn K mainGlobals "tuple" = some none)
    (z_list : PySem.W.nsIn K mainGlobals "list" = some none)
    (z_zip : PySem.W.nsIn K mainGlobals "zip" = some none)
    (z_enumerate : PySem.W.nsIn K mainGlobals "enumerate" = some none)
    (z_min : PySem.W.nsIn K mainGlobals "min" = some none)
    (z_max : PySem.W.nsIn K mainGlobals "max" = some none)
    (z_any : PySem.W.nsIn K mainGlobals "any" = some none)
    (z_all : PySem.W.nsIn K mainGlobals "all" = some none)
    (z_isinstance : PySem.W.nsIn K mainGlobals "isinstance" = some none)
    (z_bool : PySem.W.nsIn K mainGlobals "bool" = some none)
    (z_str : PySem.W.nsIn K mainGlobals "str" = some none)
    (gMOST_MARK : PySem.W.nsIn K mainGlobals "MOST_MARK" = some (some (.int 9 tMOST_MARK)))
    (gMOST_PEGS : PySem.W.nsIn K mainGlobals "MOST_PEGS" = some (some (.int 4 tMOST_PEGS)))
    (gMOST_FIGURES : PySem.W.nsIn K mainGlobals "MOST_FIGURES" = some (some (.int 2 tMOST_FIGURES)))
    (gFIGURES : PySem.W.nsIn K mainGlobals "FIGURES" = some (some (.str "0123456789" tFIGURES)))
    (aDbox : PySem.W.nsIn K mainGlobals "_law_box" = some (some (.ref fDbox)))
    (lDbox : K.lookup fDbox = some ⟨ocDbox, odDbox, .func (PySem.W.fnOf "_law_box" "_law_box" (defArgs sBox) (defBody sBox) (defScope sBox) .none kVDbox dcDbox pmDbox anDbox cdDbox ctDbox), slDbox⟩)
    (dDbox : PySem.W.codeIn K cdDbox "_law_box" = true)
    (kDbox : PySem.W.keepIn K (.ref fDbox) = true)
    (aDtake : PySem.W.nsIn K mainGlobals "_law_take" = some (some (.ref fDtake)))
    (lDtake : K.lookup fDtake = some ⟨ocDtake, odDtake, .func (PySem.W.fnOf "_law_take" "_law_take" (defArgs sTake) (defBody sTake) (defScope sTake) .none kVDtake dcDtake pmDtake anDtake cdDtake ctDtake), slDtake⟩)
    (dDtake : PySem.W.codeIn K cdDtake "_law_take" = true)
    (kDtake : PySem.W.keepIn K (.ref fDtake) = true)
    (aDshuf : PySem.W.nsIn K mainGlobals "_law_shuffled" = some (some (.ref fDshuf)))
    (lDshuf : K.lookup fDshuf = some ⟨ocDshuf, odDshuf, .func (PySem.W.fnOf "_law_shuffled" "_law_shuffled" (defArgs sShuf) (defBody sShuf) (defScope sShuf) .none kVDshuf dcDshuf pmDshuf anDshuf cdDshuf ctDshuf), slDshuf⟩)
    (dDshuf : PySem.W.codeIn K cdDshuf "_law_shuffled" = true)
    (kDshuf : PySem.W.keepIn K (.ref fDshuf) = true)
    (aDties : PySem.W.nsIn K mainGlobals "_law_ties" = some (some (.ref fDties)))
    (lDties : K.lookup fDties = some ⟨ocDties, odDties, .func (PySem.W.fnOf "_law_ties" "_law_ties" (defArgs sTies) (defBody sTies) (defScope sTies) .none kVDties dcDties pmDties anDties cdDties ctDties), slDties⟩)
    (dDties : PySem.W.codeIn K cdDties "_law_ties" = true)
    (kDties : PySem.W.keepIn K (.ref fDties) = true)
    (aDmarks : PySem.W.nsIn K mainGlobals "_law_marks" = some (some (.ref fDmarks)))
    (lDmarks : K.lookup fDmarks = some ⟨ocDmarks, odDmarks, .func (PySem.W.fnOf "_law_marks" "_law_marks" (defArgs sMarks) (defBody sMarks) (defScope sMarks) .none kVDmarks dcDmarks pmDmarks anDmarks cdDmarks ctDmarks), slDmarks⟩)
    (dDmarks : PySem.W.codeIn K cdDmarks "_law_marks" = true)
    (kDmarks : PySem.W.keepIn K (.ref fDmarks) = true)
    (aDplain : PySem.W.nsIn K mainGlobals "_law_plain_web" = some (some (.ref fDplain)))
    (lDplain : K.lookup fDplain = some ⟨ocDplain, odDplain, .func (PySem.W.fnOf "_law_plain_web" "_law_plain_web" (defArgs sPlain) (defBody sPlain) (defScope sPlain) .none kVDplain dcDplain pmDplain anDplain cdDplain ctDplain), slDplain⟩)
    (dDplain : PySem.W.codeIn K cdDplain "_law_plain_web" = true)
    (kDplain : PySem.W.keepIn K (.ref fDplain) = true)
    (aDren : PySem.W.nsIn K mainGlobals "_law_renamed" = some (some (.ref fDren)))
    (lDren : K.lookup fDren = some ⟨ocDren, odDren, .func (PySem.W.fnOf "_law_renamed" "_law_renamed" (defArgs sRen) (defBody sRen) (defScope sRen) .none kVDren dcDren pmDren anDren cdDren ctDren), slDren⟩)
    (dDren : PySem.W.codeIn K cdDren "_law_renamed" = true)
    (kDren : PySem.W.keepIn K (.ref fDren) = true)
    (aDturn : PySem.W.nsIn K mainGlobals "_law_turnings" = some (some (.ref fDturn)))
    (lDturn : K.lookup fDturn = some ⟨ocDturn, odDturn, .func (PySem.W.fnOf "_law_turnings" "_law_turnings" (defArgs sTurn) (defBody sTurn) (defScope sTurn) .none kVDturn dcDturn pmDturn anDturn cdDturn ctDturn), slDturn⟩)
    (dDturn : PySem.W.codeIn K cdDturn "_law_turnings" = true)
    (kDturn : PySem.W.keepIn K (.ref fDturn) = true)
    (aDcov : PySem.W.nsIn K mainGlobals "_law_cover" = some (some (.ref fDcov)))
    (lDcov : K.lookup fDcov = some ⟨ocDcov, odDcov, .func (PySem.W.fnOf "_law_cover" "_law_cover" (defArgs sCov) (defBody sCov) (defScope sCov) .none kVDcov dcDcov pmDcov anDcov cdDcov ctDcov), slDcov⟩)
    (dDcov : PySem.W.codeIn K cdDcov "_law_cover" = true)
    (kDcov : PySem.W.keepIn K (.ref fDcov) = true)
    (aDweb : PySem.W.nsIn K mainGlobals "_law_web" = some (some (.ref fDweb)))
    (lDweb : K.lookup fDweb = some ⟨ocDweb, odDweb, .func (PySem.W.fnOf "_law_web" "_law_web" (defArgs sWeb) (defBody sWeb) (defScope sWeb) .none kVDweb dcDweb pmDweb anDweb cdDweb ctDweb), slDweb⟩)
    (dDweb : PySem.W.codeIn K cdDweb "_law_web" = true)
    (kDweb : PySem.W.keepIn K (.ref fDweb) = true)
    (aDalike : PySem.W.nsIn K mainGlobals "_law_alike" = some (some (.ref fDalike)))
    (lDalike : K.lookup fDalike = some ⟨ocDalike, odDalike, .func (PySem.W.fnOf "_law_alike" "_law_alike" (defArgs sAlike) (defBody sAlike) (defScope sAlike) .none kVDalike dcDalike pmDalike anDalike cdDalike ctDalike), slDalike⟩)
    (dDalike : PySem.W.codeIn K cdDalike "_law_alike" = true)
    (kDalike : PySem.W.keepIn K (.ref fDalike) = true)
    (aDback : PySem.W.nsIn K mainGlobals "leads_back" = some (some (.ref fDback)))
    (lDback : K.lookup fDback = some ⟨ocDback, odDback, .func (PySem.W.fnOf "leads_back" "leads_back" (defArgs sBack) (defBody sBack) (defScope sBack) .none kVDback dcDback pmDback anDback cdDback ctDback), slDback⟩)
    (dDback : PySem.W.codeIn K cdDback "leads_back" = true)
    (kDback : PySem.W.keepIn K (.ref fDback) = true)
    (aDwrong : PySem.W.nsIn K mainGlobals "wrong_word" = some (some (.ref fDwrong)))
    (lDwrong : K.lookup fDwrong = some ⟨ocDwrong, odDwrong, .func (PySem.W.fnOf "wrong_word" "wrong_word" (defArgs sWrong) (defBody sWrong) (defScope sWrong) .none kVDwrong dcDwrong pmDwrong anDwrong cdDwrong ctDwrong), slDwrong⟩)
    (dDwrong : PySem.W.codeIn K cdDwrong "wrong_word" = true)
    (kDwrong : PySem.W.keepIn K (.ref fDwrong) = true)
    (aDreach : PySem.W.nsIn K mainGlobals "reached" = some (some (.ref fDreach)))
    (lDreach : K.lookup fDreach = some ⟨ocDreach, odDreach, .func (PySem.W.fnOf "reached" "reached" (defArgs sReach) (defBody sReach) (defScope sReach) .none kVDreach dcDreach pmDreach anDreach cdDreach ctDreach), slDreach⟩)
    (dDreach : PySem.W.codeIn K cdDreach "reached" = true)
    (kDreach : PySem.W.keepIn K (.ref fDreach) = true)
    (aDlook : PySem.W.nsIn K mainGlobals "look" = some (some (.ref fDlook)))
    (lDlook : K.lookup fDlook = some ⟨ocDlook, odDlook, .func (PySem.W.fnOf "look" "look" (defArgs sLook) (defBody sLook) (defScope sLook) .none kVDlook dcDlook pmDlook anDlook cdDlook ctDlook), slDlook⟩)
    (dDlook : PySem.W.codeIn K cdDlook "look" = true)
    (kDlook : PySem.W.keepIn K (.ref fDlook) = true)
    (aDfig : PySem.W.nsIn K mainGlobals "are_figures" = some (some (.ref fDfig)))
    (lDfig : K.lookup fDfig = some ⟨ocDfig, odDfig, .func (PySem.W.fnOf "are_figures" "are_figures" (defArgs sFig) (defBody sFig) (defScope sFig) .none kVDfig dcDfig pmDfig anDfig cdDfig ctDfig), slDfig⟩)
    (dDfig : PySem.W.codeIn K cdDfig "are_figures" = true)
    (kDfig : PySem.W.keepIn K (.ref fDfig) = true)
    (aDnum : PySem.W.nsIn K mainGlobals "read_number" = some (some (.ref fDnum)))
    (lDnum : K.lookup fDnum = some ⟨ocDnum, odDnum, .func (PySem.W.fnOf "read_number" "read_number" (defArgs sNum) (defBody sNum) (defScope sNum) .none kVDnum dcDnum pmDnum anDnum cdDnum ctDnum), slDnum⟩)
    (dDnum : PySem.W.codeIn K cdDnum "read_number" = true)
    (kDnum : PySem.W.keepIn K (.ref fDnum) = true)
    (aDpeg : PySem.W.nsIn K mainGlobals "read_peg" = some (some (.ref fDpeg)))
    (lDpeg : K.lookup fDpeg = some ⟨ocDpeg, odDpeg, .func (PySem.W.fnOf "read_peg" "read_peg" (defArgs sPeg) (defBody sPeg) (defScope sPeg) .none kVDpeg dcDpeg pmDpeg anDpeg cdDpeg ctDpeg), slDpeg⟩)
    (dDpeg : PySem.W.codeIn K cdDpeg "read_peg" = true)
    (kDpeg : PySem.W.keepIn K (.ref fDpeg) = true)
    (aDhnd : PySem.W.nsIn K mainGlobals "read_hand" = some (some (.ref fDhnd)))
    (lDhnd : K.lookup fDhnd = some ⟨ocDhnd, odDhnd, .func (PySem.W.fnOf "read_hand" "read_hand" (defArgs sHnd) (defBody sHnd) (defScope sHnd) .none kVDhnd dcDhnd pmDhnd anDhnd cdDhnd ctDhnd), slDhnd⟩)
    (dDhnd : PySem.W.codeIn K cdDhnd "read_hand" = true)
    (kDhnd : PySem.W.keepIn K (.ref fDhnd) = true)
    (aDrdw : PySem.W.nsIn K mainGlobals "read_web" = some (some (.ref fDrdw)))
    (lDrdw : K.lookup fDrdw = some ⟨ocDrdw, odDrdw, .func (PySem.W.fnOf "read_web" "read_web" (defArgs sRdw) (defBody sRdw) (defScope sRdw) .none kVDrdw dcDrdw pmDrdw anDrdw cdDrdw ctDrdw), slDrdw⟩)
    (dDrdw : PySem.W.codeIn K cdDrdw "read_web" = true)
    (kDrdw : PySem.W.keepIn K (.ref fDrdw) = true)
    (aDshh : PySem.W.nsIn K mainGlobals "show_hand" = some (some (.ref fDshh)))
    (lDshh : K.lookup fDshh = some ⟨ocDshh, odDshh, .func (PySem.W.fnOf "show_hand" "show_hand" (defArgs sShh) (defBody sShh) (defScope sShh) .none kVDshh dcDshh pmDshh anDshh cdDshh ctDshh), slDshh⟩)
    (dDshh : PySem.W.codeIn K cdDshh "show_hand" = true)
    (kDshh : PySem.W.keepIn K (.ref fDshh) = true)
    (aDshw : PySem.W.nsIn K mainGlobals "show_web" = some (some (.ref fDshw)))
    (lDshw : K.lookup fDshw = some ⟨ocDshw, odDshw, .func (PySem.W.fnOf "show_web" "show_web" (defArgs sShw) (defBody sShw) (defScope sShw) .none kVDshw dcDshw pmDshw anDshw cdDshw ctDshw), slDshw⟩)
    (dDshw : PySem.W.codeIn K cdDshw "show_web" = true)
    (kDshw : PySem.W.keepIn K (.ref fDshw) = true)
    (aDlwt : PySem.W.nsIn K mainGlobals "_law_web_text" = some (some (.ref fDlwt)))
    (lDlwt : K.lookup fDlwt = some ⟨ocDlwt, odDlwt, .func (PySem.W.fnOf "_law_web_text" "_law_web_text" (defArgs sLwt) (defBody sLwt) (defScope sLwt) .none kVDlwt dcDlwt pmDlwt anDlwt cdDlwt ctDlwt), slDlwt⟩)
    (dDlwt : PySem.W.codeIn K cdDlwt "_law_web_text" = true)
    (kDlwt : PySem.W.keepIn K (.ref fDlwt) = true)
    (aDrig : PySem.W.nsIn K mainGlobals "_law_right" = some (some (.ref fDrig)))
    (lDrig : K.lookup fDrig = some ⟨ocDrig, odDrig, .func (PySem.W.fnOf "_law_right" "_law_right" (defArgs sRig) (defBody sRig) (defScope sRig) .none kVDrig dcDrig pmDrig anDrig cdDrig ctDrig), slDrig⟩)
    (dDrig : PySem.W.codeIn K cdDrig "_law_right" = true)
    (kDrig : PySem.W.keepIn K (.ref fDrig) = true)
    (aDlaw : PySem.W.nsIn K mainGlobals "law" = some (some (.ref fDlaw)))
    (lDlaw : K.lookup fDlaw = some ⟨ocDlaw, odDlaw, .func (PySem.W.fnOf "law" "law" (defArgs sLaw) (defBody sLaw) (defScope sLaw) .none kVDlaw dcDlaw pmDlaw anDlaw cdDlaw ctDlaw), slDlaw⟩)
    (dDlaw : PySem.W.codeIn K cdDlaw "law" = true)
    (kDlaw : PySem.W.keepIn K (.ref fDlaw) = true) {cT T : Addr} (ht : PySem.W.tabIn K "are_figures" = some (cT, T)) :
    ∃ fd : FuncData, (∀ (s : Shared) (v : Value), BindsTo s fd ⟨[v], []⟩ [("_law_script", v)]) ∧ ∀ base : Heap, K.In base → base.Ns mainGlobals mg → (∀ t ∈ ([("are_figures" : Str)].filterMap (PySem.W.tabIn K)), PySem.W.CodeHd base t.1 t.2) → BltMod base mg → FnOk l.prog w K mg base CX0 8 fa fd ["_law_script"] (spLaw K ([("are_figures" : Str)].filterMap (PySem.W.tabIn K))) := by
  have e := hfa.symm.trans (PySem.W.mg_of X G aDlaw)
  cases e
  have FIW := fun_mk (st := sIW) lIW dIW kIW
  have bIW := FIW.binds (ps := ["self", "word", "at"]) fun _ _ _ _ _ _ us hl => match us, hl with | [_, _, _], _ => rfl
  have FDbox := fun_mk (st := sBox) lDbox dDbox kDbox
  have bDbox := FDbox.binds (ps := ["_law_script", "_law_k"]) fun _ _ _ _ _ _ us hl => match us, hl with | [_, _], _ => rfl
  have FDtake := fun_mk (st := sTake) lDtake dDtake kDtake
  have bDtake := FDtake.binds (ps := ["_law_box_here", "_law_wide"]) fun _ _ _ _ _ _ us hl => match us, hl with | [_, _], _ => rfl
  have FDshuf := fun_mk (st := sShuf) lDshuf dDshuf kDshuf
  have bDshuf := FDshuf.binds (ps := ["_law_box_here", "_law_many"]) fun _ _ _ _ _ _ us hl => match us, hl with | [_, _], _ => rfl
  have FDties := fun_mk (st := sTies) lDties dDties kDties
  have bDties := FDties.binds (ps := ["_law_box_here", "_law_many", "_law_room"]) fun _ _ _ _ _ _ us hl => match us, hl with | [_, _, _], _ => rfl
  have FDmarks := fun_mk (st := sMarks) lDmarks dDmarks kDmarks
  have bDmarks := FDmarks.binds (ps := ["_law_box_here", "_law_many"]) fun _ _ _ _ _ _ us hl => match us, hl with | [_, _], _ => rfl
  have FDplain := fun_mk (st := sPlain) lDplain dDplain kDplain
  have bDplain := FDplain.binds (ps := ["_law_box_here", "_law_most", "_law_room"]) fun _ _ _ _ _ _ us hl => match us, hl with | [_, _, _], _ => rfl
  have FDren := fun_mk (st := sRen) lDren dDren kDren
  have bDren := FDren.binds (ps := ["_law_web_here", "_law_row"]) fun _ _ _ _ _ _ us hl => match us, hl with | [_, _], _ => rfl
  have FDturn := fun_mk (st := sTurn) lDturn dDturn kDturn
  have bDturn := FDturn.binds (ps := ["_law_box_here", "_law_web_here", "_law_sheets"]) fun _ _ _ _ _ _ us hl => match us, hl with | [_, _, _], _ => rfl
  have FDcov := fun_mk (st := sCov) lDcov dDcov kDcov
  have bDcov := FDcov.binds (ps := ["_law_box_here", "_law_web_here", "_law_sheets"]) fun _ _ _ _ _ _ us hl => match us, hl with | [_, _, _], _ => rfl
  have FDweb := fun_mk (st := sWeb) lDweb dDweb kDweb
  have bDweb := FDweb.binds (ps := ["_law_box_here", "_law_most", "_law_room"]) fun _ _ _ _ _ _ us hl => match us, hl with | [_, _, _], _ => rfl
  have FDalike := fun_mk (st := sAlike) lDalike dDalike kDalike
  have bDalike := FDalike.binds (ps := ["_law_found", "_law_due"]) fun _ _ _ _ _ _ us hl => match us, hl with | [_, _], _ => rfl
  have FDback := fun_mk (st := sBack) lDback dDback kDback
  have bDback := FDback.binds (ps := ["web", "hand", "peg"]) fun _ _ _ _ _ _ us hl => match us, hl with | [_, _, _], _ => rfl
  have FDwrong := fun_mk (st := sWrong) lDwrong dDwrong kDwrong
  have bDwrong := FDwrong.binds (ps := ["web", "hand"]) fun _ _ _ _ _ _ us hl => match us, hl with | [_, _], _ => rfl
  have FDreach := fun_mk (st := sReach) lDreach dDreach kDreach
  have bDreach := FDreach.binds (ps := ["web"]) fun _ _ _ _ _ _ us hl => match us, hl with | [_], _ => rfl
  have FDlook := fun_mk (st := sLook) lDlook dDlook kDlook
  have bDlook := FDlook.binds (ps := ["web"]) fun _ _ _ _ _ _ us hl => match us, hl with | [_], _ => rfl
  have FDfig := fun_mk (st := sFig) lDfig dDfig kDfig
  have bDfig := FDfig.binds (ps := ["text"]) fun _ _ _ _ _ _ us hl => match us, hl with | [_], _ => rfl
  have FDnum := fun_mk (st := sNum) lDnum dDnum kDnum
  have bDnum := FDnum.binds (ps := ["text", "most_figures"]) fun _ _ _ _ _ _ us hl => match us, hl with | [_, _], _ => rfl
  have FDpeg := fun_mk (st := sPeg) lDpeg dDpeg kDpeg
  have bDpeg := FDpeg.binds (ps := ["word"]) fun _ _ _ _ _ _ us hl => match us, hl with | [_], _ => rfl
  have FDhnd := fun_mk (st := sHnd) lDhnd dDhnd kDhnd
  have bDhnd := FDhnd.binds (ps := ["row"]) fun _ _ _ _ _ _ us hl => match us, hl with | [_], _ => rfl
  have FDrdw := fun_mk (st := sRdw) lDrdw dDrdw kDrdw
  have bDrdw := FDrdw.binds (ps := ["text"]) fun _ _ _ _ _ _ us hl => match us, hl with | [_], _ => rfl
  have FDshh := fun_mk (st := sShh) lDshh dDshh kDshh
  have bDshh := FDshh.binds (ps := ["mark", "pegs"]) fun _ _ _ _ _ _ us hl => match us, hl with | [_, _], _ => rfl
  have FDshw := fun_mk (st := sShw) lDshw dDshw kDshw
  have bDshw := FDshw.binds (ps := ["web"]) fun _ _ _ _ _ _ us hl => match us, hl with | [_], _ => rfl
  have FDlwt := fun_mk (st := sLwt) lDlwt dDlwt kDlwt
  have bDlwt := FDlwt.binds (ps := ["_law_web_here"]) fun _ _ _ _ _ _ us hl => match us, hl with | [_], _ => rfl
  have FDrig := fun_mk (st := sRig) lDrig dDrig kDrig
  have bDrig := FDrig.binds (ps := ["_law_web_here"]) fun _ _ _ _ _ _ us hl => match us, hl with | [_], _ => rfl
  have FDlaw := fun_mk (st := sLaw) lDlaw dDlaw kDlaw
  have m_len := PySem.W.mg_none_of X G z_len
  have m_int := PySem.W.mg_none_of X G z_int
  have m_range := PySem.W.mg_none_of X G z_range
  have m_tuple := PySem.W.mg_none_of X G z_tuple
  have m_list := PySem.W.mg_none_of X G z_list
  have m_zip := PySem.W.mg_none_of X G z_zip
  have m_enumerate := PySem.W.mg_none_of X G z_enumerate
  have m_min := PySem.W.mg_none_of X G z_min
  have m_max := PySem.W.mg_none_of X G z_max
  have m_any := PySem.W.mg_none_of X G z_any
  have m_all := PySem.W.mg_none_of X G z_all
  have m_isinstance := PySem.W.mg_none_of X G z_isinstance
  have m_bool := PySem.W.mg_none_of X G z_bool
  have m_str := PySem.W.mg_none_of X G z_str
  have g_MOST_MARK := PySem.W.mg_of X G gMOST_MARK
  have g_MOST_PEGS := PySem.W.mg_of X G gMOST_PEGS
  have g_MOST_FIGURES := PySem.W.mg_of X G gMOST_FIGURES
  have g_FIGURES := PySem.W.mg_of X G gFIGURES
  have mDbox := PySem.W.mg_of X G aDbox
  have mDtake := PySem.W.mg_of X G aDtake
  have mDshuf := PySem.W.mg_of X G aDshuf
  have mDties := PySem.W.mg_of X G aDties
  have mDmarks := PySem.W.mg_of X G aDmarks
  have mDplain := PySem.W.mg_of X G aDplain
  have mDren := PySem.W.mg_of X G aDren
  have mDturn := PySem.W.mg_of X G aDturn
  have mDcov := PySem.W.mg_of X G aDcov
  have mDweb := PySem.W.mg_of X G aDweb
  have mDalike := PySem.W.mg_of X G aDalike
  have mDback := PySem.W.mg_of X G aDback
  have mDwrong := PySem.W.mg_of X G aDwrong
  have mDreach := PySem.W.mg_of X G aDreach
  have mDlook := PySem.W.mg_of X G aDlook
  have mDfig := PySem.W.mg_of X G aDfig
  have mDnum := PySem.W.mg_of X G aDnum
  have mDpeg := PySem.W.mg_of X G aDpeg
  have mDhnd := PySem.W.mg_of X G aDhnd
  have mDrdw := PySem.W.mg_of X G aDrdw
  have mDshh := PySem.W.mg_of X G aDshh
  have mDshw := PySem.W.mg_of X G aDshw
  have mDlwt := PySem.W.mg_of X G aDlwt
  have mDrig := PySem.W.mg_of X G aDrig
  have mDlaw := PySem.W.mg_of X G aDlaw
  refine ⟨PySem.W.fnOf "law" "law" (defArgs sLaw) (defBody sLaw) (defScope sLaw) .none kVDlaw dcDlaw pmDlaw anDlaw cdDlaw ctDlaw, fun s v => .of_eq rfl, fun base _ _ hCs hBM => ?_⟩
  have Gtake : FnOk l.prog w K mg base CX0 1 fDtake _ ["_law_box_here", "_law_wide"] spTake := ok_take FDtake
  have Ctake : FnAt l.prog w K mg base 1 "_law_take" ["_law_box_here", "_law_wide"] spTake := ⟨_, _, Gtake, bDtake, mDtake, kDtake⟩
  have Gshuf : FnOk l.prog w K mg base CX0 2 fDshuf _ ["_law_box_here", "_law_many"] spShuf := ok_shuf FDshuf Gtake bDtake mDtake kDtake m_range m_list
  have Cshuf : FnAt l.prog w K mg base 2 "_law_shuffled" ["_law_box_here", "_law_many"] spShuf := ⟨_, _, Gshuf, bDshuf, mDshuf, kDshuf⟩
  have DR : Dr l.prog w K mg base := ⟨⟨_, _, Gtake, bDtake, mDtake, kDtake⟩, ⟨_, _, Gshuf, bDshuf, mDshuf, kDshuf⟩, m_range, m_len, m_tuple, m_list, m_zip, m_enumerate, m_min, m_max⟩
  have Gbox : FnOk l.prog w K mg base CX0 1 fDbox _ ["_law_script", "_law_k"] (spBox K) := ok_box FDbox m_len m_int
  have Cbox : FnAt l.prog w K mg base 1 "_law_box" ["_law_script", "_law_k"] (spBox K) := ⟨_, _, Gbox, bDbox, mDbox, kDbox⟩
  have RS : Rais l.prog w K mg base CW := ⟨xcls_of xW, mtW, kpW, PySem.W.mg_of X G cW, ⟨fIW, _, oW, nW, ok_iw FIW (xcls_of xW) naWword naWat, bIW⟩⟩
  have Gmarks : FnOk l.prog w K mg base CX0 2 fDmarks _ ["_law_box_here", "_law_many"] spMarks := ok_marks FDmarks Gtake bDtake mDtake kDtake m_range
  have Cmarks : FnAt l.prog w K mg base 2 "_law_marks" ["_law_box_here", "_law_many"] spMarks := ⟨_, _, Gmarks, bDmarks, mDmarks, kDmarks⟩
  have Gties : FnOk l.prog w K mg base CX0 2 fDties _ ["_law_box_here", "_law_many", "_law_room"] spTies := ok_ties FDties Gtake bDtake mDtake kDtake m_range m_len
  have Cties : FnAt l.prog w K mg base 2 "_law_ties" ["_law_box_here", "_law_many", "_law_room"] spTies := ⟨_, _, Gties, bDties, mDties, kDties⟩
  have Gplain : FnOk l.prog w K mg base CX0 3 fDplain _ ["_law_box_here", "_law_most", "_law_room"] spPlain := ok_plain FDplain ⟨DR, ⟨_, _, Gmarks, bDmarks, mDmarks, kDmarks⟩, ⟨_, _, Gties, bDties, mDties, kDties⟩⟩
  have Cplain : FnAt l.prog w K mg base 3 "_law_plain_web" ["_law_box_here", "_law_most", "_law_room"] spPlain := ⟨_, _, Gplain, bDplain, mDplain, kDplain⟩
  have Gren : FnOk l.prog w K mg base CX0 1 fDren _ ["_law_web_here", "_law_row"] spRen := ok_ren FDren DR
  have Cren : FnAt l.prog w K mg base 1 "_law_renamed" ["_law_web_here", "_law_row"] spRen := ⟨_, _, Gren, bDren, mDren, kDren⟩
  have Gturn : FnOk l.prog w K mg base CX0 3 fDturn _ ["_law_box_here", "_law_web_here", "_law_sheets"] spTurn := ok_turn FDturn DR
  have Cturn : FnAt l.prog w K mg base 3 "_law_turnings" ["_law_box_here", "_law_web_here", "_law_sheets"] spTurn := ⟨_, _, Gturn, bDturn, mDturn, kDturn⟩
  have Gcov : FnOk l.prog w K mg base CX0 4 fDcov _ ["_law_box_here", "_law_web_here", "_law_sheets"] spCover := ok_cov FDcov ⟨DR, ⟨_, _, Gturn, bDturn, mDturn, kDturn⟩, ⟨_, _, Gren, bDren, mDren, kDren⟩⟩
  have Ccov : FnAt l.prog w K mg base 4 "_law_cover" ["_law_box_here", "_law_web_here", "_law_sheets"] spCover := ⟨_, _, Gcov, bDcov, mDcov, kDcov⟩
  have Gweb : FnOk l.prog w K mg base CX0 5 fDweb _ ["_law_box_here", "_law_most", "_law_room"] spPlain := ok_web FDweb ⟨DR, ⟨_, _, Gplain, bDplain, mDplain, kDplain⟩, ⟨_, _, Gcov, bDcov, mDcov, kDcov⟩⟩
  have Cweb : FnAt l.prog w K mg base 5 "_law_web" ["_law_box_here", "_law_most", "_law_room"] spPlain := ⟨_, _, Gweb, bDweb, mDweb, kDweb⟩
  have Galike : FnOk l.prog w K mg base CX0 6 fDalike _ ["_law_found", "_law_due"] (spAlikeD 6) := ok_alike FDalike bDalike mDalike kDalike m_isinstance m_list m_tuple m_bool m_len m_all m_zip 6
  have Calike : FnAt l.prog w K mg base 6 "_law_alike" ["_law_found", "_law_due"] (spAlikeD 6) := ⟨_, _, Galike, bDalike, mDalike, kDalike⟩
  have Gback : FnOk l.prog w K mg base CX0 1 fDback _ ["web", "hand", "peg"] spBack := ok_back FDback m_len
  have Cback : FnAt l.prog w K mg base 1 "leads_back" ["web", "hand", "peg"] spBack := ⟨_, _, Gback, bDback, mDback, kDback⟩
  have Gwrong : FnOk l.prog w K mg base CX0 2 fDwrong _ ["web", "hand"] spWrong := ok_wrong FDwrong Gback bDback mDback kDback m_len m_range g_MOST_MARK ⟨_, rfl⟩ g_MOST_PEGS ⟨_, rfl⟩
  have Cwrong : FnAt l.prog w K mg base 2 "wrong_word" ["web", "hand"] spWrong := ⟨_, _, Gwrong, bDwrong, mDwrong, kDwrong⟩
  have Greach : FnOk l.prog w K mg base CX0 1 fDreach _ ["web"] spReach := ok_reach FDreach m_len
  have Creach : FnAt l.prog w K mg base 1 "reached" ["web"] spReach := ⟨_, _, Greach, bDreach, mDreach, kDreach⟩
  have Glook : FnOk l.prog w K mg base CX0 3 fDlook _ ["web"] spLookG := ok_lookG (ok_look FDlook Gwrong bDwrong mDwrong kDwrong Greach bDreach mDreach kDreach m_len m_range m_enumerate RS)
  have Clook : FnAt l.prog w K mg base 3 "look" ["web"] spLookG := ⟨_, _, Glook, bDlook, mDlook, kDlook⟩
  have hm : (cT, T) ∈ [("are_figures" : Str)].filterMap (PySem.W.tabIn K) := List.mem_filterMap.mpr ⟨_, List.mem_singleton.mpr rfl, ht⟩
  have Gfig : FnOk l.prog w K mg base CX0 2 fDfig _ ["text"] (spFig T) := ok_fig FDfig (PySem.W.law_code X G ht mDfig (X _ _ lDfig) rfl) (hCs _ hm) hBM m_len m_any g_FIGURES ⟨_, rfl⟩
  have Cfig : FnAt l.prog w K mg base 2 "are_figures" ["text"] (spFig T) := ⟨_, _, Gfig, bDfig, mDfig, kDfig⟩
  have Gnum : FnOk l.prog w K mg base CX0 3 fDnum _ ["text", "most_figures"] (spNum T) := ok_num FDnum DR m_int Cfig
  have Cnum : FnAt l.prog w K mg base 3 "read_number" ["text", "most_figures"] (spNum T) := ⟨_, _, Gnum, bDnum, mDnum, kDnum⟩
  have Gpeg : FnOk l.prog w K mg base CX0 4 fDpeg _ ["word"] (spPeg T) := ok_peg FDpeg DR g_MOST_FIGURES ⟨_, rfl⟩ Cnum
  have Cpeg : FnAt l.prog w K mg base 4 "read_peg" ["word"] (spPeg T) := ⟨_, _, Gpeg, bDpeg, mDpeg, kDpeg⟩
  have Ghnd : FnOk l.prog w K mg base CX0 5 fDhnd _ ["row"] (spHnd T) := ok_hnd FDhnd DR g_MOST_FIGURES ⟨_, rfl⟩ Cnum Cpeg
  have Chnd : FnAt l.prog w K mg base 5 "read_hand" ["row"] (spHnd T) := ⟨_, _, Ghnd, bDhnd, mDhnd, kDhnd⟩
  have Grdw : FnOk l.prog w K mg base CX0 6 fDrdw _ ["text"] (spRdw T) := ok_rdw FDrdw DR Chnd Clook
  have Crdw : FnAt l.prog w K mg base 6 "read_web" ["text"] (spRdw T) := ⟨_, _, Grdw, bDrdw, mDrdw, kDrdw⟩
  have Gshh : FnOk l.prog w K mg base CX0 1 fDshh _ ["mark", "pegs"] spShH := ok_shh FDshh DR m_str
  have Cshh : FnAt l.prog w K mg base 1 "show_hand" ["mark", "pegs"] spShH := ⟨_, _, Gshh, bDshh, mDshh, kDshh⟩
  have Gshw : FnOk l.prog w K mg base CX0 2 fDshw _ ["web"] spShW := ok_shw FDshw DR Cshh
  have Cshw : FnAt l.prog w K mg base 2 "show_web" ["web"] spShW := ⟨_, _, Gshw, bDshw, mDshw, kDshw⟩
  have Glwt : FnOk l.prog w K mg base CX0 1 fDlwt _ ["_law_web_here"] spShW := ok_lwt FDlwt DR m_str
  have Clwt : FnAt l.prog w K mg base 1 "_law_web_text" ["_law_web_here"] spShW := ⟨_, _, Glwt, bDlwt, mDlwt, kDlwt⟩
  have Grig : FnOk l.prog w K mg base CX0 7 fDrig _ ["_law_web_here"] (spRig T) := ok_rig FDrig DR m_isinstance m_str Cshw Clwt Crdw Calike
  have Crig : FnAt l.prog w K mg base 7 "_law_right" ["_law_web_here"] (spRig T) := ⟨_, _, Grig, bDrig, mDrig, kDrig⟩
  exact ok_law hm FDlaw DR m_all Cbox Cplain Cweb Crig
theorem walk {l : PySem.W.OpenLaw} {q : Program} {loose : List Str} {XP : (Str → Option Value) → Heap → Prop} {YP : World → Heap → Prop} {d : DefRec} {K : Params → PySem.W.Frag} (hn : l.most = some 63) (hdf : d.params.defaults = [])
    (hY : ∀ (w : World) (h : Heap), YP w h → (K w.params).In h)
    (hx : ∀ y ∈ [("are_figures" : Str)], ∃ d', (PyProof.Rows.recsOf q).find? (fun e => e.name == y) = some d') (hnt : ∀ p, PySem.W.noTabs (K p) = true)
    (F : ∀ (w : World) (mg : Str → Option Value) (fa : Addr) (h : Heap), (K w.params).In h → h.Ns mainGlobals mg → mg d.name = some (.ref fa) →
      ∃ fd : FuncData, (∀ (s : Shared) (u : Value), BindsTo s fd ⟨[u], []⟩ [("_law_script", u)]) ∧ ∀ base : Heap, (K w.params).In base → base.Ns mainGlobals mg → (∀ t ∈ ([("are_figures" : Str)].filterMap (PySem.W.tabIn (K w.params))), PySem.W.CodeHd base t.1 t.2) → BltMod base mg → FnOk l.prog w (K w.params) mg base CX0 8 fa fd ["_law_script"] (spLaw (K w.params) ([("are_figures" : Str)].filterMap (PySem.W.tabIn (K w.params))))) :
    PySem.W.WalkO q loose XP YP l.row.toRowW d [] (fun f vs => PySem.call f vs) :=
  L2.walk_ofX (n := 63) (k := 8) (x := "_law_script") (sp := spLaw) ["are_figures"] hn (by decide) hdf ⟨rfl, rfl, by decide, by decide⟩ hY hx hnt F (fun _ _ _ a ns hl _ ht hS => ⟨a, ns, rfl, hS, hl, ht, fun _ => rfl⟩)
end NH
open PySem PySem.W PyProof.Rows
set_option maxRecDepth 100000 in
set_option maxHeartbeats 0 in
theorem PySem.Challenge.cw_namelesshall_k04_webs_as_texts_holds : PySem.Challenge.rw_namelesshall_k04_webs_as_texts.Holds := by
  w_on; o_law; k_head; (case hw => w_witness2)
  k_fill
  refine NH.walk (l := PySem.Challenge.rw_namelesshall_k04_webs_as_texts) rfl rfl (fun w h Y => PySem.W.kIn_of Y) ?hx ?hnt ?F
  case hx => intro y hy; cases List.mem_singleton.mp hy; exact ⟨_, rfl⟩
  case hnt => intro p; rfl
  case F =>
    intro w mg fa h KX G hmg
    refine' NH.all_mk KX G hmg ?cW ?xW ?kpW ?mtW ?naWword ?naWat ?aIW ?lIW ?dIW ?kIW ?oW ?nW ?z_len ?z_int ?z_range ?z_tuple ?z_list ?z_zip ?z_enumerate ?z_min ?z_max ?z_any ?z_all ?z_isinstance ?z_bool ?z_str ?gMOST_MARK ?gMOST_PEGS ?gMOST_FIGURES ?gFIGURES ?aDbox ?lDbox ?dDbox ?kDbox ?aDtake ?lDtake ?dDtake ?kDtake ?aDshuf ?lDshuf ?dDshuf ?kDshuf ?aDties ?lDties ?dDties ?kDties ?aDmarks ?lDmarks ?dDmarks ?kDmarks ?aDplain ?lDplain ?dDplain ?kDplain ?aDren ?lDren ?dDren ?kDren ?aDturn ?lDturn ?dDturn ?kDturn ?aDcov ?lDcov ?dDcov ?kDcov ?aDweb ?lDweb ?dDweb ?kDweb ?aDalike ?lDalike ?dDalike ?kDalike ?aDback ?lDback ?dDback ?kDback ?aDwrong ?lDwrong ?dDwrong ?kDwrong ?aDreach ?lDreach ?dDreach ?kDreach ?aDlook ?lDlook ?dDlook ?kDlook ?aDfig ?lDfig ?dDfig ?kDfig ?aDnum ?lDnum ?dDnum ?kDnum ?aDpeg ?lDpeg ?dDpeg ?kDpeg ?aDhnd ?lDhnd ?dDhnd ?kDhnd ?aDrdw ?lDrdw ?dDrdw ?kDrdw ?aDshh ?lDshh ?dDshh ?kDshh ?aDshw ?lDshw ?dDshw ?kDshw ?aDlwt ?lDlwt ?dDlwt ?kDlwt ?aDrig ?lDrig ?dDrig ?kDrig ?aDlaw ?lDlaw ?dDlaw ?kDlaw ?ht
    (case cW => k_is)
    (case xW => kernel_rfl)
    (case kpW => k_is)
    (case mtW => kernel_rfl)
    (case naWword => k_is)
    (case naWat => k_is)
    (case aIW => k_is)
    (case lIW => k_is)
    (case dIW => k_is)
    (case kIW => k_is)
    (case oW => kernel_rfl)
    (case nW => k_is)
    (case z_len => k_is)
    (case z_int => k_is)
    (case z_range => k_is)
    (case z_tuple => k_is)
    (case z_list => k_is)
    (case z_zip => k_is)
    (case z_enumerate => k_is)
    (case z_min => k_is)
    (case z_max => k_is)
    (case z_any => k_is)
    (case z_all => k_is)
    (case z_isinstance => k_is)
    (case z_bool => k_is)
    (case z_str => k_is)
    (case gMOST_MARK => k_is)
    (case gMOST_PEGS => k_is)
    (case gMOST_FIGURES => k_is)
    (case gFIGURES => k_is)
    (case aDbox => k_is)
    (case lDbox => k_is)
    (case dDbox => k_is)
    (case kDbox => k_is)
    (case aDtake => k_is)
    (case lDtake => k_is)
    (case dDtake => k_is)
    (case kDtake => k_is)
    (case aDshuf => k_is)
    (case lDshuf => k_is)
    (case dDshuf => k_is)
    (case kDshuf => k_is)
    (case aDties => k_is)
    (case lDties => k_is)
    (case dDties => k_is)
    (case kDties => k_is)
    (case aDmarks => k_is)
    (case lDmarks => k_is)
    (case dDmarks => k_is)
    (case kDmarks => k_is)
    (case aDplain => k_is)
    (case lDplain => k_is)
    (case dDplain => k_is)
    (case kDplain => k_is)
    (case aDren => k_is)
    (case lDren => k_is)
    (case dDren => k_is)
    (case kDren => k_is)
    (case aDturn => k_is)
    (case lDturn => k_is)
    (case dDturn => k_is)
    (case kDturn => k_is)
    (case aDcov => k_is)
    (case lDcov => k_is)
    (case dDcov => k_is)
    (case kDcov => k_is)
    (case aDweb => k_is)
    (case lDweb => k_is)
    (case dDweb => k_is)
    (case kDweb => k_is)
    (case aDalike => k_is)
    (case lDalike => k_is)
    (case dDalike => k_is)
    (case kDalike => k_is)
    (case aDback => k_is)
    (case lDback => k_is)
    (case dDback => k_is)
    (case kDback => k_is)
    (case aDwrong => k_is)
    (case lDwrong => k_is)
    (case dDwrong => k_is)
    (case kDwrong => k_is)
    (case aDreach => k_is)
    (case lDreach => k_is)
    (case dDreach => k_is)
    (case kDreach => k_is)
    (case aDlook => k_is)
    (case lDlook => k_is)
    (case dDlook => k_is)
    (case kDlook => k_is)
    (case aDfig => k_is)
    (case lDfig => k_is)
    (case dDfig => k_is)
    (case kDfig => k_is)
    (case aDnum => k_is)
    (case lDnum => k_is)
    (case dDnum => k_is)
    (case kDnum => k_is)
    (case aDpeg => k_is)
    (case lDpeg => k_is)
    (case dDpeg => k_is)
    (case kDpeg => k_is)
    (case aDhnd => k_is)
    (case lDhnd => k_is)
    (case dDhnd => k_is)
    (case kDhnd => k_is)
    (case aDrdw => k_is)
    (case lDrdw => k_is)
    (case dDrdw => k_is)
    (case kDrdw => k_is)
    (case aDshh => k_is)
    (case lDshh => k_is)
    (case dDshh => k_is)
    (case kDshh => k_is)
    (case aDshw => k_is)
    (case lDshw => k_is)
    (case dDshw => k_is)
    (case kDshw => k_is)
    (case aDlwt => k_is)
    (case lDlwt => k_is)
    (case dDlwt => k_is)
    (case kDlwt => k_is)
    (case aDrig => k_is)
    (case lDrig => k_is)
    (case dDrig => k_is)
    (case kDrig => k_is)
    (case aDlaw => k_is)
    (case lDlaw => k_is)
    (case dDlaw => k_is)
    (case kDlaw => k_is)
    (case ht => rfl)