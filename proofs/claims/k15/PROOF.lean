import PyProof.Rows.All
import Wide.All
import OpenK.AllK
import Wide.FinOn
import PyProof.EqAt
import PyProof.EqKinds
import PyProof.TupleCall
import KE.BitLaws
import PyProof.ExcInit
import PyProof.InstStoreFacts
import PyProof.ExcBaseAll.ValueError
import PyProof.ExcArgsOwn
import PyProof.NsDelKeeps
import PyProof.RulesAs
import PyProof.ReprRoads
import PyProof.IsiH_set
import PyProof.SumWalkG
import PyProof.WalksMore
import PyProof.ZipIter
import PyProof.NeKinds
import KE.KEqDict
import PyProof.ListRange
import PyProof.TupleOfSeq
import PyProof.Rows.TupAdd
import KE.KRevIter
import KE.KRevSl
import PyProof.FactsAll.range_2
import KE.KNest
import PySem.Challenge.RW_splitseed_k15_refusals_apart
set_option Elab.async false
set_option linter.all false
set_option maxRecDepth 100000

namespace L2
open PySem PySem.Spec PyProof.Rows

/-- a key: an int or a str -/
abbrev Key := Sum Int Str
def keyIs : Key → Value → Bool
  | .inl k, v => Value.isInt k v
  | .inr x, v => Value.isStrOf x v
def keyH (w : World) : Key → Int
  | .inl k => hashInt k
  | .inr x => hashStr w x
theorem keyIs_shape : ∀ {k : Key} {v : Value}, keyIs k v = true → (∃ i t, k = Sum.inl i ∧ v = Value.int i t) ∨ (∃ x t, k = Sum.inr x ∧ v = Value.str x t)
  | .inl i, v, h => by
    obtain ⟨t, e⟩ := Value.isInt_shape (k := i) (v := v) h
    exact .inl ⟨i, t, rfl, e⟩
  | .inr x, v, h => by
    obtain ⟨t, e⟩ := Value.isStrOf_shape (x := x) (v := v) h
    exact .inr ⟨x, t, rfl, e⟩
theorem keyIs_int (i : Int) (t : Tok) : keyIs (.inl i) (.int i t) = true := by simp [keyIs, Value.isInt]
theorem keyIs_str (x : Str) (t : Tok) : keyIs (.inr x) (.str x t) = true := by simp [keyIs, Value.isStrOf]
theorem key_ll (a b : Int) : decide ((Sum.inl a : Key) = Sum.inl b) = (a == b) := by
  by_cases e : a = b
  · subst e; simp
  · have h : ¬ (Sum.inl a : Key) = Sum.inl b := fun q => e (Sum.inl.inj q)
    rw [decide_eq_false h]
    exact (beq_eq_false_iff_ne.mpr e).symm
theorem key_rr (a b : Str) : decide ((Sum.inr a : Key) = Sum.inr b) = decide (a = b) := by
  by_cases e : a = b
  · subst e; simp
  · have h : ¬ (Sum.inr a : Key) = Sum.inr b := fun q => e (Sum.inr.inj q)
    rw [decide_eq_false h, decide_eq_false e]
theorem key_lr (a : Int) (b : Str) : decide ((Sum.inl a : Key) = Sum.inr b) = false := decide_eq_false (fun q => nomatch q)
theorem key_rl (a : Str) (b : Int) : decide ((Sum.inr a : Key) = Sum.inl b) = false := decide_eq_false (fun q => nomatch q)

def mixKind (prog : Program) (w : World) : PySem.KeyKind prog w Key where
  is := keyIs
  hash := keyH w
  inj := fun v a b ha hb => by
    rcases keyIs_shape ha with ⟨i, t, rfl, rfl⟩ | ⟨x, t, rfl, rfl⟩
    · rcases keyIs_shape hb with ⟨j, u, rfl, e⟩ | ⟨y, u, rfl, e⟩
      · injection e with e1 _; rw [e1]
      · exact nomatch e
    · rcases keyIs_shape hb with ⟨j, u, rfl, e⟩ | ⟨y, u, rfl, e⟩
      · exact nomatch e
      · injection e with e1 _; rw [e1]
  byValue := fun k v h => by
    rcases keyIs_shape h with ⟨i, t, rfl, rfl⟩ | ⟨x, t, rfl, rfl⟩ <;> rfl
  pyHash := fun hv h => by
    rcases keyIs_shape hv with ⟨i, t, rfl, rfl⟩ | ⟨x, t, rfl, rfl⟩
    · exact wpAny_pyHash_int h
    · exact wpAny_pyHash_str h
  eqBool := fun hu hv h => by
    rcases keyIs_shape hu with ⟨i, t, rfl, rfl⟩ | ⟨x, t, rfl, rfl⟩
    · rcases keyIs_shape hv with ⟨j, u, rfl, rfl⟩ | ⟨y, u, rfl, rfl⟩
      · rw [key_ll] at h; exact wpAny_eqBool_int h
      · rw [key_lr] at h; exact SeqAt.EqAt.int_str i t y u _ _ _ _ h
    · rcases keyIs_shape hv with ⟨j, u, rfl, rfl⟩ | ⟨y, u, rfl, rfl⟩
      · rw [key_rl] at h; exact SeqAt.EqAt.str_int x t j u _ _ _ _ h
      · rw [key_rr] at h; exact wpAny_eqBool_str h
  «strs» := fun k x t v h => by
    rcases keyIs_shape h with ⟨i, u, rfl, e⟩ | ⟨y, u, rfl, e⟩
    · exact nomatch e
    · injection e with e1 _
      subst e1
      cases v <;> rfl

theorem mixKind_int (prog : Program) (w : World) (i : Int) (t : Tok) : (mixKind prog w).is (.inl i) (.int i t) = true := keyIs_int i t
theorem mixKind_str (prog : Program) (w : World) (x : Str) (t : Tok) : (mixKind prog w).is (.inr x) (.str x t) = true := keyIs_str x t
end L2

namespace L2
open PySem PySem.Spec PyProof.Rows

/-- a value, without the heap -/
inductive V where
  | non | bl (b : Bool) | int (i : Int) | str (x : Str) | byt (b : Array UInt8) | flt (b : UInt64) | ref (a : Addr) | ty (n : String)
  deriving DecidableEq

def RelV : V → Value → Prop
  | .non, u => u = Value.none
  | .bl b, u => u = Value.bool b
  | .int i, u => ∃ t, u = Value.int i t
  | .str x, u => ∃ t, u = Value.str x t
  | .byt b, u => ∃ t, u = Value.bytes b t
  | .flt b, u => ∃ t, u = Value.float b t
  | .ref a, u => u = Value.ref a
  | .ty n, u => u = Value.type n

abbrev Vals : List V → List Value → Prop := Paired RelV
theorem Vals.length {xs : List V} {us : List Value} (r : Vals xs us) : xs.length = us.length := Paired.length r
theorem Vals.get : ∀ {xs : List V} {us : List Value} {i : Nat} {x : V}, Vals xs us → xs[i]? = some x → ∃ u, us[i]? = some u ∧ RelV x u
  | _, _, _, _, .nil, e => by simp at e
  | _, _, 0, _, .cons r _, e => by simp at e; subst e; exact ⟨_, rfl, r⟩
  | _, _, i + 1, x, .cons _ t, e => by
    obtain ⟨u, h1, h2⟩ := Vals.get (i := i) (x := x) t (by simpa using e)
    exact ⟨u, by simpa using h1, h2⟩
theorem Vals.set {x : V} {u : Value} (r : RelV x u) : ∀ {xs : List V} {us : List Value} (i : Nat), Vals xs us → Vals (xs.set i x) (us.set i u)
  | _, _, _, .nil => .nil
  | _, _, 0, .cons _ t => .cons r t
  | _, _, i + 1, .cons q t => .cons q (Vals.set r i t)
theorem Vals.append : ∀ {xs ys : List V} {us ws : List Value}, Vals xs us → Vals ys ws → Vals (xs ++ ys) (us ++ ws)
  | _, _, _, _, .nil, s => s
  | _, _, _, _, .cons r t, s => .cons r (Vals.append t s)
theorem Vals.take : ∀ {xs : List V} {us : List Value} (n : Nat), Vals xs us → Vals (xs.take n) (us.take n)
  | _, _, 0, _ => .nil
  | _, _, _ + 1, .nil => .nil
  | _, _, n + 1, .cons r t => .cons r (Vals.take n t)
theorem Vals.drop : ∀ {xs : List V} {us : List Value} (n : Nat), Vals xs us → Vals (xs.drop n) (us.drop n)
  | _, _, 0, r => r
  | _, _, _ + 1, .nil => .nil
  | _, _, n + 1, .cons _ t => Vals.drop n t
def RelO : Option V → Option Value → Prop
  | some v, some u => RelV v u
  | none, none => True
  | _, _ => False
def KV {κ : Type} : List (κ × V) → List (κ × Value) → Prop := Paired fun (p : κ × V) (q : κ × Value) => p.1 = q.1 ∧ RelV p.2 q.2

/-- a key of a dict (00_mix): an int or a text -/
def kV : Key → V
  | .inl i => .int i
  | .inr x => .str x

/-- what stands at a tracked address -/
inductive HO where
  /-- a list -/
  | lst (xs : List V)
  /-- a tuple (never changes) -/
  | tup (xs : List V)
  /-- a dict whose keys are ints and texts; one whose keys are tuples of ints and texts (the empty one is both) -/
  | dK (kvs : List (Key × V)) | dT (kvs : List (List Key × V))
  /-- a set of ints: its members, its size -/
  | set (S : Int → Bool) (n : Nat)
  /-- an instance of the class at C, its dict at dx, its attributes -/
  | ins (C dx : Addr) (fs : List (Str × V))
  /-- the dict of the instance at x -/
  | own (x : Addr)
  /-- the dict of an exception -/
  | xd (fs : List (Str × V))
  /-- a bound method, f of x -/
  | met (f x : Addr)
  /-- a range object lo, lo + 1, .. below hi -/
  | rng (lo hi : Int)
  /-- a thing that is known to the object (the script; a dict while a loop walks it): read, never written while it is so -/
  | frz (o : Obj) (u : HO)
  /-- a code object's table -/
  | tbl (ps : Array Value)
  /-- any other thing, by what is true of its one object (a def of one's own: SetO a S n := HO.ext fun h => ..) -/
  | ext (φ : Heap → Prop)

abbrev Hp := Addr → Option HO
def upd (H : Hp) (a : Addr) (o : HO) : Hp := fun b => if b = a then some o else H b
theorem upd_same {H : Hp} {a : Addr} {o : HO} : upd H a o a = some o := by unfold upd; rw [if_pos rfl]
theorem upd_ne {H : Hp} {a b : Addr} {o : HO} (h : b ≠ a) : upd H a o b = H b := by unfold upd; rw [if_neg h]
theorem upd_upd {H : Hp} {a : Addr} {o u : HO} : upd (upd H a o) a u = upd H a u := by
  funext b; unfold upd; split <;> rfl
/-- two objects of different content stand apart -/
theorem ne_of {H : Hp} {a b : Addr} {o u : HO} (h : H a = some o) (h' : H b = some u) (d : o ≠ u) : a ≠ b := by
  intro e; subst e; rw [h] at h'; exact d (Option.some.inj h')
theorem ne_of_none {H : Hp} {a b : Addr} {o : HO} (h : H a = some o) (h' : H b = none) : a ≠ b := by
  intro e; subst e; rw [h] at h'; cases h'

section
variable (P : Program) (w : World)
def ObjOk (H : Hp) (h : Heap) (a : Addr) : HO → Prop
  | .lst xs => xs.length ≤ sizeLine ∧ ∃ (its : List Value) (n : Nat), Vals xs its ∧ h.get? a = some { cls := .type "list", data := .seq its.toArray n }
  | .tup xs => xs.length ≤ sizeLine ∧ ∃ its : List Value, Vals xs its ∧ IsTup h a its.toArray
  | .dK kvs => kvs.length ≤ sizeLine ∧ (a == sysModules) = false ∧ ∃ vs, KV kvs vs ∧ h.DictOf (mixKind P w) a vs
  | .dT kvs => kvs.length ≤ sizeLine ∧ (a == sysModules) = false ∧ ∃ xs : List (List Key × Addr × Value),
      Paired (fun (p : List Key × V) (q : List Key × Addr × Value) => p.1 = q.1 ∧ H q.2.1 = some (.tup (p.1.map kV)) ∧ RelV p.2 q.2.2) kvs xs ∧
      ∃ o es ep, h.get? a = some o ∧ o.ExactDict ∧ o.data = .dict es ep ∧ es.toList = xs.map (entryOfKey (tupleKind (mixKind P w))) ∧ (xs.map (·.1)).Nodup
  | .set S n => h.SetOf (intKind P w) a S n
  | .ins C dx fs => H dx = some (.own a) ∧ fs.length ≤ 1000 ∧ dx ≠ a ∧ h.get? a = some (PySem.W.instObj C dx) ∧
      ∃ mA, h.Ns1 dx mA ∧ (∀ f, RelO (fs.lookup f) (mA f)) ∧ PySem.Within mA (fs.map (·.1))
  | .own _ => ∃ o, h.get? a = some o
  | .xd fs => ∃ mA, h.Ns1 a mA ∧ ∀ f, RelO (fs.lookup f) (mA f)
  | .rng lo hi => ∃ t u v, h.get? a = some { cls := .type "range", data := .fields #[.int lo t, .int hi u, .int 1 v] }
  | .frz o u => h.get? a = some o ∧ ObjOk H h a u
  | .tbl ps => h.get? a = some { cls := .none, data := .fields ps }
  | .met f x => h.get? a = some (PySem.W.methodObj (.ref f) (.ref x))
  | .ext φ => φ h ∧ (∃ o, h.get? a = some o) ∧ ∀ h1 h2 : Heap, φ h1 → (∀ o, h1.get? a = some o → h2.get? a = some o) → φ h2
/-- the abstract heap is held -/
def HOk (H : Hp) (h : Heap) : Prop := ∀ a o, H a = some o → ObjOk P w H h a o
end

section
variable {P : Program} {w : World} {H H' : Hp} {h h' : Heap} {a : Addr} {o : HO}
theorem ObjOk.lt (x : ObjOk P w H h a o) : a < h.objs.size := by
  cases o with
  | lst xs => obtain ⟨_, _, _, _, e⟩ := x; exact Heap.lt_size e
  | tup xs => obtain ⟨_, _, _, p⟩ := x; exact p.lt
  | dK kvs => obtain ⟨_, _, _, _, o, _, _, e, _⟩ := x; exact Heap.lt_size e
  | dT kvs => obtain ⟨_, _, _, _, o, _, _, e, _⟩ := x; exact Heap.lt_size e
  | set S n => obtain ⟨o, _, _, _, e, _⟩ := x; exact Heap.lt_size e
  | ins C dx fs => obtain ⟨_, _, _, e, _⟩ := x; exact Heap.lt_size e
  | own y => obtain ⟨_, e⟩ := x; exact Heap.lt_size e
  | xd fs => obtain ⟨_, ⟨_, _, _, e, _⟩, _⟩ := x; exact Heap.lt_size e
  | rng lo hi => obtain ⟨_, _, _, e⟩ := x; exact Heap.lt_size e
  | frz ob u => obtain ⟨e, _⟩ := x; exact Heap.lt_size e
  | tbl ps => exact Heap.lt_size (show h.get? a = some _ from x)
  | met f y => exact Heap.lt_size (show h.get? a = some _ from x)
  | ext φ => obtain ⟨_, ⟨_, e⟩, _⟩ := x; exact Heap.lt_size e
theorem Paired.mapP {α β : Type} {F G : α → β → Prop} : ∀ {l₁ : List α} {l₂ : List β}, Paired F l₁ l₂ → (∀ a b, F a b → G a b) → Paired G l₁ l₂
  | _, _, .nil, _ => .nil
  | _, _, .cons r t, f => .cons (f _ _ r) (Paired.mapP t f)
/-- what an object's description leans on: its own object, its own dict, the tuples -/
theorem ObjOk.stay (x : ObjOk P w H h a o) (k : ∀ b u, (b = a ∨ H b = some (.own a)) → h.get? b = some u → h'.get? b = some u)
    (ho : ∀ b, H b = some (.own a) → H' b = some (.own a)) (ht : ∀ b xs, H b = some (.tup xs) → H' b = some (.tup xs)) : ObjOk P w H' h' a o := by
  induction o with
  | lst xs => obtain ⟨z, its, n, r, e⟩ := x; exact ⟨z, its, n, r, k _ _ (.inl rfl) e⟩
  | tup xs => obtain ⟨z, its, r, ob, e, c⟩ := x; exact ⟨z, its, r, ob, k _ _ (.inl rfl) e, c⟩
  | dK kvs => obtain ⟨z, y, vs, r, ob, es, ep, e, c⟩ := x; exact ⟨z, y, vs, r, ob, es, ep, k _ _ (.inl rfl) e, c⟩
  | dT kvs =>
    obtain ⟨z, y, xs, r, ob, es, ep, e, c⟩ := x
    exact ⟨z, y, xs, Paired.mapP r fun p q z => ⟨z.1, ht _ _ z.2.1, z.2.2⟩, ob, es, ep, k _ _ (.inl rfl) e, c⟩
  | set S n => obtain ⟨ob, es, ep, t, e, c⟩ := x; exact ⟨ob, es, ep, t, k _ _ (.inl rfl) e, c⟩
  | ins C dx fs =>
    obtain ⟨d, z, ne, e, mA, ⟨od, es, ep, e2, c⟩, r⟩ := x
    exact ⟨ho _ d, z, ne, k _ _ (.inl rfl) e, mA, ⟨od, es, ep, k _ _ (.inr d) e2, c⟩, r⟩
  | own y => obtain ⟨ob, e⟩ := x; exact ⟨ob, k _ _ (.inl rfl) e⟩
  | xd fs => obtain ⟨mA, ⟨od, es, ep, e, c⟩, r⟩ := x; exact ⟨mA, ⟨od, es, ep, k _ _ (.inl rfl) e, c⟩, r⟩
  | rng lo hi => obtain ⟨t, u, v, e⟩ := x; exact ⟨t, u, v, k _ _ (.inl rfl) e⟩
  | frz ob u ih => obtain ⟨e, q⟩ := x; exact ⟨k _ _ (.inl rfl) e, ih q⟩
  | tbl ps =>
    have e : h.get? a = some { cls := .none, data := .fields ps } := x
    show h'.get? a = some { cls := .none, data := .fields ps }
    exact k a _ (.inl rfl) e
  | met f y =>
    have e : h.get? a = some (PySem.W.methodObj (.ref f) (.ref y)) := x
    show h'.get? a = some (PySem.W.methodObj (.ref f) (.ref y))
    exact k a _ (.inl rfl) e
  | ext φ => obtain ⟨p, ⟨o, e⟩, st⟩ := x; exact ⟨st _ _ p fun o q => k _ _ (.inl rfl) q, ⟨o, k _ _ (.inl rfl) e⟩, st⟩
theorem HOk.lt (x : HOk P w H h) (e : H a = some o) : a < h.objs.size := (x a o e).lt
theorem HOk.fresh (x : HOk P w H h) (e : h.objs.size ≤ a) : H a = none := by
  cases q : H a with
  | none => rfl
  | some u => exact absurd (Nat.lt_of_lt_of_le (x.lt q) e) (Nat.lt_irrefl _)
/-- every object of the heap is kept -/
theorem HOk.kept (x : HOk P w H h) (k : ∀ b u, h.get? b = some u → h'.get? b = some u) : HOk P w H h' := fun a o e =>
  (x a o e).stay (fun b u _ q => k b u q) (fun _ q => q) fun _ _ q => q
/-- a new object is laid and tracked -/
theorem HOk.laid (x : HOk P w H h) (k : ∀ b u, h.get? b = some u → h'.get? b = some u) (hp : h.objs.size ≤ a) (new : ObjOk P w (upd H a o) h' a o) : HOk P w (upd H a o) h' := fun b u e => by
  have hn := x.fresh hp
  by_cases hb : b = a
  · subst hb; rw [upd_same] at e; cases e; exact new
  · rw [upd_ne hb] at e
    exact (x b u e).stay (fun c v _ q => k c v q) (fun c q => by rw [upd_ne (ne_of_none q hn)]; exact q) fun c xs q => by rw [upd_ne (ne_of_none q hn)]; exact q
end

/-- what may be read as u: it is u, or a known u -/
def Rd (H : Hp) (a : Addr) (u : HO) : Prop := H a = some u ∨ ∃ o, H a = some (.frz o u)
theorem Rd.of {H : Hp} {a : Addr} {u : HO} (h : H a = some u) : Rd H a u := .inl h
theorem Rd.ok {P : Program} {w : World} {H : Hp} {h : Heap} {a : Addr} {u : HO} (r : Rd H a u) (x : HOk P w H h) : ObjOk P w H h a u := by
  rcases r with r | ⟨o, r⟩
  · exact x a u r
  · obtain ⟨_, q⟩ := x a _ r
    exact q
/-- what may be written -/
def Mut : Option HO → Prop
  | some (.lst _) => True
  | some (.dK _) => True
  | some (.dT _) => True
  | some (.set _ _) => True
  | some (.ins _ _ _) => True
  | some (.ext _) => True
  | _ => False
section
variable {P : Program} {w : World} {H : Hp} {h h' : Heap} {x e : Addr} {o' : HO}
/-- the object at e is changed: x itself, or the dict of the instance x -/
theorem HOk.write (ok : HOk P w H h) (mu : Mut (H x)) (he : e = x ∨ H e = some (.own x)) (k : ∀ b u, b ≠ e → h.get? b = some u → h'.get? b = some u) (heo : ∃ u, h'.get? e = some u)
    (new : ObjOk P w (upd H x o') h' x o') : HOk P w (upd H x o') h' := fun b u q => by
  have nown : ∀ c y, H c = some (.own y) → c ≠ x := fun c y r z => by subst z; rw [r] at mu; exact mu
  have ntup : ∀ c xs, H c = some (.tup xs) → c ≠ x := fun c xs r z => by subst z; rw [r] at mu; exact mu
  by_cases hb : b = x
  · subst hb; rw [upd_same] at q; cases q; exact new
  · rw [upd_ne hb] at q
    by_cases hbe : b = e
    · have q' : H b = some (.own x) := by
        rcases he with z | z
        · exact absurd (hbe.trans z) hb
        · rw [hbe]; exact z
      rw [q] at q'; cases q'
      obtain ⟨v, hv⟩ := heo
      exact ⟨v, by rw [hbe]; exact hv⟩
    · refine (ok b u q).stay (fun c v hc r => k c v ?_ r) (fun c r => by rw [upd_ne (nown c b r)]; exact r) fun c xs r => by rw [upd_ne (ntup c xs r)]; exact r
      rcases hc with rfl | hc
      · exact hbe
      · rintro rfl
        rcases he with z | z
        · exact nown c b hc z
        · rw [hc] at z; cases z; exact hb rfl
end


structure Un (fs ex : List Addr) (H H' : Hp) (h h' : Heap) : Prop where
  keep : ∀ b o, h.get? b = some o → H b = none → b ∉ fs → b ∉ ex → h'.get? b = some o
  slot : ∀ b o, h.get? b = some o → H b = none → b ∈ fs → b ∉ ex → ∃ sl, h'.get? b = some { o with slots := sl }
  free : ∀ b o, h.get? b = some o → H b = none → b ∉ ex → H' b = none
  there : ∀ b o, h.get? b = some o → b ∉ ex → ∃ o', h'.get? b = some o'
  tups : ∀ b xs, H b = some (.tup xs) → H' b = some (.tup xs)
  frzs : ∀ b o u, H b = some (.frz o u) → H' b = some (.frz o u)
  tbls : ∀ b ps, H b = some (.tbl ps) → ∃ more, H' b = some (.tbl (ps ++ more))
section
variable {fs fs' ex ex' : List Addr} {H H1 H2 : Hp} {h h1 h2 h' : Heap} {a x e : Addr} {o : HO}
theorem Un.any (u : Un fs ex H H1 h h1) {b : Addr} {ob : Obj} (q : h.get? b = some ob) (n : H b = none) (hx : b ∉ ex) : ∃ sl, h1.get? b = some { ob with slots := sl } := by
  by_cases hb : b ∈ fs
  · exact u.slot b ob q n hb hx
  · exact ⟨ob.slots, u.keep b ob q n hb hx⟩
theorem Un.trans (a : Un fs ex H H1 h h1) (b : Un fs ex H1 H2 h1 h2) : Un fs ex H H2 h h2 where
  keep := fun c ob q n hc hx => b.keep c ob (a.keep c ob q n hc hx) (a.free c ob q n hx) hc hx
  slot := fun c ob q n hc hx => by
    obtain ⟨sl, e1⟩ := a.slot c ob q n hc hx
    obtain ⟨sl', e2⟩ := b.slot c _ e1 (a.free c ob q n hx) hc hx
    exact ⟨sl', e2⟩
  free := fun c ob q n hx => by
    obtain ⟨o', e1⟩ := a.there c ob q hx
    exact b.free c o' e1 (a.free c ob q n hx) hx
  there := fun c ob q hx => by
    obtain ⟨o', e1⟩ := a.there c ob q hx
    exact b.there c o' e1 hx
  tups := fun c xs q => b.tups c xs (a.tups c xs q)
  frzs := fun c ob xs q => b.frzs c ob xs (a.frzs c ob xs q)
  tbls := fun c ps q => by
    obtain ⟨m1, e1⟩ := a.tbls c ps q
    obtain ⟨m2, e2⟩ := b.tbls c _ e1
    exact ⟨m1 ++ m2, by rw [e2, Array.append_assoc]⟩
theorem Un.kept (k : ∀ b u, h.get? b = some u → h'.get? b = some u) : Un fs ex H H h h' :=
  ⟨fun b ob q _ _ _ => k b ob q, fun b ob q _ _ _ => ⟨ob.slots, k b ob q⟩, fun _ _ _ n _ => n, fun b ob q _ => ⟨ob, k b ob q⟩, fun _ _ q => q, fun _ _ _ q => q, fun _ ps q => ⟨#[], by rw [q]; simp⟩⟩
theorem Un.refl : Un fs ex H H h h := Un.kept fun _ _ q => q
theorem Un.laid (k : ∀ b u, h.get? b = some u → h'.get? b = some u) (hp : h.objs.size ≤ a) (hn : H a = none) : Un fs ex H (upd H a o) h h' where
  keep := fun b u q _ _ _ => k b u q
  slot := fun b u q _ _ _ => ⟨u.slots, k b u q⟩
  free := fun b u q n _ => by rw [upd_ne (Nat.ne_of_lt (Nat.lt_of_lt_of_le (Heap.lt_size q) hp))]; exact n
  there := fun b u q _ => ⟨u, k b u q⟩
  tups := fun b xs q => by rw [upd_ne (ne_of_none q hn)]; exact q
  frzs := fun b u xs q => by rw [upd_ne (ne_of_none q hn)]; exact q
  tbls := fun b ps q => ⟨#[], by rw [upd_ne (ne_of_none q hn), q]; simp⟩
theorem Un.write (mu : Mut (H x)) (he : e = x ∨ H e = some (.own x)) (k : ∀ b u, b ≠ e → h.get? b = some u → h'.get? b = some u) (heo : ∃ u, h'.get? e = some u) : Un fs ex H (upd H x o) h h' := by
  have hx : ∀ b, H b = none → b ≠ x := fun b n z => by subst z; rw [n] at mu; exact mu
  have hb : ∀ b, H b = none → b ≠ e := fun b n z => by
    subst z
    rcases he with r | r
    · exact hx b n r
    · rw [n] at r; cases r
  have hm : ∀ b u, H b = some u → ¬ Mut (some u) → b ≠ x := fun b u q nm z => by subst z; rw [q] at mu; exact nm mu
  refine ⟨fun b u q n _ _ => k b u (hb b n) q, fun b u q n _ _ => ⟨u.slots, k b u (hb b n) q⟩, fun b u q n _ => by rw [upd_ne (hx b n)]; exact n, fun b u q _ => ?_,
    fun b xs q => by rw [upd_ne (hm b _ q fun z => z)]; exact q, fun b u xs q => by rw [upd_ne (hm b _ q fun z => z)]; exact q, fun b ps q => ⟨#[], by rw [upd_ne (hm b _ q fun z => z), q]; simp⟩⟩
  by_cases hbe : b = e
  · subst hbe; exact heo
  · exact ⟨u, k b u hbe q⟩
theorem Un.mono (u : Un fs ex H H1 h h1) (hs : ∀ b ∈ fs, b ∈ fs') (hx : ∀ b ∈ ex, b ∈ ex') : Un fs' ex' H H1 h h1 :=
  ⟨fun b ob q n hb he => u.keep b ob q n (fun z => hb (hs b z)) fun z => he (hx b z), fun _ _ q n _ he => u.any q n fun z => he (hx _ z), fun b ob q n he => u.free b ob q n fun z => he (hx b z), fun b ob q he => u.there b ob q fun z => he (hx b z), u.tups, u.frzs, u.tbls⟩
end


def trk (h : Heap) (H : Hp) : List Addr := (List.range h.objs.size).filter fun a => (H a).isSome
def hidT (h : Heap) (H : Hp) : Heap := PySem.W.hideAll h (trk h H)
theorem hidT_size (h : Heap) (H : Hp) : (hidT h H).objs.size = h.objs.size := PySem.W.hideAll_size _ _
theorem hidT_get {h : Heap} {H : Hp} {b : Addr} {o : Obj} (e : h.get? b = some o) (n : H b = none) : (hidT h H).get? b = some o :=
  PySem.W.hideAll_get _ e fun hm => by
    have q : (H b).isSome = true := (List.mem_filter.mp hm).2
    rw [n] at q; simp at q
theorem of_hidT {h : Heap} {H : Hp} {b : Addr} {o : Obj} (e : (hidT h H).get? b = some o) : h.get? b = some o ∧ H b = none := by
  have e' : h.get? b = some o := PySem.W.of_hideAll (trk h H) e
  refine ⟨e', ?_⟩
  cases q : H b with
  | none => rfl
  | some x =>
    have hm : b ∈ trk h H := List.mem_filter.mpr ⟨List.mem_range.mpr (Heap.lt_size e'), by simp [q]⟩
    have z : (hidT h H).get? b = none := PySem.W.hideAll_none (trk h H) hm
    rw [z] at e; cases e


def allNews (g h : Heap) (L : Addr) : List (Addr × Obj) := (List.range h.objs.size).filterMap fun a => if a = L ∨ (g.get? a).isSome = true then none else (h.get? a).map fun o => (a, o)
def rest (g h : Heap) (L d : Addr) : List (Addr × Obj) := (allNews g h L).filter fun p => decide (p.1 ≠ d)
end L2

namespace L2
open PySem PySem.Spec PyProof.Rows

/-- the module's facts, over the base: the heap at the law's entry without what is tracked there -/
structure Mod (K : PySem.W.Frag) (mg : Str → Option Value) (base : Heap) : Prop where
  kin : K.In base
  glob : base.Ns mainGlobals mg
  blt : ∃ mb, base.Ns builtinsNs mb ∧ ∀ x : Str, x ≠ "__name__" → mb x = bootBuiltins x
  nolimit : base.NoLimit

/-- the context: a def's body (or a comprehension's block) running. base: fixed through the whole law; s₀, H₀: the entry; outer: the frames whose slots others may change (a def's callers); stack: all frames that run;
   ex: iterators that were made ahead of the entry and are walked here (a comprehension's); fn: the names whose cells were made at the entry (a def: all; a comprehension's block: its own); calm: not within an except suite; pn: pins that every state bears; xe: what is wanted of an exception that leaves the code -/
structure Cx where
  prog : Program
  w : World
  K : PySem.W.Frag
  mg : Str → Option Value
  base : Heap
  A : Around
  N : List Str
  s_0 : Shared
  H_0 : Hp
  env : Env
  outer : List Env
  stack : List Env
  ex : List Addr
  fn : Str → Bool
  calm : Bool
  pn : List (Addr × Obj)
  xe : Value → Shared → Prop
/-- the callers' frames -/
def frs (l : List Env) : List Addr := l.filterMap (·.frame)
abbrev Cx.fs (X : Cx) : List Addr := frs X.outer

def Vis (sc : Scope) (x : Str) : Prop := sc.names.lookup x = some .local ∨ sc.names.lookup x = some .cell ∨ sc.names.lookup x = some .free
def Loc (sc : Scope) (x : Str) : Prop := sc.names.lookup x = some .local ∨ sc.names.lookup x = some .cell
def Look (env : Env) (h : Heap) (m : Str → Option Value) (x : Str) (u : Value) : Prop :=
  (env.kindOf x = some .local ∧ m x = some u) ∨ ((env.kindOf x = some .cell ∨ env.kindOf x = some .free) ∧ ∃ c, env.cells.lookup x = some c ∧ h.IsCell c (some u))

structure Cx.Ok (X : Cx) : Prop where
  mod : Mod X.K X.mg X.base
  kind : X.env.scope.kind = .function
  glob : X.env.globals = mainGlobals
  blt : X.env.builtins = builtinsNs
  above : X.s_0.heap.objs.size ≤ X.env.locals
  inj : ∀ x y c, X.env.cells.lookup x = some c → X.env.cells.lookup y = some c → x = y
  has : ∀ x, (X.env.kindOf x = some .cell ∨ X.env.kindOf x = some .free) → ∃ c, X.env.cells.lookup x = some c
  cab : ∀ x c, X.fn x = true → X.env.cells.lookup x = some c → X.s_0.heap.objs.size ≤ c
  hd : X.calm = true → X.A.handled = none
  frames : X.A.frames = some X.stack
  stk : X.stack = X.outer ∨ (X.stack = X.env :: X.outer ∧ X.env.frame = some X.env.locals)
  exf : ∀ b ∈ X.ex, b ≠ X.env.locals ∧ ∀ x c, X.env.cells.lookup x = some c → c ≠ b
  bs : ∀ b o, X.base.get? b = some o → X.s_0.heap.get? b = some o ∧ X.H_0 b = none
  bsz : X.base.objs.size ≤ X.s_0.heap.objs.size
  noex : ∀ b o, X.base.get? b = some o → b ∉ X.ex
  exfs : ∀ b ∈ X.ex, b ∉ X.fs
  funs : X.s_0.heap.FunFrames X.base X.outer
  frf : ∀ b ∈ X.fs, X.H_0 b = none

structure Inv (X : Cx) (pins : List (Addr × Obj)) (σ : List (Option V)) (H : Hp) (s : Shared) : Prop where
  ok : X.Ok
  os : s.os = X.s_0.os
  bare : AllBare s.gens
  base : Un X.fs X.ex X.H_0 H X.s_0.heap s.heap
  loc : ∃ m, s.heap.Ns X.env.locals m ∧ ∀ (i : Nat) (x : Str) (v : V), X.N[i]? = some x → σ[i]? = some (some v) → Vis X.env.scope x → ∃ u, RelV v u ∧ Look X.env s.heap m x u
  cell : ∀ x c, X.env.cells.lookup x = some c → ∃ v, s.heap.IsCell c v
  free : H X.env.locals = none
  freeC : ∀ x c, X.env.cells.lookup x = some c → H c = none
  pin : ∀ p ∈ X.pn ++ pins, s.heap.get? p.1 = some p.2 ∧ H p.1 = none ∧ p.1 ≠ X.env.locals ∧ p.1 ∉ X.fs ∧ ∀ v, p.2.data ≠ .cell v
  hok : HOk X.prog X.w H s.heap
  len : σ.length = X.N.length

section
variable {X : Cx} {pins : List (Addr × Obj)} {σ : List (Option V)} {H H' : Hp} {s : Shared} {h' : Heap}

theorem Cx.Ok.nofr (ok : X.Ok) {b : Addr} {o : Obj} (e : X.base.get? b = some o) : b ∉ X.fs := fun hb => by
  have := (ok.funs.mem hb).1
  rw [e] at this; cases this
theorem Inv.bs (I : Inv X pins σ H s) : ∀ b o, X.base.get? b = some o → s.heap.get? b = some o ∧ H b = none := fun b o e =>
  ⟨I.base.keep b o (I.ok.bs b o e).1 (I.ok.bs b o e).2 (I.ok.nofr e) (I.ok.noex b o e), I.base.free b o (I.ok.bs b o e).1 (I.ok.bs b o e).2 (I.ok.noex b o e)⟩
theorem Inv.bk (I : Inv X pins σ H s) : ∀ b o, X.base.get? b = some o → s.heap.get? b = some o := fun b o e => (I.bs b o e).1
theorem Inv.mod (I : Inv X pins σ H s) : Mod X.K X.mg X.base := I.ok.mod
theorem Inv.kIn (I : Inv X pins σ H s) : X.K.In s.heap := I.ok.mod.kin.keeps I.bk
theorem Inv.nolimit (I : Inv X pins σ H s) : s.heap.NoLimit := I.ok.mod.nolimit.keeps I.bk
/-- the frame over the base: for OpenK's rules (K.In X.base is I.mod.kin) -/
theorem Inv.fr (I : Inv X pins σ H s) : ∃ m, Fr X.base X.env.locals s.heap m :=
  let ⟨m, hn, _⟩ := I.loc
  ⟨m, hn, I.bk, Nat.le_trans I.ok.bsz I.ok.above⟩
theorem Inv.lt (I : Inv X pins σ H s) : X.env.locals < s.heap.objs.size := let ⟨_, hn, _⟩ := I.loc; hn.lt
theorem Inv.sz (I : Inv X pins σ H s) : X.s_0.heap.objs.size ≤ s.heap.objs.size := Nat.le_trans I.ok.above (Nat.le_of_lt I.lt)
theorem Inv.nofs (I : Inv X pins σ H s) {a : Addr} (h : s.heap.objs.size ≤ a) : a ∉ X.fs := fun hb => by
  obtain ⟨_, o, ho, _⟩ := I.ok.funs.mem hb
  exact absurd (Nat.lt_of_lt_of_le (Heap.lt_size ho) (Nat.le_trans I.sz h)) (Nat.lt_irrefl _)
theorem Inv.cne (I : Inv X pins σ H s) : ∀ x c, X.env.cells.lookup x = some c → c ≠ X.env.locals := fun x c e z => by
  obtain ⟨v, o, ho, hd⟩ := I.cell x c e
  obtain ⟨m, ⟨o', es, ep, ho', hd', _⟩, _⟩ := I.loc
  rw [z, ho'] at ho; cases ho; rw [hd'] at hd; cases hd
theorem Inv.funs (I : Inv X pins σ H s) : s.heap.FunFrames X.base X.outer := by
  have all : ∀ (l : List Env), (∀ b ∈ frs l, b ∈ X.fs) → X.s_0.heap.FunFrames X.base l → s.heap.FunFrames X.base l := by
    intro l
    induction l with
    | nil => intro _ _; trivial
    | cons env r ih =>
      intro hs hl
      obtain ⟨hk, ⟨L, o, hf, hn, ho, hd⟩, hr⟩ := hl
      have hL : L ∈ X.fs := hs L (by unfold frs; rw [List.filterMap_cons, hf]; exact List.mem_cons_self)
      obtain ⟨sl, e⟩ := I.base.slot L o ho (I.ok.frf L hL) hL fun z => I.ok.exfs L z hL
      exact ⟨hk, ⟨L, _, hf, hn, e, hd⟩, ih (fun b hb => hs b (by unfold frs; rw [List.filterMap_cons, hf]; exact List.mem_cons_of_mem _ hb)) hr⟩
  exact all X.outer (fun _ hb => hb) I.ok.funs

/-- the frames that run, for a call -/
theorem Inv.stack (I : Inv X pins σ H s) : s.heap.FunFrames X.base X.stack := by
  rcases I.ok.stk with e | ⟨e, hf⟩
  · rw [e]; exact I.funs
  · rw [e]
    obtain ⟨m, hn, _⟩ := I.loc
    refine .cons (by rw [I.ok.kind]; decide) hf hn ?_ I.funs
    exact Heap.get?_none_of_le (Nat.le_trans I.ok.bsz I.ok.above)
theorem Inv.stkSub (I : Inv X pins σ H s) : ∀ b ∈ frs X.stack, b ∈ X.env.locals :: X.fs := fun b hb => by
  rcases I.ok.stk with e | ⟨e, hf⟩
  · rw [e] at hb; exact List.mem_cons_of_mem _ hb
  · rw [e] at hb
    unfold frs at hb
    rw [List.filterMap_cons, hf] at hb
    exact hb
theorem Inv.stkFree (I : Inv X pins σ H s) : ∀ b ∈ frs X.stack, H b = none := fun b hb => by
  rcases List.mem_cons.mp (I.stkSub b hb) with e | hb
  · rw [e]; exact I.free
  · obtain ⟨_, o, ho, _⟩ := I.ok.funs.mem hb
    exact I.base.free b o ho (I.ok.frf b hb) fun z => I.ok.exfs b z hb

/-- THE STEP: the untracked objects but the frame and the records at ch are kept (the callers' frames up to slots), the frame's map is kept, the new abstract heap is held -/
theorem Inv.step {g' : Array GenState} {t' : Nat} {d' : Drawn} {ch : List Addr} (I : Inv X pins σ H s)
    (hch : ∀ b ∈ ch, (b ∈ X.ex ∨ X.s_0.heap.objs.size ≤ b) ∧ b ≠ X.env.locals ∧ (∀ x c, X.env.cells.lookup x = some c → c ≠ b) ∧ ∀ p ∈ X.pn ++ pins, p.1 ≠ b)
    (keep : ∀ b o, b ≠ X.env.locals → b ∉ X.fs → b ∉ ch → s.heap.get? b = some o → H b = none → h'.get? b = some o)
    (slot : ∀ b o, b ≠ X.env.locals → b ∈ X.fs → b ∉ ch → s.heap.get? b = some o → H b = none → ∃ sl, h'.get? b = some { o with slots := sl }) (free : ∀ b o, b ∉ ch → s.heap.get? b = some o → H b = none → H' b = none)
    (there : ∀ b o, b ∉ ch → s.heap.get? b = some o → ∃ o', h'.get? b = some o')
    (tups : ∀ b xs, H b = some (.tup xs) → H' b = some (.tup xs)) (frzs : ∀ b o u, H b = some (.frz o u) → H' b = some (.frz o u)) (tbls : ∀ b ps, H b = some (.tbl ps) → ∃ more, H' b = some (.tbl (ps ++ more)))
    (ns : ∀ m, s.heap.Ns X.env.locals m → h'.Ns X.env.locals m) (hok : HOk X.prog X.w H' h') (hg : AllBare g') :
    Inv X pins σ H' { s with heap := h', gens := g', drawn := d', toks := t' } := by
  have neL : ∀ b o, X.s_0.heap.get? b = some o → b ≠ X.env.locals := fun b o e => Nat.ne_of_lt (Nat.lt_of_lt_of_le (Heap.lt_size e) I.ok.above)
  have neC : ∀ b o, X.s_0.heap.get? b = some o → b ∉ X.ex → b ∉ ch := fun b o e hx hb => by
    rcases (hch b hb).1 with z | z
    · exact hx z
    · exact absurd (Nat.lt_of_lt_of_le (Heap.lt_size e) z) (Nat.lt_irrefl _)
  have cellK : ∀ x c, X.env.cells.lookup x = some c → ∀ v, s.heap.IsCell c v → h'.IsCell c v := fun x c e v ⟨o, ho, hd⟩ => by
    have nch : c ∉ ch := fun z => (hch c z).2.2.1 x c e rfl
    by_cases hc : c ∈ X.fs
    · obtain ⟨sl, q⟩ := slot c o (I.cne x c e) hc nch ho (I.freeC x c e)
      exact ⟨_, q, hd⟩
    · exact ⟨o, keep c o (I.cne x c e) hc nch ho (I.freeC x c e), hd⟩
  refine ⟨I.ok, I.os, hg, ⟨fun b o e n hb hx => ?_, fun b o e n hb hx => ?_, fun b o e n hx => ?_, fun b o e hx => ?_, fun b xs e => tups b xs (I.base.tups b xs e), fun b o xs e => frzs b o xs (I.base.frzs b o xs e), fun b ps e => ?_⟩, ?_, fun x c e => ?_, ?_, fun x c e => ?_, fun p hp => ?_, hok, I.len⟩
  · exact keep b o (neL b o e) hb (neC b o e hx) (I.base.keep b o e n hb hx) (I.base.free b o e n hx)
  · obtain ⟨sl, e1⟩ := I.base.slot b o e n hb hx
    obtain ⟨sl', e2⟩ := slot b _ (neL b o e) hb (neC b o e hx) e1 (I.base.free b o e n hx)
    exact ⟨sl', e2⟩
  · obtain ⟨o', e1⟩ := I.base.there b o e hx
    exact free b o' (neC b o e hx) e1 (I.base.free b o e n hx)
  · obtain ⟨o', e1⟩ := I.base.there b o e hx
    exact there b o' (neC b o e hx) e1
  · obtain ⟨m1, e1⟩ := I.base.tbls b ps e
    obtain ⟨m2, e2⟩ := tbls b _ e1
    exact ⟨m1 ++ m2, by rw [e2, Array.append_assoc]⟩
  · obtain ⟨m, hn, hl⟩ := I.loc
    refine ⟨m, ns m hn, fun i x v e1 e2 e3 => ?_⟩
    obtain ⟨u, r, l⟩ := hl i x v e1 e2 e3
    refine ⟨u, r, ?_⟩
    rcases l with l | ⟨k, c, e, z⟩
    · exact .inl l
    · exact .inr ⟨k, c, e, cellK x c e _ z⟩
  · obtain ⟨v, z⟩ := I.cell x c e
    exact ⟨v, cellK x c e v z⟩
  · obtain ⟨m, ⟨o, _, _, ho, _⟩, _⟩ := I.loc
    exact free _ o (fun z => (hch _ z).2.1 rfl) ho I.free
  · obtain ⟨v, o, ho, hd⟩ := I.cell x c e
    exact free c o (fun z => (hch c z).2.2.1 x c e rfl) ho (I.freeC x c e)
  · obtain ⟨e, n, ne, nf, d⟩ := I.pin p hp
    have nch : p.1 ∉ ch := fun z => (hch p.1 z).2.2.2 p hp rfl
    exact ⟨keep p.1 p.2 ne nf nch e n, free p.1 p.2 nch e n, ne, nf, d⟩
/-- .. where the frame's own object is kept too -/
theorem Inv.un {t' : Nat} (I : Inv X pins σ H s) (u : Un X.fs [] H H' s.heap h') (hok : HOk X.prog X.w H' h') : Inv X pins σ H' { s with heap := h', toks := t' } := by
  obtain ⟨m, ⟨o, es, ep, ho, r⟩, _⟩ := id I.loc
  obtain ⟨sl, hL⟩ := u.any ho I.free (by simp)
  exact I.step (g' := s.gens) (d' := s.drawn) (ch := []) (fun _ z => nomatch z) (fun b o _ hb _ e n => u.keep b o e n hb (by simp)) (fun b o _ hb _ e n => u.slot b o e n hb (by simp)) (fun b o _ e n => u.free b o e n (by simp)) (fun b o _ e => u.there b o e (by simp)) u.tups u.frzs u.tbls (fun m' hm => by
    obtain ⟨o', es', ep', ho', r'⟩ := hm
    rw [ho] at ho'; cases ho'
    exact ⟨_, es', ep', hL, r'⟩) hok I.bare
/-- behind a call (or a comprehension's block): the slots of this frame may have changed too, the records at ch may have turned -/
theorem Inv.call {g' : Array GenState} {t' : Nat} {d' : Drawn} {ch : List Addr} (I : Inv X pins σ H s) (u : Un (frs X.stack) ch H H' s.heap h') (hok : HOk X.prog X.w H' h') (hg : AllBare g')
    (hch : ∀ b ∈ ch, (b ∈ X.ex ∨ X.s_0.heap.objs.size ≤ b) ∧ b ≠ X.env.locals ∧ (∀ x c, X.env.cells.lookup x = some c → c ≠ b) ∧ ∀ p ∈ X.pn ++ pins, p.1 ≠ b) :
    Inv X pins σ H' { s with heap := h', gens := g', drawn := d', toks := t' } := by
  obtain ⟨m, ⟨o, es, ep, ho, r⟩, _⟩ := id I.loc
  obtain ⟨sl, hL⟩ := u.any ho I.free fun z => (hch _ z).2.1 rfl
  exact I.step (ch := ch) hch (fun b o hL hb hc e n => u.keep b o e n (fun z => (List.mem_cons.mp (I.stkSub b z)).elim hL hb) hc) (fun b o _ _ hc e n => u.any e n hc) (fun b o hc e n => u.free b o e n hc) (fun b o hc e => u.there b o e hc) u.tups u.frzs u.tbls (fun m' hm => by
    obtain ⟨o', es', ep', ho', r'⟩ := hm
    rw [ho] at ho'; cases ho'
    exact ⟨_, es', ep', hL, r'⟩) hok hg
/-- an untracked record of ours (an iterator) has turned -/
theorem Inv.turned {t' : Nat} {it : Addr} (I : Inv X pins σ H s) (k : ∀ b o, b ≠ it → s.heap.get? b = some o → h'.get? b = some o) (hn : H it = none) (hL : it ≠ X.env.locals)
    (h1 : it ∈ X.ex ∨ X.s_0.heap.objs.size ≤ it) (h2 : ∀ x c, X.env.cells.lookup x = some c → c ≠ it) (h3 : ∀ p ∈ X.pn ++ pins, p.1 ≠ it) : Inv X pins σ H { s with heap := h', toks := t' } := by
  have nit : ∀ b u, H b = some u → b ≠ it := fun b u e z => by rw [z, hn] at e; cases e
  refine I.step (g' := s.gens) (d' := s.drawn) (ch := [it]) (fun b hb => ?_) (fun b o _ _ hc e _ => k b o (fun z => hc (by simp [z])) e) (fun b o _ _ hc e _ => ⟨o.slots, k b o (fun z => hc (by simp [z])) e⟩) (fun _ _ _ _ n => n)
    (fun b o hc e => ⟨o, k b o (fun z => hc (by simp [z])) e⟩) (fun _ _ e => e) (fun _ _ _ e => e) (fun b ps e => ⟨#[], by rw [e]; simp⟩) (fun m hm => ?_) (fun b u e => ?_) I.bare
  · have e : b = it := by simpa using hb
    subst e
    exact ⟨h1, hL, h2, h3⟩
  · obtain ⟨o, es, ep, ho, r⟩ := hm
    exact ⟨o, es, ep, k _ o (Ne.symm hL) ho, r⟩
  · refine (I.hok b u e).stay (fun c v hc q => k c v ?_ q) (fun _ q => q) fun _ _ q => q
    rcases hc with z | z
    · rw [z]; exact nit b u e
    · exact nit c _ z
theorem Inv.tok (I : Inv X pins σ H s) (t : Nat) : Inv X pins σ H { s with toks := t } := I.un (h' := s.heap) (t' := t) Un.refl I.hok
/-- all objects kept -/
theorem Inv.kept {t' : Nat} (I : Inv X pins σ H s) (k : ∀ b u, s.heap.get? b = some u → h'.get? b = some u) : Inv X pins σ H { s with heap := h', toks := t' } := I.un (Un.kept k) (I.hok.kept k)
/-- a new object laid and tracked -/
theorem Inv.laid {a : Addr} {o : HO} {t' : Nat} (I : Inv X pins σ H s) (k : ∀ b u, s.heap.get? b = some u → h'.get? b = some u) (hp : s.heap.objs.size ≤ a) (new : ObjOk X.prog X.w (upd H a o) h' a o) :
    Inv X pins σ (upd H a o) { s with heap := h', toks := t' } := I.un (Un.laid k hp (I.hok.fresh hp)) (I.hok.laid k hp new)
/-- an object written -/
theorem Inv.write {x e : Addr} {o : HO} {t' : Nat} (I : Inv X pins σ H s) (mu : Mut (H x)) (he : e = x ∨ H e = some (.own x)) (k : ∀ b u, b ≠ e → s.heap.get? b = some u → h'.get? b = some u) (heo : ∃ u, h'.get? e = some u)
    (new : ObjOk X.prog X.w (upd H x o) h' x o) : Inv X pins σ (upd H x o) { s with heap := h', toks := t' } := I.un (Un.write mu he k heo) (I.hok.write mu he k heo new)
/-- forgetting slots, pins -/
theorem Inv.weak {σ' : List (Option V)} (I : Inv X pins σ H s) (hl : σ'.length = σ.length) (w : ∀ (i : Nat) v, σ'[i]? = some (some v) → σ[i]? = some (some v)) : Inv X pins σ' H s :=
  ⟨I.ok, I.os, I.bare, I.base, let ⟨m, hn, hl'⟩ := I.loc; ⟨m, hn, fun i x v e1 e2 e3 => hl' i x v e1 (w i v e2) e3⟩, I.cell, I.free, I.freeC, I.pin, I.hok, hl.trans I.len⟩
theorem Inv.pins_of {pins' : List (Addr × Obj)} (I : Inv X pins σ H s) (h : ∀ p ∈ pins', s.heap.get? p.1 = some p.2 ∧ H p.1 = none ∧ p.1 ≠ X.env.locals ∧ p.1 ∉ X.fs ∧ ∀ v, p.2.data ≠ .cell v) : Inv X pins' σ H s :=
  ⟨I.ok, I.os, I.bare, I.base, I.loc, I.cell, I.free, I.freeC, fun p hp => (List.mem_append.mp hp).elim (fun z => I.pin p (List.mem_append_left _ z)) (h p), I.hok, I.len⟩

theorem nodup_ix {N : List Str} (hN : N.Nodup) {i j : Nat} {x : Str} (a : N[i]? = some x) (b : N[j]? = some x) : i = j := by
  obtain ⟨h1, e1⟩ := List.getElem?_eq_some_iff.mp a
  obtain ⟨h2, e2⟩ := List.getElem?_eq_some_iff.mp b
  exact (List.getElem_inj hN).mp (e1.trans e2.symm)

/-- a name is stored; what changed -/
theorem store_ok2 {M : Model} {A : Around} {E : Value → Shared → Prop} {i : Nat} {x : Str} {v : V} {u : Value} {Q : Unit → Shared → Prop} (I : Inv X pins σ H s) (hN : X.N.Nodup) (hi : X.N[i]? = some x) (hx : Loc X.env.scope x) (r : RelV v u)
    (h : ∀ s', Inv X pins (σ.set i (some v)) H s' → (∃ a, Heap.SameBut a s.heap s'.heap ∧ (a = X.env.locals ∨ X.env.cells.lookup x = some a)) → Q () s') (hf : X.fn x = true ∨ X.env.scope.names.lookup x = some .local := by first | exact .inl rfl | exact .inr rfl | assumption) : wpAny M A (storeName X.env x u) Q E s := by
  obtain ⟨m, hn, hl⟩ := id I.loc
  have hcls : (X.env.scope.kind == .class || (X.env.scope.kind == .module && X.env.locals != X.env.globals)) = false := by rw [I.ok.kind]; rfl
  have hiσ : i < σ.length := by rw [I.len]; exact (List.getElem?_eq_some_iff.mp hi).1
  have cne := I.cne
  have tracked : ∀ {a : Addr} {h' : Heap}, (∃ o, s.heap.get? a = some o ∧ H a = none) → Heap.SameBut a s.heap h' → HOk X.prog X.w H h' := fun {a h'} ha hs b ob e => by
    obtain ⟨_, _, hfree⟩ := ha
    refine (I.hok b ob e).stay (fun c w' hc q => (hs.2 c ?_).trans q) (fun _ q => q) fun _ _ q => q
    rintro rfl
    rcases hc with rfl | hc
    · rw [hfree] at e; cases e
    · rw [hfree] at hc; cases hc
  rcases hx with hk | hk
  · refine wpAny_storeName_local hk hn (fun h' hn' hs => ?_) hcls
    obtain ⟨oL, _, _, hoL, _⟩ := id hn
    refine h _ ⟨I.ok, I.os, I.bare, ⟨fun b o e n hb hx => ?_, fun b o e n hb hx => ?_, I.base.free, fun b o e hx => ?_, I.base.tups, I.base.frzs, I.base.tbls⟩, ⟨_, hn', fun j y v' e1 e2 e3 => ?_⟩, fun y c e => ?_, I.free, I.freeC, fun p hp => ?_, tracked ⟨oL, hoL, I.free⟩ hs, by simpa using I.len⟩ ⟨_, hs, .inl rfl⟩
    · exact (hs.2 b (Nat.ne_of_lt (Nat.lt_of_lt_of_le (Heap.lt_size e) I.ok.above))).trans (I.base.keep b o e n hb hx)
    · obtain ⟨sl, e1⟩ := I.base.slot b o e n hb hx
      exact ⟨sl, (hs.2 b (Nat.ne_of_lt (Nat.lt_of_lt_of_le (Heap.lt_size e) I.ok.above))).trans e1⟩
    · obtain ⟨o', e1⟩ := I.base.there b o e hx
      exact ⟨o', (hs.2 b (Nat.ne_of_lt (Nat.lt_of_lt_of_le (Heap.lt_size e) I.ok.above))).trans e1⟩
    · by_cases hj : j = i
      · subst hj
        rw [hi] at e1; cases e1
        rw [List.getElem?_set_self hiσ] at e2
        cases e2
        exact ⟨u, r, .inl ⟨hk, by simp⟩⟩
      · rw [List.getElem?_set_ne (Ne.symm hj)] at e2
        obtain ⟨u', r', q⟩ := hl j y v' e1 e2 e3
        refine ⟨u', r', ?_⟩
        rcases q with ⟨k, e⟩ | ⟨k, c, e, z⟩
        · refine .inl ⟨k, ?_⟩
          have : y ≠ x := fun e => hj (nodup_ix hN e1 (e ▸ hi))
          simp [this, e]
        · exact .inr ⟨k, c, e, z.sameBut hs (cne y c e)⟩
    · obtain ⟨w', z⟩ := I.cell y c e
      exact ⟨w', z.sameBut hs (cne y c e)⟩
    · obtain ⟨e, n, ne, nf, d⟩ := I.pin p hp
      exact ⟨(hs.2 p.1 ne).trans e, n, ne, nf, d⟩
  · have hfn : X.fn x = true := by
      rcases hf with z | z
      · exact z
      · rw [z] at hk; cases hk
    obtain ⟨c, hc⟩ := I.ok.has x (.inl hk)
    obtain ⟨w', z⟩ := I.cell x c hc
    refine wpAny_storeName_cell I.ok.kind hk hc z (fun h' hc' hs => ?_)
    obtain ⟨oc, hoc, hocd⟩ := id z
    refine h { s with heap := h' } ⟨I.ok, I.os, I.bare, ⟨fun b o e n hb hx => ?_, fun b o e n hb hx => ?_, I.base.free, fun b o e hx => ?_, I.base.tups, I.base.frzs, I.base.tbls⟩, ⟨m, hn.sameBut hs (Ne.symm (cne x c hc)), fun j y v' e1 e2 e3 => ?_⟩, fun y c' e => ?_, I.free, I.freeC, fun p hp => ?_, tracked ⟨oc, hoc, I.freeC x c hc⟩ hs, by simpa using I.len⟩ ⟨c, hs, .inr hc⟩
    · exact (hs.2 b (Nat.ne_of_lt (Nat.lt_of_lt_of_le (Heap.lt_size e) (I.ok.cab x c hfn hc)))).trans (I.base.keep b o e n hb hx)
    · obtain ⟨sl, e1⟩ := I.base.slot b o e n hb hx
      exact ⟨sl, (hs.2 b (Nat.ne_of_lt (Nat.lt_of_lt_of_le (Heap.lt_size e) (I.ok.cab x c hfn hc)))).trans e1⟩
    · obtain ⟨o', e1⟩ := I.base.there b o e hx
      exact ⟨o', (hs.2 b (Nat.ne_of_lt (Nat.lt_of_lt_of_le (Heap.lt_size e) (I.ok.cab x c hfn hc)))).trans e1⟩
    · by_cases hj : j = i
      · subst hj
        rw [hi] at e1; cases e1
        rw [List.getElem?_set_self hiσ] at e2
        cases e2
        exact ⟨u, r, .inr ⟨.inl hk, c, hc, hc'⟩⟩
      · rw [List.getElem?_set_ne (Ne.symm hj)] at e2
        obtain ⟨u', r', q⟩ := hl j y v' e1 e2 e3
        refine ⟨u', r', ?_⟩
        rcases q with q | ⟨k, c', e, z'⟩
        · exact .inl q
        · refine .inr ⟨k, c', e, z'.sameBut hs ?_⟩
          rintro rfl
          exact hj (nodup_ix hN e1 (I.ok.inj _ _ _ e hc ▸ hi))
    · by_cases hcc : c' = c
      · subst hcc; exact ⟨_, hc'⟩
      · obtain ⟨w2, z2⟩ := I.cell y c' e
        exact ⟨w2, z2.sameBut hs hcc⟩
    · obtain ⟨e, n, ne, nf, d⟩ := I.pin p hp
      refine ⟨(hs.2 p.1 ?_).trans e, n, ne, nf, d⟩
      intro q
      rw [q, hoc] at e
      have q' : oc = p.2 := Option.some.inj e
      exact d w' (by rw [← q']; exact hocd)
theorem store_ok {M : Model} {A : Around} {E : Value → Shared → Prop} {i : Nat} {x : Str} {v : V} {u : Value} {Q : Unit → Shared → Prop} (I : Inv X pins σ H s) (hN : X.N.Nodup) (hi : X.N[i]? = some x) (hx : Loc X.env.scope x) (r : RelV v u)
    (h : ∀ s', Inv X pins (σ.set i (some v)) H s' → Q () s') (hf : X.fn x = true ∨ X.env.scope.names.lookup x = some .local := by first | exact .inl rfl | exact .inr rfl | assumption) : wpAny M A (storeName X.env x u) Q E s :=
  store_ok2 I hN hi hx r (fun s' I' _ => h s' I') hf
/-- behind a call or a block, the state as it is -/
theorem Inv.call' {s' : Shared} {ch : List Addr} (I : Inv X pins σ H s) (ho : s'.os = s.os) (u : Un (frs X.stack) ch H H' s.heap s'.heap) (hok : HOk X.prog X.w H' s'.heap) (hg : AllBare s'.gens)
    (hch : ∀ b ∈ ch, (b ∈ X.ex ∨ X.s_0.heap.objs.size ≤ b) ∧ b ≠ X.env.locals ∧ (∀ x c, X.env.cells.lookup x = some c → c ≠ b) ∧ ∀ p ∈ X.pn ++ pins, p.1 ≠ b) : Inv X pins σ H' s' := by
  obtain ⟨h', g', d', t', o'⟩ := s'
  have e : o' = s.os := ho
  subst e
  exact I.call (g' := g') (t' := t') (d' := d') u hok hg hch
end


/-- an exception: its class, its own dict's address (where it has one), the abstract heap behind it -/
abbrev XK := Value → Option Addr → Hp → Prop
abbrev St := List (Option V)
abbrev VK := V → Hp → Prop
/-- an expression's reading; a test's; an argument list's -/
abbrev TE := St → Hp → VK → Prop
abbrev TT := St → Hp → (Bool → Hp → Prop) → Prop
abbrev TA := St → Hp → (List V → Hp → Prop) → Prop
/-- what is wanted behind a statement -/
structure Ends where
  nx : St → Hp → Prop
  rt : VK
  bk : St → Hp → Prop := fun _ _ => False
  ct : St → Hp → Prop := fun _ _ => False
abbrev TS := Ends → St → Hp → Prop

def EP (X : Cx) (pins : List (Addr × Obj)) (σ : St) (Q : VK) (u : Value) (s' : Shared) : Prop := ∃ v H', Inv X pins σ H' s' ∧ RelV v u ∧ Q v H'
def TP (X : Cx) (pins : List (Addr × Obj)) (σ : St) (Q : Bool → Hp → Prop) (b : Bool) (s' : Shared) : Prop := ∃ H', Inv X pins σ H' s' ∧ Q b H'
def AP (X : Cx) (pins : List (Addr × Obj)) (σ : St) (Q : List V → Hp → Prop) (us : List Value) (s' : Shared) : Prop := ∃ vs H', Inv X pins σ H' s' ∧ Vals vs us ∧ Q vs H'
def SP (X : Cx) (pins : List (Addr × Obj)) (D : Ends) (f : Flow) (s' : Shared) : Prop :=
  match f with
  | .next => ∃ σ' H', Inv X pins σ' H' s' ∧ D.nx σ' H'
  | .brk => ∃ σ' H', Inv X pins σ' H' s' ∧ D.bk σ' H'
  | .cont => ∃ σ' H', Inv X pins σ' H' s' ∧ D.ct σ' H'
  | .ret u => ∃ v σ' H', Inv X pins σ' H' s' ∧ RelV v u ∧ D.rt v H'

def PE (X : Cx) (e : Expr) (t : TE) : Prop :=
  ∀ (pins : List (Addr × Obj)) (s : Shared) (σ : St) (H : Hp) (Q : VK), Inv X pins σ H s → t σ H Q → wpAny (model X.prog X.w) X.A (eval e X.env) (EP X pins σ Q) X.xe s
def PT (X : Cx) (e : Expr) (t : TT) : Prop :=
  ∀ (pins : List (Addr × Obj)) (s : Shared) (σ : St) (H : Hp) (Q : Bool → Hp → Prop), Inv X pins σ H s → t σ H Q → wpAny (model X.prog X.w) X.A (isTrue e X.env (eval e X.env)) (TP X pins σ Q) X.xe s
/-- a test whatever its 'whole' is (and, or) -/
def PW (X : Cx) (e : Expr) (t : TT) : Prop :=
  ∀ (whole : Sem Value) (pins : List (Addr × Obj)) (s : Shared) (σ : St) (H : Hp) (Q : Bool → Hp → Prop), Inv X pins σ H s → t σ H Q → wpAny (model X.prog X.w) X.A (isTrue e X.env whole) (TP X pins σ Q) X.xe s
theorem PW.pt {X : Cx} {e : Expr} {t : TT} (h : PW X e t) : PT X e t := h _
/-- an argument list (no star), from the left -/
def PA (X : Cx) (es : List Expr) (t : TA) : Prop :=
  ∀ (pos : Pos) (pins : List (Addr × Obj)) (s : Shared) (σ : St) (H : Hp) (Q : List V → Hp → Prop), Inv X pins σ H s → t σ H Q → wpAny (model X.prog X.w) X.A (spliced (backTo pos (starEach es X.env))) (AP X pins σ Q) X.xe s
def PS (X : Cx) (st : Stmt) (t : TS) : Prop :=
  ∀ (pins : List (Addr × Obj)) (s : Shared) (σ : St) (H : Hp) (D : Ends), Inv X pins σ H s → t D σ H → wpAny (model X.prog X.w) X.A (exec st X.env) (SP X pins D) X.xe s
def PSs (X : Cx) (st : List Stmt) (t : TS) : Prop :=
  ∀ (pins : List (Addr × Obj)) (s : Shared) (σ : St) (H : Hp) (D : Ends), Inv X pins σ H s → t D σ H → wpAny (model X.prog X.w) X.A (execs st X.env) (SP X pins D) X.xe s
structure QE (X : Cx) (e : Expr) (t : TE) : Prop where
  go : PE X e t
structure QT (X : Cx) (e : Expr) (t : TT) : Prop where
  go : PT X e t
structure QW (X : Cx) (e : Expr) (t : TT) : Prop where
  go : PW X e t
structure QA (X : Cx) (es : List Expr) (t : TA) : Prop where
  go : PA X es t
structure QS (X : Cx) (st : Stmt) (t : TS) : Prop where
  go : PS X st t
structure QSs (X : Cx) (st : List Stmt) (t : TS) : Prop where
  go : PSs X st t
theorem QW.pt {X : Cx} {e : Expr} {t : TT} (h : QW X e t) : QT X e t := ⟨PW.pt h.go⟩
/-- weaken the end -/
theorem thn {α : Type} {t : Sem α} {Q Q' : α → Shared → Prop} {M : Model} {A : Around} {E : Value → Shared → Prop} {s : Shared} (h : wpAny M A t Q E s) (hQ : ∀ a s, Q a s → Q' a s) : wpAny M A t Q' E s := wpAny_mono h hQ fun _ _ x => x
end L2

namespace L2
open PySem PySem.Spec PyProof.Rows
section
variable {X : Cx}

/-- two expressions in a row -/
theorem bin {a b : Expr} {ta tb : TE} (ha : PE X a ta) (hb : PE X b tb) {pins : List (Addr × Obj)} {s : Shared} {σ : St} {H : Hp} {R : V → V → Hp → Prop} (I : Inv X pins σ H s) (h : ta σ H fun x H1 => tb σ H1 fun y H2 => R x y H2)
    {α : Type} {Q : α → Shared → Prop} {f : Value → Value → Sem α}
    (hf : ∀ v u s2 x y H2, Inv X pins σ H2 s2 → RelV x v → RelV y u → R x y H2 → wpAny (model X.prog X.w) X.A (f v u) Q X.xe s2) :
    wpAny (model X.prog X.w) X.A (eval a X.env) (fun v s₁ => wpAny (model X.prog X.w) X.A (eval b X.env) (fun u s₂ => wpAny (model X.prog X.w) X.A (f v u) Q X.xe s₂) X.xe s₁) X.xe s := by
  refine thn (ha pins s σ H _ I h) fun v s1 ⟨x, H1, I1, r1, q1⟩ => ?_
  refine thn (hb pins s1 σ H1 _ I1 q1) fun u s2 ⟨y, H2, I2, r2, q2⟩ => ?_
  exact hf v u s2 x y H2 I2 r1 r2 q2


def tVar (i : Nat) : TE := fun σ H Q => ∃ v, σ[i]? = some (some v) ∧ Q v H
def tC (v : V) : TE := fun _ H Q => Q v H
theorem pe_var {i : Nat} {x : Str} {pos : Pos} (hN : X.N[i]? = some x) (hv : Vis X.env.scope x) (hd : (x == ("__debug__" : Str)) = false := by decide) (hcd : (x == ("__classdict__" : Str)) = false := by decide) : PE X (.Name x pos) (tVar i) := by
  intro pins s σ H Q I h
  obtain ⟨v, e, h⟩ := h
  obtain ⟨m, hn, hl⟩ := I.loc
  obtain ⟨u, r, l⟩ := hl i x v hN e hv
  have fin : EP X pins σ Q u s := ⟨v, H, I, r, h⟩
  rcases l with ⟨hk, hm⟩ | ⟨hk, c, hc, hcell⟩
  · exact wpAny_Name (wpAny_loadName_local I.ok.kind hk hn hm fin) hd
  · rcases hk with hk | hk
    · exact wpAny_Name (wpAny_loadName_cell I.ok.kind hk hc hcell fin) hd
    · exact wpAny_Name (wpAny_loadName_free I.ok.kind hk hc hcell fin hcd) hd
theorem pe_int {i j pos} : PE X (.Constant (.int i) j pos) (tC (.int i)) := fun _ _ _ H _ I h => wpAny_Constant_int ⟨.int i, H, I.tok _, ⟨_, rfl⟩, h⟩
theorem qe_int {i j pos} : QE X (.Constant (.int i) j pos) (tC (.int i)) := ⟨pe_int ⟩
theorem pe_bl {b j pos} : PE X (.Constant (.bool b) j pos) (tC (.bl b)) := fun _ _ _ H _ I h => Constant_bool ⟨.bl b, H, I, rfl, h⟩
theorem qe_bl {b j pos} : QE X (.Constant (.bool b) j pos) (tC (.bl b)) := ⟨pe_bl ⟩
theorem pe_non {j pos} : PE X (.Constant .none j pos) (tC .non) := fun _ _ _ H _ I h => Constant_none ⟨.non, H, I, rfl, h⟩
theorem qe_non {j pos} : QE X (.Constant .none j pos) (tC .non) := ⟨pe_non ⟩
theorem pe_str {x j pos} : PE X (.Constant (.str x) j pos) (tC (.str x)) := fun _ _ _ H _ I h => Calls.Constant_str ⟨.str x, H, I.tok _, ⟨_, rfl⟩, h⟩

theorem qe_str {x j pos} : QE X (.Constant (.str x) j pos) (tC (.str x)) := ⟨pe_str ⟩
/-- a global name of the def -/
def Gl (X : Cx) (x : Str) : Prop := X.env.kindOf x = some .globalImplicit
theorem ld_glob {E : Value → Shared → Prop} {pins : List (Addr × Obj)} {s : Shared} {σ : St} {H : Hp} {x : Str} {u : Value} {pos : Pos} {Q : Value → Shared → Prop} (I : Inv X pins σ H s) (hg : Gl X x) (hm : X.mg x = some u) (h : Q u s)
    (hd : (x == ("__debug__" : Str)) = false := by decide) : wpAny (model X.prog X.w) X.A (eval (.Name x pos) X.env) Q E s :=
  Calls.Name_function_global I.ok.kind hg (Calls.loadGlobal_global (by rw [I.ok.glob]; exact I.mod.glob.keeps I.bk) hm h) hd
theorem ld_blt {E : Value → Shared → Prop} {pins : List (Addr × Obj)} {s : Shared} {σ : St} {H : Hp} {x : Str} {u : Value} {pos : Pos} {Q : Value → Shared → Prop} (I : Inv X pins σ H s) (hg : Gl X x) (hm : X.mg x = none) (hv : bootBuiltins x = some u) (h : Q u s)
    (hn : x ≠ "__name__" := by decide) (hd : (x == ("__debug__" : Str)) = false := by decide) : wpAny (model X.prog X.w) X.A (eval (.Name x pos) X.env) Q E s := by
  obtain ⟨mb, h1, h2⟩ := I.mod.blt
  exact Calls.Name_function_global I.ok.kind hg (Calls.loadGlobal_builtin (by rw [I.ok.glob]; exact I.mod.glob.keeps I.bk) hm (by rw [I.ok.blt]; exact h1.keeps I.bk) ((h2 x hn).trans hv) h) hd
/-- a module's constant, a class, a function, as a value -/
theorem pe_glob {x : Str} {v : V} {u : Value} {pos : Pos} (hg : Gl X x) (hm : X.mg x = some u) (r : RelV v u) (hd : (x == ("__debug__" : Str)) = false := by decide) : PE X (.Name x pos) (tC v) :=
  fun _ _ _ H _ I h => ld_glob I hg hm ⟨v, H, I, r, h⟩ hd
theorem qe_glob {x : Str} {v : V} {u : Value} {pos : Pos} (hg : Gl X x) (hm : X.mg x = some u) (r : RelV v u) (hd : (x == ("__debug__" : Str)) = false := by decide) : QE X (.Name x pos) (tC v) := ⟨pe_glob hg hm r hd⟩
theorem pe_bltn {x : Str} {v : V} {u : Value} {pos : Pos} (hg : Gl X x) (hm : X.mg x = none) (hv : bootBuiltins x = some u) (r : RelV v u) (hn : x ≠ "__name__" := by decide) (hd : (x == ("__debug__" : Str)) = false := by decide) : PE X (.Name x pos) (tC v) :=
  fun _ _ _ H _ I h => ld_blt I hg hm hv ⟨v, H, I, r, h⟩ hn hd

theorem qe_bltn {x : Str} {v : V} {u : Value} {pos : Pos} (hg : Gl X x) (hm : X.mg x = none) (hv : bootBuiltins x = some u) (r : RelV v u) (hn : x ≠ "__name__" := by decide) (hd : (x == ("__debug__" : Str)) = false := by decide) : QE X (.Name x pos) (tC v) := ⟨pe_bltn hg hm hv r hn hd⟩

/-- two ints -/
def t2I (ta tb : TE) (k : Int → Int → Hp → Prop) : St → Hp → Prop := fun σ H => ta σ H fun x H1 => tb σ H1 fun y H2 => ∃ i j, x = .int i ∧ y = .int j ∧ k i j H2
def tAdd (ta tb : TE) : TE := fun σ H Q => t2I ta tb (fun i j H2 => Q (.int (i + j)) H2) σ H
def tSub (ta tb : TE) : TE := fun σ H Q => t2I ta tb (fun i j H2 => Q (.int (i - j)) H2) σ H
/-- the left factor below 2^64 -/
def tMul (ta tb : TE) : TE := fun σ H Q => t2I ta tb (fun i j H2 => (-(2 ^ 64) < i ∧ i < 2 ^ 64) ∧ Q (.int (i * j)) H2) σ H
variable {a b : Expr} {ta tb : TE} {pos : Pos}
def PC (X : Cx) (op : CmpOp) (a b : Expr) (t : TE) : Prop :=
  ∀ (pins : List (Addr × Obj)) (s : Shared) (σ : St) (H : Hp) (Q : VK), Inv X pins σ H s → t σ H Q →
    wpAny (model X.prog X.w) X.A (eval a X.env) (fun v s₁ => wpAny (model X.prog X.w) X.A (eval b X.env) (fun u s₂ => wpAny (model X.prog X.w) X.A (compareOp op v u) (EP X pins σ Q) X.xe s₂) X.xe s₁) X.xe s
structure QC (X : Cx) (op : CmpOp) (a b : Expr) (t : TE) : Prop where
  go : PC X op a b t
theorem nobehind (b : Expr) {op : CmpOp} (h : op ≠ .In) (h2 : op ≠ .NotIn) : behindInMarks op b = false := by
  have e1 : (op == CmpOp.In) = false := by cases op <;> first | rfl | exact absurd rfl h
  have e2 : (op == CmpOp.NotIn) = false := by cases op <;> first | rfl | exact absurd rfl h2
  cases b <;> simp [behindInMarks, e1, e2]
def tCmp (p : Int → Int → Bool) (ta tb : TE) : TE := fun σ H Q => t2I ta tb (fun i j H2 => Q (.bl (p i j)) H2) σ H
abbrev tLt : TE → TE → TE := tCmp fun i j => decide (i < j)
abbrev tLe : TE → TE → TE := tCmp fun i j => decide (i ≤ j)
abbrev tGt : TE → TE → TE := tCmp fun i j => decide (j < i)
abbrev tGe : TE → TE → TE := tCmp fun i j => decide (j ≤ i)
abbrev tEqI : TE → TE → TE := tCmp fun i j => decide (i = j)
abbrev tNeI : TE → TE → TE := tCmp fun i j => !decide (i = j)
/-- is None -/
def tIsN (ta : TE) : TE := fun σ H Q => ta σ H fun x H1 => Q (.bl (decide (x = .non))) H1
def tNotN (ta : TE) : TE := fun σ H Q => ta σ H fun x H1 => Q (.bl (!decide (x = .non))) H1
/-- a comparison as a value, as a test -/
def tB (t : TE) : TT := fun σ H Q => t σ H fun x H1 => ∃ c, x = .bl c ∧ Q c H1
theorem pt_cmp {op : CmpOp} {t : TE} (h : PC X op a b t) (h1 : behindInMarks op b = false := by first | exact nobehind _ (by decide) (by decide) | rfl) : PT X (.Compare a [op] [b] pos) (tB t) := by
  intro pins s σ H Q I hw
  refine wpAny_isTrue_Compare1 (thn (h pins s σ H _ I hw) fun v s1 h1 => thn h1 fun u s2 h2 => thn h2 fun c s3 ⟨x, H1, I1, r1, q1⟩ => ?_) h1
  obtain ⟨d, rfl, q⟩ := q1
  cases r1
  exact wpAny_truthy_bool ⟨H1, I1, q⟩
/-- an expression whose value is a bool, as a test -/
theorem pt_val {e : Expr} {t : TE} (h : PE X e t) (he : ∀ whole, isTrue e X.env whole = (do let v ← whole; standAt e.pos; holding [v] (truthy v)) := by intro _; rfl) : PT X e (tB t) := by
  intro pins s σ H Q I hw
  refine isTrue_plain (thn (h pins s σ H _ I hw) fun v s1 ⟨x, H1, I1, r1, q1⟩ => ?_) (he _)
  obtain ⟨d, rfl, q⟩ := q1
  cases r1
  exact wpAny_truthy_bool ⟨H1, I1, q⟩

theorem qt_val {e : Expr} {t : TE} (h : QE X e t) (he : ∀ whole, isTrue e X.env whole = (do let v ← whole; standAt e.pos; holding [v] (truthy v)) := by intro _; rfl) : QT X e (tB t) := ⟨pt_val h.go he⟩

variable {tA tB' : TT} {rest : List Expr}
def tAnd (t u : TT) : TT := fun σ H Q => t σ H fun c H1 => if c = true then u σ H1 Q else Q false H1
def tOr (t u : TT) : TT := fun σ H Q => t σ H fun c H1 => if c = true then Q true H1 else u σ H1 Q
def tNot (t : TT) : TT := fun σ H Q => t σ H fun c H1 => Q (!c) H1
theorem pw_or1 (ha : PT X a tA) : PW X (.BoolOp .Or [a] pos) tA := by
  intro wh pins s σ H Q I h
  refine isTrue_or (thn (ha pins s σ H Q I h) fun c s1 e => ?_)
  cases c with
  | false => exact isTrue_or_nil e
  | true => exact e
theorem qw_or1 (ha : QT X a tA) : QW X (.BoolOp .Or [a] pos) tA := ⟨pw_or1 ha.go⟩
theorem pw_or (ha : PT X a tA) (hb : PW X (.BoolOp .Or (b :: rest) pos) tB') : PW X (.BoolOp .Or (a :: b :: rest) pos) (tOr tA tB') := by
  intro wh pins s σ H Q I h
  refine isTrue_or (thn (ha pins s σ H _ I h) fun c s1 ⟨H1, I1, q1⟩ => ?_)
  cases c with
  | true => exact ⟨H1, I1, q1⟩
  | false => exact hb wh pins s1 σ H1 Q I1 q1
theorem qw_or (ha : QT X a tA) (hb : QW X (.BoolOp .Or (b :: rest) pos) tB') : QW X (.BoolOp .Or (a :: b :: rest) pos) (tOr tA tB') := ⟨pw_or ha.go hb.go⟩
theorem pt_not (ha : PT X a tA) : PT X (.UnaryOp .Not a pos) (tNot tA) := by
  intro pins s σ H Q I h
  exact isTrue_not (ha pins s σ H (fun c H1 => Q (!c) H1) I h)
theorem qt_not (ha : QT X a tA) : QT X (.UnaryOp .Not a pos) (tNot tA) := ⟨pt_not ha.go⟩
/-- .. as values (bools) -/
def tAndV (ta tb : TE) : TE := fun σ H Q => ta σ H fun x H1 => ∃ c, x = .bl c ∧ if c = true then tb σ H1 Q else Q (.bl false) H1
def tOrV (ta tb : TE) : TE := fun σ H Q => ta σ H fun x H1 => ∃ c, x = .bl c ∧ if c = true then Q (.bl true) H1 else tb σ H1 Q
def tNotV (ta : TE) : TE := fun σ H Q => ta σ H fun x H1 => ∃ c, x = .bl c ∧ Q (.bl (!c)) H1
/-- a if t else b -/
def tIf (t : TT) (ta tb : TE) : TE := fun σ H Q => t σ H fun c H1 => if c = true then ta σ H1 Q else tb σ H1 Q
end
end L2

namespace L2
open PySem PySem.Spec PyProof.Rows


def SqL (K : PySem.W.Frag) (H : Hp) (a : Addr) (xs : List V) : Prop :=
  Rd H a (.lst xs) ∨
    ∃ (o : Obj) (its : Array Value) (n : Nat), K.lookup a = some o ∧ o.cls = .type "list" ∧ o.dict = none ∧ o.data = .seq its n ∧ its.size ≤ sizeLine ∧ Vals xs its.toList
def SqT (K : PySem.W.Frag) (H : Hp) (a : Addr) (xs : List V) : Prop :=
  Rd H a (.tup xs) ∨
    ∃ (o : Obj) (its : Array Value) (n : Nat), K.lookup a = some o ∧ o.cls = .type "tuple" ∧ o.data = .seq its n ∧ its.size ≤ sizeLine ∧ Vals xs its.toList
def absV : Value → Option V
  | .none => some .non
  | .bool b => some (.bl b)
  | .int i _ => some (.int i)
  | .str x _ => some (.str x)
  | .bytes b _ => some (.byt b)
  | .float b _ => some (.flt b)
  | .ref a => some (.ref a)
  | .type n => some (.ty n)
  | _ => none
theorem RelV.abs {x : V} {u : Value} (r : RelV x u) : absV u = some x := by
  cases x with
  | non => cases r; rfl
  | bl _ => cases r; rfl
  | int _ => obtain ⟨t, rfl⟩ := r; rfl
  | str _ => obtain ⟨t, rfl⟩ := r; rfl
  | byt _ => obtain ⟨t, rfl⟩ := r; rfl
  | flt _ => obtain ⟨t, rfl⟩ := r; rfl
  | ref _ => cases r; rfl
  | ty _ => cases r; rfl
theorem RelV.inj {x y : V} {u : Value} (r : RelV x u) (q : RelV y u) : x = y := Option.some.inj (r.abs.symm.trans q.abs)
theorem Vals.inj : ∀ {xs ys : List V} {us : List Value}, Vals xs us → Vals ys us → xs = ys
  | _, _, _, .nil, .nil => rfl
  | _, _, _, .cons r t, .cons r' t' => by rw [r.inj r', Vals.inj t t']
section
variable {X : Cx} {pins : List (Addr × Obj)} {σ : St} {H : Hp} {s : Shared} {a : Addr} {xs ys : List V}
theorem SqL.of {K : PySem.W.Frag} (h : H a = some (.lst xs)) : SqL K H a xs := .inl (.inl h)
theorem SqT.of {K : PySem.W.Frag} (h : H a = some (.tup xs)) : SqT K H a xs := .inl (.inl h)
theorem Inv.list (I : Inv X pins σ H s) (h : SqL X.K H a xs) : ∃ its : List Value, Vals xs its ∧ PlainL s.heap a its.toArray ∧ xs.length ≤ sizeLine := by
  rcases h with h | ⟨o, its, n, hk, hc, hd, hs, hz, r⟩
  · obtain ⟨z, its, n, r, e⟩ := h.ok I.hok
    exact ⟨its, r, ⟨_, n, e, rfl, rfl, rfl⟩, z⟩
  · refine ⟨its.toList, r, ⟨o, n, I.kIn a o hk, hc, hd, by simpa using hs⟩, ?_⟩
    have e := r.length
    simp only [Array.length_toList] at e
    omega
theorem Inv.tuple (I : Inv X pins σ H s) (h : SqT X.K H a xs) : ∃ its : List Value, Vals xs its ∧ IsTup s.heap a its.toArray ∧ xs.length ≤ sizeLine := by
  rcases h with h | ⟨o, its, n, hk, hc, hs, hz, r⟩
  · obtain ⟨z, its, r, p⟩ := h.ok I.hok
    exact ⟨its, r, p, z⟩
  · refine ⟨its.toList, r, ⟨o, I.kIn a o hk, hc, n, by simpa using hs⟩, ?_⟩
    have e := r.length
    simp only [Array.length_toList] at e
    omega
theorem Inv.list_inj (I : Inv X pins σ H s) (h : SqL X.K H a xs) (h' : SqL X.K H a ys) : xs = ys := by
  obtain ⟨its, r, ⟨o, n, e, _, _, d⟩, _⟩ := I.list h
  obtain ⟨its', r', ⟨o', n', e', _, _, d'⟩, _⟩ := I.list h'
  rw [e] at e'; cases e'
  rw [d] at d'
  injection d' with d1 _
  have : its = its' := by simpa using congrArg Array.toList d1
  subst this
  exact r.inj r'
theorem Inv.tuple_inj (I : Inv X pins σ H s) (h : SqT X.K H a xs) (h' : SqT X.K H a ys) : xs = ys := by
  obtain ⟨its, r, ⟨o, e, _, n, d⟩, _⟩ := I.tuple h
  obtain ⟨its', r', ⟨o', e', _, n', d'⟩, _⟩ := I.tuple h'
  rw [e] at e'; cases e'
  rw [d] at d'
  injection d' with d1 _
  have : its = its' := by simpa using congrArg Array.toList d1
  subst this
  exact r.inj r'
end


abbrev Cx.wish (X : Cx) (E : Value → Shared → Prop) : Cx := { X with xe := E }
/-- no exception leaves -/
abbrev Cx.nox (X : Cx) : Cx := X.wish fun _ _ => False
theorem Cx.Ok.wish {X : Cx} (ok : X.Ok) (E : Value → Shared → Prop) : (X.wish E).Ok :=
  ⟨ok.mod, ok.kind, ok.glob, ok.blt, ok.above, ok.inj, ok.has, ok.cab, ok.hd, ok.frames, ok.stk, ok.exf, ok.bs, ok.bsz, ok.noex, ok.exfs, ok.funs, ok.frf⟩
theorem Cx.Ok.unwish {X : Cx} {E : Value → Shared → Prop} (ok : (X.wish E).Ok) : X.Ok :=
  ⟨ok.mod, ok.kind, ok.glob, ok.blt, ok.above, ok.inj, ok.has, ok.cab, ok.hd, ok.frames, ok.stk, ok.exf, ok.bs, ok.bsz, ok.noex, ok.exfs, ok.funs, ok.frf⟩
section
variable {X : Cx} {pins : List (Addr × Obj)} {σ : St} {H : Hp} {s : Shared} {E : Value → Shared → Prop}
theorem Inv.wish (I : Inv X pins σ H s) (E : Value → Shared → Prop) : Inv (X.wish E) pins σ H s := ⟨I.ok.wish E, I.os, I.bare, I.base, I.loc, I.cell, I.free, I.freeC, I.pin, I.hok, I.len⟩
theorem Inv.unwish (I : Inv (X.wish E) pins σ H s) : Inv X pins σ H s := ⟨I.ok.unwish, I.os, I.bare, I.base, I.loc, I.cell, I.free, I.freeC, I.pin, I.hok, I.len⟩
theorem SP.unwish {D : Ends} {f : Flow} {s' : Shared} (h : SP (X.wish E) pins D f s') : SP X pins D f s' := by
  cases f with
  | next => obtain ⟨σ', H', I, q⟩ := h; exact ⟨σ', H', I.unwish, q⟩
  | brk => obtain ⟨σ', H', I, q⟩ := h; exact ⟨σ', H', I.unwish, q⟩
  | cont => obtain ⟨σ', H', I, q⟩ := h; exact ⟨σ', H', I.unwish, q⟩
  | ret u => obtain ⟨v, σ', H', I, r, q⟩ := h; exact ⟨v, σ', H', I.unwish, r, q⟩
theorem PE.nox {e : Expr} {t : TE} (h : PE X.nox e t) : PE X e t := fun pins s σ H Q I hw =>
  wpAny_mono (h pins s σ H Q (I.wish _) hw) (fun _ _ ⟨v, H', I', r, q⟩ => ⟨v, H', I'.unwish, r, q⟩) fun _ _ z => False.elim z
theorem PT.nox {e : Expr} {t : TT} (h : PT X.nox e t) : PT X e t := fun pins s σ H Q I hw =>
  wpAny_mono (h pins s σ H Q (I.wish _) hw) (fun _ _ ⟨H', I', q⟩ => ⟨H', I'.unwish, q⟩) fun _ _ z => False.elim z
theorem PSs.nox {st : List Stmt} {t : TS} (h : PSs X.nox st t) : PSs X st t := fun pins s σ H D I hw =>
  wpAny_mono (h pins s σ H D (I.wish _) hw) (fun _ _ q => q.unwish) fun _ _ z => False.elim z
end


section
variable {X : Cx} {st : Stmt} {rest : List Stmt} {t u : TS} {e : Expr} {te : TE} {pos : Pos}
def tNext : TS := fun D σ H => D.nx σ H
def tSeq (t u : TS) : TS := fun D σ H => t { D with nx := u D } σ H
theorem pss_nil : PSs X [] tNext := fun _ _ σ H _ I h => wpAny_execs_nil ⟨σ, H, I, h⟩
theorem qss_nil  : QSs X [] tNext := ⟨pss_nil ⟩
theorem pss_cons (h1 : PS X st t) (h2 : PSs X rest u) : PSs X (st :: rest) (tSeq t u) := by
  intro pins s σ H D I h
  refine wpAny_execs_cons (thn (h1 pins s σ H { D with nx := u D } I h) fun f s1 q => ?_)
  cases f with
  | next =>
    obtain ⟨σ', H', I', q⟩ := q
    exact h2 pins s1 σ' H' D I' q
  | ret v => exact q
  | brk => exact q
  | cont => exact q
theorem qss_cons (h1 : QS X st t) (h2 : QSs X rest u) : QSs X (st :: rest) (tSeq t u) := ⟨pss_cons h1.go h2.go⟩
theorem pss_one (h1 : PS X st t) : PSs X [st] t := by
  intro pins s σ H D I h
  refine wpAny_execs_cons (thn (h1 pins s σ H D I h) fun f s1 q => ?_)
  cases f with
  | next => exact wpAny_execs_nil q
  | ret v => exact q
  | brk => exact q
  | cont => exact q
theorem qss_one (h1 : QS X st t) : QSs X [st] t := ⟨pss_one h1.go⟩
def tBreak : TS := fun D σ H => D.bk σ H
def tCont : TS := fun D σ H => D.ct σ H
/-- in a def's body nothing is shown -/
theorem Inv.quiet {pins : List (Addr × Obj)} {σ : St} {H : Hp} {s : Shared} (I : Inv X pins σ H s) : interactive X.env = false := by simp [interactive, I.ok.kind]
/-- an expression whose value is dropped -/
def tDrop (te : TE) : TS := fun D σ H => te σ H fun _ H1 => D.nx σ H1
theorem ps_expr (he : PE X e te) (hs : swapsWith e none pos.line X.env = pure false := by rfl) : PS X (.Expr e pos) (tDrop te) := by
  intro pins s σ H D I h
  exact wpAny_Expr_any (thn (he pins s σ H _ I h) fun v s1 ⟨x, H1, I1, r1, q1⟩ => ⟨σ, H1, I1, q1⟩) I.quiet hs
theorem qs_expr (he : QE X e te) (hs : swapsWith e none pos.line X.env = pure false := by rfl) : QS X (.Expr e pos) (tDrop te) := ⟨ps_expr he.go hs⟩
def tRet (te : TE) : TS := fun D σ H => te σ H D.rt
theorem ps_ret (he : PE X e te) : PS X (.Return (some e) pos) (tRet te) := by
  intro pins s σ H D I h
  exact wpAny_Return_some (thn (he pins s σ H _ I h) fun v s1 ⟨x, H1, I1, r1, q1⟩ => ⟨x, σ, H1, I1, r1, q1⟩)
theorem qs_ret (he : QE X e te) : QS X (.Return (some e) pos) (tRet te) := ⟨ps_ret he.go⟩
def tRetN : TS := fun D _ H => D.rt .non H
def tIfS (c : TT) (t u : TS) : TS := fun D σ H => c σ H fun b H1 => if b = true then t D σ H1 else u D σ H1
theorem ps_if {c : Expr} {a b : List Stmt} {tc : TT} (hc : PT X c tc) (ha : PSs X a t) (hb : PSs X b u) : PS X (.If c a b pos) (tIfS tc t u) := by
  intro pins s σ H D I h
  refine wpAny_If (thn (hc pins s σ H _ I h) fun d s1 ⟨H1, I1, q1⟩ => ?_)
  cases d with
  | true => exact ha pins s1 σ H1 D I1 q1
  | false => exact hb pins s1 σ H1 D I1 q1
theorem qs_if {c : Expr} {a b : List Stmt} {tc : TT} (hc : QT X c tc) (ha : QSs X a t) (hb : QSs X b u) : QS X (.If c a b pos) (tIfS tc t u) := ⟨ps_if hc.go ha.go hb.go⟩
/-- code that the proof never comes to -/
def tNever : TS := fun _ _ _ => False
end


abbrev TG := V → St → Hp → (St → Hp → Prop) → Prop
abbrev TGs := List V → St → Hp → (St → Hp → Prop) → Prop
def PG (X : Cx) (target : Expr) (t : TG) : Prop :=
  ∀ (pins : List (Addr × Obj)) (s : Shared) (σ : St) (H : Hp) (v : V) (u : Value) (Q : St → Hp → Prop), Inv X pins σ H s → RelV v u → t v σ H Q →
    wpAny (model X.prog X.w) X.A (assign target X.env u) (fun _ s' => ∃ σ' H', Inv X pins σ' H' s' ∧ Q σ' H') X.xe s
structure QG (X : Cx) (target : Expr) (t : TG) : Prop where
  go : PG X target t
/-- several targets, one after another -/
def PGs (X : Cx) (ts : List Expr) (t : TGs) : Prop :=
  ∀ (pins : List (Addr × Obj)) (s : Shared) (σ : St) (H : Hp) (vs : List V) (us : List Value) (Q : St → Hp → Prop), Inv X pins σ H s → Vals vs us → t vs σ H Q →
    wpAny (model X.prog X.w) X.A (assignInOrder ((assignEach ts X.env).map (·.2)) us) (fun _ s' => ∃ σ' H', Inv X pins σ' H' s' ∧ Q σ' H') X.xe s
structure QGs (X : Cx) (ts : List Expr) (t : TGs) : Prop where
  go : PGs X ts t
/-- o[i] = v, by values -/
abbrev TSet := V → V → V → Hp → (Hp → Prop) → Prop
def PSet (X : Cx) (t : TSet) : Prop :=
  ∀ (pins : List (Addr × Obj)) (s : Shared) (σ : St) (H : Hp) (o i v : V) (ov iv u : Value) (Q : Hp → Prop), Inv X pins σ H s → RelV o ov → RelV i iv → RelV v u → t o i v H Q →
    wpAny (model X.prog X.w) X.A (setItem ov iv u) (fun _ s' => ∃ H', Inv X pins σ H' s' ∧ Q H') X.xe s
/-- a op= b, by values -/
abbrev TIp := V → V → Hp → VK → Prop
def PIp (X : Cx) (op : Operator) (t : TIp) : Prop :=
  ∀ (pins : List (Addr × Obj)) (s : Shared) (σ : St) (H : Hp) (x y : V) (v u : Value) (Q : VK), Inv X pins σ H s → RelV x v → RelV y u → t x y H Q →
    wpAny (model X.prog X.w) X.A (inplaceOp op v u) (EP X pins σ Q) X.xe s
section
variable {X : Cx} {pos : Pos}
def gName (i : Nat) : TG := fun v σ H Q => Q (σ.set i (some v)) H
theorem pg_name {i : Nat} {x : Str} (hN : X.N.Nodup) (hi : X.N[i]? = some x) (hx : Loc X.env.scope x) (hf : X.fn x = true ∨ X.env.scope.names.lookup x = some .local := by first | exact .inl rfl | exact .inr rfl | assumption) : PG X (.Name x pos) (gName i) := by
  intro pins s σ H v u Q I r h
  exact wpAny_assign_Name (store_ok I hN hi hx r (fun s' I' => ⟨_, H, I', h⟩) hf)
theorem qg_name {i : Nat} {x : Str} (hN : X.N.Nodup) (hi : X.N[i]? = some x) (hx : Loc X.env.scope x) (hf : X.fn x = true ∨ X.env.scope.names.lookup x = some .local := by first | exact .inl rfl | exact .inr rfl | assumption) : QG X (.Name x pos) (gName i) := ⟨pg_name hN hi hx hf⟩
def gNil : TGs := fun vs σ H Q => vs = [] ∧ Q σ H
def gCons (t : TG) (u : TGs) : TGs := fun vs σ H Q => ∃ v r, vs = v :: r ∧ t v σ H fun σ' H' => u r σ' H' Q
theorem pgs_nil : PGs X [] gNil := by
  intro pins s σ H vs us Q I r h
  obtain ⟨e, h⟩ := h
  subst e
  cases r
  exact assignInOrder_nil ⟨σ, H, I, h⟩
theorem qgs_nil  : QGs X [] gNil := ⟨pgs_nil ⟩
theorem pgs_cons {e : Expr} {es : List Expr} {t : TG} {u : TGs} (h1 : PG X e t) (h2 : PGs X es u)
    (hs : (assignEach (e :: es) X.env).map (·.2) = assign e X.env :: (assignEach es X.env).map (·.2) := by rfl) : PGs X (e :: es) (gCons t u) := by
  intro pins s σ H vs us Q I r h
  obtain ⟨v, vr, e1, h⟩ := h
  subst e1
  cases r with
  | cons r rr =>
    rw [hs]
    refine assignInOrder_cons (thn (h1 pins s σ H _ _ _ I r h) fun _ s1 ⟨σ1, H1, I1, q1⟩ => ?_)
    exact h2 pins s1 σ1 H1 _ _ Q I1 rr q1
theorem qgs_cons {e : Expr} {es : List Expr} {t : TG} {u : TGs} (h1 : QG X e t) (h2 : QGs X es u) (hs : (assignEach (e :: es) X.env).map (·.2) = assign e X.env :: (assignEach es X.env).map (·.2) := by rfl) : QGs X (e :: es) (gCons t u) := ⟨pgs_cons h1.go h2.go hs⟩
/-- (a, b, ..) = a tuple of that length -/
def gTup (K : PySem.W.Frag) (n : Nat) (t : TGs) : TG := fun v σ H Q => ∃ a xs, v = .ref a ∧ SqT K H a xs ∧ xs.length = n ∧ t xs σ H Q
theorem pg_tup {es : List Expr} {k : Nat} {t : TGs} {n : Nat} (hc : X.calm = true) (h : PGs X es t)
    (hn : (assignEach es X.env).length = n := by rfl) (hst : (assignEach es X.env).findIdx? (·.1) = none := by rfl) : PG X (.Tuple es k pos) (gTup X.K n t) := by
  intro pins s σ H v u Q I r hw
  obtain ⟨a, xs, e1, hq, hl, hw⟩ := hw
  subst e1
  cases r
  obtain ⟨its, rv, ht, hz⟩ := I.tuple hq
  refine assign_Tuple_tuple (I.ok.hd hc) ht (by simp [hn, ← hl, rv.length]) hst fun h' hx => ?_
  have I1 : Inv X pins σ H { s with heap := h' } := I.kept (t' := s.toks) fun b o e => hx b o (Nat.ne_of_lt (Heap.lt_size e)) e
  exact h pins _ σ H xs _ Q I1 (by simpa using rv) hw
theorem qg_tup {es : List Expr} {k : Nat} {t : TGs} {n : Nat} (hc : X.calm = true) (h : QGs X es t) (hn : (assignEach es X.env).length = n := by rfl) (hst : (assignEach es X.env).findIdx? (·.1) = none := by rfl) : QG X (.Tuple es k pos) (gTup X.K n t) := ⟨pg_tup hc h.go hn hst⟩
/-- o[i] = .. -/
def gSub (to ti : TE) (t : TSet) : TG := fun v σ H Q => to σ H fun o H1 => ti σ H1 fun i H2 => t o i v H2 fun H3 => Q σ H3
theorem pg_sub {o i : Expr} {to ti : TE} {t : TSet} (ho : PE X o to) (hi : PE X i ti) (hs : PSet X t)
    (ha : ∀ v, assign (.Subscript o i pos) X.env v = (do
      let ov ← holding [v] (eval o X.env)
      let iv ← holding [v, ov] (eval i X.env)
      standAt pos
      holding [v, ov, iv] (setItem ov iv v)
      release [v, ov, iv] []) := by intro _; rfl) : PG X (.Subscript o i pos) (gSub to ti t) := by
  intro pins s σ H v u Q I r h
  rw [ha]
  refine wpAny_bind (wpAny_holding (thn (ho pins s σ H _ I h) fun ov s1 ⟨x, H1, I1, r1, q1⟩ => ?_))
  refine wpAny_bind (wpAny_holding (thn (hi pins s1 σ H1 _ I1 q1) fun iv s2 ⟨y, H2, I2, r2, q2⟩ => ?_))
  refine wpAny_bind (wpAny_standAt (wpAny_bind (wpAny_holding (thn (hs pins s2 σ H2 x y v ov iv u _ I2 r1 r2 r q2) fun _ s3 ⟨H3, I3, q3⟩ => ?_))))
  exact wpAny_release ⟨σ, H3, I3, q3⟩
theorem qg_sub {o i : Expr} {to ti : TE} {t : TSet} (ho : QE X o to) (hi : QE X i ti) (hs : PSet X t) (ha : ∀ v, assign (.Subscript o i pos) X.env v = (do
      let ov ← holding [v] (eval o X.env)
      let iv ← holding [v, ov] (eval i X.env)
      standAt pos
      holding [v, ov, iv] (setItem ov iv v)
      release [v, ov, iv] []) := by intro _; rfl) : QG X (.Subscript o i pos) (gSub to ti t) := ⟨pg_sub ho.go hi.go hs ha⟩
/-- target = value -/
def tAsg (te : TE) (g : TG) : TS := fun D σ H => te σ H fun x H1 => g x σ H1 D.nx
theorem ps_asg {tg e : Expr} {te : TE} {g : TG} (he : PE X e te) (hg : PG X tg g) (hs : swapsWithSole [tg] e pos.line X.env = pure false := by rfl) (hw : swappedStores [tg] e X.env = pure none := by rfl)
    (h1 : (assignEach [tg] X.env).map (·.2) = [assign tg X.env] := by rfl) : PS X (.Assign [tg] e pos) (tAsg te g) := by
  intro pins s σ H D I h
  refine wpAny_Assign_stores (thn (he pins s σ H _ I h) fun v s1 ⟨x, H1, I1, r1, q1⟩ => ?_) hs hw
  rw [h1]
  exact thn (hg pins s1 σ H1 x v _ I1 r1 q1) fun _ s2 q => q
theorem qs_asg {tg e : Expr} {te : TE} {g : TG} (he : QE X e te) (hg : QG X tg g) (hs : swapsWithSole [tg] e pos.line X.env = pure false := by rfl) (hw : swappedStores [tg] e X.env = pure none := by rfl) (h1 : (assignEach [tg] X.env).map (·.2) = [assign tg X.env] := by rfl) : QS X (.Assign [tg] e pos) (tAsg te g) := ⟨ps_asg he.go hg.go hs hw h1⟩
/-- name = value -/
theorem ps_set {i : Nat} {x : Str} {e : Expr} {te : TE} {pos' : Pos} (hN : X.N.Nodup) (hi : X.N[i]? = some x) (hx : Loc X.env.scope x) (he : PE X e te) (hs : swapsWith e (some (.Name x pos')) pos.line X.env = pure false := by rfl) (hf : X.fn x = true ∨ X.env.scope.names.lookup x = some .local := by first | exact .inl rfl | exact .inr rfl | assumption) :
    PS X (.Assign [.Name x pos'] e pos) (tAsg te (gName i)) := by
  intro pins s σ H D I h
  refine wpAny_Assign_Name (thn (he pins s σ H _ I h) fun v s1 ⟨y, H1, I1, r1, q1⟩ => ?_) hs
  exact store_ok I1 hN hi hx r1 (fun s2 I2 => ⟨_, H1, I2, q1⟩) hf
theorem qs_set {i : Nat} {x : Str} {e : Expr} {te : TE} {pos' : Pos} (hN : X.N.Nodup) (hi : X.N[i]? = some x) (hx : Loc X.env.scope x) (he : QE X e te) (hs : swapsWith e (some (.Name x pos')) pos.line X.env = pure false := by rfl) (hf : X.fn x = true ∨ X.env.scope.names.lookup x = some .local := by first | exact .inl rfl | exact .inr rfl | assumption) : QS X (.Assign [.Name x pos'] e pos) (tAsg te (gName i)) := ⟨ps_set hN hi hx he.go hs hf⟩
/-- a, b = x, y with plain local names: stored from the right; the pair itself is not tracked (the opening rows as in PyProof/Rows/TupAssign.lean:23) -/
def tPar (i j : Nat) (ta : TA) : TS := fun D σ H => ta σ H fun vs H1 => ∃ v w, vs = [v, w] ∧ D.nx ((σ.set i (some v)).set j (some w)) H1
/-- name op= e -/
def tAug (i : Nat) (te : TE) (ti : TIp) : TS := fun D σ H => ∃ x, σ[i]? = some (some x) ∧ te σ H fun y H1 => ti x y H1 fun z H2 => D.nx (σ.set i (some z)) H2
/-- o[i] op= e -/
def tAugS (to ti te : TE) (tget : V → V → Hp → VK → Prop) (tip : TIp) (tset : TSet) : TS := fun D σ H => to σ H fun o H1 => ti σ H1 fun i H2 => tget o i H2 fun x H3 => te σ H3 fun y H4 => tip x y H4 fun z H5 => tset o i z H5 fun H6 => D.nx σ H6
/-- o[i], by values -/
def PGet (X : Cx) (t : V → V → Hp → VK → Prop) : Prop :=
  ∀ (pins : List (Addr × Obj)) (s : Shared) (σ : St) (H : Hp) (o i : V) (ov iv : Value) (Q : VK), Inv X pins σ H s → RelV o ov → RelV i iv → t o i H Q →
    wpAny (model X.prog X.w) X.A (getItem ov iv) (EP X pins σ Q) X.xe s
/-- ints -/
def ipI (f : Int → Int → Int) : TIp := fun x y H Q => ∃ i j, x = .int i ∧ y = .int j ∧ Q (.int (f i j)) H
end


section
variable {X : Cx} {pos : Pos}
/-- the invariant W with its measure -/
def tWhile (c : TT) (tb : TS) : TS := fun D σ H => ∃ W : Nat → St → Hp → Prop, (∃ m, W m σ H) ∧ ∀ m σ H, W m σ H →
  c σ H fun b H1 => if b = true then ∃ N : St → Hp → Prop, (∀ σ' H', N σ' H' → ∃ m', m' < m ∧ W m' σ' H') ∧ tb { D with nx := N, ct := N, bk := D.nx } σ H1 else D.nx σ H1
end


/-- at turn i: it yields x (the heap may grow), or it stops -/
structure It where
  go : Nat → Hp → Prop
  yld : Nat → Hp → V → Hp → Prop
  stop : Nat → Hp → Prop
/-- the iterator's own objects may turn: they are not the frame's, not pinned, younger than the entry (or a comprehension's own) -/
def FpOk (X : Cx) (pins : List (Addr × Obj)) (H : Hp) (b : Addr) : Prop :=
  H b = none ∧ b ≠ X.env.locals ∧ b ∉ X.fs ∧ (b ∈ X.ex ∨ X.s_0.heap.objs.size ≤ b) ∧ (∀ x c, X.env.cells.lookup x = some c → c ≠ b) ∧ ∀ p ∈ X.pn ++ pins, p.1 ≠ b
theorem Inv.fpOk {X : Cx} {pins : List (Addr × Obj)} {σ : St} {H H' : Hp} {s : Shared} {b : Addr} (I : Inv X pins σ H s) (hb : s.heap.objs.size ≤ b) (hn : H' b = none) : FpOk X pins H' b := by
  refine ⟨hn, Nat.ne_of_gt (Nat.lt_of_lt_of_le I.lt hb), I.nofs hb, .inr (Nat.le_trans I.sz hb), fun x c e z => ?_, fun p hp z => ?_⟩
  · obtain ⟨v, q⟩ := I.cell x c e
    exact absurd (Nat.lt_of_lt_of_le q.lt (by rw [z]; exact hb)) (Nat.lt_irrefl _)
  · exact absurd (Nat.lt_of_lt_of_le (Heap.lt_size (I.pin p hp).1) (by rw [z]; exact hb)) (Nat.lt_irrefl _)
structure Turn (P : Program) (w : World) (K : PySem.W.Frag) (tg : Expr) (J : It) (fp : List Addr) (it : Addr) (tn : Nat → Heap → Prop) : Prop where
  mem : it ∈ fp
  obj : ∀ i h, tn i h → ∀ b ∈ fp, ∃ o, h.get? b = some o ∧ ∀ v, o.data ≠ .cell v
  keep : ∀ i h h', tn i h → (∀ b ∈ fp, ∀ o, h.get? b = some o → h'.get? b = some o) → tn i h'
  item : ∀ (X : Cx), X.prog = P → X.w = w → X.K = K → X.calm = true → ∀ (i : Nat) (pins : List (Addr × Obj)) (s : Shared) (σ : St) (H : Hp) (E : Value → Shared → Prop), Inv X pins σ H s → (∀ b ∈ fp, FpOk X pins H b) → tn i s.heap → J.go i H →
    wpAny (model P w) X.A (pyNext (.ref it)) (fun r s1 => ∃ u, r = some u ∧
      wpAny (model P w) X.A (letOwnedTupleGo tg (.ref it) u) (fun _ s2 => ∃ x H', Inv X pins σ H' s2 ∧ RelV x u ∧ J.yld i H x H' ∧ tn (i + 1) s2.heap ∧ ∀ b ∈ fp, H' b = none) E s1) E s
  done : ∀ (X : Cx), X.prog = P → X.w = w → X.K = K → X.calm = true → ∀ (i : Nat) (pins : List (Addr × Obj)) (s : Shared) (σ : St) (H : Hp) (E : Value → Shared → Prop), Inv X pins σ H s → (∀ b ∈ fp, FpOk X pins H b) → tn i s.heap → J.stop i H →
    wpAny (model P w) X.A (pyNext (.ref it)) (fun r s1 => r = none ∧ Inv X pins σ H s1) E s
  self : ∀ (A : Around) (i : Nat) (s : Shared) (Q : Value → Shared → Prop) (E : Value → Shared → Prop), tn i s.heap → Q (.ref it) s → wpAny (model P w) A (pyIter (.ref it)) Q E s
abbrev TI := St → Hp → (It → Hp → Prop) → Prop
/-- an iterator has come -/
def PIE (X : Cx) (pins : List (Addr × Obj)) (σ : St) (tg : Expr) (R : It → Hp → Prop) (itv : Value) (s2 : Shared) : Prop :=
  ∃ (it : Addr) (fp : List Addr) (tn : Nat → Heap → Prop) (J : It) (H' : Hp), itv = .ref it ∧ Inv X pins σ H' s2 ∧ Turn X.prog X.w X.K tg J fp it tn ∧ tn 0 s2.heap ∧ (∀ b ∈ fp, FpOk X pins H' b) ∧ R J H'
def PI (X : Cx) (tg iter : Expr) (wi : TI) : Prop :=
  ∀ (pins : List (Addr × Obj)) (s : Shared) (σ : St) (H : Hp) (R : It → Hp → Prop), Inv X pins σ H s → wi σ H R →
    wpAny (model X.prog X.w) X.A (eval iter X.env) (fun v s1 => wpAny (model X.prog X.w) X.A (pyIter v) (PIE X pins σ tg R) X.xe s1) X.xe s
structure QI (X : Cx) (tg iter : Expr) (wi : TI) : Prop where
  go : PI X tg iter wi

/-- the step ahead of the store is nothing for an iterator that keeps no tuple -/
theorem go_of {M : Model} {A : Around} {E : Value → Shared → Prop} {s : Shared} {tg : Expr} {it : Addr} {u : Value} {o : Obj} {n : String} {vs : Array Value} {Q : Unit → Shared → Prop} (ho : s.heap.get? it = some o) (hc : o.cls = .type n) (hd : o.data = .fields vs)
    (hn : ["enumerate", "zip", "dict_itemiterator", "dict_reverseitemiterator", "odict_iterator", "itertools.zip_longest", "itertools.pairwise"].contains n = false) (hQ : Q () s) : wpAny M A (letOwnedTupleGo tg (.ref it) u) Q E s := by
  unfold letOwnedTupleGo
  cases tg <;> first
    | exact wpAny_pure hQ
    | (cases u <;> first
        | exact wpAny_pure hQ
        | (refine wpAny_bind (wpAny_load ho ?_)
           rw [hc, hd]
           show wpAny M A (if (["enumerate", "zip", "dict_itemiterator", "dict_reverseitemiterator", "odict_iterator", "itertools.zip_longest", "itertools.pairwise"].contains n && vs[0]? == some (rawInt _)) = true then _ else _) Q E s
           rw [if_neg (by intro h; rw [hn, Bool.false_and] at h; cases h)]
           exact wpAny_pure hQ))

/-- the list at a, as it stands at each turn (a loop may append to it) -/
def Itl (K : PySem.W.Frag) (a : Addr) : It :=
  ⟨fun i H => ∃ xs x, SqL K H a xs ∧ xs[i]? = some x, fun i H x H' => H' = H ∧ ∀ xs, SqL K H a xs → xs[i]? = some x, fun i H => ∃ xs, SqL K H a xs ∧ xs.length ≤ i⟩
def Itt (K : PySem.W.Frag) (a : Addr) : It :=
  ⟨fun i H => ∃ xs x, SqT K H a xs ∧ xs[i]? = some x, fun i H x H' => H' = H ∧ ∀ xs, SqT K H a xs → xs[i]? = some x, fun i H => ∃ xs, SqT K H a xs ∧ xs.length ≤ i⟩
/-- lo, lo + 1, .. (n of them) -/
def Itr (lo : Int) (n : Nat) : It := ⟨fun i _ => i < n, fun i H x H' => H' = H ∧ x = .int (lo + i), fun i _ => n ≤ i⟩
theorem turn_list {P : Program} {w : World} {K : PySem.W.Frag} {tg : Expr} (a it : Addr) : Turn P w K tg (Itl K a) [it] it (fun i h => h.IsListIter it a i) where
  mem := by simp
  obj := fun i h st b hb => by
    have e : b = it := by simpa using hb
    subst e
    obtain ⟨o, e, c, d⟩ := st
    exact ⟨o, e, fun v z => by rw [d] at z; cases z⟩
  keep := fun i h h' st k => st.at fun o e => k it (by simp) o e
  item := by
    intro X hP hw hK hc i pins s σ H E I hf st hg
    subst hP hw hK
    obtain ⟨xs, x, hq, hx⟩ := hg
    obtain ⟨its, rv, p, hz⟩ := I.list hq
    obtain ⟨u, hu, ru⟩ := rv.get hx
    obtain ⟨f0, f1, f2, f3, f4, f5⟩ := hf it (by simp)
    refine wpAny_pyNext_list_item st p.isList (x := u) (by simpa using hu) fun h' st' sb => ?_
    have I1 : Inv X pins σ H { s with heap := h' } := I.turned (t' := s.toks) (fun b o hb e => (sb.2 b hb).trans e) f0 f1 f3 f4 f5
    obtain ⟨o, e, c, d⟩ := id st'
    exact ⟨u, rfl, go_of (s := { s with heap := h' }) e c d (by decide) ⟨x, H, I1, ru, ⟨rfl, fun ys hy => by rw [I.list_inj hy hq]; exact hx⟩, st', fun b hb => (hf b hb).1⟩⟩
  done := by
    intro X hP hw hK hc i pins s σ H E I hf st hg
    subst hP hw hK
    obtain ⟨xs, hq, hx⟩ := hg
    obtain ⟨its, rv, p, hz⟩ := I.list hq
    obtain ⟨f0, f1, f2, f3, f4, f5⟩ := hf it (by simp)
    have hl := rv.length
    exact wpAny_pyNext_list_end (I.ok.hd hc) st p.isList (by simp; omega) fun h' eb => ⟨rfl, I.turned (t' := s.toks) (fun b o hb e => eb b o hb e) f0 f1 f3 f4 f5⟩
  self := fun _ _ _ _ _ st h => wpAny_pyIter_listiter st h
theorem turn_range {P : Program} {w : World} {K : PySem.W.Frag} {tg : Expr} (it : Addr) (lo : Int) (n : Nat) : Turn P w K tg (Itr lo n) [it] it (fun i h => IsRangeIter h it (lo + (i : Nat) * 1) ((n : Int) - (i : Nat)) 1) where
  mem := by simp
  obj := fun i h st b hb => by
    have e : b = it := by simpa using hb
    subst e
    exact ⟨_, st, fun v z => by
      have z' : Data.fields _ = Data.cell v := z
      cases z'⟩
  keep := fun i h h' st k => k it (by simp) _ st
  item := by
    intro X hP hw hK hc i pins s σ H E I hf st hg
    subst hP hw hK
    obtain ⟨f0, f1, f2, f3, f4, f5⟩ := hf it (by simp)
    have W := Walks.range (prog := X.prog) (w := X.w) (I.ok.hd hc) it lo 1 n
    refine W.item i s _ _ hg st fun v h' tk hv st' kk => ?_
    obtain ⟨t, rfl⟩ := hv
    have I1 : Inv X pins σ H { s with heap := h', toks := tk } := I.turned (fun b o hb e => kk b o (by simpa using hb) e) f0 f1 f3 f4 f5
    refine ⟨_, rfl, go_of (s := { s with heap := h', toks := tk }) (n := "range_iterator") st' rfl rfl (by decide) ⟨.int (lo + i), H, I1, ⟨t, ?_⟩, ⟨rfl, rfl⟩, st', fun b hb => (hf b hb).1⟩⟩
    rw [Int.mul_one]
  done := by
    intro X hP hw hK hc i pins s σ H E I hf st hg
    subst hP hw hK
    obtain ⟨f0, f1, f2, f3, f4, f5⟩ := hf it (by simp)
    exact wpAny_pyNext_range_end (I.ok.hd hc) st (by have : n ≤ i := hg; omega) fun h' eb => ⟨rfl, I.turned (t' := s.toks) (fun b o hb e => eb b o hb e) f0 f1 f3 f4 f5⟩
  self := fun _ _ _ _ _ st h => wpAny_pyIter_rangeiter st h
end L2

namespace L2
open PySem PySem.Spec PyProof.Rows
section
variable {X : Cx} {tg : Expr}
def iList (K : PySem.W.Frag) (tl : TE) : TI := fun σ H R => tl σ H fun x H1 => ∃ a, x = .ref a ∧ (∃ xs, SqL K H1 a xs) ∧ R (Itl K a) H1
def iTup (K : PySem.W.Frag) (tl : TE) : TI := fun σ H R => tl σ H fun x H1 => ∃ a, x = .ref a ∧ (∃ xs, SqT K H1 a xs) ∧ R (Itt K a) H1
theorem pi_list {l : Expr} {tl : TE} (hl : PE X l tl) : PI X tg l (iList X.K tl) := by
  intro pins s σ H R I h
  refine thn (hl pins s σ H _ I h) fun v s1 ⟨x, H1, I1, r1, q1⟩ => ?_
  obtain ⟨a, e, ⟨xs, hq⟩, q⟩ := q1
  subst e
  cases r1
  obtain ⟨its, rv, p, hz⟩ := I1.list hq
  refine wpAny_pyIter_list p.isList ?_
  refine ⟨s1.heap.objs.size, [s1.heap.objs.size], _, _, H1, rfl, I1.kept (t' := s1.toks) fun b o e => Heap.get?_push_of_some _ e, turn_list a _, ⟨_, Heap.get?_push_size _ rfl, rfl, rfl⟩, fun b hb => ?_, q⟩
  have e : b = s1.heap.objs.size := by simpa using hb
  subst e
  exact I1.fpOk (Nat.le_refl _) (I1.hok.fresh (Nat.le_refl _))
theorem qi_list {l : Expr} {tl : TE} (hl : QE X l tl) : QI X tg l (iList X.K tl) := ⟨pi_list hl.go⟩
/-- a range object just made, walked -/
theorem range_it {pins : List (Addr × Obj)} {σ : St} {H : Hp} {s : Shared} {R : It → Hp → Prop} {E : Value → Shared → Prop} {lo hi : Int} {t u v : Tok} {tk : Nat} (I : Inv X pins σ H s) (h1 : -(2 ^ 62) ≤ lo) (h2 : lo < 2 ^ 62) (h3 : -(2 ^ 62) ≤ hi) (h4 : hi < 2 ^ 62)
    (q : R (Itr lo (hi - lo).toNat) H) : wpAny (model X.prog X.w) X.A (pyIter (.ref s.heap.objs.size)) (PIE X pins σ tg R) E { s with heap := s.heap.push { cls := .type "range", data := .fields #[.int lo t, .int hi u, .int 1 v] }, toks := tk } := by
  refine wpAny_pyIter_range (IsRange.new ..) (small_one h1 h2 h3 h4) ?_
  have I1 : Inv X pins σ H { s with heap := s.heap.push { cls := .type "range", data := .fields #[.int lo t, .int hi u, .int 1 v] }, toks := tk } := I.kept fun b o e => Heap.get?_push_of_some _ e
  refine ⟨(s.heap.push { cls := .type "range", data := .fields #[.int lo t, .int hi u, .int 1 v] }).objs.size, [(s.heap.push { cls := .type "range", data := .fields #[.int lo t, .int hi u, .int 1 v] }).objs.size], _, _, H, rfl,
    I1.kept (t' := tk) fun b o e => Heap.get?_push_of_some _ e, turn_range _ lo (hi - lo).toNat, ?_, fun b hb => ?_, q⟩
  · have e1 : lo + ((0 : Nat) : Int) * 1 = lo := by simp
    have e2 : (((hi - lo).toNat : Nat) : Int) - ((0 : Nat) : Int) = Builtin.Range.rangeSize lo hi 1 := by rw [rangeSize_one]; split <;> omega
    show IsRangeIter _ _ (lo + ((0 : Nat) : Int) * 1) ((((hi - lo).toNat : Nat) : Int) - ((0 : Nat) : Int)) 1
    rw [e1, e2]
    exact Heap.get?_push_size _ rfl
  · have e : b = (s.heap.push { cls := .type "range", data := .fields #[.int lo t, .int hi u, .int 1 v] }).objs.size := by simpa using hb
    subst e
    exact I1.fpOk (Nat.le_refl _) (I1.hok.fresh (Nat.le_refl _))
def iRng1 (ta : TA) : TI := fun σ H R => ta σ H fun vs H1 => ∃ j : Int, vs = [.int j] ∧ -(2 ^ 62) ≤ j ∧ j < 2 ^ 62 ∧ R (Itr 0 j.toNat) H1
def iRng2 (ta : TA) : TI := fun σ H R => ta σ H fun vs H1 => ∃ i j : Int, vs = [.int i, .int j] ∧ (-(2 ^ 62) ≤ i ∧ i < 2 ^ 62 ∧ -(2 ^ 62) ≤ j ∧ j < 2 ^ 62) ∧ R (Itr i (j - i).toNat) H1
theorem pi_range1 {a : Expr} {ta : TA} {p pos : Pos} (hg : Gl X "range") (hm : X.mg "range" = none) (ha : PA X [a] ta) (hs : starEach [a] X.env = [(false, eval a X.env)] := by rfl) : PI X tg (.Call (.Name "range" p) [a] [] pos) (iRng1 ta) := by
  intro pins s σ H R I h
  refine Call_ (ld_blt I hg hm boot_range (PyProof.Rows.callWith_type1 (thn (ha pos pins s σ H _ I h) fun us s1 ⟨vs, H1, I1, r1, q1⟩ => ?_) hs rfl))
  obtain ⟨j, e, q1, q2, q⟩ := q1
  subst e
  cases r1 with
  | cons r rr =>
    cases rr
    obtain ⟨t, rfl⟩ := r
    exact call_range_1 (range_it I1 (by omega) (by omega) q1 q2 (by simpa using q))
theorem qi_range1 {a : Expr} {ta : TA} {p pos : Pos} (hg : Gl X "range") (hm : X.mg "range" = none) (ha : QA X [a] ta) (hs : starEach [a] X.env = [(false, eval a X.env)] := by rfl) : QI X tg (.Call (.Name "range" p) [a] [] pos) (iRng1 ta) := ⟨pi_range1 hg hm ha.go hs⟩
/-- W: the invariant by the turn and a measure; N: what the body is to reach -/
def tFor (wi : TI) (g : TG) (tb : TS) : TS := fun D σ H => wi σ H fun J H1 => ∃ W : Nat → Nat → St → Hp → Prop, (∃ m, W 0 m σ H1) ∧ ∀ i m σ H, W i m σ H →
  (J.stop i H ∧ D.nx σ H) ∨ (J.go i H ∧ ∃ N : St → Hp → Prop, (∀ σ' H', N σ' H' → ∃ m', m' < m ∧ W (i + 1) m' σ' H') ∧ ∀ x H', J.yld i H x H' → g x σ H' fun σ2 H2 => tb { D with nx := N, ct := N, bk := D.nx } σ2 H2)
/-- the records at fp as they stand -/
def pinsAt (fp : List Addr) (h : Heap) : List (Addr × Obj) := fp.filterMap fun b => (h.get? b).map fun o => (b, o)
theorem mem_pinsAt {fp : List Addr} {h : Heap} {b : Addr} {o : Obj} (hb : b ∈ fp) (e : h.get? b = some o) : (b, o) ∈ pinsAt fp h := List.mem_filterMap.mpr ⟨b, hb, by rw [e]; rfl⟩
theorem of_pinsAt {fp : List Addr} {h : Heap} {p : Addr × Obj} (hp : p ∈ pinsAt fp h) : p.1 ∈ fp ∧ h.get? p.1 = some p.2 := by
  obtain ⟨b, hb, e⟩ := List.mem_filterMap.mp hp
  cases q : h.get? b with
  | none => rw [q] at e; cases e
  | some o =>
    rw [q] at e
    have e' : (b, o) = p := Option.some.inj e
    subst e'
    exact ⟨hb, q⟩
theorem Inv.pinned {pins : List (Addr × Obj)} {σ : St} {H : Hp} {s : Shared} {fp : List Addr} (I : Inv X pins σ H s) (hf : ∀ b ∈ fp, FpOk X pins H b) (ho : ∀ b ∈ fp, ∃ o, s.heap.get? b = some o ∧ ∀ v, o.data ≠ .cell v) : Inv X (pins ++ pinsAt fp s.heap) σ H s :=
  I.pins_of fun p hp => (List.mem_append.mp hp).elim (fun z => I.pin p (List.mem_append_right _ z)) fun z => by
    obtain ⟨hb, e⟩ := of_pinsAt z
    obtain ⟨f0, f1, f2, _⟩ := hf p.1 hb
    obtain ⟨o, e', d⟩ := ho p.1 hb
    rw [e] at e'; cases e'
    exact ⟨e, f0, f1, f2, d⟩
theorem Inv.unpinned {pins pl : List (Addr × Obj)} {σ : St} {H : Hp} {s : Shared} (I : Inv X (pins ++ pl) σ H s) : Inv X pins σ H s := I.pins_of fun p hp => I.pin p (List.mem_append_right _ (List.mem_append_left _ hp))
theorem ps_for {iter : Expr} {body : List Stmt} {wi : TI} {g : TG} {tb : TS} {pos : Pos} (hp : PassesOwn (model X.prog X.w) X.A X.env X.xe) (hc : X.calm = true) (hi : PI X tg iter wi) (hg : PG X tg g) (hb : PSs X body tb)
    (hs : ∀ x, foldedSetIterable iter X.env x = pure x := by intro _; rfl) : PS X (.For tg iter body [] pos) (tFor wi g tb) := by
  intro pins s σ H D I h
  refine wpAny_For (thn (hi pins s σ H _ I h) fun v s1 h1 => thn h1 fun itv s2 h2 => ?_) hs
  obtain ⟨it, fp, tn, J, H2, e, I2, T, st2, f2, W, ⟨m0, w0⟩, turn⟩ := h2
  subst e
  -- what stays true of the iterator's objects through the loop
  have stat : ∀ {H' : Hp}, (∀ b ∈ fp, H' b = none) → ∀ b ∈ fp, FpOk X pins H' b := fun hn b hb => ⟨hn b hb, (f2 b hb).2⟩
  refine codeAny_forLoop_any (fun n s' => ∃ i σ' H', Inv X pins σ' H' s' ∧ tn i s'.heap ∧ (∀ b ∈ fp, H' b = none) ∧ W i n σ' H') ?_ m0 ⟨0, σ, H2, I2, st2, fun b hb => (f2 b hb).1, w0⟩
  rintro n s3 ⟨i, σ3, H3, I3, st3, fr3, w3⟩
  rcases turn i n σ3 H3 w3 with ⟨stop, qn⟩ | ⟨go, N, hN, step⟩
  · refine wpAny_passesOwn hp (thn (T.done X rfl rfl rfl hc i pins s3 σ3 H3 X.xe I3 (stat fr3) st3 stop) fun r s4 ⟨hr, I4⟩ => ?_)
    subst hr
    exact wpAny_execs_nil ⟨σ3, H3, I4, qn⟩
  · refine wpAny_passesOwn hp (thn (T.item X rfl rfl rfl hc i pins s3 σ3 H3 X.xe I3 (stat fr3) st3 go) fun r s4 ⟨u, hr, h4⟩ => ?_)
    subst hr
    refine wpAny_passesOwn hp (thn h4 fun _ s5 ⟨x, H5, I5, r5, y5, st5, fr5⟩ => ?_)
    have I5' := I5.pinned (stat fr5) (T.obj _ _ st5)
    refine wpAny_passesOwn hp (thn (hg _ s5 σ3 H5 x u _ I5' r5 (step x H5 y5)) fun _ s6 ⟨σ6, H6, I6, q6⟩ => ?_)
    refine wpAny_passesOwn hp (thn (hb _ s6 σ6 H6 _ I6 q6) fun f s7 q7 => ?_)
    have again : ∀ {σ7 : St} {H7 : Hp}, Inv X (pins ++ pinsAt fp s5.heap) σ7 H7 s7 → N σ7 H7 → ∃ m, m < n ∧ ∃ i σ' H', Inv X pins σ' H' s7 ∧ tn i s7.heap ∧ (∀ b ∈ fp, H' b = none) ∧ W i m σ' H' := fun {σ7 H7} I7 n7 => by
      obtain ⟨m', hm, w7⟩ := hN σ7 H7 n7
      refine ⟨m', hm, i + 1, σ7, H7, I7.unpinned, T.keep _ _ _ st5 fun b hb o e => (I7.pin (b, o) (List.mem_append_right _ (List.mem_append_right _ (mem_pinsAt hb e)))).1, fun b hb => ?_, w7⟩
      obtain ⟨o, e, d⟩ := T.obj _ _ st5 b hb
      exact (I7.pin (b, o) (List.mem_append_right _ (List.mem_append_right _ (mem_pinsAt hb e)))).2.1
    cases f with
    | next => obtain ⟨σ7, H7, I7, n7⟩ := q7; exact again I7 n7
    | cont => obtain ⟨σ7, H7, I7, n7⟩ := q7; exact again I7 n7
    | brk => obtain ⟨σ7, H7, I7, q7⟩ := q7; exact ⟨σ7, H7, I7.unpinned, q7⟩
    | ret v => obtain ⟨x7, σ7, H7, I7, r7, q7⟩ := q7; exact ⟨x7, σ7, H7, I7.unpinned, r7, q7⟩
theorem qs_for {iter : Expr} {body : List Stmt} {wi : TI} {g : TG} {tb : TS} {pos : Pos} (hp : PassesOwn (model X.prog X.w) X.A X.env X.xe) (hc : X.calm = true) (hi : QI X tg iter wi) (hg : QG X tg g) (hb : QSs X body tb) (hs : ∀ x, foldedSetIterable iter X.env x = pure x := by intro _; rfl) : QS X (.For tg iter body [] pos) (tFor wi g tb) := ⟨ps_for hp hc hi.go hg.go hb.go hs⟩
end


/-- over a list that the body leaves as it is -/
theorem for_list {K : PySem.W.Frag} {a : Addr} {xs : List V} {g : TG} {tb : TS} {D : Ends} {σ : St} {H : Hp} (Pv : Nat → St → Hp → Prop) (h0 : Pv 0 σ H) (hl : ∀ i σ H, i ≤ xs.length → Pv i σ H → SqL K H a xs)
    (hs : ∀ i x σ H, xs[i]? = some x → Pv i σ H → g x σ H fun σ2 H2 => tb { D with nx := Pv (i + 1), ct := Pv (i + 1), bk := D.nx } σ2 H2) (hd : ∀ σ H, Pv xs.length σ H → D.nx σ H) :
    ∃ W : Nat → Nat → St → Hp → Prop, (∃ m, W 0 m σ H) ∧ ∀ i m σ H, W i m σ H →
      ((Itl K a).stop i H ∧ D.nx σ H) ∨ ((Itl K a).go i H ∧ ∃ N : St → Hp → Prop, (∀ σ' H', N σ' H' → ∃ m', m' < m ∧ W (i + 1) m' σ' H') ∧ ∀ x H', (Itl K a).yld i H x H' → g x σ H' fun σ2 H2 => tb { D with nx := N, ct := N, bk := D.nx } σ2 H2) := by
  refine ⟨fun i m σ H => m = xs.length - i ∧ i ≤ xs.length ∧ Pv i σ H, ⟨xs.length, by simp, Nat.zero_le _, h0⟩, ?_⟩
  rintro i m σ H ⟨rfl, hi, p⟩
  have q := hl i σ H hi p
  by_cases hlt : i < xs.length
  · refine .inr ⟨⟨xs, xs[i], q, by simp [hlt]⟩, Pv (i + 1), fun σ' H' p' => ⟨xs.length - (i + 1), by omega, rfl, hlt, p'⟩, fun x H' y => ?_⟩
    obtain ⟨e, y⟩ := y
    subst e
    exact hs i x σ _ (y xs q) p
  · have e : i = xs.length := by omega
    subst e
    exact .inl ⟨⟨xs, q, Nat.le_refl _⟩, hd σ H p⟩
theorem for_range {lo : Int} {n : Nat} {g : TG} {tb : TS} {D : Ends} {σ : St} {H : Hp} (Pv : Nat → St → Hp → Prop) (h0 : Pv 0 σ H)
    (hs : ∀ i σ H, i < n → Pv i σ H → g (.int (lo + i)) σ H fun σ2 H2 => tb { D with nx := Pv (i + 1), ct := Pv (i + 1), bk := D.nx } σ2 H2) (hd : ∀ σ H, Pv n σ H → D.nx σ H) :
    ∃ W : Nat → Nat → St → Hp → Prop, (∃ m, W 0 m σ H) ∧ ∀ i m σ H, W i m σ H →
      ((Itr lo n).stop i H ∧ D.nx σ H) ∨ ((Itr lo n).go i H ∧ ∃ N : St → Hp → Prop, (∀ σ' H', N σ' H' → ∃ m', m' < m ∧ W (i + 1) m' σ' H') ∧ ∀ x H', (Itr lo n).yld i H x H' → g x σ H' fun σ2 H2 => tb { D with nx := N, ct := N, bk := D.nx } σ2 H2) := by
  refine ⟨fun i m σ H => m = n - i ∧ i ≤ n ∧ Pv i σ H, ⟨n, by simp, Nat.zero_le _, h0⟩, ?_⟩
  rintro i m σ H ⟨rfl, hi, p⟩
  by_cases hlt : i < n
  · refine .inr ⟨hlt, Pv (i + 1), fun σ' H' p' => ⟨n - (i + 1), by omega, rfl, hlt, p'⟩, fun x H' y => ?_⟩
    obtain ⟨e, y⟩ := y
    subst e y
    exact hs i σ _ hlt p
  · have e : i = n := by omega
    subst e
    exact .inl ⟨Nat.le_refl _, hd σ H p⟩
end L2

namespace L2
open PySem PySem.Spec PyProof.Rows

abbrev R2 := V → V → Hp → VK → Prop
/-- a two-place operation on values: f is binaryOp op, inplaceOp op or compareOp op -/
def OpR (X : Cx) (f : Value → Value → Sem Value) (r : R2) : Prop :=
  ∀ (pins : List (Addr × Obj)) (s : Shared) (σ : St) (H : Hp) (x y : V) (v u : Value) (Q : VK), Inv X pins σ H s → RelV x v → RelV y u → r x y H Q →
    wpAny (model X.prog X.w) X.A (f v u) (EP X pins σ Q) X.xe s
/-- a one-place operation -/
def UnR (X : Cx) (f : Value → Sem Value) (r : V → Hp → VK → Prop) : Prop :=
  ∀ (pins : List (Addr × Obj)) (s : Shared) (σ : St) (H : Hp) (x : V) (v : Value) (Q : VK), Inv X pins σ H s → RelV x v → r x H Q →
    wpAny (model X.prog X.w) X.A (f v) (EP X pins σ Q) X.xe s
/-- a call of a value that is known (a builtin, a type) with values -/
def CallR (X : Cx) (f : Value) (r : List V → Hp → VK → Prop) : Prop :=
  ∀ (pins : List (Addr × Obj)) (s : Shared) (σ : St) (H : Hp) (xs : List V) (us : List Value) (Q : VK), Inv X pins σ H s → Vals xs us → r xs H Q →
    wpAny (model X.prog X.w) X.A (call f us) (EP X pins σ Q) X.xe s
/-- a value's truth -/
def TruR (X : Cx) (r : V → Hp → (Bool → Hp → Prop) → Prop) : Prop :=
  ∀ (pins : List (Addr × Obj)) (s : Shared) (σ : St) (H : Hp) (x : V) (v : Value) (Q : Bool → Hp → Prop), Inv X pins σ H s → RelV x v → r x H Q →
    wpAny (model X.prog X.w) X.A (truthy v) (TP X pins σ Q) X.xe s

def tOp (r : R2) (ta tb : TE) : TE := fun σ H Q => ta σ H fun x H1 => tb σ H1 fun y H2 => r x y H2 Q
def tUn (r : V → Hp → VK → Prop) (ta : TE) : TE := fun σ H Q => ta σ H fun x H1 => r x H1 Q
/-- ints in, under C, and a value out -/
def rI (C : Int → Int → Prop) (g : Int → Int → V) : R2 := fun x y H Q => ∃ i j, x = .int i ∧ y = .int j ∧ C i j ∧ Q (g i j) H
def rI0 (g : Int → Int → V) : R2 := fun x y H Q => ∃ i j, x = .int i ∧ y = .int j ∧ Q (g i j) H
def rU (g : Int → V) : V → Hp → VK → Prop := fun x H Q => ∃ i, x = .int i ∧ Q (g i) H

section
variable {X : Cx} {a b c : Expr} {ta tb tc : TE} {pos : Pos}

theorem binT (ha : PE X a ta) (hb : PE X b tb) {pins : List (Addr × Obj)} {s : Shared} {σ : St} {H : Hp} {R : V → V → Hp → Prop} (I : Inv X pins σ H s)
    (h : ta σ H fun x H1 => tb σ H1 fun y H2 => R x y H2) {Q : Value → Shared → Prop} {f : Value → Value → Sem Value}
    (hf : ∀ v u s2 x y H2, Inv X pins σ H2 s2 → RelV x v → RelV y u → R x y H2 → wpAny (model X.prog X.w) X.A (f v u) Q X.xe s2) :
    wpAny (model X.prog X.w) X.A (eval a X.env) (fun v s₁ => wpAny (model X.prog X.w) X.A (eval b X.env) (fun u s₂ => wpAny (model X.prog X.w) X.A (f v u) Q X.xe s₂) X.xe s₁) X.xe s := by
  refine thn (ha pins s σ H _ I h) fun v s1 ⟨x, H1, I1, r1, q1⟩ => ?_
  refine thn (hb pins s1 σ H1 _ I1 q1) fun u s2 ⟨y, H2, I2, r2, q2⟩ => ?_
  exact hf v u s2 x y H2 I2 r1 r2 q2

theorem pe_op {op : Operator} {r : R2} (ho : OpR X (binaryOp op) r) (ha : PE X a ta) (hb : PE X b tb) : PE X (.BinOp a op b pos) (tOp r ta tb) := by
  intro pins s σ H Q I h
  exact wpAny_BinOp (binT ha hb I h fun v u s2 x y H2 I2 rx ry q => ho pins s2 σ H2 x y v u Q I2 rx ry q)
theorem qe_op {op : Operator} {r : R2} (ho : OpR X (binaryOp op) r) (ha : QE X a ta) (hb : QE X b tb) : QE X (.BinOp a op b pos) (tOp r ta tb) := ⟨pe_op ho ha.go hb.go⟩
theorem opI {f : Value → Value → Sem Value} {C : Int → Int → Prop} {g : Int → Int → Int}
    (rule : ∀ (i j : Int) (t u : Tok) (s : Shared) (Q : Value → Shared → Prop) (E : Value → Shared → Prop), C i j → Q (.int (g i j) s.toks) { s with toks := s.toks + 1 } → wpAny (model X.prog X.w) X.A (f (.int i t) (.int j u)) Q E s) :
    OpR X f (rI C fun i j => .int (g i j)) := by
  intro pins s σ H x y v u Q I rx ry h
  obtain ⟨i, j, rfl, rfl, hc, q⟩ := h
  obtain ⟨t, rfl⟩ := rx
  obtain ⟨t', rfl⟩ := ry
  exact rule i j t t' s _ _ hc ⟨.int (g i j), H, I.tok _, ⟨_, rfl⟩, q⟩
theorem opI0 {f : Value → Value → Sem Value} {g : Int → Int → Int}
    (rule : ∀ (i j : Int) (t u : Tok) (s : Shared) (Q : Value → Shared → Prop) (E : Value → Shared → Prop), Q (.int (g i j) s.toks) { s with toks := s.toks + 1 } → wpAny (model X.prog X.w) X.A (f (.int i t) (.int j u)) Q E s) :
    OpR X f (rI0 fun i j => .int (g i j)) := by
  intro pins s σ H x y v u Q I rx ry h
  obtain ⟨i, j, rfl, rfl, q⟩ := h
  obtain ⟨t, rfl⟩ := rx
  obtain ⟨t', rfl⟩ := ry
  exact rule i j t t' s _ _ ⟨.int (g i j), H, I.tok _, ⟨_, rfl⟩, q⟩
theorem opB0 {f : Value → Value → Sem Value} {g : Int → Int → Bool}
    (rule : ∀ (i j : Int) (t u : Tok) (s : Shared) (Q : Value → Shared → Prop) (E : Value → Shared → Prop), Q (.bool (g i j)) s → wpAny (model X.prog X.w) X.A (f (.int i t) (.int j u)) Q E s) :
    OpR X f (rI0 fun i j => .bl (g i j)) := by
  intro pins s σ H x y v u Q I rx ry h
  obtain ⟨i, j, rfl, rfl, q⟩ := h
  obtain ⟨t, rfl⟩ := rx
  obtain ⟨t', rfl⟩ := ry
  exact rule i j t t' s _ _ ⟨.bl (g i j), H, I, rfl, q⟩

def CDiv (i j : Int) : Prop := 0 < j ∧ j < 1073741824
def CDivN (i j : Int) : Prop := j ≠ 0 ∧ j.natAbs < 1073741824
def CPow (i j : Int) : Prop := 0 ≤ j ∧ j ≤ 1000000 ∧ i.natAbs < 2 ^ 64
def CMul (i j : Int) : Prop := (-(2 ^ 64) < i ∧ i < 2 ^ 64) ∨ (-(2 ^ 64) < j ∧ j < 2 ^ 64)
theorem CMul.ok {i j : Int} (h : CMul i j) : IntMulOk i j := by
  rcases h with ⟨h1, h2⟩ | ⟨h1, h2⟩
  · exact .of_left (intBits_le_64 h1 h2)
  · exact .of_right (intBits_le_64 h1 h2)
theorem op_add : OpR X (binaryOp .Add) (rI0 fun i j => .int (i + j)) := opI0 fun _ _ _ _ _ _ _ q => add_int q
theorem op_sub : OpR X (binaryOp .Sub) (rI0 fun i j => .int (i - j)) := opI0 fun _ _ _ _ _ _ _ q => sub_int q
theorem op_mul : OpR X (binaryOp .Mult) (rI CMul fun i j => .int (i * j)) := opI fun _ _ _ _ _ _ _ hc q => mul_int q hc.ok
/-- % by a positive divisor of any size -/
theorem op_mod : OpR X (binaryOp .Mod) (rI (fun _ j => 0 < j) fun i j => .int (i % j)) := opI fun i j _ _ _ _ _ hc q => by
  have h1 : (0 : Int) < j := hc
  exact mod_int' (by omega) (by rw [Int.fmod_eq_emod_of_nonneg i (by omega)]; exact q)
theorem op_pow : OpR X (binaryOp .Pow) (rI CPow fun i j => .int (i ^ j.toNat)) := opI fun _ _ _ _ _ _ _ hc q => pow_int_small hc.1 hc.2.1 hc.2.2 q
end


/-- the scalars that == tells apart as data does -/
def scal : V → V → Bool
  | .non, .non => true | .non, .int _ => true | .int _, .non => true | .non, .bl _ => true | .bl _, .non => true | .non, .str _ => true | .str _, .non => true
  | .int _, .int _ => true | .bl _, .bl _ => true | .str _, .str _ => true | .byt _, .byt _ => true
  | .int _, .str _ => true | .str _, .int _ => true | .bl _, .str _ => true | .str _, .bl _ => true
  | _, _ => false
def rEq : R2 := fun x y H Q => scal x y = true ∧ Q (.bl (decide (x = y))) H
def rNe : R2 := fun x y H Q => scal x y = true ∧ Q (.bl (!decide (x = y))) H

theorem dec_int {i j : Int} : decide (V.int i = V.int j) = (i == j) := by
  rw [Bool.eq_iff_iff]
  simp
theorem dec_bl {i j : Bool} : decide (V.bl i = V.bl j) = (i == j) := by
  rw [Bool.eq_iff_iff]
  simp
theorem dec_str {i j : Str} : decide (V.str i = V.str j) = (i == j) := by
  rw [Bool.eq_iff_iff]
  simp
theorem dec_byt {i j : Array UInt8} : decide (V.byt i = V.byt j) = (i.toList == j.toList) := by
  rw [Bool.eq_iff_iff]
  cases i
  cases j
  simp

section
variable {X : Cx} {a b c : Expr} {ta tb tc : TE} {pos : Pos}
theorem fin_bl {pins : List (Addr × Obj)} {σ : St} {H : Hp} {s : Shared} {Q : VK} {k k' : Bool} (I : Inv X pins σ H s) (q : Q (.bl k) H) (e : k = k') : EP X pins σ Q (.bool k') s := by
  subst e
  exact ⟨.bl k, H, I, rfl, q⟩
theorem op_eq : OpR X (compareOp .Eq) rEq := by
  intro pins s σ H x y v u Q I rx ry h
  obtain ⟨hs, q⟩ := h
  cases x with
  | non =>
    cases rx
    cases y with
    | non => cases ry; exact PySem.EqNone.eq_none_none (fin_bl I q (by simp))
    | bl j => cases ry; exact PySem.EqNone.eq_none_bool (fin_bl I q (by simp))
    | int j => obtain ⟨t', rfl⟩ := ry; exact PySem.EqNone.eq_none_int (fin_bl I q (by simp))
    | str j => obtain ⟨t', rfl⟩ := ry; exact PySem.EqNone.eq_none_str (fin_bl I q (by simp))
    | _ => exact absurd (show false = true from hs) Bool.false_ne_true
  | bl i =>
    cases rx
    cases y with
    | non => cases ry; exact PySem.EqNone.eq_bool_none (fin_bl I q (by simp))
    | bl j => cases ry; exact eq_bool (fin_bl I q dec_bl)
    | str j => obtain ⟨t', rfl⟩ := ry; exact PySem.EqMixed.eq_bool_str (fin_bl I q (by simp))
    | _ => exact absurd (show false = true from hs) Bool.false_ne_true
  | int i =>
    obtain ⟨t, rfl⟩ := rx
    cases y with
    | non => cases ry; exact PySem.EqNone.eq_int_none (fin_bl I q (by simp))
    | int j => obtain ⟨t', rfl⟩ := ry; exact eq_int (fin_bl I q dec_int)
    | str j => obtain ⟨t', rfl⟩ := ry; exact PySem.EqMixed.eq_int_str (fin_bl I q (by simp))
    | _ => exact absurd (show false = true from hs) Bool.false_ne_true
  | str i =>
    obtain ⟨t, rfl⟩ := rx
    cases y with
    | non => cases ry; exact PySem.EqNone.eq_str_none (fin_bl I q (by simp))
    | bl j => cases ry; exact PySem.EqMixed.eq_str_bool (fin_bl I q (by simp))
    | int j => obtain ⟨t', rfl⟩ := ry; exact PySem.EqMixed.eq_str_int (fin_bl I q (by simp))
    | str j => obtain ⟨t', rfl⟩ := ry; exact eq_str (fin_bl I q dec_str)
    | _ => exact absurd (show false = true from hs) Bool.false_ne_true
  | byt i =>
    obtain ⟨t, rfl⟩ := rx
    cases y with
    | byt j => obtain ⟨t', rfl⟩ := ry; exact PySem.W.eq_bytes (fin_bl I q dec_byt)
    | _ => exact absurd (show false = true from hs) Bool.false_ne_true
  | _ => cases y <;> exact absurd (show false = true from hs) Bool.false_ne_true
theorem op_ne : OpR X (compareOp .NotEq) rNe := by
  intro pins s σ H x y v u Q I rx ry h
  obtain ⟨hs, q⟩ := h
  cases x with
  | non =>
    cases rx
    cases y with
    | non => cases ry; exact PySem.EqNone.ne_none_none (fin_bl I q (by simp))
    | bl j => cases ry; exact PySem.EqNone.ne_none_bool (fin_bl I q (by simp))
    | int j => obtain ⟨t', rfl⟩ := ry; exact PySem.EqNone.ne_none_int (fin_bl I q (by simp))
    | str j => obtain ⟨t', rfl⟩ := ry; exact PySem.EqNone.ne_none_str (fin_bl I q (by simp))
    | _ => exact absurd (show false = true from hs) Bool.false_ne_true
  | bl i =>
    cases rx
    cases y with
    | non => cases ry; exact PySem.EqNone.ne_bool_none (fin_bl I q (by simp))
    | bl j => cases ry; exact ne_bool (fin_bl I q (congrArg not dec_bl))
    | str j => obtain ⟨t', rfl⟩ := ry; exact PySem.EqMixed.ne_bool_str (fin_bl I q (by simp))
    | _ => exact absurd (show false = true from hs) Bool.false_ne_true
  | int i =>
    obtain ⟨t, rfl⟩ := rx
    cases y with
    | non => cases ry; exact PySem.EqNone.ne_int_none (fin_bl I q (by simp))
    | int j => obtain ⟨t', rfl⟩ := ry; exact ne_int (fin_bl I q (congrArg not dec_int))
    | str j => obtain ⟨t', rfl⟩ := ry; exact PySem.EqMixed.ne_int_str (fin_bl I q (by simp))
    | _ => exact absurd (show false = true from hs) Bool.false_ne_true
  | str i =>
    obtain ⟨t, rfl⟩ := rx
    cases y with
    | non => cases ry; exact PySem.EqNone.ne_str_none (fin_bl I q (by simp))
    | bl j => cases ry; exact PySem.EqMixed.ne_str_bool (fin_bl I q (by simp))
    | int j => obtain ⟨t', rfl⟩ := ry; exact PySem.EqMixed.ne_str_int (fin_bl I q (by simp))
    | str j => obtain ⟨t', rfl⟩ := ry; exact ne_str (fin_bl I q (congrArg not dec_str))
    | _ => exact absurd (show false = true from hs) Bool.false_ne_true
  | byt i =>
    obtain ⟨t, rfl⟩ := rx
    cases y with
    | byt j => obtain ⟨t', rfl⟩ := ry; exact PySem.W.ne_bytes (fin_bl I q (congrArg not dec_byt))
    | _ => exact absurd (show false = true from hs) Bool.false_ne_true
  | _ => cases y <;> exact absurd (show false = true from hs) Bool.false_ne_true

theorem op_lt : OpR X (compareOp .Lt) (rI0 fun i j => .bl (decide (i < j))) := opB0 fun _ _ _ _ _ _ _ q => lt_int q
theorem op_gt : OpR X (compareOp .Gt) (rI0 fun i j => .bl (decide (j < i))) := opB0 fun _ _ _ _ _ _ _ q => gt_int q
theorem op_ge : OpR X (compareOp .GtE) (rI0 fun i j => .bl (decide (j ≤ i))) := opB0 fun _ _ _ _ _ _ _ q => ge_int q
/-- is, is not of two objects that are tracked lists or instances -/
def isObj : HO → Bool
  | .lst _ => true
  | .ins _ _ _ => true
  | _ => false
/-- two rules for one operation: by cases -/
theorem OpR.or {f : Value → Value → Sem Value} {r r' : R2} (h : OpR X f r) (h' : OpR X f r') : OpR X f (fun x y H Q => r x y H Q ∨ r' x y H Q) := by
  intro pins s σ H x y v u Q I rx ry q
  rcases q with q | q
  · exact h pins s σ H x y v u Q I rx ry q
  · exact h' pins s σ H x y v u Q I rx ry q

theorem nomark (b : Expr) {op : CmpOp} (h : op ≠ .In := by decide) (h2 : op ≠ .NotIn := by decide) : behindInMarks op b = false := by
  have e1 : (op == CmpOp.In) = false := by cases op <;> first | rfl | exact absurd rfl h
  have e2 : (op == CmpOp.NotIn) = false := by cases op <;> first | rfl | exact absurd rfl h2
  cases b <;> simp [behindInMarks, e1, e2]
/-- a comparison as a value; hm: nomark b, or (for in, not in) by with_unfolding_all rfl -/
theorem pe_cmpR {op : CmpOp} {r : R2} (ho : OpR X (compareOp op) r) (ha : PE X a ta) (hb : PE X b tb) (hm : behindInMarks op b = false) : PE X (.Compare a [op] [b] pos) (tOp r ta tb) := by
  intro pins s σ H Q I h
  exact wpAny_Compare1 (binT ha hb I h fun v u s2 x y H2 I2 rx ry q => ho pins s2 σ H2 x y v u Q I2 rx ry q) hm
theorem qe_cmpR {op : CmpOp} {r : R2} (ho : OpR X (compareOp op) r) (ha : QE X a ta) (hb : QE X b tb) (hm : behindInMarks op b = false) : QE X (.Compare a [op] [b] pos) (tOp r ta tb) := ⟨pe_cmpR ho ha.go hb.go hm⟩
/-- a reading of a value as a test -/
def tTest (t : TE) : TT := fun σ H Q => t σ H fun x H' => ∃ k, x = .bl k ∧ Q k H'
theorem pt_cmpR {op : CmpOp} {r : R2} (ho : OpR X (compareOp op) r) (ha : PE X a ta) (hb : PE X b tb) (hm : behindInMarks op b = false) : PT X (.Compare a [op] [b] pos) (tTest (tOp r ta tb)) := by
  intro pins s σ H Q I h
  refine wpAny_isTrue_Compare1 (thn (ha pins s σ H _ I h) fun v s1 ⟨x, H1, I1, r1, q1⟩ => thn (hb pins s1 σ H1 _ I1 q1) fun u s2 ⟨y, H2, I2, r2, q2⟩ =>
    thn (ho pins s2 σ H2 x y v u _ I2 r1 r2 q2) fun c s3 ⟨z, H3, I3, r3, k, e, q3⟩ => ?_) hm
  subst e
  cases r3
  exact wpAny_truthy_bool ⟨H3, I3, q3⟩
theorem qt_cmpR {op : CmpOp} {r : R2} (ho : OpR X (compareOp op) r) (ha : QE X a ta) (hb : QE X b tb) (hm : behindInMarks op b = false) : QT X (.Compare a [op] [b] pos) (tTest (tOp r ta tb)) := ⟨pt_cmpR ho ha.go hb.go hm⟩
/-- a op1 b op2 c -/
def tChain (r r' : R2) (ta tb tc : TE) : TE := fun σ H Q => ta σ H fun x H1 => tb σ H1 fun y H2 => r x y H2 fun z H3 => ∃ k, z = .bl k ∧
  (if k = true then tc σ H3 fun w' H4 => r' y w' H4 Q else Q (.bl false) H3)
/-- a value's truth by the abstract heap -/
def TruV (K : PySem.W.Frag) (x : V) (H : Hp) (k : Bool) : Prop :=
  match x with
  | .non => k = false
  | .bl b => k = b
  | .int i => k = (i != 0)
  | .str y => y.length ≤ sizeLine ∧ k = ((y.length : Int) != 0)
  | .byt y => y.size ≤ sizeLine ∧ k = ((y.size : Int) != 0)
  | .ref p => (∃ xs, SqL K H p xs ∧ k = !xs.isEmpty) ∨ (∃ xs, SqT K H p xs ∧ k = !xs.isEmpty) ∨ ∃ kvs, H p = some (.dK kvs) ∧ k = !kvs.isEmpty
  | _ => False
theorem line63 : (sizeLine : Nat) < 2 ^ 63 := by rw [sizeLine_eq]; decide
def PlainIxT (b : Expr) : Prop := ∀ o i, subscripted b false o i = operate [o, i] (getItem o i)
theorem vals1 {x : V} {us : List Value} (r : Vals [x] us) : ∃ u, us = [u] ∧ RelV x u := by
  cases r with
  | cons r1 r2 => cases r2; exact ⟨_, rfl, r1⟩
theorem vals2 {x y : V} {us : List Value} (r : Vals [x, y] us) : ∃ u w', us = [u, w'] ∧ RelV x u ∧ RelV y w' := by
  cases r with
  | cons r1 r2 =>
    cases r2 with
    | cons r3 r4 => cases r4; exact ⟨_, _, rfl, r1, r3⟩
theorem call_max2 (hc : X.calm = true) : CallR X (.builtin "max") (fun xs H Q => ∃ i j, xs = [.int i, .int j] ∧ Q (.int (if j > i then j else i)) H) := by
  intro pins s σ H xs us Q I r h
  obtain ⟨i, j, rfl, q⟩ := h
  obtain ⟨u, w', rfl, ⟨t, rfl⟩, ⟨t', rfl⟩⟩ := vals2 r
  refine max_two_ints (I.ok.hd hc) fun h' tk k => ⟨_, H, I.kept k, ?_, q⟩
  by_cases hj : j > i
  · rw [if_pos hj, if_pos hj]; exact ⟨_, rfl⟩
  · rw [if_neg hj, if_neg hj]; exact ⟨_, rfl⟩
theorem call_min2 (hc : X.calm = true) : CallR X (.builtin "min") (fun xs H Q => ∃ i j, xs = [.int i, .int j] ∧ Q (.int (if j < i then j else i)) H) := by
  intro pins s σ H xs us Q I r h
  obtain ⟨i, j, rfl, q⟩ := h
  obtain ⟨u, w', rfl, ⟨t, rfl⟩, ⟨t', rfl⟩⟩ := vals2 r
  refine min_two_ints (I.ok.hd hc) fun h' tk k => ⟨_, H, I.kept k, ?_, q⟩
  by_cases hj : j < i
  · rw [if_pos hj, if_pos hj]; exact ⟨_, rfl⟩
  · rw [if_neg hj, if_neg hj]; exact ⟨_, rfl⟩
theorem call_int1 : CallR X (.type "int") (fun xs H Q => (∃ i, xs = [.int i] ∧ Q (.int i) H) ∨ ∃ k, xs = [.bl k] ∧ Q (.int (if k then 1 else 0)) H) := by
  intro pins s σ H xs us Q I r h
  rcases h with ⟨i, rfl, q⟩ | ⟨k, rfl, q⟩
  · obtain ⟨u, rfl, t, rfl⟩ := vals1 r
    exact call_int_int ⟨.int i, H, I, ⟨_, rfl⟩, q⟩
  · obtain ⟨u, rfl, r1⟩ := vals1 r
    cases r1
    exact call_int_bool ⟨.int (if k then 1 else 0), H, I.tok _, ⟨_, rfl⟩, q⟩
/-- len of a str, a bytes, a list, a tuple -/
def LenV (K : PySem.W.Frag) (x : V) (H : Hp) (n : Nat) : Prop :=
  match x with
  | .str y => y.length ≤ sizeLine ∧ n = y.length
  | .byt y => y.size ≤ sizeLine ∧ n = y.size
  | .ref p => (∃ xs, SqL K H p xs ∧ n = xs.length) ∨ ∃ xs, SqT K H p xs ∧ n = xs.length
  | _ => False
end
end L2

namespace L2
open PySem PySem.Spec PyProof.Rows


structure ObjM (h : Heap) (x dx C : Addr) (mA : Str → Option Value) : Prop where
  obj : h.get? x = some (PySem.W.instObj C dx)
  ns : h.Ns1 dx mA
  ne : dx ≠ x

theorem lookIn_ns {h : Heap} {dx : Addr} {mA : Str → Option Value} (n : h.Ns1 dx mA) : ∃ od, h.get? dx = some od ∧ ∀ name, PySem.W.lookIn name od = some (mA name) := by
  obtain ⟨o, es, ep, ho, hd, hk, _, hm⟩ := n
  refine ⟨o, ho, fun name => ?_⟩
  have e := hm name
  unfold nsFind findBy at e
  rw [← Array.find?_toList] at e
  unfold PySem.W.lookIn
  rw [hd]
  dsimp only
  split
  · rename_i y q
    rw [q] at e
    exact congrArg some e
  · rename_i q
    rw [q] at e
    have a : es.toList.any (·.refKey) = false := by
      rw [List.any_eq_false]
      intro y hy
      obtain ⟨z, t, hkey⟩ := hk y (Array.mem_toList_iff.mp hy)
      simp [DictEntry.refKey, hkey]
    have a' : ¬ es.toList.any (·.refKey) = true := by rw [a]; exact Bool.false_ne_true
    rw [if_neg a']
    exact congrArg some e

theorem ObjM.look {h : Heap} {x dx C : Addr} {mA : Str → Option Value} (I : ObjM h x dx C mA) : ∃ od, PySem.W.InstAt h x (PySem.W.instObj C dx) C (some od) ∧ ∀ name, PySem.W.lookIn name od = some (mA name) :=
  let ⟨od, ho, hl⟩ := lookIn_ns I.ns
  ⟨od, ⟨I.obj, rfl, rfl, ho⟩, hl⟩

section
variable {prog : Program} {w : World} {A : Around} {E : Value → Shared → Prop} {s : Shared} {K : PySem.W.Frag} {x dx C f : Addr} {mA : Str → Option Value} {name : Str} {v : Value}

end


def putF (f : Str) (v : V) : List (Str × V) → List (Str × V)
  | [] => [(f, v)]
  | (g, x) :: r => if g = f then (g, v) :: r else (g, x) :: putF f v r
theorem handed_of {v : V} {u : Value} (r : RelV v u) : PySem.W.handedIn u = true := by
  cases v with
  | non => cases (show u = Value.none from r); rfl
  | bl b => cases (show u = Value.bool b from r); rfl
  | int i => obtain ⟨t, e⟩ := (show ∃ t, u = Value.int i t from r); cases e; rfl
  | str x => obtain ⟨t, e⟩ := (show ∃ t, u = Value.str x t from r); cases e; rfl
  | byt b => obtain ⟨t, e⟩ := (show ∃ t, u = Value.bytes b t from r); cases e; rfl
  | flt b => obtain ⟨t, e⟩ := (show ∃ t, u = Value.float b t from r); cases e; rfl
  | ref a => cases (show u = Value.ref a from r); rfl
  | ty n => cases (show u = Value.type n from r); rfl

section
variable {P : Program} {w : World} {H H' : Hp} {h h' : Heap} {a C dx : Addr} {fs fs' : List (Str × V)}
theorem ins_get (hok : HOk P w H h) (e : H a = some (.ins C dx fs)) : ∃ mA, ObjM h a dx C mA ∧ (∀ f, RelO (fs.lookup f) (mA f)) ∧ PySem.Within mA (fs.map (·.1)) ∧ fs.length ≤ 1000 ∧ H dx = some (.own a) := by
  obtain ⟨d, z, ne, ob, mA, n, r, q⟩ := (show ObjOk P w H h a (.ins C dx fs) from hok a _ e)
  exact ⟨mA, ⟨ob, n, ne⟩, r, q, z, d⟩
end


structure Cls (K : PySem.W.Frag) (C : Addr) : Prop where
  pg : PySem.W.plainGet K C Str.empty = true
  hd : PySem.W.hasDictIn K C = true
  po : PySem.W.plainOver K C = true
  sa : PySem.W.findIn K (.ref C) "__setattr__" = some (some (.builtin "object.__setattr__"))
theorem Cls.get {K : PySem.W.Frag} {C : Addr} (c : Cls K C) (f : Str) : PySem.W.plainGet K C f = true := c.pg
/-- no class of it has the name -/
def NoAttr (K : PySem.W.Frag) (C : Addr) (f : Str) : Prop := PySem.W.findIn K (.ref C) f = some none
/-- a constant of the class -/
structure Con (K : PySem.W.Frag) (C : Addr) (f : Str) (v : V) (u : Value) : Prop where
  at_ : PySem.W.findIn K (.ref C) f = some (some u)
  rel : RelV v u
  get : PySem.W.specialIn K u "__get__" = some none
  cp : PySem.W.copiedNames.contains f = false
/-- a method: a plain def of the class or of one above it -/
structure Meth (K : PySem.W.Frag) (C : Addr) (m : Str) (f : Addr) : Prop where
  at_ : PySem.W.findIn K (.ref C) m = some (some (.ref f))
  fn : PySem.W.isFn K (.ref f) = true
  kp : PySem.W.keepIn K (.ref f) = true

section
variable {X : Cx} {pins : List (Addr × Obj)} {σ : St} {H : Hp} {s : Shared} {a C dx : Addr} {fs : List (Str × V)} {f : Str} {v : V} {A : Around} {E : Value → Shared → Prop}

/-- a new instance, tracked, without attributes -/
theorem Inv.made (I : Inv X pins σ H s) : Inv X pins σ (upd (upd H s.heap.objs.size (.own (s.heap.objs.size + 1))) (s.heap.objs.size + 1) (.ins C s.heap.objs.size []))
    { s with heap := (s.heap.push PySem.W.emptyDict).push (PySem.W.instObj C s.heap.objs.size) } := by
  have e1 : (s.heap.push PySem.W.emptyDict).get? s.heap.objs.size = some PySem.W.emptyDict := Heap.get?_push_size s.heap rfl
  have e2 : ((s.heap.push PySem.W.emptyDict).push (PySem.W.instObj C s.heap.objs.size)).get? (s.heap.objs.size + 1) = some (PySem.W.instObj C s.heap.objs.size) := by
    have := Heap.get?_push_size (s.heap.push PySem.W.emptyDict) (o := PySem.W.instObj C s.heap.objs.size) rfl
    rwa [Heap.size_push] at this
  have e3 : (s.heap.push PySem.W.emptyDict).Ns s.heap.objs.size (fun _ => none) := ⟨PySem.W.emptyDict, #[], _, e1, rfl, (fun e he => absurd he (by simp)), fun _ => rfl⟩
  have I1 := I.laid (a := s.heap.objs.size) (o := .own (s.heap.objs.size + 1)) (h' := s.heap.push PySem.W.emptyDict) (t' := s.toks) (fun b u q => Heap.get?_push_of_some _ q) (Nat.le_refl _) ⟨_, e1⟩
  refine I1.laid (a := s.heap.objs.size + 1) (o := .ins C s.heap.objs.size []) (t' := s.toks) (fun b u q => Heap.get?_push_of_some _ q) (Nat.le_of_eq (Heap.size_push _ _)) ?_
  have ne : s.heap.objs.size ≠ s.heap.objs.size + 1 := Nat.ne_of_lt (Nat.lt_succ_self _)
  refine ⟨by rw [upd_ne ne, upd_same], Nat.zero_le _, ne, e2, fun _ => none, (Heap.Ns1.of_empty e3).at fun o q => Heap.get?_push_of_some _ q, fun _ => True.intro, fun y hy => absurd rfl hy⟩

/-- e.f where nothing but the object is asked: through attributeBase (super) and the last hold -/
theorem attr_of {prog : Program} {w : World} {env : Env} {e : Expr} {f : Str} {pos : Pos} {s : Shared} {Q : Value → Shared → Prop} (hb : attributeBase e f env (eval e env) = eval e env)
    (h : wpAny (model prog w) A (eval e env) (fun o s₁ => wpAny (model prog w) A (getAttr o f true) Q E s₁) E s) : wpAny (model prog w) A (eval (.Attribute e f pos) env) Q E s :=
  Attribute_any_ h (by rw [arm_eval_Attribute, hb])
end


/-- e.f, an attribute of the instance -/
def tFld (K : PySem.W.Frag) (ta : TE) (f : Str) : TE := fun σ H Q => ta σ H fun x H1 => ∃ a C dx fs v, x = .ref a ∧ H1 a = some (.ins C dx fs) ∧ Cls K C ∧ NoAttr K C f ∧ fs.lookup f = some v ∧ Q v H1
/-- e.f, a constant of the class -/
def tCon (K : PySem.W.Frag) (ta : TE) (f : Str) : TE := fun σ H Q => ta σ H fun x H1 => ∃ a C dx fs v u, x = .ref a ∧ H1 a = some (.ins C dx fs) ∧ Cls K C ∧ Con K C f v u ∧ fs.lookup f = none ∧ Q v H1
/-- e.f = value -/
def sFld (K : PySem.W.Frag) (ta tv : TE) (f : Str) : TS := fun D σ H => tv σ H fun y H1 => ta σ H1 fun x H2 => ∃ a C dx fs, x = .ref a ∧ H2 a = some (.ins C dx fs) ∧ Cls K C ∧ NoAttr K C f ∧ fs.length < 1000 ∧
  D.nx σ (upd H2 a (.ins C dx (putF f y fs)))
/-- an augmented operator on two values -/
def InOp (X : Cx) (op : Operator) (rd : V → V → Hp → VK → Prop) : Prop :=
  ∀ (pins : List (Addr × Obj)) (s : Shared) (σ : St) (H : Hp) (x y : V) (u v : Value) (Q : VK), Inv X pins σ H s → RelV x u → RelV y v → rd x y H Q → wpAny (model X.prog X.w) X.A (inplaceOp op u v) (EP X pins σ Q) X.xe s
/-- e.f op= value -/
def sFldAug (K : PySem.W.Frag) (ta tv : TE) (rd : V → V → Hp → VK → Prop) (f : Str) : TS := fun D σ H => ta σ H fun x H1 => ∃ a C dx fs v, x = .ref a ∧ H1 a = some (.ins C dx fs) ∧ Cls K C ∧ NoAttr K C f ∧ fs.lookup f = some v ∧
  tv σ H1 fun y H2 => rd v y H2 fun z H3 => ∃ dx' fs', H3 a = some (.ins C dx' fs') ∧ fs'.length < 1000 ∧ D.nx σ (upd H3 a (.ins C dx' (putF f z fs')))

section
variable {X : Cx} {o e value : Expr} {f : Str} {pos pos' tpos : Pos} {ta tv : TE}
def rAdd : V → V → Hp → VK → Prop := fun x y H Q => ∃ i j, x = .int i ∧ y = .int j ∧ Q (.int (i + j)) H
def rSub : V → V → Hp → VK → Prop := fun x y H Q => ∃ i j, x = .int i ∧ y = .int j ∧ Q (.int (i - j)) H
end


section
variable {X : Cx} {pins : List (Addr × Obj)} {σ : St} {H : Hp} {s : Shared} {A : Around} {E : Value → Shared → Prop} {Q : Value → Shared → Prop} {c : Value} {b : Bool}
/-- the type of a value, as the fragment's deciders take it; for an instance its class -/
inductive TyOf (K : PySem.W.Frag) (H : Hp) : V → Value → Prop where
  | non : TyOf K H .non (.type "NoneType")
  | bl (x : Bool) : TyOf K H (.bl x) (.type "bool")
  | int (i : Int) : TyOf K H (.int i) (.type "int")
  | str (x : Str) : TyOf K H (.str x) (.type "str")
  | flt (x : UInt64) : TyOf K H (.flt x) (.type "float")
  | lst {a : Addr} {xs : List V} (e : H a = some (.lst xs)) : TyOf K H (.ref a) (.type "list")
  | frz {a : Addr} {o : Obj} {xs : List V} (e : H a = some (.frz o (.lst xs))) : TyOf K H (.ref a) (.type "list")
  | tup {a : Addr} {xs : List V} (e : H a = some (.tup xs)) : TyOf K H (.ref a) (.type "tuple")
  | dK {a : Addr} {kvs : List (Key × V)} (e : H a = some (.dK kvs)) : TyOf K H (.ref a) (.type "dict")
  | dT {a : Addr} {kvs : List (List Key × V)} (e : H a = some (.dT kvs)) : TyOf K H (.ref a) (.type "dict")
  | ins {a C dx : Addr} {fs : List (Str × V)} (e : H a = some (.ins C dx fs)) (cl : Cls K C) (ha : PySem.W.findIn K (.ref C) "__class__" = some (some (.builtin "object.__class__")))
      (hn : PySem.W.specialIn K (.builtin "object.__class__") "__get__" = some (some (.builtin "getset_descriptor.__get__"))) (htk : PySem.W.takesIn K (.builtin "object.__class__") = some true)
      (hm : PySem.W.mroIn K C (.type "object") = some true) : TyOf K H (.ref a) (.ref C)
/-- isinstance(x, c) for one class c, a built-in or an own one: kitOne's answer -/
theorem isinst_ok {x : V} {u t : Value} (I : Inv X pins σ H s) (rx : RelV x u) (ty : TyOf X.K H x t) (e : PySem.W.kitOne X.K t c = some b) (h : ∀ tk, Q (.bool b) { s with toks := tk }) :
    wpAny (model X.prog X.w) A (call (.builtin "isinstance") [u, c]) Q E s := by
  cases ty with
  | non => cases (show u = Value.none from rx); exact PySem.W.kia_one PySem.W.kitx_none I.kIn True.intro e (fun z => nomatch z) h
  | bl y => cases (show u = Value.bool y from rx); exact PySem.W.kia_one PySem.W.kitx_bool I.kIn True.intro e (fun z => nomatch z) h
  | int i => obtain ⟨t, q⟩ := (show ∃ t, u = Value.int i t from rx); cases q; exact PySem.W.kia_one PySem.W.kitx_int I.kIn True.intro e (fun z => nomatch z) h
  | str y => obtain ⟨t, q⟩ := (show ∃ t, u = Value.str y t from rx); cases q; exact PySem.W.kia_one PySem.W.kitx_str I.kIn True.intro e (fun z => nomatch z) h
  | flt y => obtain ⟨t, q⟩ := (show ∃ t, u = Value.float y t from rx); cases q; exact PySem.W.kia_one PySem.W.kitx_float I.kIn True.intro e (fun z => nomatch z) h
  | @lst a xs ea =>
    cases (show u = Value.ref a from rx)
    obtain ⟨_, _, n, _, h1⟩ := (show ObjOk X.prog X.w H s.heap a (.lst xs) from I.hok a _ ea)
    exact PySem.W.kia_one PySem.W.kitx_list I.kIn ⟨_, h1, rfl⟩ e (fun z => nomatch z) h
  | @frz a ob xs ea =>
    cases (show u = Value.ref a from rx)
    obtain ⟨_, _, _, n, _, h1⟩ := (show ObjOk X.prog X.w H s.heap a (.frz ob (.lst xs)) from I.hok a _ ea)
    exact PySem.W.kia_one PySem.W.kitx_list I.kIn ⟨_, h1, rfl⟩ e (fun z => nomatch z) h
  | @tup a xs ea =>
    cases (show u = Value.ref a from rx)
    obtain ⟨_, _, _, p⟩ := (show ObjOk X.prog X.w H s.heap a (.tup xs) from I.hok a _ ea)
    obtain ⟨o, h1, h2, _⟩ := p
    exact PySem.W.kia_one PySem.W.kitx_tuple I.kIn ⟨o, h1, h2⟩ e (fun z => nomatch z) h
  | @dK a kvs ea =>
    cases (show u = Value.ref a from rx)
    obtain ⟨_, _, vs, _, p⟩ := (show ObjOk X.prog X.w H s.heap a (.dK kvs) from I.hok a _ ea)
    obtain ⟨o, es, ep, h1, h2, _⟩ := p
    exact PySem.W.kia_one PySem.W.kitx_dict I.kIn ⟨o, h1, h2.1⟩ e (fun z => nomatch z) h
  | @dT a kvs ea =>
    cases (show u = Value.ref a from rx)
    obtain ⟨_, _, xs, _, o, es, ep, h1, h2, _⟩ := (show ObjOk X.prog X.w H s.heap a (.dT kvs) from I.hok a _ ea)
    exact PySem.W.kia_one PySem.W.kitx_dict I.kIn ⟨o, h1, h2.1⟩ e (fun z => nomatch z) h
  | @ins a C dx fs ea cl ha hn htk hm =>
    cases (show u = Value.ref a from rx)
    obtain ⟨mA, O, _⟩ := ins_get I.hok ea
    obtain ⟨od, J, _⟩ := O.look
    exact PySem.W.kia_one (PySem.W.kitx_own (cl.get _) cl.hd ha hn htk hm) I.kIn J e (fun z => nomatch z) h
end
end L2

namespace L2
open PySem PySem.Spec PyProof.Rows


structure Room (k : Nat) (A : Around) : Prop where
  hd : A.handled = none
  dp : A.depth + 3 * k + 5 < recursionLimit
  un : A.units + 16 * k + 200 < cLine
  gd : A.guards = some []
theorem Room.mono {j k : Nat} {A : Around} (r : Room k A) (h : j ≤ k) : Room j A := ⟨r.hd, by have := r.dp; omega, by have := r.un; omega, r.gd⟩
theorem Room.deeper {k : Nat} {A : Around} (r : Room (k + 1) A) (env : Env) : Room k (A.deeper env) :=
  ⟨r.hd, by have := r.dp; show A.depth + 1 + 3 * k + 5 < _; omega, by have := r.un; show A.units + 3 + 16 * k + 200 < _; omega, r.gd⟩
theorem Room.in1 {k : Nat} {A : Around} (r : Room (k + 1) A) : Room k A.in1 :=
  ⟨r.hd, by have := r.dp; show A.depth + 3 * k + 5 < _; omega, by have := r.un; show A.units + 1 + 16 * k + 200 < _; omega, r.gd⟩
theorem make_depth {A : Around} {C : Addr} {us : List Value} {kw : List (Str × Value)} : (A.under (.builtin "type.__call__" ⟨.ref C :: us, kw⟩)).depth = A.depth + 1 := by
  first | rfl | simp [Around.under, Code.weight, Code.isCreation, Code.isGuard, Code.isCaller, Code.frames, Code.isFrame, guardIds]
theorem make_units {A : Around} {C : Addr} {us : List Value} {kw : List (Str × Value)} : (A.under (.builtin "type.__call__" ⟨.ref C :: us, kw⟩)).units = A.units + 1 := by
  first | rfl | simp [Around.under, Code.cUnits, Code.frames, Code.isFrame]
theorem make_guards {A : Around} {C : Addr} {us : List Value} {kw : List (Str × Value)} : (A.under (.builtin "type.__call__" ⟨.ref C :: us, kw⟩)).guards = pushGuards [] A.guards := by
  first | rfl | simp [Around.under, Code.guards, Code.isGuard, guardIds]
theorem Room.make {k : Nat} {A : Around} (r : Room (k + 1) A) (C : Addr) (us : List Value) (kw : List (Str × Value)) : Room k (A.under (.builtin "type.__call__" ⟨.ref C :: us, kw⟩)) :=
  ⟨r.hd, by have := r.dp; rw [make_depth]; omega, by have := r.un; rw [make_units]; omega, by rw [make_guards, r.gd]; rfl⟩
theorem Room.depth {k : Nat} {A : Around} (r : Room k A) : A.depth < recursionLimit := by have := r.dp; omega
theorem Room.units {k : Nat} {A : Around} (r : Room k A) : A.units + 64 < cLine := by have := r.un; omega
def tNil : TA := fun _ H Q => Q [] H
def tCons (ta : TE) (tr : TA) : TA := fun σ H Q => ta σ H fun x H1 => tr σ H1 fun xs H2 => Q (x :: xs) H2
section
variable {X : Cx} {e : Expr} {es : List Expr} {te : TE} {t : TA} {pos : Pos}
theorem pa_nil : PA X [] tNil := fun _ _ _ _ H Q I h => Calls.spliced_nil ⟨[], H, I, .nil, h⟩
theorem qa_nil  : QA X [] tNil := ⟨pa_nil ⟩
theorem pa_cons (ha : PE X e te) (hr : PA X es t) (hs : starEach (e :: es) X.env = (false, eval e X.env) :: starEach es X.env := by rfl) : PA X (e :: es) (tCons te t) := by
  intro pos pins s σ H Q I h
  rw [hs]
  show wpAny _ _ (spliced ((false, eval e X.env) :: backTo pos (starEach es X.env))) _ _ s
  refine Calls.spliced_cons (thn (ha pins s σ H _ I h) fun u s1 ⟨x, H1, I1, r1, q1⟩ => ?_)
  exact thn (hr pos pins s1 σ H1 _ I1 q1) fun us s2 ⟨xs, H2, I2, r2, q2⟩ => ⟨x :: xs, H2, I2, .cons r1 r2, q2⟩

theorem qa_cons (ha : QE X e te) (hr : QA X es t) (hs : starEach (e :: es) X.env = (false, eval e X.env) :: starEach es X.env := by rfl) : QA X (e :: es) (tCons te t) := ⟨pa_cons ha.go hr.go hs⟩
/-- a tuple, a list of written items -/
def tTup (t : TA) : TE := fun σ H Q => t σ H fun xs H1 => xs.length ≤ sizeLine ∧ ∀ p, H1 p = none → Q (.ref p) (upd H1 p (.tup xs))
def tLst (t : TA) : TE := fun σ H Q => t σ H fun xs H1 => xs.length ≤ sizeLine ∧ ∀ p, H1 p = none → Q (.ref p) (upd H1 p (.lst xs))
theorem pe_tup {x1} (h : PA X es t) : PE X (.Tuple es x1 pos) (tTup t) := by
  intro pins s σ H Q I hq
  refine wpAny_Tuple_spliced (thn (h pos pins s σ H _ I hq) fun us s1 ⟨xs, H1, I1, r, z, q⟩ => ⟨by rw [← r.length]; exact z, ?_⟩)
  have hf : H1 s1.heap.objs.size = none := I1.hok.fresh (Nat.le_refl _)
  refine ⟨.ref s1.heap.objs.size, upd H1 s1.heap.objs.size (.tup xs), I1.laid (t' := s1.toks) (fun b u e => Heap.get?_push_of_some _ e) (Nat.le_refl _) ?_, rfl, q _ hf⟩
  exact ⟨z, us, r, ⟨_, Heap.get?_push_size _ rfl, rfl, _, rfl⟩⟩
theorem qe_tup {x1} (h : QA X es t) : QE X (.Tuple es x1 pos) (tTup t) := ⟨pe_tup h.go⟩
theorem pe_lst (h : PA X es t) : PE X (.List es pos) (tLst t) := by
  intro pins s σ H Q I hq
  refine wpAny_List_spliced (thn (h pos pins s σ H _ I hq) fun us s1 ⟨xs, H1, I1, r, z, q⟩ => ⟨by rw [← r.length]; exact z, ?_⟩)
  have hf : H1 s1.heap.objs.size = none := I1.hok.fresh (Nat.le_refl _)
  refine ⟨.ref s1.heap.objs.size, upd H1 s1.heap.objs.size (.lst xs), I1.laid (t' := s1.toks) (fun b u e => Heap.get?_push_of_some _ e) (Nat.le_refl _) ?_, rfl, q _ hf⟩
  exact ⟨z, us, 0, r, Heap.get?_push_size _ rfl⟩
theorem qe_lst (h : QA X es t) : QE X (.List es pos) (tLst t) := ⟨pe_lst h.go⟩
end


/-- a def's promise: the bound arguments in the parameters' order, the heap, the wanted end, the wanted exception -/
abbrev Sp := List V → Hp → VK → XK → Prop
/-- how an exception lies behind a call (file 08 gives it): the callers' frames, abstract heap and state ahead of the call, the wish, the exception, the state -/
abbrev CXT := List Env → Hp → Shared → XK → Value → Shared → Prop

/-- the state at a call -/
structure Env0 (P : Program) (w : World) (K : PySem.W.Frag) (mg : Str → Option Value) (base : Heap) (A : Around) (outer : List Env) (s : Shared) (H : Hp) : Prop where
  frames : A.frames = some outer
  mod : Mod K mg base
  bs : ∀ b o, base.get? b = some o → s.heap.get? b = some o ∧ H b = none
  bsz : base.objs.size ≤ s.heap.objs.size
  funs : s.heap.FunFrames base outer
  frf : ∀ b ∈ frs outer, H b = none
  hok : HOk P w H s.heap
  bare : AllBare s.gens
/-- a call's end -/
def CE (outer : List Env) (P : Program) (w : World) (H : Hp) (s : Shared) (Q : VK) (u : Value) (s' : Shared) : Prop :=
  ∃ v H', s'.os = s.os ∧ AllBare s'.gens ∧ Un (frs outer) [] H H' s.heap s'.heap ∧ HOk P w H' s'.heap ∧ RelV v u ∧ Q v H'
def CR (CX : CXT) (outer : List Env) (P : Program) (w : World) (H : Hp) (s : Shared) (Q : VK) (E : XK) (r : Result) (s' : Shared) : Prop :=
  match r with
  | .ok (.ret u) => CE outer P w H s Q u s'
  | .ok _ => False
  | .error e => CX outer H s E e s'
structure FnOk (P : Program) (w : World) (K : PySem.W.Frag) (mg : Str → Option Value) (base : Heap) (CX : CXT) (k : Nat) (f : Addr) (fd : FuncData) (ps : List Str) (sp : Sp) : Prop where
  len : ∀ vs H Q E, sp vs H Q E → vs.length = ps.length
  run : ∀ (A : Around) (outer : List Env) (s : Shared) (H : Hp) (args : Args) (us : List Value) (vs : List V) (Q : VK) (E : XK), Room k A → Env0 P w K mg base A outer s H → BindsTo s fd args (ps.zip us) → Vals vs us → sp vs H Q E →
    codeAny (model P w) A (.call (.ref f) args) (CR CX outer P w H s Q E) s
theorem FnOk.mono {P : Program} {w : World} {K : PySem.W.Frag} {mg : Str → Option Value} {base : Heap} {CX : CXT} {j k : Nat} {f : Addr} {fd : FuncData} {ps : List Str} {sp : Sp} (F : FnOk P w K mg base CX j f fd ps sp) (h : j ≤ k) :
    FnOk P w K mg base CX k f fd ps sp := ⟨F.len, fun A outer s H args us vs Q E hr => F.run A outer s H args us vs Q E (hr.mono h)⟩
theorem Env0.make {P : Program} {w : World} {K : PySem.W.Frag} {mg : Str → Option Value} {base : Heap} {A : Around} {outer : List Env} {s : Shared} {H : Hp} (e : Env0 P w K mg base A outer s H) (C : Addr) (us : List Value) (kw : List (Str × Value)) :
    Env0 P w K mg base (A.under (.builtin "type.__call__" ⟨.ref C :: us, kw⟩)) outer s H := ⟨by first | exact e.frames | (simpa [Around.under, Code.envs, Code.isFrame, pushEnvs] using e.frames), e.mod, e.bs, e.bsz, e.funs, e.frf, e.hok, e.bare⟩
theorem Env0.in1 {P : Program} {w : World} {K : PySem.W.Frag} {mg : Str → Option Value} {base : Heap} {A : Around} {outer : List Env} {s : Shared} {H : Hp} (e : Env0 P w K mg base A outer s H) :
    Env0 P w K mg base A.in1 outer s H := ⟨e.frames, e.mod, e.bs, e.bsz, e.funs, e.frf, e.hok, e.bare⟩

section
variable {X : Cx} {pins : List (Addr × Obj)} {σ : St} {H : Hp} {s s' : Shared}
/-- from a body: what a callee wants -/
theorem Inv.env0 (I : Inv X pins σ H s) : Env0 X.prog X.w X.K X.mg X.base X.A X.stack s H :=
  ⟨I.ok.frames, I.ok.mod, I.bs, Nat.le_trans I.ok.bsz I.sz, I.stack, I.stkFree, I.hok, I.bare⟩
/-- behind a call -/
theorem Inv.after {Q : VK} {u : Value} (I : Inv X pins σ H s) (h : CE X.stack X.prog X.w H s Q u s') : EP X pins σ Q u s' := by
  obtain ⟨v, H', os, bare, un, hok, r, q⟩ := h
  obtain ⟨hh, g, d, t, os'⟩ := s'
  obtain rfl : os' = s.os := os
  exact ⟨v, H', I.call (h' := hh) (g' := g) (d' := d) (t' := t) (ch := []) un hok bare (fun b z => absurd z (by simp)), r, q⟩
end


/-- f(..): the written arguments, then the defaults dvs; E: what is wanted of an exception -/
def tCall (sp : Sp) (dvs : List V) (E : XK) (t : TA) : TE := fun σ H Q => t σ H fun vs H1 => sp (vs ++ dvs) H1 Q E
/-- o.m(..) of an instance of the class at C -/
def tMeth (C : Addr) (m : Str) (sp : Sp) (dvs : List V) (E : XK) (ta : TE) (t : TA) : TE := fun σ H Q => ta σ H fun x H1 => ∃ a dx fs, x = .ref a ∧ H1 a = some (.ins C dx fs) ∧ fs.lookup m = none ∧
  t σ H1 fun vs H2 => sp (x :: (vs ++ dvs)) H2 Q E
/-- C(..): a new instance and its dict, then __init__ -/
def tMake (C : Addr) (sp : Sp) (dvs : List V) (E : XK) (t : TA) : TE := fun σ H Q => t σ H fun vs H1 => ∀ x dx, H1 x = none → H1 dx = none → dx ≠ x →
  sp (.ref x :: (vs ++ dvs)) (upd (upd H1 dx (.own x)) x (.ins C dx [])) (fun v H2 => v = .non ∧ Q (.ref x) H2) E

/-- how the parameters are bound: us the positional arguments, kw the keywords' values by name, ds the defaults that fill up -/
def Binds (K : PySem.W.Frag) (fd : FuncData) (ps : List Str) (ds : List Value) : Prop :=
  ∀ (s : Shared) (us : List Value), K.In s.heap → (us ++ ds).length = ps.length → BindsTo s fd ⟨us, []⟩ (ps.zip (us ++ ds))
/-- every parameter is given -/
theorem Binds.all {K : PySem.W.Frag} {fd : FuncData} {ps : List Str} (h : ∀ us : List Value, us.length = ps.length → bindArgs fd ⟨us, []⟩ = pure (ps.zip us)) : Binds K fd ps [] := fun s us _ hl => by
  rw [List.append_nil] at hl ⊢
  exact .of_eq (h us hl)

/-- an exception of a callee reaches what this body wants of exceptions -/
def Passes (CX : CXT) (X : Cx) (E : XK) : Prop := ∀ (pins : List (Addr × Obj)) (σ : St) (H : Hp) (s : Shared) (e : Value) (s' : Shared), Inv X pins σ H s → CX X.stack H s E e s' → X.xe e s'

section
variable {X : Cx} {CX : CXT} {k : Nat} {f C : Addr} {fd : FuncData} {ps : List Str} {sp : Sp} {dvs : List V} {ds : List Value} {E : XK} {x m : Str} {p pos apos : Pos} {e o : Expr} {es : List Expr} {ta : TE} {t : TA}

/-- the callee runs -/
theorem run_fn {pins : List (Addr × Obj)} {σ : St} {H : Hp} {s : Shared} {Q : VK} {us : List Value} {vs : List V} (F : FnOk X.prog X.w X.K X.mg X.base CX k f fd ps sp) (hr : Room k X.A) (hb : Binds X.K fd ps ds) (hd : Vals dvs ds) (hx : Passes CX X E)
    (I : Inv X pins σ H s) (r : Vals vs us) (h : sp (vs ++ dvs) H Q E) : wpAny (model X.prog X.w) X.A (call (.ref f) us) (EP X pins σ Q) X.xe s := by
  have r2 : Vals (vs ++ dvs) (us ++ ds) := r.append hd
  have hl : (us ++ ds).length = ps.length := by rw [← r2.length]; exact F.len _ _ _ _ h
  refine wpAny_call (codeAny_mono (F.run X.A X.stack s H ⟨us, []⟩ (us ++ ds) (vs ++ dvs) Q E hr I.env0 (hb s us I.kIn hl) r2 h) fun r s' hq => ?_)
  cases r with
  | error e => exact hx pins σ H s e s' I hq
  | ok fl =>
    cases fl with
    | ret u => exact I.after hq
    | next => exact False.elim hq
    | brk => exact False.elim hq
    | cont => exact False.elim hq

theorem pe_call (F : FnOk X.prog X.w X.K X.mg X.base CX k f fd ps sp) (hr : Room k X.A) (hg : Gl X x) (hm : X.mg x = some (.ref f)) (hk : PySem.W.keepIn X.K (.ref f) = true) (hb : Binds X.K fd ps ds) (hd : Vals dvs ds) (hx : Passes CX X E)
    (ha : PA X (e :: es) t) (hdb : (x == ("__debug__" : Str)) = false := by decide) (he : starEach (e :: es) X.env = (false, eval e X.env) :: starEach es X.env := by rfl) (hpl : (backTo pos (starEach es X.env)).any (·.1) = false := by rfl) :
    PE X (.Call (.Name x p) (e :: es) [] pos) (tCall sp dvs E t) := by
  intro pins s σ H Q I h
  refine wpAny_Call_Name_kw (ld_glob I hg hm ?_ hdb)
  refine PySem.W.callWith_K (h₀ := X.base) I.ok.mod.kin hk (thn (ha pos pins s σ H _ I h) fun us s1 ⟨vs, H1, I1, r, q⟩ => ⟨I1.kIn, ?_⟩) he hpl
  exact run_fn F hr hb hd hx I1 r q
theorem qe_call (F : FnOk X.prog X.w X.K X.mg X.base CX k f fd ps sp) (hr : Room k X.A) (hg : Gl X x) (hm : X.mg x = some (.ref f)) (hk : PySem.W.keepIn X.K (.ref f) = true) (hb : Binds X.K fd ps ds) (hd : Vals dvs ds) (hx : Passes CX X E) (ha : QA X (e :: es) t) (hdb : (x == ("__debug__" : Str)) = false := by decide) (he : starEach (e :: es) X.env = (false, eval e X.env) :: starEach es X.env := by rfl) (hpl : (backTo pos (starEach es X.env)).any (·.1) = false := by rfl) : QE X (.Call (.Name x p) (e :: es) [] pos) (tCall sp dvs E t) := ⟨pe_call F hr hg hm hk hb hd hx ha.go hdb he hpl⟩
/-- what a class must have to be made -/
structure Mk (K : PySem.W.Frag) (C f : Addr) : Prop where
  makes : PySem.W.makesIn K C = true
  init : PySem.W.findIn K (.ref C) "__init__" = some (some (.ref f))
  fn : PySem.W.isFn K (.ref f) = true
  kp : PySem.W.keepIn K (.ref C) = true

end


/-- the values of the keywords, from the left -/
def PK (X : Cx) (kws : List Keyword) (t : TA) : Prop :=
  ∀ (pos : Pos) (pins : List (Addr × Obj)) (s : Shared) (σ : St) (H : Hp) (Q : List V → Hp → Prop), Inv X pins σ H s → t σ H Q → wpAny (model X.prog X.w) X.A (evalAll ((backToKw pos (keywordEach kws X.env)).map (·.2))) (AP X pins σ Q) X.xe s
structure QK (X : Cx) (kws : List Keyword) (t : TA) : Prop where
  go : PK X kws t
section
variable {X : Cx} {CX : CXT} {k : Nat} {f C : Addr} {fd : FuncData} {ps ks : List Str} {sp : Sp} {E : XK} {x m : Str} {p pos apos kpos : Pos} {e o : Expr} {es : List Expr} {kws : List Keyword} {te ta : TE} {t tk : TA} {nm : Option Str}
/-- how a call with keywords binds: g puts the positional values us and the keywords' values ws (names ks) in the parameters' order, defaults among them -/
structure KBinds (K : PySem.W.Frag) (fd : FuncData) (ps ks : List Str) (g : List Value → List Value → List Value) (gV : List V → List V → List V) : Prop where
  to : ∀ (s : Shared) (us ws : List Value), K.In s.heap → (g us ws).length = ps.length → BindsTo s fd ⟨us, ks.zip ws⟩ (ps.zip (g us ws))
  rel : ∀ {vs : List V} {us : List Value} {zs : List V} {ws : List Value}, Vals vs us → Vals zs ws → Vals (gV vs zs) (g us ws)
def tCallK (sp : Sp) (gV : List V → List V → List V) (E : XK) (t tk : TA) : TE := fun σ H Q => t σ H fun vs H1 => tk σ H1 fun zs H2 => sp (gV vs zs) H2 Q E
variable {g : List Value → List Value → List Value} {gV : List V → List V → List V}
end


/-- names: the parameters first -/
structure FnScope (N P : List Str) (sc : Scope) : Prop where
  kind : sc.kind = .function
  co : sc.isCoroutine = false
  gen : sc.isGenerator = false
  nd : N.Nodup
  pre : N.take P.length = P
  par : ∀ x ∈ P, sc.names.lookup x = some .local ∨ sc.names.lookup x = some .cell
  nofree : ∀ y ∈ sc.names, y.2 ≠ .free

theorem bindL_out {kindOf : Str → Option NameKind} {x : Str} : ∀ {binds : List (Str × Value)} {m : Str → Option Value}, (∀ v, (x, v) ∉ binds) → bindL kindOf binds m x = m x
  | [], _, _ => rfl
  | (n, v) :: r, m, h => by
    unfold bindL
    rw [bindL_out fun w hw => h w (List.mem_cons_of_mem _ hw)]
    split
    · have : x ≠ n := by rintro rfl; exact h v List.mem_cons_self
      simp [this]
    · rfl
theorem bindC_out {kindOf : Str → Option NameKind} {x : Str} : ∀ {binds : List (Str × Value)} {m : Str → Option Value}, (∀ v, (x, v) ∉ binds) → bindC kindOf binds m x = m x
  | [], _, _ => rfl
  | (n, v) :: r, m, h => by
    unfold bindC
    rw [bindC_out fun w hw => h w (List.mem_cons_of_mem _ hw)]
    split
    · rfl
    · have : x ≠ n := by rintro rfl; exact h v List.mem_cons_self
      simp [this]
theorem bindL_get {kindOf : Str → Option NameKind} {x : Str} {v : Value} : ∀ {P : List Str} {vs : List Value} {i : Nat} {m : Str → Option Value}, P.Nodup → P[i]? = some x → vs[i]? = some v → kindOf x = some .local →
    bindL kindOf (P.zip vs) m x = some v
  | [], _, _, _, _, h, _, _ => by simp at h
  | _ :: _, [], _, _, _, _, h, _ => by simp at h
  | p :: P, w :: vs, 0, m, nd, h1, h2, hk => by
    simp at h1 h2; subst h1; subst h2
    show bindL kindOf ((p, w) :: P.zip vs) m p = _
    unfold bindL
    rw [bindL_out fun v hv => (List.nodup_cons.mp nd).1 (List.of_mem_zip hv).1, if_pos hk]
    simp
  | p :: P, w :: vs, i + 1, m, nd, h1, h2, hk => by
    show bindL kindOf ((p, w) :: P.zip vs) m x = _
    unfold bindL
    exact bindL_get (i := i) (List.nodup_cons.mp nd).2 (by simpa using h1) (by simpa using h2) hk
theorem bindC_get {kindOf : Str → Option NameKind} {x : Str} {v : Value} : ∀ {P : List Str} {vs : List Value} {i : Nat} {m : Str → Option Value}, P.Nodup → P[i]? = some x → vs[i]? = some v → kindOf x ≠ some .local →
    bindC kindOf (P.zip vs) m x = some v
  | [], _, _, _, _, h, _, _ => by simp at h
  | _ :: _, [], _, _, _, _, h, _ => by simp at h
  | p :: P, w :: vs, 0, m, nd, h1, h2, hk => by
    simp at h1 h2; subst h1; subst h2
    show bindC kindOf ((p, w) :: P.zip vs) m p = _
    unfold bindC
    rw [bindC_out fun v hv => (List.nodup_cons.mp nd).1 (List.of_mem_zip hv).1, if_neg hk]
    simp
  | p :: P, w :: vs, i + 1, m, nd, h1, h2, hk => by
    show bindC kindOf ((p, w) :: P.zip vs) m x = _
    unfold bindC
    exact bindC_get (i := i) (List.nodup_cons.mp nd).2 (by simpa using h1) (by simpa using h2) hk

/-- the names' values at the entry -/
def start (N : List Str) (vs : List V) : St := vs.map some ++ List.replicate (N.length - vs.length) none

/-- the context of a def's body, at its entry; an exception leaves the frame, then lies as CX says -/
def cxOf (CX : CXT) (P : Program) (w : World) (K : PySem.W.Frag) (mg : Str → Option Value) (base : Heap) (N : List Str) (qual : Str) (scope : Scope) (f : Addr) (cd : Value) (A : Around) (outer : List Env) (s : Shared) (H : Hp) (E : XK) : Cx where
  prog := P
  w := w
  K := K
  mg := mg
  base := base
  A := A.deeper (envOfC qual scope s.heap.objs.size f cd)
  N := N
  s_0 := s
  H_0 := H
  env := envOfC qual scope s.heap.objs.size f cd
  outer := outer
  stack := envOfC qual scope s.heap.objs.size f cd :: outer
  ex := []
  calm := true
  fn := fun _ => true
  pn := []
  xe := fun e s' => wpAny (model P w) (A.deeper (envOfC qual scope s.heap.objs.size f cd)) (leaving (envOfC qual scope s.heap.objs.size f cd) e) (fun _ s'' => CX outer H s E e s'') (fun e' s'' => CX outer H s E e' s'') s'

theorem cell_has {sc : Scope} {n : Nat} {x : Str} (h : sc.names.lookup x = some .cell) : ∃ c, (cellsFrom n sc.names []).lookup x = some c := by
  have q := PySem.W.cellsFrom_some sc.names n [] (.inl h)
  exact Option.isSome_iff_exists.mp q

theorem inv_start {CX : CXT} {P : Program} {w : World} {K : PySem.W.Frag} {mg : Str → Option Value} {base : Heap} {N ps : List Str} {qual : Str} {scope : Scope} {f : Addr} {cd : Value} {A : Around} {outer : List Env} {s s1 : Shared} {H : Hp} {E : XK} {us : List Value} {vs : List V}
    (S : FnScope N ps scope) (hd : A.handled = none) (e0 : Env0 P w K mg base A outer s H) (hl : vs.length = ps.length) (r : Vals vs us)
    (x : InCallC s s.heap.objs.size (bindL (envOfC qual scope s.heap.objs.size f cd).kindOf (ps.zip us) fun _ => none) (cellsFrom (s.heap.objs.size + 1) scope.names []) (bindC (envOfC qual scope s.heap.objs.size f cd).kindOf (ps.zip us) fun _ => none) s1) :
    Inv (cxOf CX P w K mg base N qual scope f cd A outer s H E) [] (start N vs) H s1 := by
  have hpl : ps.length ≤ N.length := by have := congrArg List.length S.pre; rw [List.length_take] at this; omega
  obtain ⟨h1, tk, rfl, hk⟩ := x.done
  have noA : ∀ b : Addr, b ∉ (cxOf CX P w K mg base N qual scope f cd A outer s H E).ex := fun b z => absurd (show b ∈ ([] : List Addr) from z) (by simp)
  refine ⟨⟨e0.mod, S.kind, rfl, rfl, Nat.le_refl _, fun y z c h1 h2 => ?_, fun y hy => ?_, fun y c _ h => ?_, fun _ => hd, Around.frames_deeper e0.frames, .inr ⟨rfl, rfl⟩, fun b z => absurd z (noA b), e0.bs, e0.bsz, fun b _ _ => noA b, fun b z => absurd z (noA b), e0.funs, e0.frf⟩,
    rfl, e0.bare, Un.kept hk, ⟨_, x.toInCall.ns, fun i y v h1 h2 h3 => ?_⟩, fun y c h => ⟨_, x.cell y c h⟩, e0.hok.fresh (Nat.le_refl _), fun y c h => ?_, fun p hp => absurd (show p ∈ ([] : List (Addr × Obj)) from hp) (by simp), e0.hok.kept hk, ?_⟩
  · exact name_of_addr x.apart (PySem.mem_of_lookup h1) (PySem.mem_of_lookup h2)
  · have hy : scope.names.lookup y = some .cell ∨ scope.names.lookup y = some .free := hy
    rcases hy with hy | hy
    · exact cell_has hy
    · exact absurd rfl (S.nofree _ (PySem.mem_of_lookup hy))
  · exact Nat.le_of_lt (x.above y c (PySem.mem_of_lookup h))
  · have hi : i < vs.length := by
      unfold start at h2
      by_cases hi : i < vs.length
      · exact hi
      · rw [List.getElem?_append_right (by simpa using hi)] at h2
        rw [List.getElem?_replicate] at h2
        split at h2 <;> cases h2
    have ha : vs[i]? = some v := by
      unfold start at h2
      rw [List.getElem?_append_left (by simpa using hi), List.getElem?_map] at h2
      cases e : vs[i]? with
      | none => rw [e] at h2; cases h2
      | some a => rw [e] at h2; cases h2; rfl
    obtain ⟨u, hu, rv⟩ := r.get ha
    have hp : ps[i]? = some y := by
      rw [← S.pre, List.getElem?_take_of_lt (by omega)]; exact h1
    have ndP : ps.Nodup := by rw [← S.pre]; exact S.nd.sublist (List.take_sublist _ _)
    refine ⟨u, rv, ?_⟩
    rcases S.par y (List.mem_of_getElem? hp) with k | k
    · exact .inl ⟨k, bindL_get ndP hp hu k⟩
    · obtain ⟨c, e⟩ := cell_has (n := s.heap.objs.size + 1) k
      refine .inr ⟨.inl k, c, e, ?_⟩
      have q := x.cell y c e
      rw [bindC_get ndP hp hu (by show scope.names.lookup y ≠ _; rw [k]; decide)] at q
      exact q
  · exact e0.hok.fresh (Nat.le_of_lt (x.above y c (PySem.mem_of_lookup h)))
  · unfold start
    show _ = N.length
    rw [List.length_append, List.length_map, List.length_replicate]
    omega

/-- THE RULE: a def (or a method) of the text, by its body. The body's reading t is chosen for each entry; it is run at the parameters' values -/
theorem fn_of {CX : CXT} {P : Program} {w : World} {K : PySem.W.Frag} {mg : Str → Option Value} {base : Heap} {k : Nat} {f : Addr} {name qual : Str} {params : Arguments} {body : List Stmt} {scope : Scope} {dV kV doc pm cdv ct oc : Value} {an od : Option Addr}
    {osl : Array (Option Value)} {N ps : List Str} {sp : Sp} (lk : K.lookup f = some ⟨oc, od, .func (PySem.W.fnOf name qual params body scope dV kV doc pm an cdv ct), osl⟩) (hcd : PySem.W.codeIn K cdv qual = true) (S : FnScope N ps scope)
    (len : ∀ vs H Q E, sp vs H Q E → vs.length = ps.length)
    (hbody : ∀ (A : Around) (outer : List Env) (s : Shared) (H : Hp) (vs : List V) (Q : VK) (E : XK), Room k (A.deeper (envOfC qual scope s.heap.objs.size f cdv)) → sp vs H Q E →
      ∃ t, PSs (cxOf CX P w K mg base N qual scope f cdv A outer s H E) body t ∧ t { nx := fun _ H' => Q .non H', rt := Q } (start N vs) H) :
    FnOk P w K mg base CX (k + 1) f (PySem.W.fnOf name qual params body scope dV kV doc pm an cdv ct) ps sp := by
  refine ⟨len, fun A outer s H args us vs Q E hr e0 hb r hsp => ?_⟩
  have hl := len _ _ _ _ hsp
  have KX : K.In s.heap := e0.mod.kin.keeps fun b o e => (e0.bs b o e).1
  have lim : s.heap.NoLimit := e0.mod.nolimit.keeps fun b o e => (e0.bs b o e).1
  have hkind : ∀ y ∈ ps.zip us, scope.names.lookup y.1 = some .local ∨ (scope.names.lookup y.1 = some .cell ∧ ((cellsFrom (s.heap.objs.size + 1) scope.names []).lookup y.1).isSome = true) := fun ⟨n, v⟩ hy => by
    rcases S.par n (List.of_mem_zip hy).1 with q | q
    · exact .inl q
    · exact .inr ⟨q, PySem.W.cellsFrom_some _ _ _ (.inl q)⟩
  refine codeAny_call_function hr.depth (KX _ _ lk) rfl S.co S.gen rfl (PySem.W.codeRec_of KX hcd) (hb _ _ _ _ ?_)
  refine wpAny_newFunctionEnv_cells S.kind hkind fun env he s1 x => ?_
  subst he
  refine ⟨lim.keeps x.toInCall.keep, codeAny_func ?_⟩
  obtain ⟨t, ht, hq⟩ := hbody A outer s H vs Q E (hr.deeper _) hsp
  have I : Inv (cxOf CX P w K mg base N qual scope f cdv A outer s H E) [] (start N vs) H s1 := inv_start S hr.hd e0 hl r x
  refine wpAny_mono (ht [] s1 (start N vs) H _ I hq) (fun fl s' hs => ?_) fun e s' hs => hs
  have fin : ∀ {σ' : St} {H' : Hp} {v : V} {u : Value}, Inv (cxOf CX P w K mg base N qual scope f cdv A outer s H E) [] σ' H' s' → RelV v u → Q v H' → CE outer P w H s Q u s' :=
    fun {σ' H' v u} J rv q => ⟨v, H', J.os, J.bare, J.base, J.hok, rv, q⟩
  cases fl with
  | ret u =>
    obtain ⟨v, σ', H', J, rv, q⟩ := hs
    exact fin J rv q
  | next =>
    obtain ⟨σ', H', J, q⟩ := hs
    exact fin (v := V.non) (u := Value.none) J rfl q
  | brk =>
    obtain ⟨_, _, _, q⟩ := hs
    exact False.elim q
  | cont =>
    obtain ⟨_, _, _, q⟩ := hs
    exact False.elim q
end L2

namespace L2
open PySem PySem.Spec PyProof.Rows
section
variable {X : Cx} {x : Str} {p pos : Pos} {e : Expr} {es : List Expr} {t : TA} {id T : String} {r : List V → Hp → VK → Prop}

def tCB (r : List V → Hp → VK → Prop) (t : TA) : TE := fun σ H Q => t σ H fun vs H1 => r vs H1 Q
/-- f(e, ..), f a built-in function -/
theorem pe_callB (hc : CallR X (.builtin id) r) (hg : Gl X x) (hm : X.mg x = none) (hv : bootBuiltins x = some (.builtin id)) (ha : PA X (e :: es) t) (hn : x ≠ "__name__" := by decide) (hdb : (x == ("__debug__" : Str)) = false := by decide)
    (he : starEach (e :: es) X.env = (false, eval e X.env) :: starEach es X.env := by rfl) (hpl : (backTo pos (starEach es X.env)).any (·.1) = false := by rfl) : PE X (.Call (.Name x p) (e :: es) [] pos) (tCB r t) := by
  intro pins s σ H Q I h
  refine wpAny_Call_Name_kw (ld_blt I hg hm hv ?_ hn hdb)
  exact PyProof.Rows.callWith_builtin1 (thn (ha pos pins s σ H _ I h) fun us s1 ⟨vs, H1, I1, r1, q1⟩ => hc pins s1 σ H1 vs us Q I1 r1 q1) he hpl
theorem qe_callB (hc : CallR X (.builtin id) r) (hg : Gl X x) (hm : X.mg x = none) (hv : bootBuiltins x = some (.builtin id)) (ha : QA X (e :: es) t) (hn : x ≠ "__name__" := by decide) (hdb : (x == ("__debug__" : Str)) = false := by decide) (he : starEach (e :: es) X.env = (false, eval e X.env) :: starEach es X.env := by rfl) (hpl : (backTo pos (starEach es X.env)).any (·.1) = false := by rfl) : QE X (.Call (.Name x p) (e :: es) [] pos) (tCB r t) := ⟨pe_callB hc hg hm hv ha.go hn hdb he hpl⟩
/-- T(e, ..), T a built-in type -/
theorem pe_callTy (hc : CallR X (.type T) r) (hg : Gl X x) (hm : X.mg x = none) (hv : bootBuiltins x = some (.type T)) (ha : PA X (e :: es) t) (hn : x ≠ "__name__" := by decide) (hdb : (x == ("__debug__" : Str)) = false := by decide)
    (he : starEach (e :: es) X.env = (false, eval e X.env) :: starEach es X.env := by rfl) (hpl : (backTo pos (starEach es X.env)).any (·.1) = false := by rfl) : PE X (.Call (.Name x p) (e :: es) [] pos) (tCB r t) := by
  intro pins s σ H Q I h
  refine wpAny_Call_Name_kw (ld_blt I hg hm hv ?_ hn hdb)
  exact PyProof.Rows.callWith_type1 (thn (ha pos pins s σ H _ I h) fun us s1 ⟨vs, H1, I1, r1, q1⟩ => hc pins s1 σ H1 vs us Q I1 r1 q1) he hpl
theorem qe_callTy (hc : CallR X (.type T) r) (hg : Gl X x) (hm : X.mg x = none) (hv : bootBuiltins x = some (.type T)) (ha : QA X (e :: es) t) (hn : x ≠ "__name__" := by decide) (hdb : (x == ("__debug__" : Str)) = false := by decide) (he : starEach (e :: es) X.env = (false, eval e X.env) :: starEach es X.env := by rfl) (hpl : (backTo pos (starEach es X.env)).any (·.1) = false := by rfl) : QE X (.Call (.Name x p) (e :: es) [] pos) (tCB r t) := ⟨pe_callTy hc hg hm hv ha.go hn hdb he hpl⟩
end
end L2

namespace HT
open PySem PyProof.Rows

/-- t < u of tuples of ints -/
def lexLt : List Int → List Int → Bool
  | [], [] => false
  | [], _ :: _ => true
  | _ :: _, [] => false
  | x :: xs, y :: ys => if x = y then lexLt xs ys else decide (x < y)
theorem eqAt_int (A : Around) (s : Shared) (a : Int) (t : Tok) (c : Int) (u : Tok) : ∃ e, SeqAt.EqAt A s (.int a t) (.int c u) e ∧ (e = true ↔ a = c) :=
  ⟨(a == c), SeqAt.EqAt.int_int a t c u, by simp⟩
section
open PySem.SeqAt
open PySem.AutoSeq1 (wpAny_loadPart')
open PySem.MeetsSeq PySem.MeetsSeq2 PySem.MeetsSeq3

end

section
variable {prog : Program} {w : World} {A : Around} {E : Value → Shared → Prop} {s : Shared}

/-- a slice's bound as a place among n (d where it is left out) -/
def sIx (n d : Nat) : Option Int → Nat
  | none => d
  | some v => if v < 0 then (v + (n : Int)).toNat else min v.toNat n
end
end HT

namespace L2
open PySem PySem.Spec PyProof.Rows


abbrev TO := St → Hp → (Option Int → Hp → Prop) → Prop
/-- a slice's part (left out, or an int) -/
def PO (X : Cx) (e : Option Expr) (t : TO) : Prop :=
  ∀ (pins : List (Addr × Obj)) (s : Shared) (σ : St) (H : Hp) (Q : Option Int → Hp → Prop), Inv X pins σ H s → t σ H Q →
    wpAny (model X.prog X.w) X.A (evalPart e X.env) (fun u s' => ∃ o H', Inv X pins σ H' s' ∧ IsPart u o ∧ Q o H') X.xe s
structure QO (X : Cx) (e : Option Expr) (t : TO) : Prop where
  go : PO X e t
def tNoPart : TO := fun _ H Q => Q none H
def tPart (t : TE) : TO := fun σ H Q => t σ H fun x H1 => ∃ i, x = .int i ∧ Q (some i) H1

section
variable {X : Cx} {e : Expr} {te : TE} {lo hi : Option Expr} {tl th : TO} {pos p2 : Pos}

/-- what a slice of a value is, by values: the slice object stands at sl -/
def SlR (X : Cx) (r : V → Option Int → Option Int → Hp → VK → Prop) : Prop :=
  ∀ (pins : List (Addr × Obj)) (s : Shared) (σ : St) (H : Hp) (x : V) (v vl vu : Value) (lo hi : Option Int) (sl : Addr) (Q : VK), Inv X pins σ H s → RelV x v → s.heap.IsSliceOf sl vl vu .none → IsPart vl lo → IsPart vu hi → r x lo hi H Q →
    ∃ T id, typeLookup (.type T) "__getitem__" = pure (some (.builtin id)) ∧ s.TypeIs v T ∧ wpAny (model X.prog X.w) X.A (getItem v (.ref sl)) (EP X pins σ Q) X.xe s
theorem SlR.or {r r' : V → Option Int → Option Int → Hp → VK → Prop} (h : SlR X r) (h' : SlR X r') : SlR X (fun x lo hi H Q => r x lo hi H Q ∨ r' x lo hi H Q) := by
  intro pins s σ H x v vl vu lo hi sl Q I rx hs pl pu q
  rcases q with q | q
  · exact h pins s σ H x v vl vu lo hi sl Q I rx hs pl pu q
  · exact h' pins s σ H x v vl vu lo hi sl Q I rx hs pl pu q
def tSl (r : V → Option Int → Option Int → Hp → VK → Prop) (te : TE) (tl th : TO) : TE := fun σ H Q => te σ H fun x H1 => tl σ H1 fun l H2 => th σ H2 fun u H3 => r x l u H3 Q
/-- the items of xs[lo:hi] -/
def cutV (xs : List V) (lo hi : Option Int) : List V := (xs.drop (HT.sIx xs.length 0 lo)).take (HT.sIx xs.length xs.length hi - HT.sIx xs.length 0 lo)
/-- t[lo:hi], not the whole of it (the whole would be t itself) -/
def rSlT (K : PySem.W.Frag) : V → Option Int → Option Int → Hp → VK → Prop := fun x lo hi H Q => ∃ a xs, x = .ref a ∧ SqT K H a xs ∧
  ¬ (HT.sIx xs.length 0 lo = 0 ∧ HT.sIx xs.length xs.length hi = xs.length) ∧ ∀ p, H p = none → Q (.ref p) (upd H p (.tup (cutV xs lo hi)))
def rLtT (K : PySem.W.Frag) : R2 := fun x y H Q => ∃ a b ns ms, x = .ref a ∧ y = .ref b ∧ SqT K H a (ns.map V.int) ∧ SqT K H b (ms.map V.int) ∧ Q (.bl (HT.lexLt ns ms)) H
/-- t + u, t not empty: u empty gives t itself -/
def rCatT (K : PySem.W.Frag) : R2 := fun x y H Q => ∃ a b xs ys, x = .ref a ∧ y = .ref b ∧ SqT K H a xs ∧ SqT K H b ys ∧ xs ≠ [] ∧ xs.length + ys.length ≤ sizeLine ∧
  (ys = [] → Q (.ref a) H) ∧ (ys ≠ [] → ∀ p, H p = none → Q (.ref p) (upd H p (.tup (xs ++ ys))))
end
end L2

namespace L2
open PySem PySem.Spec PyProof.Rows


/-- the place that an index of any sign means -/
def ixN (n : Nat) (i : Int) : Option Nat := if 0 ≤ i then (if i < n then some i.toNat else none) else if -(n : Int) ≤ i then some (i + n).toNat else none
def atI {α : Type} (xs : List α) (i : Int) : Option α := (ixN xs.length i).bind fun j => xs[j]?
theorem ixN_seq {n : Nat} {i : Int} {j : Nat} (h : ixN n i = some j) : seqIndex? i n = some j ∧ j < n ∧ -(n : Int) ≤ i ∧ i < n := by
  unfold ixN at h
  by_cases h0 : 0 ≤ i
  · rw [if_pos h0] at h
    by_cases h1 : i < n
    · rw [if_pos h1] at h
      have e : i.toNat = j := Option.some.inj h
      exact ⟨by rw [seqIndex_of h0 h1, e], by omega, by omega, h1⟩
    · rw [if_neg h1] at h; cases h
  · rw [if_neg h0] at h
    by_cases h1 : -(n : Int) ≤ i
    · rw [if_pos h1] at h
      have e : (i + n).toNat = j := Option.some.inj h
      exact ⟨by rw [seqIndex_neg (by omega) h1, e], by omega, h1, by omega⟩
    · rw [if_neg h1] at h; cases h
theorem atI_get {α : Type} {xs : List α} {i : Int} {v : α} (h : atI xs i = some v) : ∃ j, seqIndex? i xs.length = some j ∧ xs[j]? = some v ∧ j < xs.length ∧ -(xs.length : Int) ≤ i ∧ i < xs.length := by
  unfold atI at h
  cases e : ixN xs.length i with
  | none => rw [e] at h; cases h
  | some j =>
    rw [e] at h
    obtain ⟨h1, h2, h3, h4⟩ := ixN_seq e
    exact ⟨j, h1, h, h2, h3, h4⟩
theorem atI_nat {α : Type} {xs : List α} {j : Nat} {v : α} (h : xs[j]? = some v) : atI xs (j : Int) = some v := by
  have hj : j < xs.length := (List.getElem?_eq_some_iff.mp h).1
  have e : ixN xs.length (j : Int) = some j := by
    unfold ixN
    rw [if_pos (by omega), if_pos (by omega)]; simp
  unfold atI; rw [e]; exact h
/-- what stands as an index of a plain subscript -/
def PlainIx (b : Expr) : Prop := ∀ o i, subscripted b false o i = operate [o, i] (getItem o i)
/-- a subscript by values -/
def IxR (X : Cx) (r : R2) : Prop :=
  ∀ (value slice : Expr) (pins : List (Addr × Obj)) (s : Shared) (σ : St) (H : Hp) (x y : V) (v u : Value) (Q : VK), Inv X pins σ H s → RelV x v → RelV y u → r x y H Q →
    subscripted slice false v u = operate [v, u] (getItem v u) → wpAny (model X.prog X.w) X.A (subscriptTail value slice v u) (EP X pins σ Q) X.xe s
/-- a call of a builtin's method by values: the receiver, the arguments -/
def MtR (X : Cx) (id : String) (r : V → List V → Hp → VK → Prop) : Prop :=
  ∀ (pins : List (Addr × Obj)) (s : Shared) (σ : St) (H : Hp) (x : V) (xs : List V) (v : Value) (us : List Value) (Q : VK), Inv X pins σ H s → RelV x v → Vals xs us → r x xs H Q →
    wpAny (model X.prog X.w) X.A (call (.builtin id) (v :: us)) (EP X pins σ Q) X.xe s
section
variable {X : Cx} {a b : Expr} {ta tb : TE} {pos : Pos}
theorem IxR.or {r r' : R2} (h : IxR X r) (h' : IxR X r') : IxR X (fun x y H Q => r x y H Q ∨ r' x y H Q) := by
  intro value slice pins s σ H x y v u Q I rx ry q hs
  rcases q with q | q
  · exact h value slice pins s σ H x y v u Q I rx ry q hs
  · exact h' value slice pins s σ H x y v u Q I rx ry q hs
theorem MtR.or {id : String} {r r' : V → List V → Hp → VK → Prop} (h : MtR X id r) (h' : MtR X id r') : MtR X id (fun x xs H Q => r x xs H Q ∨ r' x xs H Q) := by
  intro pins s σ H x xs v us Q I rx rs q
  rcases q with q | q
  · exact h pins s σ H x xs v us Q I rx rs q
  · exact h' pins s σ H x xs v us Q I rx rs q
/-- a[b] -/
theorem pe_ix {r : R2} (hr : IxR X r) (ha : PE X a ta) (hb : PE X b tb) (hs : PlainIx b) : PE X (.Subscript a b pos) (tOp r ta tb) := by
  intro pins s σ H Q I h
  exact Subscript_ (binT ha hb I h fun v u s2 x y H2 I2 rx ry q => hr a b pins s2 σ H2 x y v u Q I2 rx ry q (hs _ _))

theorem qe_ix {r : R2} (hr : IxR X r) (ha : QE X a ta) (hb : QE X b tb) (hs : PlainIx b) : QE X (.Subscript a b pos) (tOp r ta tb) := ⟨pe_ix hr ha.go hb.go hs⟩
def rIxL (K : PySem.W.Frag) : R2 := fun x y H Q => ∃ p xs i v, x = .ref p ∧ y = .int i ∧ SqL K H p xs ∧ atI xs i = some v ∧ Q v H
def rIxT (K : PySem.W.Frag) : R2 := fun x y H Q => ∃ p xs i v, x = .ref p ∧ y = .int i ∧ SqT K H p xs ∧ atI xs i = some v ∧ Q v H
def rIxS : R2 := fun x y H Q => ∃ z i c, x = .str z ∧ y = .int i ∧ z.length ≤ sizeLine ∧ atI z.cps.toList i = some c ∧ Q (.str ⟨#[c]⟩) H
theorem ix_list : IxR X (rIxL X.K) := by
  intro value slice pins s σ H x y v u Q I rx ry h hs
  obtain ⟨p, xs, i, z, rfl, rfl, hq, he, q⟩ := h
  cases rx
  obtain ⟨t, rfl⟩ := ry
  obtain ⟨its, r, pl, hz⟩ := I.list hq
  obtain ⟨j, h1, h2, h3, h4, h5⟩ := atI_get he
  obtain ⟨w, ew, rw'⟩ := r.get h2
  have hl := r.length
  have hn := line63
  have fin : EP X pins σ Q w s := ⟨z, H, I, rw', q⟩
  by_cases h0 : 0 ≤ i
  · have hj : i.toNat = j := by
      rw [seqIndex_of h0 h5] at h1
      exact Option.some.inj h1
    exact item_listR pl.isList h0 (by omega) (by rw [hj]; simpa using ew) fin hs
  · have hj : (i + (its.toArray.size : Int)).toNat = j := by
      rw [seqIndex_neg (by omega) h4] at h1
      rw [List.size_toArray, ← hl]
      exact Option.some.inj h1
    exact subscriptTail_builtinR (x := w) pl.isList.typeIs slot_list_getitem.lookup
      (wpAny_getItem_list_neg (Q := fun r s' => r = w ∧ EP X pins σ Q r s') pl.isList (by omega) (by rw [List.size_toArray] <;> omega) (by omega) (by rw [hj]; simpa using ew) ⟨rfl, fin⟩) hs
/-- list, tuple or str -/
def rIx (K : PySem.W.Frag) : R2 := fun x y H Q => rIxL K x y H Q ∨ rIxT K x y H Q ∨ rIxS x y H Q
/-- the list's object behind a store -/
theorem mapSeq_set (its : List Value) (n j : Nat) (u : Value) : Obj.mapSeq (·.setIfInBounds j u) { cls := .type "list", data := .seq its.toArray n } = { cls := .type "list", data := .seq (its.set j u).toArray n } := by
  simp [Obj.mapSeq]
theorem Inv.lst {pins : List (Addr × Obj)} {σ : St} {H : Hp} {s : Shared} {p : Addr} {xs : List V} (I : Inv X pins σ H s) (h : H p = some (.lst xs)) :
    ∃ (its : List Value) (n : Nat), Vals xs its ∧ s.heap.get? p = some { cls := .type "list", data := .seq its.toArray n } ∧ xs.length ≤ sizeLine := by
  obtain ⟨z, its, n, r, e⟩ := I.hok p _ h
  exact ⟨its, n, r, e, z⟩
/-- the list at p is written by an update of its object -/
theorem Inv.lstUpd {pins : List (Addr × Obj)} {σ : St} {H : Hp} {s : Shared} {p : Addr} {xs ys : List V} {its its' : List Value} {n n' : Nat} {f : Obj → Obj} (I : Inv X pins σ H s) (h : H p = some (.lst xs))
    (ho : s.heap.get? p = some { cls := .type "list", data := .seq its.toArray n }) (hf : f { cls := .type "list", data := .seq its.toArray n } = { cls := .type "list", data := .seq its'.toArray n' }) (r : Vals ys its') (hz : ys.length ≤ sizeLine) (t : Nat) :
    Inv X pins σ (upd H p (.lst ys)) { s with heap := s.heap.update p f, toks := t } := by
  have e : (s.heap.update p f).get? p = some { cls := .type "list", data := .seq its'.toArray n' } := by
    rw [Heap.get?_update_self f ho (by rw [hf] <;> rfl), hf]
  refine I.write (x := p) (e := p) (by rw [h]; trivial) (.inl rfl) (fun b u hb q => (Heap.get?_update_other _ _ (Ne.symm hb)).trans q) ⟨_, e⟩ ?_
  exact ⟨hz, its', n', r, e⟩
def rSetL : V → V → V → Hp → (Hp → Prop) → Prop := fun o i v H Q => ∃ p xs k j, o = .ref p ∧ i = .int k ∧ H p = some (.lst xs) ∧ ixN xs.length k = some j ∧ Q (upd H p (.lst (xs.set j v)))
theorem set_list : PSet X rSetL := by
  intro pins s σ H o i v ov iv u Q I ro ri rv h
  obtain ⟨p, xs, k, j, rfl, rfl, hp, hj, q⟩ := h
  cases ro
  obtain ⟨t, rfl⟩ := ri
  obtain ⟨its, n, r, ho, hz⟩ := I.lst hp
  obtain ⟨h1, h2, h3, h4⟩ := ixN_seq hj
  have hl := r.length
  have hn := line63
  have I' : Inv X pins σ (upd H p (.lst (xs.set j v))) { s with heap := s.heap.update p (Obj.mapSeq (·.setIfInBounds j u)) } :=
    I.lstUpd hp ho (mapSeq_set its n j u) (r.set rv j) (by rw [List.length_set]; exact hz) s.toks
  by_cases h0 : 0 ≤ k
  · have hk : k.toNat = j := by
      rw [seqIndex_of h0 h4] at h1
      exact Option.some.inj h1
    exact PySem.W.ki_setAt ho h0 (by omega) (by rw [List.size_toArray, ← hl]; exact h4) (by rw [hk]; exact ⟨_, I', q⟩)
  · have hk : (k + (its.toArray.size : Int)).toNat = j := by
      rw [seqIndex_neg (by omega) h3] at h1
      rw [List.size_toArray, ← hl]
      exact Option.some.inj h1
    exact PySem.W.ki_setBack ho (by omega) (by rw [List.size_toArray, ← hl]; exact h3) (by omega) (by rw [hk]; exact ⟨_, I', q⟩)


/-- xs[lo:hi] of a list: a new list -/
def rSlL (K : PySem.W.Frag) : V → Option Int → Option Int → Hp → VK → Prop := fun x lo hi H Q => ∃ a xs, x = .ref a ∧ SqL K H a xs ∧ ∀ p, H p = none → Q (.ref p) (upd H p (.lst (cutV xs lo hi)))
def flatV : V → Bool
  | .non => true
  | .bl _ => true
  | .int _ => true
  | .str _ => true
  | _ => false
/-- == of flat values -/
def eqV : V → V → Bool
  | .non, .non => true
  | .bl a, .bl b => a == b
  | .bl a, .int b => (if a then 1 else 0) == b
  | .int a, .bl b => a == (if b then 1 else 0)
  | .int a, .int b => a == b
  | .str a, .str b => a == b
  | _, _ => false
theorem eqAt_V {A : Around} {s : Shared} {y x : V} {u v : Value} (ry : RelV y u) (rx : RelV x v) (fy : flatV y = true) (fx : flatV x = true) : SeqAt.EqAt A s u v (eqV y x) := by
  cases y with
  | non =>
    cases ry
    cases x with
    | non => cases rx; exact SeqAt.EqAt.same _
    | bl b => cases rx; exact SeqAt.EqAt.none_bool b
    | int b => obtain ⟨t, rfl⟩ := rx; exact SeqAt.EqAt.none_int b t
    | str b => obtain ⟨t, rfl⟩ := rx; exact SeqAt.EqAt.none_str b t
    | _ => exact absurd (show false = true from fx) Bool.false_ne_true
  | bl a =>
    cases ry
    cases x with
    | non => cases rx; exact SeqAt.EqAt.bool_none a
    | bl b => cases rx; exact SeqAt.EqAt.bool_bool a b
    | int b => obtain ⟨t, rfl⟩ := rx; exact SeqAt.EqAt.bool_int a b t
    | str b => obtain ⟨t, rfl⟩ := rx; exact SeqAt.EqAt.bool_str a b t
    | _ => exact absurd (show false = true from fx) Bool.false_ne_true
  | int a =>
    obtain ⟨t', rfl⟩ := ry
    cases x with
    | non => cases rx; exact SeqAt.EqAt.int_none a t'
    | bl b => cases rx; exact SeqAt.EqAt.int_bool a t' b
    | int b => obtain ⟨t, rfl⟩ := rx; exact SeqAt.EqAt.int_int a t' b t
    | str b => obtain ⟨t, rfl⟩ := rx; exact SeqAt.EqAt.int_str a t' b t
    | _ => exact absurd (show false = true from fx) Bool.false_ne_true
  | str a =>
    obtain ⟨t', rfl⟩ := ry
    cases x with
    | non => cases rx; exact SeqAt.EqAt.str_none a t'
    | bl b => cases rx; exact SeqAt.EqAt.str_bool a t' b
    | int b => obtain ⟨t, rfl⟩ := rx; exact SeqAt.EqAt.str_int a t' b t
    | str b => obtain ⟨t, rfl⟩ := rx; exact SeqAt.EqAt.str_str a t' b t
    | _ => exact absurd (show false = true from fx) Bool.false_ne_true
  | _ => exact absurd (show false = true from fy) Bool.false_ne_true
/-- the items' answers, read off the values (a value's own answer does not lean on its token) -/
def eqU (x : V) (u : Value) : Bool := match u with
  | .none => eqV .non x
  | .bool b => eqV (.bl b) x
  | .int i _ => eqV (.int i) x
  | .str z _ => eqV (.str z) x
  | _ => false
theorem eqU_of {x y : V} {u : Value} (r : RelV y u) (f : flatV y = true) : eqU x u = eqV y x := by
  cases y with
  | non => cases r; rfl
  | bl b => cases r; rfl
  | int i => obtain ⟨t, rfl⟩ := r; rfl
  | str z => obtain ⟨t, rfl⟩ := r; rfl
  | _ => exact absurd (show false = true from f) Bool.false_ne_true
theorem any_eqU {x : V} : ∀ {xs : List V} {us : List Value}, Vals xs us → xs.all flatV = true → us.any (eqU x) = xs.any fun y => eqV y x
  | _, _, .nil, _ => rfl
  | y :: xs, u :: us, .cons r t, f => by
    rw [List.all_cons, Bool.and_eq_true] at f
    rw [List.any_cons, List.any_cons, eqU_of r f.1, any_eqU t f.2]
theorem mem_eqAt {A : Around} {s : Shared} {x : V} {v : Value} (rx : RelV x v) (fx : flatV x = true) : ∀ {xs : List V} {us : List Value}, Vals xs us → xs.all flatV = true → ∀ u ∈ us, SeqAt.EqAt A s u v (eqU x u)
  | _, _, .nil, _ => fun u hu => by cases hu
  | y :: xs, u :: us, .cons r t, f => fun u' hu => by
    rw [List.all_cons, Bool.and_eq_true] at f
    rcases List.mem_cons.mp hu with rfl | hu
    · rw [eqU_of r f.1]; exact eqAt_V r rx f.1 fx
    · exact mem_eqAt rx fx t f.2 u' hu
def inV (x : V) (xs : List V) : Bool := xs.any fun y => eqV y x
/-- x in a list or tuple of flat items -/
def rIn (K : PySem.W.Frag) (neg : Bool) : R2 := fun x y H Q => ∃ p xs, y = .ref p ∧ (SqL K H p xs ∨ SqT K H p xs) ∧ flatV x = true ∧ xs.all flatV = true ∧ Q (.bl (if neg then !inV x xs else inV x xs)) H
theorem op_in_seq : OpR X (compareOp .In) (rIn X.K false) := by
  intro pins s σ H x y v u Q I rx ry h
  obtain ⟨p, xs, rfl, hq, fx, fs, q⟩ := h
  cases ry
  rcases hq with hq | hq
  · obtain ⟨its, r, pl, hz⟩ := I.list hq
    refine SeqAt.in_listAt (eqU x) pl.isList (fun w hw => mem_eqAt rx fx r fs w (by simpa using hw)) ⟨.bl _, H, I, rfl, ?_⟩
    rw [show its.toArray.any (eqU x) = its.any (eqU x) by simp, any_eqU r fs]
    exact q
  · obtain ⟨its, r, pl, hz⟩ := I.tuple hq
    refine SeqAt.in_tupleAt (eqU x) pl (fun w hw => mem_eqAt rx fx r fs w (by simpa using hw)) ⟨.bl _, H, I, rfl, ?_⟩
    rw [show its.toArray.any (eqU x) = its.any (eqU x) by simp, any_eqU r fs]
    exact q
theorem call_len_seq : CallR X (.builtin "len") (fun xs H Q => ∃ p ys, xs = [.ref p] ∧ (SqL X.K H p ys ∨ SqT X.K H p ys) ∧ Q (.int ys.length) H) := by
  intro pins s σ H xs us Q I r h
  obtain ⟨p, ys, rfl, hq, q⟩ := h
  obtain ⟨u, rfl, rx⟩ := vals1 r
  cases rx
  have hn := line63
  rcases hq with hq | hq
  · obtain ⟨its, r', pl, hz⟩ := I.list hq
    have hlen := r'.length
    exact Calls.call_len_list pl.isList (by simp only [List.size_toArray] <;> omega) ⟨.int ys.length, H, I.tok _, ⟨s.toks + 1, by rw [List.size_toArray, hlen]⟩, q⟩
  · obtain ⟨its, r', pl, hz⟩ := I.tuple hq
    have hlen := r'.length
    exact len_tuple pl (by simp only [List.size_toArray] <;> omega) ⟨.int ys.length, H, I.tok _, ⟨s.toks + 1, by rw [List.size_toArray, hlen]⟩, q⟩
theorem CallR.or {f : Value} {r r' : List V → Hp → VK → Prop} (h : CallR X f r) (h' : CallR X f r') : CallR X f (fun xs H Q => r xs H Q ∨ r' xs H Q) := by
  intro pins s σ H xs us Q I rs q
  rcases q with q | q
  · exact h pins s σ H xs us Q I rs q
  · exact h' pins s σ H xs us Q I rs q
/-- the value is of that builtin type -/
def tyV (K : PySem.W.Frag) (T : String) (x : V) (H : Hp) : Prop := match x with
  | .str _ => T = "str"
  | .int _ => T = "int"
  | .ref p => (T = "list" ∧ ∃ xs, SqL K H p xs) ∨ (T = "tuple" ∧ ∃ o, K.lookup p = some o ∧ o.cls = .type "tuple" ∧ o.dict = none) ∨
      (T = "dict" ∧ ((∃ kvs, H p = some (.dK kvs)) ∨ ∃ kvs, H p = some (.dT kvs))) ∨ (T = "set" ∧ ∃ S n, H p = some (.set S n))
  | _ => False
theorem tyV_is {pins : List (Addr × Obj)} {σ : St} {H : Hp} {s : Shared} {T : String} {x : V} {v : Value} (I : Inv X pins σ H s) (r : RelV x v) (ty : tyV X.K T x H) :
    s.TypeIs v T ∧ ∀ a, v = .ref a → ∃ ob, s.heap.get? a = some ob ∧ ob.dict = none := by
  cases x with
  | str z =>
    obtain ⟨t, rfl⟩ := r
    cases (show T = "str" from ty)
    exact ⟨typeIs_str s z t, fun _ e => nomatch e⟩
  | int i =>
    obtain ⟨t, rfl⟩ := r
    cases (show T = "int" from ty)
    exact ⟨typeIs_int s i t, fun _ e => nomatch e⟩
  | ref p =>
    cases r
    rcases ty with ⟨rfl, xs, hq⟩ | ⟨rfl, o, hk, hc, hd⟩ | ⟨rfl, hk⟩ | ⟨rfl, S, n, hk⟩
    · obtain ⟨its, _, pl, _⟩ := I.list hq
      refine ⟨pl.isList.typeIs, fun a e => ?_⟩
      cases e
      obtain ⟨o, n, e, c, hd, _⟩ := pl
      exact ⟨o, e, hd⟩
    · refine ⟨⟨o, I.kIn p o hk, hc⟩, fun a e => ?_⟩
      cases e
      exact ⟨o, I.kIn _ o hk, hd⟩
    · have z : ∃ o, s.heap.get? p = some o ∧ o.ExactDict := by
        rcases hk with ⟨kvs, hk⟩ | ⟨kvs, hk⟩
        · obtain ⟨_, _, _, _, o, _, _, e, ex, _⟩ := I.hok p _ hk
          exact ⟨o, e, ex⟩
        · obtain ⟨_, _, _, _, o, _, _, e, ex, _⟩ := I.hok p _ hk
          exact ⟨o, e, ex⟩
      obtain ⟨o, e, ex⟩ := z
      refine ⟨⟨o, e, ex.1⟩, fun a e2 => ?_⟩
      cases e2
      exact ⟨o, e, ex.2.1⟩
    · obtain ⟨o, _, _, _, e, ex, _⟩ := I.hok p _ hk
      refine ⟨⟨o, e, ex.1⟩, fun a e2 => ?_⟩
      cases e2
      exact ⟨o, e, ex.2.1⟩
  | _ => exact False.elim ty
def tBM0 (K : PySem.W.Frag) (T : String) (r : V → List V → Hp → VK → Prop) (to : TE) : TE := fun σ H Q => to σ H fun x H1 => tyV K T x H1 ∧ r x [] H1 Q
def tBM (K : PySem.W.Frag) (T : String) (r : V → List V → Hp → VK → Prop) (to : TE) (t : TA) : TE := fun σ H Q => to σ H fun x H1 => tyV K T x H1 ∧ t σ H1 fun xs H2 => r x xs H2 Q
variable {o e : Expr} {es : List Expr} {to : TE} {t : TA} {name : Str} {apos cpos : Pos} {T id : String} {r : V → List V → Hp → VK → Prop}
theorem pe_bm (pa : PlainAttrs T) (slot : Slot T name id) (hty : typeOf (.builtin id) = pure (.type "method_descriptor")) (hm : MtR X id r) (ho : PE X o to) (ha : PA X (e :: es) t)
    (hbase : attributeBase o name X.env (eval o X.env) = eval o X.env := by rfl)
    (hfew : ((backTo cpos (starEach (e :: es) X.env)).all (fun x => !x.1) && (backToKw cpos (keywordEach [] X.env)).all (fun x => x.1.isSome)
      && decide ((e :: es).length + ([] : List Keyword).length + (if ([] : List Keyword).isEmpty then 0 else 1) < 30)) = true := by rfl)
    (hline : (apos.endLine == cpos.line) = true := by rfl) (hs : starEach (e :: es) X.env = (false, eval e X.env) :: starEach es X.env := by rfl) (hplain : (backTo cpos (starEach es X.env)).any (·.1) = false := by rfl) :
    PE X (.Call (.Attribute o name apos) (e :: es) [] cpos) (tBM X.K T r to t) := by
  intro pins s σ H Q I h
  refine wpAny_Call_method_late hbase hfew hline rfl (thn (ho pins s σ H _ I h) fun v s1 ⟨x, H1, I1, r1, ty, q1⟩ => ?_)
  obtain ⟨h1, h2⟩ := tyV_is I1 r1 ty
  refine ⟨T, id, pa, slot, hty, h1, h2, ?_⟩
  have hA := ha cpos pins s1 σ H1 _ I1 q1
  rw [hs] at hA ⊢
  refine Calls.callWith_builtin (by show (false || (backTo cpos (starEach es X.env)).any (·.1)) = false; rw [hplain] <;> rfl) (Calls.evalArgs_plain ?_)
  exact thn hA fun us s2 ⟨vs, H2, I2, r2, q2⟩ => hm pins s2 σ H2 x vs v us Q I2 r1 r2 q2

theorem qe_bm (pa : PlainAttrs T) (slot : Slot T name id) (hty : typeOf (.builtin id) = pure (.type "method_descriptor")) (hm : MtR X id r) (ho : QE X o to) (ha : QA X (e :: es) t) (hbase : attributeBase o name X.env (eval o X.env) = eval o X.env := by rfl) (hfew : ((backTo cpos (starEach (e :: es) X.env)).all (fun x => !x.1) && (backToKw cpos (keywordEach [] X.env)).all (fun x => x.1.isSome)
      && decide ((e :: es).length + ([] : List Keyword).length + (if ([] : List Keyword).isEmpty then 0 else 1) < 30)) = true := by rfl) (hline : (apos.endLine == cpos.line) = true := by rfl) (hs : starEach (e :: es) X.env = (false, eval e X.env) :: starEach es X.env := by rfl) (hplain : (backTo cpos (starEach es X.env)).any (·.1) = false := by rfl) : QE X (.Call (.Attribute o name apos) (e :: es) [] cpos) (tBM X.K T r to t) := ⟨pe_bm pa slot hty hm ho.go ha.go hbase hfew hline hs hplain⟩
end
end L2

namespace L2
open PySem PySem.Spec PyProof.Rows

def MtM (X : Cx) (id : String) (r : V → List V → Hp → VK → Prop) : Prop :=
  ∀ (pins : List (Addr × Obj)) (s : Shared) (σ : St) (H : Hp) (x : V) (xs : List V) (v : Value) (us : List Value) (Q : VK), Inv X pins σ H s → RelV x v → Vals xs us → r x xs H Q →
    wpAny (model X.prog X.w) X.A (call (.builtin id) (v :: us)) (EP X pins σ Q) X.xe s


theorem Vals.one : ∀ {x : V} {us : List Value}, Vals [x] us → ∃ u, us = [u] ∧ RelV x u
  | _, _, .cons r .nil => ⟨_, rfl, r⟩
theorem Vals.two : ∀ {x y : V} {us : List Value}, Vals [x, y] us → ∃ u v, us = [u, v] ∧ RelV x u ∧ RelV y v
  | _, _, _, .cons r (.cons q .nil) => ⟨_, _, rfl, r, q⟩
theorem Vals.zero : ∀ {us : List Value}, Vals [] us → us = []
  | _, .nil => rfl
theorem Vals.dropLast {xs : List V} {us : List Value} (h : Vals xs us) : Vals xs.dropLast us.dropLast := by
  induction h with
  | nil => exact .nil
  | cons r t ih =>
    cases t with
    | nil => exact .nil
    | cons q t' => exact .cons r ih
theorem Vals.eraseIdx : ∀ {xs : List V} {us : List Value} (i : Nat), Vals xs us → Vals (xs.eraseIdx i) (us.eraseIdx i)
  | _, _, _, .nil => .nil
  | _, _, 0, .cons _ t => t
  | _, _, i + 1, .cons r t => .cons r (Vals.eraseIdx i t)
theorem Vals.reverse {xs : List V} {us : List Value} (h : Vals xs us) : Vals xs.reverse us.reverse := by
  induction h with
  | nil => exact .nil
  | cons r t ih => rw [List.reverse_cons, List.reverse_cons]; exact Vals.append ih (.cons r .nil)
theorem Vals.rep {xs : List V} {us : List Value} (h : Vals xs us) : ∀ k : Nat, Vals (List.replicate k xs).flatten (List.replicate k us).flatten
  | 0 => .nil
  | k + 1 => by
    rw [List.replicate_succ, List.replicate_succ, List.flatten_cons, List.flatten_cons]
    exact Vals.append h (Vals.rep h k)
section
variable {X : Cx} {pins : List (Addr × Obj)} {σ : St} {H : Hp} {s : Shared} {l b : Addr} {xs ys zs : List V}


theorem Inv.lset {its its' : List Value} {n : Nat} {f : Array Value → Array Value} {t' : Nat} (I : Inv X pins σ H s) (hH : H l = some (.lst xs))
    (e : s.heap.get? l = some { cls := .type "list", data := .seq its.toArray n }) (hf : f its.toArray = its'.toArray) (hv : Vals ys its') (hz : ys.length ≤ sizeLine) :
    Inv X pins σ (upd H l (.lst ys)) { s with heap := s.heap.update l (Obj.mapSeq f), toks := t' } := by
  have q := PySem.IsL.update e f
  rw [hf] at q
  refine I.write (x := l) (e := l) (by rw [hH]; exact trivial) (.inl rfl) (fun b' u hb hu => (Heap.get?_update_other s.heap (Obj.mapSeq f) (Ne.symm hb)).trans hu) ⟨_, q⟩ ?_
  exact ⟨hz, its', _, hv, q⟩
theorem Inv.lnew {its : List Value} {t' : Nat} (I : Inv X pins σ H s) (hv : Vals ys its) (hz : ys.length ≤ sizeLine) :
    Inv X pins σ (upd H s.heap.objs.size (.lst ys)) { s with heap := s.heap.push { cls := .type "list", data := .seq its.toArray }, toks := t' } :=
  I.laid (fun _ _ q => Heap.get?_push_of_some _ q) (Nat.le_refl _) ⟨hz, its, 0, hv, Heap.get?_push_size _ rfl⟩
theorem Inv.fresh (I : Inv X pins σ H s) : H s.heap.objs.size = none := I.hok.fresh (Nat.le_refl _)
theorem Inv.lstM (I : Inv X pins σ H s) (hH : H l = some (.lst xs)) : xs.length ≤ sizeLine ∧ ∃ (its : List Value) (n : Nat), Vals xs its ∧ xs.length = its.length ∧ s.heap.get? l = some { cls := .type "list", data := .seq its.toArray n } := by
  obtain ⟨z, its, n, r, e⟩ := I.hok l _ hH
  exact ⟨z, its, n, r, r.length, e⟩

theorem notLongL {n : Nat} (h : n ≤ sizeLine) : Builtin.List.listTooLong n = false := by
  unfold Builtin.List.listTooLong
  exact decide_eq_false (by omega)
end

section
variable {X : Cx}


def rAppend : V → List V → Hp → VK → Prop := fun x vs H Q => ∃ l xs y, x = .ref l ∧ vs = [y] ∧ H l = some (.lst xs) ∧ xs.length < sizeLine ∧ Q .non (upd H l (.lst (xs ++ [y])))
theorem mt_append : MtM X "list.append" rAppend := by
  intro pins s σ H x vs v us Q I rx rv h
  obtain ⟨l, xs, y, rfl, rfl, hH, hz, q⟩ := h
  cases rx
  obtain ⟨u, rfl, ru⟩ := rv.one
  obtain ⟨z, its, n, r, hl, e⟩ := I.lstM hH
  refine call_meets F.slot_list_append ⟨_, e, rfl⟩ F.entry_list_append (F.args_list_append_2 _ _) (PySem.list_append l its.toArray n u (by rw [List.size_toArray]; omega)) ⟨e, ?_⟩
  refine ⟨.non, _, I.lset (its' := its ++ [u]) hH e (by simp) (r.append (.cons ru .nil)) ?_, rfl, q⟩
  rw [List.length_append, List.length_singleton]
  omega

def rExtend : V → List V → Hp → VK → Prop := fun x vs H Q => ∃ l b xs zs, x = .ref l ∧ vs = [.ref b] ∧ H l = some (.lst xs) ∧ H b = some (.lst zs) ∧ xs.length + zs.length ≤ sizeLine ∧ Q .non (upd H l (.lst (xs ++ zs)))
theorem mt_extend : MtM X "list.extend" rExtend := by
  intro pins s σ H x vs v us Q I rx rv h
  obtain ⟨l, b, xs, zs, rfl, rfl, hH, hB, hz, q⟩ := h
  cases rx
  obtain ⟨u, rfl, ru⟩ := rv.one
  cases ru
  obtain ⟨z, its, n, r, hl, e⟩ := I.lstM hH
  obtain ⟨z2, its2, n2, r2, hl2, e2⟩ := I.lstM hB
  have hsz : its.toArray.size + its2.toArray.size ≤ sizeLine := by rw [List.size_toArray, List.size_toArray]; omega
  have hlong : ¬ (!its.toArray.isEmpty && Builtin.List.listTooLong (its.toArray.size + its2.toArray.size)) = true := by
    rw [notLongL hsz, Bool.and_false]
    exact Bool.false_ne_true
  refine call_meets F.slot_list_extend ⟨_, e, rfl⟩ F.entry_list_extend (F.args_list_extend_2 _ _)
    (AutoSeq1.list_extend_list_list_0 l its.toArray n b its2.toArray n2 hlong (by rw [List.size_toArray]; omega) (by omega)) ⟨e, e2, ?_⟩
  refine ⟨.non, _, I.lset (its' := its ++ its2) hH e (by simp) (r.append r2) ?_, rfl, q⟩
  rw [List.length_append]
  omega

def rPop : V → List V → Hp → VK → Prop := fun x vs H Q => ∃ l xs y, x = .ref l ∧ vs = [] ∧ H l = some (.lst xs) ∧ xs[xs.length - 1]? = some y ∧ Q y (upd H l (.lst xs.dropLast))
def rPopAt : V → List V → Hp → VK → Prop := fun x vs H Q => ∃ l xs i k y, x = .ref l ∧ vs = [.int i] ∧ H l = some (.lst xs) ∧ -(2 ^ 63) ≤ i ∧ i < 2 ^ 63 ∧ seqIndex? i xs.length = some k ∧ xs[k]? = some y ∧ Q y (upd H l (.lst (xs.eraseIdx k)))
def rReverse : V → List V → Hp → VK → Prop := fun x vs H Q => ∃ l xs, x = .ref l ∧ vs = [] ∧ H l = some (.lst xs) ∧ Q .non (upd H l (.lst xs.reverse))
def rClear : V → List V → Hp → VK → Prop := fun x vs H Q => ∃ l xs, x = .ref l ∧ vs = [] ∧ H l = some (.lst xs) ∧ Q .non (upd H l (.lst []))
def rCat : R2 := fun x y H Q => ∃ l b xs zs, x = .ref l ∧ y = .ref b ∧ H l = some (.lst xs) ∧ H b = some (.lst zs) ∧ xs.length + zs.length ≤ sizeLine ∧ ∀ p, H p = none → Q (.ref p) (upd H p (.lst (xs ++ zs)))
theorem op_cat : OpR X (binaryOp .Add) rCat := by
  intro pins s σ H x y v u Q I rx ry h
  obtain ⟨l, b, xs, zs, rfl, rfl, hH, hB, hz, q⟩ := h
  cases rx
  cases ry
  obtain ⟨z, its, n, r, hl, e⟩ := I.lstM hH
  obtain ⟨z2, its2, n2, r2, hl2, e2⟩ := I.lstM hB
  refine PySem.P.add_list e e2 ?_ (by rw [List.size_toArray, List.size_toArray]; omega)
  have ea : its.toArray ++ its2.toArray = (its ++ its2).toArray := by simp
  rw [ea]
  exact ⟨.ref _, _, I.lnew (t' := s.toks) (r.append r2) (by rw [List.length_append]; omega), rfl, q _ I.fresh⟩
/-- a list times an int (a negative one is nothing) -/
def rRep : R2 := fun x y H Q => ∃ l k xs, x = .ref l ∧ y = .int k ∧ H l = some (.lst xs) ∧ -(2 ^ 63) ≤ k ∧ k < 2 ^ 63 ∧ xs.length * k.toNat ≤ sizeLine ∧
  ∀ p, H p = none → Q (.ref p) (upd H p (.lst (List.replicate k.toNat xs).flatten))
end


section
variable {prog : Program} {w : World} {A : Around} {E : Value → Shared → Prop} {s : Shared}
end

section
variable {X : Cx}
end
end L2

namespace L2
open PySem PySem.Spec PyProof.Rows

theorem Vals.ints : ∀ {ns : List Int} {us : List Value}, Vals (ns.map V.int) us → IntsAre us ns
  | [], us, h => by
    rw [List.map_nil] at h
    cases h
    exact IntsAre.nil
  | n :: ns, us, h => by
    rw [List.map_cons] at h
    cases h with
    | cons r t =>
      obtain ⟨k, rfl⟩ := r
      exact IntsAre.cons n k (Vals.ints t)
theorem vals_of_ints : ∀ {us : List Value} {ns : List Int}, IntsAre us ns → Vals (ns.map V.int) us
  | _, _, .nil => by rw [List.map_nil]; exact Paired.nil
  | _, _, .cons n t h => by rw [List.map_cons]; exact Paired.cons (show RelV (V.int n) (Value.int n t) from ⟨t, rfl⟩) (vals_of_ints h)
theorem Vals.strs : ∀ {xs : List Str} {us : List Value}, Vals (xs.map V.str) us → StrsAre us xs
  | [], us, h => by
    rw [List.map_nil] at h
    cases h
    exact StrsAre.nil
  | x :: xs, us, h => by
    rw [List.map_cons] at h
    cases h with
    | cons r t =>
      obtain ⟨k, rfl⟩ := r
      exact StrsAre.cons x k (Vals.strs t)
theorem Vals.bls : ∀ {bs : List Bool} {us : List Value}, Vals (bs.map V.bl) us → us = bs.map Value.bool
  | [], us, h => by
    rw [List.map_nil] at h
    cases h
    rfl
  | b :: bs, us, h => by
    rw [List.map_cons] at h
    cases h with
    | cons r t =>
      cases r
      rw [Vals.bls t, List.map_cons]
theorem Vals.ref1 {a : Addr} {us : List Value} (r : Vals [V.ref a] us) : us = [Value.ref a] := by
  cases r with
  | cons r t =>
    cases t
    cases r
    rfl
section
variable {prog : Program} {w : World} {A : Around} {E : Value → Shared → Prop} {s : Shared} {l : Addr} {its : List Value} {ns : List Int} {Q : Value → Shared → Prop}
end


section
variable {X : Cx}
/-- sum(xs) of a list of ints -/
def rSum (K : PySem.W.Frag) : List V → Hp → VK → Prop := fun vs H Q => ∃ (a : Addr) (ns : List Int), vs = [V.ref a] ∧ SqL K H a (ns.map V.int) ∧ Q (.int ns.sum) H
/-- max(xs), min(xs) of a list of ints -/
def rMax (K : PySem.W.Frag) : List V → Hp → VK → Prop := fun vs H Q => ∃ (a : Addr) (ns : List Int), vs = [V.ref a] ∧ SqL K H a (ns.map V.int) ∧ 0 < ns.length ∧ ∀ m, m ∈ ns → (∀ y, y ∈ ns → y ≤ m) → Q (.int m) H
def rMin (K : PySem.W.Frag) : List V → Hp → VK → Prop := fun vs H Q => ∃ (a : Addr) (ns : List Int), vs = [V.ref a] ∧ SqL K H a (ns.map V.int) ∧ 0 < ns.length ∧ ∀ m, m ∈ ns → (∀ y, y ∈ ns → m ≤ y) → Q (.int m) H
def rSorted (K : PySem.W.Frag) : List V → Hp → VK → Prop := fun vs H Q => ∃ (a : Addr) (ns : List Int), vs = [V.ref a] ∧ SqL K H a (ns.map V.int) ∧ ns.length < 64 ∧
  ∀ (ns' : List Int) (p : Addr), ns'.Perm ns → ns'.Pairwise (· ≤ ·) → H p = none → Q (.ref p) (upd H p (.lst (ns'.map V.int)))
def rSortedS (K : PySem.W.Frag) : List V → Hp → VK → Prop := fun vs H Q => ∃ (a : Addr) (xs : List Str), vs = [V.ref a] ∧ SqL K H a (xs.map V.str) ∧ xs.length < 64 ∧
  ∀ (ys : List Str) (p : Addr), ys.Perm xs → sortedS ys = true → H p = none → Q (.ref p) (upd H p (.lst (ys.map V.str)))
/-- xs.sort(), ints -/
def rSort : V → List V → Hp → VK → Prop := fun x xs H Q => ∃ (a : Addr) (ns : List Int), x = V.ref a ∧ xs = [] ∧ H a = some (.lst (ns.map V.int)) ∧ ns.length < 64 ∧
  ∀ ns' : List Int, ns'.Perm ns → ns'.Pairwise (· ≤ ·) → Q .non (upd H a (.lst (ns'.map V.int)))
end


section
variable {X : Cx}
def rIndex (K : PySem.W.Frag) : V → List V → Hp → VK → Prop := fun x xs H Q => ∃ (a : Addr) (ys : List V) (y : V) (j : Nat) (z : V), x = V.ref a ∧ xs = [y] ∧ SqL K H a ys ∧ flatV y = true ∧ ys.all flatV = true ∧ ys[j]? = some z ∧ eqV z y = true ∧
  (∀ (m : Nat) (z' : V), m < j → ys[m]? = some z' → eqV z' y = false) ∧ Q (.int (j : Nat)) H
end


section
variable {X : Cx}
end


theorem iter_any {prog : Program} {w : World} {A : Around} {E : Value → Shared → Prop} {s : Shared} {l : Addr} {items : Array Value} {Q : Value → Shared → Prop} (hl : s.heap.IsList l items)
    (h : ∀ s₂ : Shared, s₂ = { s with heap := s.heap.push { cls := .type "list_iterator", data := .fields #[.ref l, .int 0 0] } } →
      (s₂.heap.IsListIter s.heap.objs.size l 0 ∧ s₂.heap.IsList l items) → l ≠ s.heap.objs.size → Q (.ref s.heap.objs.size) s₂) : wpAny (model prog w) A (pyIter (.ref l)) Q E s := by
  have hlt : l < s.heap.objs.size := by obtain ⟨_, e, _⟩ := hl; exact Heap.lt_size e
  exact wpAny_pyIter_list hl (h _ rfl ⟨⟨_, Heap.get?_push_size _ rfl, rfl, rfl⟩, hl.push _⟩ (Nat.ne_of_lt hlt))
theorem truth_bools {prog : Program} {w : World} {A : Around} {bs : List Bool} {its : List Value} (e : its = bs.map Value.bool) :
    TruthOf prog w A (fun i v => its.toArray[i]? = some v) (fun i => bs.getD i false) := fun i v s Q E hv hq => by
  have hv' : its[i]? = some v := by simpa using hv
  rw [e, List.getElem?_map] at hv'
  obtain ⟨b, hb, rfl⟩ := Option.map_eq_some_iff.mp hv'
  have hg : bs.getD i false = b := by rw [List.getD_eq_getElem?_getD, hb] <;> rfl
  have hq' : Q (bs.getD i false) s := hq
  rw [hg] at hq'
  exact wpAny_truthy_bool hq'
theorem any_range : ∀ bs : List Bool, (List.range bs.length).any (fun i => bs.getD i false) = bs.any id
  | [] => rfl
  | b :: bs => by
    rw [List.length_cons, List.range_succ_eq_map, List.any_cons, List.any_map, List.any_cons, ← any_range bs]
    all_goals rfl
theorem all_range : ∀ bs : List Bool, (List.range bs.length).all (fun i => bs.getD i false) = bs.all id
  | [] => rfl
  | b :: bs => by
    rw [List.length_cons, List.range_succ_eq_map, List.all_cons, List.all_map, List.all_cons, ← all_range bs]
    all_goals rfl
section
variable {X : Cx}
def rAny (K : PySem.W.Frag) : List V → Hp → VK → Prop := fun vs H Q => ∃ (a : Addr) (bs : List Bool), vs = [V.ref a] ∧ SqL K H a (bs.map V.bl) ∧ Q (.bl (bs.any id)) H
def rAll (K : PySem.W.Frag) : List V → Hp → VK → Prop := fun vs H Q => ∃ (a : Addr) (bs : List Bool), vs = [V.ref a] ∧ SqL K H a (bs.map V.bl) ∧ Q (.bl (bs.all id)) H
theorem cr_all (hc : X.calm = true) : CallR X (.builtin "all") (rAll X.K) := by
  intro pins s σ H vs us Q I r h
  obtain ⟨a, bs, rfl, hs, q⟩ := h
  obtain ⟨its, rv, hl, _⟩ := I.list hs
  rw [Vals.ref1 r]
  have hb := rv.bls
  refine call_all_walk (iter_any hl.isList fun s₂ e2 st hne => ?_)
  subst e2
  refine ⟨_, _, _, _, _, _, _, rfl, Walks.list (A := X.A.in1) (I.ok.hd hc) _ a hne its.toArray, st, truth_bools hb, fun h' tk hk => ?_⟩
  refine ⟨.bl _, H, I.kept fun b o eo => hk b o (fun hmem => ?_) (Heap.get?_push_of_some _ eo), ?_, q⟩
  · rcases List.mem_cons.mp hmem with e1 | hmem
    · exact absurd (e1 ▸ Heap.lt_size eo) (Nat.lt_irrefl _)
    · cases hmem
  · show Value.bool _ = Value.bool _
    rw [← all_range, hb, List.size_toArray, List.length_map]
end


mutual
inductive Dp (K : PySem.W.Frag) (H : Hp) : V → PyData → Prop
  | non : Dp K H .non .none
  | bl (b : Bool) : Dp K H (.bl b) (.bool b)
  | int (i : Int) : Dp K H (.int i) (.int i)
  | str (x : Str) : Dp K H (.str x) (.str x)
  | lst {a : Addr} {xs : List V} {ds : List PyData} : SqL K H a xs → DpAll K H xs ds → Dp K H (.ref a) (.list ds)
  | tup {a : Addr} {xs : List V} {ds : List PyData} : SqT K H a xs → DpAll K H xs ds → Dp K H (.ref a) (.tuple ds)
inductive DpAll (K : PySem.W.Frag) (H : Hp) : List V → List PyData → Prop
  | nil : DpAll K H [] []
  | cons {v : V} {vs : List V} {d : PyData} {ds : List PyData} : Dp K H v d → DpAll K H vs ds → DpAll K H (v :: vs) (d :: ds)
end
section
variable {X : Cx} {pins : List (Addr × Obj)} {σ : St} {H : Hp} {s : Shared}
mutual
theorem Dp.reads (I : Inv X pins σ H s) : ∀ (d : PyData) (v : V) (u : Value), Dp X.K H v d → RelV v u → ∃ as, Reads s.heap u d as
  | .none, _, _, h, r => by
    cases h
    cases r
    exact ⟨_, Reads.none⟩
  | .bool b, _, _, h, r => by
    cases h
    cases r
    exact ⟨_, Reads.bool b⟩
  | .int i, _, _, h, r => by
    cases h
    obtain ⟨t, rfl⟩ := r
    exact ⟨_, Reads.int i t⟩
  | .str x, _, _, h, r => by
    cases h
    obtain ⟨t, rfl⟩ := r
    exact ⟨_, Reads.str x t⟩
  | .list ds, _, _, h, r => by
    cases h with
    | lst hs ha =>
      cases r
      obtain ⟨its, rv, ⟨o, n, ho, hc, _, hd⟩, _⟩ := I.list hs
      obtain ⟨as, hr⟩ := Dp.readsAll I ds _ its ha rv
      exact ⟨_, Reads.list ho hc hd hr⟩
  | .tuple ds, _, _, h, r => by
    cases h with
    | tup hs ha =>
      cases r
      obtain ⟨its, rv, ⟨o, ho, hc, n, hd⟩, _⟩ := I.tuple hs
      obtain ⟨as, hr⟩ := Dp.readsAll I ds _ its ha rv
      exact ⟨_, Reads.tuple ho hc hd hr⟩
  | .dict _, _, _, h, _ => by cases h
theorem Dp.readsAll (I : Inv X pins σ H s) : ∀ (ds : List PyData) (vs : List V) (us : List Value), DpAll X.K H vs ds → Vals vs us → ∃ as, ReadsAll s.heap us ds as
  | [], _, _, h, r => by
    cases h
    cases r
    exact ⟨_, ReadsAll.nil⟩
  | d :: ds, _, _, h, r => by
    cases h with
    | cons h1 h2 =>
      cases r with
      | cons r1 r2 =>
        obtain ⟨as, q1⟩ := Dp.reads I d _ _ h1 r1
        obtain ⟨bs, q2⟩ := Dp.readsAll I ds _ _ h2 r2
        exact ⟨_, ReadsAll.cons q1 q2⟩
end
end
section
variable {X : Cx}
def rEqD (K : PySem.W.Frag) : R2 := fun x y H Q => ∃ d e, Dp K H x d ∧ Dp K H y e ∧ SeqAt.shaped d = true ∧ SeqAt.shaped e = true ∧ Q (.bl (PyData.eqv d e)) H
def rNeD (K : PySem.W.Frag) : R2 := fun x y H Q => ∃ d e, Dp K H x d ∧ Dp K H y e ∧ SeqAt.shaped d = true ∧ SeqAt.shaped e = true ∧ Q (.bl (!PyData.eqv d e)) H
theorem op_eqD (hu : X.A.units + 64 < cLine) : OpR X (compareOp .Eq) (rEqD X.K) := by
  intro pins s σ H x y v u Q I rx ry h
  obtain ⟨d, e, hd, he, sd, se, q⟩ := h
  obtain ⟨as, r1⟩ := Dp.reads I d x v hd rx
  obtain ⟨bs, r2⟩ := Dp.reads I e y u he ry
  exact SeqAt.compareEq_shaped r1 r2 sd se hu ⟨.bl _, H, I, rfl, q⟩
theorem op_neD (hu : X.A.units + 64 < cLine) : OpR X (compareOp .NotEq) (rNeD X.K) := by
  intro pins s σ H x y v u Q I rx ry h
  obtain ⟨d, e, hd, he, sd, se, q⟩ := h
  obtain ⟨as, r1⟩ := Dp.reads I d x v hd rx
  obtain ⟨bs, r2⟩ := Dp.reads I e y u he ry
  exact SeqAt.compareNe_shaped r1 r2 sd se hu ⟨.bl _, H, I, rfl, q⟩
end
end L2

namespace L2
open PySem PySem.Spec PyProof.Rows
abbrev CellAt (h : Heap) (c : Addr) (v : Option Value) : Prop := h.IsCell c v
def relS (scope sc : Scope) : Scope :=
  { scope with names := scope.names.map fun (n, k) => if (k == .free && sc.kind == .function && sc.names.lookup n == some .cell) then (n, .cell) else (n, k) }

def cloFrom (cells : List (Str × Addr)) : List (Str × NameKind) → List (Str × Addr) → List (Str × Addr)
  | [], acc => acc
  | (n, k) :: r, acc => if k == .free then cloFrom cells r ((n, (cells.lookup n).getD 0) :: acc) else cloFrom cells r acc

theorem closure_loop (env : Env) (f : Str × NameKind → List (Str × Addr) → Sem (ForInStep (List (Str × Addr))))
    (hf : ∀ n k c, f (n, k) c = if k == .free then (do let a ← cellOf env n; pure (.yield ((n, a) :: c))) else pure (.yield c)) :
    ∀ (names : List (Str × NameKind)) (acc : List (Str × Addr)), (∀ y ∈ names, y.2 = .free → ∃ c, env.cells.lookup y.1 = some c) → forIn names acc f = pure (cloFrom env.cells names acc)
  | [], acc, _ => by rw [List.forIn_nil]; rfl
  | (n, k) :: r, acc, h => by
    rw [List.forIn_cons, hf]
    have ih := fun acc => closure_loop env f hf r acc fun y hy => h y (List.mem_cons_of_mem _ hy)
    unfold cloFrom
    by_cases hk : (k == NameKind.free) = true
    · rw [if_pos hk, if_pos hk]
      obtain ⟨c, hc⟩ := h (n, k) List.mem_cons_self (by simpa using hk)
      have e : cellOf env n = pure c := by unfold cellOf; rw [hc]
      rw [e]
      have e2 : (env.cells.lookup n).getD 0 = c := by rw [hc]; rfl
      rw [e2]
      exact ih _
    · rw [if_neg hk, if_neg hk]
      exact ih _
theorem closure_ok {scope : Scope} {env : Env} (h : ∀ y ∈ scope.names, y.2 = .free → ∃ c, env.cells.lookup y.1 = some c) : closureFor scope env = pure (cloFrom env.cells scope.names []) := by
  simp only [closureFor]
  rw [closure_loop env _ (fun n k c => rfl) scope.names [] h]
  rfl

theorem mem_lookup {α : Type} : ∀ {l : List (Str × α)} {n : Str} {c : α}, (n, c) ∈ l → ∃ c', l.lookup n = some c'
  | (k, v) :: r, n, c, h => by
    rw [List.lookup_cons]
    cases hb : n == k with
    | true => exact ⟨_, rfl⟩
    | false =>
      rcases List.mem_cons.mp h with e | h
      · cases e; simp at hb
      · exact mem_lookup h

theorem cloFrom_mem {cells : List (Str × Addr)} : ∀ {names : List (Str × NameKind)} {acc : List (Str × Addr)} {n : Str} {c : Addr}, (n, c) ∈ cloFrom cells names acc → (n, c) ∈ acc ∨ ((n, .free) ∈ names ∧ c = (cells.lookup n).getD 0)
  | [], _, _, _, h => .inl h
  | (m, k) :: r, acc, n, c, h => by
    unfold cloFrom at h
    split at h
    · rename_i hk
      have hk : k = .free := by simpa using hk
      rcases cloFrom_mem h with h | ⟨h1, h2⟩
      · rcases List.mem_cons.mp h with e | h
        · cases e; exact .inr ⟨hk ▸ List.mem_cons_self, rfl⟩
        · exact .inl h
      · exact .inr ⟨List.mem_cons_of_mem _ h1, h2⟩
    · rcases cloFrom_mem h with h | ⟨h1, h2⟩
      · exact .inl h
      · exact .inr ⟨List.mem_cons_of_mem _ h1, h2⟩
theorem cloFrom_acc {cells : List (Str × Addr)} : ∀ {names : List (Str × NameKind)} {acc : List (Str × Addr)} {p : Str × Addr}, p ∈ acc → p ∈ cloFrom cells names acc
  | [], _, _, h => h
  | (m, k) :: r, acc, p, h => by
    unfold cloFrom
    split
    · exact cloFrom_acc (List.mem_cons_of_mem _ h)
    · exact cloFrom_acc h
theorem cloFrom_has {cells : List (Str × Addr)} : ∀ {names : List (Str × NameKind)} {acc : List (Str × Addr)} {n : Str}, (n, .free) ∈ names → (n, (cells.lookup n).getD 0) ∈ cloFrom cells names acc
  | (m, k) :: r, acc, n, h => by
    unfold cloFrom
    rcases List.mem_cons.mp h with e | h
    · cases e
      exact cloFrom_acc List.mem_cons_self
    · split
      · exact cloFrom_has h
      · exact cloFrom_has h

theorem cells_mem : ∀ {names : List (Str × NameKind)} {h : Heap} {acc : List (Str × Addr)} {x : Str} {c : Addr}, (x, c) ∈ cellsFrom h.objs.size names acc →
    (x, c) ∈ acc ∨ ((x, .cell) ∈ names ∧ h.objs.size ≤ c ∧ CellAt (pushCells h names) c none)
  | [], _, _, _, _, h => .inl h
  | (n, k) :: r, h, acc, x, c, hm => by
    unfold cellsFrom at hm
    unfold pushCells
    split at hm
    · rename_i hk
      rw [if_pos hk]
      have hk : k = .cell := by simpa using hk
      rw [← Heap.size_push h { cls := .type "cell", data := .cell none }] at hm
      rcases cells_mem hm with hm | ⟨h1, h2, h3⟩
      · rcases List.mem_cons.mp hm with e | hm
        · cases e
          exact .inr ⟨hk ▸ List.mem_cons_self, Nat.le_refl _, _, pushCells_keeps r _ _ _ (Heap.get?_push_size _ rfl), rfl⟩
        · exact .inl hm
      · rw [Heap.size_push] at h2
        exact .inr ⟨List.mem_cons_of_mem _ h1, Nat.le_of_succ_le h2, h3⟩
    · rename_i hk
      rw [if_neg hk]
      rcases cells_mem hm with hm | ⟨h1, h2, h3⟩
      · exact .inl hm
      · exact .inr ⟨List.mem_cons_of_mem _ h1, h2, h3⟩
theorem cells_acc : ∀ {names : List (Str × NameKind)} {n : Nat} {acc : List (Str × Addr)} {p : Str × Addr}, p ∈ acc → p ∈ cellsFrom n names acc
  | [], _, _, _, h => h
  | (m, k) :: r, n, acc, p, h => by
    unfold cellsFrom
    split
    · exact cells_acc (List.mem_cons_of_mem _ h)
    · exact cells_acc h
theorem cells_has : ∀ {names : List (Str × NameKind)} {n : Nat} {acc : List (Str × Addr)} {x : Str}, (x, .cell) ∈ names → ∃ c, (x, c) ∈ cellsFrom n names acc
  | (m, k) :: r, n, acc, x, h => by
    unfold cellsFrom
    rcases List.mem_cons.mp h with e | h
    · cases e
      exact ⟨n, cells_acc List.mem_cons_self⟩
    · split
      · exact cells_has h
      · exact cells_has h
theorem cells_inj : ∀ {names : List (Str × NameKind)} {h : Heap} {acc : List (Str × Addr)} {x y : Str} {c : Addr}, (∀ p ∈ acc, p.2 < h.objs.size) → (∀ x y c, (x, c) ∈ acc → (y, c) ∈ acc → x = y) →
    (x, c) ∈ cellsFrom h.objs.size names acc → (y, c) ∈ cellsFrom h.objs.size names acc → x = y
  | [], _, _, _, _, _, _, hi, h1, h2 => hi _ _ _ h1 h2
  | (n, k) :: r, h, acc, x, y, c, hl, hi, h1, h2 => by
    unfold cellsFrom at h1 h2
    split at h1
    · rename_i hk
      rw [if_pos hk] at h2
      rw [← Heap.size_push h { cls := .type "cell", data := .cell none }] at h1 h2
      refine cells_inj (h := h.push _) (fun p hp => ?_) (fun x y c a b => ?_) h1 h2
      · rw [Heap.size_push]
        rcases List.mem_cons.mp hp with rfl | hp
        · exact Nat.lt_succ_self _
        · exact Nat.lt_succ_of_lt (hl p hp)
      · rcases List.mem_cons.mp a with e | a <;> rcases List.mem_cons.mp b with e' | b
        · cases e; cases e'; rfl
        · cases e; exact absurd (hl _ b) (Nat.lt_irrefl _)
        · cases e'; exact absurd (hl _ a) (Nat.lt_irrefl _)
        · exact hi _ _ _ a b
    · rename_i hk
      rw [if_neg hk] at h2
      exact cells_inj hl hi h1 h2

theorem newEnv_comp {M : Model} {A : Around} {E : Value → Shared → Prop} {s : Shared} {scope : Scope} {globals : Addr} {closure : List (Str × Addr)} {qual : Str} {func : Option Addr} {code : Value} {around : Env} {builtins : Addr} {Q : Env → Shared → Prop}
    (h : Q (newEnv scope s.heap.objs.size globals (cellsFrom (s.heap.objs.size + 1) scope.names closure) qual func code (some around) builtins)
      { s with heap := pushCells (s.heap.push { cls := .type "dict", data := .dict #[] }) scope.names }) :
    wpAny M A (newFunctionEnv scope globals closure [] qual func code (some around) builtins) Q E s := by
  simp only [newFunctionEnv, Option.isSome_some, if_true]
  refine wpAny_bind (wpAny_alloc ?_)
  refine wpAny_bind (wpAny_layCells _ (fun n k c => rfl) scope.names closure _ _ ?_)
  rw [show ({ s with heap := s.heap.push { cls := .type "dict", data := .dict #[] } } : Shared).heap.objs.size = s.heap.objs.size + 1 from Heap.size_push ..]
  rw [List.forIn_nil]
  exact wpAny_bind (wpAny_pure (wpAny_pure h))

/-- every name of the written scope, in the scope that runs -/
theorem lookup_relS {sc : Scope} : ∀ {names : List (Str × NameKind)} {x : Str} {k : NameKind},
    (names.map fun (n, k) => if (k == NameKind.free && sc.kind == .function && sc.names.lookup n == some .cell) then (n, NameKind.cell) else (n, k)).lookup x = some k →
    ∃ k', names.lookup x = some k' ∧ (k = k' ∨ (k' = .free ∧ k = .cell))
  | [], _, _, h => by simp at h
  | (n, k₀) :: r, x, k, h => by
    have ih := @lookup_relS sc r x k
    have h' : List.lookup x ((if (k₀ == NameKind.free && sc.kind == .function && sc.names.lookup n == some .cell) = true then (n, NameKind.cell) else (n, k₀)) :: (r.map _)) = some k := h
    cases hx : x == n with
    | true =>
      simp only [List.lookup_cons, hx]
      by_cases hc : (k₀ == NameKind.free && sc.kind == .function && sc.names.lookup n == some .cell) = true
      · rw [if_pos hc] at h'
        simp only [List.lookup_cons, hx] at h'
        cases h'
        simp only [Bool.and_eq_true, beq_iff_eq] at hc
        exact ⟨k₀, rfl, .inr ⟨hc.1.1, rfl⟩⟩
      · rw [if_neg hc] at h'
        simp only [List.lookup_cons, hx] at h'
        cases h'
        exact ⟨_, rfl, .inl rfl⟩
    | false =>
      simp only [List.lookup_cons, hx]
      by_cases hc : (k₀ == NameKind.free && sc.kind == .function && sc.names.lookup n == some .cell) = true
      · rw [if_pos hc] at h'
        simp only [List.lookup_cons, hx] at h'
        exact ih h'
      · rw [if_neg hc] at h'
        simp only [List.lookup_cons, hx] at h'
        exact ih h'
/-- the names of a comprehension's block: its own (with their places in N), or captured -/
structure BlkOk (N : List Str) (sc scope : Scope) (own : List (Str × Nat)) : Prop where
  kind : scope.kind = .function
  uniq : ∀ y ∈ scope.names, scope.names.lookup y.1 = some y.2
  ix : ∀ p ∈ own, N[p.2]? = some p.1
  free : ∀ y ∈ scope.names, y.2 = .free → sc.names.lookup y.1 = some .cell ∨ sc.names.lookup y.1 = some .free
  own : ∀ y ∈ scope.names, y.2 = .local ∨ y.2 = .cell → y.1 ∈ own.map (·.1) ∨ y.1 ∉ N
/-- the slots of the block's own names forgotten -/
def wipe (σ : St) : List Nat → St
  | [] => σ
  | v :: vs => (wipe σ vs).set v none
theorem wipe_length (σ : St) : ∀ vs : List Nat, (wipe σ vs).length = σ.length
  | [] => rfl
  | v :: vs => by unfold wipe; rw [List.length_set, wipe_length σ vs]
theorem wipe_some {σ : St} {i : Nat} {x : V} : ∀ {vs : List Nat}, (wipe σ vs)[i]? = some (some x) → σ[i]? = some (some x) ∧ i ∉ vs
  | [], h => ⟨h, by simp⟩
  | v :: vs, h => by
    unfold wipe at h
    by_cases hi : v = i
    · subst hi
      by_cases hv : v < (wipe σ vs).length
      · rw [List.getElem?_set_self hv] at h; cases h
      · rw [List.getElem?_eq_none (by simpa using hv)] at h; cases h
    · rw [List.getElem?_set_ne hi] at h
      obtain ⟨h1, h2⟩ := wipe_some h
      exact ⟨h1, by simp only [List.mem_cons, not_or]; exact ⟨fun e => hi e.symm, h2⟩⟩

/-- the context of a block that starts at s, its iterator's objects at fp -/
abbrev Cx.blk (X : Cx) (s : Shared) (H : Hp) (scope : Scope) (cenv : Env) (fp : List Addr) : Cx := { X with s_0 := s, H_0 := H, env := cenv, outer := X.stack, ex := fp, fn := fun x => scope.names.lookup x == some .cell, pn := [], xe := fun _ _ => False }
section
variable {X : Cx} {pins : List (Addr × Obj)} {σ : St} {H : Hp} {s : Shared}
theorem block_start {scope : Scope} {own : List (Str × Nat)} {fp : List Addr} (I : Inv X pins σ H s) (ok : BlkOk X.N X.env.scope scope own) (hN : X.N.Nodup) (hfp : ∀ b ∈ fp, FpOk X pins H b ∧ b < s.heap.objs.size) :
    Inv (X.blk s H scope (compEnvC scope (cellsFrom (s.heap.objs.size + 1) scope.names (cloFrom X.env.cells scope.names [])) s.heap.objs.size X.env) fp) [] (wipe σ (own.map (·.2))) H { s with heap := pushCells (s.heap.push { cls := .type "dict", data := .dict #[] }) scope.names } := by
  have hfree : ∀ y ∈ scope.names, y.2 = .free → ∃ c, X.env.cells.lookup y.1 = some c := fun y hy e => by
    rcases ok.free y hy e with k | k
    · exact I.ok.has _ (.inl k)
    · exact I.ok.has _ (.inr k)
  generalize hcenv : compEnvC scope (cellsFrom (s.heap.objs.size + 1) scope.names (cloFrom X.env.cells scope.names [])) s.heap.objs.size X.env = cenv
  have kp : ∀ b o, s.heap.get? b = some o → (pushCells (s.heap.push { cls := .type "dict", data := .dict #[] }) scope.names).get? b = some o := fun b o e => pushCells_keeps _ _ _ _ (Heap.get?_push_of_some _ e)
  have hL : cenv.locals = s.heap.objs.size := by rw [← hcenv]; rfl
  have hcl : cenv.cells = cellsFrom (s.heap.objs.size + 1) scope.names (cloFrom X.env.cells scope.names []) := by rw [← hcenv]; rfl
  have hsc : cenv.scope = relS scope X.env.scope := by rw [← hcenv]; rfl
  rw [← Heap.size_push s.heap { cls := .type "dict", data := .dict #[] }] at hcl
  have cm : ∀ {y c}, (y, c) ∈ cloFrom X.env.cells scope.names [] → X.env.cells.lookup y = some c ∧ c < s.heap.objs.size := fun {y c} hm => by
    rcases cloFrom_mem hm with hm | ⟨h1, rfl⟩
    · cases hm
    · obtain ⟨c, hc⟩ := hfree _ h1 rfl
      rw [hc]
      obtain ⟨w, z⟩ := I.cell _ _ hc
      exact ⟨rfl, z.lt⟩
  have mem : ∀ {y c}, cenv.cells.lookup y = some c → (X.env.cells.lookup y = some c ∧ c < s.heap.objs.size) ∨ (s.heap.objs.size + 1 ≤ c ∧ CellAt (pushCells (s.heap.push { cls := .type "dict", data := .dict #[] }) scope.names) c none) := fun {y c} e => by
    rw [hcl] at e
    rcases cells_mem (PySem.mem_of_lookup e) with hm | ⟨_, h2, h3⟩
    · exact .inl (cm hm)
    · rw [Heap.size_push] at h2; exact .inr ⟨h2, h3⟩
  have look : ∀ {y}, scope.names.lookup y = some .free → ∃ c, cenv.cells.lookup y = some c ∧ X.env.cells.lookup y = some c := fun {y} hl => by
    have hy : (y, NameKind.free) ∈ scope.names := PySem.mem_of_lookup hl
    obtain ⟨c', e'⟩ := mem_lookup (cells_acc (names := scope.names) (n := (s.heap.push { cls := .type "dict", data := .dict #[] }).objs.size) (cloFrom_has (cells := X.env.cells) (acc := []) hy))
    rw [← hcl] at e'
    refine ⟨c', e', ?_⟩
    rw [hcl] at e'
    rcases cells_mem (PySem.mem_of_lookup e') with hm | ⟨h1, _, _⟩
    · exact (cm hm).1
    · have := ok.uniq _ h1
      rw [hl] at this; cases this
  have okB : (X.blk s H scope cenv fp).Ok := by
    refine ⟨I.ok.mod, by show cenv.scope.kind = _; rw [hsc]; exact ok.kind, by show cenv.globals = _; rw [← hcenv]; exact I.ok.glob, by show cenv.builtins = _; rw [← hcenv]; exact I.ok.blt, by show s.heap.objs.size ≤ cenv.locals; rw [hL]; exact Nat.le_refl _,
      fun y z c e1 e2 => ?_, fun y hy => ?_, fun y c z e => ?_, I.ok.hd, I.ok.frames, .inl rfl, fun b hb => ⟨?_, fun y c e z => ?_⟩, I.bs, Nat.le_trans I.ok.bsz I.sz, fun b o e hb => ?_, fun b hb z => ?_, I.stack, I.stkFree⟩
    · have e1 : cenv.cells.lookup y = some c := e1
      have e2 : cenv.cells.lookup z = some c := e2
      rw [hcl] at e1 e2
      refine cells_inj (fun p hp => ?_) (fun y z c a b => I.ok.inj y z c (cm a).1 (cm b).1) (PySem.mem_of_lookup e1) (PySem.mem_of_lookup e2)
      rw [Heap.size_push]
      exact Nat.lt_succ_of_lt (cm (y := p.1) (c := p.2) hp).2
    · show ∃ c, cenv.cells.lookup y = some c
      have key : ∀ k, cenv.kindOf y = some k → (k = .cell ∨ k = .free) → ∃ c, cenv.cells.lookup y = some c := fun k hk hk' => by
        unfold Env.kindOf at hk
        rw [hsc] at hk
        obtain ⟨k', e, r⟩ := lookup_relS hk
        have : k' = .cell ∨ k' = .free := by
          rcases r with rfl | ⟨rfl, _⟩
          · exact hk'
          · exact .inr rfl
        rcases this with rfl | rfl
        · obtain ⟨c, hm⟩ := cells_has (n := (s.heap.push { cls := .type "dict", data := .dict #[] }).objs.size) (acc := cloFrom X.env.cells scope.names []) (PySem.mem_of_lookup e)
          obtain ⟨c', e'⟩ := mem_lookup hm
          exact ⟨c', by rw [hcl]; exact e'⟩
        · obtain ⟨c, h1, _⟩ := look e
          exact ⟨c, h1⟩
      rcases hy with hy | hy
      · exact key _ hy (.inl rfl)
      · exact key _ hy (.inr rfl)
    · have z : (scope.names.lookup y == some NameKind.cell) = true := z
      have z : scope.names.lookup y = some .cell := by simpa using z
      have e : cenv.cells.lookup y = some c := e
      rw [hcl] at e
      rcases cells_mem (PySem.mem_of_lookup e) with hm | ⟨_, h2, _⟩
      · rcases cloFrom_mem hm with hm | ⟨h1, _⟩
        · cases hm
        · have q := ok.uniq _ h1
          rw [z] at q; cases q
      · rw [Heap.size_push] at h2
        exact Nat.le_of_succ_le h2
    · show b ≠ cenv.locals
      rw [hL]; exact Nat.ne_of_lt (hfp b hb).2
    · have e : cenv.cells.lookup y = some c := e
      rcases mem e with ⟨h1, _⟩ | ⟨h1, _⟩
      · exact (hfp b hb).1.2.2.2.2.1 y c h1 z
      · have h2 : s.heap.objs.size + 1 ≤ b := by rw [← z]; exact h1
        exact absurd (Nat.lt_of_lt_of_le (hfp b hb).2 (Nat.le_of_succ_le h2)) (Nat.lt_irrefl _)
    · rcases (hfp b hb).1.2.2.2.1 with z | z
      · exact I.ok.noex b o e z
      · exact absurd (Nat.lt_of_lt_of_le (Heap.lt_size e) (Nat.le_trans I.ok.bsz z)) (Nat.lt_irrefl _)
    · rcases List.mem_cons.mp (I.stkSub b z) with z | z
      · exact (hfp b hb).1.2.1 z
      · exact (hfp b hb).1.2.2.1 z
  refine ⟨okB, rfl, I.bare, Un.kept kp, ⟨fun _ => none, ?_, fun i y av e1 e2 e3 => ?_⟩, fun y c e => ?_, ?_, fun y c e => ?_, fun p hp => ?_, I.hok.kept kp, by rw [wipe_length]; exact I.len⟩
  · show Heap.Ns _ cenv.locals _
    rw [hL]
    exact Heap.Ns.keeps (Heap.Ns.new ..) fun b o e => pushCells_keeps _ _ _ _ e
  · obtain ⟨e2, hne⟩ := wipe_some e2
    have hfr : scope.names.lookup y = some .free ∧ (cenv.kindOf y = some .cell ∨ cenv.kindOf y = some .free) := by
      have key : ∀ k, cenv.scope.names.lookup y = some k → k = .local ∨ k = .cell ∨ k = .free → scope.names.lookup y = some .free ∧ (cenv.kindOf y = some .cell ∨ cenv.kindOf y = some .free) := fun k hk hk' => by
        have hk0 := hk
        rw [hsc] at hk
        obtain ⟨k', e, r⟩ := lookup_relS hk
        have no : ¬ (k' = .local ∨ k' = .cell) := fun hh => by
          rcases ok.own _ (PySem.mem_of_lookup e) hh with e' | e'
          · obtain ⟨p, hp, hpy⟩ := List.mem_map.mp e'
            have e3 := ok.ix p hp
            have : p.1 = y := hpy
            rw [this] at e3
            exact hne (List.mem_map.mpr ⟨p, hp, nodup_ix hN e3 e1⟩)
          · exact e' (List.mem_of_getElem? e1)
        rcases r with rfl | ⟨rfl, rfl⟩
        · rcases hk' with rfl | rfl | rfl
          · exact absurd (.inl rfl) no
          · exact absurd (.inr rfl) no
          · exact ⟨e, .inr hk0⟩
        · exact ⟨e, .inl hk0⟩
      have e3 : Vis cenv.scope y := e3
      rcases e3 with e3 | e3 | e3
      · exact key _ e3 (.inl rfl)
      · exact key _ e3 (.inr (.inl rfl))
      · exact key _ e3 (.inr (.inr rfl))
    obtain ⟨m, hn, hl⟩ := I.loc
    have hvis : Vis X.env.scope y := (ok.free _ (PySem.mem_of_lookup hfr.1) rfl).elim (fun k => .inr (.inl k)) (fun k => .inr (.inr k))
    obtain ⟨w, r, q⟩ := hl i y av e1 e2 hvis
    refine ⟨w, r, .inr ⟨hfr.2, ?_⟩⟩
    obtain ⟨c, h1, h2⟩ := look hfr.1
    rcases q with ⟨k, _⟩ | ⟨_, c', e', z⟩
    · have k : X.env.scope.names.lookup y = some .local := k
      rcases ok.free _ (PySem.mem_of_lookup hfr.1) rfl with k' | k' <;> rw [show X.env.scope.names.lookup y = _ from k'] at k <;> cases k
    · rw [h2] at e'; cases e'
      exact ⟨c, h1, z.keeps kp⟩
  · have e : cenv.cells.lookup y = some c := e
    rcases mem e with ⟨h1, _⟩ | ⟨_, z⟩
    · obtain ⟨w, z⟩ := I.cell y c h1
      exact ⟨w, z.keeps kp⟩
    · exact ⟨_, z⟩
  · show H cenv.locals = none
    rw [hL]; exact I.hok.fresh (Nat.le_refl _)
  · have e : cenv.cells.lookup y = some c := e
    rcases mem e with ⟨h1, _⟩ | ⟨h1, _⟩
    · exact I.freeC y c h1
    · exact I.hok.fresh (Nat.le_of_succ_le h1)
  · exact absurd (show p ∈ ([] : List (Addr × Obj)) ++ [] from hp) (by simp)

/-- an item appended to a tracked list -/
theorem app_ok {E : Value → Shared → Prop} {D : Addr} {xs : List V} {y : V} {v : Value} {Q : Value → Shared → Prop} (I : Inv X pins σ H s) (hD : H D = some (.lst xs)) (hz : xs.length < sizeLine) (r : RelV y v)
    (h : ∀ s', Inv X pins σ (upd H D (.lst (xs ++ [y]))) s' → Q .none s') : wpAny (model X.prog X.w) X.A (call (.builtin "list.append") [.ref D, v]) Q E s := by
  obtain ⟨hz', its, n, ri, e⟩ := I.hok D _ hD
  have hl := ri.length
  refine append_at (hsz := by rw [List.size_toArray]; omega) e fun h' sb ho' => ?_
  refine h { s with heap := h' } (I.write (t' := s.toks) (by rw [hD]; trivial) (.inl rfl) (fun b u hb q => (sb.2 b hb).trans q) ⟨_, ho'⟩ ⟨by rw [List.length_append]; exact hz, its ++ [v], n + 1, ri.append (.cons r .nil), ?_⟩)
  rw [ho']
  simp

/-- a clause's tests -/
def PTs (X : Cx) (ifs : List Expr) (t : TT) : Prop :=
  ∀ (pins : List (Addr × Obj)) (s : Shared) (σ : St) (H : Hp) (Q : Bool → Hp → Prop), Inv X pins σ H s → t σ H Q →
    wpAny (model X.prog X.w) X.A (forIn ifs true fun c r => if r = true then do let ok ← isTrue c X.env (eval c X.env); pure (ForInStep.yield ok) else pure (ForInStep.yield r)) (TP X pins σ Q) X.xe s
structure QTs (X : Cx) (ifs : List Expr) (t : TT) : Prop where
  go : PTs X ifs t
def tYes : TT := fun _ H Q => Q true H
theorem pts_nil : PTs X [] tYes := fun _ _ _ H _ I h => wpAny_tests_nil ⟨H, I, h⟩
theorem qts_nil  : QTs X [] tYes := ⟨pts_nil ⟩
end

theorem thnF {α : Type} {t : Sem α} {Q Q' : α → Shared → Prop} {M : Model} {A : Around} {E : Value → Shared → Prop} {s : Shared} (h : wpAny M A t Q (fun _ _ => False) s) (hQ : ∀ a s, Q a s → Q' a s) : wpAny M A t Q' E s := wpAny_mono h hQ fun _ _ z => False.elim z

/-- the loop of a list comprehension's block, the target of any form (codeAny_compLoop_tests asks a target that no tuple goes to; statement and proof follow it, PyProof/CompMap.lean:41-61, with the step letOwnedTupleGo kept) -/
theorem compLoop_any {prog : Program} {w : World} {A : Around} {R : Result → Shared → Prop} {s : Shared} {elt target iter : Expr} {ifs : List Expr} {scope : Scope} {pos : Pos} {it acc : Value} {env : Env} (I : Nat → Shared → Prop)
    (turn : ∀ n s, I n s → wpAny (model prog w) A (pyNext it) (fun r s₁ => match r with
      | none => R (.ok .next) s₁
      | some v => wpAny (model prog w) A (letOwnedTupleGo target it v) (fun _ s₁' => wpAny (model prog w) A (assign target env v) (fun _ s₂ =>
          wpAny (model prog w) A (forIn ifs true fun c r => if r = true then do let ok ← isTrue c env (eval c env); pure (ForInStep.yield ok) else pure (ForInStep.yield r)) (fun ok s₃ =>
            if ok = true then wpAny (model prog w) A (eval elt env) (fun x s₄ =>
              wpAny (model prog w) A (call (.builtin "list.append") [acc, x]) (fun _ s₅ => ∃ m, m < n ∧ I m s₅) (notedBy (model prog w) A env fun e s' => R (.error e) s') s₄) (notedBy (model prog w) A env fun e s' => R (.error e) s') s₃
            else ∃ m, m < n ∧ I m s₃) (notedBy (model prog w) A env fun e s' => R (.error e) s') s₂) (notedBy (model prog w) A env fun e s' => R (.error e) s') s₁') (notedBy (model prog w) A env fun e s' => R (.error e) s') s₁) (notedBy (model prog w) A env fun e s' => R (.error e) s') s)
    (n : Nat) (h : I n s) :
    codeAny (model prog w) A (.compLoop (.ListComp elt [⟨target, iter, ifs, 0⟩] scope pos) 0 it acc env) R s := by
  refine codeAny_loop rfl I (fun n s hI => ?_) n h
  show wpAny _ A ((compTurn (.ListComp elt [⟨target, iter, ifs, 0⟩] scope pos) 0 it acc env).onRaise (fun x => do noteFrame x env; theTreesLotGoes x)) _ _ s
  refine wpAny_noted ?_
  rw [compTurn_list]
  refine wpAny_bind (wpAny_standAt (wpAny_bind (wpAny_mono (turn n s hI) (fun r s₁ h₁ => ?_) fun _ _ h' => h')))
  cases r with
  | none => exact wpAny_pure h₁
  | some v =>
    refine wpAny_bind (wpAny_mono h₁ (fun _ s₁' h₁' => ?_) fun _ _ h' => h')
    refine wpAny_bind (wpAny_mono h₁' (fun _ s₂ h₂ => wpAny_bind (wpAny_mono h₂ (fun ok s₃ h₃ => ?_) fun _ _ h' => h')) fun _ _ h' => h')
    cases ok with
    | false => exact wpAny_pure ⟨rfl, h₃⟩
    | true =>
      exact wpAny_bind (wpAny_bind (wpAny_mono h₃ (fun x s₄ h₄ => wpAny_bind (wpAny_mono h₄ (fun _ s₅ h₅ => wpAny_pure (wpAny_pure ⟨rfl, h₅⟩)) fun _ _ h' => h')) fun _ _ h' => h'))

section
variable {X : Cx}
/-- [elt for target in iter if ..]: D the new list; W by the turn and a measure, Nx what a turn is to reach -/
def tLc (wi : TI) (g : TG) (tt : TT) (te : TE) (vs : List Nat) : TE := fun σ H Q => wi σ H fun J H1 => ∀ D, H1 D = none → ∃ W : Nat → Nat → Hp → Prop, (∃ m, W 0 m (upd H1 D (.lst []))) ∧ ∀ i m H, W i m H →
  (J.stop i H ∧ Q (.ref D) H) ∨ (J.go i H ∧ ∃ Nx : Hp → Prop, (∀ H', Nx H' → ∃ m', m' < m ∧ W (i + 1) m' H') ∧ ∀ x H', J.yld i H x H' → g x (wipe σ vs) H' fun σ2 H2 => wipe σ2 vs = wipe σ vs ∧ tt σ2 H2 fun b H3 =>
    if b = true then te σ2 H3 fun y H4 => ∃ acc, H4 D = some (.lst acc) ∧ acc.length < sizeLine ∧ Nx (upd H4 D (.lst (acc ++ [y]))) else Nx H3)
theorem lc_core {pins : List (Addr × Obj)} {s : Shared} {σ : St} {H : Hp} {Q : VK} {elt tg iter : Expr} {ifs : List Expr} {scope : Scope} {own : List (Str × Nat)} {pos pos' : Pos} {wi : TI} {g : TG} {tt : TT} {te : TE} {use : Option (Value → Sem Unit)} {Qf : Value → Shared → Prop}
    (hc : X.calm = true) (hN : X.N.Nodup) (I : Inv X pins σ H s) (hi : PI X tg iter wi) (ok : BlkOk X.N X.env.scope scope own)
    (hg : ∀ (s : Shared) (H : Hp) (C : Addr) (cl : List (Str × Addr)) (fp : List Addr), PG (X.blk s H scope (compEnvC scope cl C X.env) fp) tg g) (ht : ∀ (s : Shared) (H : Hp) (C : Addr) (cl : List (Str × Addr)) (fp : List Addr), PTs (X.blk s H scope (compEnvC scope cl C X.env) fp) ifs tt)
    (he : ∀ (s : Shared) (H : Hp) (C : Addr) (cl : List (Str × Addr)) (fp : List Addr), PE (X.blk s H scope (compEnvC scope cl C X.env) fp) elt te) (hs : ∀ x, foldedSetIterable iter X.env x = pure x)
    (h : tLc wi g tt te (own.map (·.2)) σ H Q)
    (hRR : ∀ D C s' m H', Inv X pins σ H' s' → Q (.ref D) H' → s'.heap.Ns C m → FpOk X pins H' C → compPost (model X.prog X.w) X.A X.xe use Qf (.ref D) C (.ok .next) s') :
    wpAny (model X.prog X.w) X.A (comprehension (.ListComp elt [⟨tg, iter, ifs, 0⟩] scope pos) scope X.env pos' (newList []) false (eval iter X.env) use) Qf X.xe s := by
  have hfree : ∀ y ∈ scope.names, y.2 = .free → ∃ c, X.env.cells.lookup y.1 = some c := fun y hy e => by
    rcases ok.free y hy e with k | k
    · exact I.ok.has _ (.inl k)
    · exact I.ok.has _ (.inr k)
  refine wpAny_comprehension_free (use := use) rfl hs (closure_ok hfree) ok.kind (fun y hy e => by rw [ok.uniq y hy, e])
    (thn (hi pins s σ H _ I h) fun xv s1 hx => thn hx fun itv s2 h2 => ?_)
  obtain ⟨it, fp, tn, J, H2, e, I2, T, st2, f2, q⟩ := h2
  subst e
  refine wpAny_newObj_type (newEnv_comp ?_) (by show 0 ≤ sizeLine; decide)
  generalize hD : s2.heap.objs.size = D
  have hDn : H2 D = none := I2.hok.fresh (Nat.le_of_eq hD)
  obtain ⟨W, ⟨m0, w0⟩, turn⟩ := q D hDn
  -- the new list
  generalize hs3 : ({ s2 with heap := s2.heap.push { cls := .type "list", data := .seq ([] : List Value).toArray } } : Shared) = s3
  have I3 : Inv X pins σ (upd H2 D (.lst [])) s3 := by
    rw [← hs3]
    refine I2.laid (t' := s2.toks) (fun b o e => Heap.get?_push_of_some _ e) (Nat.le_of_eq hD) ⟨Nat.zero_le _, [], 0, .nil, ?_⟩
    rw [← hD]
    exact Heap.get?_push_size _ rfl
  have h3 : s3.heap = s2.heap.push { cls := .type "list", data := .seq ([] : List Value).toArray } := by rw [← hs3]
  have sz : ∀ b ∈ fp, b < s2.heap.objs.size := fun b hb => by
    obtain ⟨o, e, _⟩ := T.obj _ _ st2 b hb
    exact Heap.lt_size e
  have f3 : ∀ b ∈ fp, FpOk X pins (upd H2 D (.lst [])) b ∧ b < s3.heap.objs.size := fun b hb => by
    have hlt := sz b hb
    refine ⟨⟨?_, (f2 b hb).2⟩, by rw [h3, Heap.size_push]; exact Nat.lt_succ_of_lt hlt⟩
    rw [upd_ne (by rw [← hD]; exact Nat.ne_of_lt hlt)]
    exact (f2 b hb).1
  have st3 : tn 0 s3.heap := T.keep _ _ _ st2 fun b _ o e => by rw [h3]; exact Heap.get?_push_of_some _ e
  have I4 := block_start I3 ok hN f3
  have pg := hg s3 (upd H2 D (.lst [])) s3.heap.objs.size (cellsFrom (s3.heap.objs.size + 1) scope.names (cloFrom X.env.cells scope.names [])) fp
  have pt := ht s3 (upd H2 D (.lst [])) s3.heap.objs.size (cellsFrom (s3.heap.objs.size + 1) scope.names (cloFrom X.env.cells scope.names [])) fp
  have pe := he s3 (upd H2 D (.lst [])) s3.heap.objs.size (cellsFrom (s3.heap.objs.size + 1) scope.names (cloFrom X.env.cells scope.names [])) fp
  show codeAny _ _ (.compStart (.ListComp elt [⟨tg, iter, ifs, 0⟩] scope pos) 0 (.ref it) (.ref D) (compEnvC scope (cellsFrom (s3.heap.objs.size + 1) scope.names (cloFrom X.env.cells scope.names [])) s3.heap.objs.size X.env)) (compPost (model X.prog X.w) X.A X.xe use Qf (.ref D) s3.heap.objs.size) { s3 with heap := pushCells (s3.heap.push { cls := .type "dict", data := .dict #[] }) scope.names }
  have nfp : ∀ b ∈ fp, (upd H2 D (.lst [])) b = none := fun b hb => (f3 b hb).1.1
  generalize hce : compEnvC scope (cellsFrom (s3.heap.objs.size + 1) scope.names (cloFrom X.env.cells scope.names [])) s3.heap.objs.size X.env = ce at I4 pg pt pe ⊢
  have cL : ce.locals = s3.heap.objs.size := by subst hce; rfl
  generalize hH3 : upd H2 D (.lst []) = H3 at I3 I4 pg pt pe w0 nfp f3
  generalize hs4 : ({ s3 with heap := pushCells (s3.heap.push { cls := .type "dict", data := .dict #[] }) scope.names } : Shared) = s4 at I4 ⊢
  have st4 : tn 0 s4.heap := T.keep _ _ _ st3 fun b _ o e => by rw [← hs4]; exact pushCells_keeps _ _ _ _ (Heap.get?_push_of_some _ e)
  have stat : ∀ {σ' : St} {H' : Hp} {s' : Shared}, Inv (X.blk s3 H3 scope ce fp) [] σ' H' s' → (∀ b ∈ fp, H' b = none) → ∀ b ∈ fp, FpOk (X.blk s3 H3 scope ce fp) [] H' b := fun {σ' H' s'} I' hn b hb =>
    ⟨hn b hb, (I'.ok.exf b hb).1, I'.ok.exfs b hb, .inl hb, fun x c e => (I'.ok.exf b hb).2 x c e, fun p hp => absurd (show p ∈ ([] : List (Addr × Obj)) ++ [] from hp) (by simp)⟩
  have loop : codeAny (model X.prog X.w) X.A (.compLoop (.ListComp elt [⟨tg, iter, ifs, 0⟩] scope pos) 0 (.ref it) (.ref D) ce) (compPost (model X.prog X.w) X.A X.xe use Qf (.ref D) s3.heap.objs.size) s4 := by
    refine compLoop_any (fun n s' => ∃ i H', Inv (X.blk s3 H3 scope ce fp) [] (wipe σ (own.map (·.2))) H' s' ∧ tn i s'.heap ∧ (∀ b ∈ fp, H' b = none) ∧ W i n H') ?_ m0 ⟨0, H3, I4, st4, nfp, w0⟩
    rintro n s5 ⟨i, H5, I5, st5, n5, w5⟩
    rcases turn i n H5 w5 with ⟨stop, qq⟩ | ⟨go, Nx, hNx, step⟩
    · have td := T.done (X.blk s3 H3 scope ce fp) rfl rfl rfl hc i [] s5 _ H5 (fun _ _ => False) I5 (stat I5 n5) st5 stop
      refine thnF td fun r s6 ⟨hr, I6⟩ => ?_
      subst hr
      -- back in the def's context
      have I7 : Inv X pins σ H5 s6 := I3.call' (ch := fp) I6.os I6.base I6.hok I6.bare fun b hb => ⟨(f3 b hb).1.2.2.2.1, (f3 b hb).1.2.1, (f3 b hb).1.2.2.2.2.1, (f3 b hb).1.2.2.2.2.2⟩
      have nC : H5 s3.heap.objs.size = none := by
        have z : H5 ce.locals = none := I6.free
        rw [cL] at z
        exact z
      obtain ⟨m, hn, _⟩ := I6.loc
      have hn : s6.heap.Ns ce.locals m := hn
      rw [cL] at hn
      exact hRR D s3.heap.objs.size s6 m H5 I7 qq hn (I3.fpOk (Nat.le_refl _) nC)
    · have ti := T.item (X.blk s3 H3 scope ce fp) rfl rfl rfl hc i [] s5 _ H5 (fun _ _ => False) I5 (stat I5 n5) st5 go
      refine thnF ti fun r s6 ⟨u, hr, h6⟩ => ?_
      subst hr
      refine thnF h6 fun _ s7 ⟨x, H7, I7, r7, y7, st7, n7⟩ => ?_
      have I7' := I7.pinned (stat I7 n7) (T.obj _ _ st7)
      refine thnF (pg _ s7 _ H7 x u _ I7' r7 (step x H7 y7)) fun _ s8 ⟨σ8, H8, I8, hw8, q8⟩ => ?_
      refine thnF (pt _ s8 σ8 H8 _ I8 q8) fun b s9 ⟨H9, I9, q9⟩ => ?_
      -- the turn's end
      have fin : ∀ {s' : Shared} {H' : Hp}, Inv (X.blk s3 H3 scope ce fp) ([] ++ pinsAt fp s7.heap) σ8 H' s' → Nx H' → ∃ m, m < n ∧ ∃ i H', Inv (X.blk s3 H3 scope ce fp) [] (wipe σ (own.map (·.2))) H' s' ∧ tn i s'.heap ∧ (∀ b ∈ fp, H' b = none) ∧ W i m H' := fun {s' H'} I' nx => by
        obtain ⟨m', hm, w'⟩ := hNx H' nx
        have pin' : ∀ b ∈ fp, ∀ o, s7.heap.get? b = some o → s'.heap.get? b = some o ∧ H' b = none := fun b hb o e =>
          let z := I'.pin (b, o) (List.mem_append_right _ (List.mem_append_right _ (mem_pinsAt hb e)))
          ⟨z.1, z.2.1⟩
        have hl : (wipe σ (own.map (·.2))).length = σ8.length := by rw [← hw8, wipe_length]
        refine ⟨m', hm, i + 1, H', (I'.unpinned (pins := [])).weak hl (fun j v e => ?_), T.keep _ _ _ st7 fun b hb o e => (pin' b hb o e).1, fun b hb => ?_, w'⟩
        · rw [← hw8] at e
          exact (wipe_some e).1
        · obtain ⟨o, e, _⟩ := T.obj _ _ st7 b hb
          exact (pin' b hb o e).2
      cases b with
      | false =>
        simp only [Bool.false_eq_true, if_false] at q9 ⊢
        exact fin I9 q9
      | true =>
        simp only [if_true] at q9 ⊢
        refine thnF (pe _ s9 σ8 H9 _ I9 q9) fun z s10 ⟨yv, H10, I10, r10, acc, hD10, hz10, nx⟩ => ?_
        exact app_ok (X := X.blk s3 H3 scope ce fp) I10 hD10 hz10 r10 fun s11 I11 => fin I11 nx
  exact codeAny_compStart_list loop (T.self X.A 0 _ _ _ st4 loop)
/-- as a value -/
theorem pe_lc {elt tg iter : Expr} {ifs : List Expr} {scope : Scope} {own : List (Str × Nat)} {pos : Pos} {wi : TI} {g : TG} {tt : TT} {te : TE} (hc : X.calm = true) (hN : X.N.Nodup) (hi : PI X tg iter wi) (ok : BlkOk X.N X.env.scope scope own)
    (hg : ∀ (s : Shared) (H : Hp) (C : Addr) (cl : List (Str × Addr)) (fp : List Addr), PG (X.blk s H scope (compEnvC scope cl C X.env) fp) tg g) (ht : ∀ (s : Shared) (H : Hp) (C : Addr) (cl : List (Str × Addr)) (fp : List Addr), PTs (X.blk s H scope (compEnvC scope cl C X.env) fp) ifs tt)
    (he : ∀ (s : Shared) (H : Hp) (C : Addr) (cl : List (Str × Addr)) (fp : List Addr), PE (X.blk s H scope (compEnvC scope cl C X.env) fp) elt te) (hs : ∀ x, foldedSetIterable iter X.env x = pure x := by intro _; rfl) :
    PE X (.ListComp elt [⟨tg, iter, ifs, 0⟩] scope pos) (tLc wi g tt te (own.map (·.2))) := by
  intro pins s σ H Q I h
  rw [eval_ListComp]
  refine lc_core hc hN I hi ok hg ht he hs h fun D C s' m H' I' q hn f => ⟨m, hn, fun h'' sb => ?_⟩
  obtain ⟨f0, f1, f2, f3, f4, f5⟩ := f
  exact ⟨.ref D, H', I'.turned (t' := s'.toks) (fun b o hb e => (sb.2 b hb).trans e) f0 f1 f3 f4 f5, rfl, q⟩
theorem qe_lc {elt tg iter : Expr} {ifs : List Expr} {scope : Scope} {own : List (Str × Nat)} {pos : Pos} {wi : TI} {g : TG} {tt : TT} {te : TE} (hc : X.calm = true) (hN : X.N.Nodup) (hi : QI X tg iter wi) (ok : BlkOk X.N X.env.scope scope own) (hg : ∀ (s : Shared) (H : Hp) (C : Addr) (cl : List (Str × Addr)) (fp : List Addr), QG (X.blk s H scope (compEnvC scope cl C X.env) fp) tg g) (ht : ∀ (s : Shared) (H : Hp) (C : Addr) (cl : List (Str × Addr)) (fp : List Addr), QTs (X.blk s H scope (compEnvC scope cl C X.env) fp) ifs tt) (he : ∀ (s : Shared) (H : Hp) (C : Addr) (cl : List (Str × Addr)) (fp : List Addr), QE (X.blk s H scope (compEnvC scope cl C X.env) fp) elt te) (hs : ∀ x, foldedSetIterable iter X.env x = pure x := by intro _; rfl) : QE X (.ListComp elt [⟨tg, iter, ifs, 0⟩] scope pos) (tLc wi g tt te (own.map (·.2))) := ⟨pe_lc hc hN hi.go ok (fun s H C cl fp => (hg s H C cl fp).go) (fun s H C cl fp => (ht s H C cl fp).go) (fun s H C cl fp => (he s H C cl fp).go) hs⟩
/-- name = [..] on one line, the name a local -/
theorem ps_setLc {i : Nat} {y : Str} {py : Pos} {elt tg iter : Expr} {ifs : List Expr} {scope : Scope} {own : List (Str × Nat)} {pos spos : Pos} {wi : TI} {g : TG} {tt : TT} {te : TE} (hc : X.calm = true) (hN : X.N.Nodup) (hy : X.N[i]? = some y) (hyl : X.env.scope.names.lookup y = some .local)
    (hsw : swapsWith (.ListComp elt [⟨tg, iter, ifs, 0⟩] scope pos) (some (.Name y py)) spos.line X.env = pure true) (hi : PI X tg iter wi) (ok : BlkOk X.N X.env.scope scope own)
    (hg : ∀ (s : Shared) (H : Hp) (C : Addr) (cl : List (Str × Addr)) (fp : List Addr), PG (X.blk s H scope (compEnvC scope cl C X.env) fp) tg g) (ht : ∀ (s : Shared) (H : Hp) (C : Addr) (cl : List (Str × Addr)) (fp : List Addr), PTs (X.blk s H scope (compEnvC scope cl C X.env) fp) ifs tt)
    (he : ∀ (s : Shared) (H : Hp) (C : Addr) (cl : List (Str × Addr)) (fp : List Addr), PE (X.blk s H scope (compEnvC scope cl C X.env) fp) elt te) (hs : ∀ x, foldedSetIterable iter X.env x = pure x := by intro _; rfl) :
    PS X (.Assign [.Name y py] (.ListComp elt [⟨tg, iter, ifs, 0⟩] scope pos) spos) (tAsg (tLc wi g tt te (own.map (·.2))) (gName i)) := by
  intro pins s σ H D I h
  rw [exec_Assign_Name_used _ _ _ _ hsw]
  refine wpAny_bind (wpAny_standAt (wpAny_bind ?_))
  show wpAny _ X.A (do let _ ← comprehension (.ListComp elt [⟨tg, iter, ifs, 0⟩] scope pos) scope X.env (firstIterPos [⟨tg, iter, ifs, 0⟩] pos) (newList []) false (eval iter X.env) (some (assign (.Name y py) X.env))) _ _ s
  have h : tLc wi g tt te (own.map (·.2)) σ H (fun x H1 => gName i x σ H1 D.nx) := h
  refine wpAny_bind (thn (lc_core (Qf := fun _ s' => SP X pins D .next s') hc hN I hi ok hg ht he hs h fun L C s' m H' I' q hn f => ?_) fun _ s' hq => wpAny_pure (wpAny_pure hq))
  show wpAny _ _ (assign (.Name y py) X.env (.ref L)) _ _ _
  refine wpAny_assign_Name (store_ok2 (v := V.ref L) I' hN hy (.inl hyl) rfl (fun s2 I2 ⟨a, sb, ha⟩ => ?_) (.inr hyl))
  obtain ⟨f0, f1, f2, f3, f4, f5⟩ := f
  have haC : C ≠ a := by
    rcases ha with z | z
    · rw [z]; exact f1
    · exact fun e => f4 y a z e.symm
  refine ⟨m, hn.sameBut sb haC, fun h3 sb3 => ?_⟩
  exact ⟨_, H', I2.turned (t' := s2.toks) (fun b o hb e => (sb3.2 b hb).trans e) f0 f1 f3 f4 f5, q⟩
theorem qs_setLc {i : Nat} {y : Str} {py : Pos} {elt tg iter : Expr} {ifs : List Expr} {scope : Scope} {own : List (Str × Nat)} {pos spos : Pos} {wi : TI} {g : TG} {tt : TT} {te : TE} (hc : X.calm = true) (hN : X.N.Nodup) (hy : X.N[i]? = some y) (hyl : X.env.scope.names.lookup y = some .local) (hsw : swapsWith (.ListComp elt [⟨tg, iter, ifs, 0⟩] scope pos) (some (.Name y py)) spos.line X.env = pure true) (hi : QI X tg iter wi) (ok : BlkOk X.N X.env.scope scope own) (hg : ∀ (s : Shared) (H : Hp) (C : Addr) (cl : List (Str × Addr)) (fp : List Addr), QG (X.blk s H scope (compEnvC scope cl C X.env) fp) tg g) (ht : ∀ (s : Shared) (H : Hp) (C : Addr) (cl : List (Str × Addr)) (fp : List Addr), QTs (X.blk s H scope (compEnvC scope cl C X.env) fp) ifs tt) (he : ∀ (s : Shared) (H : Hp) (C : Addr) (cl : List (Str × Addr)) (fp : List Addr), QE (X.blk s H scope (compEnvC scope cl C X.env) fp) elt te) (hs : ∀ x, foldedSetIterable iter X.env x = pure x := by intro _; rfl) : QS X (.Assign [.Name y py] (.ListComp elt [⟨tg, iter, ifs, 0⟩] scope pos) spos) (tAsg (tLc wi g tt te (own.map (·.2))) (gName i)) := ⟨ps_setLc hc hN hy hyl hsw hi.go ok (fun s H C cl fp => (hg s H C cl fp).go) (fun s H C cl fp => (ht s H C cl fp).go) (fun s H C cl fp => (he s H C cl fp).go) hs⟩
theorem sw_true {elt : Expr} {gs : List Comprehension} {scope : Scope} {pos py : Pos} {y : Str} {l : Nat} {env : Env} (hk : env.scope.kind = .function) (hy : env.scope.names.lookup y = some .local) (hl : (py.line == pos.line) = true)
    (ha : (scope.names.any fun (n, k) => n == y && (k == .local || k == .cell)) = false) : swapsWith (.ListComp elt gs scope pos) (some (.Name y py)) l env = pure true := by
  have ky : env.kindOf y = some .local := hy
  have hb : env.blockKind = .function := by unfold Env.blockKind; rw [hk]; rfl
  unfold swapsWith
  simp only [hb, ky, ha, Expr.pos, hl]
  rfl
end


/-- over a range: Pv by the turn and the heap (the new list at D within) -/
theorem lc_range {lo : Int} {n : Nat} {g : TG} {tt : TT} {te : TE} {vs : List Nat} {σ : St} {H1 : Hp} {D : Addr} {Qd : Hp → Prop} (Pv : Nat → Hp → Prop) (h0 : Pv 0 (upd H1 D (.lst [])))
    (hs : ∀ i H, i < n → Pv i H → g (.int (lo + i)) (wipe σ vs) H fun σ2 H2 => wipe σ2 vs = wipe σ vs ∧ tt σ2 H2 fun b H3 =>
      if b = true then te σ2 H3 fun y H4 => ∃ acc, H4 D = some (.lst acc) ∧ acc.length < sizeLine ∧ Pv (i + 1) (upd H4 D (.lst (acc ++ [y]))) else Pv (i + 1) H3) (hd : ∀ H, Pv n H → Qd H) :
    ∃ W : Nat → Nat → Hp → Prop, (∃ m, W 0 m (upd H1 D (.lst []))) ∧ ∀ i m H, W i m H →
      ((Itr lo n).stop i H ∧ Qd H) ∨ ((Itr lo n).go i H ∧ ∃ Nx : Hp → Prop, (∀ H', Nx H' → ∃ m', m' < m ∧ W (i + 1) m' H') ∧ ∀ x H', (Itr lo n).yld i H x H' → g x (wipe σ vs) H' fun σ2 H2 => wipe σ2 vs = wipe σ vs ∧ tt σ2 H2 fun b H3 =>
        if b = true then te σ2 H3 fun y H4 => ∃ acc, H4 D = some (.lst acc) ∧ acc.length < sizeLine ∧ Nx (upd H4 D (.lst (acc ++ [y]))) else Nx H3) := by
  refine ⟨fun i m H => m = n - i ∧ i ≤ n ∧ Pv i H, ⟨n, by simp, Nat.zero_le _, h0⟩, ?_⟩
  rintro i m H ⟨rfl, hi, p⟩
  by_cases hlt : i < n
  · refine .inr ⟨hlt, Pv (i + 1), fun H' p' => ⟨n - (i + 1), by omega, rfl, hlt, p'⟩, fun x H' y => ?_⟩
    obtain ⟨e, y⟩ := y
    subst e y
    exact hs i _ hlt p
  · have e : i = n := by omega
    subst e
    exact .inl ⟨Nat.le_refl _, hd H p⟩
/-- over a list that the block leaves as it is -/
theorem lc_list {K : PySem.W.Frag} {a : Addr} {xs : List V} {g : TG} {tt : TT} {te : TE} {vs : List Nat} {σ : St} {H1 : Hp} {D : Addr} {Qd : Hp → Prop} (Pv : Nat → Hp → Prop) (h0 : Pv 0 (upd H1 D (.lst []))) (hl : ∀ i H, i ≤ xs.length → Pv i H → SqL K H a xs)
    (hs : ∀ i x H, xs[i]? = some x → Pv i H → g x (wipe σ vs) H fun σ2 H2 => wipe σ2 vs = wipe σ vs ∧ tt σ2 H2 fun b H3 =>
      if b = true then te σ2 H3 fun y H4 => ∃ acc, H4 D = some (.lst acc) ∧ acc.length < sizeLine ∧ Pv (i + 1) (upd H4 D (.lst (acc ++ [y]))) else Pv (i + 1) H3) (hd : ∀ H, Pv xs.length H → Qd H) :
    ∃ W : Nat → Nat → Hp → Prop, (∃ m, W 0 m (upd H1 D (.lst []))) ∧ ∀ i m H, W i m H →
      ((Itl K a).stop i H ∧ Qd H) ∨ ((Itl K a).go i H ∧ ∃ Nx : Hp → Prop, (∀ H', Nx H' → ∃ m', m' < m ∧ W (i + 1) m' H') ∧ ∀ x H', (Itl K a).yld i H x H' → g x (wipe σ vs) H' fun σ2 H2 => wipe σ2 vs = wipe σ vs ∧ tt σ2 H2 fun b H3 =>
        if b = true then te σ2 H3 fun y H4 => ∃ acc, H4 D = some (.lst acc) ∧ acc.length < sizeLine ∧ Nx (upd H4 D (.lst (acc ++ [y]))) else Nx H3) := by
  refine ⟨fun i m H => m = xs.length - i ∧ i ≤ xs.length ∧ Pv i H, ⟨xs.length, by simp, Nat.zero_le _, h0⟩, ?_⟩
  rintro i m H ⟨rfl, hi, p⟩
  have q := hl i H hi p
  by_cases hlt : i < xs.length
  · refine .inr ⟨⟨xs, xs[i], q, by simp [hlt]⟩, Pv (i + 1), fun H' p' => ⟨xs.length - (i + 1), by omega, rfl, hlt, p'⟩, fun x H' y => ?_⟩
    obtain ⟨e, y⟩ := y
    subst e
    exact hs i x _ (y xs q) p
  · have e : i = xs.length := by omega
    subst e
    exact .inl ⟨⟨xs, q, Nat.le_refl _⟩, hd H p⟩
def blkC (N : List Str) (sc scope : Scope) (own : List (Str × Nat)) : Bool :=
  (match scope.kind with | .function => true | _ => false) && (scope.names.all fun y => decide (scope.names.lookup y.1 = some y.2)) && (own.all fun p => decide (N[p.2]? = some p.1)) &&
    (scope.names.all fun y => match y.2 with
      | .free => (match sc.names.lookup y.1 with | some .cell => true | some .free => true | _ => false)
      | .local => decide (y.1 ∈ own.map (·.1)) || decide (y.1 ∉ N)
      | .cell => decide (y.1 ∈ own.map (·.1)) || decide (y.1 ∉ N)
      | _ => true)
theorem blkOk_by {N : List Str} {sc scope : Scope} {own : List (Str × Nat)} (h : blkC N sc scope own = true) : BlkOk N sc scope own := by
  unfold blkC at h
  simp only [Bool.and_eq_true, List.all_eq_true, decide_eq_true_eq] at h
  obtain ⟨⟨⟨h1, h2⟩, h3⟩, h4⟩ := h
  refine ⟨?_, h2, h3, fun y hy e => ?_, fun y hy e => ?_⟩
  · split at h1
    · assumption
    · cases h1
  · have q := h4 y hy
    simp only [e] at q
    split at q <;> first | exact .inl (by assumption) | exact .inr (by assumption) | cases q
  · have q := h4 y hy
    rcases e with e | e <;> (simp only [e, Bool.or_eq_true, decide_eq_true_eq] at q; exact q)
end L2

namespace L2
open PySem PySem.Spec PyProof.Rows

section
variable {prog : Program} {w : World} {A : Around} {R : Result → Shared → Prop} {s : Shared} {elt t0 i0 t1 i1 : Expr} {ifs0 ifs1 : List Expr} {scope : Scope} {pos : Pos} {it acc : Value} {env : Env}
end

section
variable {X : Cx}
/-- [elt for tg in iter if .. for tg1 in iter1 if ..]: behind the first clause's store and tests the second source's own loop, from which Nx is reached. vs: the block's names; vs1: those of the second target -/
def tLc2 (wi : TI) (g : TG) (tt : TT) (wi1 : TI) (g1 : TG) (tt1 : TT) (te : TE) (vs vs1 : List Nat) : TE := fun σ H Q => wi σ H fun J H1 => ∀ D, H1 D = none → ∃ W : Nat → Nat → Hp → Prop, (∃ m, W 0 m (upd H1 D (.lst []))) ∧ ∀ i m H, W i m H →
  (J.stop i H ∧ Q (.ref D) H) ∨ (J.go i H ∧ ∃ Nx : Hp → Prop, (∀ H', Nx H' → ∃ m', m' < m ∧ W (i + 1) m' H') ∧ ∀ x H', J.yld i H x H' → g x (wipe σ vs) H' fun σ2 H2 => wipe σ2 vs = wipe σ vs ∧ tt σ2 H2 fun b H3 =>
    if b = true then wi1 σ2 H3 fun J1 H4 => ∃ W1 : Nat → Nat → Hp → Prop, (∃ m, W1 0 m H4) ∧ ∀ j k H, W1 j k H →
      (J1.stop j H ∧ Nx H) ∨ (J1.go j H ∧ ∃ Nx1 : Hp → Prop, (∀ H', Nx1 H' → ∃ k', k' < k ∧ W1 (j + 1) k' H') ∧ ∀ x H', J1.yld j H x H' → g1 x (wipe σ2 vs1) H' fun σ3 H5 => wipe σ3 vs1 = wipe σ2 vs1 ∧ tt1 σ3 H5 fun b H6 =>
        if b = true then te σ3 H6 fun y H7 => ∃ acc, H7 D = some (.lst acc) ∧ acc.length < sizeLine ∧ Nx1 (upd H7 D (.lst (acc ++ [y]))) else Nx1 H6)
    else Nx H3)
end
end L2

namespace L2
open PySem PySem.Spec PyProof.Rows


section
variable {κ : Type} [DecidableEq κ]
def valV (kvs : List (κ × V)) (k : κ) : Option V := (kvs.find? fun kv => decide (kv.1 = k)).map (·.2)
/-- in its place, or at the end -/
def putK (kvs : List (κ × V)) (k : κ) (v : V) : List (κ × V) :=
  if (kvs.any fun kv => decide (kv.1 = k)) = true then kvs.map (fun kv => if kv.1 = k then (kv.1, v) else kv) else kvs ++ [(k, v)]
def dropK (kvs : List (κ × V)) (k : κ) : List (κ × V) := kvs.filter fun kv => decide (kv.1 ≠ k)

theorem valV_pos {p : κ × V} {r : List (κ × V)} {k : κ} (e : p.1 = k) : valV (p :: r) k = some p.2 := by simp [valV, List.find?_cons, e]
theorem valV_neg {p : κ × V} {r : List (κ × V)} {k : κ} (e : ¬ p.1 = k) : valV (p :: r) k = valV r k := by simp [valV, List.find?_cons, e]
theorem valV_any (k : κ) : ∀ kvs : List (κ × V), (kvs.any fun kv => decide (kv.1 = k)) = (valV kvs k).isSome
  | [] => rfl
  | p :: r => by
    rw [List.any_cons]
    by_cases e : p.1 = k
    · simp only [valV_pos e, decide_eq_true e, Bool.true_or, Option.isSome_some]
    · rw [valV_neg e, decide_eq_false e, Bool.false_or]; exact valV_any k r
theorem length_putK (kvs : List (κ × V)) (k : κ) (v : V) : (putK kvs k v).length ≤ kvs.length + 1 := by
  unfold putK
  split
  · rw [List.length_map]; omega
  · rw [List.length_append, List.length_cons, List.length_nil]; omega
theorem RelO.isSome_eq {o : Option V} {u : Option Value} (r : RelO o u) : o.isSome = u.isSome := by
  cases o with
  | none => cases u with
    | none => rfl
    | some _ => exact (show False from r).elim
  | some _ => cases u with
    | none => exact (show False from r).elim
    | some _ => rfl
theorem RelO.getD {o : Option V} {u : Option Value} {d : V} {d' : Value} (r : RelO o u) (rd : RelV d d') : RelV (o.getD d) (u.getD d') := by
  cases o with
  | none => cases u with
    | none => exact rd
    | some _ => exact (show False from r).elim
  | some _ => cases u with
    | none => exact (show False from r).elim
    | some _ => exact r

/-- raw tables of the same keys -/
theorem KV.val {kvs : List (κ × V)} {vs : List (κ × Value)} (r : KV kvs vs) (k : κ) : RelO (valV kvs k) (valueAt vs k) := by
  unfold KV at r
  induction r with
  | nil => exact True.intro
  | @cons p q ps qs h t ih =>
    obtain ⟨h1, h2⟩ := h
    by_cases e : p.1 = k
    · have e' : q.1 = k := h1.symm.trans e
      have b : valueAt (q :: qs) k = some q.2 := by simp [valueAt, List.find?_cons, e']
      rw [valV_pos e, b]; exact h2
    · have e' : ¬ q.1 = k := fun z => e (h1.trans z)
      have b : valueAt (q :: qs) k = valueAt qs k := by simp [valueAt, List.find?_cons, e']
      rw [valV_neg e, b]; exact ih
theorem KV.any {kvs : List (κ × V)} {vs : List (κ × Value)} (r : KV kvs vs) (k : κ) : (kvs.any fun kv => decide (kv.1 = k)) = vs.any fun kv => decide (kv.1 = k) := by
  unfold KV at r
  induction r with
  | nil => rfl
  | cons h t ih => rw [List.any_cons, List.any_cons, ih, h.1]
theorem KV.repl {kvs : List (κ × V)} {vs : List (κ × Value)} (r : KV kvs vs) (k : κ) {y : V} {u : Value} (ry : RelV y u) :
    KV (kvs.map fun kv => if kv.1 = k then (kv.1, y) else kv) (vs.map fun kv => if kv.1 = k then (kv.1, u) else kv) := by
  unfold KV at r ⊢
  induction r with
  | nil => exact .nil
  | @cons p q ps qs h t ih =>
    rw [List.map_cons, List.map_cons]
    refine .cons ?_ ih
    obtain ⟨h1, h2⟩ := h
    by_cases e : p.1 = k
    · rw [if_pos e, if_pos (h1.symm.trans e)]; exact ⟨h1, ry⟩
    · rw [if_neg e, if_neg (fun z => e (h1.trans z))]; exact ⟨h1, h2⟩
theorem KV.put {kvs : List (κ × V)} {vs : List (κ × Value)} (r : KV kvs vs) (k : κ) {y : V} {u : Value} (ry : RelV y u) : KV (putK kvs k y) (stored vs k u) := by
  unfold putK stored
  rw [r.any k]
  by_cases e : (vs.any fun kv => decide (kv.1 = k)) = true
  · rw [if_pos e, if_pos e]; exact r.repl k ry
  · rw [if_neg e, if_neg e]; exact Paired.snoc r ⟨rfl, ry⟩
theorem KV.drop {kvs : List (κ × V)} {vs : List (κ × Value)} (r : KV kvs vs) (k : κ) : KV (dropK kvs k) (without vs k) := by
  unfold KV at r ⊢
  unfold dropK without
  induction r with
  | nil => exact .nil
  | @cons p q ps qs h t ih =>
    obtain ⟨h1, h2⟩ := h
    rw [List.filter_cons, List.filter_cons]
    by_cases e : p.1 = k
    · have a : ¬ decide (p.1 ≠ k) = true := by simp [e]
      have b : ¬ decide (q.1 ≠ k) = true := by simp [h1.symm.trans e]
      rw [if_neg a, if_neg b]; exact ih
    · have e' : ¬ q.1 = k := fun z => e (h1.trans z)
      have a : decide (p.1 ≠ k) = true := by simp [e]
      have b : decide (q.1 ≠ k) = true := by simp [e']
      rw [if_pos a, if_pos b]; exact .cons ⟨h1, h2⟩ ih
theorem KV.keys {kvs : List (κ × V)} {vs : List (κ × Value)} (r : KV kvs vs) : kvs.map (·.1) = vs.map (·.1) := by
  unfold KV at r
  induction r with
  | nil => rfl
  | cons h t ih => rw [List.map_cons, List.map_cons, ih, h.1]
theorem KV.length {kvs : List (κ × V)} {vs : List (κ × Value)} (r : KV kvs vs) : kvs.length = vs.length := Paired.length r
end



theorem kV_is {P : Program} {w : World} {k : Key} {u : Value} (r : RelV (kV k) u) : (mixKind P w).is k u = true := by
  cases k with
  | inl i => obtain ⟨t, e⟩ := (show ∃ t, u = Value.int i t from r); subst e; exact mixKind_int P w i t
  | inr x => obtain ⟨t, e⟩ := (show ∃ t, u = Value.str x t from r); subst e; exact mixKind_str P w x t
theorem items_are {P : Program} {w : World} : ∀ {ks : List Key} {us : List Value}, Vals (ks.map kV) us → ItemsAre (mixKind P w) ks us
  | [], _, r => by rw [List.map_nil] at r; cases r; exact .nil
  | k :: ks, _, r => by
    rw [List.map_cons] at r
    cases r with
    | cons h t => exact .cons (kV_is h) (items_are t)

/-- raw entries of a dict with tuple keys -/
abbrev KT (H : Hp) : List (List Key × V) → List (List Key × Addr × Value) → Prop := Paired fun p q => p.1 = q.1 ∧ H q.2.1 = some (.tup (p.1.map kV)) ∧ RelV p.2 q.2.2
theorem KT.val {H : Hp} {kvs : List (List Key × V)} {xs : List (List Key × Addr × Value)} (r : KT H kvs xs) (k : List Key) : RelO (valV kvs k) ((atKey xs k).map (·.2)) := by
  induction r with
  | nil => exact True.intro
  | @cons p q ps qs h t ih =>
    obtain ⟨h1, _, h2⟩ := h
    by_cases e : p.1 = k
    · have e' : q.1 = k := h1.symm.trans e
      have b : atKey (q :: qs) k = some q.2 := by simp [atKey, List.find?_cons, e']
      rw [valV_pos e, b]; exact h2
    · have e' : ¬ q.1 = k := fun z => e (h1.trans z)
      have b : atKey (q :: qs) k = atKey qs k := by simp [atKey, List.find?_cons, e']
      rw [valV_neg e, b]; exact ih
theorem KT.repl {H : Hp} {kvs : List (List Key × V)} {xs : List (List Key × Addr × Value)} (r : KT H kvs xs) (k : List Key) {y : V} {u : Value} (ry : RelV y u) :
    KT H (kvs.map fun kv => if kv.1 = k then (kv.1, y) else kv) (xs.map (putAt k u)) := by
  induction r with
  | nil => exact .nil
  | @cons p q ps qs h t ih =>
    rw [List.map_cons, List.map_cons]
    refine .cons ?_ ih
    obtain ⟨h1, h2, h3⟩ := h
    unfold putAt
    by_cases e : p.1 = k
    · rw [if_pos e, if_pos (h1.symm.trans e)]; exact ⟨h1, h2, ry⟩
    · rw [if_neg e, if_neg (fun z => e (h1.trans z))]; exact ⟨h1, h2, h3⟩
theorem KT.put {H : Hp} {kvs : List (List Key × V)} {xs : List (List Key × Addr × Value)} (r : KT H kvs xs) (k : List Key) {b : Addr} {y : V} {u : Value} (hb : H b = some (.tup (k.map kV))) (ry : RelV y u) :
    KT H (putK kvs k y) (storedH xs k b u) := by
  have e : (kvs.any fun kv => decide (kv.1 = k)) = (atKey xs k).isSome := by
    rw [valV_any, (r.val k).isSome_eq, Option.isSome_map]
  unfold putK storedH
  rw [e]
  by_cases q : (atKey xs k).isSome = true
  · rw [if_pos q, if_pos q]; exact r.repl k ry
  · rw [if_neg q, if_neg q]; exact Paired.snoc r ⟨rfl, hb, ry⟩
theorem KT.keeps {H H' : Hp} {kvs : List (List Key × V)} {xs : List (List Key × Addr × Value)} (r : KT H kvs xs) (ht : ∀ b ys, H b = some (.tup ys) → H' b = some (.tup ys)) : KT H' kvs xs :=
  Paired.mapP r fun _ _ z => ⟨z.1, ht _ _ z.2.1, z.2.2⟩

section
variable {P : Program} {w : World} {H : Hp} {h : Heap} {a : Addr}
theorem rd_of {u : HO} (ok : HOk P w H h) (e : Rd H a u) : ObjOk P w H h a u := e.ok ok
theorem dk_rd {kvs : List (Key × V)} (ok : HOk P w H h) (e : Rd H a (.dK kvs)) : kvs.length ≤ sizeLine ∧ (a == sysModules) = false ∧ ∃ vs, KV kvs vs ∧ h.DictOf (mixKind P w) a vs :=
  show ObjOk P w H h a (.dK kvs) from rd_of ok e
theorem dk_of {kvs : List (Key × V)} (ok : HOk P w H h) (e : H a = some (.dK kvs)) : kvs.length ≤ sizeLine ∧ (a == sysModules) = false ∧ ∃ vs, KV kvs vs ∧ h.DictOf (mixKind P w) a vs := dk_rd ok (.inl e)
/-- a tracked tuple of ints and texts is a key -/
theorem key_of {ks : List Key} (ok : HOk P w H h) (e : H a = some (.tup (ks.map kV))) : (tupleKind (mixKind P w)).is h ks a := by
  obtain ⟨_, its, r, o, h1, h2, n, h3⟩ := (show ObjOk P w H h a (.tup (ks.map kV)) from ok a _ e)
  exact ⟨o, its.toArray, n, h1, h2, h3, by simpa using items_are r⟩
theorem dt_rd {kvs : List (List Key × V)} (ok : HOk P w H h) (e : Rd H a (.dT kvs)) : kvs.length ≤ sizeLine ∧ (a == sysModules) = false ∧
    ∃ xs, KT H kvs xs ∧ h.DictOfH (tupleKind (mixKind P w)) a xs := by
  obtain ⟨z, y, xs, r, o, es, ep, h1, h2, h3, h4, h5⟩ := (show ObjOk P w H h a (.dT kvs) from rd_of ok e)
  refine ⟨z, y, xs, r, o, es, ep, h1, h2, h3, h4, fun x hx => ?_, h5⟩
  have all : ∀ {l : List (List Key × V)} {m : List (List Key × Addr × Value)}, KT H l m → ∀ x ∈ m, (tupleKind (mixKind P w)).is h x.1 x.2.1 := by
    intro l m q
    induction q with
    | nil => intro x hx; exact nomatch hx
    | @cons p q ps qs hq t ih =>
      intro x hx
      rcases List.mem_cons.mp hx with e | hx
      · subst e
        exact key_of ok (by rw [← hq.1]; exact hq.2.1)
      · exact ih x hx
  exact all r x hx
theorem dt_of {kvs : List (List Key × V)} (ok : HOk P w H h) (e : H a = some (.dT kvs)) : kvs.length ≤ sizeLine ∧ (a == sysModules) = false ∧
    ∃ xs, KT H kvs xs ∧ h.DictOfH (tupleKind (mixKind P w)) a xs := dt_rd ok (.inl e)
end

/-- what the dict at a holds at the key y -/
def DGet (H : Hp) (a : Addr) (y : V) (r : Option V) : Prop :=
  (∃ kvs k, Rd H a (.dK kvs) ∧ y = kV k ∧ r = valV kvs k) ∨ ∃ kvs k b, Rd H a (.dT kvs) ∧ y = .ref b ∧ H b = some (.tup (k.map kV)) ∧ r = valV kvs k
/-- the heap behind a[y] = v -/
def DPut (H : Hp) (a : Addr) (y v : V) (H' : Hp) : Prop :=
  (∃ kvs k, H a = some (.dK kvs) ∧ y = kV k ∧ kvs.length < sizeLine ∧ H' = upd H a (.dK (putK kvs k v))) ∨
  ∃ kvs k b, H a = some (.dT kvs) ∧ y = .ref b ∧ H b = some (.tup (k.map kV)) ∧ kvs.length < sizeLine ∧ H' = upd H a (.dT (putK kvs k v))
theorem DGet.k {H : Hp} {a : Addr} {kvs : List (Key × V)} {k : Key} (e : H a = some (.dK kvs)) : DGet H a (kV k) (valV kvs k) := .inl ⟨kvs, k, .inl e, rfl, rfl⟩
theorem DGet.t {H : Hp} {a b : Addr} {kvs : List (List Key × V)} {k : List Key} (e : H a = some (.dT kvs)) (eb : H b = some (.tup (k.map kV))) : DGet H a (.ref b) (valV kvs k) := .inr ⟨kvs, k, b, .inl e, rfl, eb, rfl⟩
theorem DPut.k {H : Hp} {a : Addr} {kvs : List (Key × V)} {k : Key} {v : V} (e : H a = some (.dK kvs)) (hl : kvs.length < sizeLine) : DPut H a (kV k) v (upd H a (.dK (putK kvs k v))) := .inl ⟨kvs, k, e, rfl, hl, rfl⟩
theorem DPut.t {H : Hp} {a b : Addr} {kvs : List (List Key × V)} {k : List Key} {v : V} (e : H a = some (.dT kvs)) (eb : H b = some (.tup (k.map kV))) (hl : kvs.length < sizeLine) :
    DPut H a (.ref b) v (upd H a (.dT (putK kvs k v))) := .inr ⟨kvs, k, b, e, rfl, eb, hl, rfl⟩


section
variable {X : Cx} {pins : List (Addr × Obj)} {σ : St} {H : Hp} {s : Shared} {a : Addr} {y v : V} {u r : Value} {o : Option V} {A : Around} {E : Value → Shared → Prop}

theorem Inv.big (I : Inv X pins σ H s) : sysModules < s.heap.objs.size := by
  have h : mainGlobals < s.heap.objs.size := (I.mod.glob.keeps I.bk).lt
  exact Nat.lt_trans (by decide) h

/-- a dict's object is replaced -/
theorem d_write {h' : Heap} {t' : Nat} {ob : HO} (I : Inv X pins σ H s) (mu : Mut (H a)) (hs : Heap.SameBut a s.heap h') (he : ∃ q, h'.get? a = some q) (new : ObjOk X.prog X.w (upd H a ob) h' a ob) :
    Inv X pins σ (upd H a ob) { s with heap := h', toks := t' } :=
  I.write (x := a) (e := a) mu (.inl rfl) (fun b q hb z => (hs.2 b hb).trans z) he new
theorem dk_new {P : Program} {w : World} {H' : Hp} {h' : Heap} {kvs : List (Key × V)} {vs : List (Key × Value)} (z : kvs.length ≤ sizeLine) (hd : (a == sysModules) = false) (rel : KV kvs vs) (dd : h'.DictOf (mixKind P w) a vs) :
    ObjOk P w H' h' a (.dK kvs) := ⟨z, hd, vs, rel, dd⟩
/-- d[y] = v -/
theorem d_setItem {H' : Hp} {Q : Unit → Shared → Prop} (hu : A.units + 1 < cLine) (I : Inv X pins σ H s) (g : DPut H a y v H') (ry : RelV y u) (rv : RelV v r) (h : ∀ s', Inv X pins σ H' s' → Q () s') :
    wpAny (model X.prog X.w) A (setItem (.ref a) u r) Q E s := by
  rcases g with ⟨kvs, k, e, ey, l, eH⟩ | ⟨kvs, k, b, e, ey, eb, l, eH⟩
  · subst ey eH
    obtain ⟨z, hd, vs, rel, dd⟩ := dk_of I.hok e
    have hz : vs.length ≤ sizeLine := by rw [← rel.length]; exact z
    have hl : (putK kvs k v).length ≤ sizeLine := by have := length_putK kvs k v; omega
    refine wpAny_setItem_pairs (hsz := hz) (kV_is ry) dd fun h' dd' hs => h _ ?_
    have he : ∃ q, h'.get? a = some q := let ⟨q, _, _, hq, _⟩ := dd'; ⟨q, hq⟩
    exact d_write I (by rw [e]; exact True.intro) hs he (dk_new hl hd (rel.put k rv) dd')
  · subst ey eH
    cases (show u = Value.ref b from ry)
    obtain ⟨z, hd, xs, rel, dd⟩ := dt_of I.hok e
    have hz : xs.length ≤ sizeLine := by rw [← Paired.length rel]; exact z
    have hl : (putK kvs k v).length ≤ sizeLine := by have := length_putK kvs k v; omega
    refine wpAny_setItem_heap (hsz := hz) (tupleKind_room_in1 hu) (key_of I.hok eb) dd fun h' dd' hs => h _ ?_
    obtain ⟨q, es, ep, hq, h2, h3, h4, _, h5⟩ := dd'
    refine d_write I (by rw [e]; exact True.intro) hs ⟨q, hq⟩ ⟨hl, hd, _, (rel.put k eb rv).keeps fun c ys ec => ?_, q, es, ep, hq, h2, h3, h4, h5⟩
    rw [upd_ne (ne_of ec e (fun z => nomatch z))]
    exact ec
end

section
variable {X : Cx} {pins : List (Addr × Obj)} {σ : St} {H : Hp} {s : Shared} {a : Addr} {kvs : List (Key × V)} {k : Key} {u : Value} {A : Around} {E : Value → Shared → Prop}
end



/-- the element of a subscription, not a slice -/
def NoSl (i : Expr) : Prop := ∀ ov iv, subscripted i false ov iv = operate [ov, iv] (getItem ov iv)
/-- d[y] -/
def tDGet (td ty : TE) : TE := fun σ H Q => td σ H fun x H1 => ty σ H1 fun y H2 => ∃ a v, x = .ref a ∧ DGet H2 a y (some v) ∧ Q v H2
/-- y in d, y not in d -/
def tDIn (ty td : TE) : TE := fun σ H Q => ty σ H fun y H1 => td σ H1 fun x H2 => ∃ a o, x = .ref a ∧ DGet H2 a y o ∧ Q (.bl o.isSome) H2
def tDNotIn (ty td : TE) : TE := fun σ H Q => ty σ H fun y H1 => td σ H1 fun x H2 => ∃ a o, x = .ref a ∧ DGet H2 a y o ∧ Q (.bl (!o.isSome)) H2
/-- d[y] = v -/
def sDPut (td ty tv : TE) : TS := fun D σ H => tv σ H fun v H1 => td σ H1 fun x H2 => ty σ H2 fun y H3 => ∃ a H4, x = .ref a ∧ DPut H3 a y v H4 ∧ D.nx σ H4
/-- d[y] op= v -/
def sDAug (td ty tv : TE) (rd : V → V → Hp → VK → Prop) : TS := fun D σ H => td σ H fun x H1 => ty σ H1 fun y H2 => ∃ a v, x = .ref a ∧ DGet H2 a y (some v) ∧
  tv σ H2 fun y2 H3 => rd v y2 H3 fun z H4 => ∃ H5, DPut H4 a y z H5 ∧ D.nx σ H5
/-- del d[y] -/
def sDDel (td ty : TE) : TS := fun D σ H => td σ H fun x H1 => ty σ H1 fun y H2 => ∃ a kvs k, x = .ref a ∧ H2 a = some (.dK kvs) ∧ y = kV k ∧ (valV kvs k).isSome = true ∧ D.nx σ (upd H2 a (.dK (dropK kvs k)))

section
variable {X : Cx} {o i e value : Expr} {pos pos' tpos : Pos} {td ty tv : TE}
theorem ps_dput (hu : X.A.units + 1 < cLine) (ho : PE X o td) (hi : PE X i ty) (hv : PE X value tv) (hs : swapsWith value (some (.Subscript o i pos')) pos.line X.env = pure false) :
    PS X (.Assign [.Subscript o i pos'] value pos) (sDPut td ty tv) := by
  intro pins s σ H D I h
  refine wpAny_Assign_Subscript (thn (hv pins s σ H _ I h) fun r s1 ⟨v, H1, I1, rv, q1⟩ => thn (ho pins s1 σ H1 _ I1 q1) fun u s2 ⟨x, H2, I2, rx, q2⟩ => thn (hi pins s2 σ H2 _ I2 q2) fun iv s3 ⟨y, H3, I3, ry, a, H4, ex, g, q3⟩ => ?_) hs
  subst ex
  obtain rfl : u = Value.ref a := rx
  exact d_setItem hu I3 g ry rv fun s4 I4 => ⟨σ, H4, I4, q3⟩
theorem qs_dput (hu : X.A.units + 1 < cLine) (ho : QE X o td) (hi : QE X i ty) (hv : QE X value tv) (hs : swapsWith value (some (.Subscript o i pos')) pos.line X.env = pure false) : QS X (.Assign [.Subscript o i pos'] value pos) (sDPut td ty tv) := ⟨ps_dput hu ho.go hi.go hv.go hs⟩
end



theorem dk_empty {P : Program} {w : World} {H : Hp} (h : Heap) (hb : sysModules < h.objs.size) : ObjOk P w H (h.push { cls := .type "dict", data := .dict #[] }) h.objs.size (.dK []) :=
  ⟨Nat.zero_le _, beq_eq_false_iff_ne.mpr (Ne.symm (Nat.ne_of_lt hb)), [], .nil, Heap.DictOf.new h⟩
/-- {}, to be a dict of the kind that is wanted -/
def tDNewK : TE := fun _ H Q => ∀ p, H p = none → Q (.ref p) (upd H p (.dK []))
def tDNewT : TE := fun _ H Q => ∀ p, H p = none → Q (.ref p) (upd H p (.dT []))
section
variable {X : Cx} {pos : Pos}
end

/-- the pairs of a display, from the left -/
def tPairs : List (TE × TE) → St → Hp → (List (V × V) → Hp → Prop) → Prop
  | [], _, H, Q => Q [] H
  | (tk, tv) :: r, σ, H, Q => tk σ H fun x H1 => tv σ H1 fun y H2 => tPairs r σ H2 fun ps H3 => Q ((x, y) :: ps) H3
abbrev VV : List (V × V) → List (Value × Value) → Prop := Paired fun p q => RelV p.1 q.1 ∧ RelV p.2 q.2
def PPs (X : Cx) (pos : Pos) (keys : List (Option Expr)) (values : List Expr) (trs : List (TE × TE)) : Prop :=
  ∀ (pins : List (Addr × Obj)) (s : Shared) (σ : St) (H : Hp) (Q : List (V × V) → Hp → Prop), Inv X pins σ H s → tPairs trs σ H Q →
    wpAny (model X.prog X.w) X.A (evalPairs (pairTrees keys values X.env pos)) (fun vs s' => ∃ ps H', Inv X pins σ H' s' ∧ VV ps vs ∧ Q ps H') X.xe s
structure QPs (X : Cx) (pos : Pos) (keys : List (Option Expr)) (values : List Expr) (trs : List (TE × TE)) : Prop where
  go : PPs X pos keys values trs
theorem pps_nil {X : Cx} {pos : Pos} : PPs X pos [] [] [] := fun pins s σ H Q I h => pairTrees_nil_walk ⟨[], H, I, .nil, h⟩
theorem qps_nil {X : Cx} {pos : Pos} : QPs X pos [] [] [] := ⟨pps_nil ⟩
theorem pps_cons {X : Cx} {pos : Pos} {k v : Expr} {ks : List (Option Expr)} {vs : List Expr} {tk tv : TE} {trs : List (TE × TE)} (hk : PE X k tk) (hv : PE X v tv) (hr : PPs X pos ks vs trs) :
    PPs X pos (some k :: ks) (v :: vs) ((tk, tv) :: trs) := fun pins s σ H Q I h =>
  pairTrees_cons_walk (thn (hk pins s σ H _ I h) fun u s1 ⟨x, H1, I1, rx, q1⟩ => thn (hv pins s1 σ H1 _ I1 q1) fun w2 s2 ⟨y, H2, I2, ry, q2⟩ =>
    thn (hr pins s2 σ H2 _ I2 q2) fun ws s3 ⟨ps, H3, I3, rel, q3⟩ => ⟨(x, y) :: ps, H3, I3, .cons ⟨rx, ry⟩ rel, q3⟩)

theorem qps_cons {X : Cx} {pos : Pos} {k v : Expr} {ks : List (Option Expr)} {vs : List Expr} {tk tv : TE} {trs : List (TE × TE)} (hk : QE X k tk) (hv : QE X v tv) (hr : QPs X pos ks vs trs) : QPs X pos (some k :: ks) (v :: vs) ((tk, tv) :: trs) := ⟨pps_cons hk.go hv.go hr.go⟩
def mergeK (kvs more : List (Key × V)) : List (Key × V) := more.foldl (fun acc kv => putK acc kv.1 kv.2) kvs
theorem KV.merge : ∀ {more : List (Key × V)} {rs : List (Key × Value)} {kvs : List (Key × V)} {vs : List (Key × Value)}, KV more rs → KV kvs vs → KV (mergeK kvs more) (merged vs rs) := by
  intro more rs kvs vs r
  unfold KV at r
  induction r generalizing kvs vs with
  | nil => intro q; exact q
  | @cons p q ps qs h t ih =>
    intro r0
    have e : KV (putK kvs p.1 p.2) (stored vs q.1 q.2) := by
      have := r0.put p.1 h.2
      rw [← h.1]; exact this
    exact ih e
theorem length_mergeK : ∀ (more kvs : List (Key × V)), (mergeK kvs more).length ≤ kvs.length + more.length
  | [], kvs => by show kvs.length ≤ kvs.length + 0; omega
  | p :: r, kvs => by
    have h1 := length_mergeK r (putK kvs p.1 p.2)
    have h2 := length_putK kvs p.1 p.2
    show (mergeK (putK kvs p.1 p.2) r).length ≤ _
    rw [List.length_cons]; omega
theorem carries_of {P : Program} {w : World} : ∀ {kvs : List (Key × V)} {ws : List (Value × Value)}, VV (kvs.map fun kv => (kV kv.1, kv.2)) ws → ∃ rs, Carries (mixKind P w) ws rs ∧ KV kvs rs
  | [], _, r => by rw [List.map_nil] at r; cases r; exact ⟨[], True.intro, .nil⟩
  | p :: kvs, _, r => by
    rw [List.map_cons] at r
    cases r with
    | @cons a b as bs h t =>
      obtain ⟨rs, c, q⟩ := carries_of (P := P) (w := w) t
      obtain ⟨b1, b2⟩ := b
      exact ⟨(p.1, b2) :: rs, ⟨kV_is h.1, rfl, c⟩, .cons ⟨rfl, h.2⟩ q⟩
/-- {k: v, ..} with keys ints and texts; the new dict stands empty while the pairs are made -/
def tDisp (trs : List (TE × TE)) : TE := fun σ H Q => ∀ p, H p = none → tPairs trs σ (upd H p (.dK [])) fun ps H2 => H2 p = some (.dK []) ∧ ∃ kvs : List (Key × V), ps = kvs.map (fun kv => (kV kv.1, kv.2)) ∧ kvs.length ≤ 15 ∧ Q (.ref p) (upd H2 p (.dK (mergeK [] kvs)))
theorem pe_disp {X : Cx} {pos : Pos} {keys : List (Option Expr)} {values : List Expr} {trs : List (TE × TE)} (h : PPs X pos keys values trs) (hall : keys.all (·.isSome) = true) (hl : keys.length = values.length) (h0 : keys ≠ [])
    (h15 : keys.length ≤ 15) : PE X (.Dict keys values pos) (tDisp trs) := by
  intro pins s σ H Q I q
  have hn := I.hok.fresh (Nat.le_refl s.heap.objs.size)
  have I1 := I.laid (a := s.heap.objs.size) (o := .dK []) (h' := s.heap.push { cls := .type "dict", data := .dict #[] }) (t' := s.toks) (fun _ _ q => Heap.get?_push_of_some _ q) (Nat.le_refl _) (dk_empty s.heap I.big)
  refine wpAny_Dict_walk (knd := mixKind X.prog X.w) hall hl h0 h15 (thn (h pins _ σ _ _ I1 (q _ hn)) fun ws s2 ⟨ps, H2, I2, rel, e, kvs, ep, lk, q2⟩ => ?_)
  subst ep
  obtain ⟨rs, c, rk⟩ := carries_of (P := X.prog) (w := X.w) rel
  obtain ⟨z, hd, vs0, r0, dd⟩ := dk_of I2.hok e
  cases r0
  refine ⟨rs, c, dd, fun h' dd' hs => ⟨.ref s.heap.objs.size, _, ?_, rfl, q2⟩⟩
  have hz : (mergeK [] kvs).length ≤ sizeLine := by
    have h1 := length_mergeK kvs []
    rw [List.length_nil] at h1
    rw [sizeLine_eq]; omega
  have he : ∃ q, h'.get? s.heap.objs.size = some q := let ⟨q, _, _, hq, _⟩ := dd'; ⟨q, hq⟩
  exact d_write I2 (by rw [e]; exact True.intro) hs he (dk_new hz hd (rk.merge .nil) dd')


theorem qe_disp {X : Cx} {pos : Pos} {keys : List (Option Expr)} {values : List Expr} {trs : List (TE × TE)} (h : QPs X pos keys values trs) (hall : keys.all (·.isSome) = true) (hl : keys.length = values.length) (h0 : keys ≠ []) (h15 : keys.length ≤ 15) : QE X (.Dict keys values pos) (tDisp trs) := ⟨pe_disp h.go hall hl h0 h15⟩

/-- a method call o.m(e) of a built-in, with one argument: what must be seen of the text -/
structure M1 (X : Cx) (o : Expr) (m : Str) (apos : Pos) (e : Expr) (cpos : Pos) : Prop where
  base : attributeBase o m X.env (eval o X.env) = eval o X.env
  few : ((backTo cpos (starEach [e] X.env)).all (fun x => !x.1) && (backToKw cpos (keywordEach [] X.env)).all (fun x => x.1.isSome)
    && decide (([e] : List Expr).length + ([] : List Keyword).length + (if ([] : List Keyword).isEmpty then 0 else 1) < 30)) = true
  line : (apos.endLine == cpos.line) = true
  trees : backTo cpos (starEach [e] X.env) = [(false, eval e X.env)]
structure M2 (X : Cx) (o : Expr) (m : Str) (apos : Pos) (e f : Expr) (cpos : Pos) : Prop where
  base : attributeBase o m X.env (eval o X.env) = eval o X.env
  few : ((backTo cpos (starEach [e, f] X.env)).all (fun x => !x.1) && (backToKw cpos (keywordEach [] X.env)).all (fun x => x.1.isSome)
    && decide (([e, f] : List Expr).length + ([] : List Keyword).length + (if ([] : List Keyword).isEmpty then 0 else 1) < 30)) = true
  line : (apos.endLine == cpos.line) = true
  trees : backTo cpos (starEach [e, f] X.env) = [(false, eval e X.env), (false, eval f X.env)]

/-- a is a dict, whatever its keys -/
def IsD (H : Hp) (a : Addr) : Prop := (∃ kvs, Rd H a (.dK kvs)) ∨ ∃ kvs, Rd H a (.dT kvs)
section
variable {X : Cx} {pins : List (Addr × Obj)} {σ : St} {H : Hp} {s : Shared} {a : Addr} {y d : V} {u r : Value} {o : Option V} {A : Around} {E : Value → Shared → Prop}
end

def tDGet1 (td ty : TE) : TE := fun σ H Q => td σ H fun x H1 => ∃ a, x = .ref a ∧ IsD H1 a ∧ ty σ H1 fun y H2 => ∃ o, DGet H2 a y o ∧ Q (o.getD .non) H2
def tDGet2 (td ty tx : TE) : TE := fun σ H Q => td σ H fun x H1 => ∃ a, x = .ref a ∧ IsD H1 a ∧ ty σ H1 fun y H2 => tx σ H2 fun z H3 => ∃ o, DGet H3 a y o ∧ Q (o.getD z) H3
/-- d.pop(k): there; d.pop(k, x): there or not -/
def tDPop1 (td ty : TE) : TE := fun σ H Q => td σ H fun x H1 => ∃ a, x = .ref a ∧ IsD H1 a ∧ ty σ H1 fun y H2 => ∃ kvs k v, H2 a = some (.dK kvs) ∧ y = kV k ∧ valV kvs k = some v ∧ Q v (upd H2 a (.dK (dropK kvs k)))
def tDPop2 (td ty tx : TE) : TE := fun σ H Q => td σ H fun x H1 => ∃ a, x = .ref a ∧ IsD H1 a ∧ ty σ H1 fun y H2 => tx σ H2 fun z H3 => ∃ kvs k, H3 a = some (.dK kvs) ∧ y = kV k ∧
  (∀ v, valV kvs k = some v → Q v (upd H3 a (.dK (dropK kvs k)))) ∧ (valV kvs k = none → Q z H3)
section
variable {X : Cx} {o e f : Expr} {apos cpos : Pos} {td ty tx : TE}
end


section
variable {X : Cx} {pins : List (Addr × Obj)} {σ : St} {H : Hp} {s : Shared} {a : Addr} {kvs : List (Key × V)} {A : Around} {E : Value → Shared → Prop}
end


section
variable {X : Cx} {pins : List (Addr × Obj)} {σ : St} {H : Hp} {s : Shared} {a : Addr} {y : V} {u : Value} {A : Around} {E : Value → Shared → Prop}
end
end L2

namespace L2
open PySem PySem.Spec PyProof.Rows

section
variable {prog : Program} {w : World} {A : Around} {E : Value → Shared → Prop}
end

section
variable {X : Cx}
end
end L2

namespace L2
open PySem PySem.Spec PyProof.Rows

section
variable {X : Cx} {pins : List (Addr × Obj)} {σ : St} {H : Hp} {s : Shared} {h' : Heap}
/-- several records of ours have turned -/
theorem Inv.turnedL {t' : Nat} {ch : List Addr} (I : Inv X pins σ H s) (k : ∀ b o, b ∉ ch → s.heap.get? b = some o → h'.get? b = some o) (hf : ∀ b ∈ ch, FpOk X pins H b) : Inv X pins σ H { s with heap := h', toks := t' } := by
  have nit : ∀ b u, H b = some u → b ∉ ch := fun b u e z => by
    have q := (hf b z).1
    rw [q] at e; cases e
  refine I.step (g' := s.gens) (d' := s.drawn) (ch := ch) (fun b hb => ⟨(hf b hb).2.2.2.1, (hf b hb).2.1, (hf b hb).2.2.2.2.1, (hf b hb).2.2.2.2.2⟩) (fun b o _ _ hc e _ => k b o hc e) (fun b o _ _ hc e _ => ⟨o.slots, k b o hc e⟩)
    (fun _ _ _ _ n => n) (fun b o hc e => ⟨o, k b o hc e⟩) (fun _ _ e => e) (fun _ _ _ e => e) (fun b ps e => ⟨#[], by rw [e]; simp⟩) (fun m hm => ?_) (fun b u e => ?_) I.bare
  · obtain ⟨o, es, ep, ho, r⟩ := hm
    exact ⟨o, es, ep, k _ o (fun z => (hf _ z).2.1 rfl) ho, r⟩
  · refine (I.hok b u e).stay (fun c v hc q => k c v ?_ q) (fun _ q => q) fun _ _ q => q
    rcases hc with z | z
    · rw [z]; exact nit b u e
    · exact nit c _ z
/-- .. and one new object is laid -/
theorem Inv.turnedNew {t' : Nat} {ch : List Addr} {T : Addr} {ob : HO} (I : Inv X pins σ H s) (k : ∀ b o, b ∉ ch → s.heap.get? b = some o → h'.get? b = some o) (hf : ∀ b ∈ ch, FpOk X pins H b) (hT : s.heap.objs.size ≤ T)
    (new : ObjOk X.prog X.w (upd H T ob) h' T ob) : Inv X pins σ (upd H T ob) { s with heap := h', toks := t' } := by
  have hn : H T = none := I.hok.fresh hT
  have nit : ∀ b u, H b = some u → b ∉ ch := fun b u e z => by
    have q := (hf b z).1
    rw [q] at e; cases e
  refine I.step (g' := s.gens) (d' := s.drawn) (ch := ch) (fun b hb => ⟨(hf b hb).2.2.2.1, (hf b hb).2.1, (hf b hb).2.2.2.2.1, (hf b hb).2.2.2.2.2⟩) (fun b o _ _ hc e _ => k b o hc e) (fun b o _ _ hc e _ => ⟨o.slots, k b o hc e⟩)
    (fun b o _ e n => ?_) (fun b o hc e => ⟨o, k b o hc e⟩) (fun b xs e => ?_) (fun b o u e => ?_) (fun b ps e => ⟨#[], ?_⟩) (fun m hm => ?_) (fun b u e => ?_) I.bare
  · rw [upd_ne (Nat.ne_of_lt (Nat.lt_of_lt_of_le (Heap.lt_size e) hT))]; exact n
  · rw [upd_ne (ne_of_none e hn)]; exact e
  · rw [upd_ne (ne_of_none e hn)]; exact e
  · rw [upd_ne (ne_of_none e hn), e]; simp
  · obtain ⟨o, es, ep, ho, r⟩ := hm
    exact ⟨o, es, ep, k _ o (fun z => (hf _ z).2.1 rfl) ho, r⟩
  · by_cases hb : b = T
    · subst hb
      rw [upd_same] at e
      cases e
      exact new
    · rw [upd_ne hb] at e
      refine (I.hok b u e).stay (fun c v hc q => k c v ?_ q) (fun c q => by rw [upd_ne (ne_of_none q hn)]; exact q) fun c xs q => by rw [upd_ne (ne_of_none q hn)]; exact q
      rcases hc with z | z
      · rw [z]; exact nit b u e
      · exact nit c _ z


end
/-- the statement runs while the thing at d is locked (read, not written); d and what stands there are the reading's choice -/
def tLock (t : TS) : TS := fun D σ H => ∃ d u, H d = some u ∧ Mut (some u) ∧ ∀ od, t ⟨fun σ' H' => H' d = some (.frz od u) ∧ D.nx σ' (upd H' d u), fun v H' => H' d = some (.frz od u) ∧ D.rt v (upd H' d u), fun σ' H' => H' d = some (.frz od u) ∧ D.bk σ' (upd H' d u), fun σ' H' => H' d = some (.frz od u) ∧ D.ct σ' (upd H' d u)⟩ σ (upd H d (.frz od u))
def tLockE (t : TE) : TE := fun σ H Q => ∃ d u, H d = some u ∧ Mut (some u) ∧ ∀ od, t σ (upd H d (.frz od u)) fun v H' => H' d = some (.frz od u) ∧ Q v (upd H' d u)
section
variable {X : Cx}
end


/-- lo, lo + c, .. (n of them) -/
def Itc (lo c : Int) (n : Nat) : It := ⟨fun i _ => i < n, fun i H x H' => H' = H ∧ x = .int (lo + (i : Nat) * c), fun i _ => n ≤ i⟩
/-- range(i, j, c): small bounds, n items -/
def RgC (i j c : Int) (n : Nat) : Prop := c ≠ 0 ∧ c.natAbs < 1073741824 ∧ Builtin.Range.small i j c = true ∧ Builtin.Range.rangeSize i j c = n
theorem RgC.neg {i j : Int} (ha : -(2 ^ 62) ≤ i) (ha' : i < 2 ^ 62) (hb : -(2 ^ 62) ≤ j) (hb' : j < 2 ^ 62) : RgC i j (-1) (i - j).toNat :=
  ⟨by decide, by decide, PySem.W.small_down ha ha' hb hb', PySem.W.rangeSize_downNat i j⟩
def iRng3 (ta : TA) : TI := fun σ H R => ta σ H fun vs H1 => ∃ (i j c : Int) (n : Nat), vs = [.int i, .int j, .int c] ∧ RgC i j c n ∧ R (Itc i c n) H1
section
variable {X : Cx} {tg : Expr}
end
/-- the list at a (n items at the start, which the loop leaves there), from its end -/
def Itv (K : PySem.W.Frag) (a : Addr) (n : Nat) : It :=
  ⟨fun i H => i < n ∧ ∃ (xs : List V) (x : V), SqL K H a xs ∧ xs[n - 1 - i]? = some x, fun i H x H' => H' = H ∧ ∀ xs, SqL K H a xs → xs[n - 1 - i]? = some x, fun i _ => n ≤ i⟩
def iRev (K : PySem.W.Frag) (ta : TA) : TI := fun σ H R => ta σ H fun vs H1 => ∃ (a : Addr) (xs : List V), vs = [.ref a] ∧ SqL K H1 a xs ∧ R (Itv K a xs.length) H1
section
variable {X : Cx} {tg : Expr}
end


def Its (x : Str) : It := ⟨fun i _ => i < x.cps.size, fun i H v H' => H' = H ∧ ∃ c, x.cps[i]? = some c ∧ v = .str ⟨#[c]⟩, fun i _ => x.cps.size ≤ i⟩
def iStr (te : TE) : TI := fun σ H R => te σ H fun v H1 => ∃ x, v = .str x ∧ R (Its x) H1
section
variable {prog : Program} {w : World} {A : Around} {E : Value → Shared → Prop} {s : Shared}
end


section
variable {X : Cx} {pins : List (Addr × Obj)} {σ : St} {H : Hp} {s : Shared} {d : Addr} {o : Obj}
end

/-- the keys of the locked dict at d, in their order -/
def Itk (d : Addr) (o : Obj) (kvs : List (Key × V)) : It :=
  ⟨fun i H => H d = some (.frz o (.dK kvs)) ∧ i < kvs.length, fun i H x H' => H' = H ∧ ∃ k v, kvs[i]? = some (k, v) ∧ x = kV k, fun i H => H d = some (.frz o (.dK kvs)) ∧ kvs.length ≤ i⟩
/-- .. of tuple keys: the key's own tuple -/
def Itkt (d : Addr) (o : Obj) (kvs : List (List Key × V)) : It :=
  ⟨fun i H => H d = some (.frz o (.dT kvs)) ∧ i < kvs.length, fun i H x H' => H' = H ∧ ∃ (k : List Key) (v : V) (q : Addr), kvs[i]? = some (k, v) ∧ x = .ref q ∧ H q = some (.tup (k.map kV)), fun i H => H d = some (.frz o (.dT kvs)) ∧ kvs.length ≤ i⟩
/-- the values -/
def Itd (d : Addr) (o : Obj) (kvs : List (Key × V)) : It :=
  ⟨fun i H => H d = some (.frz o (.dK kvs)) ∧ i < kvs.length, fun i H x H' => H' = H ∧ ∃ k, kvs[i]? = some (k, x), fun i H => H d = some (.frz o (.dK kvs)) ∧ kvs.length ≤ i⟩
/-- the pairs, each a new tuple -/
def Iti (d : Addr) (o : Obj) (kvs : List (Key × V)) : It :=
  ⟨fun i H => H d = some (.frz o (.dK kvs)) ∧ i < kvs.length, fun i H x H' => ∃ T k v, kvs[i]? = some (k, v) ∧ x = .ref T ∧ H T = none ∧ H' = upd H T (.tup [kV k, v]), fun i H => H d = some (.frz o (.dK kvs)) ∧ kvs.length ≤ i⟩
section
variable {P : Program} {w : World} {K : PySem.W.Frag} {tg : Expr} {d : Addr} {o : Obj} {es : Array DictEntry} {ep : Nat}
end


/-- the dict is locked (tLock, or by the caller) -/
def iKeys (td : TE) : TI := fun σ H R => td σ H fun x H1 => ∃ d o, x = .ref d ∧ ((∃ kvs, H1 d = some (.frz o (.dK kvs)) ∧ R (Itk d o kvs) H1) ∨ ∃ kvs, H1 d = some (.frz o (.dT kvs)) ∧ R (Itkt d o kvs) H1)
def iVals (td : TE) : TI := fun σ H R => td σ H fun x H1 => ∃ d o kvs, x = .ref d ∧ H1 d = some (.frz o (.dK kvs)) ∧ R (Itd d o kvs) H1
def iItems (td : TE) : TI := fun σ H R => td σ H fun x H1 => ∃ d o kvs, x = .ref d ∧ H1 d = some (.frz o (.dK kvs)) ∧ R (Iti d o kvs) H1
def iKeysM (td : TE) : TI := fun σ H R => td σ H fun x H1 => ∃ d o kvs, x = .ref d ∧ H1 d = some (.frz o (.dK kvs)) ∧ R (Itk d o kvs) H1
section
variable {X : Cx} {tg e : Expr} {td : TE} {apos cpos : Pos}
end


/-- the list at a as it stands at each turn, each item in a new pair -/
def Ite (K : PySem.W.Frag) (a : Addr) : It :=
  ⟨fun i H => ∃ (xs : List V) (x : V), SqL K H a xs ∧ xs[i]? = some x, fun i H v H' => ∃ T x, v = .ref T ∧ H T = none ∧ H' = upd H T (.tup [.int (i : Nat), x]) ∧ ∀ xs, SqL K H a xs → xs[i]? = some x, fun i H => ∃ xs : List V, SqL K H a xs ∧ xs.length ≤ i⟩
def iEnum (K : PySem.W.Frag) (ta : TA) : TI := fun σ H R => ta σ H fun vs H1 => ∃ a xs, vs = [.ref a] ∧ SqL K H1 a xs ∧ R (Ite K a) H1
theorem boot_zip5 : bootBuiltins "zip" = some (.type "zip") := by decide +kernel
/-- the lists at a and b as they stand at each turn, the items in new pairs -/
def Itz (K : PySem.W.Frag) (a b : Addr) : It :=
  ⟨fun i H => ∃ (xs ys : List V) (x y : V), SqL K H a xs ∧ SqL K H b ys ∧ xs[i]? = some x ∧ ys[i]? = some y,
    fun i H v H' => ∃ T x y, v = .ref T ∧ H T = none ∧ H' = upd H T (.tup [x, y]) ∧ (∀ xs, SqL K H a xs → xs[i]? = some x) ∧ ∀ ys, SqL K H b ys → ys[i]? = some y,
    fun i H => ∃ xs ys : List V, SqL K H a xs ∧ SqL K H b ys ∧ (xs.length ≤ i ∨ ys.length ≤ i)⟩
def iZip (K : PySem.W.Frag) (ta : TA) : TI := fun σ H R => ta σ H fun vs H1 => ∃ a b xs ys, vs = [.ref a, .ref b] ∧ SqL K H1 a xs ∧ SqL K H1 b ys ∧ R (Itz K a b) H1
end L2

section 
namespace Bits
open PySem PyProof.Rows

end Bits
end 

section 
namespace TL
open PySem PySem.Builtin PySem.Builtin.Str PySem.StrLaws

abbrev tl (x : Str) : List Nat := x.cps.toList
/-- S stands at the head of l -/
def pre (S l : List Nat) : Bool := l.take S.length == S
/-- l cut at each S from the left; k signs are still to be passed over -/
def spl (S : List Nat) : Nat → List Nat → List Nat → List (List Nat)
  | _, acc, [] => [acc]
  | 0, acc, c :: r => if pre S (c :: r) = true then acc :: spl S (S.length - 1) [] r else spl S 0 (acc ++ [c]) r
  | k + 1, acc, _ :: r => spl S k acc r
/-- what stands before the first S, and behind it -/
def par (S : List Nat) : List Nat → List Nat → Option (List Nat × List Nat)
  | _, [] => none
  | acc, c :: r => if pre S (c :: r) = true then some (acc, (c :: r).drop S.length) else par S (acc ++ [c]) r

/-- joined lists -/
def joinL (S : List Nat) : List (List Nat) → List Nat
  | [] => []
  | [p] => p
  | p :: q :: r => p ++ (S ++ joinL S (q :: r))
/-- the signs of a number -/
def numL (n : Nat) : List Nat := (Nat.toDigits 10 n).map Char.toNat
def wstep (st : List (List Nat) × List Nat) (c : Nat) : List (List Nat) × List Nat :=
  if Unicode.isSpace c = true then (if st.2 = [] then st else (st.1 ++ [st.2], [])) else (st.1, st.2 ++ [c])
def wfin (st : List (List Nat) × List Nat) : List (List Nat) := if st.2 = [] then st.1 else st.1 ++ [st.2]
end TL
end 

namespace L2
open PySem PySem.Spec PyProof.Rows

/-- a new list of texts, tracked -/
def rNewStrs (ys : List Str) : Hp → VK → Prop := fun H Q => ∀ p, H p = none → Q (.ref p) (upd H p (.lst (ys.map V.str)))

section
variable {X : Cx} {pins : List (Addr × Obj)} {σ : St} {H : Hp} {s : Shared} {Q : VK}
end

section
variable {X : Cx}

end

section
variable {X : Cx} {o e : Expr} {to te : TE}
def tM0 (r : V → List V → Hp → VK → Prop) (to : TE) : TE := fun σ H Q => to σ H fun x H1 => (∃ a, x = .str a) ∧ r x [] H1 Q
def tM1 (r : V → List V → Hp → VK → Prop) (to te : TE) : TE := fun σ H Q => to σ H fun x H1 => (∃ a, x = .str a) ∧ te σ H1 fun y H2 => r x [y] H2 Q
end
end L2

namespace L2
open PySem PySem.Spec PyProof.Rows

section
variable {X : Cx}
end


theorem IsPart.raw {v : Value} {o : Option Int} (p : IsPart v o) : ∃ l : Option (Int × Tok), v = partValue l ∧ l.map (·.1) = o := by
  cases p with
  | none => exact ⟨none, rfl, rfl⟩
  | int i t => exact ⟨some (i, t), rfl, rfl⟩

/-- a part, clipped, as the text's slice reckons it -/
def clipS (n d : Nat) : Option Int → Int
  | none => (d : Int)
  | some i => max 0 (min (if i < 0 then i + (n : Int) else i) (n : Int))
/-- z[lo:hi] -/
def cutS (z : Str) (lo hi : Option Int) : Str :=
  ⟨((z.cps.toList.drop (HT.sIx z.length 0 lo)).take (HT.sIx z.length z.length hi - HT.sIx z.length 0 lo)).toArray⟩
def rSlS : V → Option Int → Option Int → Hp → VK → Prop := fun x lo hi H Q => ∃ z, x = .str z ∧ z.length ≤ sizeLine ∧ Q (.str (cutS z lo hi)) H
end L2

namespace Att
open PySem PySem.W PySem.Calls PyProof.Rows


theorem ints_of_wellAll {P : Params} {h : Heap} : ∀ (ns : List Int) (vs : List Value), WellAll P h vs (ns.map WData.int) → IntsAre vs ns := by
  intro ns
  induction ns with
  | nil =>
    intro vs w
    rw [List.map_nil] at w
    cases w
    exact .nil
  | cons n ns ih =>
    intro vs w
    rw [List.map_cons] at w
    cases w with
    | cons a b =>
      cases a
      exact .cons _ _ (ih _ b)

theorem script_of {l : OpenLaw} {n : Nat} (hn : l.most = some n) {P : Params} {h : Heap} {args : List WData} {vals : List Value}
    (hpre : l.row.toRowW.claim.pre args = true) (hwl : WellAll P h vals args) :
    ∃ a vs ns, vals = [Value.ref a] ∧ args = [WData.list (ns.map WData.int)] ∧ h.get? a = some { cls := .type "list", data := .seq vs.toArray } ∧ IntsAre vs ns ∧ ns.length ≤ n := by
  have hsh : WShape.hasAll [] args [.list .int] = true := (pre_splitW hpre).1
  have hc : l.pre.holds [] { args := args } = true := (pre_splitW hpre).2
  obtain ⟨d, r, rfl, h1, h2⟩ := hasAllW_cons hsh
  obtain rfl := hasAllW_nil h2
  obtain ⟨xs, rfl, h3⟩ := hasW_list h1
  obtain ⟨ns, rfl⟩ := items_int h3
  have hlen : ns.length ≤ n := by
    unfold OpenLaw.pre at hc
    have h4 : (WTm.not (.lt (.lit (.int (n : Int))) (.len (.arg 0)))).holds [] { args := [.list (ns.map .int)] } = true := by
      have h4 := (holds_andW hc).1
      rw [hn] at h4
      exact h4
    have h5 := condW_of h4 (w_not (w_lt w_lit (w_len_list (w_arg rfl))))
    rw [List.length_map] at h5
    refine Nat.le_of_not_lt fun q => ?_
    have q' : (n : Int) < ((ns.length : Nat) : Int) := by omega
    first
      | (rw [decide_eq_true q'] at h5; exact absurd h5 (by decide))
      | (simp at h5; omega)
  cases hwl with
  | cons w1 w2 =>
    cases w2
    cases w1 with
    | list ho hall => exact ⟨_, _, ns, rfl, rfl, ho, ints_of_wellAll ns _ hall, hlen⟩

theorem post_true (l : OpenLaw) (args : List WData) : l.row.toRowW.claim.post args (.bool true) args = true :=
  postW_of (r := l.row.toRowW) (X := (true == true))
    (show WShape.has [] (.bool true) .bool = true by first | rfl | decide | simp [WShape.has, WShape.arms, WShape.armsAll])
    (show (WTm.eq .res (.lit (.bool true))).value [] { args := args, res := some (.bool true), after := args } = some (.bool (true == true)) from w_eq_bool (w_res rfl) w_lit) rfl


/-- the same from a codeAny of the CALL (for a layer whose function contracts speak of calls) -/
theorem attach_call {l : OpenLaw} {n : Nat} {q : Program} {loose : List Str} {XP : (Str → Option Value) → Heap → Prop} {YP : World → Heap → Prop} {d : DefRec}
    (hn : l.most = some n) (hdf : d.params.defaults = [])
    (call : ∀ (w : World) (s₀ s₁ : Shared) (mg mb : Str → Option Value) (fa : Addr) (o : Obj) (pm cd doc : Value) (a : Addr) (vs : List Value) (ns : List Int),
      Ground q loose [] XP w s₀ mg mb s₁.heap → YP w s₁.heap →
      s₁.heap.get? fa = some o → o.data = .func (docDef d.name d.params d.body d.scope pm cd doc) → s₁.heap.CodeRec cd d.name → mg d.name = some (.ref fa) →
      s₁.heap.get? a = some { cls := .type "list", data := .seq vs.toArray } → IntsAre vs ns → ns.length ≤ n → s₁.gens = #[] →
      codeAny (model l.prog w) callerA (.call (.ref fa) ⟨[.ref a], []⟩) (fun r s' => r = .ok (.ret (.bool true)) ∧ OldK s₁.heap s'.heap ∧ s'.os = s₁.os ∧ AllBare s'.gens) s₁) :
    WalkO q loose XP YP l.row.toRowW d [] (fun f vs => PySem.call f vs) := by
  intro w s₀ s₁ mg mb G Y fa o pm cd doc dV kV ho hd hcd hD hmg hg args vals as hpre hlay hrd hwl hlo
  obtain rfl : dV = .none := Dflts.none hD hdf
  obtain rfl : kV = .none := Dflts.noKw hD
  obtain ⟨a, vs, ns, rfl, rfl, hobj, hints, hlen⟩ := script_of hn hpre hwl
  refine enter_call (codeAny_mono (call w s₀ s₁ mg mb fa o pm cd doc a vs ns G Y ho (fd_plain hd) hcd hmg hobj hints hlen hg) fun r s' hq => ?_)
  obtain ⟨rfl, h2, h3, h4⟩ := hq
  exact ⟨.inl ⟨.bool true, .bool true, [], rfl, fun _ => rfl, .bool true, post_true l _, fun _ => ⟨List.Pairwise.nil, fun _ hm => (nomatch hm)⟩⟩, h2, h3, h4⟩

section
variable {prog : Program} {w : World} {A : Around} {E : Value → Shared → Prop} {s : Shared} {K : Frag}

def noObjs (h : Heap) : Heap := { h with objs := #[] }
def ledger (h : Heap) (L d : Addr) : List (Addr × Obj) := (List.range h.objs.size).filterMap fun a => if a = L ∨ a = d then none else (h.get? a).map fun o => (a, o)
end
end Att

namespace L2
open PySem PySem.Spec PyProof.Rows

theorem vals_ints : ∀ {vs : List Value} {ns : List Int}, IntsAre vs ns → Vals (ns.map V.int) vs
  | _, _, .nil => .nil
  | _, _, .cons n t h => .cons ⟨t, rfl⟩ (vals_ints h)

/-- nothing is tracked but the script, known to the object (or it is an object of the module) -/
def Only (H : Hp) : Prop := ∀ b, H b = none ∨ ∃ o xs, H b = some (.frz o (.lst xs))

/-- THE HEAD: the law's promise, at the heap behind the top. F, the promise of the law's def, may use that base is part of the heap (so K.In base, base.Ns mainGlobals mg stand in Mod) -/
theorem law_call {P : Program} {w : World} {K : PySem.W.Frag} {mg mb : Str → Option Value} {CX : CXT} {k : Nat} {fa a : Addr} {fd : FuncData} {x : Str} {sp : Sp} {s₁ : Shared} {vs : List Value} {ns : List Int}
    (KX : K.In s₁.heap) (hns : s₁.heap.Ns mainGlobals mg) (hb : s₁.heap.Ns builtinsNs mb) (hbb : ∀ x : Str, x ≠ "__name__" → mb x = bootBuiltins x) (hlim : s₁.heap.NoLimit) (hg : s₁.gens = #[])
    (ha : s₁.heap.get? a = some { cls := .type "list", data := .seq vs.toArray }) (hi : IntsAre vs ns) (hl : ns.length ≤ sizeLine) (hr : Room k callerA)
    (F : ∀ base : Heap, K.In base → base.Ns mainGlobals mg → FnOk P w K mg base CX k fa fd [x] sp) (hbind : ∀ (s : Shared) (u : Value), BindsTo s fd ⟨[u], []⟩ [(x, u)])
    (hsp : ∀ H : Hp, Only H → SqL K H a (ns.map V.int) → sp [.ref a] H (fun v _ => v = .bl true) fun _ _ _ => False)
    (hCX : ∀ H e s', CX [] H s₁ (fun _ _ _ => False) e s' → False) :
    codeAny (model P w) callerA (.call (.ref fa) ⟨[.ref a], []⟩) (fun r s' => r = .ok (.ret (.bool true)) ∧ OldK s₁.heap s'.heap ∧ s'.os = s₁.os ∧ AllBare s'.gens) s₁ := by
  have rv := vals_ints hi
  have lenV := hi.length
  -- from an abstract heap in which nothing but the script may be tracked
  have core : ∀ H : Hp, Only H → SqL K H a (ns.map V.int) → HOk P w H s₁.heap → (∀ b, H b ≠ none → b = a) → (H a ≠ none → K.lookup a = none) →
      codeAny (model P w) callerA (.call (.ref fa) ⟨[.ref a], []⟩) (fun r s' => r = .ok (.ret (.bool true)) ∧ OldK s₁.heap s'.heap ∧ s'.os = s₁.os ∧ AllBare s'.gens) s₁ := by
    intro H hO hS hok hA hK
    have base_of : ∀ {b : Addr} {o : Obj}, s₁.heap.get? b = some o → H b = none → (hidT s₁.heap H).get? b = some o := fun e n => hidT_get e n
    have noA : ∀ {b : Addr} {o : Obj} {es : Array DictEntry} {ep : Nat}, s₁.heap.get? b = some o → o.data = .dict es ep → H b = none := fun {b o es ep} e d => by
      cases q : H b with
      | none => rfl
      | some u =>
        have e' : b = a := hA b (by rw [q]; simp)
        subst e'
        rw [ha] at e; cases e
        have d' : Data.seq vs.toArray _ = Data.dict es ep := d
        cases d'
    have nsK : ∀ {b : Addr} {m : Str → Option Value}, s₁.heap.Ns b m → (hidT s₁.heap H).Ns b m := fun {b m} ⟨o, es, ep, e, d, r⟩ => ⟨o, es, ep, base_of e (noA e d), d, r⟩
    have hKb : K.In (hidT s₁.heap H) := fun b o e => base_of (KX b o e) (by
      cases q : H b with
      | none => rfl
      | some u =>
        have e' : b = a := hA b (by rw [q]; simp)
        subst e'
        rw [hK (by rw [q]; simp)] at e; cases e)
    have hM : Mod K mg (hidT s₁.heap H) := ⟨hKb, nsK hns, ⟨mb, nsK hb, hbb⟩, let ⟨mc, h1, h2⟩ := hlim; ⟨mc, nsK h1, h2⟩⟩
    have e0 : Env0 P w K mg (hidT s₁.heap H) callerA [] s₁ H := ⟨rfl, hM, fun b o e => of_hidT e, Nat.le_of_eq (hidT_size _ _), trivial, fun b hb => absurd (show b ∈ ([] : List Addr) from hb) (by simp), hok, .of_eq hg⟩
    refine codeAny_mono ((F _ hKb (nsK hns)).run callerA [] s₁ H ⟨[.ref a], []⟩ [.ref a] [.ref a] _ _ hr e0 (hbind s₁ (.ref a)) (.cons rfl .nil) (hsp H hO hS)) fun r s' h => ?_
    cases r with
    | error e => exact (hCX H e s' h).elim
    | ok fl =>
      cases fl with
      | next => exact False.elim h
      | brk => exact False.elim h
      | cont => exact False.elim h
      | ret u =>
        obtain ⟨v, H', os, bare, un, hok', r', q⟩ := h
        have q' : v = .bl true := q
        subst q'
        obtain rfl : u = Value.bool true := r'
        refine ⟨rfl, OldK.of_keep fun b o e => ?_, os, bare⟩
        cases q : H b with
        | none => exact un.keep b o e q (by intro z; exact absurd (show b ∈ ([] : List Addr) from z) (by simp)) (by simp)
        | some u =>
          rcases hO b with z | ⟨ob, xs, z⟩
          · rw [q] at z; cases z
          · have z2 := un.frzs b ob _ z
            obtain ⟨e1, _⟩ := hok b _ z
            obtain ⟨e2, _⟩ := hok' b _ z2
            rw [e] at e1; cases e1
            exact e2
  cases hk : K.lookup a with
  | some o =>
    -- the script is one of the module's own objects
    have e := KX a o hk
    rw [ha] at e
    cases e
    refine core (fun _ => none) (fun _ => .inl rfl) (.inr ⟨_, vs.toArray, _, hk, rfl, rfl, rfl, by rw [List.size_toArray, lenV]; exact hl, by simpa using rv⟩) (fun b u z => by have z' : (none : Option HO) = some u := z; cases z') (fun b z => absurd rfl z) fun z => absurd rfl z
  | none =>
    refine core (fun b => if b = a then some (.frz { cls := .type "list", data := .seq vs.toArray } (.lst (ns.map V.int))) else none) (fun b => ?_) (.inl (.inr ⟨{ cls := .type "list", data := .seq vs.toArray }, if_pos rfl⟩)) (fun b u z => ?_) (fun b z => ?_) fun _ => hk
    · by_cases hb : b = a
      · exact .inr ⟨_, _, if_pos hb⟩
      · exact .inl (if_neg hb)
    · by_cases hb : b = a
      · have z' := (if_pos hb).symm.trans z
        cases z'
        subst hb
        exact ⟨ha, by rw [List.length_map]; exact hl, vs, _, rv, ha⟩
      · have z' := (if_neg hb).symm.trans z
        cases z'
    · by_cases hb : b = a
      · exact hb
      · exact absurd (if_neg hb) z
end L2

namespace L2
open PySem PySem.Spec PyProof.Rows

abbrev KOf {K : PySem.W.Frag} {h : Heap} (_ : K.In h) : PySem.W.Frag := K

/-- the goal that k_head leaves (case hc), from the law's promise. F gives the function object fd (K's own) once, then the promise over every base -/
theorem walk_of {l : PySem.W.OpenLaw} {n k : Nat} {q : Program} {loose : List Str} {XP : (Str → Option Value) → Heap → Prop} {YP : World → Heap → Prop} {d : DefRec} {K : Params → PySem.W.Frag} {CX : World → CXT} {sp : World → Sp} {x : Str}
    (hn : l.most = some n) (hn2 : n ≤ sizeLine) (hdf : d.params.defaults = []) (hr : Room k callerA)
    (hY : ∀ (w : World) (h : Heap), YP w h → (K w.params).In h)
    (F : ∀ (w : World) (mg : Str → Option Value) (fa : Addr) (h : Heap), (K w.params).In h → h.Ns mainGlobals mg → mg d.name = some (.ref fa) →
      ∃ fd : FuncData, (∀ (s : Shared) (u : Value), BindsTo s fd ⟨[u], []⟩ [(x, u)]) ∧
        ∀ base : Heap, (K w.params).In base → base.Ns mainGlobals mg → FnOk l.prog w (K w.params) mg base (CX w) k fa fd [x] (sp w))
    (hsp : ∀ (w : World) (H : Hp) (a : Addr) (ns : List Int), ns.length ≤ n → Only H → SqL (K w.params) H a (ns.map V.int) → sp w [.ref a] H (fun v _ => v = .bl true) fun _ _ _ => False)
    (hCX : ∀ (w : World) (H : Hp) (s : Shared) (e : Value) (s' : Shared), CX w [] H s (fun _ _ _ => False) e s' → False) :
    PySem.W.WalkO q loose XP YP l.row.toRowW d [] (fun f vs => PySem.call f vs) := by
  refine Att.attach_call hn hdf fun w s₀ s₁ mg mb fa o pm cd doc a vs ns G Y ho hd hcd hmg hobj hints hlen hg => ?_
  have KX := hY w _ Y
  obtain ⟨fd, hb, hF⟩ := F w mg fa _ KX G.T.g hmg
  exact law_call KX G.T.g G.T.b G.T.builtins G.T.nolimit hg hobj hints (Nat.le_trans hlen hn2) hr hF hb (fun H hO hS => hsp w H a ns hlen hO hS) fun H e s' => hCX w H s₁ e s'
end L2




namespace L2
open PySem PySem.Spec PyProof.Rows


/-- the j-th statement of a class's body -/
def inClass (s : Stmt) (j : Nat) : Stmt := match s with
  | .ClassDef _ _ _ body _ _ _ _ _ _ _ => body.getD j (.Pass ⟨0, 0, 0, 0⟩)
  | _ => .Pass ⟨0, 0, 0, 0⟩
def defArgs (s : Stmt) : Arguments := match s with
  | .FunctionDef _ a _ _ _ _ _ _ _ _ => a
  | _ => { posonlyargs := [], args := [], vararg := none, kwonlyargs := [], kw_defaults := [], kwarg := none, defaults := [] }
def defBody (s : Stmt) : List Stmt := match s with
  | .FunctionDef _ _ b _ _ _ _ _ _ _ => b
  | _ => []
def defScope (s : Stmt) : Scope := match s with
  | .FunctionDef _ _ _ _ _ _ sc _ _ _ => sc
  | _ => { kind := .function, names := [], isGenerator := false, isCoroutine := false }


abbrev CX0 : CXT := fun _ _ _ _ _ _ => False
abbrev E0 : XK := fun _ _ _ => False
theorem pass0 {X : Cx} : Passes CX0 X E0 := fun _ _ _ _ _ _ _ h => h.elim


structure Fun (K : PySem.W.Frag) (x qual : Str) (st : Stmt) (f : Addr) (fd : FuncData) : Prop where
  ex : ∃ (oc : Value) (od : Option Addr) (kV doc pm : Value) (an : Option Addr) (cdv ct : Value) (osl : Array (Option Value)),
    fd = PySem.W.fnOf x qual (defArgs st) (defBody st) (defScope st) .none kV doc pm an cdv ct ∧ K.lookup f = some ⟨oc, od, .func fd, osl⟩ ∧ PySem.W.codeIn K cdv qual = true
  kp : PySem.W.keepIn K (.ref f) = true
section
variable {P : Program} {w : World} {K : PySem.W.Frag} {mg : Str → Option Value} {base : Heap}
/-- THE RULE for a def: its body as a term of rules, and the reading of that term -/
theorem Fun.ok {x qual : Str} {st : Stmt} {f : Addr} {fd : FuncData} {N ps : List Str} {k : Nat} {sp : Sp} (F : Fun K x qual st f fd) (S : FnScope N ps (defScope st)) (len : ∀ vs H Q E, sp vs H Q E → vs.length = ps.length)
    (hbody : ∀ (cdv : Value) (A : Around) (outer : List Env) (s : Shared) (H : Hp) (vs : List V) (Q : VK) (E : XK), Room k (A.deeper (envOfC qual (defScope st) s.heap.objs.size f cdv)) → sp vs H Q E →
      ∃ t, PSs (cxOf CX0 P w K mg base N qual (defScope st) f cdv A outer s H E).nox (defBody st) t ∧ t { nx := fun _ H' => Q .non H', rt := Q } (start N vs) H) : FnOk P w K mg base CX0 (k + 1) f fd ps sp := by
  obtain ⟨oc, od, kV, doc, pm, an, cdv, ct, osl, rfl, lk, hcd⟩ := F.ex
  refine fn_of lk hcd S len fun A outer s H vs Q E hr hsp => ?_
  obtain ⟨t, h, q⟩ := hbody cdv A outer s H vs Q E hr hsp
  exact ⟨t, h.nox, q⟩
/-- how its arguments bind (no defaults): h is «fun _ _ _ _ _ _ us hl => match us, hl with | [_, _], _ => rfl», one _ a parameter -/
theorem Fun.binds {x qual : Str} {st : Stmt} {f : Addr} {fd : FuncData} {ps : List Str} (F : Fun K x qual st f fd)
    (h : ∀ (kV doc pm : Value) (an : Option Addr) (cdv ct : Value) (us : List Value), us.length = ps.length → bindArgs (PySem.W.fnOf x qual (defArgs st) (defBody st) (defScope st) .none kV doc pm an cdv ct) ⟨us, []⟩ = pure (ps.zip us)) : Binds K fd ps [] := by
  obtain ⟨oc, od, kV, doc, pm, an, cdv, ct, osl, rfl, lk, hcd⟩ := F.ex
  exact .all (h kV doc pm an cdv ct)
theorem fun_mk {x qual : Str} {st : Stmt} {f : Addr} {oc : Value} {od an : Option Addr} {osl : Array (Option Value)} {kV doc pm cdv ct : Value} (l : K.lookup f = some ⟨oc, od, .func (PySem.W.fnOf x qual (defArgs st) (defBody st) (defScope st) .none kV doc pm an cdv ct), osl⟩)
    (c : PySem.W.codeIn K cdv qual = true) (k : PySem.W.keepIn K (.ref f) = true) : Fun K x qual st f (PySem.W.fnOf x qual (defArgs st) (defBody st) (defScope st) .none kV doc pm an cdv ct) := ⟨⟨oc, od, kV, doc, pm, an, cdv, ct, osl, rfl, l, c⟩, k⟩
end
theorem small1000 {n : Nat} (h : n ≤ 1000) : n < sizeLine := Nat.lt_of_le_of_lt h (by decide)


section
variable {X : Cx}
theorem pv (i : Nat) {x : Str} {pos : Pos} (hN : X.N[i]? = some x := by rfl) (hv : Vis X.env.scope x := by first | exact Or.inl rfl | exact Or.inr (Or.inl rfl) | exact Or.inr (Or.inr rfl)) (hd : (x == ("__debug__" : Str)) = false := by decide)
    (hcd : (x == ("__classdict__" : Str)) = false := by decide) : PE X (.Name x pos) (tVar i) := pe_var hN hv hd hcd
theorem qv (i : Nat) {x : Str} {pos : Pos} (hN : X.N[i]? = some x := by rfl) (hv : Vis X.env.scope x := by first | exact Or.inl rfl | exact Or.inr (Or.inl rfl) | exact Or.inr (Or.inr rfl)) (hd : (x == ("__debug__" : Str)) = false := by decide) (hcd : (x == ("__classdict__" : Str)) = false := by decide) : QE X (.Name x pos) (tVar i) := ⟨pv i hN hv hd hcd⟩
end


theorem iteF {A B : Prop} (h : B) : if false = true then A else B := by
  rw [if_neg Bool.false_ne_true]
  exact h
theorem iteT {A B : Prop} (h : A) : if true = true then A else B := by
  rw [if_pos rfl]
  exact h
theorem ite2 {c A B : Prop} [Decidable c] (h1 : c → A) (h2 : ¬ c → B) : if c then A else B := by
  by_cases h : c
  · rw [if_pos h]
    exact h1 h
  · rw [if_neg h]
    exact h2 h
theorem iteNS {c A B : Prop} [Decidable c] (hc : c) (h : B) : if (!decide c) = true then A else B := by
  rw [decide_eq_true hc]
  exact iteF h


/-- all that was tracked is as it was -/
def Same (H H' : Hp) : Prop := ∀ b o, H b = some o → H' b = some o
theorem Same.refl (H : Hp) : Same H H := fun _ _ h => h
theorem Same.trans {H H1 H2 : Hp} (a : Same H H1) (b : Same H1 H2) : Same H H2 := fun c o h => b c o (a c o h)
theorem Same.free {H H' : Hp} (e : Same H H') {l : Addr} (h : H' l = Option.none) : H l = Option.none := by
  cases q : H l with
  | none => rfl
  | some o =>
    rw [e l o q] at h
    cases h
theorem Same.seq {K : PySem.W.Frag} {H H' : Hp} {a : Addr} {xs : List V} (e : Same H H') (h : SqL K H a xs) : SqL K H' a xs := by
  rcases h with (h | ⟨o, h⟩) | h
  · exact .inl (.inl (e _ _ h))
  · exact .inl (.inr ⟨o, e _ _ h⟩)
  · exact .inr h


section
variable {κ : Type} [DecidableEq κ]
end

theorem at_of {xs : List V} {z : Int} {j : Nat} {v : V} (e : z = (j : Int)) (h : xs[j]? = some v) : atI xs z = some v := by
  rw [e]
  exact atI_nat h
/-- a new instance and its __init__ leave all that was tracked as it was -/
theorem Same.made {H H1 : Hp} {x dx C : Addr} (nx : H x = Option.none) (nd : H dx = Option.none) (k : ∀ b o, (upd (upd H dx (.own x)) x (.ins C dx [])) b = some o → b ≠ x → H1 b = some o) : Same H H1 := fun b o e =>
  k b o (by rw [upd_ne (ne_of_none e nx), upd_ne (ne_of_none e nd)]; exact e) (ne_of_none e nx)
end L2

set_option Elab.async false
set_option linter.all false
set_option maxRecDepth 100000
namespace L2
open PySem PySem.Spec PyProof.Rows
section
variable {X : Cx}
/-- isinstance(x, T), T a built-in type -/
theorem call_isi : CallR X (.builtin "isinstance") (fun xs H Q => ∃ x n t b, xs = [x, .ty n] ∧ TyOf X.K H x t ∧ PySem.W.kitOne X.K t (.type n) = some b ∧ Q (.bl b) H) := by
  intro pins s σ H xs us Q I r h
  obtain ⟨x, n, t, b, rfl, ty, e, q⟩ := h
  obtain ⟨u, w', rfl, rx, ry⟩ := vals2 r
  obtain rfl : w' = Value.type n := ry
  exact isinst_ok I rx ty e fun tk => ⟨.bl b, H, I.tok tk, rfl, q⟩
def CDivB (i j : Int) : Prop := 0 < j ∧ j.natAbs.log2 < 9000
theorem op_fdivB : OpR X (binaryOp .FloorDiv) (rI CDivB fun i j => .int (i / j)) := opI fun i j _ _ _ _ _ hc q => by
  have h1 : (0 : Int) < j := hc.1
  exact floordiv_int (by omega) (by rw [Int.fdiv_eq_ediv_of_nonneg i (by omega)]; exact q) (.inl (PyProof.noPylong_of_log2 hc.2))
end

theorem yes_if {σ : St} {H : Hp} {A B : Hp → Prop} (h : A H) : tYes σ H (fun b H3 => if b = true then A H3 else B H3) := by
  show (if true = true then A H else B H)
  exact iteT h

structure New (H : Hp) (p : Addr) (o : HO) (H' : Hp) : Prop where
  free : H p = none
  at_ : H' p = some o
  rest : ∀ b, b ≠ p → H' b = H b
theorem New.of {H H' : Hp} {p : Addr} {o : HO} (hp : H p = none) (e : upd H p o = H') : New H p o H' := by
  subst e
  exact ⟨hp, upd_same, fun _ n => upd_ne n⟩
theorem New.get {H H' : Hp} {p b : Addr} {o u : HO} (n : New H p o H') (e : H b = some u) : H' b = some u := by
  rw [n.rest b (ne_of_none e n.free)]
  exact e
theorem New.same {H H' : Hp} {p : Addr} {o : HO} (n : New H p o H') : Same H H' := fun _ _ e => n.get e

section
variable {K : PySem.W.Frag}
example : PySem.W.kitOne K (.type "str") (.type "str") = some true := by rfl
example : PySem.W.kitOne K (.type "int") (.type "str") = some false := by rfl
example : PySem.W.kitOne K (.type "bool") (.type "int") = some true := by rfl
example : PySem.W.kitOne K (.type "NoneType") (.type "int") = some false := by rfl
end
end L2

set_option Elab.async false
set_option linter.all false
set_option maxRecDepth 100000
set_option maxHeartbeats 4000000
namespace L2
open PySem PySem.Spec PyProof.Rows

abbrev vNew : String := "ValueError.__new__"
abbrev vInit : String := "ValueError.__init__"
abbrev vMro : List Value := [.type "ValueError", .type "Exception", .type "BaseException", .type "object"]
/-- the class at C as the top has laid it: bm its line above it -/
structure XCls (h : Heap) (C : Addr) (bm : List Value) : Prop where
  obj : ∃ nm q N bs sn sub ab col dd k0 k1 k2 k3 k5, h.get? C = some (excClassObj nm q C N bs bm true sn sub ab col dd k0 k1 k2 k3 k5 vNew)
  cV : bm.contains (.type "ValueError") = true
  cB : bm.contains (.type "BaseException") = true
  nA : bm.contains (.type "AttributeError") = false
  nN : bm.contains (.type "NameError") = false
  ln : ∃ l : List Addr, bm = l.map Value.ref ++ vMro
theorem XCls.keeps {h h' : Heap} {C : Addr} {bm : List Value} (x : XCls h C bm) (k : ∀ b o, h.get? b = some o → h'.get? b = some o) : XCls h' C bm := by
  obtain ⟨⟨a1, a2, a3, a4, a6, a7, a8, a9, b1, b2, b3, b4, b5, b6, e⟩, c1, c2, c3, c4, c5⟩ := x
  exact ⟨⟨a1, a2, a3, a4, a6, a7, a8, a9, b1, b2, b3, b4, b5, b6, k _ _ e⟩, c1, c2, c3, c4, c5⟩
abbrev xObj (C t : Addr) : Obj := { cls := .ref C, data := .fields #[.ref t, .none, .none, .none, .bool false, .none] }
abbrev xTup (vs : List Value) : Obj := { cls := .type "tuple", data := .seq vs.toArray }
section
variable {M : Model} {A : Around} {E : Value → Shared → Prop} {h : Heap} {g : Array GenState} {d : Drawn} {t : Nat} {os : OsState} {C : Addr} {bm : List Value} {args : List Value}
theorem x_check_new {Q : Unit → Shared → Prop} (x : XCls h C bm) (hq : Q () ⟨h, g, d, t, os⟩) : wpAny M A (checkBuiltinCall vNew ⟨.ref C :: args, []⟩) Q E ⟨h, g, d, t, os⟩ := by
  have G := F.excBase_ValueError
  obtain ⟨⟨a1, a2, a3, a4, a6, a7, a8, a9, b1, b2, b3, b4, b5, b6, oC⟩, c1, c2, c3, c4, c5⟩ := x
  have inB : (Value.ref C :: bm).contains (.type "ValueError") = true := by rw [List.contains_cons, c1, Bool.or_true]
  have st := G.noStar
  simp only [checkBuiltinCall, G.newSplit, G.newRow, G.newKind]
  repeat (first | refine wpAny_loadPart_at oC ?_ | (refine wpAny_isSubtype_exc oC ?_; rw [inB]) | refine wpAny_madeBy_exc oC ?_ | refine wpAny_staticBase_exc oC ?_ | simp only [if_false, Bool.false_eq_true, bne_self_eq_false] | wp_step)
  exact hq
theorem x_check_init {e : Addr} {oe : Obj} {Q : Unit → Shared → Prop} (x : XCls h C bm) (he : h.get? e = some oe) (hc : oe.cls = .ref C) (hq : Q () ⟨h, g, d, t, os⟩) :
    wpAny M A (checkBuiltinCall vInit ⟨.ref e :: args, []⟩) Q E ⟨h, g, d, t, os⟩ := by
  have G := F.excBase_ValueError
  obtain ⟨⟨a1, a2, a3, a4, a6, a7, a8, a9, b1, b2, b3, b4, b5, b6, oC⟩, c1, c2, c3, c4, c5⟩ := x
  have inB : (Value.ref C :: bm).contains (.type "ValueError") = true := by rw [List.contains_cons, c1, Bool.or_true]
  have st := G.noStar
  simp only [checkBuiltinCall, G.initSplit, G.initRow, G.initKind]
  repeat (first | (with_reducible refine wpAny_loadPart_at he ?_; rw [hc]) | with_reducible refine wpAny_loadPart_at oC ?_ | (with_reducible refine wpAny_isSubtype_exc oC ?_; rw [inB]) | wp_step)
  refine wpAny_onRaise ?_
  have ck : ∀ (a b : String) (n : Nat), Bind.check ⟨.positional, "*", "ValueError", .self, [⟨"args", .varPos, false⟩]⟩ a b n (List.map (fun y => y.fst) ({ pos := Value.ref e :: args } : Args).kw) = pure () := fun a b n => check_star_args _ _ _ _ _ _
  rw [ck]
  exact wpAny_pure hq
end
section
variable {prog : Program} {w : World} {A : Around} {R : Result → Shared → Prop} {h : Heap} {g : Array GenState} {d : Drawn} {t : Nat} {os : OsState} {C : Addr} {bm : List Value} {args : List Value}
theorem x_new (x : XCls h C bm) (hq : R (.ok (.ret (.ref (h.objs.size + 1)))) ⟨(h.push (xTup args)).push (xObj C h.objs.size), g, d, t, os⟩) (hz : args.length ≤ sizeLine) :
    codeAny (model prog w) A (.builtin vNew ⟨.ref C :: args, []⟩) R ⟨h, g, d, t, os⟩ := by
  have G := F.excBase_ValueError
  obtain ⟨⟨a1, a2, a3, a4, a6, a7, a8, a9, b1, b2, b3, b4, b5, b6, oC⟩, c1, c2, c3, c4, c5⟩ := x
  have en := G.ends
  have i1 : (Value.ref C :: bm).contains (.type "ValueError") = true := by rw [List.contains_cons, c1, Bool.or_true]
  have i2 : (Value.ref C :: bm).contains (.type "AttributeError") = false := by rw [List.contains_cons, c3]; rfl
  have i3 : (Value.ref C :: bm).contains (.type "NameError") = false := by rw [List.contains_cons, c4]; rfl
  refine codeAny_builtinAt G.entry ?_
  unfold Builtin.«BaseException.__new__»
  refine PySem.wpAt_bind ?_
  show PySem.wpAt _ _ _ (stack >>= _) _ _ _
  refine PySem.wpAt_bind (PySem.wpAt_stack fun pp under => PySem.wpAt_of_wpAny ?_)
  wp_walk
  refine PySem.wpAt_of_wpAny ?_
  rw [G.owner]
  repeat (first | with_reducible refine wpAny_madeHere_exc G.canon oC ?_ | with_reducible refine wpAny_loadPart_at oC ?_ | (with_reducible refine wpAny_isSubtype_exc oC ?_; first | rw [i1] | rw [i2] | rw [i3]) | wp_step)
  show R _ _
  rw [Heap.size_push]
  exact hq
end
section
variable {prog : Program} {w : World} {A : Around} {E : Value → Shared → Prop} {h : Heap} {g : Array GenState} {d : Drawn} {t : Nat} {os : OsState} {C fI : Addr} {bm : List Value} {args : List Value} {K : PySem.W.Frag}
theorem x_type_call {Q : Fin → Shared → Prop} (X : K.In h) (x : XCls h C bm) (hi : PySem.W.findIn K (.ref C) "__init__" = some (some (.ref fI))) (hf : PySem.W.typeIn K (.ref fI) = some (.type "function"))
    (hq : wpAny (model prog w) A (call (.ref fI) (.ref (h.objs.size + 1) :: args)) (fun r s' => r = .none ∧ Q (.done (.ret (.ref (h.objs.size + 1)))) s') E ⟨(h.push (xTup args)).push (xObj C h.objs.size), g, d, t, os⟩) (hz : args.length ≤ sizeLine) :
    wpAny (model prog w) A (Builtin.«type.__call__» ⟨.ref C :: args, []⟩) Q E ⟨h, g, d, t, os⟩ := by
  have G := F.excBase_ValueError
  obtain ⟨a1, a2, a3, a4, a6, a7, a8, a9, b1, b2, b3, b4, b5, b6, oC⟩ := x.obj
  repeat (first | with_reducible refine wpAny_loadPart_at oC ?_ | with_reducible refine wpAny_madeBy_exc oC ?_ | wp_step)
  refine codeAny_call_builtin_code (Code.quiet_builtin _ G.quiet) (x_check_new x ?_)
  refine x_new x ?_ hz
  show wpAny _ _ _ _ _ _
  have kp : ∀ b o, h.get? b = some o → ((h.push (xTup args)).push (xObj C h.objs.size)).get? b = some o := fun b o e => Heap.get?_push_of_some _ (Heap.get?_push_of_some _ e)
  have oC1 := kp _ _ oC
  have eC : ((h.push (xTup args)).push (xObj C h.objs.size)).get? (h.objs.size + 1) = some (xObj C h.objs.size) := by heap_get
  have inC : (Value.ref C :: bm).contains (.ref C) = true := by simp
  unfold isInstance
  repeat (first | with_reducible refine wpAny_loadPart_at eC ?_ | (with_reducible refine wpAny_isSubtype_exc oC1 ?_; rw [inC]) | wp_step)
  show wpAny _ _ (typeLookup (.ref C) _) _ _ _
  have X1 : K.In ((h.push (xTup args)).push (xObj C h.objs.size)) := X.keeps kp
  refine (PySem.W.looks_findIn X1 hi).here ?_
  refine wpAny_holding (wpAny_bind ((PySem.W.bind_fn X1 (.ref (h.objs.size + 1)) hf).here ?_))
  refine wpAny_bind (wpAny_mono hq (fun r s' hr => ?_) fun _ _ z => z)
  obtain ⟨rfl, hQ⟩ := hr
  wp_walk
  exact hQ
theorem x_check_type (x : XCls h C bm) {M : Model} {Q : Unit → Shared → Prop} (hq : Q () ⟨h, g, d, t, os⟩) : wpAny M A (checkBuiltinCall "type.__call__" ⟨.ref C :: args, []⟩) Q E ⟨h, g, d, t, os⟩ := by
  obtain ⟨a1, a2, a3, a4, a6, a7, a8, a9, b1, b2, b3, b4, b5, b6, oC⟩ := x.obj
  exact wpAny_check_type_call_sub oC hq
/-- C(args): the new thing stands behind its tuple; then its __init__ -/
theorem x_call {Q : Value → Shared → Prop} (X : K.In h) (x : XCls h C bm) (hi : PySem.W.findIn K (.ref C) "__init__" = some (some (.ref fI))) (hf : PySem.W.typeIn K (.ref fI) = some (.type "function"))
    (hq : wpAny (model prog w) (A.under (.builtin "type.__call__" ⟨.ref C :: args, []⟩)) (call (.ref fI) (.ref (h.objs.size + 1) :: args)) (fun r s' => r = .none ∧ Q (.ref (h.objs.size + 1)) s') E ⟨(h.push (xTup args)).push (xObj C h.objs.size), g, d, t, os⟩) (hz : args.length ≤ sizeLine) :
    wpAny (model prog w) A (call (.ref C) args) Q E ⟨h, g, d, t, os⟩ := by
  obtain ⟨a1, a2, a3, a4, a6, a7, a8, a9, b1, b2, b3, b4, b5, b6, oC⟩ := x.obj
  have z1 := tc_lookup
  have z2 := tc_bind (.ref C)
  have z3 : (⟨h, g, d, t, os⟩ : Shared).TypeIs (.ref C) "type" := ⟨_, oC, rfl⟩
  refine wpAny_call (codeAny_of_tree ?_)
  show wpAny _ _ (callAny (.ref C) _) _ _ _
  repeat (any_goals (first | assumption | with_reducible refine wpAny_loadPart_at oC ?_ | wp_step))
  refine ⟨rfl, ?_⟩
  refine codeAny_call_builtin_at (Code.quiet_builtin _ (by decide +kernel)) entry_typeCall (x_check_type x (x_type_call X x hi hf hq hz))
/-- ValueError.__init__(e, v) -/
theorem x_vinit {e t0 : Addr} {v : Value} {Q : Value → Shared → Prop} (x : XCls h C bm) (he : h.get? e = some (xObj C t0))
    (hq : ∀ h', (∀ b o, b ≠ e → h.get? b = some o → h'.get? b = some o) → (∃ t1, h'.get? e = some (xObj C t1)) → Q .none ⟨h', g, d, t, os⟩) :
    wpAny (model prog w) A (call (.builtin vInit) [.ref e, v]) Q E ⟨h, g, d, t, os⟩ := by
  have G := F.excBase_ValueError
  refine wpAny_call (codeAny_call_builtin G.init.plain G.initEntry (x_check_init x he rfl ?_))
  have sz : [v].length ≤ sizeLine := by show 1 ≤ sizeLine; decide
  wp_walk
  refine hq _ (fun b o n hb => ?_) ⟨h.objs.size, ?_⟩
  · rw [Heap.get?_update_other _ _ (Ne.symm n)]
    exact Heap.get?_push_of_some _ hb
  · rw [Heap.get?_update_self _ (Heap.get?_push_of_some _ he) rfl]
    rfl
theorem refuse_line (self : Value) : ∀ l : List Addr, PySem.refuseLoop self "__setattr__" (l.map Value.ref ++ vMro) = pure ()
  | [] => F.store_ValueError.passes self
  | a :: l => by
    show PySem.refuseLoop self "__setattr__" (.ref a :: (l.map Value.ref ++ vMro)) = pure ()
    rw [PySem.refuseLoop_ref, refuse_line self l]
theorem x_sub_object (x : XCls h C bm) : (Value.ref C :: bm).contains (.type "object") = true := by
  obtain ⟨l, rfl⟩ := x.ln
  simp
end
section
variable {prog : Program} {w : World} {A : Around} {E : Value → Shared → Prop} {h : Heap} {g : Array GenState} {d : Drawn} {t : Nat} {os : OsState} {C e : Addr} {bm : List Value} {K : PySem.W.Frag} {name : Str} {v : Value} {vs : Array Value} {sl : Array (Option Value)} {mA : Str → Option Value}
/-- what stands in the thing's own dict -/
def XDict (h : Heap) (e : Addr) (od : Option Addr) (mA : Str → Option Value) : Prop := (od = none ∧ ∀ y, mA y = none) ∨ ∃ dx, od = some dx ∧ dx ≠ e ∧ h.Ns1 dx mA
theorem x_store {od : Option Addr} {tk : Tok} {ns : List Str} {Q : Fin → Shared → Prop} (X : K.In h) (x : XCls h C bm) (hna : PySem.W.findIn K (.ref C) name = some none) (he : h.get? e = some ⟨.ref C, od, .fields vs, sl⟩) (hD : XDict h e od mA)
    (hw : Within mA ns) (hsz : ns.length ≤ 1000)
    (hq : ∀ h' tk' dx, h'.get? e = some ⟨.ref C, some dx, .fields vs, sl⟩ → dx ≠ e → h'.Ns1 dx (fun y => if y = name then some v else mA y) → (od = some dx ∨ h.objs.size ≤ dx) → (∀ b o, b ≠ e → b ≠ dx → h.get? b = some o → h'.get? b = some o) → Q (.done (.ret .none)) ⟨h', g, d, tk', os⟩) :
    wpAny (model prog w) A (Builtin.«object.__setattr__» ⟨[.ref e, .str name tk, v], []⟩) Q E ⟨h, g, d, t, os⟩ := by
  obtain ⟨a1, a2, a3, a4, a6, a7, a8, a9, b1, b2, b3, b4, b5, b6, oC⟩ := x.obj
  obtain ⟨l, rfl⟩ := x.ln
  have pas : PySem.refuseLoop (.ref e) "__setattr__" (.ref C :: (l.map Value.ref ++ vMro)) = pure () := by rw [PySem.refuseLoop_ref]; exact refuse_line _ l
  have ty : (⟨h, g, d, t, os⟩ : Shared).heap.get? e = some ⟨.ref C, od, .fields vs, sl⟩ := he
  unfold Builtin.«object.__setattr__»
  repeat (first | rw [PySem.refuse_eq] | rw [pas] | with_reducible refine wpAny_loadPart_at he ?_ | with_reducible refine wpAny_mroOf_exc oC ?_ | with_reducible refine (PySem.W.looks_findIn X hna).here ?_ | wp_step)
  rcases hD with ⟨rfl, hm⟩ | ⟨dx, rfl, ne, hns⟩
  · have ex1 : (h.push { cls := .type "dict", data := .dict #[] }).get? e = some ⟨.ref C, none, .fields vs, sl⟩ := Heap.get?_push_of_some _ he
    have nes : e ≠ h.objs.size := Nat.ne_of_lt (Heap.lt_size he)
    dsimp only
    rw [if_neg (show ¬ ((!true || !typeHasDict (Value.ref C)) = true) by simp [typeHasDict])]
    refine wpAny_bind (wpAny_alloc' (wpAny_bind (wpAny_update' ex1 ?_)))
    refine wpAny_pure ?_
    have dget : ((h.push { cls := .type "dict", data := .dict #[] }).update e fun o => { cls := o.cls, dict := some h.objs.size, data := o.data, slots := o.slots }).get? h.objs.size = some { cls := .type "dict", data := .dict #[] } :=
      (Heap.get?_update_ne _ _ _ _ nes.symm).trans (Heap.get?_push_at rfl rfl)
    have eget : ((h.push { cls := .type "dict", data := .dict #[] }).update e fun o => { cls := o.cls, dict := some h.objs.size, data := o.data, slots := o.slots }).get? e = some ⟨.ref C, some h.objs.size, .fields vs, sl⟩ :=
      Heap.get?_update_self _ ex1 rfl
    show wpAny _ _ (Builtin.ObjectAttr.storeInDict h.objs.size (.str name tk) name v) _ _ _
    unfold Builtin.ObjectAttr.storeInDict Builtin.ObjectAttr.newKeyGuard
    refine wpAny_bind (wpAny_pure (wpAny_bind (wpAny_nsSet1 (Heap.Ns1.of_empty ⟨_, #[], _, dget, rfl, fun z hz => absurd hz (by simp), fun _ => rfl⟩) fun h2 ns2 sm => ?_)))
    obtain ⟨o1, es1, ep1, g1, g2, g3⟩ := ns2.count (Within.cons name v Within.nil)
    refine wpAny_bind (wpAny_lookBehind g1 (by rw [g2]; exact pastItsLine_dict (Nat.le_trans g3 (by rw [List.length_cons, List.length_nil, sizeLine_eq]; omega))) ?_)
    wp_walk
    refine hq h2 _ h.objs.size ((sm.2 e nes).trans eget) nes.symm ?_ (.inr (Nat.le_refl _)) fun b o n1 n2 hb => ?_
    · obtain ⟨o2, es, ep, e1, e2, e3, eu, e4⟩ := ns2
      exact ⟨o2, es, ep, e1, e2, e3, eu, fun y => by rw [e4 y]; by_cases hy : y = name <;> simp [hy, hm]⟩
    · exact (sm.2 b n2).trans ((Heap.get?_update_ne _ _ _ _ n1).trans (Heap.get?_push_of_some _ hb))
  · refine wpAny_pure ?_
    show wpAny _ _ (Builtin.ObjectAttr.storeInDict dx (.str name tk) name v) _ _ _
    unfold Builtin.ObjectAttr.storeInDict Builtin.ObjectAttr.newKeyGuard
    refine wpAny_bind (wpAny_pure (wpAny_bind (wpAny_nsSet1 hns fun h2 ns2 sm => ?_)))
    obtain ⟨o1, es1, ep1, g1, g2, g3⟩ := ns2.count (Within.cons name v hw)
    refine wpAny_bind (wpAny_lookBehind g1 (by rw [g2]; exact pastItsLine_dict (Nat.le_trans g3 (by rw [List.length_cons, sizeLine_eq]; omega))) ?_)
    wp_walk
    exact hq h2 _ dx ((sm.2 e ne.symm).trans he) ne ns2 (.inl rfl) fun b o n1 n2 hb => (sm.2 b n2).trans hb
/-- e.name = v -/
theorem x_setattr {od : Option Addr} {ns : List Str} {Q : Unit → Shared → Prop} (X : K.In h) (x : XCls h C bm) (hs : PySem.W.findIn K (.ref C) "__setattr__" = some (some (.builtin "object.__setattr__"))) (hna : PySem.W.findIn K (.ref C) name = some none)
    (he : h.get? e = some ⟨.ref C, od, .fields vs, sl⟩) (hD : XDict h e od mA) (hw : Within mA ns) (hsz : ns.length ≤ 1000)
    (hq : ∀ h' tk' dx, h'.get? e = some ⟨.ref C, some dx, .fields vs, sl⟩ → dx ≠ e → h'.Ns1 dx (fun y => if y = name then some v else mA y) → (od = some dx ∨ h.objs.size ≤ dx) → (∀ b o, b ≠ e → b ≠ dx → h.get? b = some o → h'.get? b = some o) → Q () ⟨h', g, d, tk', os⟩) :
    wpAny (model prog w) A (setAttr (.ref e) name v) Q E ⟨h, g, d, t, os⟩ := by
  have SF := F.store_object
  obtain ⟨a1, a2, a3, a4, a6, a7, a8, a9, b1, b2, b3, b4, b5, b6, oC⟩ := x.obj
  obtain ⟨odd, I⟩ : ∃ odd : Option Obj, PySem.W.InstAt h e ⟨.ref C, od, .fields vs, sl⟩ C odd := by
    rcases hD with ⟨rfl, _⟩ | ⟨dx, rfl, _, o, es, ep, ho, _⟩
    · exact ⟨none, he, rfl, rfl, trivial⟩
    · exact ⟨some o, he, rfl, rfl, ho⟩
  refine PySem.W.set_plain (s := ⟨h, g, d, t, os⟩) X I hs ?_
  have sub : PySem.W.Looks (model prog w) h (isInstance (.ref e) (.type "object")) true := by
    refine I.type.andThen ?_
    intro A' Q' E' s' k hq'
    obtain ⟨h1, g1, d1, t1, os1⟩ := s'
    refine wpAny_isSubtype_exc (k _ _ oC) ?_
    rw [x_sub_object x]
    exact hq'
  refine codeAny_call_builtin SF.slot.plain SF.entry ?_
  refine (@PySem.W.check_slot (model prog w) _ _ ⟨h, g, d, t + 1, os⟩ "object.__setattr__" "object" "__setattr__" (.ref e) [.str name t, v] [] _ SF.kind SF.split sub (SF.args (.ref e) (.str name t) v) ?_)
  exact x_store X x hna he hD hw hsz fun h' tk' dx q1 q2 q3 q4 q5 => hq h' tk' dx q1 q2 q3 q4 q5
end
end L2

set_option Elab.async false
set_option linter.all false
set_option maxRecDepth 100000
set_option maxHeartbeats 4000000
namespace L2
open PySem PySem.Spec PyProof.Rows
section
variable {prog : Program} {w : World} {A : Around} {E : Value → Shared → Prop} {h : Heap} {g : Array GenState} {d : Drawn} {t : Nat} {os : OsState} {C e dx : Addr} {bm : List Value} {K : PySem.W.Frag} {name : Str} {v : Value} {vs : Array Value} {sl : Array (Option Value)} {mA : Str → Option Value}
abbrev bGa : String := "BaseException.__getattribute__"
theorem bga_kind : builtinKind bGa = some .slot := by decide +kernel
theorem bga_split : splitId bGa = some ("BaseException", "__getattribute__") := by decide +kernel
theorem bga_args (a b : Value) : argsOk bGa ⟨[a, b], []⟩ := by unfold argsOk; kernel_rfl
theorem x_sub_base (x : XCls h C bm) : (Value.ref C :: bm).contains (.type "BaseException") = true := by rw [List.contains_cons, x.cB, Bool.or_true]
theorem x_get_entry {tk : Tok} {Q : Fin → Shared → Prop} (X : K.In h) (x : XCls h C bm) (hna : PySem.W.findIn K (.ref C) name = some none) (he : h.get? e = some ⟨.ref C, some dx, .fields vs, sl⟩) (hn : h.Ns dx mA) (hv : mA name = some v)
    (hq : Q (.done (.ret v)) ⟨h, g, d, t, os⟩) : wpAny (model prog w) A (Builtin.«object.__getattribute__» ⟨[.ref e, .str name tk], []⟩) Q E ⟨h, g, d, t, os⟩ := by
  obtain ⟨a1, a2, a3, a4, a6, a7, a8, a9, b1, b2, b3, b4, b5, b6, oC⟩ := x.obj
  repeat (any_goals (first | assumption | with_reducible refine wpAny_loadPart_at he ?_ | with_reducible refine (PySem.W.looks_findIn X hna).here ?_ | (with_reducible refine wpAny_nsGet hn ?_; rw [hv]) | wp_step))
theorem x_get_call {tk : Tok} {R : Result → Shared → Prop} (X : K.In h) (x : XCls h C bm) (hna : PySem.W.findIn K (.ref C) name = some none) (he : h.get? e = some ⟨.ref C, some dx, .fields vs, sl⟩) (hn : h.Ns dx mA) (hv : mA name = some v)
    (hq : R (.ok (.ret v)) ⟨h, g, d, t, os⟩) : codeAny (model prog w) A (.call (.builtin bGa) ⟨[.ref e, .str name tk], []⟩) R ⟨h, g, d, t, os⟩ := by
  obtain ⟨a1, a2, a3, a4, a6, a7, a8, a9, b1, b2, b3, b4, b5, b6, oC⟩ := x.obj
  obtain ⟨oD, esD, epD, hoD, hdD⟩ := hn
  have I : PySem.W.InstAt h e ⟨.ref C, some dx, .fields vs, sl⟩ C (some oD) := ⟨he, rfl, rfl, hoD⟩
  have sub : PySem.W.Looks (model prog w) h (isInstance (.ref e) (.type "BaseException")) true := by
    refine I.type.andThen ?_
    intro A' Q' E' s' k hq'
    obtain ⟨h1, g1, d1, t1, os1⟩ := s'
    refine wpAny_isSubtype_exc (k _ _ oC) ?_
    rw [x_sub_base x]
    exact hq'
  refine codeAny_call_builtin F.excAttr_ValueError.ga.plain F.entry_bexc_ga ?_
  refine (@PySem.W.check_slot (model prog w) _ _ ⟨h, g, d, t, os⟩ bGa "BaseException" "__getattribute__" (.ref e) [.str name tk] [] _ bga_kind bga_split sub (bga_args (.ref e) (.str name tk)) ?_)
  exact x_get_entry X x hna he ⟨oD, esD, epD, hoD, hdD⟩ hv hq
theorem x_getattr {expr : Bool} {Q : Value → Shared → Prop} (X : K.In h) (x : XCls h C bm) (hga : PySem.W.findIn K (.ref C) "__getattribute__" = some (some (.builtin bGa))) (hgt : PySem.W.findIn K (.ref C) "__getattr__" = some none)
    (hna : PySem.W.findIn K (.ref C) name = some none) (he : h.get? e = some ⟨.ref C, some dx, .fields vs, sl⟩) (hn : h.Ns dx mA) (hv : mA name = some v) (hh : PySem.W.handedIn v = true)
    (hq : ∀ tk, Q v ⟨h, g, d, tk, os⟩) : wpAny (model prog w) A (getAttr (.ref e) name expr) Q E ⟨h, g, d, t, os⟩ := by
  have f3 := F.excAttr_ValueError.ga.bind (.ref e)
  have z0 : (expr && onTheHeap (Value.builtin bGa)) = false := by cases expr <;> rfl
  have z2 : (Value.builtin bGa == Value.builtin "object.__getattribute__") = false := by decide +kernel
  have z1 : (onTheHeap (Value.ref C) && Value.builtin bGa == Value.builtin "object.__getattribute__") = false := by rw [z2]; rfl
  unfold getAttr getAttrBy
  repeat (any_goals (first | assumption | with_reducible refine wpAny_loadPart_at he ?_ | with_reducible refine (PySem.W.looks_findIn X hga).here ?_ | with_reducible refine (PySem.W.looks_findIn X hgt).here ?_ | wp_step))
  refine x_get_call X x hna he hn hv ?_
  show wpAny _ _ (handedOut v) _ _ _
  rw [PySem.W.handedOut_of hh]
  exact wpAny_pure (hq _)
end
end L2

set_option Elab.async false
set_option linter.all false
set_option maxRecDepth 100000
set_option maxHeartbeats 4000000
namespace L2
open PySem PySem.Spec PyProof.Rows
/-- the thing at e flies: T its newest traceback -/
def FlT (h : Heap) (e T : Addr) : Prop := ∃ oe vs oT ts, h.get? e = some oe ∧ oe.data = .fields vs ∧ vs[1]? = some (.ref T) ∧ T ≠ e ∧ h.get? T = some oT ∧ oT.data = .fields ts ∧ ts[3]? = some .none
section
variable {M : Model} {A : Around} {E : Value → Shared → Prop} {s : Shared} {base : Heap} {env : Env} {outer : List Env} {L e : Addr} {oe : Obj} {vs : Array Value} {Q : Unit → Shared → Prop}
end
end L2

set_option Elab.async false
set_option linter.all false
set_option maxRecDepth 100000
set_option maxHeartbeats 4000000
namespace L2
open PySem PySem.Spec PyProof.Rows

/-- being made: no field yet -/
def ExN (e C : Addr) : HO := .ext fun h => ∃ t0, h.get? e = some (xObj C t0)
/-- made, not yet raised -/
def ExF (e C dx : Addr) : HO := .ext fun h => ∃ vs sl, h.get? e = some ⟨.ref C, some dx, .fields vs, sl⟩ ∧ vs[1]? = some .none
/-- raised or not -/
def ExO (e C dx : Addr) : HO := .ext fun h => ∃ vs sl, h.get? e = some ⟨.ref C, some dx, .fields vs, sl⟩
section
variable {P : Program} {w : World} {H : Hp} {h : Heap} {e C dx : Addr}
theorem ExN.ok {t0 : Addr} (he : h.get? e = some (xObj C t0)) : ObjOk P w H h e (ExN e C) := ⟨⟨t0, he⟩, ⟨_, he⟩, fun _ _ ⟨t, q⟩ k => ⟨t, k _ q⟩⟩
theorem ExF.ok {vs : Array Value} {sl : Array (Option Value)} (he : h.get? e = some ⟨.ref C, some dx, .fields vs, sl⟩) (h1 : vs[1]? = some .none) : ObjOk P w H h e (ExF e C dx) := ⟨⟨vs, sl, he, h1⟩, ⟨_, he⟩, fun _ _ ⟨v, s, q, z⟩ k => ⟨v, s, k _ q, z⟩⟩
theorem ExO.ok {vs : Array Value} {sl : Array (Option Value)} (he : h.get? e = some ⟨.ref C, some dx, .fields vs, sl⟩) : ObjOk P w H h e (ExO e C dx) := ⟨⟨vs, sl, he⟩, ⟨_, he⟩, fun _ _ ⟨v, s, q⟩ k => ⟨v, s, k _ q⟩⟩
theorem ExN.at_ (ok : HOk P w H h) (q : H e = some (ExN e C)) : ∃ t0, h.get? e = some (xObj C t0) := (ok e _ q).1
theorem ExF.at_ (ok : HOk P w H h) (q : H e = some (ExF e C dx)) : ∃ vs sl, h.get? e = some ⟨.ref C, some dx, .fields vs, sl⟩ ∧ vs[1]? = some .none := (ok e _ q).1
theorem ExO.at_ (ok : HOk P w H h) (q : H e = some (ExO e C dx)) : ∃ vs sl, h.get? e = some ⟨.ref C, some dx, .fields vs, sl⟩ := (ok e _ q).1
end
theorem Inv.chg {X : Cx} {pins : List (Addr × Obj)} {σ : St} {H H' : Hp} {s : Shared} {h' : Heap} {t' : Nat} (I : Inv X pins σ H s) (S : Addr → Prop) (k : ∀ b o, ¬ S b → s.heap.get? b = some o → h'.get? b = some o)
    (hS : ∀ b, S b → Mut (H b) ∨ s.heap.objs.size ≤ b) (hH : ∀ b, ¬ S b → H' b = H b) (th : ∀ b o, S b → s.heap.get? b = some o → ∃ o', h'.get? b = some o') (new : ∀ b o, S b → H' b = some o → ObjOk X.prog X.w H' h' b o) :
    Inv X pins σ H' { s with heap := h', toks := t' } := by
  have out : ∀ b o, s.heap.get? b = some o → H b = none → ¬ S b := fun b o e n z => by
    rcases hS b z with q | q
    · rw [n] at q; exact q
    · exact absurd (Nat.lt_of_lt_of_le (Heap.lt_size e) q) (Nat.lt_irrefl _)
  have im : ∀ b o, H b = some o → ¬ Mut (some o) → ¬ S b := fun b o e n z => by
    rcases hS b z with q | q
    · rw [e] at q; exact n q
    · rw [I.hok.fresh q] at e; cases e
  refine I.un ⟨fun b o e n _ _ => k b o (out b o e n) e, fun b o e n _ _ => ⟨o.slots, k b o (out b o e n) e⟩, fun b o e n _ => by rw [hH b (out b o e n)]; exact n, fun b o e _ => ?_, fun b xs e => ?_, fun b o u e => ?_, fun b q e => ⟨#[], ?_⟩⟩ fun b o e => ?_
  · by_cases z : S b
    · exact th b o z e
    · exact ⟨o, k b o z e⟩
  · rw [hH b (im b _ e fun z => z)]; exact e
  · rw [hH b (im b _ e fun z => z)]; exact e
  · rw [hH b (im b _ e fun z => z), Array.append_empty]; exact e
  · by_cases z : S b
    · exact new b o z e
    · rw [hH b z] at e
      refine (I.hok b o e).stay (fun c u hc q => k c u (fun zc => ?_) q) (fun c q => by rw [hH c (im c _ q fun z => z)]; exact q) fun c xs q => by rw [hH c (im c _ q fun z => z)]; exact q
      rcases hc with rfl | hc
      · exact z zc
      · exact im c _ hc (fun z => z) zc
/-- what the top has laid of an exception's class -/
structure XSt (K : PySem.W.Frag) (C : Addr) : Prop where
  cls : ∃ bm, ∀ h : Heap, K.In h → XCls h C bm
  sa : PySem.W.findIn K (.ref C) "__setattr__" = some (some (.builtin "object.__setattr__"))
  ga : PySem.W.findIn K (.ref C) "__getattribute__" = some (some (.builtin bGa))
  gt : PySem.W.findIn K (.ref C) "__getattr__" = some none
def tXMake (C : Addr) (sp : Sp) (dvs : List V) (E : XK) (t : TA) : TE := fun σ H Q => t σ H fun vs H1 => vs.length ≤ 100 ∧ ∀ e, H1 e = none → sp (.ref e :: (vs ++ dvs)) (upd H1 e (ExN e C)) (fun v H2 => v = .non ∧ Q (.ref e) H2) E
def sFldX (K : PySem.W.Frag) (ta tv : TE) (f : Str) : TS := fun D σ H => tv σ H fun y H1 => ta σ H1 fun x H2 => ∃ e C, x = .ref e ∧ H2 e = some (ExN e C) ∧ XSt K C ∧ NoAttr K C f ∧ ∀ dx, H2 dx = none → dx ≠ e → D.nx σ (upd (upd H2 dx (.xd [(f, y)])) e (ExF e C dx))
def tVInit (K : PySem.W.Frag) (ta : TA) : TE := fun σ H Q => ta σ H fun vs H1 => ∃ e C v, vs = [.ref e, v] ∧ H1 e = some (ExN e C) ∧ XSt K C ∧ Q .non H1
def tFldX (K : PySem.W.Frag) (ta : TE) (f : Str) : TE := fun σ H Q => ta σ H fun x H1 => ∃ e C dx fs v, x = .ref e ∧ (H1 e = some (ExO e C dx) ∨ H1 e = some (ExF e C dx)) ∧ H1 dx = some (.xd fs) ∧ XSt K C ∧ NoAttr K C f ∧ fs.lookup f = some v ∧ Q v H1
section
variable {X : Cx} {CX : CXT} {k : Nat} {f C : Addr} {fd : FuncData} {ps : List Str} {sp : Sp} {dvs : List V} {ds : List Value} {E : XK} {x m nm : Str} {p pos apos pos' : Pos} {e o value : Expr} {es : List Expr} {ta tv : TE} {t : TA}
/-- Base.m(e, ..), m a def of an own class -/
theorem pe_clsfn {pl : Sem Bool} {mc : Value} (hg : Gl X x) (hm : X.mg x = some (.ref C)) (hsp : PySem.W.specialIn X.K (.ref C) "__getattribute__" = some (some (.builtin "type.__getattribute__"))) (hrd : PySem.W.readsIn X.K C mc = true)
    (hf : PySem.W.findCls X.K (.ref C) mc m = some (.val (.ref f))) (hk : PySem.W.keepIn X.K (.ref f) = true) (F : FnOk X.prog X.w X.K X.mg X.base CX k f fd ps sp) (hr : Room k X.A) (hb : Binds X.K fd ps ds) (hd : Vals dvs ds) (hx : Passes CX X E) (ha : PA X (e :: es) t)
    (hdb : (x == ("__debug__" : Str)) = false := by decide) (hst : starEach (e :: es) X.env = (false, eval e X.env) :: starEach es X.env := by rfl) (hpl : (backTo pos (starEach es X.env)).any (·.1) = false := by rfl)
    (ht : eval (.Call (.Attribute (.Name x p) m apos) (e :: es) [] pos) X.env = (do
      let ov ← eval (.Name x p) X.env
      standAt apos.atName
      let (f, first) ← holding [ov] (getMethod ov m pl)
      callWith pos f first (backTo pos (starEach (e :: es) X.env)) (backToKw pos (keywordEach [] X.env))) := by rfl) :
    PE X (.Call (.Attribute (.Name x p) m apos) (e :: es) [] pos) (tCall sp dvs E t) := by
  intro pins s σ H Q I h
  refine PySem.W.methodCall_KW (pl := pl) (ld_glob I hg hm ?_ hdb) ht
  refine PySem.W.method_cls I.kIn hsp (PySem.W.cls_value I.kIn hrd hf (handed_of (v := .ref f) rfl) ?_)
  have I1 := I.tok (s.toks + 1)
  refine PySem.W.callWith_K (first := []) (h₀ := X.base) I.ok.mod.kin hk (thn (ha pos pins _ σ H _ I1 h) fun us s2 ⟨vs, H2, I2, r, q2⟩ => ⟨I2.kIn, ?_⟩) hst hpl
  exact run_fn (us := us) (vs := vs) F hr hb hd hx I2 r q2
/-- ValueError.__init__(self, v) -/
theorem pe_vinit {pl : Sem Bool} (hg : Gl X "ValueError") (hm : X.mg "ValueError" = none) (hv : bootBuiltins "ValueError" = some (.type "ValueError")) (hf : PySem.W.findCls X.K (.type "ValueError") (.type "type") "__init__" = some (.val (.builtin vInit))) (ha : PA X (e :: es) t)
    (hst : starEach (e :: es) X.env = (false, eval e X.env) :: starEach es X.env := by rfl) (hpl : (backTo pos (starEach es X.env)).any (·.1) = false := by rfl)
    (ht : eval (.Call (.Attribute (.Name "ValueError" p) "__init__" apos) (e :: es) [] pos) X.env = (do
      let ov ← eval (.Name "ValueError" p) X.env
      standAt apos.atName
      let (f, first) ← holding [ov] (getMethod ov "__init__" pl)
      callWith pos f first (backTo pos (starEach (e :: es) X.env)) (backToKw pos (keywordEach [] X.env))) := by rfl) :
    PE X (.Call (.Attribute (.Name "ValueError" p) "__init__" apos) (e :: es) [] pos) (tVInit X.K t) := by
  intro pins s σ H Q I h
  refine PySem.W.methodCall_KW (pl := pl) (ld_blt I hg hm hv ?_) ht
  obtain ⟨mm, fr⟩ := I.fr
  refine PySem.W.method_type fr I.ok.mod.kin (by kernel_rfl) (by decide +kernel) hf (by rfl) ?_
  have I1 := I.tok (s.toks + 1)
  refine PyProof.Rows.callWith_builtin1 (thn (ha pos pins _ σ H _ I1 h) fun us s2 ⟨vs, H2, I2, r, e', C', v, ev, hN, S, q⟩ => ?_) hst hpl
  subst ev
  obtain ⟨u1, u2, rfl, r1, r2⟩ := vals2 r
  obtain rfl : u1 = Value.ref e' := r1
  obtain ⟨t0, he⟩ := ExN.at_ I2.hok hN
  obtain ⟨bm, hc⟩ := S.cls
  obtain ⟨hp, g, d, tk, os⟩ := s2
  refine x_vinit (hc _ I2.kIn) he fun h' kp ⟨t1, he'⟩ => ?_
  have I3 : Inv X pins σ (upd H2 e' (ExN e' C')) { (⟨hp, g, d, tk, os⟩ : Shared) with heap := h', toks := tk } :=
    I2.write (x := e') (e := e') (o := ExN e' C') (t' := tk) (by rw [hN]; exact True.intro) (.inl rfl) (fun b u n q => kp b u n q) ⟨_, he'⟩ (ExN.ok he')
  have eq : upd H2 e' (ExN e' C') = H2 := by
    funext b
    by_cases z : b = e'
    · subst z; rw [upd_same, hN]
    · rw [upd_ne z]
  rw [eq] at I3
  exact ⟨.non, H2, I3, rfl, q⟩
/-- C(e, ..), C an own exception with an __init__ -/
theorem pe_xmake (S : XSt X.K C) (hi : PySem.W.findIn X.K (.ref C) "__init__" = some (some (.ref f))) (hfn : PySem.W.typeIn X.K (.ref f) = some (.type "function")) (hkc : PySem.W.keepIn X.K (.ref C) = true)
    (F : FnOk X.prog X.w X.K X.mg X.base CX k f fd ps sp) (hr : Room (k + 1) X.A) (hg : Gl X x) (hm : X.mg x = some (.ref C)) (hb : Binds X.K fd ps ds) (hd : Vals dvs ds) (hx : Passes CX X E)
    (ha : PA X (e :: es) t) (hdb : (x == ("__debug__" : Str)) = false := by decide) (he : starEach (e :: es) X.env = (false, eval e X.env) :: starEach es X.env := by rfl) (hpl : (backTo pos (starEach es X.env)).any (·.1) = false := by rfl) :
    PE X (.Call (.Name x p) (e :: es) [] pos) (tXMake C sp dvs E t) := by
  intro pins s σ H Q I h
  refine wpAny_Call_Name_kw (ld_glob I hg hm ?_ hdb)
  refine PySem.W.callWith_K (h₀ := X.base) I.ok.mod.kin hkc (thn (ha pos pins s σ H _ I h) fun us s1 ⟨vs, H1, I1, r, hz, q⟩ => ⟨I1.kIn, ?_⟩) he hpl
  obtain ⟨bm, hc⟩ := S.cls
  obtain ⟨hp, g, d, tk, os⟩ := s1
  have hq := q (hp.objs.size + 1) (I1.hok.fresh (Nat.le_succ _))
  have eget : ((hp.push (xTup us)).push (xObj C hp.objs.size)).get? (hp.objs.size + 1) = some (xObj C hp.objs.size) := by heap_get
  have I2 : Inv X pins σ (upd H1 (hp.objs.size + 1) (ExN (hp.objs.size + 1) C)) { (⟨hp, g, d, tk, os⟩ : Shared) with heap := (hp.push (xTup us)).push (xObj C hp.objs.size), toks := tk } :=
    I1.laid (a := hp.objs.size + 1) (o := ExN (hp.objs.size + 1) C) (t' := tk) (fun b u z => Heap.get?_push_of_some _ (Heap.get?_push_of_some _ z)) (Nat.le_succ _) (ExN.ok eget)
  have r2 : Vals (V.ref (hp.objs.size + 1) :: (vs ++ dvs)) (Value.ref (hp.objs.size + 1) :: (us ++ ds)) := .cons rfl (r.append hd)
  have hl : (Value.ref (hp.objs.size + 1) :: us ++ ds).length = ps.length := by
    have z := r2.length
    rw [F.len _ _ _ _ hq] at z
    exact z.symm
  refine x_call I1.kIn (hc _ I1.kIn) hi hfn (wpAny_call (codeAny_mono (F.run _ X.stack _ _ ⟨Value.ref (hp.objs.size + 1) :: us, []⟩ (Value.ref (hp.objs.size + 1) :: (us ++ ds)) _ _ E (hr.make C us [])
    (I2.env0.make C us []) (hb _ (Value.ref (hp.objs.size + 1) :: us) I2.kIn hl) r2 hq) fun r s' hq' => ?_)) (by show us.length ≤ sizeLine; rw [← r.length]; exact Nat.le_trans hz (by decide))
  cases r with
  | error z => exact hx pins σ _ _ z s' I2 hq'
  | ok fl =>
    cases fl with
    | ret u =>
      obtain ⟨v, H', I3, rv, ev, q3⟩ := I2.after hq'
      subst ev
      exact ⟨rv, ⟨V.ref (hp.objs.size + 1), H', I3, rfl, q3⟩⟩
    | next => exact False.elim hq'
    | brk => exact False.elim hq'
    | cont => exact False.elim hq'
end
end L2

set_option Elab.async false
set_option linter.all false
set_option maxRecDepth 100000
set_option maxHeartbeats 4000000
namespace L2
open PySem PySem.Spec PyProof.Rows
/-- the thing at e is fresh, or flies with T as its newest traceback, which is a record of ours -/
def Way (X : Cx) (pins : List (Addr × Obj)) (H : Hp) (h : Heap) (e : Addr) (vs : Array Value) : Prop :=
  vs[1]? = some .none ∨ ∃ T oT ts, vs[1]? = some (.ref T) ∧ T ≠ e ∧ h.get? T = some oT ∧ oT.data = .fields ts ∧ ts[3]? = some .none ∧ H T = none ∧ X.s_0.heap.objs.size ≤ T ∧ T ≠ X.env.locals ∧ (∀ x c, X.env.cells.lookup x = some c → c ≠ T) ∧ ∀ p ∈ X.pn ++ pins, p.1 ≠ T
section
variable {X : Cx} {pins : List (Addr × Obj)} {σ : St} {H : Hp} {s : Shared} {e C dx : Addr} {vs : Array Value} {sl : Array (Option Value)} {E : Value → Shared → Prop}
/-- how an exception lies behind a call -/
def CX1 (P : Program) (w : World) : CXT := fun outer H s E ev s' => ∃ e C dx T H', ev = .ref e ∧ s'.os = s.os ∧ AllBare s'.gens ∧ Un (frs outer) [] H H' s.heap s'.heap ∧ HOk P w H' s'.heap ∧ H' e = some (ExO e C dx) ∧ s.heap.objs.size ≤ T ∧ H' T = none ∧ FlT s'.heap e T ∧ E (.ref C) (some e) H'
theorem FlT.way {H' : Hp} {s' : Shared} {T : Addr} (I : Inv X pins σ H s) (ok : HOk X.prog X.w H' s'.heap) (q : H' e = some (ExO e C dx)) (hT : s.heap.objs.size ≤ T) (nT : H' T = none) (f : FlT s'.heap e T) :
    ∃ vs sl, s'.heap.get? e = some ⟨.ref C, some dx, .fields vs, sl⟩ ∧ Way X pins H' s'.heap e vs := by
  obtain ⟨vs, sl, he⟩ := ExO.at_ ok q
  obtain ⟨oe, vs', oT, ts, he', hd, h1, nTe, hT', hdT, h3⟩ := f
  rw [he] at he'
  cases he'
  cases hd
  refine ⟨vs, sl, he, .inr ⟨T, oT, ts, h1, nTe, hT', hdT, h3, nT, Nat.le_trans I.sz hT, fun z => ?_, fun x c hc z => ?_, fun p hp z => ?_⟩⟩
  · subst z; exact absurd (Nat.lt_of_lt_of_le I.lt hT) (Nat.lt_irrefl _)
  · subst z
    obtain ⟨v, o, ho, _⟩ := I.cell x c hc
    exact absurd (Nat.lt_of_lt_of_le (Heap.lt_size ho) hT) (Nat.lt_irrefl _)
  · subst z
    exact absurd (Nat.lt_of_lt_of_le (Heap.lt_size (I.pin p hp).1) hT) (Nat.lt_irrefl _)
/-- behind a call that raised: the frame's own invariant -/
theorem Inv.raised {s' : Shared} {H' : Hp} (I : Inv X pins σ H s) (os : s'.os = s.os) (bare : AllBare s'.gens) (un : Un (frs X.stack) [] H H' s.heap s'.heap) (ok : HOk X.prog X.w H' s'.heap) : Inv X pins σ H' s' := by
  obtain ⟨hh, g, d, t, os'⟩ := s'
  obtain rfl : os' = s.os := os
  exact I.call (h' := hh) (g' := g) (d' := d) (t' := t) (ch := []) un ok bare (fun b z => absurd z (by simp))
end
end L2

set_option Elab.async false
set_option linter.all false
set_option maxRecDepth 100000
set_option maxHeartbeats 4000000
namespace L2
open PySem PySem.Spec PyProof.Rows
/-- a callee's exception reaches what this body wants, whatever the names hold -/
def PassesS (CX : CXT) (X : Cx) (EX : St → XK) : Prop := ∀ (pins : List (Addr × Obj)) (σ : St) (H : Hp) (s : Shared) (e : Value) (s' : Shared), Inv X pins σ H s → CX X.stack H s (EX σ) e s' → X.xe e s'
def RaiseS (X : Cx) (EX : St → XK) : Prop := ∀ (pins : List (Addr × Obj)) (σ : St) (H : Hp) (s : Shared) (e C dx : Addr), Inv X pins σ H s → H e = some (ExF e C dx) → EX σ (.ref C) (some e) (upd H e (ExO e C dx)) → X.xe (.ref e) s
section
variable {P : Program} {w : World} {K : PySem.W.Frag} {mg : Str → Option Value} {base : Heap} {N : List Str} {qual : Str} {scope : Scope} {f : Addr} {cd : Value} {A : Around} {outer : List Env} {s0 : Shared} {H0 : Hp} {E : XK}
abbrev cx1 (P : Program) (w : World) (K : PySem.W.Frag) (mg : Str → Option Value) (base : Heap) (N : List Str) (qual : Str) (scope : Scope) (f : Addr) (cd : Value) (A : Around) (outer : List Env) (s0 : Shared) (H0 : Hp) (E : XK) : Cx :=
  cxOf (CX1 P w) P w K mg base N qual scope f cd A outer s0 H0 E
end
def tCallX (sp : Sp) (dvs : List V) (EX : St → XK) (t : TA) : TE := fun σ H Q => t σ H fun vs H1 => sp (vs ++ dvs) H1 Q (EX σ)
def sRaise (K : PySem.W.Frag) (te : TE) (EX : St → XK) : TS := fun _ σ H => te σ H fun x H1 => ∃ e C dx, x = .ref e ∧ H1 e = some (ExF e C dx) ∧ XSt K C ∧ EX σ (.ref C) (some e) (upd H1 e (ExO e C dx))
section
variable {X : Cx} {CX : CXT} {k : Nat} {f C : Addr} {fd : FuncData} {ps : List Str} {sp : Sp} {dvs : List V} {ds : List Value} {EX : St → XK} {x : Str} {p pos : Pos} {e : Expr} {es : List Expr} {te : TE} {t : TA}
end
end L2

set_option Elab.async false
set_option linter.all false
set_option maxRecDepth 100000
set_option maxHeartbeats 4000000
namespace L2
open PySem PySem.Spec PyProof.Rows
section
variable {X : Cx} {pins : List (Addr × Obj)} {σ : St} {H : Hp} {s : Shared}
end
end L2

set_option Elab.async false
set_option linter.all false
set_option maxRecDepth 100000
set_option maxHeartbeats 4000000
namespace L2
open PySem PySem.Spec PyProof.Rows
/-- the context of an except suite; of a try's body -/
abbrev hcx (X : Cx) (e : Addr) : Cx := { X with A := X.A.mark (some (.ref e)), calm := false, xe := fun _ _ => False }
abbrev tcx (X : Cx) (EH : Value → Shared → Prop) (pn' : List (Addr × Obj)) : Cx := { X with xe := EH, pn := pn' }
def XSub (K : PySem.W.Frag) (C C' : Addr) (b : Bool) : Prop := ∃ bm, (∀ h : Heap, K.In h → XCls h C bm) ∧ (Value.ref C :: bm).contains (.ref C') = b
def Rec (X : Cx) (pins : List (Addr × Obj)) (H : Hp) (T : Addr) : Prop := H T = none ∧ X.s_0.heap.objs.size ≤ T ∧ T ≠ X.env.locals ∧ (∀ x c, X.env.cells.lookup x = some c → c ≠ T) ∧ ∀ p ∈ X.pn ++ pins, p.1 ≠ T
section
variable {X : Cx} {pins : List (Addr × Obj)} {σ : St} {H : Hp} {s : Shared} {e : Addr}
theorem Inv.hcx (I : Inv X pins σ H s) : Inv (hcx X e) pins σ H s :=
  ⟨⟨I.ok.mod, I.ok.kind, I.ok.glob, I.ok.blt, I.ok.above, I.ok.inj, I.ok.has, I.ok.cab, (fun z => nomatch z), I.ok.frames, I.ok.stk, I.ok.exf, I.ok.bs, I.ok.bsz, I.ok.noex, I.ok.exfs, I.ok.funs, I.ok.frf⟩, I.os, I.bare, I.base, I.loc, I.cell, I.free, I.freeC, I.pin, I.hok, I.len⟩
theorem Inv.tcx {EH : Value → Shared → Prop} (I : Inv X pins σ H s) : Inv (tcx X EH (X.pn ++ pins)) [] σ H s :=
  ⟨⟨I.ok.mod, I.ok.kind, I.ok.glob, I.ok.blt, I.ok.above, I.ok.inj, I.ok.has, I.ok.cab, I.ok.hd, I.ok.frames, I.ok.stk, I.ok.exf, I.ok.bs, I.ok.bsz, I.ok.noex, I.ok.exfs, I.ok.funs, I.ok.frf⟩, I.os, I.bare, I.base, I.loc, I.cell, I.free, I.freeC, fun p hp => I.pin p (by simpa using hp), I.hok, I.len⟩
theorem Rec.of {T : Addr} (I : Inv X pins σ H s) (hT : s.heap.objs.size ≤ T) : Rec X pins H T := by
  refine ⟨I.hok.fresh hT, Nat.le_trans I.sz hT, fun z => ?_, fun x c hc z => ?_, fun p hp z => ?_⟩
  · subst z; exact absurd (Nat.lt_of_lt_of_le I.lt hT) (Nat.lt_irrefl _)
  · subst z
    obtain ⟨v, o, ho, _⟩ := I.cell x c hc
    exact absurd (Nat.lt_of_lt_of_le (Heap.lt_size ho) hT) (Nat.lt_irrefl _)
  · subst z
    exact absurd (Nat.lt_of_lt_of_le (Heap.lt_size (I.pin p hp).1) hT) (Nat.lt_irrefl _)
end
section
variable {M : Model} {A : Around} {E : Value → Shared → Prop} {h : Heap} {g : Array GenState} {d : Drawn} {t : Nat} {os : OsState} {C C' e : Addr} {bm bm' : List Value} {oe : Obj}
end

def HB (X : Cx) (hs : List ExceptHandler) (th : Addr → Addr → TS) : Prop := ∀ (pins : List (Addr × Obj)) (s : Shared) (σ : St) (H : Hp) (D : Ends) (e C dx T : Addr), Inv X pins σ H s → H e = some (ExO e C dx) → FlT s.heap e T → Rec X pins H T → th C e D σ H →
  wpAny (model X.prog X.w) X.A (handleBy (.ref e) X.env hs) (SP X pins D) X.xe s
structure QHB (X : Cx) (hs : List ExceptHandler) (th : Addr → Addr → TS) : Prop where
  go : HB X hs th
def Ends.un (D : Ends) (i : Nat) : Ends := ⟨fun σ H => D.nx (σ.set i none) H, D.rt, fun σ H => D.bk (σ.set i none) H, fun σ H => D.ct (σ.set i none) H⟩
def tAs (K : PySem.W.Frag) (C' : Addr) (i : Nat) (ts : Addr → TS) (tr : Addr → Addr → TS) : Addr → Addr → TS := fun C e D σ H => ∃ b, XSub K C C' b ∧ if b = true then ts e (D.un i) (σ.set i (some (.ref e))) H else tr C e D σ H
def tEx (K : PySem.W.Frag) (C' : Addr) (ts : Addr → TS) (tr : Addr → Addr → TS) : Addr → Addr → TS := fun C e D σ H => ∃ b, XSub K C C' b ∧ if b = true then ts e D σ H else tr C e D σ H
section
variable {X : Cx} {x n : Str} {np pos : Pos} {b0 : Stmt} {suite body : List Stmt} {rest hs : List ExceptHandler} {h0 : ExceptHandler} {i : Nat} {C' : Addr} {ts : Addr → TS} {tr th : Addr → Addr → TS} {tb : (St → XK) → TS}
/-- what a try's body wants of an exception -/
def exTry (th : Addr → Addr → TS) (D : Ends) : St → XK := fun σ cls oe H => ∃ C e dx, cls = .ref C ∧ oe = some e ∧ H e = some (ExO e C dx) ∧ th C e D σ H
def tTry (tb : (St → XK) → TS) (th : Addr → Addr → TS) : TS := fun D σ H => tb (exTry th D) D σ H
end
end L2

set_option Elab.async false
set_option linter.all false
set_option maxRecDepth 100000
set_option maxHeartbeats 4000000
namespace L2
open PySem PySem.Spec PyProof.Rows
section
variable {X : Cx} {CX : CXT} {k i : Nat} {f C C' : Addr} {fd : FuncData} {ps : List Str} {sp : Sp} {dvs : List V} {ds : List Value} {E : XK} {EX : St → XK} {x m n : Str} {p pos apos pos' np : Pos} {e o value : Expr} {es : List Expr} {ta tv te : TE} {t : TA} {b0 : Stmt} {suite body : List Stmt} {rest hs : List ExceptHandler} {h0 : ExceptHandler} {ts : Addr → TS} {tr th : Addr → Addr → TS} {tb : (St → XK) → TS}
theorem qe_clsfn {pl : Sem Bool} {mc : Value} (hg : Gl X x) (hm : X.mg x = some (.ref C)) (hsp : PySem.W.specialIn X.K (.ref C) "__getattribute__" = some (some (.builtin "type.__getattribute__"))) (hrd : PySem.W.readsIn X.K C mc = true)
    (hf : PySem.W.findCls X.K (.ref C) mc m = some (.val (.ref f))) (hk : PySem.W.keepIn X.K (.ref f) = true) (F : FnOk X.prog X.w X.K X.mg X.base CX k f fd ps sp) (hr : Room k X.A) (hb : Binds X.K fd ps ds) (hd : Vals dvs ds) (hx : Passes CX X E) (ha : QA X (e :: es) t)
    (hdb : (x == ("__debug__" : Str)) = false := by decide) (hst : starEach (e :: es) X.env = (false, eval e X.env) :: starEach es X.env := by rfl) (hpl : (backTo pos (starEach es X.env)).any (·.1) = false := by rfl)
    (ht : eval (.Call (.Attribute (.Name x p) m apos) (e :: es) [] pos) X.env = (do
      let ov ← eval (.Name x p) X.env
      standAt apos.atName
      let (f, first) ← holding [ov] (getMethod ov m pl)
      callWith pos f first (backTo pos (starEach (e :: es) X.env)) (backToKw pos (keywordEach [] X.env))) := by rfl) :
    QE X (.Call (.Attribute (.Name x p) m apos) (e :: es) [] pos) (tCall sp dvs E t) := ⟨pe_clsfn hg hm hsp hrd hf hk F hr hb hd hx ha.go hdb hst hpl ht⟩
theorem qe_vinit {pl : Sem Bool} (hg : Gl X "ValueError") (hm : X.mg "ValueError" = none) (hv : bootBuiltins "ValueError" = some (.type "ValueError")) (hf : PySem.W.findCls X.K (.type "ValueError") (.type "type") "__init__" = some (.val (.builtin vInit))) (ha : QA X (e :: es) t)
    (hst : starEach (e :: es) X.env = (false, eval e X.env) :: starEach es X.env := by rfl) (hpl : (backTo pos (starEach es X.env)).any (·.1) = false := by rfl)
    (ht : eval (.Call (.Attribute (.Name "ValueError" p) "__init__" apos) (e :: es) [] pos) X.env = (do
      let ov ← eval (.Name "ValueError" p) X.env
      standAt apos.atName
      let (f, first) ← holding [ov] (getMethod ov "__init__" pl)
      callWith pos f first (backTo pos (starEach (e :: es) X.env)) (backToKw pos (keywordEach [] X.env))) := by rfl) :
    QE X (.Call (.Attribute (.Name "ValueError" p) "__init__" apos) (e :: es) [] pos) (tVInit X.K t) := ⟨pe_vinit hg hm hv hf ha.go hst hpl ht⟩
theorem qe_xmake (S : XSt X.K C) (hi : PySem.W.findIn X.K (.ref C) "__init__" = some (some (.ref f))) (hfn : PySem.W.typeIn X.K (.ref f) = some (.type "function")) (hkc : PySem.W.keepIn X.K (.ref C) = true)
    (F : FnOk X.prog X.w X.K X.mg X.base CX k f fd ps sp) (hr : Room (k + 1) X.A) (hg : Gl X x) (hm : X.mg x = some (.ref C)) (hb : Binds X.K fd ps ds) (hd : Vals dvs ds) (hx : Passes CX X E)
    (ha : QA X (e :: es) t) (hdb : (x == ("__debug__" : Str)) = false := by decide) (he : starEach (e :: es) X.env = (false, eval e X.env) :: starEach es X.env := by rfl) (hpl : (backTo pos (starEach es X.env)).any (·.1) = false := by rfl) :
    QE X (.Call (.Name x p) (e :: es) [] pos) (tXMake C sp dvs E t) := ⟨pe_xmake S hi hfn hkc F hr hg hm hb hd hx ha.go hdb he hpl⟩
end
theorem xst_mk {K : PySem.W.Frag} {C N : Addr} {nm q : Str} {bs : List Value} {l : List Addr} {sn : List Str} {sub : List Value} {ab : Bool} {col : Option Bool} {dd : Option Addr} {k0 k1 k2 k3 k5 : Option Value}
    (lk : K.lookup C = some (excClassObj nm q C N bs (l.map Value.ref ++ vMro) true sn sub ab col dd k0 k1 k2 k3 k5 vNew)) : ∀ h : Heap, K.In h → XCls h C (l.map Value.ref ++ vMro) := fun h X => by
  have c : ∀ T, (l.map Value.ref ++ vMro).contains (Value.type T) = vMro.contains (Value.type T) := fun T => by
    induction l with
    | nil => rfl
    | cons a l ih =>
      have ih : (l.map Value.ref ++ vMro).contains (Value.type T) = vMro.contains (Value.type T) := by
        clear lk
        clear ih
        induction l with
        | nil => rfl
        | cons b l ih2 =>
          show (Value.ref b :: (l.map Value.ref ++ vMro)).contains (Value.type T) = _
          rw [List.contains_cons, ih2]
          rfl
      show (Value.ref a :: (l.map Value.ref ++ vMro)).contains (Value.type T) = _
      rw [List.contains_cons, ih]
      rfl
  exact ⟨⟨nm, q, N, bs, sn, sub, ab, col, dd, k0, k1, k2, k3, k5, X _ _ lk⟩, by rw [c]; decide +kernel, by rw [c]; decide +kernel, by rw [c]; decide +kernel, by rw [c]; decide +kernel, l, rfl⟩
end L2

set_option Elab.async false
set_option linter.all false
set_option maxRecDepth 100000
set_option maxHeartbeats 4000000
namespace L2
open PySem PySem.Spec PyProof.Rows
section
variable {prog : Program} {w : World} {A : Around} {E : Value → Shared → Prop} {h : Heap} {g : Array GenState} {d : Drawn} {t : Nat} {os : OsState} {C e : Addr} {bm : List Value} {K : PySem.W.Frag} {oe : Obj} {odd : Option Obj}
/-- e.__class__ of an exception -/
theorem x_cls_get {R : Result → Shared → Prop} (X : K.In h) (I : PySem.W.InstAt h e oe C odd) (hm : PySem.W.mroIn K C (.type "object") = some true) (hq : R (.ok (.ret (.ref C))) ⟨h, g, d, t, os⟩) :
    codeAny (model prog w) A (.call (.builtin "getset_descriptor.__get__") ⟨[.builtin "object.__class__", .ref e, .ref C], []⟩) R ⟨h, g, d, t, os⟩ := PySem.W.class_get X I hm hq
theorem x_cls_entry {tk : Tok} {Q : Fin → Shared → Prop} (X : K.In h) (I : PySem.W.InstAt h e oe C odd) (hcl : PySem.W.findIn K (.ref C) "__class__" = some (some (.builtin "object.__class__"))) (hm : PySem.W.mroIn K C (.type "object") = some true)
    (hq : Q (.done (.ret (.ref C))) ⟨h, g, d, t, os⟩) : wpAny (model prog w) A (Builtin.«object.__getattribute__» ⟨[.ref e, .str "__class__" tk], []⟩) Q E ⟨h, g, d, t, os⟩ := by
  have he := I.1
  have hc := I.cls
  have f5 := F.typeOf_object_class
  have f6 := F.slot_gs_get.lookup
  have f7 := F.slot_gs_set.lookup
  repeat (any_goals (first | assumption | (with_reducible refine wpAny_loadPart_at he ?_; rw [hc]) | with_reducible refine (PySem.W.looks_findIn X hcl).here ?_ | wp_step))
  refine x_cls_get X I hm ?_
  repeat (any_goals (first | assumption | wp_step))
theorem x_cls_call {tk : Tok} {R : Result → Shared → Prop} (X : K.In h) (x : XCls h C bm) (I : PySem.W.InstAt h e oe C odd) (hcl : PySem.W.findIn K (.ref C) "__class__" = some (some (.builtin "object.__class__"))) (hm : PySem.W.mroIn K C (.type "object") = some true)
    (hq : R (.ok (.ret (.ref C))) ⟨h, g, d, t, os⟩) : codeAny (model prog w) A (.call (.builtin bGa) ⟨[.ref e, .str "__class__" tk], []⟩) R ⟨h, g, d, t, os⟩ := by
  obtain ⟨a1, a2, a3, a4, a6, a7, a8, a9, b1, b2, b3, b4, b5, b6, oC⟩ := x.obj
  have sub : PySem.W.Looks (model prog w) h (isInstance (.ref e) (.type "BaseException")) true := by
    refine I.type.andThen ?_
    intro A' Q' E' s' k hq'
    obtain ⟨h1, g1, d1, t1, os1⟩ := s'
    refine wpAny_isSubtype_exc (k _ _ oC) ?_
    rw [x_sub_base x]
    exact hq'
  refine codeAny_call_builtin F.excAttr_ValueError.ga.plain F.entry_bexc_ga ?_
  refine (@PySem.W.check_slot (model prog w) _ _ ⟨h, g, d, t, os⟩ bGa "BaseException" "__getattribute__" (.ref e) [.str "__class__" tk] [] _ bga_kind bga_split sub (bga_args (.ref e) (.str "__class__" tk)) ?_)
  exact x_cls_entry X I hcl hm hq
theorem x_cls_by {tk : Tok} {Q : Value → Shared → Prop} (X : K.In h) (x : XCls h C bm) (hga : PySem.W.findIn K (.ref C) "__getattribute__" = some (some (.builtin bGa))) (hgt : PySem.W.findIn K (.ref C) "__getattr__" = some none) (I : PySem.W.InstAt h e oe C odd)
    (hcl : PySem.W.findIn K (.ref C) "__class__" = some (some (.builtin "object.__class__"))) (hm : PySem.W.mroIn K C (.type "object") = some true) (hq : Q (.ref C) ⟨h, g, d, t, os⟩) : wpAny (model prog w) A (getAttrBy (.ref e) (.str "__class__" tk) false) Q E ⟨h, g, d, t, os⟩ := by
  have he := I.at_
  have hc := I.cls
  have f3 := F.excAttr_ValueError.ga.bind (.ref e)
  have z0 : ∀ b : Bool, (b && onTheHeap (Value.builtin bGa)) = false := fun b => by cases b <;> rfl
  have z2 : (Value.builtin bGa == Value.builtin "object.__getattribute__") = false := by decide +kernel
  have z1 : (onTheHeap (Value.ref C) && Value.builtin bGa == Value.builtin "object.__getattribute__") = false := by rw [z2]; rfl
  unfold getAttrBy
  repeat (any_goals (first | assumption | (with_reducible refine wpAny_loadPart_at he ?_; rw [hc]) | with_reducible refine (PySem.W.looks_findIn X hga).here ?_ | with_reducible refine (PySem.W.looks_findIn X hgt).here ?_ | wp_step))
  refine x_cls_call X x I hcl hm ?_
  repeat (any_goals (first | assumption | wp_step))
theorem x_class {Q : Option Value → Shared → Prop} (X : K.In h) (x : XCls h C bm) (hga : PySem.W.findIn K (.ref C) "__getattribute__" = some (some (.builtin bGa))) (hgt : PySem.W.findIn K (.ref C) "__getattr__" = some none) (I : PySem.W.InstAt h e oe C odd)
    (hcl : PySem.W.findIn K (.ref C) "__class__" = some (some (.builtin "object.__class__"))) (hm : PySem.W.mroIn K C (.type "object") = some true) (hq : Q (some (.ref C)) ⟨h, g, d, t + 1, os⟩) : wpAny (model prog w) A (getAttr? (.ref e) "__class__") Q E ⟨h, g, d, t, os⟩ := by
  unfold getAttr? getAttrBy?
  repeat (any_goals (first | assumption | with_reducible apply x_cls_by X x hga hgt I hcl hm | wp_step))
end
structure XKnd (K : PySem.W.Frag) (C : Addr) : Prop where
  st : XSt K C
  cl : PySem.W.findIn K (.ref C) "__class__" = some (some (.builtin "object.__class__"))
  mo : PySem.W.mroIn K C (.type "object") = some true
theorem kitx_exc {K : PySem.W.Frag} {C e : Addr} {oe : Obj} {odd : Option Obj} (Z : XKnd K C) : PySem.W.KitX K (.ref e) (.ref C) (fun h => PySem.W.InstAt h e oe C odd) where
  ty := fun _ _ _ I => I.type
  it := fun _ _ X _ => by
    obtain ⟨bm, hc⟩ := Z.st.cls
    obtain ⟨a1, a2, a3, a4, a6, a7, a8, a9, b1, b2, b3, b4, b5, b6, oC⟩ := (hc _ X).obj
    intro A' Q' E' s' k q
    unfold isType loadHead
    exact wpAny_bind (wpAny_loadPart (k _ _ oC) (wpAny_pure q))
  ne := fun h tp dd its n sl X htp => by
    obtain ⟨bm, hc⟩ := Z.st.cls
    obtain ⟨a1, a2, a3, a4, a6, a7, a8, a9, b1, b2, b3, b4, b5, b6, oC⟩ := (hc _ X).obj
    refine Bool.eq_false_iff.mpr fun q => ?_
    have e : C = tp := Value.ref.inj (beq_iff_eq.mp q)
    subst e
    have z := oC.symm.trans htp
    injection z with z
    injection z with z1 z2 z3 z4
    cases z3
  ca := fun {_ _ _ _ _ s} X I k => by
    obtain ⟨bm, hc⟩ := Z.st.cls
    obtain ⟨h, g, d, t, os⟩ := s
    exact x_class X (hc _ X) Z.st.ga Z.st.gt I Z.cl Z.mo k
/-- a class as a value of the text -/
def ClsV (c : V) (cv : Value) : Prop := (∃ a, c = .ref a ∧ cv = .ref a) ∨ ∃ n, c = .ty n ∧ cv = .type n
section
variable {X : Cx}
end
end L2

set_option Elab.async false
set_option linter.all false
set_option maxRecDepth 100000
set_option maxHeartbeats 4000000
namespace L2
open PySem PySem.Spec PyProof.Rows

def SqIs : Bool → Heap → Addr → Array Value → Prop
  | true, h, l, xs => h.IsList l xs
  | false, h, l, xs => h.IsTuple l xs
def SqIt : Bool → Heap → Addr → Addr → Nat → Prop
  | true, h, i, l, k => h.IsListIter i l k
  | false, h, i, l, k => h.IsTupleIter i l k
def sqItO : Bool → Addr → Obj
  | true, l => { cls := .type "list_iterator", data := .fields #[.ref l, .int 0 0] }
  | false, l => { cls := .type "tuple_iterator", data := .fields #[.ref l, .int 0 0] }
theorem SqIs.eb {b : Bool} {h h' : Heap} {a c : Addr} {xs : Array Value} (x : SqIs b h a xs) (hs : Heap.ExtBut c h h') (n : a ≠ c) : SqIs b h' a xs := by
  cases b
  · exact Heap.IsTuple.extBut x hs n
  · exact Heap.IsList.extBut x hs n
theorem SqIs.up {b : Bool} {h : Heap} {a : Addr} {xs : Array Value} (x : SqIs b h a xs) (o : Obj) : SqIs b (h.push o) a xs := by
  cases b
  · exact Heap.IsTuple.push x o
  · exact Heap.IsList.push x o
theorem SqIt.eb {b : Bool} {h h' : Heap} {a l c : Addr} {k : Nat} (x : SqIt b h a l k) (hs : Heap.ExtBut c h h') (n : a ≠ c) : SqIt b h' a l k := by
  cases b
  · exact Heap.IsTupleIter.extBut x hs n
  · exact Heap.IsListIter.extBut x hs n
theorem SqIt.to {b : Bool} {h h' : Heap} {a l : Addr} {k : Nat} (x : SqIt b h a l k) (e : ∀ o, h.get? a = some o → h'.get? a = some o) : SqIt b h' a l k := by
  cases b
  · exact Heap.IsTupleIter.at x e
  · exact Heap.IsListIter.at x e
theorem SqIt.ob {b : Bool} {h : Heap} {a l : Addr} {k : Nat} (x : SqIt b h a l k) : ∃ o, h.get? a = some o ∧ o.data = .fields #[.ref l, .int k 0] := by
  cases b
  · obtain ⟨o, e, _, d⟩ := (show h.IsTupleIter a l k from x); exact ⟨o, e, d⟩
  · obtain ⟨o, e, _, d⟩ := (show h.IsListIter a l k from x); exact ⟨o, e, d⟩
theorem SqIt.new {b : Bool} {h : Heap} {a l : Addr} (e : h.get? a = some (sqItO b l)) : SqIt b h a l 0 := by
  cases b
  · exact ⟨_, e, rfl, rfl⟩
  · exact ⟨_, e, rfl, rfl⟩
section
variable {prog : Program} {w : World} {A : Around} {E : Value → Shared → Prop} {s : Shared}
theorem nextOf_tup_go {it t : Addr} {i : Nat} {items : Array Value} {x : Value} {Q : Value → Shared → Prop} (q1 : s.heap.IsTupleIter it t i) (q2 : s.heap.IsTuple t items) (q3 : items[i]? = some x)
    (k : ∀ h', h'.IsTupleIter it t (i + 1) → Heap.SameBut it s.heap h' → Q x { s with heap := h' }) : wpAny (model prog w) A (Builtin.SmallTypes.nextOf (.ref it)) Q E s := by
  obtain ⟨o, oe, oc, od⟩ := id q1
  obtain ⟨l, le, _, n, ld⟩ := q2
  unfold Builtin.SmallTypes.nextOf
  refine wpAny_bind (wpAny_callSpecial?_slot (name := Str.ofString "__next__") q1.typeIs PySem.F.slot_tuple_iterator_next (wpAny_call_entry PySem.F.slot_tuple_iterator_next q1.typeIs PySem.F.entry_tuple_iterator_next ?_ (PySem.F.args_tuple_iterator_next_1 _)))
  refine wpAny_bind (m := field (.ref it) 0) (wpAny_field oe od (x := .ref t) rfl ?_)
  show wpAny _ _ (if (Value.ref t == Value.none) = true then _ else _) _ _ _
  rw [if_neg (fun z : (Value.ref t == Value.none) = true => Bool.false_ne_true z)]
  refine wpAny_bind (m := field (.ref it) 1) (wpAny_field oe od (x := .int i 0) rfl (wpAny_bind (m := seqItems? (.ref t)) (wpAny_seqItems le ld ?_)))
  simp only [Int.toNat_natCast, q3]
  refine wpAny_bind (wpAny_setField oe od (by simp) (wpAny_pure ⟨x, rfl, wpAny_pure (k _ ⟨_, Heap.get?_update_self _ oe (Obj.isFreed_of_fields (Obj.data_mapFields od _)), (Obj.cls_mapFields ..).trans oc, ?_⟩ (Heap.SameBut.update ..))⟩))
  rw [Obj.data_mapFields od]
  simp [rawInt]
theorem nextOf_tup_end {it t : Addr} {i : Nat} {items : Array Value} {Q : Value → Shared → Prop} (hh : A.handled = none) (q1 : s.heap.IsTupleIter it t i) (q2 : s.heap.IsTuple t items) (q3 : items[i]? = none)
    (k : ∀ h' e, Heap.ExtBut it s.heap h' → (∃ o, h'.get? e = some o ∧ o.cls = .type "StopIteration") → E (.ref e) { s with heap := h' }) : wpAny (model prog w) A (Builtin.SmallTypes.nextOf (.ref it)) Q E s := by
  obtain ⟨o, oe, oc, od⟩ := id q1
  obtain ⟨l, le, _, n, ld⟩ := q2
  unfold Builtin.SmallTypes.nextOf
  refine wpAny_bind (wpAny_callSpecial?_slot (name := Str.ofString "__next__") q1.typeIs PySem.F.slot_tuple_iterator_next (wpAny_call_entry PySem.F.slot_tuple_iterator_next q1.typeIs PySem.F.entry_tuple_iterator_next ?_ (PySem.F.args_tuple_iterator_next_1 _)))
  refine wpAny_bind (m := field (.ref it) 0) (wpAny_field oe od (x := .ref t) rfl ?_)
  show wpAny _ _ (if (Value.ref t == Value.none) = true then _ else _) _ _ _
  rw [if_neg (fun z : (Value.ref t == Value.none) = true => Bool.false_ne_true z)]
  refine wpAny_bind (m := field (.ref it) 1) (wpAny_field oe od (x := .int i 0) rfl (wpAny_bind (m := seqItems? (.ref t)) (wpAny_seqItems le ld ?_)))
  simp only [Int.toNat_natCast, q3]
  refine wpAny_bind (wpAny_rule (wpAny_bind (wpAny_setField oe od (by simp) (wpAny_bind (m := newExc (.type "StopIteration") []) ?_))))
  simp only [newExc, newTuple]; refine wpAny_bind (wpAny_newObj_type ?_ (by size_fits))
  refine wpAny_bind (m := firstArgMember _ _) (wpAny_of_eq (a := Value.none) (by first | rfl | (simp only [firstArgMember]; rfl)) (wpAny_newObj_type ?_ (by size_fits)))
  simp only [raiseNew]; refine wpAny_bind (wpAny_handled ?_)
  first | rw [show A.in1.handled = none from hh] | rw [hh]
  exact wpAny_bind (wpAny_pure (wpAny_throw (k _ _ (((Heap.SameBut.update ..).extBut.push _).push _) ⟨_, Heap.get?_push_size _ rfl, rfl⟩)))
theorem nextOf_go {b : Bool} {it t : Addr} {i : Nat} {items : Array Value} {x : Value} {Q : Value → Shared → Prop} (q1 : SqIt b s.heap it t i) (q2 : SqIs b s.heap t items) (q3 : items[i]? = some x)
    (k : ∀ h', SqIt b h' it t (i + 1) → Heap.SameBut it s.heap h' → Q x { s with heap := h' }) : wpAny (model prog w) A (Builtin.SmallTypes.nextOf (.ref it)) Q E s := by
  cases b
  · exact nextOf_tup_go q1 q2 q3 k
  · exact wpAny_nextOf_list_item q1 q2 q3 k
theorem nextOf_end {b : Bool} {it t : Addr} {i : Nat} {items : Array Value} {Q : Value → Shared → Prop} (hh : A.handled = none) (q1 : SqIt b s.heap it t i) (q2 : SqIs b s.heap t items) (q3 : items[i]? = none)
    (k : ∀ h' e, Heap.ExtBut it s.heap h' → (∃ o, h'.get? e = some o ∧ o.cls = .type "StopIteration") → E (.ref e) { s with heap := h' }) : wpAny (model prog w) A (Builtin.SmallTypes.nextOf (.ref it)) Q E s := by
  cases b
  · exact nextOf_tup_end hh q1 q2 q3 k
  · exact wpAny_nextOf_list_end hh q1 q2 q3 k
theorem iter_sq {b : Bool} {t : Addr} {items : Array Value} {Q : Value → Shared → Prop} (q : SqIs b s.heap t items) (k : Q (.ref s.heap.objs.size) { s with heap := s.heap.push (sqItO b t) }) : wpAny (model prog w) A (pyIter (.ref t)) Q E s := by
  cases b
  · exact wpAny_pyIter_tuple q k
  · exact wpAny_pyIter_list q k
theorem zipG_item {b1 b2 : Bool} {z TI TO i1 i2 l1 l2 : Addr} {k1 k2 : Nat} {xs ys : Array Value} {x y u v : Value} {Q : Value → Shared → Prop} (D : ZipApart z TI TO i1 i2 l1 l2)
    (zz : IsZip s.heap z TI TO .none) (zI : IsPair s.heap TI (.ref i1) (.ref i2)) (zO : IsPair s.heap TO u v) (t1 : SqIt b1 s.heap i1 l1 k1) (t2 : SqIt b2 s.heap i2 l2 k2) (c1 : SqIs b1 s.heap l1 xs) (c2 : SqIs b2 s.heap l2 ys) (e1 : xs[k1]? = some x) (e2 : ys[k2]? = some y)
    (k : ∀ h', IsZip h' z TI TO (rawInt s.heap.objs.size) → IsPair h' TO x y → SqIt b1 h' i1 l1 (k1 + 1) → SqIt b2 h' i2 l2 (k2 + 1) → IsPair h' s.heap.objs.size x y → h'.objs.size = s.heap.objs.size + 1 →
      (∀ c o, c ≠ z → c ≠ TO → c ≠ i1 → c ≠ i2 → s.heap.get? c = some o → h'.get? c = some o) → Q (.ref s.heap.objs.size) { s with heap := h' }) :
    wpAny (model prog w) A (Builtin.«zip.__next__» ⟨[.ref z], []⟩) (fun fin s' => ∃ v, fin = .done (.ret v) ∧ Q v s') E s := by
  refine wpAny_bind (m := field (.ref z) 2) (wpAny_field zz rfl (x := .bool false) rfl ?_)
  refine wpAny_bind (m := field (.ref z) 3) (wpAny_field zz rfl (x := .ref TI) rfl (wpAny_bind (wpAny_seqItems zI rfl ?_)))
  refine wpAny_bind (m := Builtin.SmallTypes.ownedTupleIsFree (.ref z)) ?_
  unfold Builtin.SmallTypes.ownedTupleIsFree
  refine wpAny_bind (wpAny_field zz rfl (x := .none) rfl (wpAny_pure ?_)); simp only [if_true]
  refine wpAny_bind (wpAny_rule (wpAny_bind (wpAny_field zz rfl (x := .ref TO) rfl (wpAny_bind (wpAny_setField_rec zz (by simp) fun g1 z1 s1 => ?_)))))
  replace z1 : IsZip g1 z TI TO .ellipsis := z1
  refine wpAny_bind ?_; simp only [List.zipIdx_cons, List.zipIdx_nil, List.forIn_cons, List.forIn_nil]
  refine wpAny_bind (wpAny_bind (wpAny_onRaise (wpAny_bind (m := Builtin.SmallTypes.nextOf (.ref i1)) (nextOf_go (t1.eb s1.extBut D.i1z) (c1.eb s1.extBut D.l1z) e1 fun g2 y1 s2 => wpAny_pure ?_))))
  have o2 : IsPair g2 TO u v := s2.extBut _ _ D.TOi1 (s1.extBut _ _ D.TOz zO)
  refine wpAny_bind (wpAny_seqItems o2 rfl (wpAny_bind (wpAny_updateSeq_pair o2 fun g3 o3 s3 => ?_)))
  replace o3 : IsPair g3 TO x v := o3
  refine wpAny_bind (wpAny_letGo (wpAny_pure (wpAny_bind (wpAny_bind (wpAny_onRaise (wpAny_bind (m := Builtin.SmallTypes.nextOf (.ref i2)) ?_))))))
  refine nextOf_go (((t2.eb s1.extBut D.i2z).eb s2.extBut D.i12.symm).eb s3.extBut D.TOi2.symm) (((c2.eb s1.extBut D.l2z).eb s2.extBut D.l2i1).eb s3.extBut D.l2TO) e2 fun g4 y2 s4 => wpAny_pure ?_
  have o4 : IsPair g4 TO x v := s4.extBut _ _ D.TOi2 o3
  refine wpAny_bind (wpAny_seqItems o4 rfl (wpAny_bind (wpAny_updateSeq_pair o4 fun g5 o5 s5 => ?_)))
  replace o5 : IsPair g5 TO x y := o5
  refine wpAny_bind (wpAny_letGo (wpAny_pure (wpAny_pure (wpAny_bind (wpAny_seqItems o5 rfl (wpAny_bind (wpAny_newTuple ?_)))))))
  have sz : g5.objs.size = s.heap.objs.size := by rw [s5.1, s4.1, s3.1, s2.1, s1.1]
  have z5 : IsZip g5 z TI TO .ellipsis := s5.extBut _ _ D.TOz.symm (s4.extBut _ _ D.i2z.symm (s3.extBut _ _ D.TOz.symm (s2.extBut _ _ D.i1z.symm z1)))
  have k5 : ∀ c o, c ≠ z → c ≠ TO → c ≠ i1 → c ≠ i2 → s.heap.get? c = some o → g5.get? c = some o := fun c o n1 n2 n3 n4 e => s5.extBut _ _ n2 (s4.extBut _ _ n4 (s3.extBut _ _ n2 (s2.extBut _ _ n3 (s1.extBut _ _ n1 e))))
  have w1 : SqIt b1 g5 i1 l1 (k1 + 1) := ((y1.eb s3.extBut D.TOi1.symm).eb s4.extBut D.i12).eb s5.extBut D.TOi1.symm
  have w2 : SqIt b2 g5 i2 l2 (k2 + 1) := y2.eb s5.extBut D.TOi2.symm
  have zl : z < g5.objs.size := Heap.lt_size z5
  refine wpAny_bind (m := Builtin.SmallTypes.ownedTupleHandOut (.ref z) (.ref g5.objs.size)) ?_
  unfold Builtin.SmallTypes.ownedTupleHandOut
  have z6 : IsZip (g5.push { cls := .type "tuple", data := .seq #[x, y] }) z TI TO .ellipsis := Heap.get?_push_of_some _ z5
  refine wpAny_bind (wpAny_setField_rec z6 (by simp) fun g7 z7 s7 => ?_)
  replace z7 : IsZip g7 z TI TO (rawInt g5.objs.size) := z7
  refine wpAny_setField_rec z7 (by simp) fun g8 z8 s8 => ?_
  replace z8 : IsZip g8 z TI TO (rawInt g5.objs.size) := z8
  have up : ∀ c o, c ≠ z → g5.get? c = some o → g8.get? c = some o := fun c o n e => s8.extBut _ _ n (s7.extBut _ _ n (Heap.get?_push_of_some _ e))
  have t8 : IsPair g8 g5.objs.size x y := s8.extBut _ _ (Nat.ne_of_gt zl) (s7.extBut _ _ (Nat.ne_of_gt zl) (Heap.get?_push_size _ rfl))
  have n8 : g8.objs.size = g5.objs.size + 1 := by rw [s8.1, s7.1, Heap.size_push]
  rw [sz] at z8 t8 n8
  refine wpAny_pure ⟨_, rfl, ?_⟩; show Q (.ref g5.objs.size) _; rw [sz]
  exact k g8 z8 (up _ _ D.TOz o5) (w1.to fun o e => up _ o D.i1z e) (w2.to fun o e => up _ o D.i2z e) t8 n8 fun c o n1 n2 n3 n4 e => up c o n1 (k5 c o n1 n2 n3 n4 e)
theorem zipG_end {b1 b2 : Bool} {z TI TO i1 i2 l1 l2 : Addr} {k1 k2 : Nat} {xs ys : Array Value} {u v : Value} {Q : Fin → Shared → Prop} (hh : A.handled = none) (D : ZipApart z TI TO i1 i2 l1 l2)
    (zz : IsZip s.heap z TI TO .none) (zI : IsPair s.heap TI (.ref i1) (.ref i2)) (zO : IsPair s.heap TO u v) (t1 : SqIt b1 s.heap i1 l1 k1) (t2 : SqIt b2 s.heap i2 l2 k2) (c1 : SqIs b1 s.heap l1 xs) (c2 : SqIs b2 s.heap l2 ys) (he : xs[k1]? = none ∨ ys[k2]? = none)
    (k : ∀ h' e, (∀ c o, c ≠ z → c ≠ TO → c ≠ i1 → c ≠ i2 → s.heap.get? c = some o → h'.get? c = some o) → (∃ o, h'.get? e = some o ∧ o.cls = .type "StopIteration") → E (.ref e) { s with heap := h' }) :
    wpAny (model prog w) A (Builtin.«zip.__next__» ⟨[.ref z], []⟩) Q E s := by
  refine wpAny_bind (m := field (.ref z) 2) (wpAny_field zz rfl (x := .bool false) rfl ?_)
  refine wpAny_bind (m := field (.ref z) 3) (wpAny_field zz rfl (x := .ref TI) rfl (wpAny_bind (wpAny_seqItems zI rfl ?_)))
  refine wpAny_bind (m := Builtin.SmallTypes.ownedTupleIsFree (.ref z)) ?_
  unfold Builtin.SmallTypes.ownedTupleIsFree
  refine wpAny_bind (wpAny_field zz rfl (x := .none) rfl (wpAny_pure ?_)); simp only [if_true]
  refine wpAny_bind (wpAny_rule (wpAny_bind (wpAny_field zz rfl (x := .ref TO) rfl (wpAny_bind (wpAny_setField_rec zz (by simp) fun g1 z1 s1 => ?_)))))
  replace z1 : IsZip g1 z TI TO .ellipsis := z1
  refine wpAny_bind ?_; simp only [List.zipIdx_cons, List.zipIdx_nil, List.forIn_cons, List.forIn_nil]
  refine wpAny_bind (wpAny_bind (wpAny_onRaise (wpAny_bind (m := Builtin.SmallTypes.nextOf (.ref i1)) ?_)))
  have fin : ∀ {g h9 : Heap} {e : Addr}, IsZip g z TI TO .ellipsis → (∃ o, g.get? e = some o ∧ o.cls = .type "StopIteration") → e ≠ z := fun {g h9 e} a ⟨o, q1, q2⟩ n => by
    subst n
    rw [a] at q1
    cases q1
    simp at q2
  cases hx : xs[k1]? with
  | none =>
    refine nextOf_end hh (t1.eb s1.extBut D.i1z) (c1.eb s1.extBut D.l1z) hx fun g2 e s2 st => ?_
    have z2 : IsZip g2 z TI TO .ellipsis := s2 _ _ D.i1z.symm z1
    have ez := fin (h9 := g2) z2 st
    obtain ⟨oe, q1, q2⟩ := st
    exact wpAny_setField_rec z2 (by simp) fun g3 _ s3 => k g3 e (fun c o n1 _ n3 _ x => s3.extBut _ _ n1 (s2 _ _ n3 (s1.extBut _ _ n1 x))) ⟨oe, s3.extBut _ _ ez q1, q2⟩
  | some x =>
    have hy : ys[k2]? = none := he.resolve_left fun h => by rw [hx] at h; cases h
    refine nextOf_go (t1.eb s1.extBut D.i1z) (c1.eb s1.extBut D.l1z) hx fun g2 y1 s2 => wpAny_pure ?_
    have o2 : IsPair g2 TO u v := s2.extBut _ _ D.TOi1 (s1.extBut _ _ D.TOz zO)
    refine wpAny_bind (wpAny_seqItems o2 rfl (wpAny_bind (wpAny_updateSeq_pair o2 fun g3 o3 s3 => ?_)))
    refine wpAny_bind (wpAny_letGo (wpAny_pure (wpAny_bind (wpAny_bind (wpAny_onRaise (wpAny_bind (m := Builtin.SmallTypes.nextOf (.ref i2)) ?_))))))
    refine nextOf_end hh (((t2.eb s1.extBut D.i2z).eb s2.extBut D.i12.symm).eb s3.extBut D.TOi2.symm) (((c2.eb s1.extBut D.l2z).eb s2.extBut D.l2i1).eb s3.extBut D.l2TO) hy fun g4 e s4 st => ?_
    have z4 : IsZip g4 z TI TO .ellipsis := s4 _ _ D.i2z.symm (s3.extBut _ _ D.TOz.symm (s2.extBut _ _ D.i1z.symm z1))
    have ez := fin (h9 := g4) z4 st
    obtain ⟨oe, q1, q2⟩ := st
    exact wpAny_setField_rec z4 (by simp) fun g5 _ s5 => k g5 e (fun c o n1 n2 n3 n4 x => s5.extBut _ _ n1 (s4 _ _ n4 (s3.extBut _ _ n2 (s2.extBut _ _ n3 (s1.extBut _ _ n1 x))))) ⟨oe, s5.extBut _ _ ez q1, q2⟩
theorem next_zipG {b1 b2 : Bool} {z TI TO i1 i2 l1 l2 : Addr} {k1 k2 : Nat} {xs ys : Array Value} {x y u v : Value} {Q : Option Value → Shared → Prop} (D : ZipApart z TI TO i1 i2 l1 l2)
    (zz : IsZip s.heap z TI TO .none) (zI : IsPair s.heap TI (.ref i1) (.ref i2)) (zO : IsPair s.heap TO u v) (t1 : SqIt b1 s.heap i1 l1 k1) (t2 : SqIt b2 s.heap i2 l2 k2) (c1 : SqIs b1 s.heap l1 xs) (c2 : SqIs b2 s.heap l2 ys) (e1 : xs[k1]? = some x) (e2 : ys[k2]? = some y)
    (k : ∀ h', IsZip h' z TI TO (rawInt s.heap.objs.size) → IsPair h' TO x y → SqIt b1 h' i1 l1 (k1 + 1) → SqIt b2 h' i2 l2 (k2 + 1) → IsPair h' s.heap.objs.size x y → h'.objs.size = s.heap.objs.size + 1 →
      (∀ c o, c ≠ z → c ≠ TO → c ≠ i1 → c ≠ i2 → s.heap.get? c = some o → h'.get? c = some o) → Q (some (.ref s.heap.objs.size)) { s with heap := h' }) : wpAny (model prog w) A (pyNext (.ref z)) Q E s := by
  have ty : s.TypeIs (.ref z) "zip" := ⟨_, zz, rfl⟩
  unfold pyNext
  exact wpAny_bind (wpAny_attempt (wpAny_callSpecial?_slot (name := Str.ofString "__next__") ty PySem.F.slot_zip_next (wpAny_call_entry PySem.F.slot_zip_next ty PySem.F.entry_zip_next
      (zipG_item D zz zI zO t1 t2 c1 c2 e1 e2 fun h' a1 a2 a3 a4 a5 a6 a7 => wpAny_pure (k h' a1 a2 a3 a4 a5 a6 a7)) (PySem.F.args_zip_next_1 _))))
theorem stop_zipG {b1 b2 : Bool} {z TI TO i1 i2 l1 l2 : Addr} {k1 k2 : Nat} {xs ys : Array Value} {u v : Value} {Q : Option Value → Shared → Prop} (hh : A.handled = none) (D : ZipApart z TI TO i1 i2 l1 l2)
    (zz : IsZip s.heap z TI TO .none) (zI : IsPair s.heap TI (.ref i1) (.ref i2)) (zO : IsPair s.heap TO u v) (t1 : SqIt b1 s.heap i1 l1 k1) (t2 : SqIt b2 s.heap i2 l2 k2) (c1 : SqIs b1 s.heap l1 xs) (c2 : SqIs b2 s.heap l2 ys) (he : xs[k1]? = none ∨ ys[k2]? = none)
    (k : ∀ h', (∀ c o, c ≠ z → c ≠ TO → c ≠ i1 → c ≠ i2 → s.heap.get? c = some o → h'.get? c = some o) → Q none { s with heap := h' }) : wpAny (model prog w) A (pyNext (.ref z)) Q E s := by
  have ty : s.TypeIs (.ref z) "zip" := ⟨_, zz, rfl⟩
  unfold pyNext
  refine wpAny_bind (wpAny_attempt (wpAny_callSpecial?_slot (name := Str.ofString "__next__") ty PySem.F.slot_zip_next (wpAny_call_entry PySem.F.slot_zip_next ty PySem.F.entry_zip_next (zipG_end hh D zz zI zO t1 t2 c1 c2 he fun h' e kp st => ?_) (PySem.F.args_zip_next_1 _))))
  obtain ⟨o, q1, q2⟩ := st
  exact wpAny_bind (wpAny_isInstance (T := "StopIteration") (b := true) ⟨o, q1, q2⟩ isSubtype_stop (wpAny_pure (k _ kp)))
end
abbrev zg1 (b : Bool) (h : Heap) (l : Addr) : Heap := h.push (sqItO b l)
abbrev zg2 (b c : Bool) (h : Heap) (l m : Addr) : Heap := (zg1 b h l).push (sqItO c m)
abbrev zg3 (b c : Bool) (h : Heap) (l m : Addr) : Heap := (zg2 b c h l m).push { cls := .type "tuple", data := .seq #[.ref h.objs.size, .ref (zg1 b h l).objs.size] }
abbrev zg4 (b c : Bool) (h : Heap) (l m : Addr) : Heap := (zg3 b c h l m).push { cls := .type "tuple", data := .seq #[.none, .none] }
abbrev zg5 (b c : Bool) (h : Heap) (l m : Addr) : Heap := (zg4 b c h l m).push { cls := .type "zip", data := .fields #[.none, .bool false, .bool false, .ref (zg2 b c h l m).objs.size, .ref (zg3 b c h l m).objs.size] }
theorem meets_zipG (b c : Bool) (l m : Addr) (xs ys : Array Value) : Meets (Builtin.«zip.__new__» ⟨[.type "zip", .ref l, .ref m], []⟩) (fun _ R s => SqIs b s.heap l xs ∧ SqIs c s.heap m ys ∧ R (.ok (.ret (.ref (zg4 b c s.heap l m).objs.size))) { s with heap := zg5 b c s.heap l m }) :=
  .of_wp fun prog w A R s h => by
    obtain ⟨hp, g, d, tk, os⟩ := s
    obtain ⟨q1, q2, h⟩ := h
    have sb := sub_zip
    have L1 : SqIs b (Shared.heap ⟨hp, g, d, tk, os⟩) l xs := q1
    have L2 : SqIs c (Shared.heap ⟨hp.push (sqItO b l), g, d, tk, os⟩) m ys := SqIs.up q2 _
    wp_walk using iter_sq L1, iter_sq L2
    exact ⟨_, rfl, h⟩
section
variable {prog : Program} {w : World} {A : Around} {E : Value → Shared → Prop} {s : Shared}
theorem call_zipG {b c : Bool} {l m : Addr} {xs ys : Array Value} {Q : Value → Shared → Prop} (q1 : SqIs b s.heap l xs) (q2 : SqIs c s.heap m ys)
    (k : ∀ h', IsZip h' (s.heap.objs.size + 4) (s.heap.objs.size + 2) (s.heap.objs.size + 3) .none → IsPair h' (s.heap.objs.size + 2) (.ref s.heap.objs.size) (.ref (s.heap.objs.size + 1)) →
      IsPair h' (s.heap.objs.size + 3) .none .none → SqIt b h' s.heap.objs.size l 0 → SqIt c h' (s.heap.objs.size + 1) m 0 → h'.objs.size = s.heap.objs.size + 5 →
      (∀ c o, s.heap.get? c = some o → h'.get? c = some o) → Q (.ref (s.heap.objs.size + 4)) { s with heap := h' }) : wpAny (model prog w) A (call (.type "zip") [.ref l, .ref m]) Q E s := by
  refine callType_new PySem.F.called_zip (by decide) (PySem.F.typeCall_zip_2 _ _) (PySem.F.newCall_zip_2 _ _) (fun obj => PySem.F.args_object_init_3 obj _ _) PySem.F.entry_zip_new (meets_zipG b c l m xs ys) ⟨q1, q2, ?_⟩
  have n1 : (zg1 b s.heap l).objs.size = s.heap.objs.size + 1 := Heap.size_push ..
  have n2 : (zg2 b c s.heap l m).objs.size = s.heap.objs.size + 2 := by rw [Heap.size_push, n1]
  have n3 : (zg3 b c s.heap l m).objs.size = s.heap.objs.size + 3 := by rw [Heap.size_push, n2]
  have n4 : (zg4 b c s.heap l m).objs.size = s.heap.objs.size + 4 := by rw [Heap.size_push, n3]
  have n5 : (zg5 b c s.heap l m).objs.size = s.heap.objs.size + 5 := by rw [Heap.size_push, n4]
  have g5 : (zg5 b c s.heap l m).get? (zg4 b c s.heap l m).objs.size = some _ := Heap.get?_push_size _ rfl
  have g4 : (zg5 b c s.heap l m).get? (zg3 b c s.heap l m).objs.size = some _ := Heap.get?_push_of_some _ (Heap.get?_push_size _ rfl)
  have g3 : (zg5 b c s.heap l m).get? (zg2 b c s.heap l m).objs.size = some _ := Heap.get?_push_of_some _ (Heap.get?_push_of_some _ (Heap.get?_push_size _ rfl))
  have f2 : (sqItO c m).isFreed = false := by cases c <;> rfl
  have f1 : (sqItO b l).isFreed = false := by cases b <;> rfl
  have g2 : (zg5 b c s.heap l m).get? (zg1 b s.heap l).objs.size = some (sqItO c m) := Heap.get?_push_of_some _ (Heap.get?_push_of_some _ (Heap.get?_push_of_some _ (Heap.get?_push_size _ f2)))
  have g1 : (zg5 b c s.heap l m).get? s.heap.objs.size = some (sqItO b l) := Heap.get?_push_of_some _ (Heap.get?_push_of_some _ (Heap.get?_push_of_some _ (Heap.get?_push_of_some _ (Heap.get?_push_size _ f1))))
  show _ ∧ _
  rw [n2, n3, n4] at g5
  rw [n1, n2] at g3
  rw [n3] at g4
  rw [n1] at g2
  rw [n4]
  exact ⟨⟨_, g5, rfl⟩, k _ g5 g3 g4 (SqIt.new g1) (SqIt.new g2) n5 fun c o x => Heap.get?_push_of_some _ (Heap.get?_push_of_some _ (Heap.get?_push_of_some _ (Heap.get?_push_of_some _ (Heap.get?_push_of_some _ x))))⟩
end
end L2

set_option Elab.async false
set_option linter.all false
set_option maxRecDepth 100000
set_option maxHeartbeats 4000000
namespace L2
open PySem PySem.Spec PyProof.Rows

def SqX (K : PySem.W.Frag) (H : Hp) : Bool → Addr → List V → Prop
  | true, a, xs => SqL K H a xs
  | false, a, xs => SqT K H a xs
def ItX (K : PySem.W.Frag) : Bool → Addr → It
  | true, a => Itl K a
  | false, a => Itt K a
section
variable {X : Cx} {pins : List (Addr × Obj)} {σ : St} {H : Hp} {s : Shared}
theorem Inv.sqx {b : Bool} {a : Addr} {xs : List V} (I : Inv X pins σ H s) (h : SqX X.K H b a xs) : ∃ its : List Value, Vals xs its ∧ SqIs b s.heap a its.toArray ∧ xs.length ≤ sizeLine := by
  cases b
  · obtain ⟨its, r, p, z⟩ := I.tuple (show SqT X.K H a xs from h)
    exact ⟨its, r, p, z⟩
  · obtain ⟨its, r, p, z⟩ := I.list (show SqL X.K H a xs from h)
    exact ⟨its, r, p.isList, z⟩
theorem Inv.sqx_inj {b : Bool} {a : Addr} {xs ys : List V} (I : Inv X pins σ H s) (h : SqX X.K H b a xs) (h' : SqX X.K H b a ys) : xs = ys := by
  cases b
  · exact I.tuple_inj h h'
  · exact I.list_inj h h'
theorem SqIs.lt {b : Bool} {h : Heap} {a : Addr} {xs : Array Value} (x : SqIs b h a xs) : a < h.objs.size := by
  cases b
  · obtain ⟨o, e, _⟩ := (show h.IsTuple a xs from x); exact Heap.lt_size e
  · obtain ⟨o, e, _⟩ := (show h.IsList a xs from x); exact Heap.lt_size e
end
section
variable {X : Cx} {tg : Expr}
def iSeq (K : PySem.W.Frag) (tl : TE) : TI := fun σ H R => tl σ H fun x H1 => ∃ b a, x = .ref a ∧ (∃ xs, SqX K H1 b a xs) ∧ R (ItX K b a) H1
def ItzG (K : PySem.W.Frag) (b c : Bool) (a m : Addr) : It :=
  ⟨fun i H => ∃ (xs ys : List V) (x y : V), SqX K H b a xs ∧ SqX K H c m ys ∧ xs[i]? = some x ∧ ys[i]? = some y,
    fun i H v H' => ∃ T x y, v = .ref T ∧ H T = none ∧ H' = upd H T (.tup [x, y]) ∧ (∀ xs, SqX K H b a xs → xs[i]? = some x) ∧ ∀ ys, SqX K H c m ys → ys[i]? = some y,
    fun i H => ∃ xs ys : List V, SqX K H b a xs ∧ SqX K H c m ys ∧ (xs.length ≤ i ∨ ys.length ≤ i)⟩
theorem turn_zipG {P : Program} {w : World} {K : PySem.W.Frag} {elts : List Expr} {kk : Nat} {tpos : Pos} {b1 b2 : Bool} {a m z TI TO i1 i2 : Addr} (D : ZipApart z TI TO i1 i2 a m) :
    Turn P w K (.Tuple elts kk tpos) (ItzG K b1 b2 a m) [z, TI, TO, i1, i2] z (fun i h => IsZip h z TI TO .none ∧ IsPair h TI (.ref i1) (.ref i2) ∧ (∃ x y, IsPair h TO x y) ∧ SqIt b1 h i1 a i ∧ SqIt b2 h i2 m i) where
  mem := by simp
  obj := fun i h st c hc => by
    obtain ⟨hz, hTI, ⟨x, y, hTO⟩, h1, h2⟩ := st
    obtain ⟨o1, e1, d1⟩ := h1.ob
    obtain ⟨o2, e2, d2⟩ := h2.ob
    have e' : c = z ∨ c = TI ∨ c = TO ∨ c = i1 ∨ c = i2 := by simpa using hc
    rcases e' with q | q | q | q | q
    · rw [q]; exact ⟨_, hz, fun v q => nomatch q⟩
    · rw [q]; exact ⟨_, hTI, fun v q => nomatch q⟩
    · rw [q]; exact ⟨_, hTO, fun v q => nomatch q⟩
    · rw [q]; exact ⟨o1, e1, fun v q => by rw [d1] at q; cases q⟩
    · rw [q]; exact ⟨o2, e2, fun v q => by rw [d2] at q; cases q⟩
  keep := fun i h h' st k => by
    obtain ⟨hz, hTI, ⟨x, y, hTO⟩, h1, h2⟩ := st
    exact ⟨k z (by simp) _ hz, k TI (by simp) _ hTI, ⟨x, y, k TO (by simp) _ hTO⟩, h1.to fun o q => k i1 (by simp) o q, h2.to fun o q => k i2 (by simp) o q⟩
  item := by
    intro X hP hw hK hc i pins s σ H E I hf st hg
    subst hP hw hK
    obtain ⟨hz, hTI, ⟨x0, y0, hTO⟩, h1, h2⟩ := st
    obtain ⟨xs, ys, x, y, hqx, hqy, hx, hy⟩ := hg
    obtain ⟨its, rv, p, _⟩ := I.sqx hqx
    obtain ⟨its2, rv2, p2, _⟩ := I.sqx hqy
    obtain ⟨u, hu, ru⟩ := rv.get hx
    obtain ⟨u2, hu2, ru2⟩ := rv2.get hy
    have hzl : z < s.heap.objs.size := Heap.lt_size hz
    refine next_zipG D hz hTI hTO h1 h2 p p2 (x := u) (y := u2) (by simpa using hu) (by simpa using hu2) fun h' z' TO' h1' h2' hT hsz hk => ?_
    refine ⟨_, rfl, wpAny_letOwnedTupleGo_zip (s := { s with heap := h' }) z' fun h'' z'' sb => ?_⟩
    have hT2 : h''.get? s.heap.objs.size = some { cls := .type "tuple", data := .seq #[u, u2] } := (sb.2 _ (Nat.ne_of_gt hzl)).trans hT
    have new : ObjOk X.prog X.w (upd H s.heap.objs.size (.tup [x, y])) h'' s.heap.objs.size (.tup [x, y]) :=
      ⟨by show 2 ≤ sizeLine; decide, [u, u2], .cons ru (.cons ru2 .nil), ⟨_, hT2, rfl, _, rfl⟩⟩
    have I1 : Inv X pins σ (upd H s.heap.objs.size (.tup [x, y])) { s with heap := h'' } :=
      I.turnedNew (t' := s.toks) (ch := [z, TI, TO, i1, i2]) (fun c o hb q => (sb.2 c (fun q' => hb (by simp [q']))).trans (hk c o (fun q' => hb (by simp [q'])) (fun q' => hb (by simp [q'])) (fun q' => hb (by simp [q'])) (fun q' => hb (by simp [q'])) q)) hf (Nat.le_refl _) new
    refine ⟨.ref s.heap.objs.size, _, I1, rfl, ⟨_, x, y, rfl, I.hok.fresh (Nat.le_refl _), rfl, fun l hl => by rw [I.sqx_inj hl hqx]; exact hx, fun l hl => by rw [I.sqx_inj hl hqy]; exact hy⟩, ⟨z'', ?_, ⟨u, u2, ?_⟩, ?_, ?_⟩, fun c hcm => ?_⟩
    · exact (sb.2 _ D.TIz).trans (hk _ _ D.TIz D.TITO D.TIi1 D.TIi2 hTI)
    · exact (sb.2 _ D.TOz).trans TO'
    · exact h1'.to fun o q => (sb.2 _ D.i1z).trans q
    · exact h2'.to fun o q => (sb.2 _ D.i2z).trans q
    · have hlt : c < s.heap.objs.size := by
        have e' : c = z ∨ c = TI ∨ c = TO ∨ c = i1 ∨ c = i2 := by simpa using hcm
        rcases e' with q | q | q | q | q
        · rw [q]; exact hzl
        · rw [q]; exact Heap.lt_size hTI
        · rw [q]; exact Heap.lt_size hTO
        · rw [q]; obtain ⟨_, e1, _⟩ := h1.ob; exact Heap.lt_size e1
        · rw [q]; obtain ⟨_, e2, _⟩ := h2.ob; exact Heap.lt_size e2
      rw [upd_ne (Nat.ne_of_lt hlt)]
      exact (hf c hcm).1
  done := by
    intro X hP hw hK hc i pins s σ H E I hf st hg
    subst hP hw hK
    obtain ⟨hz, hTI, ⟨x0, y0, hTO⟩, h1, h2⟩ := st
    obtain ⟨xs, ys, hqx, hqy, hend⟩ := hg
    obtain ⟨its, rv, p, _⟩ := I.sqx hqx
    obtain ⟨its2, rv2, p2, _⟩ := I.sqx hqy
    have l1 := rv.length
    have l2 := rv2.length
    have he : its.toArray[i]? = none ∨ its2.toArray[i]? = none := by
      rcases hend with q | q
      · exact .inl (by simp; omega)
      · exact .inr (by simp; omega)
    exact stop_zipG (I.ok.hd hc) D hz hTI hTO h1 h2 p p2 he fun h' hk => ⟨rfl, I.turnedL (t' := s.toks) (ch := [z, TI, TO, i1, i2]) (fun c o hb q =>
      hk c o (fun q' => hb (by simp [q'])) (fun q' => hb (by simp [q'])) (fun q' => hb (by simp [q'])) (fun q' => hb (by simp [q'])) q) hf⟩
  self := fun A i s Q E st h => wpAny_pyIter_zip st.1 h
def iZipG (K : PySem.W.Frag) (ta : TA) : TI := fun σ H R => ta σ H fun vs H1 => ∃ b c a m xs ys, vs = [.ref a, .ref m] ∧ SqX K H1 b a xs ∧ SqX K H1 c m ys ∧ R (ItzG K b c a m) H1
theorem pi_zipG {e e2 : Expr} {ta : TA} {p pos tpos : Pos} {elts : List Expr} {kk : Nat} (hg : Gl X "zip") (hm : X.mg "zip" = none) (ha : PA X [e, e2] ta)
    (hs : starEach [e, e2] X.env = (false, eval e X.env) :: starEach [e2] X.env := by rfl) (hpl : (backTo pos (starEach [e2] X.env)).any (·.1) = false := by rfl) :
    PI X (.Tuple elts kk tpos) (.Call (.Name "zip" p) [e, e2] [] pos) (iZipG X.K ta) := by
  intro pins s σ H R I h
  refine Call_ (ld_blt I hg hm boot_zip5 (PyProof.Rows.callWith_type1 (thn (ha pos pins s σ H _ I h) fun us s1 ⟨vs, H1, I1, r1, q1⟩ => ?_) hs hpl))
  obtain ⟨b, c, a, m, xs, ys, ex, hqx, hqy, q⟩ := q1
  subst ex
  cases r1 with
  | cons r rr =>
    cases rr with
    | cons r' rr =>
      cases rr
      cases r
      cases r'
      obtain ⟨its, rv, p1, _⟩ := I1.sqx hqx
      obtain ⟨its2, rv2, p2, _⟩ := I1.sqx hqy
      refine call_zipG p1 p2 fun h' hz hTI hTO h1 h2 hsz hk => wpAny_pyIter_zip hz ?_
      have I2 : Inv X pins σ H1 { s1 with heap := h' } := I1.kept (t' := s1.toks) hk
      refine ⟨s1.heap.objs.size + 4, [s1.heap.objs.size + 4, s1.heap.objs.size + 2, s1.heap.objs.size + 3, s1.heap.objs.size, s1.heap.objs.size + 1], _, _, H1, rfl, I2, turn_zipG (PySem.W.ktu_apart s1.heap.objs.size a m p1.lt p2.lt), ⟨hz, hTI, ⟨_, _, hTO⟩, h1, h2⟩, fun c hcm => ?_, q⟩
      have e' : c = s1.heap.objs.size + 4 ∨ c = s1.heap.objs.size + 2 ∨ c = s1.heap.objs.size + 3 ∨ c = s1.heap.objs.size ∨ c = s1.heap.objs.size + 1 := by simpa using hcm
      have hle : s1.heap.objs.size ≤ c := by
        rcases e' with z | z | z | z | z
        · rw [z]; exact Nat.le_add_right _ _
        · rw [z]; exact Nat.le_add_right _ _
        · rw [z]; exact Nat.le_add_right _ _
        · rw [z]; exact Nat.le_refl _
        · rw [z]; exact Nat.le_add_right _ _
      exact I1.fpOk hle (I1.hok.fresh hle)
theorem qi_zipG {e e2 : Expr} {ta : TA} {p pos tpos : Pos} {elts : List Expr} {kk : Nat} (hg : Gl X "zip") (hm : X.mg "zip" = none) (ha : QA X [e, e2] ta) (hs : starEach [e, e2] X.env = (false, eval e X.env) :: starEach [e2] X.env := by rfl) (hpl : (backTo pos (starEach [e2] X.env)).any (·.1) = false := by rfl) :
    QI X (.Tuple elts kk tpos) (.Call (.Name "zip" p) [e, e2] [] pos) (iZipG X.K ta) := ⟨pi_zipG hg hm ha.go hs hpl⟩
theorem for_zipG {K : PySem.W.Frag} {b c : Bool} {a m : Addr} {xs ys : List V} {g : TG} {tb : TS} {D : Ends} {σ : St} {H : Hp} (Pv : Nat → St → Hp → Prop) (h0 : Pv 0 σ H) (hl : ∀ i σ H, i ≤ min xs.length ys.length → Pv i σ H → SqX K H b a xs ∧ SqX K H c m ys)
    (hs : ∀ i x y T σ H, xs[i]? = some x → ys[i]? = some y → Pv i σ H → H T = none → g (.ref T) σ (upd H T (.tup [x, y])) fun σ2 H2 => tb { D with nx := Pv (i + 1), ct := Pv (i + 1), bk := D.nx } σ2 H2) (hd : ∀ σ H, Pv (min xs.length ys.length) σ H → D.nx σ H) :
    ∃ W : Nat → Nat → St → Hp → Prop, (∃ n, W 0 n σ H) ∧ ∀ i n σ H, W i n σ H →
      ((ItzG K b c a m).stop i H ∧ D.nx σ H) ∨ ((ItzG K b c a m).go i H ∧ ∃ N : St → Hp → Prop, (∀ σ' H', N σ' H' → ∃ n', n' < n ∧ W (i + 1) n' σ' H') ∧ ∀ x H', (ItzG K b c a m).yld i H x H' → g x σ H' fun σ2 H2 => tb { D with nx := N, ct := N, bk := D.nx } σ2 H2) := by
  refine ⟨fun i n σ H => n = min xs.length ys.length - i ∧ i ≤ min xs.length ys.length ∧ Pv i σ H, ⟨min xs.length ys.length, by simp, Nat.zero_le _, h0⟩, ?_⟩
  rintro i n σ H ⟨rfl, hi, p⟩
  obtain ⟨q, q'⟩ := hl i σ H hi p
  by_cases hlt : i < min xs.length ys.length
  · refine .inr ⟨⟨xs, ys, xs[i], ys[i], q, q', by simp [show i < xs.length by omega], by simp [show i < ys.length by omega]⟩, Pv (i + 1), fun σ' H' p' => ⟨min xs.length ys.length - (i + 1), by omega, rfl, hlt, p'⟩, fun v H' y => ?_⟩
    obtain ⟨T, x, y, rfl, hT, rfl, e1, e2⟩ := y
    exact hs i x y T σ H (e1 xs q) (e2 ys q') p hT
  · have e : i = min xs.length ys.length := by omega
    subst e
    exact .inl ⟨⟨xs, ys, q, q', by omega⟩, hd σ H p⟩
theorem lc_zipG {K : PySem.W.Frag} {b c : Bool} {a m : Addr} {xs ys : List V} {g : TG} {tt : TT} {te : TE} {vs : List Nat} {σ : St} {H1 : Hp} {D : Addr} {Qd : Hp → Prop} (Pv : Nat → Hp → Prop) (h0 : Pv 0 (upd H1 D (.lst []))) (hl : ∀ i H, i ≤ min xs.length ys.length → Pv i H → SqX K H b a xs ∧ SqX K H c m ys)
    (hs : ∀ i x y T H, xs[i]? = some x → ys[i]? = some y → Pv i H → H T = none → g (.ref T) (wipe σ vs) (upd H T (.tup [x, y])) fun σ2 H2 => wipe σ2 vs = wipe σ vs ∧ tt σ2 H2 fun b H3 =>
      if b = true then te σ2 H3 fun y H4 => ∃ acc, H4 D = some (.lst acc) ∧ acc.length < sizeLine ∧ Pv (i + 1) (upd H4 D (.lst (acc ++ [y]))) else Pv (i + 1) H3) (hd : ∀ H, Pv (min xs.length ys.length) H → Qd H) :
    ∃ W : Nat → Nat → Hp → Prop, (∃ n, W 0 n (upd H1 D (.lst []))) ∧ ∀ i n H, W i n H →
      ((ItzG K b c a m).stop i H ∧ Qd H) ∨ ((ItzG K b c a m).go i H ∧ ∃ Nx : Hp → Prop, (∀ H', Nx H' → ∃ n', n' < n ∧ W (i + 1) n' H') ∧ ∀ x H', (ItzG K b c a m).yld i H x H' → g x (wipe σ vs) H' fun σ2 H2 => wipe σ2 vs = wipe σ vs ∧ tt σ2 H2 fun b H3 =>
        if b = true then te σ2 H3 fun y H4 => ∃ acc, H4 D = some (.lst acc) ∧ acc.length < sizeLine ∧ Nx (upd H4 D (.lst (acc ++ [y]))) else Nx H3) := by
  refine ⟨fun i n H => n = min xs.length ys.length - i ∧ i ≤ min xs.length ys.length ∧ Pv i H, ⟨min xs.length ys.length, by simp, Nat.zero_le _, h0⟩, ?_⟩
  rintro i n H ⟨rfl, hi, p⟩
  obtain ⟨q, q'⟩ := hl i H hi p
  by_cases hlt : i < min xs.length ys.length
  · refine .inr ⟨⟨xs, ys, xs[i], ys[i], q, q', by simp [show i < xs.length by omega], by simp [show i < ys.length by omega]⟩, Pv (i + 1), fun H' p' => ⟨min xs.length ys.length - (i + 1), by omega, rfl, hlt, p'⟩, fun v H' y => ?_⟩
    obtain ⟨T, x, y, rfl, hT, rfl, e1, e2⟩ := y
    exact hs i x y T H (e1 xs q) (e2 ys q') p hT
  · have e : i = min xs.length ys.length := by omega
    subst e
    exact .inl ⟨⟨xs, ys, q, q', by omega⟩, hd H p⟩
end
end L2

set_option Elab.async false
set_option linter.all false
set_option maxRecDepth 100000
set_option maxHeartbeats 4000000
namespace L2
open PySem PySem.Spec PyProof.Rows

abbrev Fam (α : Type) := Shared → Hp → Addr → List (Str × Addr) → List Addr → α
def allE (t : Fam TE) : TE := fun σ H Q => ∀ a b c d e, t a b c d e σ H Q
def allT (t : Fam TT) : TT := fun σ H Q => ∀ a b c d e, t a b c d e σ H Q
def allG (t : Fam TG) : TG := fun v σ H Q => ∀ a b c d e, t a b c d e v σ H Q
section
variable {X : Cx} {elt tg iter : Expr} {ifs : List Expr} {scope : Scope} {own : List (Str × Nat)} {pos spos py : Pos} {wi : TI} {g : Fam TG} {tt : Fam TT} {te : Fam TE} {i : Nat} {y : Str}
theorem qe_lcK (hc : X.calm = true) (hN : X.N.Nodup) (hi : QI X tg iter wi) (ok : BlkOk X.N X.env.scope scope own) (hg : ∀ s H C cl fp, QG (X.blk s H scope (compEnvC scope cl C X.env) fp) tg (g s H C cl fp)) (ht : ∀ s H C cl fp, QTs (X.blk s H scope (compEnvC scope cl C X.env) fp) ifs (tt s H C cl fp))
    (he : ∀ s H C cl fp, QE (X.blk s H scope (compEnvC scope cl C X.env) fp) elt (te s H C cl fp)) (hs : ∀ x, foldedSetIterable iter X.env x = pure x := by intro _; rfl) : QE X (.ListComp elt [⟨tg, iter, ifs, 0⟩] scope pos) (tLc wi (allG g) (allT tt) (allE te) (own.map (·.2))) :=
  qe_lc hc hN hi ok (fun s H C cl fp => ⟨fun pins s' σ' H' v u Q I r z => (hg s H C cl fp).go pins s' σ' H' v u Q I r (z s H C cl fp)⟩) (fun s H C cl fp => ⟨fun pins s' σ' H' Q I z => (ht s H C cl fp).go pins s' σ' H' Q I (z s H C cl fp)⟩)
    (fun s H C cl fp => ⟨fun pins s' σ' H' Q I z => (he s H C cl fp).go pins s' σ' H' Q I (z s H C cl fp)⟩) hs
theorem qs_setLcK (hc : X.calm = true) (hN : X.N.Nodup) (hy : X.N[i]? = some y) (hyl : X.env.scope.names.lookup y = some .local) (hsw : swapsWith (.ListComp elt [⟨tg, iter, ifs, 0⟩] scope pos) (some (.Name y py)) spos.line X.env = pure true) (hi : QI X tg iter wi) (ok : BlkOk X.N X.env.scope scope own)
    (hg : ∀ s H C cl fp, QG (X.blk s H scope (compEnvC scope cl C X.env) fp) tg (g s H C cl fp)) (ht : ∀ s H C cl fp, QTs (X.blk s H scope (compEnvC scope cl C X.env) fp) ifs (tt s H C cl fp))
    (he : ∀ s H C cl fp, QE (X.blk s H scope (compEnvC scope cl C X.env) fp) elt (te s H C cl fp)) (hs : ∀ x, foldedSetIterable iter X.env x = pure x := by intro _; rfl) : QS X (.Assign [.Name y py] (.ListComp elt [⟨tg, iter, ifs, 0⟩] scope pos) spos) (tAsg (tLc wi (allG g) (allT tt) (allE te) (own.map (·.2))) (gName i)) :=
  qs_setLc hc hN hy hyl hsw hi ok (fun s H C cl fp => ⟨fun pins s' σ' H' v u Q I r z => (hg s H C cl fp).go pins s' σ' H' v u Q I r (z s H C cl fp)⟩) (fun s H C cl fp => ⟨fun pins s' σ' H' Q I z => (ht s H C cl fp).go pins s' σ' H' Q I (z s H C cl fp)⟩)
    (fun s H C cl fp => ⟨fun pins s' σ' H' Q I z => (he s H C cl fp).go pins s' σ' H' Q I (z s H C cl fp)⟩) hs
end
section
variable {X : Cx} {pos : Pos} {body : List Stmt} {hs : List ExceptHandler} {h0 : ExceptHandler} {th : Addr → Addr → TS} {tb : (St → XK) → (Value → Shared → Prop) → List (Addr × Obj) → TS}
def tTryK (tb : (St → XK) → (Value → Shared → Prop) → List (Addr × Obj) → TS) (th : Addr → Addr → TS) : TS := fun D σ H => ∀ EH pn, tb (exTry th D) EH pn D σ H
end

section
variable {X : Cx} {CX : CXT} {k : Nat} {f1 f2 : Addr} {fd1 fd2 : FuncData} {ps1 ps2 : List Str} {sp1 sp2 : Sp} {EX : St → XK} {x : Str} {p pos : Pos} {e : Expr} {es : List Expr} {t : TA} {tf : TE}
def tCallV (f1 f2 : Addr) (sp1 sp2 : Sp) (EX : St → XK) (tf : TE) (t : TA) : TE := fun σ H Q => tf σ H fun fv H0 => (fv = .ref f1 ∨ fv = .ref f2) ∧ t σ H0 fun vs H1 => (fv = .ref f1 → sp1 vs H1 Q (EX σ)) ∧ (fv = .ref f2 → sp2 vs H1 Q (EX σ))
end

def CShB (i j : Int) : Prop := 0 ≤ j ∧ j ≤ 1000000 ∧ i.natAbs < 2 ^ 4000
section
variable {X : Cx}
def NoFl : V → Prop
  | .flt _ => False
  | .byt _ => False
  | _ => True
theorem eq_self {A : Around} {s : Shared} {v : V} {u u' : Value} (h : NoFl v) (r : RelV v u) (r' : RelV v u') : SeqAt.EqAt A s u u' true := by
  cases v with
  | non => cases (show u = Value.none from r); cases (show u' = Value.none from r'); exact SeqAt.EqAt.same _
  | bl b => cases (show u = Value.bool b from r); cases (show u' = Value.bool b from r'); exact SeqAt.EqAt.same _
  | int i =>
    obtain ⟨t, rfl⟩ := r
    obtain ⟨t', rfl⟩ := r'
    have q := SeqAt.EqAt.int_int (A := A) (s := s) i t i t'
    rw [beq_self_eq_true] at q
    exact q
  | str x =>
    obtain ⟨t, rfl⟩ := r
    obtain ⟨t', rfl⟩ := r'
    have q := SeqAt.EqAt.str_str (A := A) (s := s) x t x t'
    rw [beq_self_eq_true] at q
    exact q
  | byt b => exact h.elim
  | flt b => exact h.elim
  | ref a => cases (show u = Value.ref a from r); cases (show u' = Value.ref a from r'); exact SeqAt.EqAt.same _
  | ty n => cases (show u = Value.type n from r); cases (show u' = Value.type n from r'); exact SeqAt.EqAt.same _
def rEqM (K : PySem.W.Frag) : R2 := fun x y H Q => rEqD K x y H Q ∨ (∃ a, x = .ref a ∧ y = .ref a ∧ H a = some (.dK []) ∧ Q (.bl true) H) ∨ ∃ a b xs, x = .ref a ∧ y = .ref b ∧ SqL K H a xs ∧ SqL K H b xs ∧ (∀ v ∈ xs, NoFl v) ∧ Q (.bl true) H
def rNeM (K : PySem.W.Frag) : R2 := fun x y H Q => rNeD K x y H Q ∨ (∃ a, x = .ref a ∧ y = .ref a ∧ H a = some (.dK []) ∧ Q (.bl false) H) ∨ ∃ a b xs, x = .ref a ∧ y = .ref b ∧ SqL K H a xs ∧ SqL K H b xs ∧ (∀ v ∈ xs, NoFl v) ∧ Q (.bl false) H
theorem items_self {A : Around} {pins : List (Addr × Obj)} {σ : St} {H : Hp} {s : Shared} {a b : Addr} {xs : List V} (I : Inv X pins σ H s) (ha : SqL X.K H a xs) (hb : SqL X.K H b xs) (hn : ∀ v ∈ xs, NoFl v) :
    ∃ i1 i2 : List Value, s.heap.IsList a i1.toArray ∧ s.heap.IsList b i2.toArray ∧ i1.toArray.size = i2.toArray.size ∧ ∀ j (h1 : j < i1.toArray.size) (h2 : j < i2.toArray.size), SeqAt.EqAt A s i1.toArray[j] i2.toArray[j] true := by
  obtain ⟨i1, r1, p1, _⟩ := I.list ha
  obtain ⟨i2, r2, p2, _⟩ := I.list hb
  have l1 := r1.length
  have l2 := r2.length
  refine ⟨i1, i2, p1.isList, p2.isList, by simp; omega, fun j h1 h2 => ?_⟩
  have hj : j < xs.length := by simp at h1; omega
  have hx : xs[j]? = some xs[j] := List.getElem?_eq_getElem hj
  obtain ⟨u, hu, ru⟩ := r1.get hx
  obtain ⟨u', hu', ru'⟩ := r2.get hx
  have e1 : i1.toArray[j] = u := by
    have := List.getElem?_eq_some_iff.mp hu
    obtain ⟨_, q⟩ := this
    simpa using q
  have e2 : i2.toArray[j] = u' := by
    have := List.getElem?_eq_some_iff.mp hu'
    obtain ⟨_, q⟩ := this
    simpa using q
  rw [e1, e2]
  exact eq_self (hn _ (List.getElem_mem hj)) ru ru'
theorem all_true (n : Nat) : (List.range n).all (fun _ => true) = true := by simp
theorem op_eqM (hu : X.A.units + 64 < cLine) : OpR X (compareOp .Eq) (rEqM X.K) := by
  intro pins s σ H x y v u Q I rx ry h
  rcases h with h | ⟨a, rfl, rfl, ha, q⟩ | ⟨a, b, xs, rfl, rfl, ha, hb, hn, q⟩
  · exact op_eqD hu pins s σ H x y v u Q I rx ry h
  · cases rx
    cases ry
    obtain ⟨_, hm, vs, kv, hd⟩ := (show ObjOk X.prog X.w H s.heap a (.dK []) from I.hok a _ ha)
    cases kv
    exact PySem.W.keq_eq (r := true) hm hm hd hd (by omega) (fun _ => .nil) ⟨.bl true, H, I, rfl, q⟩
  · cases rx
    cases ry
    obtain ⟨i1, i2, p1, p2, sz, he⟩ := items_self (A := X.A.in1) I ha hb hn
    refine SeqAt.eq_listAt (e := fun _ => true) p1 p2 sz (by omega) he ?_
    rw [all_true]
    exact ⟨.bl true, H, I, rfl, q⟩
theorem op_neM (hu : X.A.units + 64 < cLine) : OpR X (compareOp .NotEq) (rNeM X.K) := by
  intro pins s σ H x y v u Q I rx ry h
  rcases h with h | ⟨a, rfl, rfl, ha, q⟩ | ⟨a, b, xs, rfl, rfl, ha, hb, hn, q⟩
  · exact op_neD hu pins s σ H x y v u Q I rx ry h
  · cases rx
    cases ry
    obtain ⟨_, hm, vs, kv, hd⟩ := (show ObjOk X.prog X.w H s.heap a (.dK []) from I.hok a _ ha)
    cases kv
    exact PySem.W.keq_ne (r := true) hm hm hd hd (by omega) (fun _ => .nil) ⟨.bl false, H, I, rfl, q⟩
  · cases rx
    cases ry
    obtain ⟨i1, i2, p1, p2, sz, he⟩ := items_self (A := X.A.in1) I ha hb hn
    refine SeqAt.RcNeAt.lists (e := fun _ => true) p1 p2 sz (by omega) he _ _ _ _ ?_
    rw [all_true]
    exact ⟨.bl false, H, I, rfl, q⟩

end
end L2

set_option Elab.async false
set_option linter.all false
set_option maxRecDepth 100000
set_option maxHeartbeats 4000000
namespace L2
open PySem
def spSK (K : PySem.W.Frag) : Sp := fun vs H Q _ => ∃ (e C : Addr) (v : V), vs = [.ref e, v] ∧ H e = some (ExN e C) ∧ XSt K C ∧ Q .non H
/-- __init__ of one field -/
def spI1 (C : Addr) (f : Str) : Sp := fun vs H Q _ => ∃ (e : Addr) (v : V), vs = [.ref e, v] ∧ H e = some (ExN e C) ∧ ∀ dx, H dx = none → dx ≠ e → Q .non (upd (upd H dx (.xd [(f, v)])) e (ExF e C dx))
/-- a thing of a known kind -/
def Kd (K : PySem.W.Frag) (H : Hp) (x : V) : Prop := (∃ i, x = .int i) ∨ (∃ b, x = .bl b) ∨ ∃ t, TyOf K H x t ∧ PySem.W.kitOne K t (.type "int") = some false ∧ PySem.W.kitOne K t (.type "bool") = some false ∧ (∀ i, x ≠ .int i) ∧ ∀ b, x ≠ .bl b
def isI : V → Bool
  | .int _ => true
  | _ => false
def isB : V → Bool
  | .bl _ => true
  | _ => false
def inR (lo hi : Int) : V → Bool
  | .int i => decide (lo ≤ i) && decide (i ≤ hi)
  | _ => false
theorem isB_no {x : V} (h : ∀ i, x ≠ .bl i) : isB x = false := by
  cases x with
  | bl i => exact absurd rfl (h i)
  | _ => rfl
/-- the answer of isinstance(x, bool), of isinstance(x, int) -/
theorem Kd.bool {K : PySem.W.Frag} {H : Hp} {x : V} (k : Kd K H x) : ∃ t, TyOf K H x t ∧ PySem.W.kitOne K t (.type "bool") = some (isB x) := by
  rcases k with ⟨i, rfl⟩ | ⟨b, rfl⟩ | ⟨t, ty, _, k2, _, n2⟩
  · exact ⟨_, .int i, rfl⟩
  · exact ⟨_, .bl b, rfl⟩
  · rw [isB_no n2]; exact ⟨t, ty, k2⟩
def spWhole (K : PySem.W.Frag) : Sp := fun vs H Q _ => ∃ x : V, vs = [x] ∧ Kd K H x ∧ Q (.bl (isI x)) H
def spWithin (K : PySem.W.Frag) : Sp := fun vs H Q _ => ∃ (x : V) (lo hi : Int), vs = [x, .int lo, .int hi] ∧ Kd K H x ∧ Q (.bl (inR lo hi x)) H
/-- a refusal of class C with these fields, new, is on its way -/
structure Rz (H : Hp) (C : Addr) (fs : List (Str × V)) (e dx : Addr) (H' : Hp) : Prop where
  ob : H' e = some (ExO e C dx)
  dc : H' dx = some (.xd fs)
  sm : Same H H'
theorem Rz.pre {H0 H : Hp} {C : Addr} {fs : List (Str × V)} {e dx : Addr} {H' : Hp} (s : Same H0 H) (r : Rz H C fs e dx H') : Rz H0 C fs e dx H' := ⟨r.ob, r.dc, s.trans r.sm⟩
theorem Same.seqT {K : PySem.W.Frag} {H H' : Hp} {a : Addr} {xs : List V} (e : Same H H') (h : SqT K H a xs) : SqT K H' a xs := by
  rcases h with (h | ⟨o, h⟩) | h
  · exact .inl (.inl (e _ _ h))
  · exact .inl (.inr ⟨o, e _ _ h⟩)
  · exact .inr h
theorem Same.sqx {K : PySem.W.Frag} {H H' : Hp} {b : Bool} {a : Addr} {xs : List V} (e : Same H H') (h : SqX K H b a xs) : SqX K H' b a xs := by
  cases b
  · exact e.seqT h
  · exact e.seq h
abbrev bx (a b c : Int) : HO := .lst [.int a, .int b, .int c]
def Box (H : Hp) (p : Addr) : Prop := ∃ a b c, H p = some (bx a b c)
/-- all but p is as it was -/
def Keep (p : Addr) (H H' : Hp) : Prop := ∀ b o, H b = some o → b ≠ p → H' b = some o
theorem Keep.trans {p : Addr} {H H1 H2 : Hp} (a : Keep p H H1) (b : Keep p H1 H2) : Keep p H H2 := fun c o h n => b c o (a c o h n) n
theorem Keep.upd {p : Addr} {H : Hp} {o : HO} : Keep p H (upd H p o) := fun c u h n => by rw [upd_ne n]; exact h
theorem Keep.new {p q : Addr} {H : Hp} {o : HO} (h : H q = none) : Keep p H (_root_.L2.upd H q o) := fun c u e _ => by rw [upd_ne (ne_of_none e h)]; exact e
theorem Keep.refl {p : Addr} {H : Hp} : Keep p H H := fun _ _ h _ => h
theorem Box.new {p q : Addr} {H : Hp} {o : HO} (b : Box H p) (h : H q = none) : Box (_root_.L2.upd H q o) p := by
  obtain ⟨x, y, z, e⟩ := b
  exact ⟨x, y, z, by rw [upd_ne (ne_of_none e h)]; exact e⟩
theorem Box.ne {p q : Addr} {H : Hp} (b : Box H p) (h : H q = none) : p ≠ q := by
  obtain ⟨x, y, z, e⟩ := b
  exact ne_of_none e h
theorem Same.new {H H1 : Hp} {q : Addr} {o : HO} (s : Same H H1) (h : H1 q = none) : Same H (upd H1 q o) := fun b u e => by rw [upd_ne (ne_of_none (s b u e) h)]; exact s b u e
theorem Same.at {H H1 : Hp} {q : Addr} {o : HO} (s : Same H H1) (h : H q = none) : Same H (upd H1 q o) := fun b u e => by rw [upd_ne (ne_of_none e h)]; exact s b u e
theorem Same.keep {H H1 H2 : Hp} {p : Addr} (s : Same H H1) (h : H p = none) (k : Keep p H1 H2) : Same H H2 := fun b u e => k b u (s b u e) (ne_of_none e h)
theorem Same.old {H : Hp} {q : Addr} {o : HO} (h : H q = none) : Same H (upd H q o) := (Same.refl H).new h
theorem pick {α : Type} (xs : List α) {d : Int} (h0 : 0 ≤ d) (h1 : d < xs.length) : ∃ v, v ∈ xs ∧ atI xs d = some v := by
  have hlt : d.toNat < xs.length := by omega
  refine ⟨xs[d.toNat], List.getElem_mem hlt, ?_⟩
  have := atI_nat (xs := xs) (j := d.toNat) (List.getElem?_eq_getElem hlt)
  rw [← this]
  congr 1
  omega
theorem New.reset {H H' : Hp} {l : Addr} {o o' : HO} (n : New H l o H') : New H l o' (upd H' l o') := ⟨n.free, upd_same, fun b z => by rw [upd_ne z]; exact n.rest b z⟩
theorem Keep.box {p q : Addr} {H H' : Hp} (k : Keep q H H') (n : p ≠ q) (b : Box H p) : Box H' p := by
  obtain ⟨x, y, z, e⟩ := b
  exact ⟨x, y, z, k _ _ e n⟩
theorem Same.box {p : Addr} {H H' : Hp} (s : Same H H') (b : Box H p) : Box H' p := by
  obtain ⟨x, y, z, e⟩ := b
  exact ⟨x, y, z, s _ _ e⟩
theorem Same.toKeep {p : Addr} {H H' : Hp} (s : Same H H') : Keep p H H' := fun b o e _ => s b o e
theorem map_get {ns : List Int} {j : Nat} (h : j < ns.length) : (ns.map V.int)[j]? = some (.int (ns.getD j 0)) := by
  rw [List.getElem?_map, List.getElem?_eq_getElem h, List.getD_eq_getElem?_getD, List.getElem?_eq_getElem h]
  rfl
def spCell (K : PySem.W.Frag) : Sp := fun vs H Q _ => ∃ (a : Addr) (ns : List Int) (k : Int), vs = [.ref a, .int k] ∧ SqL K H a (ns.map V.int) ∧ 0 ≤ k ∧ ∀ c, Q (.int c) H
def spBox : Sp := fun vs H Q _ => ∃ c : Int, vs = [.int c] ∧ ∀ p H', H p = none → Box H' p → Same H H' → Q (.ref p) H'
def spTake : Sp := fun vs H Q _ => ∃ (p : Addr) (m : Int), vs = [.ref p, .int m] ∧ Box H p ∧ 0 < m ∧ m.natAbs.log2 < 9000 ∧ ∀ d H', 0 ≤ d → d < m → Box H' p → Keep p H H' → Q (.int d) H'
def spLaw (K : PySem.W.Frag) : Sp := fun vs H Q _ => ∃ (a : Addr) (ns : List Int), vs = [.ref a] ∧ SqL K H a (ns.map V.int) ∧ ns.length ≤ 63 ∧ ∀ H', Q (.bl true) H'
/-- a refused number -/
def spCR (K : PySem.W.Frag) (C : Addr) : Sp := fun vs H Q E => ∃ (x : V) (lo hi : Int), vs = [x, .int lo, .int hi] ∧ Kd K H x ∧ (inR lo hi x = true → Q .non H) ∧ (inR lo hi x = false → ∀ e dx H', Rz H C [("found", x)] e dx H' → E (.ref C) (some e) H')
def spCB (K : PySem.W.Frag) (C : Addr) : Sp := fun vs H Q E => ∃ (x : V) (b : Int), vs = [x, .int b] ∧ Kd K H x ∧ (inR 0 (b - 1) x = true → Q .non H) ∧ (inR 0 (b - 1) x = false → ∀ e dx H', Rz H C [("found", x)] e dx H' → E (.ref C) (some e) H')
end L2

set_option Elab.async false
set_option linter.all false
set_option maxRecDepth 100000
namespace L2
open PySem
theorem beq_no {x y : Value} (n : x ≠ y) : ¬ (x == y) = true := fun h => n (beq_iff_eq.mp h)
theorem kit_ty {K : PySem.W.Frag} {a : Addr} {T : String} {v : Bool} (m : PySem.W.kitMeta T = true) (s : PySem.W.subIn K (.ref a) (.type T) = some v) : PySem.W.kitOne K (.ref a) (.type T) = some v := by
  unfold PySem.W.kitOne
  rw [if_neg (beq_no (by intro z; cases z))]
  show (if PySem.W.kitMeta T = true then PySem.W.subIn K (.ref a) (.type T) else none) = _
  rw [if_pos m]
  exact s
theorem kit_ref {K : PySem.W.Frag} {a b : Addr} {v : Bool} {cd : Option Addr} {dd : ClassData} {sl : Array (Option Value)} (n : a ≠ b) (lk : K.lookup b = some ⟨.type "type", cd, .cls dd, sl⟩) (s : PySem.W.subIn K (.ref a) (.ref b) = some v) : PySem.W.kitOne K (.ref a) (.ref b) = some v := by
  unfold PySem.W.kitOne
  rw [if_neg (beq_no (by intro z; cases z; exact n rfl))]
  show (if ((PySem.W.clsIn K b).isSome && PySem.W.typeIn K (.ref b) == some (.type "type")) = true then PySem.W.subIn K (.ref a) (.ref b) else none) = _
  rw [if_pos ?_]
  · exact s
  · have e1 : PySem.W.clsIn K b = some dd := by unfold PySem.W.clsIn; rw [lk]
    have e2 : PySem.W.typeIn K (.ref b) = some (.type "type") := by show (K.lookup b).map (·.cls) = _; rw [lk]; rfl
    rw [e1, e2]
    rfl
theorem kit_self {K : PySem.W.Frag} {a : Addr} : PySem.W.kitOne K (.ref a) (.ref a) = some true := by
  unfold PySem.W.kitOne
  rw [if_pos (beq_iff_eq.mpr rfl)]
end L2

set_option Elab.async false
set_option linter.all false
set_option maxRecDepth 100000
namespace L2
open PySem PySem.Spec PyProof.Rows
section
variable {X : Cx}
def rngL (lo : Int) (n : Nat) : List V := (List.range n).map fun i => V.int (lo + (i : Nat))
abbrev TR := St → Hp → (Int → Int → Hp → Prop) → Prop
def RGE (X : Cx) (pins : List (Addr × Obj)) (σ : St) (R : Int → Int → Hp → Prop) (u : Value) (s' : Shared) : Prop := ∃ (s1 : Shared) (lo hi : Int) (t t2 t3 : Tok) (tk : Nat) (H1 : Hp), u = .ref s1.heap.objs.size ∧ s' = { s1 with heap := s1.heap.push { cls := .type "range", data := .fields #[.int lo t, .int hi t2, .int 1 t3] }, toks := tk } ∧ Inv X pins σ H1 s1 ∧ R lo hi H1
structure QRg (X : Cx) (e : Expr) (t : TR) : Prop where
  go : ∀ (pins : List (Addr × Obj)) (s : Shared) (σ : St) (H : Hp) (R : Int → Int → Hp → Prop), Inv X pins σ H s → t σ H R → wpAny (model X.prog X.w) X.A (eval e X.env) (RGE X pins σ R) X.xe s
def tR1 (ta : TA) : TR := fun σ H R => ta σ H fun vs H1 => ∃ j : Int, vs = [.int j] ∧ R 0 j H1
def tR2 (ta : TA) : TR := fun σ H R => ta σ H fun vs H1 => ∃ i j : Int, vs = [.int i, .int j] ∧ R i j H1
def RgOk (lo hi : Int) : Prop := -(2 ^ 62) ≤ lo ∧ lo < 2 ^ 62 ∧ -(2 ^ 62) ≤ hi ∧ hi < 2 ^ 62 ∧ (hi - lo).toNat ≤ 1000000
def tListR (tr : TR) : TE := fun σ H Q => tr σ H fun lo hi H1 => RgOk lo hi ∧ ∀ l, H1 l = none → Q (.ref l) (upd H1 l (.lst (rngL lo (hi - lo).toNat)))
def tTupR (tr : TR) : TE := fun σ H Q => tr σ H fun lo hi H1 => RgOk lo hi ∧ ∀ l, H1 l = none → Q (.ref l) (upd H1 l (.tup (rngL lo (hi - lo).toNat)))
end
section
variable {prog : Program} {w : World} {A : Around} {E : Value → Shared → Prop} {s : Shared}
end
section
variable {X : Cx}
def rCatU (K : PySem.W.Frag) : R2 := fun x y H Q => ∃ a b xs ys, x = .ref a ∧ y = .ref b ∧ SqT K H a xs ∧ SqT K H b ys ∧ xs.length + ys.length ≤ sizeLine ∧ ∀ p H', SqT K H' p (xs ++ ys) → (H' = H ∨ (H p = none ∧ H' = upd H p (.tup (xs ++ ys)))) → Q (.ref p) H'
end
section
open PySem.SeqAt
open PySem.AutoSeq1 (wpAny_loadPart')
open PySem.MeetsSeq PySem.MeetsSeq2 PySem.MeetsSeq3
def lexLe : List Int → List Int → Bool
  | [], _ => true
  | _ :: _, [] => false
  | x :: xs, y :: ys => if x = y then lexLe xs ys else decide (x ≤ y)
open HT (eqAt_int)
end
section
variable {X : Cx}
def rLeT (K : PySem.W.Frag) : R2 := fun x y H Q => ∃ a b ns ms, x = .ref a ∧ y = .ref b ∧ SqT K H a (ns.map V.int) ∧ SqT K H b (ms.map V.int) ∧ Q (.bl (lexLe ns ms)) H
def rSlX (K : PySem.W.Frag) : V → Option Int → Option Int → Hp → VK → Prop := fun x lo hi H Q => rSlL K x lo hi H Q ∨ rSlT K x lo hi H Q
end
section
variable {prog : Program} {w : World} {A : Around} {E : Value → Shared → Prop} {s : Shared}
end
section
variable {X : Cx}

def rSortedX (K : PySem.W.Frag) : List V → Hp → VK → Prop := fun vs H Q => ∃ (b : Bool) (a : Addr) (ns : List Int), vs = [V.ref a] ∧ SqX K H b a (ns.map V.int) ∧ ns.length < 64 ∧
  ∀ (ns' : List Int) (p : Addr), ns'.Perm ns → ns'.Pairwise (· ≤ ·) → H p = none → Q (.ref p) (upd H p (.lst (ns'.map V.int)))
end
end L2

set_option Elab.async false
set_option linter.all false
set_option maxRecDepth 100000
set_option maxHeartbeats 4000000
namespace L2
open PySem PySem.Spec PyProof.Rows
section
variable {X : Cx}
end
section
variable {X : Cx}
/-- t + u of two tuples that stand in H -/
def rCatV : R2 := fun x y H Q => ∃ a b xs ys, x = .ref a ∧ y = .ref b ∧ H a = some (.tup xs) ∧ H b = some (.tup ys) ∧ xs.length + ys.length ≤ sizeLine ∧ ∀ p H', H' p = some (.tup (xs ++ ys)) → Same H H' → Q (.ref p) H'
end
/-- tuple(x) of a list or a tuple -/
def rTup (K : PySem.W.Frag) : List V → Hp → VK → Prop := fun xs H Q => ∃ p ys, xs = [.ref p] ∧ ((SqL K H p ys ∧ ∀ l, H l = none → Q (.ref l) (upd H l (.tup ys))) ∨ (SqT K H p ys ∧ Q (.ref p) H))
/-- a list or a tuple that stands in H -/
def obX (b : Bool) (xs : List V) : HO := if b = true then .lst xs else .tup xs
theorem SqX.or {K : PySem.W.Frag} {H : Hp} {b : Bool} {a : Addr} {xs : List V} (h : SqX K H b a xs) : SqL K H a xs ∨ SqT K H a xs := by
  cases b
  · exact .inr h
  · exact .inl h
/-- the numbers from 0 on -/
def rng (n : Nat) : List Int := (List.range n).map fun i => ((i : Nat) : Int)
end L2

set_option Elab.async false
set_option linter.all false
set_option maxRecDepth 100000
set_option maxHeartbeats 4000000
namespace L2
open PySem PySem.Spec PyProof.Rows

section
variable {X : Cx}
def tSlRev (K : PySem.W.Frag) (te tk : TE) : TE := fun σ H Q => te σ H fun x H1 => tk σ H1 fun y H2 => y = .int (-1) ∧ ∃ a xs, x = .ref a ∧ SqL K H2 a xs ∧ ∀ p, H2 p = none → Q (.ref p) (upd H2 p (.lst xs.reverse))
end

section
variable {prog : Program} {w : World} {A : Around} {E : Value → Shared → Prop} {s : Shared}
abbrev rvObj (a b : Int) : Obj := { cls := .type "range_iterator", data := .fields #[rawInt (a + (Builtin.Range.rangeSize a b 1 - 1) * 1), rawInt (Builtin.Range.rangeSize a b 1), rawInt (-1)] }
theorem fits {i : Int} (h1 : -(2 ^ 63) ≤ i) (h2 : i < 2 ^ 63) : Builtin.Range.rangeFitsLong i = true := by
  unfold Builtin.Range.rangeFitsLong
  rw [decide_eq_true h1, decide_eq_true h2]
  rfl
end
section
variable {X : Cx} {tg : Expr}
def iRevR (tr : TR) : TI := fun σ H R => tr σ H fun lo hi H1 => RgOk lo hi ∧ R (Itc (lo + ((hi - lo).toNat : Int) - 1) (-1) (hi - lo).toNat) H1
end
end L2

set_option Elab.async false
set_option linter.all false
set_option maxRecDepth 100000
set_option maxHeartbeats 4000000
namespace L2
open PySem PySem.Spec PyProof.Rows
namespace RV
end RV
def IsRv (h : Heap) (a t : Addr) (i : Int) : Prop := ∃ o, h.get? a = some o ∧ o.cls = .type "reversed" ∧ o.data = .fields #[.ref t, rawInt i]
abbrev rtObj (t : Addr) (i : Int) : Obj := { cls := .type "reversed", data := .fields #[.ref t, rawInt i] }
section
variable {prog : Program} {w : World} {A : Around} {E : Value → Shared → Prop} {s : Shared}
theorem IsRv.typeIs {a t : Addr} {i : Int} (x : IsRv s.heap a t i) : s.TypeIs (.ref a) "reversed" := let ⟨o, ho, hc, _⟩ := x; ⟨o, ho, hc⟩
theorem IsRv.at {h h' : Heap} {a l : Addr} {i : Int} (x : IsRv h a l i) (e : ∀ o, h.get? a = some o → h'.get? a = some o) : IsRv h' a l i := let ⟨o, ho, r⟩ := x; ⟨o, e _ ho, r⟩
end

def ItvX (K : PySem.W.Frag) (b : Bool) (a : Addr) (n : Nat) : It :=
  ⟨fun i H => i < n ∧ ∃ (xs : List V) (x : V), SqX K H b a xs ∧ xs[n - 1 - i]? = some x, fun i H x H' => H' = H ∧ ∀ xs, SqX K H b a xs → xs[n - 1 - i]? = some x, fun i _ => n ≤ i⟩
def iRevX (K : PySem.W.Frag) (ta : TA) : TI := fun σ H R => ta σ H fun vs H1 => ∃ (b : Bool) (a : Addr) (xs : List V), vs = [.ref a] ∧ SqX K H1 b a xs ∧ R (ItvX K b a xs.length) H1
end L2

set_option Elab.async false
set_option linter.all false
set_option maxRecDepth 100000
set_option maxHeartbeats 4000000
namespace L2
open PySem PySem.Spec PyProof.Rows

def CanM (P : Program) (w : World) (K : PySem.W.Frag) (mg : Str → Option Value) (base : Heap) (CX : CXT) (k : Nat) (m : Str) (ps : List Str) (C : Addr) (sp : Sp) : Prop :=
  ∃ f fd, Cls K C ∧ Meth K C m f ∧ FnOk P w K mg base CX k f fd ps sp ∧ Binds K fd ps []
def tMethD (fam : Addr → Sp → Prop) (m : Str) (E : XK) (ta : TE) (t : TA) : TE := fun σ H Q => ta σ H fun x H1 => ∃ a C dx fs sp, x = .ref a ∧ H1 a = some (.ins C dx fs) ∧ fs.lookup m = none ∧ fam C sp ∧ t σ H1 fun vs H2 => sp (.ref a :: vs) H2 Q E
section
variable {X : Cx} {CX : CXT} {k : Nat} {o e : Expr} {es : List Expr} {m : Str} {ps : List Str} {ta : TE} {t : TA} {E : XK} {apos pos : Pos} {fam : Addr → Sp → Prop}
end
/-- what isinstance asks of an own class -/
structure Ins (K : PySem.W.Frag) (C : Addr) : Prop where
  cl : Cls K C
  ha : PySem.W.findIn K (.ref C) "__class__" = some (some (.builtin "object.__class__"))
  hn : PySem.W.specialIn K (.builtin "object.__class__") "__get__" = some (some (.builtin "getset_descriptor.__get__"))
  htk : PySem.W.takesIn K (.builtin "object.__class__") = some true
  hm : PySem.W.mroIn K C (.type "object") = some true
end L2

set_option Elab.async false
set_option linter.all false
set_option maxRecDepth 100000

namespace L2
open PySem PySem.Spec PyProof.Rows

/-- room for d calls within one another -/
structure RRoom (d : Nat) (A : Around) : Prop where
  hd : A.handled = none
  dp : A.depth + 3 * d < recursionLimit
theorem RRoom.mono {j k : Nat} {A : Around} (r : RRoom k A) (h : j ≤ k) : RRoom j A := ⟨r.hd, by have := r.dp; omega⟩

structure RC where
  P : Program
  w : World
  K : PySem.W.Frag
  mg : Str → Option Value
  base : Heap
  env : Env
  m : Str → Option Value
  d : Nat
  cs : List (Addr × Value) := []
structure RC.At (C : RC) (A : Around) (s : Shared) : Prop where
  rm : RRoom C.d A
  bk : ∀ b o, C.base.get? b = some o → s.heap.get? b = some o
  ns : s.heap.Ns C.env.locals C.m
  cl : ∀ q ∈ C.cs, s.heap.IsCell q.1 (some q.2)
structure RC.Ok (C : RC) : Prop where
  mod : Mod C.K C.mg C.base
  kind : C.env.scope.kind = .function
  glob : C.env.globals = mainGlobals
  blt : C.env.builtins = builtinsNs

/-- e comes to a value of which F is true, and all stays -/
def RE (C : RC) (e : Expr) (F : Value → Prop) : Prop := ∀ (A : Around) (E : Value → Shared → Prop) (s : Shared), C.At A s →
  wpAny (model C.P C.w) A (eval e C.env) (fun u s' => F u ∧ Keeps s s') E s
def RA (C : RC) (es : List Expr) (F : List Value → Prop) : Prop := ∀ (pos : Pos) (A : Around) (E : Value → Shared → Prop) (s : Shared), C.At A s →
  wpAny (model C.P C.w) A (spliced (backTo pos (starEach es C.env))) (fun us s' => F us ∧ Keeps s s') E s
/-- a def that changes nothing -/
def RF (P : Program) (w : World) (base : Heap) (d : Nat) (f : Addr) (pre : List Value → Value → Prop) : Prop :=
  ∀ (us : List Value) (r : Value), pre us r → ∀ (A : Around) (s : Shared), RRoom d A → (∀ b o, base.get? b = some o → s.heap.get? b = some o) →
    codeAny (model P w) A (.call (.ref f) ⟨us, []⟩) (fun r' s' => r' = .ok (.ret r) ∧ Keeps s s') s

section
variable {C : RC} {a b c e : Expr} {es rest : List Expr} {x : Str} {pos p : Pos} {u v : Value} {i j k : Int} {c1 c2 : Bool}
def rInt (i : Int) (u : Value) : Prop := ∃ t, u = .int i t

end

end L2

set_option Elab.async false
set_option linter.all false
set_option maxRecDepth 100000

namespace L2
open PySem PySem.Spec PyProof.Rows

/-- a code object's table lies at P -/
def TabAt (P : Addr) (h : Heap) : Prop := ∃ ps : Array Value, h.get? P = some (PySem.W.tabObj ps) ∧ TriplesOk ps.toList
theorem TabAt.ne {P b : Addr} {h : Heap} {o : Obj} (x : TabAt P h) (e : h.get? b = some o) (d : ∀ vs, o.data ≠ .fields vs) : b ≠ P := by
  rintro rfl
  obtain ⟨ps, q, _⟩ := x
  rw [q] at e
  cases e
  exact d ps rfl
/-- what is walked: a list, a tuple -/
structure SrcAt (prog : Program) (w : World) (A : Around) (l : Addr) (items : Array Value) (s : Shared) : Prop where
  ex : ∃ (io : Obj) (St : Nat → Heap → Prop), (∀ (R E : Value → Shared → Prop), R (.ref s.heap.objs.size) { s with heap := s.heap.push io } → wpAny (model prog w) A (pyIter (.ref l)) R E s) ∧
    (∀ A' : Around, A'.handled = none → Walks prog w A' s.heap.objs.size [s.heap.objs.size, l] [s.heap.objs.size] items.size (fun i v => items[i]? = some v) St) ∧ St 0 (s.heap.push io)
  lt : ∃ o, s.heap.get? l = some o ∧ o.cls ≠ .none
theorem SrcAt.lst {prog : Program} {w : World} {A : Around} {l : Addr} {items : Array Value} {s : Shared} (h : s.heap.IsList l items) : SrcAt prog w A l items s := by
  obtain ⟨o, e, hc, n, hd⟩ := id h
  have hlt := Heap.lt_size e
  refine ⟨⟨_, _, fun R E q => wpAny_pyIter_list h q, fun A' hA => Walks.list hA s.heap.objs.size l (Nat.ne_of_lt hlt) items, ⟨_, Heap.get?_push_size _ rfl, rfl, rfl⟩, h.push _⟩, ⟨o, e, by rw [hc]; exact fun q => nomatch q⟩⟩
theorem SrcAt.tup {prog : Program} {w : World} {A : Around} {l : Addr} {items : Array Value} {s : Shared} (h : s.heap.IsTuple l items) : SrcAt prog w A l items s := by
  obtain ⟨o, e, hc, hd⟩ := id h
  have hlt := Heap.lt_size e
  refine ⟨⟨_, _, fun R E q => wpAny_pyIter_tuple h q, fun A' hA => Walks.tuple hA s.heap.objs.size l (Nat.ne_of_lt hlt) items, ⟨_, Heap.get?_push_size _ rfl, rfl, rfl⟩, h.push _⟩, ⟨o, e, by rw [hc]; exact fun q => nomatch q⟩⟩

section
variable {prog : Program} {w : World} {A : Around} {E : Value → Shared → Prop} {s : Shared}
end
end L2

set_option Elab.async false
set_option linter.all false
set_option maxRecDepth 100000
namespace L2
open PySem PySem.Spec PyProof.Rows

/-- a code object's table, tracked -/
def TabO (P : Addr) : HO := .ext (TabAt P)
/-- the names of the module, with its __builtins__ -/
def BM (mg : Str → Option Value) (base : Heap) : Prop := ∃ bm ob, BMod base mainGlobals mg bm ob
/-- the context of an element: x is bound to u -/
structure ElC (X : Cx) (d : Nat) (scope : Scope) (x : Str) (u : Value) (C : RC) : Prop where
  ok : C.Ok
  P : C.P = X.prog
  w : C.w = X.w
  K : C.K = X.K
  mg : C.mg = X.mg
  base : C.base = X.base
  sc : C.env.scope = scope
  m : C.m x = some u
  d : C.d = d

/-- all(e for x in y), y a list or a tuple -/
def tAllG (P : Addr) (i : Nat) (ok : V → Bool → Prop) : TE := fun σ H Q => ∃ l xs bs, σ[i]? = some (some (.ref l)) ∧ (H l = some (.lst xs) ∨ H l = some (.tup xs)) ∧ H P = some (TabO P) ∧ Paired ok xs bs ∧ Q (.bl (bs.all id)) H
theorem pairedAt' {α β : Type} {F : α → β → Prop} : ∀ {xs : List α} {ys : List β} {i : Nat} {x : α}, Paired F xs ys → xs[i]? = some x → ∃ y, ys[i]? = some y ∧ F x y
  | _, _, _, _, .nil, h => by simp at h
  | _, _, 0, _, .cons r t, h => by simp at h; subst h; exact ⟨_, rfl, r⟩
  | _, _, i + 1, _, .cons r t, h => pairedAt' (i := i) t (by simpa using h)

end L2

set_option Elab.async false
set_option linter.all false
set_option maxRecDepth 100000
namespace L2
open PySem PySem.Spec PyProof.Rows

abbrev Tabs := List (Addr × Addr)
/-- nothing is tracked but the script and the tables -/
structure OnlyT (tabs : Tabs) (H : Hp) : Prop where
  only : ∀ b, H b = none ∨ (∃ o xs, H b = some (.frz o (.lst xs))) ∨ (b ∈ tabs.map (·.2) ∧ H b = some (TabO b))
  tab : ∀ q ∈ tabs, H q.2 = some (TabO q.2)

end L2

set_option Elab.async false
set_option linter.all false
set_option maxRecDepth 100000
namespace L2
open PySem PySem.Spec PyProof.Rows
section
variable {C : RC} {p1 p2 p3 p4 p5 p6 p7 p8 p9 p10 : Pos}
end
section
variable {P : Program} {w : World} {K : PySem.W.Frag} {mg : Str → Option Value} {base : Heap}
def preWhole : List Value → Value → Prop := fun us r => ∃ (i : Int) (t : Tok), us = [.int i t] ∧ r = .bool true
def preWithin : List Value → Value → Prop := fun us r => ∃ (i : Int) (t : Tok) (lo : Int) (t1 : Tok) (hi : Int) (t2 : Tok), us = [.int i t, .int lo t1, .int hi t2] ∧ r = .bool (decide (lo ≤ i) && decide (i ≤ hi))
end
end L2

set_option Elab.async false
set_option linter.all false
set_option maxRecDepth 100000
namespace L2
open PySem PySem.Spec PyProof.Rows
/-- all(e for x in y) where e has one free name z, a name of the def: its cell is at cz -/
def tAllG1 (P : Addr) (i iz : Nat) (ok : V → V → Bool → Prop) : TE := fun σ H Q => ∃ l xs bs vz, σ[i]? = some (some (.ref l)) ∧ σ[iz]? = some (some vz) ∧ (H l = some (.lst xs) ∨ H l = some (.tup xs)) ∧ H P = some (TabO P) ∧ Paired (ok vz) xs bs ∧ Q (.bl (bs.all id)) H
structure ElC1 (X : Cx) (d : Nat) (scope : Scope) (x z : Str) (u uz : Value) (C : RC) : Prop where
  el : ElC X d scope x u C
  free : ∃ c, C.env.cells.lookup z = some c ∧ (c, uz) ∈ C.cs

end L2

set_option Elab.async false
set_option linter.all false
set_option maxRecDepth 100000

namespace L2
open PySem PySem.Spec PyProof.Rows
def sgn (z : Str) : List V := z.cps.toList.map fun c => V.str ⟨#[c]⟩
section
variable {prog : Program} {w : World} {A : Around} {E : Value → Shared → Prop} {s : Shared}
end
def tAllS (P : Addr) (i : Nat) (ok : V → Bool → Prop) : TE := fun σ H Q => ∃ z bs, σ[i]? = some (some (.str z)) ∧ H P = some (TabO P) ∧ Paired ok (sgn z) bs ∧ Q (.bl (bs.all id)) H
end L2

set_option Elab.async false
set_option linter.all false
set_option maxRecDepth 100000
namespace L2
open PySem PySem.Spec PyProof.Rows PySem.SeqAt
open AutoSeq1 (wpAny_loadPart')
section
variable {X : Cx}
def rEqN (K : PySem.W.Frag) : R2 := fun x y H Q => rEqM K x y H Q ∨ ∃ a kvs i, x = .ref a ∧ H a = some (.dK kvs) ∧ y = .int i ∧ Q (.bl false) H
/-- a list in a list of ints -/
def rInX (K : PySem.W.Frag) : R2 := fun x y H Q => rIn K false x y H Q ∨ ∃ (p : Addr) (ns : List Int) (a : Addr) (ys : List V), y = .ref p ∧ SqL K H p (ns.map V.int) ∧ x = .ref a ∧ SqL K H a ys ∧ Q (.bl false) H
end
end L2

set_option Elab.async false
set_option linter.all false
set_option maxRecDepth 100000
namespace L2
open PySem PySem.Spec PyProof.Rows
/-- the set without things, as it is made -/
def bareSet (led : Bool) : Obj := { cls := .type "set", dict := none, data := .set #[] 0 (.fresh 0 0 led) }
/-- the things of a list, each once -/
abbrev met (ns : List Int) (k : Nat) : List Int := firstMet (fun i => ns.getD i 0) k
section
variable {prog : Program} {w : World} {A : Around} {E : Value → Shared → Prop} {s : Shared}
end
/-- a set of n things, tracked -/
def SetO (a : Addr) (n : Nat) : HO := .ext fun h => ∃ o es ep t, h.get? a = some o ∧ o.ExactSet ∧ o.data = .set es ep t ∧ t.fits es.size = true ∧ es.size = n
/-- set(xs), xs a list or a tuple of ints, each once -/
def rSet : List V → Hp → VK → Prop := fun vs H Q => ∃ (a : Addr) (b : Bool) (ns : List Int), vs = [V.ref a] ∧ H a = some (obX b (ns.map V.int)) ∧ ns.Nodup ∧ ns.length ≤ 1000 ∧ ∀ l, H l = none → Q (.ref l) (upd H l (SetO l ns.length))
def rLenS : List V → Hp → VK → Prop := fun vs H Q => ∃ (p : Addr) (n : Nat), vs = [V.ref p] ∧ H p = some (SetO p n) ∧ n ≤ 1000 ∧ Q (.int n) H
end L2

set_option Elab.async false
set_option linter.all false
set_option maxRecDepth 100000
set_option maxHeartbeats 4000000
namespace L2
open PySem PySem.Spec PyProof.Rows
open AutoSeq1 (wpAny_loadPart')
/-- enumerate of a list or a tuple, as it is made -/
def enO (it : Addr) : Obj := { cls := .type "enumerate", data := .fields #[.none, .bool false, .ref it, rawInt 0, .none, .none] }
theorem meets_enG (b : Bool) (l : Addr) (xs : Array Value) :
    Meets (Builtin.«enumerate.__new__» ⟨[.type "enumerate", .ref l], []⟩) (fun _ R s => SqIs b s.heap l xs ∧
      R (.ok (.ret (.ref (s.heap.push (sqItO b l)).objs.size))) { s with heap := (s.heap.push (sqItO b l)).push (enO s.heap.objs.size) }) :=
  .of_wp fun prog w A R s h => by
    obtain ⟨hp, g, d, tk, os⟩ := s
    obtain ⟨q1, h⟩ := h
    have sb := sub_enumerate
    have L1 : SqIs b (Shared.heap ⟨hp, g, d, tk, os⟩) l xs := q1
    obtain ⟨o, ho⟩ : ∃ o, hp.get? l = some o := by
      cases b
      · obtain ⟨o, e, _⟩ := (show hp.IsTuple l xs from q1); exact ⟨o, e⟩
      · obtain ⟨o, e, _⟩ := (show hp.IsList l xs from q1); exact ⟨o, e⟩
    wp_walk using wpAny_loadPart' ho
    refine wpAny_stack_any fun st => wpAny_pure ?_
    split
    · rename_i c _ _ _ _ _
      cases (c == Value.type "enumerate")
      · wp_walk using wpAny_loadPart' ho, iter_sq L1
        exact ⟨_, rfl, h⟩
      · wp_walk using wpAny_loadPart' ho, iter_sq L1
        exact ⟨_, rfl, h⟩
    · wp_walk using wpAny_loadPart' ho, iter_sq L1
      exact ⟨_, rfl, h⟩
section
variable {prog : Program} {w : World} {A : Around} {E : Value → Shared → Prop} {s : Shared}
theorem call_enG {b : Bool} {l : Addr} {xs : Array Value} {Q : Value → Shared → Prop} (q : SqIs b s.heap l xs)
    (k : ∀ h', IsEnum h' (s.heap.objs.size + 1) s.heap.objs.size 0 .none → SqIt b h' s.heap.objs.size l 0 → h'.objs.size = s.heap.objs.size + 2 →
      (∀ c o, s.heap.get? c = some o → h'.get? c = some o) → Q (.ref (s.heap.objs.size + 1)) { s with heap := h' }) : wpAny (model prog w) A (call (.type "enumerate") [.ref l]) Q E s := by
  refine callType_new PySem.F.called_enumerate (by decide) (PySem.F.typeCall_enumerate_1 _) (PySem.F.newCall_enumerate_1 _) (fun obj => PySem.F.args_object_init_2 obj _) PySem.F.entry_enumerate_new (meets_enG b l xs) ⟨q, ?_⟩
  have n1 : (s.heap.push (sqItO b l)).objs.size = s.heap.objs.size + 1 := Heap.size_push ..
  have f1 : (sqItO b l).isFreed = false := by cases b <;> rfl
  have g2 : ((s.heap.push (sqItO b l)).push (enO s.heap.objs.size)).get? (s.heap.push (sqItO b l)).objs.size = some (enO s.heap.objs.size) := Heap.get?_push_size _ rfl
  rw [n1] at g2
  show _ ∧ _
  rw [n1]
  exact ⟨⟨_, g2, rfl⟩, k _ g2 (SqIt.new (Heap.get?_push_of_some _ (Heap.get?_push_size _ f1))) (by rw [Heap.size_push, n1]) fun c o x => Heap.get?_push_of_some _ (Heap.get?_push_of_some _ x)⟩
theorem draws_sq {b : Bool} (hh : A.handled = none) (it l : Addr) (hne : l ≠ it) (xs : Array Value) :
    Draws prog w A it [it, l] xs.size (fun i v => xs[i]? = some v) (fun i h => SqIt b h it l i ∧ SqIs b h l xs) where
  live := fun i h st => by
    obtain ⟨o, e, _⟩ := st.1.ob
    exact ⟨o, e⟩
  frame := fun i h h' st k => ⟨st.1.to fun o e => k it (by simp) o e, by
    cases b
    · obtain ⟨o, e, z⟩ := (show h.IsTuple l xs from st.2); exact ⟨o, k l (by simp) o e, z⟩
    · obtain ⟨o, e, z⟩ := (show h.IsList l xs from st.2); exact ⟨o, k l (by simp) o e, z⟩⟩
  item := fun i s Q E hi st q => nextOf_go st.1 st.2 (x := xs[i]) (by simp [hi]) fun h' t' sb => q _ h' s.toks (by simp [hi]) ⟨t', by
    cases b
    · obtain ⟨o, e, z⟩ := (show s.heap.IsTuple l xs from st.2); exact ⟨o, (sb.2 l hne).trans e, z⟩
    · obtain ⟨o, e, z⟩ := (show s.heap.IsList l xs from st.2); exact ⟨o, (sb.2 l hne).trans e, z⟩⟩ sb
  done := fun s Q E st q => nextOf_end hh st.1 st.2 (by simp) q
end
section
variable {prog : Program} {w : World} {A : Around} {E : Value → Shared → Prop} {s : Shared}
theorem enG_end {b : Bool} {e it l : Addr} {k : Nat} {i : Int} {xs : Array Value} {old : Value} {Q : Option Value → Shared → Prop} (hh : A.handled = none) (he : IsEnum s.heap e it i old) (q1 : SqIt b s.heap it l k) (q2 : SqIs b s.heap l xs) (q3 : xs[k]? = none)
    (q : ∀ h', Heap.ExtBut it s.heap h' → Q none { s with heap := h' }) : wpAny (model prog w) A (pyNext (.ref e)) Q E s := by
  have T : s.TypeIs (.ref e) "enumerate" := ⟨_, he, rfl⟩
  unfold pyNext
  refine wpAny_bind (wpAny_attempt (wpAny_callSpecial?_slot (name := Str.ofString "__next__") T PySem.F.slot_enumerate_next (wpAny_call_entry PySem.F.slot_enumerate_next T PySem.F.entry_enumerate_next (show wpAny _ _ (field (.ref e) 2 >>= _) _ _ _ from ?_) (PySem.F.args_enumerate_next_1 _))))
  refine wpAny_bind (wpAny_field he rfl (x := .ref it) rfl (wpAny_bind (nextOf_end (by simp [hh]) q1 q2 q3 fun h' x eb hx => ?_)))
  obtain ⟨o, ho, hc⟩ := hx
  exact wpAny_bind (wpAny_isInstance (T := "StopIteration") (b := true) ⟨o, ho, hc⟩ isSubtype_stop (wpAny_pure (q _ eb)))
end
/-- the list or tuple at a as it stands at each turn, each item in a new pair -/
def IteG (K : PySem.W.Frag) (b : Bool) (a : Addr) : It :=
  ⟨fun i H => ∃ (xs : List V) (x : V), SqX K H b a xs ∧ xs[i]? = some x, fun i H v H' => ∃ T x, v = .ref T ∧ H T = none ∧ H' = upd H T (.tup [.int (i : Nat), x]) ∧ ∀ xs, SqX K H b a xs → xs[i]? = some x, fun i H => ∃ xs : List V, SqX K H b a xs ∧ xs.length ≤ i⟩
theorem turn_enG {P : Program} {w : World} {K : PySem.W.Frag} {elts : List Expr} {kk : Nat} {tpos : Pos} (b : Bool) (a e it : Addr) :
    Turn P w K (.Tuple elts kk tpos) (IteG K b a) [e, it] e (fun i h => (∃ old, IsEnum h e it ((i : Nat) : Int) old) ∧ SqIt b h it a i ∧ e ≠ it ∧ a ≠ it ∧ a ≠ e) where
  mem := by simp
  obj := fun i h st c hc => by
    obtain ⟨⟨old, he⟩, hi, _⟩ := st
    obtain ⟨o, ho, hd⟩ := hi.ob
    have e' : c = e ∨ c = it := by simpa using hc
    rcases e' with z | z
    · rw [z]; exact ⟨_, he, fun v q => nomatch q⟩
    · rw [z]; exact ⟨o, ho, fun v q => by rw [hd] at q; cases q⟩
  keep := fun i h h' st k => let ⟨⟨old, he⟩, hi, z⟩ := st; ⟨⟨old, k e (by simp) _ he⟩, hi.to fun o q => k it (by simp) o q, z⟩
  item := by
    intro X hP hw hK hc i pins s σ H E I hf st hg
    subst hP hw hK
    obtain ⟨⟨old, he⟩, hit, hne, hai, hae⟩ := st
    obtain ⟨xs, x, hq, hx⟩ := hg
    obtain ⟨its, rv, p, hz⟩ := I.sqx hq
    obtain ⟨u, hu, ru⟩ := rv.get hx
    have hlt : i < its.toArray.size := by
      rw [List.size_toArray]
      exact (List.getElem?_eq_some_iff.mp hu).1
    have hel : e < s.heap.objs.size := Heap.lt_size he
    have hil : it < s.heap.objs.size := by obtain ⟨_, q, _⟩ := hit.ob; exact Heap.lt_size q
    refine wpAny_pyNext_enum_itemD (draws_sq (b := b) (by simpa using I.ok.hd hc) it a hai its.toArray) he ⟨hit, p⟩ hlt hne (by simp [hne, hae.symm]) fun x' h' tk hx' ho hit' hT hsz hk => ?_
    obtain rfl : x' = u := by
      have : its[i]? = some x' := by simpa using hx'
      rw [hu] at this
      exact (Option.some.inj this).symm
    refine ⟨_, rfl, wpAny_letOwnedTupleGo_enum (s := { s with heap := h', toks := tk + 1 }) ho fun h'' he' sb => ?_⟩
    have hT2 : h''.get? s.heap.objs.size = some { cls := .type "tuple", data := .seq #[.int i tk, x'] } := (sb.2 _ (Nat.ne_of_gt hel)).trans hT
    have new : ObjOk X.prog X.w (upd H s.heap.objs.size (.tup [.int (i : Nat), x])) h'' s.heap.objs.size (.tup [.int (i : Nat), x]) :=
      ⟨by show 2 ≤ sizeLine; decide, [.int i tk, x'], .cons ⟨_, rfl⟩ (.cons ru .nil), ⟨_, hT2, rfl, _, rfl⟩⟩
    have I1 : Inv X pins σ (upd H s.heap.objs.size (.tup [.int (i : Nat), x])) { s with heap := h'', toks := tk + 1 } :=
      I.turnedNew (ch := [e, it]) (fun b ob hb q => (sb.2 b (fun z => hb (by simp [z]))).trans (hk b ob (fun z => hb (by simp [z])) (fun z => hb (by simp [z])) q)) hf (Nat.le_refl _) new
    refine ⟨.ref s.heap.objs.size, _, I1, rfl, ⟨_, x, rfl, I.hok.fresh (Nat.le_refl _), rfl, fun ys hy => by rw [I.sqx_inj hy hq]; exact hx⟩, ⟨⟨x', ?_⟩, hit'.1.to fun o q => (sb.2 it (Ne.symm hne)).trans q, hne, hai, hae⟩, fun b hb => ?_⟩
    · have e1 : ((i + 1 : Nat) : Int) = (i : Int) + 1 := by omega
      rw [e1]; exact he'
    · have hb' : b < s.heap.objs.size := by
        have e' : b = e ∨ b = it := by simpa using hb
        rcases e' with z | z
        · rw [z]; exact hel
        · rw [z]; exact hil
      rw [upd_ne (Nat.ne_of_lt hb')]
      exact (hf b hb).1
  done := by
    intro X hP hw hK hc i pins s σ H E I hf st hg
    subst hP hw hK
    obtain ⟨⟨old, he⟩, hit, hne, _⟩ := st
    obtain ⟨xs, hq, hx⟩ := hg
    obtain ⟨its, rv, p, hz⟩ := I.sqx hq
    obtain ⟨f0, f1, f2, f3, f4, f5⟩ := hf it (by simp)
    have hl := rv.length
    exact enG_end (I.ok.hd hc) he hit p (by simp; omega) fun h' eb => ⟨rfl, I.turned (t' := s.toks) (fun b o hb q => eb b o hb q) f0 f1 f3 f4 f5⟩
  self := fun A i s Q E st h => let ⟨⟨_, he⟩, _⟩ := st; wpAny_pyIter_enum he h
def iEnG (K : PySem.W.Frag) (ta : TA) : TI := fun σ H R => ta σ H fun vs H1 => ∃ b a xs, vs = [.ref a] ∧ SqX K H1 b a xs ∧ R (IteG K b a) H1
theorem pi_enG {X : Cx} {e : Expr} {ta : TA} {p pos tpos : Pos} {elts : List Expr} {kk : Nat} (hg : Gl X "enumerate") (hm : X.mg "enumerate" = none) (ha : PA X [e] ta) (hs : starEach [e] X.env = [(false, eval e X.env)] := by rfl) :
    PI X (.Tuple elts kk tpos) (.Call (.Name "enumerate" p) [e] [] pos) (iEnG X.K ta) := by
  intro pins s σ H R I h
  refine Call_ (ld_blt I hg hm boot_enumerate (PyProof.Rows.callWith_type1 (thn (ha pos pins s σ H _ I h) fun us s1 ⟨vs, H1, I1, r1, q1⟩ => ?_) hs rfl))
  obtain ⟨b, a, xs, ex, hq, q⟩ := q1
  subst ex
  rw [Vals.ref1 r1]
  obtain ⟨its, rv, p', hz⟩ := I1.sqx hq
  refine call_enG p' fun h' he hit hsz hk => wpAny_pyIter_enum he ?_
  have I2 : Inv X pins σ H1 { s1 with heap := h' } := I1.kept (t' := s1.toks) hk
  have hal := p'.lt
  refine ⟨s1.heap.objs.size + 1, [s1.heap.objs.size + 1, s1.heap.objs.size], _, _, H1, rfl, I2, turn_enG b a (s1.heap.objs.size + 1) s1.heap.objs.size, ⟨⟨.none, he⟩, hit, Nat.succ_ne_self _, Nat.ne_of_lt hal, Nat.ne_of_lt (Nat.lt_succ_of_lt hal)⟩, fun c hc => ?_, q⟩
  have e' : c = s1.heap.objs.size + 1 ∨ c = s1.heap.objs.size := by simpa using hc
  have hle : s1.heap.objs.size ≤ c := by
    rcases e' with z | z
    · rw [z]; exact Nat.le_add_right _ _
    · rw [z]; exact Nat.le_refl _
  exact I1.fpOk hle (I1.hok.fresh hle)
theorem qi_enG {X : Cx} {e : Expr} {ta : TA} {p pos tpos : Pos} {elts : List Expr} {kk : Nat} (hg : Gl X "enumerate") (hm : X.mg "enumerate" = none) (ha : QA X [e] ta) (hs : starEach [e] X.env = [(false, eval e X.env)] := by rfl) : QI X (.Tuple elts kk tpos) (.Call (.Name "enumerate" p) [e] [] pos) (iEnG X.K ta) := ⟨pi_enG hg hm ha.go hs⟩
theorem for_enG {K : PySem.W.Frag} {b : Bool} {a : Addr} {xs : List V} {g : TG} {tb : TS} {D : Ends} {σ : St} {H : Hp} (Pv : Nat → St → Hp → Prop) (h0 : Pv 0 σ H) (hl : ∀ i σ H, i ≤ xs.length → Pv i σ H → SqX K H b a xs)
    (hs : ∀ i x T σ H, xs[i]? = some x → Pv i σ H → H T = none → g (.ref T) σ (upd H T (.tup [.int (i : Nat), x])) fun σ2 H2 => tb { D with nx := Pv (i + 1), ct := Pv (i + 1), bk := D.nx } σ2 H2) (hd : ∀ σ H, Pv xs.length σ H → D.nx σ H) :
    ∃ W : Nat → Nat → St → Hp → Prop, (∃ n, W 0 n σ H) ∧ ∀ i n σ H, W i n σ H →
      ((IteG K b a).stop i H ∧ D.nx σ H) ∨ ((IteG K b a).go i H ∧ ∃ N : St → Hp → Prop, (∀ σ' H', N σ' H' → ∃ n', n' < n ∧ W (i + 1) n' σ' H') ∧ ∀ x H', (IteG K b a).yld i H x H' → g x σ H' fun σ2 H2 => tb { D with nx := N, ct := N, bk := D.nx } σ2 H2) := by
  refine ⟨fun i n σ H => n = xs.length - i ∧ i ≤ xs.length ∧ Pv i σ H, ⟨xs.length, by simp, Nat.zero_le _, h0⟩, ?_⟩
  rintro i n σ H ⟨rfl, hi, p⟩
  have q := hl i σ H hi p
  by_cases hlt : i < xs.length
  · refine .inr ⟨⟨xs, xs[i], q, by simp [hlt]⟩, Pv (i + 1), fun σ' H' p' => ⟨xs.length - (i + 1), by omega, rfl, hlt, p'⟩, fun v H' y => ?_⟩
    obtain ⟨T, x, rfl, hT, rfl, e1⟩ := y
    exact hs i x T σ H (e1 xs q) p hT
  · obtain rfl : i = xs.length := by omega
    exact .inl ⟨⟨xs, q, by omega⟩, hd σ H p⟩
end L2

set_option Elab.async false
set_option linter.all false
set_option maxRecDepth 100000
set_option maxHeartbeats 4000000
namespace L2
open PySem PySem.Spec PyProof.Rows
section
variable {prog : Program} {w : World} {A : Around} {E : Value → Shared → Prop} {h : Heap} {g : Array GenState} {d : Drawn} {t : Nat} {os : OsState} {C e : Addr} {bm : List Value} {K : PySem.W.Frag} {name : Str} {v : Value} {vs : Array Value} {sl : Array (Option Value)} {mA : Str → Option Value}
theorem x_storeD {dx : Addr} {tk : Tok} {ns : List Str} {Q : Fin → Shared → Prop} (X : K.In h) (x : XCls h C bm) (hna : PySem.W.findIn K (.ref C) name = some none) (he : h.get? e = some ⟨.ref C, some dx, .fields vs, sl⟩) (ne : dx ≠ e) (hns : h.Ns1 dx mA)
    (hw : Within mA ns) (hsz : ns.length ≤ 1000)
    (hq : ∀ h' tk', h'.get? e = some ⟨.ref C, some dx, .fields vs, sl⟩ → h'.Ns1 dx (fun y => if y = name then some v else mA y) → (∀ b o, b ≠ e → b ≠ dx → h.get? b = some o → h'.get? b = some o) → Q (.done (.ret .none)) ⟨h', g, d, tk', os⟩) :
    wpAny (model prog w) A (Builtin.«object.__setattr__» ⟨[.ref e, .str name tk, v], []⟩) Q E ⟨h, g, d, t, os⟩ := by
  generalize hod : some dx = od at he
  obtain ⟨a1, a2, a3, a4, a6, a7, a8, a9, b1, b2, b3, b4, b5, b6, oC⟩ := x.obj
  obtain ⟨l, rfl⟩ := x.ln
  have pas : PySem.refuseLoop (.ref e) "__setattr__" (.ref C :: (l.map Value.ref ++ vMro)) = pure () := by rw [PySem.refuseLoop_ref]; exact refuse_line _ l
  have ty : (⟨h, g, d, t, os⟩ : Shared).heap.get? e = some ⟨.ref C, od, .fields vs, sl⟩ := he
  unfold Builtin.«object.__setattr__»
  repeat (first | rw [PySem.refuse_eq] | rw [pas] | with_reducible refine wpAny_loadPart_at he ?_ | with_reducible refine wpAny_mroOf_exc oC ?_ | with_reducible refine (PySem.W.looks_findIn X hna).here ?_ | wp_step)
  subst hod
  refine wpAny_pure ?_
  show wpAny _ _ (Builtin.ObjectAttr.storeInDict dx (.str name tk) name v) _ _ _
  unfold Builtin.ObjectAttr.storeInDict Builtin.ObjectAttr.newKeyGuard
  refine wpAny_bind (wpAny_pure (wpAny_bind (wpAny_nsSet1 hns fun h2 ns2 sm => ?_)))
  obtain ⟨o1, es1, ep1, g1, g2, g3⟩ := ns2.count (Within.cons name v hw)
  refine wpAny_bind (wpAny_lookBehind g1 (by rw [g2]; exact pastItsLine_dict (Nat.le_trans g3 (by rw [List.length_cons, sizeLine_eq]; omega))) ?_)
  wp_walk
  exact hq h2 _ ((sm.2 e ne.symm).trans he) ns2 fun b o n1 n2 hb => (sm.2 b n2).trans hb
/-- e.name = v -/
theorem x_setattrD {dx : Addr} {ns : List Str} {Q : Unit → Shared → Prop} (X : K.In h) (x : XCls h C bm) (hs : PySem.W.findIn K (.ref C) "__setattr__" = some (some (.builtin "object.__setattr__"))) (hna : PySem.W.findIn K (.ref C) name = some none)
    (he : h.get? e = some ⟨.ref C, some dx, .fields vs, sl⟩) (ne : dx ≠ e) (hns : h.Ns1 dx mA) (hw : Within mA ns) (hsz : ns.length ≤ 1000)
    (hq : ∀ h' tk', h'.get? e = some ⟨.ref C, some dx, .fields vs, sl⟩ → h'.Ns1 dx (fun y => if y = name then some v else mA y) → (∀ b o, b ≠ e → b ≠ dx → h.get? b = some o → h'.get? b = some o) → Q () ⟨h', g, d, tk', os⟩) :
    wpAny (model prog w) A (setAttr (.ref e) name v) Q E ⟨h, g, d, t, os⟩ := by
  have SF := F.store_object
  obtain ⟨a1, a2, a3, a4, a6, a7, a8, a9, b1, b2, b3, b4, b5, b6, oC⟩ := x.obj
  obtain ⟨odd, I⟩ : ∃ odd : Option Obj, PySem.W.InstAt h e ⟨.ref C, some dx, .fields vs, sl⟩ C odd := by
    obtain ⟨o, es, ep, ho, _⟩ := hns
    exact ⟨some o, he, rfl, rfl, ho⟩
  refine PySem.W.set_plain (s := ⟨h, g, d, t, os⟩) X I hs ?_
  have sub : PySem.W.Looks (model prog w) h (isInstance (.ref e) (.type "object")) true := by
    refine I.type.andThen ?_
    intro A' Q' E' s' k hq'
    obtain ⟨h1, g1, d1, t1, os1⟩ := s'
    refine wpAny_isSubtype_exc (k _ _ oC) ?_
    rw [x_sub_object x]
    exact hq'
  refine codeAny_call_builtin SF.slot.plain SF.entry ?_
  refine (@PySem.W.check_slot (model prog w) _ _ ⟨h, g, d, t + 1, os⟩ "object.__setattr__" "object" "__setattr__" (.ref e) [.str name t, v] [] _ SF.kind SF.split sub (SF.args (.ref e) (.str name t) v) ?_)
  exact x_storeD X x hna he ne hns hw hsz fun h' tk' q1 q2 q3 => hq h' tk' q1 q2 q3
end

def XdP (dx : Addr) (fs : List (Str × V)) (h : Heap) : Prop := ∃ mA, h.Ns1 dx mA ∧ ∀ f, RelO (fs.lookup f) (mA f)
def XdE (dx : Addr) (fs : List (Str × V)) : HO := .ext (XdP dx fs)
section
variable {P : Program} {w : World} {H : Hp} {h : Heap} {e C dx : Addr} {fs : List (Str × V)}
theorem XdE.ok {mA : Str → Option Value} (n : h.Ns1 dx mA) (r : ∀ f, RelO (fs.lookup f) (mA f)) : ObjOk P w H h dx (XdE dx fs) :=
  ⟨⟨mA, n, r⟩, let ⟨o, _, _, e, _⟩ := n; ⟨o, e⟩, fun _ _ ⟨m, n, r⟩ k => ⟨m, n.at k, r⟩⟩
theorem XdE.at_ (ok : HOk P w H h) (q : H dx = some (XdE dx fs)) : ∃ mA, h.Ns1 dx mA ∧ ∀ f, RelO (fs.lookup f) (mA f) := (ok dx _ q).1
end
theorem look_app {fs : List (Str × V)} {f g : Str} {y : V} (h : fs.lookup f = none) : (fs ++ [(f, y)]).lookup g = if g = f then some y else fs.lookup g := by
  induction fs with
  | nil =>
    by_cases z : g = f
    · subst z; simp [List.lookup]
    · rw [if_neg z]
      have : (g == f) = false := by simpa using z
      simp [List.lookup, this]
  | cons p fs ih =>
    obtain ⟨k, v⟩ := p
    by_cases c : g = k
    · subst c
      have hf : f ≠ g := by
        rintro rfl
        simp [List.lookup] at h
      rw [if_neg (fun z => hf z.symm)]
      simp [List.lookup]
    · have c' : (g == k) = false := by simpa using c
      have h2 : fs.lookup f = none := by
        by_cases z : f = k
        · subst z; simp [List.lookup] at h
        · have : (f == k) = false := by simpa using z
          simpa [List.lookup, this] using h
      rw [List.cons_append]
      simp only [List.lookup, c']
      exact ih h2
def sFldE (K : PySem.W.Frag) (ta tv : TE) (f : Str) : TS := fun D σ H => tv σ H fun y H1 => ta σ H1 fun x H2 => ∃ (e C : Addr) (fs : List (Str × V)), x = .ref e ∧ XSt K C ∧ NoAttr K C f ∧ fs.lookup f = none ∧ fs.length ≤ 100 ∧
  ((fs = [] ∧ H2 e = some (ExN e C) ∧ ∀ dx, H2 dx = none → dx ≠ e → D.nx σ (upd (upd H2 dx (XdE dx [(f, y)])) e (ExF e C dx))) ∨ ∃ dx, H2 e = some (ExF e C dx) ∧ H2 dx = some (XdE dx fs) ∧ dx ≠ e ∧ D.nx σ (upd H2 dx (XdE dx (fs ++ [(f, y)]))))
def tFldE (K : PySem.W.Frag) (ta : TE) (f : Str) : TE := fun σ H Q => ta σ H fun x H1 => ∃ e C dx fs v, x = .ref e ∧ H1 e = some (ExF e C dx) ∧ H1 dx = some (XdE dx fs) ∧ XSt K C ∧ NoAttr K C f ∧ fs.lookup f = some v ∧ Q v H1
section
variable {X : Cx} {p pos apos pos' : Pos} {e o value : Expr} {es : List Expr} {ta tv : TE} {t : TA}
theorem ps_fldE {f : Str} (ha : PE X o ta) (hv : PE X value tv) (hs : swapsWith value (some (.Attribute o f pos')) pos.line X.env = pure false) : PS X (.Assign [.Attribute o f pos'] value pos) (sFldE X.K ta tv f) := by
  intro pins s σ H D I h
  refine plainObj_wpAny_Assign_Attribute (thn (hv pins s σ H _ I h) fun u s1 ⟨y, H1, I1, ry, q⟩ => thn (ha pins s1 σ H1 _ I1 q) fun ov s2 ⟨x, H2, I2, rx, e', C', fs, ex, S, na, lf, ll, q2⟩ => ?_) hs
  subst ex
  obtain rfl : ov = Value.ref e' := rx
  obtain ⟨bm, hc⟩ := S.cls
  rcases q2 with ⟨rfl, hN, q2⟩ | ⟨dx0, hF, hX, ne0, q2⟩
  · obtain ⟨t0, he⟩ := ExN.at_ I2.hok hN
    obtain ⟨hp, g, d, tk, os⟩ := s2
    refine x_setattr (mA := fun _ => none) (ns := []) I2.kIn (hc _ I2.kIn) S.sa na he (.inl ⟨rfl, fun _ => rfl⟩) Within.nil (by decide) fun h' tk' dx e1 ne ns new kp => ?_
    have new : hp.objs.size ≤ dx := new.resolve_left fun z => by cases z
    have fr : H2 dx = none := I2.hok.fresh new
    refine ⟨σ, _, I2.chg (H' := upd (upd H2 dx (XdE dx [(f, y)])) e' (ExF e' C' dx)) (t' := tk') (fun b => b = e' ∨ b = dx) (fun b o n q => kp b o (fun z => n (.inl z)) (fun z => n (.inr z)) q) ?_ ?_ ?_ ?_, q2 dx fr ne⟩
    · rintro b (rfl | rfl)
      · exact .inl (by rw [hN]; exact True.intro)
      · exact .inr new
    · intro b n
      rw [upd_ne fun z => n (.inl z), upd_ne fun z => n (.inr z)]
    · rintro b o (rfl | rfl) q
      · exact ⟨_, e1⟩
      · exact absurd (Nat.lt_of_lt_of_le (Heap.lt_size q) new) (Nat.lt_irrefl _)
    · rintro b o (rfl | rfl) q
      · rw [upd_same] at q
        cases q
        exact ExF.ok e1 rfl
      · rw [upd_ne ne, upd_same] at q
        cases q
        refine XdE.ok ns fun g => ?_
        have := look_app (fs := []) (f := f) (g := g) (y := y) rfl
        rw [List.nil_append] at this
        rw [this]
        by_cases z : g = f
        · rw [if_pos z, if_pos z]
          exact ry
        · rw [if_neg z, if_neg z]
          exact True.intro
  · obtain ⟨vs, sl, he, hv1⟩ := ExF.at_ I2.hok hF
    obtain ⟨mA, hn, rel⟩ := XdE.at_ I2.hok hX
    obtain ⟨hp, g, d, tk, os⟩ := s2
    have wi : Within mA (fs.map (·.1)) := by
      intro y hy
      have r := rel y
      cases q : fs.lookup y with
      | none =>
        rw [q] at r
        cases q' : mA y with
        | none => exact absurd q' hy
        | some u' => rw [q'] at r; exact r.elim
      | some v =>
        have : ∀ fs : List (Str × V), fs.lookup y = some v → y ∈ fs.map (·.1) := by
          intro fs
          induction fs with
          | nil => intro z; simp [List.lookup] at z
          | cons p fs ih =>
            intro z
            by_cases c : y = p.1
            · rw [c]; exact List.mem_cons_self
            · have c' : (y == p.1) = false := by simpa using c
              obtain ⟨k, v'⟩ := p
              simp only [List.lookup, c'] at z
              exact List.mem_cons_of_mem _ (ih z)
        exact this fs q
    refine x_setattrD (mA := mA) (ns := fs.map (·.1)) I2.kIn (hc _ I2.kIn) S.sa na he ne0 hn wi (by rw [List.length_map]; omega) fun h' tk' e1 ns kp => ?_
    refine ⟨σ, _, I2.chg (H' := upd H2 dx0 (XdE dx0 (fs ++ [(f, y)]))) (t' := tk') (fun b => b = e' ∨ b = dx0) (fun b o n q => kp b o (fun z => n (.inl z)) (fun z => n (.inr z)) q) ?_ ?_ ?_ ?_, q2⟩
    · rintro b (rfl | rfl)
      · exact .inl (by rw [hF]; exact True.intro)
      · exact .inl (by rw [hX]; exact True.intro)
    · intro b n
      rw [upd_ne fun z => n (.inr z)]
    · rintro b o (rfl | rfl) q
      · exact ⟨_, e1⟩
      · obtain ⟨o', _, _, e2, _⟩ := ns
        exact ⟨o', e2⟩
    · rintro b o (rfl | rfl) q
      · rw [upd_ne ne0.symm, hF] at q
        cases q
        exact ExF.ok e1 hv1
      · rw [upd_same] at q
        cases q
        refine XdE.ok ns fun g => ?_
        rw [look_app lf]
        by_cases z : g = f
        · rw [if_pos z, if_pos z]
          exact ry
        · rw [if_neg z, if_neg z]
          exact rel g
theorem pe_fldE {f : Str} (he : PE X o ta) (hb : attributeBase o f X.env (eval o X.env) = eval o X.env) : PE X (.Attribute o f pos) (tFldE X.K ta f) := by
  intro pins s σ H Q I h
  refine attr_of hb (thn (he pins s σ H _ I h) fun u s1 ⟨x, H1, I1, rx, a, C, dx, fs, v, ex, ea, hd, S, n, l, q⟩ => ?_)
  subst ex
  obtain rfl : u = Value.ref a := rx
  obtain ⟨vs, sl, ho, _⟩ := ExF.at_ I1.hok ea
  obtain ⟨mA, hn, rel⟩ := XdE.at_ I1.hok hd
  have rf := rel f
  rw [l] at rf
  obtain ⟨u', hu, ru⟩ : ∃ u', mA f = some u' ∧ RelV v u' := by
    cases q : mA f with
    | none => rw [q] at rf; exact rf.elim
    | some u' => rw [q] at rf; exact ⟨u', rfl, rf⟩
  obtain ⟨bm, hc⟩ := S.cls
  obtain ⟨hp, g, d, tk, os⟩ := s1
  exact x_getattr I1.kIn (hc _ I1.kIn) S.ga S.gt n ho hn.ns hu (handed_of ru) fun tk' => ⟨v, H1, I1.tok tk', ru, q⟩
theorem qs_fldE {f : Str} (ha : QE X o ta) (hv : QE X value tv) (hs : swapsWith value (some (.Attribute o f pos')) pos.line X.env = pure false) : QS X (.Assign [.Attribute o f pos'] value pos) (sFldE X.K ta tv f) := ⟨ps_fldE ha.go hv.go hs⟩
theorem qe_fldE {f : Str} (he : QE X o ta) (hb : attributeBase o f X.env (eval o X.env) = eval o X.env) : QE X (.Attribute o f pos) (tFldE X.K ta f) := ⟨pe_fldE he.go hb⟩
/-- isinstance of an exception that is a value -/
theorem call_isiE : CallR X (.builtin "isinstance") (fun xs H Q => ∃ e c C b cv, xs = [.ref e, c] ∧ ClsV c cv ∧ (H e = some (ExN e C) ∨ ∃ dx fs, H e = some (ExF e C dx) ∧ H dx = some (XdE dx fs)) ∧ XKnd X.K C ∧ PySem.W.kitOne X.K (.ref C) cv = some b ∧ Q (.bl b) H) := by
  intro pins s σ H xs us Q I r h
  obtain ⟨e, c, C, b, cv, rfl, hcv, ob, Z, k, q⟩ := h
  obtain ⟨u, w', rfl, rx, ry⟩ := vals2 r
  obtain rfl : u = Value.ref e := rx
  have ew : w' = cv := by
    rcases hcv with ⟨a, rfl, rfl⟩ | ⟨n, rfl, rfl⟩
    · exact ry
    · exact ry
  subst ew
  obtain ⟨oe, odd, J⟩ : ∃ oe odd, PySem.W.InstAt s.heap e oe C odd := by
    rcases ob with q | ⟨dx, fs, q, hd⟩
    · obtain ⟨t0, he⟩ := ExN.at_ I.hok q
      exact ⟨_, none, he, rfl, rfl, True.intro⟩
    · obtain ⟨vs, sl, he, _⟩ := ExF.at_ I.hok q
      obtain ⟨mA, ⟨o, _, _, ho, _⟩, _⟩ := XdE.at_ I.hok hd
      exact ⟨_, some o, he, rfl, rfl, ho⟩
  exact PySem.W.kia_one (kitx_exc Z) I.kIn J k (fun z => nomatch z) fun tk => ⟨.bl b, H, I.tok tk, rfl, q⟩

theorem value_self {K' : Type} [DecidableEq K'] : ∀ {kvs : List (K' × Value)}, (kvs.map (·.1)).Nodup → ∀ p ∈ kvs, valueAt kvs p.1 = some p.2 := by
  intro kvs hn p hp
  unfold valueAt
  induction kvs with
  | nil => cases hp
  | cons q kvs ih =>
    rw [List.map_cons, List.nodup_cons] at hn
    rcases List.mem_cons.mp hp with rfl | hp
    · simp
    · have ne : q.1 ≠ p.1 := fun z => hn.1 (by rw [z]; exact List.mem_map_of_mem hp)
      rw [List.find?_cons, decide_eq_false ne]
      exact ih hn.2 hp
theorem hits_self {K' : Type} [DecidableEq K'] {A : Around} {s : Shared} {kb : List (K' × Value)} : ∀ (r : List (K' × Value)), (∀ p ∈ r, valueAt kb p.1 = some p.2) → PySem.W.KeqHits A s kb r true
  | [], _ => .nil
  | (k, v) :: r, h => .hit (e := true) (b := true) (h (k, v) List.mem_cons_self) (SeqAt.EqAt.same v) (hits_self r fun p hp => h p (List.mem_cons_of_mem _ hp))
def rEqS (K : PySem.W.Frag) : R2 := fun x y H Q => rEqM K x y H Q ∨ ∃ a kvs, x = .ref a ∧ y = .ref a ∧ H a = some (.dK kvs) ∧ Q (.bl true) H
def rNeS (K : PySem.W.Frag) : R2 := fun x y H Q => rNeM K x y H Q ∨ ∃ a kvs, x = .ref a ∧ y = .ref a ∧ H a = some (.dK kvs) ∧ Q (.bl false) H
theorem op_eqS (hu : X.A.units + 64 < cLine) : OpR X (compareOp .Eq) (rEqS X.K) := by
  intro pins s σ H x y v u Q I rx ry h
  rcases h with h | ⟨a, kvs, rfl, rfl, ha, q⟩
  · exact op_eqM hu pins s σ H x y v u Q I rx ry h
  · cases rx
    cases ry
    obtain ⟨_, hm, vs, kv, hd⟩ := (show ObjOk X.prog X.w H s.heap a (.dK kvs) from I.hok a _ ha)
    have nd : (vs.map (·.1)).Nodup := let ⟨_, _, _, _, _, _, _, _, n⟩ := hd; n
    refine PySem.W.keq_eq (r := true) hm hm hd hd (by omega) (fun _ => hits_self vs (value_self nd)) ?_
    rw [beq_self_eq_true]
    exact ⟨.bl true, H, I, rfl, q⟩
theorem op_neS (hu : X.A.units + 64 < cLine) : OpR X (compareOp .NotEq) (rNeS X.K) := by
  intro pins s σ H x y v u Q I rx ry h
  rcases h with h | ⟨a, kvs, rfl, rfl, ha, q⟩
  · exact op_neM hu pins s σ H x y v u Q I rx ry h
  · cases rx
    cases ry
    obtain ⟨_, hm, vs, kv, hd⟩ := (show ObjOk X.prog X.w H s.heap a (.dK kvs) from I.hok a _ ha)
    have nd : (vs.map (·.1)).Nodup := let ⟨_, _, _, _, _, _, _, _, n⟩ := hd; n
    refine PySem.W.keq_ne (r := true) hm hm hd hd (by omega) (fun _ => hits_self vs (value_self nd)) ?_
    rw [beq_self_eq_true]
    exact ⟨.bl false, H, I, rfl, q⟩
end
end L2

set_option Elab.async false
set_option linter.all false
set_option maxRecDepth 100000
set_option maxHeartbeats 4000000
namespace K15
open PySem L2
def top (i : Nat) : Stmt := PySem.Challenge.pw_splitseed_k15_refusals_apart.main.body.getD i (.Pass ⟨0, 0, 0, 0⟩)
abbrev s_SeedError_i : Stmt := inClass (top 1) 0
abbrev s_NoNumber_i : Stmt := inClass (top 2) 0
abbrev s_NoWidth_i : Stmt := inClass (top 3) 0
abbrev s_NoStep_i : Stmt := inClass (top 4) 0
abbrev s_NoMachine_i : Stmt := inClass (top 5) 0
abbrev s_NoSeed_i : Stmt := inClass (top 6) 0
abbrev s_NoPath_i : Stmt := inClass (top 7) 0
abbrev s_NoPlace_i : Stmt := inClass (top 8) 0
abbrev s_NoState_i : Stmt := inClass (top 9) 0
abbrev s_NoText_i : Stmt := inClass (top 10) 0
abbrev s_NoHand_i : Stmt := inClass (top 11) 0
abbrev s_NoJoin_i : Stmt := inClass (top 12) 0
abbrev s_NoName_i : Stmt := inClass (top 13) 0
abbrev s_NoOrder_i : Stmt := inClass (top 14) 0
abbrev s_NoSet_i : Stmt := inClass (top 15) 0
abbrev s_NoShares_i : Stmt := inClass (top 16) 0
abbrev s_NoShape_i : Stmt := inClass (top 17) 0
abbrev s_NoRow_i : Stmt := inClass (top 18) 0
abbrev s_NoPaper_i : Stmt := inClass (top 19) 0
abbrev s_NoPlan_i : Stmt := inClass (top 20) 0
abbrev s_NoLine_i : Stmt := inClass (top 21) 0
abbrev s_NoHolder_i : Stmt := inClass (top 22) 0
abbrev s_TooWide_i : Stmt := inClass (top 23) 0
abbrev s_TooDeep_i : Stmt := inClass (top 24) 0
abbrev s_TooMany_i : Stmt := inClass (top 25) 0
abbrev s_Spent_i : Stmt := inClass (top 26) 0
abbrev s_Twice_i : Stmt := inClass (top 27) 0
abbrev s_Unknown_i : Stmt := inClass (top 28) 0
abbrev s_NoDepth_i : Stmt := inClass (top 29) 0
abbrev s_NoParts_i : Stmt := inClass (top 30) 0
abbrev s_Beyond_i : Stmt := inClass (top 31) 0
abbrev s_L_cell_at : Stmt := top 33
abbrev s_L_box : Stmt := top 34
abbrev s_L_take : Stmt := top 35
abbrev s_L_thing : Stmt := top 36
abbrev s_L_found_ones : Stmt := top 37
abbrev s_L_made : Stmt := top 38
abbrev s_L_twos : Stmt := top 39
abbrev s_L_kinds : Stmt := top 40
abbrev s_L_same : Stmt := top 41
abbrev s_law : Stmt := top 42
theorem sc_SeedError_i : FnScope ["self", "text"] ["self", "text"] (defScope s_SeedError_i) := ⟨rfl, rfl, rfl, by decide +kernel, rfl, by decide +kernel, by decide +kernel⟩
theorem sc_NoNumber_i : FnScope ["self", "found"] ["self", "found"] (defScope s_NoNumber_i) := ⟨rfl, rfl, rfl, by decide +kernel, rfl, by decide +kernel, by decide +kernel⟩
theorem sc_NoWidth_i : FnScope ["self", "found"] ["self", "found"] (defScope s_NoWidth_i) := ⟨rfl, rfl, rfl, by decide +kernel, rfl, by decide +kernel, by decide +kernel⟩
theorem sc_NoStep_i : FnScope ["self", "found"] ["self", "found"] (defScope s_NoStep_i) := ⟨rfl, rfl, rfl, by decide +kernel, rfl, by decide +kernel, by decide +kernel⟩
theorem sc_NoMachine_i : FnScope ["self", "found"] ["self", "found"] (defScope s_NoMachine_i) := ⟨rfl, rfl, rfl, by decide +kernel, rfl, by decide +kernel, by decide +kernel⟩
theorem sc_NoSeed_i : FnScope ["self", "found"] ["self", "found"] (defScope s_NoSeed_i) := ⟨rfl, rfl, rfl, by decide +kernel, rfl, by decide +kernel, by decide +kernel⟩
theorem sc_NoPath_i : FnScope ["self", "found"] ["self", "found"] (defScope s_NoPath_i) := ⟨rfl, rfl, rfl, by decide +kernel, rfl, by decide +kernel, by decide +kernel⟩
theorem sc_NoPlace_i : FnScope ["self", "found"] ["self", "found"] (defScope s_NoPlace_i) := ⟨rfl, rfl, rfl, by decide +kernel, rfl, by decide +kernel, by decide +kernel⟩
theorem sc_NoState_i : FnScope ["self", "found"] ["self", "found"] (defScope s_NoState_i) := ⟨rfl, rfl, rfl, by decide +kernel, rfl, by decide +kernel, by decide +kernel⟩
theorem sc_NoText_i : FnScope ["self", "at"] ["self", "at"] (defScope s_NoText_i) := ⟨rfl, rfl, rfl, by decide +kernel, rfl, by decide +kernel, by decide +kernel⟩
theorem sc_NoHand_i : FnScope ["self", "found"] ["self", "found"] (defScope s_NoHand_i) := ⟨rfl, rfl, rfl, by decide +kernel, rfl, by decide +kernel, by decide +kernel⟩
theorem sc_NoJoin_i : FnScope ["self", "at"] ["self", "at"] (defScope s_NoJoin_i) := ⟨rfl, rfl, rfl, by decide +kernel, rfl, by decide +kernel, by decide +kernel⟩
theorem sc_NoName_i : FnScope ["self", "found"] ["self", "found"] (defScope s_NoName_i) := ⟨rfl, rfl, rfl, by decide +kernel, rfl, by decide +kernel, by decide +kernel⟩
theorem sc_NoOrder_i : FnScope ["self", "found"] ["self", "found"] (defScope s_NoOrder_i) := ⟨rfl, rfl, rfl, by decide +kernel, rfl, by decide +kernel, by decide +kernel⟩
theorem sc_NoSet_i : FnScope ["self", "found"] ["self", "found"] (defScope s_NoSet_i) := ⟨rfl, rfl, rfl, by decide +kernel, rfl, by decide +kernel, by decide +kernel⟩
theorem sc_NoShares_i : FnScope ["self", "found"] ["self", "found"] (defScope s_NoShares_i) := ⟨rfl, rfl, rfl, by decide +kernel, rfl, by decide +kernel, by decide +kernel⟩
theorem sc_NoShape_i : FnScope ["self", "found"] ["self", "found"] (defScope s_NoShape_i) := ⟨rfl, rfl, rfl, by decide +kernel, rfl, by decide +kernel, by decide +kernel⟩
theorem sc_NoRow_i : FnScope ["self", "found"] ["self", "found"] (defScope s_NoRow_i) := ⟨rfl, rfl, rfl, by decide +kernel, rfl, by decide +kernel, by decide +kernel⟩
theorem sc_NoPaper_i : FnScope ["self", "found"] ["self", "found"] (defScope s_NoPaper_i) := ⟨rfl, rfl, rfl, by decide +kernel, rfl, by decide +kernel, by decide +kernel⟩
theorem sc_NoPlan_i : FnScope ["self", "at"] ["self", "at"] (defScope s_NoPlan_i) := ⟨rfl, rfl, rfl, by decide +kernel, rfl, by decide +kernel, by decide +kernel⟩
theorem sc_NoLine_i : FnScope ["self", "line"] ["self", "line"] (defScope s_NoLine_i) := ⟨rfl, rfl, rfl, by decide +kernel, rfl, by decide +kernel, by decide +kernel⟩
theorem sc_NoHolder_i : FnScope ["self", "found"] ["self", "found"] (defScope s_NoHolder_i) := ⟨rfl, rfl, rfl, by decide +kernel, rfl, by decide +kernel, by decide +kernel⟩
theorem sc_TooWide_i : FnScope ["self", "total"] ["self", "total"] (defScope s_TooWide_i) := ⟨rfl, rfl, rfl, by decide +kernel, rfl, by decide +kernel, by decide +kernel⟩
theorem sc_TooDeep_i : FnScope ["self", "path"] ["self", "path"] (defScope s_TooDeep_i) := ⟨rfl, rfl, rfl, by decide +kernel, rfl, by decide +kernel, by decide +kernel⟩
theorem sc_TooMany_i : FnScope ["self", "path", "many"] ["self", "path", "many"] (defScope s_TooMany_i) := ⟨rfl, rfl, rfl, by decide +kernel, rfl, by decide +kernel, by decide +kernel⟩
theorem sc_Spent_i : FnScope ["self", "path", "place"] ["self", "path", "place"] (defScope s_Spent_i) := ⟨rfl, rfl, rfl, by decide +kernel, rfl, by decide +kernel, by decide +kernel⟩
theorem sc_Twice_i : FnScope ["self", "name"] ["self", "name"] (defScope s_Twice_i) := ⟨rfl, rfl, rfl, by decide +kernel, rfl, by decide +kernel, by decide +kernel⟩
theorem sc_Unknown_i : FnScope ["self", "name"] ["self", "name"] (defScope s_Unknown_i) := ⟨rfl, rfl, rfl, by decide +kernel, rfl, by decide +kernel, by decide +kernel⟩
theorem sc_NoDepth_i : FnScope ["self", "name", "at"] ["self", "name", "at"] (defScope s_NoDepth_i) := ⟨rfl, rfl, rfl, by decide +kernel, rfl, by decide +kernel, by decide +kernel⟩
theorem sc_NoParts_i : FnScope ["self", "name", "at"] ["self", "name", "at"] (defScope s_NoParts_i) := ⟨rfl, rfl, rfl, by decide +kernel, rfl, by decide +kernel, by decide +kernel⟩
theorem sc_Beyond_i : FnScope ["self", "name", "place"] ["self", "name", "place"] (defScope s_Beyond_i) := ⟨rfl, rfl, rfl, by decide +kernel, rfl, by decide +kernel, by decide +kernel⟩
theorem sc_L_cell_at : FnScope ["_law_script", "_law_k"] ["_law_script", "_law_k"] (defScope s_L_cell_at) := ⟨rfl, rfl, rfl, by decide +kernel, rfl, by decide +kernel, by decide +kernel⟩
theorem sc_L_box : FnScope ["_law_cell"] ["_law_cell"] (defScope s_L_box) := ⟨rfl, rfl, rfl, by decide +kernel, rfl, by decide +kernel, by decide +kernel⟩
theorem sc_L_take : FnScope ["_law_box_here", "_law_many", "_law_digit", "_law_number", "_law_high", "_law_low"] ["_law_box_here", "_law_many"] (defScope s_L_take) := ⟨rfl, rfl, rfl, by decide +kernel, rfl, by decide +kernel, by decide +kernel⟩
theorem sc_L_thing : FnScope ["_law_box_here", "_law_number"] ["_law_box_here"] (defScope s_L_thing) := ⟨rfl, rfl, rfl, by decide +kernel, rfl, by decide +kernel, by decide +kernel⟩
theorem sc_L_found_ones : FnScope ["_law_one", "_law_found"] ["_law_one"] (defScope s_L_found_ones) := ⟨rfl, rfl, rfl, by decide +kernel, rfl, by decide +kernel, by decide +kernel⟩
theorem sc_L_made : FnScope ["_law_one", "_law_other", "_law_found", "_law_pairs", "_law_e"] ["_law_one", "_law_other"] (defScope s_L_made) := ⟨rfl, rfl, rfl, by decide +kernel, rfl, by decide +kernel, by decide +kernel⟩
theorem sc_L_twos : FnScope ["_law_one", "_law_other", "_law_pairs", "_law_e"] ["_law_one", "_law_other"] (defScope s_L_twos) := ⟨rfl, rfl, rfl, by decide +kernel, rfl, by decide +kernel, by decide +kernel⟩
theorem sc_L_kinds : FnScope ["_law_e", "_law_kinds_here"] ["_law_e"] (defScope s_L_kinds) := ⟨rfl, rfl, rfl, by decide +kernel, rfl, by decide +kernel, by decide +kernel⟩
theorem sc_L_same : FnScope ["_law_found", "_law_due"] ["_law_found", "_law_due"] (defScope s_L_same) := ⟨rfl, rfl, rfl, by decide +kernel, rfl, by decide +kernel, by decide +kernel⟩
theorem sc_law : FnScope ["_law_script", "_law_plain", "_law_k", "_law_box_here", "_law_some", "_law_at", "_law_e", "_law_found", "_law_due", "_law_j", "_law_one", "_law_other"] ["_law_script"] (defScope s_law) := ⟨rfl, rfl, rfl, by decide +kernel, rfl, by decide +kernel, by decide +kernel⟩
set_option genSizeOf false
set_option genSizeOfSpec false
set_option genInjectivity false
structure Tx (K : PySem.W.Frag) (mg : Str → Option Value) where
  c_SeedError : Addr
  mc_SeedError : mg "SeedError" = some (.ref c_SeedError)
  S_SeedError : XSt K c_SeedError
  k_SeedError : PySem.W.keepIn K (.ref c_SeedError) = true
  c_NoNumber : Addr
  mc_NoNumber : mg "NoNumber" = some (.ref c_NoNumber)
  S_NoNumber : XSt K c_NoNumber
  k_NoNumber : PySem.W.keepIn K (.ref c_NoNumber) = true
  c_NoWidth : Addr
  mc_NoWidth : mg "NoWidth" = some (.ref c_NoWidth)
  S_NoWidth : XSt K c_NoWidth
  k_NoWidth : PySem.W.keepIn K (.ref c_NoWidth) = true
  c_NoStep : Addr
  mc_NoStep : mg "NoStep" = some (.ref c_NoStep)
  S_NoStep : XSt K c_NoStep
  k_NoStep : PySem.W.keepIn K (.ref c_NoStep) = true
  c_NoMachine : Addr
  mc_NoMachine : mg "NoMachine" = some (.ref c_NoMachine)
  S_NoMachine : XSt K c_NoMachine
  k_NoMachine : PySem.W.keepIn K (.ref c_NoMachine) = true
  c_NoSeed : Addr
  mc_NoSeed : mg "NoSeed" = some (.ref c_NoSeed)
  S_NoSeed : XSt K c_NoSeed
  k_NoSeed : PySem.W.keepIn K (.ref c_NoSeed) = true
  c_NoPath : Addr
  mc_NoPath : mg "NoPath" = some (.ref c_NoPath)
  S_NoPath : XSt K c_NoPath
  k_NoPath : PySem.W.keepIn K (.ref c_NoPath) = true
  c_NoPlace : Addr
  mc_NoPlace : mg "NoPlace" = some (.ref c_NoPlace)
  S_NoPlace : XSt K c_NoPlace
  k_NoPlace : PySem.W.keepIn K (.ref c_NoPlace) = true
  c_NoState : Addr
  mc_NoState : mg "NoState" = some (.ref c_NoState)
  S_NoState : XSt K c_NoState
  k_NoState : PySem.W.keepIn K (.ref c_NoState) = true
  c_NoText : Addr
  mc_NoText : mg "NoText" = some (.ref c_NoText)
  S_NoText : XSt K c_NoText
  k_NoText : PySem.W.keepIn K (.ref c_NoText) = true
  c_NoHand : Addr
  mc_NoHand : mg "NoHand" = some (.ref c_NoHand)
  S_NoHand : XSt K c_NoHand
  k_NoHand : PySem.W.keepIn K (.ref c_NoHand) = true
  c_NoJoin : Addr
  mc_NoJoin : mg "NoJoin" = some (.ref c_NoJoin)
  S_NoJoin : XSt K c_NoJoin
  k_NoJoin : PySem.W.keepIn K (.ref c_NoJoin) = true
  c_NoName : Addr
  mc_NoName : mg "NoName" = some (.ref c_NoName)
  S_NoName : XSt K c_NoName
  k_NoName : PySem.W.keepIn K (.ref c_NoName) = true
  c_NoOrder : Addr
  mc_NoOrder : mg "NoOrder" = some (.ref c_NoOrder)
  S_NoOrder : XSt K c_NoOrder
  k_NoOrder : PySem.W.keepIn K (.ref c_NoOrder) = true
  c_NoSet : Addr
  mc_NoSet : mg "NoSet" = some (.ref c_NoSet)
  S_NoSet : XSt K c_NoSet
  k_NoSet : PySem.W.keepIn K (.ref c_NoSet) = true
  c_NoShares : Addr
  mc_NoShares : mg "NoShares" = some (.ref c_NoShares)
  S_NoShares : XSt K c_NoShares
  k_NoShares : PySem.W.keepIn K (.ref c_NoShares) = true
  c_NoShape : Addr
  mc_NoShape : mg "NoShape" = some (.ref c_NoShape)
  S_NoShape : XSt K c_NoShape
  k_NoShape : PySem.W.keepIn K (.ref c_NoShape) = true
  c_NoRow : Addr
  mc_NoRow : mg "NoRow" = some (.ref c_NoRow)
  S_NoRow : XSt K c_NoRow
  k_NoRow : PySem.W.keepIn K (.ref c_NoRow) = true
  c_NoPaper : Addr
  mc_NoPaper : mg "NoPaper" = some (.ref c_NoPaper)
  S_NoPaper : XSt K c_NoPaper
  k_NoPaper : PySem.W.keepIn K (.ref c_NoPaper) = true
  c_NoPlan : Addr
  mc_NoPlan : mg "NoPlan" = some (.ref c_NoPlan)
  S_NoPlan : XSt K c_NoPlan
  k_NoPlan : PySem.W.keepIn K (.ref c_NoPlan) = true
  c_NoLine : Addr
  mc_NoLine : mg "NoLine" = some (.ref c_NoLine)
  S_NoLine : XSt K c_NoLine
  k_NoLine : PySem.W.keepIn K (.ref c_NoLine) = true
  c_NoHolder : Addr
  mc_NoHolder : mg "NoHolder" = some (.ref c_NoHolder)
  S_NoHolder : XSt K c_NoHolder
  k_NoHolder : PySem.W.keepIn K (.ref c_NoHolder) = true
  c_TooWide : Addr
  mc_TooWide : mg "TooWide" = some (.ref c_TooWide)
  S_TooWide : XSt K c_TooWide
  k_TooWide : PySem.W.keepIn K (.ref c_TooWide) = true
  c_TooDeep : Addr
  mc_TooDeep : mg "TooDeep" = some (.ref c_TooDeep)
  S_TooDeep : XSt K c_TooDeep
  k_TooDeep : PySem.W.keepIn K (.ref c_TooDeep) = true
  c_TooMany : Addr
  mc_TooMany : mg "TooMany" = some (.ref c_TooMany)
  S_TooMany : XSt K c_TooMany
  k_TooMany : PySem.W.keepIn K (.ref c_TooMany) = true
  c_Spent : Addr
  mc_Spent : mg "Spent" = some (.ref c_Spent)
  S_Spent : XSt K c_Spent
  k_Spent : PySem.W.keepIn K (.ref c_Spent) = true
  c_Twice : Addr
  mc_Twice : mg "Twice" = some (.ref c_Twice)
  S_Twice : XSt K c_Twice
  k_Twice : PySem.W.keepIn K (.ref c_Twice) = true
  c_Unknown : Addr
  mc_Unknown : mg "Unknown" = some (.ref c_Unknown)
  S_Unknown : XSt K c_Unknown
  k_Unknown : PySem.W.keepIn K (.ref c_Unknown) = true
  c_NoDepth : Addr
  mc_NoDepth : mg "NoDepth" = some (.ref c_NoDepth)
  S_NoDepth : XSt K c_NoDepth
  k_NoDepth : PySem.W.keepIn K (.ref c_NoDepth) = true
  c_NoParts : Addr
  mc_NoParts : mg "NoParts" = some (.ref c_NoParts)
  S_NoParts : XSt K c_NoParts
  k_NoParts : PySem.W.keepIn K (.ref c_NoParts) = true
  c_Beyond : Addr
  mc_Beyond : mg "Beyond" = some (.ref c_Beyond)
  S_Beyond : XSt K c_Beyond
  k_Beyond : PySem.W.keepIn K (.ref c_Beyond) = true
  a_SeedError_i : Addr
  fd_SeedError_i : FuncData
  F_SeedError_i : Fun K "__init__" "SeedError.__init__" s_SeedError_i a_SeedError_i fd_SeedError_i
  b_SeedError_i : Binds K fd_SeedError_i ["self", "text"] []
  i_SeedError : PySem.W.findIn K (.ref c_SeedError) "__init__" = some (some (.ref a_SeedError_i))
  t_SeedError : PySem.W.typeIn K (.ref a_SeedError_i) = some (.type "function")
  a_NoNumber_i : Addr
  fd_NoNumber_i : FuncData
  F_NoNumber_i : Fun K "__init__" "NoNumber.__init__" s_NoNumber_i a_NoNumber_i fd_NoNumber_i
  b_NoNumber_i : Binds K fd_NoNumber_i ["self", "found"] []
  i_NoNumber : PySem.W.findIn K (.ref c_NoNumber) "__init__" = some (some (.ref a_NoNumber_i))
  t_NoNumber : PySem.W.typeIn K (.ref a_NoNumber_i) = some (.type "function")
  na_NoNumber_found : NoAttr K c_NoNumber "found"
  a_NoWidth_i : Addr
  fd_NoWidth_i : FuncData
  F_NoWidth_i : Fun K "__init__" "NoWidth.__init__" s_NoWidth_i a_NoWidth_i fd_NoWidth_i
  b_NoWidth_i : Binds K fd_NoWidth_i ["self", "found"] []
  i_NoWidth : PySem.W.findIn K (.ref c_NoWidth) "__init__" = some (some (.ref a_NoWidth_i))
  t_NoWidth : PySem.W.typeIn K (.ref a_NoWidth_i) = some (.type "function")
  na_NoWidth_found : NoAttr K c_NoWidth "found"
  a_NoStep_i : Addr
  fd_NoStep_i : FuncData
  F_NoStep_i : Fun K "__init__" "NoStep.__init__" s_NoStep_i a_NoStep_i fd_NoStep_i
  b_NoStep_i : Binds K fd_NoStep_i ["self", "found"] []
  i_NoStep : PySem.W.findIn K (.ref c_NoStep) "__init__" = some (some (.ref a_NoStep_i))
  t_NoStep : PySem.W.typeIn K (.ref a_NoStep_i) = some (.type "function")
  na_NoStep_found : NoAttr K c_NoStep "found"
  a_NoMachine_i : Addr
  fd_NoMachine_i : FuncData
  F_NoMachine_i : Fun K "__init__" "NoMachine.__init__" s_NoMachine_i a_NoMachine_i fd_NoMachine_i
  b_NoMachine_i : Binds K fd_NoMachine_i ["self", "found"] []
  i_NoMachine : PySem.W.findIn K (.ref c_NoMachine) "__init__" = some (some (.ref a_NoMachine_i))
  t_NoMachine : PySem.W.typeIn K (.ref a_NoMachine_i) = some (.type "function")
  na_NoMachine_found : NoAttr K c_NoMachine "found"
  a_NoSeed_i : Addr
  fd_NoSeed_i : FuncData
  F_NoSeed_i : Fun K "__init__" "NoSeed.__init__" s_NoSeed_i a_NoSeed_i fd_NoSeed_i
  b_NoSeed_i : Binds K fd_NoSeed_i ["self", "found"] []
  i_NoSeed : PySem.W.findIn K (.ref c_NoSeed) "__init__" = some (some (.ref a_NoSeed_i))
  t_NoSeed : PySem.W.typeIn K (.ref a_NoSeed_i) = some (.type "function")
  na_NoSeed_found : NoAttr K c_NoSeed "found"
  a_NoPath_i : Addr
  fd_NoPath_i : FuncData
  F_NoPath_i : Fun K "__init__" "NoPath.__init__" s_NoPath_i a_NoPath_i fd_NoPath_i
  b_NoPath_i : Binds K fd_NoPath_i ["self", "found"] []
  i_NoPath : PySem.W.findIn K (.ref c_NoPath) "__init__" = some (some (.ref a_NoPath_i))
  t_NoPath : PySem.W.typeIn K (.ref a_NoPath_i) = some (.type "function")
  na_NoPath_found : NoAttr K c_NoPath "found"
  a_NoPlace_i : Addr
  fd_NoPlace_i : FuncData
  F_NoPlace_i : Fun K "__init__" "NoPlace.__init__" s_NoPlace_i a_NoPlace_i fd_NoPlace_i
  b_NoPlace_i : Binds K fd_NoPlace_i ["self", "found"] []
  i_NoPlace : PySem.W.findIn K (.ref c_NoPlace) "__init__" = some (some (.ref a_NoPlace_i))
  t_NoPlace : PySem.W.typeIn K (.ref a_NoPlace_i) = some (.type "function")
  na_NoPlace_found : NoAttr K c_NoPlace "found"
  a_NoState_i : Addr
  fd_NoState_i : FuncData
  F_NoState_i : Fun K "__init__" "NoState.__init__" s_NoState_i a_NoState_i fd_NoState_i
  b_NoState_i : Binds K fd_NoState_i ["self", "found"] []
  i_NoState : PySem.W.findIn K (.ref c_NoState) "__init__" = some (some (.ref a_NoState_i))
  t_NoState : PySem.W.typeIn K (.ref a_NoState_i) = some (.type "function")
  na_NoState_found : NoAttr K c_NoState "found"
  a_NoText_i : Addr
  fd_NoText_i : FuncData
  F_NoText_i : Fun K "__init__" "NoText.__init__" s_NoText_i a_NoText_i fd_NoText_i
  b_NoText_i : Binds K fd_NoText_i ["self", "at"] []
  i_NoText : PySem.W.findIn K (.ref c_NoText) "__init__" = some (some (.ref a_NoText_i))
  t_NoText : PySem.W.typeIn K (.ref a_NoText_i) = some (.type "function")
  na_NoText_at : NoAttr K c_NoText "at"
  a_NoHand_i : Addr
  fd_NoHand_i : FuncData
  F_NoHand_i : Fun K "__init__" "NoHand.__init__" s_NoHand_i a_NoHand_i fd_NoHand_i
  b_NoHand_i : Binds K fd_NoHand_i ["self", "found"] []
  i_NoHand : PySem.W.findIn K (.ref c_NoHand) "__init__" = some (some (.ref a_NoHand_i))
  t_NoHand : PySem.W.typeIn K (.ref a_NoHand_i) = some (.type "function")
  na_NoHand_found : NoAttr K c_NoHand "found"
  a_NoJoin_i : Addr
  fd_NoJoin_i : FuncData
  F_NoJoin_i : Fun K "__init__" "NoJoin.__init__" s_NoJoin_i a_NoJoin_i fd_NoJoin_i
  b_NoJoin_i : Binds K fd_NoJoin_i ["self", "at"] []
  i_NoJoin : PySem.W.findIn K (.ref c_NoJoin) "__init__" = some (some (.ref a_NoJoin_i))
  t_NoJoin : PySem.W.typeIn K (.ref a_NoJoin_i) = some (.type "function")
  na_NoJoin_at : NoAttr K c_NoJoin "at"
  a_NoName_i : Addr
  fd_NoName_i : FuncData
  F_NoName_i : Fun K "__init__" "NoName.__init__" s_NoName_i a_NoName_i fd_NoName_i
  b_NoName_i : Binds K fd_NoName_i ["self", "found"] []
  i_NoName : PySem.W.findIn K (.ref c_NoName) "__init__" = some (some (.ref a_NoName_i))
  t_NoName : PySem.W.typeIn K (.ref a_NoName_i) = some (.type "function")
  na_NoName_found : NoAttr K c_NoName "found"
  a_NoOrder_i : Addr
  fd_NoOrder_i : FuncData
  F_NoOrder_i : Fun K "__init__" "NoOrder.__init__" s_NoOrder_i a_NoOrder_i fd_NoOrder_i
  b_NoOrder_i : Binds K fd_NoOrder_i ["self", "found"] []
  i_NoOrder : PySem.W.findIn K (.ref c_NoOrder) "__init__" = some (some (.ref a_NoOrder_i))
  t_NoOrder : PySem.W.typeIn K (.ref a_NoOrder_i) = some (.type "function")
  na_NoOrder_found : NoAttr K c_NoOrder "found"
  a_NoSet_i : Addr
  fd_NoSet_i : FuncData
  F_NoSet_i : Fun K "__init__" "NoSet.__init__" s_NoSet_i a_NoSet_i fd_NoSet_i
  b_NoSet_i : Binds K fd_NoSet_i ["self", "found"] []
  i_NoSet : PySem.W.findIn K (.ref c_NoSet) "__init__" = some (some (.ref a_NoSet_i))
  t_NoSet : PySem.W.typeIn K (.ref a_NoSet_i) = some (.type "function")
  na_NoSet_found : NoAttr K c_NoSet "found"
  a_NoShares_i : Addr
  fd_NoShares_i : FuncData
  F_NoShares_i : Fun K "__init__" "NoShares.__init__" s_NoShares_i a_NoShares_i fd_NoShares_i
  b_NoShares_i : Binds K fd_NoShares_i ["self", "found"] []
  i_NoShares : PySem.W.findIn K (.ref c_NoShares) "__init__" = some (some (.ref a_NoShares_i))
  t_NoShares : PySem.W.typeIn K (.ref a_NoShares_i) = some (.type "function")
  na_NoShares_found : NoAttr K c_NoShares "found"
  a_NoShape_i : Addr
  fd_NoShape_i : FuncData
  F_NoShape_i : Fun K "__init__" "NoShape.__init__" s_NoShape_i a_NoShape_i fd_NoShape_i
  b_NoShape_i : Binds K fd_NoShape_i ["self", "found"] []
  i_NoShape : PySem.W.findIn K (.ref c_NoShape) "__init__" = some (some (.ref a_NoShape_i))
  t_NoShape : PySem.W.typeIn K (.ref a_NoShape_i) = some (.type "function")
  na_NoShape_found : NoAttr K c_NoShape "found"
  a_NoRow_i : Addr
  fd_NoRow_i : FuncData
  F_NoRow_i : Fun K "__init__" "NoRow.__init__" s_NoRow_i a_NoRow_i fd_NoRow_i
  b_NoRow_i : Binds K fd_NoRow_i ["self", "found"] []
  i_NoRow : PySem.W.findIn K (.ref c_NoRow) "__init__" = some (some (.ref a_NoRow_i))
  t_NoRow : PySem.W.typeIn K (.ref a_NoRow_i) = some (.type "function")
  na_NoRow_found : NoAttr K c_NoRow "found"
  a_NoPaper_i : Addr
  fd_NoPaper_i : FuncData
  F_NoPaper_i : Fun K "__init__" "NoPaper.__init__" s_NoPaper_i a_NoPaper_i fd_NoPaper_i
  b_NoPaper_i : Binds K fd_NoPaper_i ["self", "found"] []
  i_NoPaper : PySem.W.findIn K (.ref c_NoPaper) "__init__" = some (some (.ref a_NoPaper_i))
  t_NoPaper : PySem.W.typeIn K (.ref a_NoPaper_i) = some (.type "function")
  na_NoPaper_found : NoAttr K c_NoPaper "found"
  a_NoPlan_i : Addr
  fd_NoPlan_i : FuncData
  F_NoPlan_i : Fun K "__init__" "NoPlan.__init__" s_NoPlan_i a_NoPlan_i fd_NoPlan_i
  b_NoPlan_i : Binds K fd_NoPlan_i ["self", "at"] []
  i_NoPlan : PySem.W.findIn K (.ref c_NoPlan) "__init__" = some (some (.ref a_NoPlan_i))
  t_NoPlan : PySem.W.typeIn K (.ref a_NoPlan_i) = some (.type "function")
  na_NoPlan_at : NoAttr K c_NoPlan "at"
  a_NoLine_i : Addr
  fd_NoLine_i : FuncData
  F_NoLine_i : Fun K "__init__" "NoLine.__init__" s_NoLine_i a_NoLine_i fd_NoLine_i
  b_NoLine_i : Binds K fd_NoLine_i ["self", "line"] []
  i_NoLine : PySem.W.findIn K (.ref c_NoLine) "__init__" = some (some (.ref a_NoLine_i))
  t_NoLine : PySem.W.typeIn K (.ref a_NoLine_i) = some (.type "function")
  na_NoLine_line : NoAttr K c_NoLine "line"
  a_NoHolder_i : Addr
  fd_NoHolder_i : FuncData
  F_NoHolder_i : Fun K "__init__" "NoHolder.__init__" s_NoHolder_i a_NoHolder_i fd_NoHolder_i
  b_NoHolder_i : Binds K fd_NoHolder_i ["self", "found"] []
  i_NoHolder : PySem.W.findIn K (.ref c_NoHolder) "__init__" = some (some (.ref a_NoHolder_i))
  t_NoHolder : PySem.W.typeIn K (.ref a_NoHolder_i) = some (.type "function")
  na_NoHolder_found : NoAttr K c_NoHolder "found"
  a_TooWide_i : Addr
  fd_TooWide_i : FuncData
  F_TooWide_i : Fun K "__init__" "TooWide.__init__" s_TooWide_i a_TooWide_i fd_TooWide_i
  b_TooWide_i : Binds K fd_TooWide_i ["self", "total"] []
  i_TooWide : PySem.W.findIn K (.ref c_TooWide) "__init__" = some (some (.ref a_TooWide_i))
  t_TooWide : PySem.W.typeIn K (.ref a_TooWide_i) = some (.type "function")
  na_TooWide_total : NoAttr K c_TooWide "total"
  a_TooDeep_i : Addr
  fd_TooDeep_i : FuncData
  F_TooDeep_i : Fun K "__init__" "TooDeep.__init__" s_TooDeep_i a_TooDeep_i fd_TooDeep_i
  b_TooDeep_i : Binds K fd_TooDeep_i ["self", "path"] []
  i_TooDeep : PySem.W.findIn K (.ref c_TooDeep) "__init__" = some (some (.ref a_TooDeep_i))
  t_TooDeep : PySem.W.typeIn K (.ref a_TooDeep_i) = some (.type "function")
  na_TooDeep_path : NoAttr K c_TooDeep "path"
  a_TooMany_i : Addr
  fd_TooMany_i : FuncData
  F_TooMany_i : Fun K "__init__" "TooMany.__init__" s_TooMany_i a_TooMany_i fd_TooMany_i
  b_TooMany_i : Binds K fd_TooMany_i ["self", "path", "many"] []
  i_TooMany : PySem.W.findIn K (.ref c_TooMany) "__init__" = some (some (.ref a_TooMany_i))
  t_TooMany : PySem.W.typeIn K (.ref a_TooMany_i) = some (.type "function")
  na_TooMany_path : NoAttr K c_TooMany "path"
  na_TooMany_many : NoAttr K c_TooMany "many"
  a_Spent_i : Addr
  fd_Spent_i : FuncData
  F_Spent_i : Fun K "__init__" "Spent.__init__" s_Spent_i a_Spent_i fd_Spent_i
  b_Spent_i : Binds K fd_Spent_i ["self", "path", "place"] []
  i_Spent : PySem.W.findIn K (.ref c_Spent) "__init__" = some (some (.ref a_Spent_i))
  t_Spent : PySem.W.typeIn K (.ref a_Spent_i) = some (.type "function")
  na_Spent_path : NoAttr K c_Spent "path"
  na_Spent_place : NoAttr K c_Spent "place"
  a_Twice_i : Addr
  fd_Twice_i : FuncData
  F_Twice_i : Fun K "__init__" "Twice.__init__" s_Twice_i a_Twice_i fd_Twice_i
  b_Twice_i : Binds K fd_Twice_i ["self", "name"] []
  i_Twice : PySem.W.findIn K (.ref c_Twice) "__init__" = some (some (.ref a_Twice_i))
  t_Twice : PySem.W.typeIn K (.ref a_Twice_i) = some (.type "function")
  na_Twice_name : NoAttr K c_Twice "name"
  a_Unknown_i : Addr
  fd_Unknown_i : FuncData
  F_Unknown_i : Fun K "__init__" "Unknown.__init__" s_Unknown_i a_Unknown_i fd_Unknown_i
  b_Unknown_i : Binds K fd_Unknown_i ["self", "name"] []
  i_Unknown : PySem.W.findIn K (.ref c_Unknown) "__init__" = some (some (.ref a_Unknown_i))
  t_Unknown : PySem.W.typeIn K (.ref a_Unknown_i) = some (.type "function")
  na_Unknown_name : NoAttr K c_Unknown "name"
  a_NoDepth_i : Addr
  fd_NoDepth_i : FuncData
  F_NoDepth_i : Fun K "__init__" "NoDepth.__init__" s_NoDepth_i a_NoDepth_i fd_NoDepth_i
  b_NoDepth_i : Binds K fd_NoDepth_i ["self", "name", "at"] []
  i_NoDepth : PySem.W.findIn K (.ref c_NoDepth) "__init__" = some (some (.ref a_NoDepth_i))
  t_NoDepth : PySem.W.typeIn K (.ref a_NoDepth_i) = some (.type "function")
  na_NoDepth_name : NoAttr K c_NoDepth "name"
  na_NoDepth_at : NoAttr K c_NoDepth "at"
  a_NoParts_i : Addr
  fd_NoParts_i : FuncData
  F_NoParts_i : Fun K "__init__" "NoParts.__init__" s_NoParts_i a_NoParts_i fd_NoParts_i
  b_NoParts_i : Binds K fd_NoParts_i ["self", "name", "at"] []
  i_NoParts : PySem.W.findIn K (.ref c_NoParts) "__init__" = some (some (.ref a_NoParts_i))
  t_NoParts : PySem.W.typeIn K (.ref a_NoParts_i) = some (.type "function")
  na_NoParts_name : NoAttr K c_NoParts "name"
  na_NoParts_at : NoAttr K c_NoParts "at"
  a_Beyond_i : Addr
  fd_Beyond_i : FuncData
  F_Beyond_i : Fun K "__init__" "Beyond.__init__" s_Beyond_i a_Beyond_i fd_Beyond_i
  b_Beyond_i : Binds K fd_Beyond_i ["self", "name", "place"] []
  i_Beyond : PySem.W.findIn K (.ref c_Beyond) "__init__" = some (some (.ref a_Beyond_i))
  t_Beyond : PySem.W.typeIn K (.ref a_Beyond_i) = some (.type "function")
  na_Beyond_name : NoAttr K c_Beyond "name"
  na_Beyond_place : NoAttr K c_Beyond "place"
  a_L_cell_at : Addr
  fd_L_cell_at : FuncData
  F_L_cell_at : Fun K "_law_cell_at" "_law_cell_at" s_L_cell_at a_L_cell_at fd_L_cell_at
  b_L_cell_at : Binds K fd_L_cell_at ["_law_script", "_law_k"] []
  m_L_cell_at : mg "_law_cell_at" = some (.ref a_L_cell_at)
  a_L_box : Addr
  fd_L_box : FuncData
  F_L_box : Fun K "_law_box" "_law_box" s_L_box a_L_box fd_L_box
  b_L_box : Binds K fd_L_box ["_law_cell"] []
  m_L_box : mg "_law_box" = some (.ref a_L_box)
  a_L_take : Addr
  fd_L_take : FuncData
  F_L_take : Fun K "_law_take" "_law_take" s_L_take a_L_take fd_L_take
  b_L_take : Binds K fd_L_take ["_law_box_here", "_law_many"] []
  m_L_take : mg "_law_take" = some (.ref a_L_take)
  a_L_thing : Addr
  fd_L_thing : FuncData
  F_L_thing : Fun K "_law_thing" "_law_thing" s_L_thing a_L_thing fd_L_thing
  b_L_thing : Binds K fd_L_thing ["_law_box_here"] []
  m_L_thing : mg "_law_thing" = some (.ref a_L_thing)
  a_L_found_ones : Addr
  fd_L_found_ones : FuncData
  F_L_found_ones : Fun K "_law_found_ones" "_law_found_ones" s_L_found_ones a_L_found_ones fd_L_found_ones
  b_L_found_ones : Binds K fd_L_found_ones ["_law_one"] []
  m_L_found_ones : mg "_law_found_ones" = some (.ref a_L_found_ones)
  a_L_made : Addr
  fd_L_made : FuncData
  F_L_made : Fun K "_law_made" "_law_made" s_L_made a_L_made fd_L_made
  b_L_made : Binds K fd_L_made ["_law_one", "_law_other"] []
  m_L_made : mg "_law_made" = some (.ref a_L_made)
  a_L_twos : Addr
  fd_L_twos : FuncData
  F_L_twos : Fun K "_law_twos" "_law_twos" s_L_twos a_L_twos fd_L_twos
  b_L_twos : Binds K fd_L_twos ["_law_one", "_law_other"] []
  m_L_twos : mg "_law_twos" = some (.ref a_L_twos)
  a_L_kinds : Addr
  fd_L_kinds : FuncData
  F_L_kinds : Fun K "_law_kinds" "_law_kinds" s_L_kinds a_L_kinds fd_L_kinds
  b_L_kinds : Binds K fd_L_kinds ["_law_e"] []
  m_L_kinds : mg "_law_kinds" = some (.ref a_L_kinds)
  a_L_same : Addr
  fd_L_same : FuncData
  F_L_same : Fun K "_law_same" "_law_same" s_L_same a_L_same fd_L_same
  b_L_same : Binds K fd_L_same ["_law_found", "_law_due"] []
  m_L_same : mg "_law_same" = some (.ref a_L_same)
  a_law : Addr
  fd_law : FuncData
  F_law : Fun K "law" "law" s_law a_law fd_law
  b_law : Binds K fd_law ["_law_script"] []
  m_law : mg "law" = some (.ref a_law)
  v_SeedError : Value
  sp_SeedError : PySem.W.specialIn K (.ref c_SeedError) "__getattribute__" = some (some (.builtin "type.__getattribute__"))
  rd_SeedError : PySem.W.readsIn K c_SeedError v_SeedError = true
  fc_SeedError : PySem.W.findCls K (.ref c_SeedError) v_SeedError "__init__" = some (.val (.ref a_SeedError_i))
  fv : PySem.W.findCls K (.type "ValueError") (.type "type") "__init__" = some (.val (.builtin vInit))
  n_ValueError : mg "ValueError" = none
  n_all : mg "all" = none
  n_bool : mg "bool" = none
  n_dict : mg "dict" = none
  n_enumerate : mg "enumerate" = none
  n_int : mg "int" = none
  n_isinstance : mg "isinstance" = none
  n_len : mg "len" = none
  n_list : mg "list" = none
  n_max : mg "max" = none
  n_min : mg "min" = none
  n_range : mg "range" = none
  n_zip : mg "zip" = none
  nodup : [c_SeedError, c_NoNumber, c_NoWidth, c_NoStep, c_NoMachine, c_NoSeed, c_NoPath, c_NoPlace, c_NoState, c_NoHand, c_NoName, c_NoOrder, c_NoSet, c_NoShares, c_NoShape, c_NoRow, c_NoPaper, c_NoHolder, c_NoText, c_NoJoin, c_NoPlan, c_NoLine, c_TooWide, c_TooDeep, c_Twice, c_Unknown, c_TooMany, c_Spent, c_NoDepth, c_NoParts, c_Beyond].Nodup
  kit : ∀ C ∈ [c_SeedError, c_NoNumber, c_NoWidth, c_NoStep, c_NoMachine, c_NoSeed, c_NoPath, c_NoPlace, c_NoState, c_NoHand, c_NoName, c_NoOrder, c_NoSet, c_NoShares, c_NoShape, c_NoRow, c_NoPaper, c_NoHolder, c_NoText, c_NoJoin, c_NoPlan, c_NoLine, c_TooWide, c_TooDeep, c_Twice, c_Unknown, c_TooMany, c_Spent, c_NoDepth, c_NoParts, c_Beyond], ∀ D ∈ [c_NoNumber, c_NoWidth, c_NoStep, c_NoMachine, c_NoSeed, c_NoPath, c_NoPlace, c_NoState, c_NoHand, c_NoName, c_NoOrder, c_NoSet, c_NoShares, c_NoShape, c_NoRow, c_NoPaper, c_NoHolder, c_NoText, c_NoJoin, c_NoPlan, c_NoLine, c_TooWide, c_TooDeep, c_Twice, c_Unknown, c_TooMany, c_Spent, c_NoDepth, c_NoParts, c_Beyond], PySem.W.kitOne K (.ref C) (.ref D) = some (decide (C = D))
  kitS : ∀ C ∈ [c_NoNumber, c_NoWidth, c_NoStep, c_NoMachine, c_NoSeed, c_NoPath, c_NoPlace, c_NoState, c_NoHand, c_NoName, c_NoOrder, c_NoSet, c_NoShares, c_NoShape, c_NoRow, c_NoPaper, c_NoHolder, c_NoText, c_NoJoin, c_NoPlan, c_NoLine, c_TooWide, c_TooDeep, c_Twice, c_Unknown, c_TooMany, c_Spent, c_NoDepth, c_NoParts, c_Beyond], PySem.W.kitOne K (.ref C) (.ref c_SeedError) = some true
  kitV : ∀ C ∈ [c_SeedError, c_NoNumber, c_NoWidth, c_NoStep, c_NoMachine, c_NoSeed, c_NoPath, c_NoPlace, c_NoState, c_NoHand, c_NoName, c_NoOrder, c_NoSet, c_NoShares, c_NoShape, c_NoRow, c_NoPaper, c_NoHolder, c_NoText, c_NoJoin, c_NoPlan, c_NoLine, c_TooWide, c_TooDeep, c_Twice, c_Unknown, c_TooMany, c_Spent, c_NoDepth, c_NoParts, c_Beyond], PySem.W.kitOne K (.ref C) (.type "ValueError") = some true
  xk : ∀ C ∈ [c_SeedError, c_NoNumber, c_NoWidth, c_NoStep, c_NoMachine, c_NoSeed, c_NoPath, c_NoPlace, c_NoState, c_NoHand, c_NoName, c_NoOrder, c_NoSet, c_NoShares, c_NoShape, c_NoRow, c_NoPaper, c_NoHolder, c_NoText, c_NoJoin, c_NoPlan, c_NoLine, c_TooWide, c_TooDeep, c_Twice, c_Unknown, c_TooMany, c_Spent, c_NoDepth, c_NoParts, c_Beyond], XKnd K C
set_option genSizeOf true
set_option genSizeOfSpec true
set_option genInjectivity true
theorem neF {c A B : Prop} [Decidable c] (hc : c) (h : B) : if (!decide c) = true then A else B := iteNS hc h
theorem n0 (x k : Int) (h : 0 < k) : 0 ≤ x % k ∧ x % k < k := ⟨Int.emod_nonneg _ (by omega), Int.emod_lt_of_pos _ h⟩
theorem all_rep (n : Nat) : (List.replicate n true).all id = true := by
  induction n with
  | zero => rfl
  | succ n ih => rw [List.replicate_succ, List.all_cons, ih]; rfl
theorem rep_snoc (n : Nat) : (List.replicate n true).map V.bl ++ [V.bl true] = (List.replicate (n + 1) true).map V.bl := by
  rw [List.replicate_succ', List.map_append]
  rfl
def spMany : Sp := fun vs H Q _ => ∃ (p : Addr) (m : Int), vs = [.ref p, .int m] ∧ Box H p ∧ 5 ≤ m ∧ m ≤ 1000 ∧ ∀ d H', 0 ≤ d → d ≤ m → Box H' p → Keep p H H' → Q (.int d) H'
section
variable {P : Program} {w : World} {K : PySem.W.Frag} {mg : Str → Option Value} {base : Heap}

def spE1 (C : Addr) (f : Str) : Sp := fun vs H Q _ => ∃ (e : Addr) (v : V), vs = [.ref e, v] ∧ H e = some (ExN e C) ∧ ∀ dx, H dx = none → dx ≠ e → Q .non (upd (upd H dx (XdE dx [(f, v)])) e (ExF e C dx))
def spE2 (C : Addr) (f g : Str) : Sp := fun vs H Q _ => ∃ (e : Addr) (v w : V), vs = [.ref e, v, w] ∧ H e = some (ExN e C) ∧ ∀ dx, H dx = none → dx ≠ e → Q .non (upd (upd (upd H dx (XdE dx [(f, v)])) e (ExF e C dx)) dx (XdE dx [(f, v), (g, w)]))
/-- an exception with its fields, apart from S -/
def XA (S : Addr → Prop) (H : Hp) (e C : Addr) (fs : List (Str × V)) : Prop := ∃ dx, H e = some (ExF e C dx) ∧ H dx = some (XdE dx fs) ∧ ¬ S e ∧ ¬ S dx
theorem XA.same {S : Addr → Prop} {H H' : Hp} {e C : Addr} {fs : List (Str × V)} (s : Same H H') (x : XA S H e C fs) : XA S H' e C fs := let ⟨dx, a, b, c, d⟩ := x; ⟨dx, s _ _ a, s _ _ b, c, d⟩
/-- the things stand -/
def St1 (S : Addr → Prop) (H : Hp) : Prop := ∀ a, S a → H a ≠ none
theorem St1.same {S : Addr → Prop} {H H' : Hp} (s : Same H H') (h : St1 S H) : St1 S H' := fun a ha z => by
  cases e : H a with
  | none => exact h a ha e
  | some o => rw [s _ _ e] at z; cases z
theorem St1.no {S : Addr → Prop} {H : Hp} {a : Addr} (h : St1 S H) (n : H a = none) : ¬ S a := fun z => h a z n
theorem xa_one {S : Addr → Prop} {H : Hp} {e C dx : Addr} {f : Str} {v : V} (hS : St1 S H) (he : H e = none) (hd : (upd H e (ExN e C)) dx = none) (ne : dx ≠ e) : XA S (upd (upd (upd H e (ExN e C)) dx (XdE dx [(f, v)])) e (ExF e C dx)) e C [(f, v)] ∧ Same H (upd (upd (upd H e (ExN e C)) dx (XdE dx [(f, v)])) e (ExF e C dx)) := by
  rw [upd_ne ne] at hd
  refine ⟨⟨dx, upd_same, by rw [upd_ne ne, upd_same], hS.no he, hS.no hd⟩, fun b o q => ?_⟩
  rw [upd_ne (ne_of_none q he), upd_ne (ne_of_none q hd), upd_ne (ne_of_none q he)]
  exact q
theorem xa_two {S : Addr → Prop} {H : Hp} {e C dx : Addr} {f g : Str} {v w : V} (hS : St1 S H) (he : H e = none) (hd : (upd H e (ExN e C)) dx = none) (ne : dx ≠ e) : XA S (upd (upd (upd (upd H e (ExN e C)) dx (XdE dx [(f, v)])) e (ExF e C dx)) dx (XdE dx [(f, v), (g, w)])) e C [(f, v), (g, w)] ∧ Same H (upd (upd (upd (upd H e (ExN e C)) dx (XdE dx [(f, v)])) e (ExF e C dx)) dx (XdE dx [(f, v), (g, w)])) := by
  rw [upd_ne ne] at hd
  refine ⟨⟨dx, by rw [upd_ne ne.symm, upd_same], upd_same, hS.no he, hS.no hd⟩, fun b o q => ?_⟩
  rw [upd_ne (ne_of_none q hd), upd_ne (ne_of_none q he), upd_ne (ne_of_none q hd), upd_ne (ne_of_none q he)]
  exact q
theorem pr_imp {α β : Type} {R R' : α → β → Prop} (h : ∀ a b, R a b → R' a b) : ∀ {xs : List α} {ys : List β}, Paired R xs ys → Paired R' xs ys
  | _, _, .nil => .nil
  | _, _, .cons a b => .cons (h _ _ a) (pr_imp h b)
theorem pr_snoc {α β : Type} {R : α → β → Prop} {a : α} {b : β} : ∀ {xs : List α} {ys : List β}, Paired R xs ys → R a b → Paired R (xs ++ [a]) (ys ++ [b])
  | _, _, .nil, r => .cons r .nil
  | _, _, .cons x t, r => .cons x (pr_snoc t r)
theorem pr_app {α β : Type} {R : α → β → Prop} {as : List α} {bs : List β} : ∀ {xs : List α} {ys : List β}, Paired R xs ys → Paired R as bs → Paired R (xs ++ as) (ys ++ bs)
  | _, _, .nil, r => r
  | _, _, .cons x t, r => .cons x (pr_app t r)
theorem ok_L_cell_at (T : Tx K mg) : FnOk P w K mg base CX0 1 T.a_L_cell_at T.fd_L_cell_at ["_law_script", "_law_k"] (spCell K) := by
  refine T.F_L_cell_at.ok sc_L_cell_at (fun vs H Q E h => ?_) (fun cdv A outer s H vs Q E hr h => ?_)
  · obtain ⟨a, ns, k, rfl, _⟩ := h
    rfl
  · obtain ⟨a, ns, k, rfl, hS, hk, q⟩ := h
    refine ⟨_, QSs.go (qss_cons (qs_if (qt_cmpR op_lt (qv 1) (qe_callB call_len_seq (by rfl) T.n_len (by decide +kernel) (qa_cons (qv 0) qa_nil)) (nomark _)) (qss_one (qs_ret (qe_ix ix_list (qv 0) (qv 1) (fun _ _ => rfl)))) qss_nil)
      (qss_one (qs_ret (qe_op op_add (qe_op op_mul qe_int (qv 1)) qe_int)))), ?_⟩

    refine ⟨_, rfl, _, rfl, a, _, rfl, .inl hS, _, _, rfl, rfl, _, rfl, ?_⟩
    refine ite2 (fun c => ?_) (fun _ => ?_)
    · have c : k < ((ns.map V.int).length : Int) := of_decide_eq_true c
      rw [List.length_map] at c
      exact ⟨_, rfl, _, rfl, a, _, _, _, rfl, rfl, hS, at_of (j := k.toNat) (by omega) (map_get (by omega)), q _⟩
    · exact ⟨_, rfl, _, _, rfl, rfl, .inl ⟨by decide, by decide⟩, _, _, rfl, rfl, q _⟩

theorem ok_L_box (T : Tx K mg) : FnOk P w K mg base CX0 1 T.a_L_box T.fd_L_box ["_law_cell"] spBox := by
  refine T.F_L_box.ok sc_L_box (fun vs H Q E h => ?_) (fun cdv A outer s H vs Q E hr h => ?_)
  · obtain ⟨c, rfl, _⟩ := h
    rfl
  · obtain ⟨c, rfl, q⟩ := h
    refine ⟨_, QSs.go (qss_one (qs_ret (qe_lst (qa_cons (qe_op op_mul (qe_callB (call_max2 rfl) (by rfl) T.n_max (by decide +kernel) (qa_cons qe_int (qa_cons (qv 0) qa_nil))) (qe_callTy call_int1 (by rfl) T.n_int (by decide +kernel) (qa_cons (qe_cmpR op_ge (qv 0) (qe_op op_pow qe_int qe_int) (nomark _)) qa_nil))) (qa_cons (qe_op op_mod (qv 0) qe_int) (qa_cons qe_int qa_nil)))))), ?_⟩

    refine ⟨_, rfl, _, _, rfl, _, rfl, _, _, rfl, rfl, ⟨by decide, by decide, by decide⟩, _, _, rfl, rfl, .inr ⟨_, rfl, _, _, rfl, rfl, .inr ?_, _, rfl, _, _, rfl, rfl, (by show (0 : Int) < 2147483629; decide), (by show 3 ≤ sizeLine; decide), fun p hp => ?_⟩⟩
    · split <;> decide
    · exact q p _ hp ⟨_, _, _, upd_same⟩ (Same.old hp)

theorem ok_L_take (T : Tx K mg) : FnOk P w K mg base CX0 1 T.a_L_take T.fd_L_take ["_law_box_here", "_law_many"] spTake := by
  refine T.F_L_take.ok sc_L_take (fun vs H Q E h => ?_) (fun cdv A outer s H vs Q E hr h => ?_)
  · obtain ⟨p, m, rfl, _⟩ := h
    rfl
  · obtain ⟨p, m, rfl, ⟨a, b, c, hp⟩, hm, hl, q⟩ := h
    refine ⟨_, QSs.go (qss_cons (qs_if (qt_cmpR op_gt (qe_ix ix_list (qv 0) qe_int (fun _ _ => rfl)) qe_int (nomark _)) (qss_cons (qs_set (i := 2) sc_L_take.nd rfl (Or.inl rfl) (qe_op op_mod (qe_ix ix_list (qv 0) qe_int (fun _ _ => rfl)) (qv 1)))
        (qss_cons (qs_asg (qe_op op_fdivB (qe_ix ix_list (qv 0) qe_int (fun _ _ => rfl)) (qv 1)) (qg_sub (qv 0) qe_int set_list))
        (qss_one (qs_ret (qv 2))))) qss_nil)
      (qss_cons (qs_asg (qe_op op_add (qe_ix ix_list (qv 0) qe_int (fun _ _ => rfl)) qe_int) (qg_sub (qv 0) qe_int set_list))
      (qss_cons (qs_set (i := 3) sc_L_take.nd rfl (Or.inl rfl) (qe_op op_mod (qe_op op_mul (qe_op op_add (qe_ix ix_list (qv 0) qe_int (fun _ _ => rfl)) (qe_op op_mul qe_int (qe_ix ix_list (qv 0) qe_int (fun _ _ => rfl)))) qe_int) qe_int))
      (qss_cons (qs_set (i := 3) sc_L_take.nd rfl (Or.inl rfl) (qe_op op_mod (qe_op op_mul (qv 3) (qv 3)) qe_int))
      (qss_cons (qs_set (i := 4) sc_L_take.nd rfl (Or.inl rfl) (qe_op op_fdivB (qe_op op_mod (qe_op op_mul (qe_op op_add (qv 3) (qe_ix ix_list (qv 0) qe_int (fun _ _ => rfl))) (qe_op op_add (qv 3) qe_int)) qe_int) qe_int))
      (qss_cons (qs_set (i := 5) sc_L_take.nd rfl (Or.inl rfl) (qe_op op_mod (qe_op op_add (qe_op op_mul (qv 3) qe_int) (qe_op op_mul qe_int (qe_ix ix_list (qv 0) qe_int (fun _ _ => rfl)))) qe_int))
      (qss_one (qs_ret (qe_op op_mod (qe_op op_add (qe_op op_mul (qv 4) qe_int) (qe_op op_mod (qe_op op_mul (qv 5) (qv 5)) qe_int)) (qv 1)))))))))), ?_⟩

    have r : ∀ {a' b' c' : Int} {H' : Hp}, H' p = some (.lst [.int a', .int b', .int c']) → SqL K H' p [.int a', .int b', .int c'] := fun h => SqL.of h
    refine ⟨_, rfl, p, _, _, _, rfl, rfl, r hp, at_of (j := 0) rfl rfl, _, _, rfl, rfl, _, rfl, ?_⟩
    refine ite2 (fun _ => ?_) (fun _ => ?_)
    · refine ⟨_, rfl, p, _, _, _, rfl, rfl, r hp, at_of (j := 0) rfl rfl, _, rfl, _, _, rfl, rfl, hm, ?_⟩
      refine ⟨_, rfl, p, _, _, _, rfl, rfl, r hp, at_of (j := 0) rfl rfl, _, rfl, _, _, rfl, rfl, ⟨hm, hl⟩, ?_⟩
      refine ⟨_, rfl, p, _, _, 0, rfl, rfl, hp, rfl, ?_⟩
      exact ⟨_, rfl, q _ _ (Int.emod_nonneg _ (by omega)) (Int.emod_lt_of_pos _ hm) ⟨_, _, _, upd_same⟩ Keep.upd⟩
    · refine ⟨_, rfl, p, _, _, _, rfl, rfl, r hp, at_of (j := 2) rfl rfl, _, _, rfl, rfl, ?_⟩
      refine ⟨_, rfl, p, _, _, 2, rfl, rfl, hp, rfl, ?_⟩
      have hp2 : (upd H p (.lst [.int a, .int b, .int (c + 1)])) p = some (.lst [.int a, .int b, .int (c + 1)]) := upd_same
      have n0 : ∀ (x k : Int), 0 < k → 0 ≤ x % k ∧ x % k < k := fun x k h => ⟨Int.emod_nonneg _ (by omega), Int.emod_lt_of_pos _ h⟩
      refine ⟨_, rfl, p, _, _, _, rfl, rfl, r hp2, at_of (j := 1) rfl rfl, _, rfl, p, _, _, _, rfl, rfl, r hp2, at_of (j := 2) rfl rfl, _, _, rfl, rfl, .inl ⟨by decide, by decide⟩, _, _, rfl, rfl, _, _, rfl, rfl, .inr ⟨by decide, by decide⟩, _, _, rfl, rfl, (by show (0 : Int) < 2147483647; decide), ?_⟩
      generalize hx : ((b + 7919 * (c + 1)) * 48271 % 2147483647 : Int) = x
      have b1 := n0 ((b + 7919 * (c + 1)) * 48271) 2147483647 (by decide)
      rw [hx] at b1
      refine ⟨_, rfl, _, rfl, _, _, rfl, rfl, .inl ⟨by omega, by omega⟩, _, _, rfl, rfl, (by show (0 : Int) < 2147483629; decide), ?_⟩
      generalize hy : (x * x % 2147483629 : Int) = y
      have b2 := n0 (x * x) 2147483629 (by decide)
      rw [hy] at b2
      refine ⟨_, rfl, _, rfl, p, _, _, _, rfl, rfl, r hp2, at_of (j := 2) rfl rfl, _, _, rfl, rfl, _, rfl, _, _, rfl, rfl, _, _, rfl, rfl, .inr ⟨by omega, by omega⟩, _, _, rfl, rfl, (by show (0 : Int) < 2147483587; decide), _, _, rfl, rfl, ⟨by decide, by decide⟩, ?_⟩
      refine ⟨_, rfl, _, _, rfl, rfl, .inr ⟨by decide, by decide⟩, _, rfl, p, _, _, _, rfl, rfl, r hp2, at_of (j := 2) rfl rfl, _, _, rfl, rfl, .inl ⟨by decide, by decide⟩, _, _, rfl, rfl, _, _, rfl, rfl, (by show (0 : Int) < 2147483579; decide), ?_⟩
      generalize hz : ((y * 69621 + 104729 * (c + 1)) % 2147483579 : Int) = z
      have b3 := n0 (y * 69621 + 104729 * (c + 1)) 2147483579 (by decide)
      rw [hz] at b3
      refine ⟨_, rfl, _, _, rfl, rfl, .inr ⟨by decide, by decide⟩, _, rfl, _, rfl, _, _, rfl, rfl, .inl ⟨by omega, by omega⟩, _, _, rfl, rfl, (by show (0 : Int) < 2147483563; decide), _, _, rfl, rfl, _, rfl, _, _, rfl, rfl, hm, ?_⟩
      exact q _ _ (n0 _ _ hm).1 (n0 _ _ hm).2 ⟨_, _, _, upd_same⟩ Keep.upd

end
end K15

set_option Elab.async false
set_option linter.all false
set_option maxRecDepth 100000
set_option maxHeartbeats 4000000
namespace K15
open PySem L2
section
variable {P : Program} {w : World} {K : PySem.W.Frag} {mg : Str → Option Value} {base : Heap}
theorem ok_SeedError_i (T : Tx K mg) : FnOk P w K mg base CX0 1 T.a_SeedError_i T.fd_SeedError_i ["self", "text"] (spSK K) := by
  refine T.F_SeedError_i.ok sc_SeedError_i (fun vs H Q E h => ?_) (fun cdv A outer s H vs Q E hr h => ?_)
  · obtain ⟨e, C, v, rfl, _⟩ := h
    rfl
  · obtain ⟨e, C, v, rfl, he, S, q⟩ := h
    refine ⟨_, QSs.go (qss_one (qs_expr (qe_vinit (by rfl) T.n_ValueError (by decide +kernel) T.fv (qa_cons (qv 0) (qa_cons (qv 1) qa_nil))))), ?_⟩

    exact ⟨_, rfl, _, rfl, e, C, v, rfl, he, S, q⟩

theorem ok_NoNumber_i (T : Tx K mg) : FnOk P w K mg base CX0 2 T.a_NoNumber_i T.fd_NoNumber_i ["self", "found"] (spE1 T.c_NoNumber "found") := by
  have G_SeedError_i := ok_SeedError_i (P := P) (w := w) (base := base) T
  refine T.F_NoNumber_i.ok sc_NoNumber_i (fun vs H Q E h => ?_) (fun cdv A outer s H vs Q E hr h => ?_)
  · obtain ⟨e, v, rfl, _⟩ := h
    rfl
  · obtain ⟨e, v, rfl, he, q⟩ := h
    refine ⟨_, QSs.go (qss_cons (qs_expr (qe_clsfn (by rfl) T.mc_SeedError T.sp_SeedError T.rd_SeedError T.fc_SeedError T.F_SeedError_i.kp G_SeedError_i (hr.mono (by decide)) T.b_SeedError_i .nil pass0 (qa_cons (qv 0) (qa_cons qe_str qa_nil))))
      (qss_one (qs_fldE (qv 0) (qv 1) rfl))), ?_⟩

    refine ⟨_, rfl, e, T.c_NoNumber, _, rfl, he, T.S_NoNumber, ?_⟩
    exact ⟨_, rfl, _, rfl, e, T.c_NoNumber, [], rfl, T.S_NoNumber, T.na_NoNumber_found, rfl, by decide, .inl ⟨rfl, he, fun dx h1 h2 => q dx h1 h2⟩⟩

theorem ok_NoWidth_i (T : Tx K mg) : FnOk P w K mg base CX0 2 T.a_NoWidth_i T.fd_NoWidth_i ["self", "found"] (spE1 T.c_NoWidth "found") := by
  have G_SeedError_i := ok_SeedError_i (P := P) (w := w) (base := base) T
  refine T.F_NoWidth_i.ok sc_NoWidth_i (fun vs H Q E h => ?_) (fun cdv A outer s H vs Q E hr h => ?_)
  · obtain ⟨e, v, rfl, _⟩ := h
    rfl
  · obtain ⟨e, v, rfl, he, q⟩ := h
    refine ⟨_, QSs.go (qss_cons (qs_expr (qe_clsfn (by rfl) T.mc_SeedError T.sp_SeedError T.rd_SeedError T.fc_SeedError T.F_SeedError_i.kp G_SeedError_i (hr.mono (by decide)) T.b_SeedError_i .nil pass0 (qa_cons (qv 0) (qa_cons qe_str qa_nil))))
      (qss_one (qs_fldE (qv 0) (qv 1) rfl))), ?_⟩

    refine ⟨_, rfl, e, T.c_NoWidth, _, rfl, he, T.S_NoWidth, ?_⟩
    exact ⟨_, rfl, _, rfl, e, T.c_NoWidth, [], rfl, T.S_NoWidth, T.na_NoWidth_found, rfl, by decide, .inl ⟨rfl, he, fun dx h1 h2 => q dx h1 h2⟩⟩

theorem ok_NoStep_i (T : Tx K mg) : FnOk P w K mg base CX0 2 T.a_NoStep_i T.fd_NoStep_i ["self", "found"] (spE1 T.c_NoStep "found") := by
  have G_SeedError_i := ok_SeedError_i (P := P) (w := w) (base := base) T
  refine T.F_NoStep_i.ok sc_NoStep_i (fun vs H Q E h => ?_) (fun cdv A outer s H vs Q E hr h => ?_)
  · obtain ⟨e, v, rfl, _⟩ := h
    rfl
  · obtain ⟨e, v, rfl, he, q⟩ := h
    refine ⟨_, QSs.go (qss_cons (qs_expr (qe_clsfn (by rfl) T.mc_SeedError T.sp_SeedError T.rd_SeedError T.fc_SeedError T.F_SeedError_i.kp G_SeedError_i (hr.mono (by decide)) T.b_SeedError_i .nil pass0 (qa_cons (qv 0) (qa_cons qe_str qa_nil))))
      (qss_one (qs_fldE (qv 0) (qv 1) rfl))), ?_⟩

    refine ⟨_, rfl, e, T.c_NoStep, _, rfl, he, T.S_NoStep, ?_⟩
    exact ⟨_, rfl, _, rfl, e, T.c_NoStep, [], rfl, T.S_NoStep, T.na_NoStep_found, rfl, by decide, .inl ⟨rfl, he, fun dx h1 h2 => q dx h1 h2⟩⟩

theorem ok_NoMachine_i (T : Tx K mg) : FnOk P w K mg base CX0 2 T.a_NoMachine_i T.fd_NoMachine_i ["self", "found"] (spE1 T.c_NoMachine "found") := by
  have G_SeedError_i := ok_SeedError_i (P := P) (w := w) (base := base) T
  refine T.F_NoMachine_i.ok sc_NoMachine_i (fun vs H Q E h => ?_) (fun cdv A outer s H vs Q E hr h => ?_)
  · obtain ⟨e, v, rfl, _⟩ := h
    rfl
  · obtain ⟨e, v, rfl, he, q⟩ := h
    refine ⟨_, QSs.go (qss_cons (qs_expr (qe_clsfn (by rfl) T.mc_SeedError T.sp_SeedError T.rd_SeedError T.fc_SeedError T.F_SeedError_i.kp G_SeedError_i (hr.mono (by decide)) T.b_SeedError_i .nil pass0 (qa_cons (qv 0) (qa_cons qe_str qa_nil))))
      (qss_one (qs_fldE (qv 0) (qv 1) rfl))), ?_⟩

    refine ⟨_, rfl, e, T.c_NoMachine, _, rfl, he, T.S_NoMachine, ?_⟩
    exact ⟨_, rfl, _, rfl, e, T.c_NoMachine, [], rfl, T.S_NoMachine, T.na_NoMachine_found, rfl, by decide, .inl ⟨rfl, he, fun dx h1 h2 => q dx h1 h2⟩⟩

theorem ok_NoSeed_i (T : Tx K mg) : FnOk P w K mg base CX0 2 T.a_NoSeed_i T.fd_NoSeed_i ["self", "found"] (spE1 T.c_NoSeed "found") := by
  have G_SeedError_i := ok_SeedError_i (P := P) (w := w) (base := base) T
  refine T.F_NoSeed_i.ok sc_NoSeed_i (fun vs H Q E h => ?_) (fun cdv A outer s H vs Q E hr h => ?_)
  · obtain ⟨e, v, rfl, _⟩ := h
    rfl
  · obtain ⟨e, v, rfl, he, q⟩ := h
    refine ⟨_, QSs.go (qss_cons (qs_expr (qe_clsfn (by rfl) T.mc_SeedError T.sp_SeedError T.rd_SeedError T.fc_SeedError T.F_SeedError_i.kp G_SeedError_i (hr.mono (by decide)) T.b_SeedError_i .nil pass0 (qa_cons (qv 0) (qa_cons qe_str qa_nil))))
      (qss_one (qs_fldE (qv 0) (qv 1) rfl))), ?_⟩

    refine ⟨_, rfl, e, T.c_NoSeed, _, rfl, he, T.S_NoSeed, ?_⟩
    exact ⟨_, rfl, _, rfl, e, T.c_NoSeed, [], rfl, T.S_NoSeed, T.na_NoSeed_found, rfl, by decide, .inl ⟨rfl, he, fun dx h1 h2 => q dx h1 h2⟩⟩

theorem ok_NoPath_i (T : Tx K mg) : FnOk P w K mg base CX0 2 T.a_NoPath_i T.fd_NoPath_i ["self", "found"] (spE1 T.c_NoPath "found") := by
  have G_SeedError_i := ok_SeedError_i (P := P) (w := w) (base := base) T
  refine T.F_NoPath_i.ok sc_NoPath_i (fun vs H Q E h => ?_) (fun cdv A outer s H vs Q E hr h => ?_)
  · obtain ⟨e, v, rfl, _⟩ := h
    rfl
  · obtain ⟨e, v, rfl, he, q⟩ := h
    refine ⟨_, QSs.go (qss_cons (qs_expr (qe_clsfn (by rfl) T.mc_SeedError T.sp_SeedError T.rd_SeedError T.fc_SeedError T.F_SeedError_i.kp G_SeedError_i (hr.mono (by decide)) T.b_SeedError_i .nil pass0 (qa_cons (qv 0) (qa_cons qe_str qa_nil))))
      (qss_one (qs_fldE (qv 0) (qv 1) rfl))), ?_⟩

    refine ⟨_, rfl, e, T.c_NoPath, _, rfl, he, T.S_NoPath, ?_⟩
    exact ⟨_, rfl, _, rfl, e, T.c_NoPath, [], rfl, T.S_NoPath, T.na_NoPath_found, rfl, by decide, .inl ⟨rfl, he, fun dx h1 h2 => q dx h1 h2⟩⟩

theorem ok_NoPlace_i (T : Tx K mg) : FnOk P w K mg base CX0 2 T.a_NoPlace_i T.fd_NoPlace_i ["self", "found"] (spE1 T.c_NoPlace "found") := by
  have G_SeedError_i := ok_SeedError_i (P := P) (w := w) (base := base) T
  refine T.F_NoPlace_i.ok sc_NoPlace_i (fun vs H Q E h => ?_) (fun cdv A outer s H vs Q E hr h => ?_)
  · obtain ⟨e, v, rfl, _⟩ := h
    rfl
  · obtain ⟨e, v, rfl, he, q⟩ := h
    refine ⟨_, QSs.go (qss_cons (qs_expr (qe_clsfn (by rfl) T.mc_SeedError T.sp_SeedError T.rd_SeedError T.fc_SeedError T.F_SeedError_i.kp G_SeedError_i (hr.mono (by decide)) T.b_SeedError_i .nil pass0 (qa_cons (qv 0) (qa_cons qe_str qa_nil))))
      (qss_one (qs_fldE (qv 0) (qv 1) rfl))), ?_⟩

    refine ⟨_, rfl, e, T.c_NoPlace, _, rfl, he, T.S_NoPlace, ?_⟩
    exact ⟨_, rfl, _, rfl, e, T.c_NoPlace, [], rfl, T.S_NoPlace, T.na_NoPlace_found, rfl, by decide, .inl ⟨rfl, he, fun dx h1 h2 => q dx h1 h2⟩⟩

theorem ok_NoState_i (T : Tx K mg) : FnOk P w K mg base CX0 2 T.a_NoState_i T.fd_NoState_i ["self", "found"] (spE1 T.c_NoState "found") := by
  have G_SeedError_i := ok_SeedError_i (P := P) (w := w) (base := base) T
  refine T.F_NoState_i.ok sc_NoState_i (fun vs H Q E h => ?_) (fun cdv A outer s H vs Q E hr h => ?_)
  · obtain ⟨e, v, rfl, _⟩ := h
    rfl
  · obtain ⟨e, v, rfl, he, q⟩ := h
    refine ⟨_, QSs.go (qss_cons (qs_expr (qe_clsfn (by rfl) T.mc_SeedError T.sp_SeedError T.rd_SeedError T.fc_SeedError T.F_SeedError_i.kp G_SeedError_i (hr.mono (by decide)) T.b_SeedError_i .nil pass0 (qa_cons (qv 0) (qa_cons qe_str qa_nil))))
      (qss_one (qs_fldE (qv 0) (qv 1) rfl))), ?_⟩

    refine ⟨_, rfl, e, T.c_NoState, _, rfl, he, T.S_NoState, ?_⟩
    exact ⟨_, rfl, _, rfl, e, T.c_NoState, [], rfl, T.S_NoState, T.na_NoState_found, rfl, by decide, .inl ⟨rfl, he, fun dx h1 h2 => q dx h1 h2⟩⟩

theorem ok_NoText_i (T : Tx K mg) : FnOk P w K mg base CX0 2 T.a_NoText_i T.fd_NoText_i ["self", "at"] (spE1 T.c_NoText "at") := by
  have G_SeedError_i := ok_SeedError_i (P := P) (w := w) (base := base) T
  refine T.F_NoText_i.ok sc_NoText_i (fun vs H Q E h => ?_) (fun cdv A outer s H vs Q E hr h => ?_)
  · obtain ⟨e, v, rfl, _⟩ := h
    rfl
  · obtain ⟨e, v, rfl, he, q⟩ := h
    refine ⟨_, QSs.go (qss_cons (qs_expr (qe_clsfn (by rfl) T.mc_SeedError T.sp_SeedError T.rd_SeedError T.fc_SeedError T.F_SeedError_i.kp G_SeedError_i (hr.mono (by decide)) T.b_SeedError_i .nil pass0 (qa_cons (qv 0) (qa_cons qe_str qa_nil))))
      (qss_one (qs_fldE (qv 0) (qv 1) rfl))), ?_⟩

    refine ⟨_, rfl, e, T.c_NoText, _, rfl, he, T.S_NoText, ?_⟩
    exact ⟨_, rfl, _, rfl, e, T.c_NoText, [], rfl, T.S_NoText, T.na_NoText_at, rfl, by decide, .inl ⟨rfl, he, fun dx h1 h2 => q dx h1 h2⟩⟩

theorem ok_NoHand_i (T : Tx K mg) : FnOk P w K mg base CX0 2 T.a_NoHand_i T.fd_NoHand_i ["self", "found"] (spE1 T.c_NoHand "found") := by
  have G_SeedError_i := ok_SeedError_i (P := P) (w := w) (base := base) T
  refine T.F_NoHand_i.ok sc_NoHand_i (fun vs H Q E h => ?_) (fun cdv A outer s H vs Q E hr h => ?_)
  · obtain ⟨e, v, rfl, _⟩ := h
    rfl
  · obtain ⟨e, v, rfl, he, q⟩ := h
    refine ⟨_, QSs.go (qss_cons (qs_expr (qe_clsfn (by rfl) T.mc_SeedError T.sp_SeedError T.rd_SeedError T.fc_SeedError T.F_SeedError_i.kp G_SeedError_i (hr.mono (by decide)) T.b_SeedError_i .nil pass0 (qa_cons (qv 0) (qa_cons qe_str qa_nil))))
      (qss_one (qs_fldE (qv 0) (qv 1) rfl))), ?_⟩

    refine ⟨_, rfl, e, T.c_NoHand, _, rfl, he, T.S_NoHand, ?_⟩
    exact ⟨_, rfl, _, rfl, e, T.c_NoHand, [], rfl, T.S_NoHand, T.na_NoHand_found, rfl, by decide, .inl ⟨rfl, he, fun dx h1 h2 => q dx h1 h2⟩⟩

theorem ok_NoJoin_i (T : Tx K mg) : FnOk P w K mg base CX0 2 T.a_NoJoin_i T.fd_NoJoin_i ["self", "at"] (spE1 T.c_NoJoin "at") := by
  have G_SeedError_i := ok_SeedError_i (P := P) (w := w) (base := base) T
  refine T.F_NoJoin_i.ok sc_NoJoin_i (fun vs H Q E h => ?_) (fun cdv A outer s H vs Q E hr h => ?_)
  · obtain ⟨e, v, rfl, _⟩ := h
    rfl
  · obtain ⟨e, v, rfl, he, q⟩ := h
    refine ⟨_, QSs.go (qss_cons (qs_expr (qe_clsfn (by rfl) T.mc_SeedError T.sp_SeedError T.rd_SeedError T.fc_SeedError T.F_SeedError_i.kp G_SeedError_i (hr.mono (by decide)) T.b_SeedError_i .nil pass0 (qa_cons (qv 0) (qa_cons qe_str qa_nil))))
      (qss_one (qs_fldE (qv 0) (qv 1) rfl))), ?_⟩

    refine ⟨_, rfl, e, T.c_NoJoin, _, rfl, he, T.S_NoJoin, ?_⟩
    exact ⟨_, rfl, _, rfl, e, T.c_NoJoin, [], rfl, T.S_NoJoin, T.na_NoJoin_at, rfl, by decide, .inl ⟨rfl, he, fun dx h1 h2 => q dx h1 h2⟩⟩

theorem ok_NoName_i (T : Tx K mg) : FnOk P w K mg base CX0 2 T.a_NoName_i T.fd_NoName_i ["self", "found"] (spE1 T.c_NoName "found") := by
  have G_SeedError_i := ok_SeedError_i (P := P) (w := w) (base := base) T
  refine T.F_NoName_i.ok sc_NoName_i (fun vs H Q E h => ?_) (fun cdv A outer s H vs Q E hr h => ?_)
  · obtain ⟨e, v, rfl, _⟩ := h
    rfl
  · obtain ⟨e, v, rfl, he, q⟩ := h
    refine ⟨_, QSs.go (qss_cons (qs_expr (qe_clsfn (by rfl) T.mc_SeedError T.sp_SeedError T.rd_SeedError T.fc_SeedError T.F_SeedError_i.kp G_SeedError_i (hr.mono (by decide)) T.b_SeedError_i .nil pass0 (qa_cons (qv 0) (qa_cons qe_str qa_nil))))
      (qss_one (qs_fldE (qv 0) (qv 1) rfl))), ?_⟩

    refine ⟨_, rfl, e, T.c_NoName, _, rfl, he, T.S_NoName, ?_⟩
    exact ⟨_, rfl, _, rfl, e, T.c_NoName, [], rfl, T.S_NoName, T.na_NoName_found, rfl, by decide, .inl ⟨rfl, he, fun dx h1 h2 => q dx h1 h2⟩⟩

theorem ok_NoOrder_i (T : Tx K mg) : FnOk P w K mg base CX0 2 T.a_NoOrder_i T.fd_NoOrder_i ["self", "found"] (spE1 T.c_NoOrder "found") := by
  have G_SeedError_i := ok_SeedError_i (P := P) (w := w) (base := base) T
  refine T.F_NoOrder_i.ok sc_NoOrder_i (fun vs H Q E h => ?_) (fun cdv A outer s H vs Q E hr h => ?_)
  · obtain ⟨e, v, rfl, _⟩ := h
    rfl
  · obtain ⟨e, v, rfl, he, q⟩ := h
    refine ⟨_, QSs.go (qss_cons (qs_expr (qe_clsfn (by rfl) T.mc_SeedError T.sp_SeedError T.rd_SeedError T.fc_SeedError T.F_SeedError_i.kp G_SeedError_i (hr.mono (by decide)) T.b_SeedError_i .nil pass0 (qa_cons (qv 0) (qa_cons qe_str qa_nil))))
      (qss_one (qs_fldE (qv 0) (qv 1) rfl))), ?_⟩

    refine ⟨_, rfl, e, T.c_NoOrder, _, rfl, he, T.S_NoOrder, ?_⟩
    exact ⟨_, rfl, _, rfl, e, T.c_NoOrder, [], rfl, T.S_NoOrder, T.na_NoOrder_found, rfl, by decide, .inl ⟨rfl, he, fun dx h1 h2 => q dx h1 h2⟩⟩

theorem ok_NoSet_i (T : Tx K mg) : FnOk P w K mg base CX0 2 T.a_NoSet_i T.fd_NoSet_i ["self", "found"] (spE1 T.c_NoSet "found") := by
  have G_SeedError_i := ok_SeedError_i (P := P) (w := w) (base := base) T
  refine T.F_NoSet_i.ok sc_NoSet_i (fun vs H Q E h => ?_) (fun cdv A outer s H vs Q E hr h => ?_)
  · obtain ⟨e, v, rfl, _⟩ := h
    rfl
  · obtain ⟨e, v, rfl, he, q⟩ := h
    refine ⟨_, QSs.go (qss_cons (qs_expr (qe_clsfn (by rfl) T.mc_SeedError T.sp_SeedError T.rd_SeedError T.fc_SeedError T.F_SeedError_i.kp G_SeedError_i (hr.mono (by decide)) T.b_SeedError_i .nil pass0 (qa_cons (qv 0) (qa_cons qe_str qa_nil))))
      (qss_one (qs_fldE (qv 0) (qv 1) rfl))), ?_⟩

    refine ⟨_, rfl, e, T.c_NoSet, _, rfl, he, T.S_NoSet, ?_⟩
    exact ⟨_, rfl, _, rfl, e, T.c_NoSet, [], rfl, T.S_NoSet, T.na_NoSet_found, rfl, by decide, .inl ⟨rfl, he, fun dx h1 h2 => q dx h1 h2⟩⟩

theorem ok_NoShares_i (T : Tx K mg) : FnOk P w K mg base CX0 2 T.a_NoShares_i T.fd_NoShares_i ["self", "found"] (spE1 T.c_NoShares "found") := by
  have G_SeedError_i := ok_SeedError_i (P := P) (w := w) (base := base) T
  refine T.F_NoShares_i.ok sc_NoShares_i (fun vs H Q E h => ?_) (fun cdv A outer s H vs Q E hr h => ?_)
  · obtain ⟨e, v, rfl, _⟩ := h
    rfl
  · obtain ⟨e, v, rfl, he, q⟩ := h
    refine ⟨_, QSs.go (qss_cons (qs_expr (qe_clsfn (by rfl) T.mc_SeedError T.sp_SeedError T.rd_SeedError T.fc_SeedError T.F_SeedError_i.kp G_SeedError_i (hr.mono (by decide)) T.b_SeedError_i .nil pass0 (qa_cons (qv 0) (qa_cons qe_str qa_nil))))
      (qss_one (qs_fldE (qv 0) (qv 1) rfl))), ?_⟩

    refine ⟨_, rfl, e, T.c_NoShares, _, rfl, he, T.S_NoShares, ?_⟩
    exact ⟨_, rfl, _, rfl, e, T.c_NoShares, [], rfl, T.S_NoShares, T.na_NoShares_found, rfl, by decide, .inl ⟨rfl, he, fun dx h1 h2 => q dx h1 h2⟩⟩

theorem ok_NoShape_i (T : Tx K mg) : FnOk P w K mg base CX0 2 T.a_NoShape_i T.fd_NoShape_i ["self", "found"] (spE1 T.c_NoShape "found") := by
  have G_SeedError_i := ok_SeedError_i (P := P) (w := w) (base := base) T
  refine T.F_NoShape_i.ok sc_NoShape_i (fun vs H Q E h => ?_) (fun cdv A outer s H vs Q E hr h => ?_)
  · obtain ⟨e, v, rfl, _⟩ := h
    rfl
  · obtain ⟨e, v, rfl, he, q⟩ := h
    refine ⟨_, QSs.go (qss_cons (qs_expr (qe_clsfn (by rfl) T.mc_SeedError T.sp_SeedError T.rd_SeedError T.fc_SeedError T.F_SeedError_i.kp G_SeedError_i (hr.mono (by decide)) T.b_SeedError_i .nil pass0 (qa_cons (qv 0) (qa_cons qe_str qa_nil))))
      (qss_one (qs_fldE (qv 0) (qv 1) rfl))), ?_⟩

    refine ⟨_, rfl, e, T.c_NoShape, _, rfl, he, T.S_NoShape, ?_⟩
    exact ⟨_, rfl, _, rfl, e, T.c_NoShape, [], rfl, T.S_NoShape, T.na_NoShape_found, rfl, by decide, .inl ⟨rfl, he, fun dx h1 h2 => q dx h1 h2⟩⟩

theorem ok_NoRow_i (T : Tx K mg) : FnOk P w K mg base CX0 2 T.a_NoRow_i T.fd_NoRow_i ["self", "found"] (spE1 T.c_NoRow "found") := by
  have G_SeedError_i := ok_SeedError_i (P := P) (w := w) (base := base) T
  refine T.F_NoRow_i.ok sc_NoRow_i (fun vs H Q E h => ?_) (fun cdv A outer s H vs Q E hr h => ?_)
  · obtain ⟨e, v, rfl, _⟩ := h
    rfl
  · obtain ⟨e, v, rfl, he, q⟩ := h
    refine ⟨_, QSs.go (qss_cons (qs_expr (qe_clsfn (by rfl) T.mc_SeedError T.sp_SeedError T.rd_SeedError T.fc_SeedError T.F_SeedError_i.kp G_SeedError_i (hr.mono (by decide)) T.b_SeedError_i .nil pass0 (qa_cons (qv 0) (qa_cons qe_str qa_nil))))
      (qss_one (qs_fldE (qv 0) (qv 1) rfl))), ?_⟩

    refine ⟨_, rfl, e, T.c_NoRow, _, rfl, he, T.S_NoRow, ?_⟩
    exact ⟨_, rfl, _, rfl, e, T.c_NoRow, [], rfl, T.S_NoRow, T.na_NoRow_found, rfl, by decide, .inl ⟨rfl, he, fun dx h1 h2 => q dx h1 h2⟩⟩

theorem ok_NoPaper_i (T : Tx K mg) : FnOk P w K mg base CX0 2 T.a_NoPaper_i T.fd_NoPaper_i ["self", "found"] (spE1 T.c_NoPaper "found") := by
  have G_SeedError_i := ok_SeedError_i (P := P) (w := w) (base := base) T
  refine T.F_NoPaper_i.ok sc_NoPaper_i (fun vs H Q E h => ?_) (fun cdv A outer s H vs Q E hr h => ?_)
  · obtain ⟨e, v, rfl, _⟩ := h
    rfl
  · obtain ⟨e, v, rfl, he, q⟩ := h
    refine ⟨_, QSs.go (qss_cons (qs_expr (qe_clsfn (by rfl) T.mc_SeedError T.sp_SeedError T.rd_SeedError T.fc_SeedError T.F_SeedError_i.kp G_SeedError_i (hr.mono (by decide)) T.b_SeedError_i .nil pass0 (qa_cons (qv 0) (qa_cons qe_str qa_nil))))
      (qss_one (qs_fldE (qv 0) (qv 1) rfl))), ?_⟩

    refine ⟨_, rfl, e, T.c_NoPaper, _, rfl, he, T.S_NoPaper, ?_⟩
    exact ⟨_, rfl, _, rfl, e, T.c_NoPaper, [], rfl, T.S_NoPaper, T.na_NoPaper_found, rfl, by decide, .inl ⟨rfl, he, fun dx h1 h2 => q dx h1 h2⟩⟩

theorem ok_NoPlan_i (T : Tx K mg) : FnOk P w K mg base CX0 2 T.a_NoPlan_i T.fd_NoPlan_i ["self", "at"] (spE1 T.c_NoPlan "at") := by
  have G_SeedError_i := ok_SeedError_i (P := P) (w := w) (base := base) T
  refine T.F_NoPlan_i.ok sc_NoPlan_i (fun vs H Q E h => ?_) (fun cdv A outer s H vs Q E hr h => ?_)
  · obtain ⟨e, v, rfl, _⟩ := h
    rfl
  · obtain ⟨e, v, rfl, he, q⟩ := h
    refine ⟨_, QSs.go (qss_cons (qs_expr (qe_clsfn (by rfl) T.mc_SeedError T.sp_SeedError T.rd_SeedError T.fc_SeedError T.F_SeedError_i.kp G_SeedError_i (hr.mono (by decide)) T.b_SeedError_i .nil pass0 (qa_cons (qv 0) (qa_cons qe_str qa_nil))))
      (qss_one (qs_fldE (qv 0) (qv 1) rfl))), ?_⟩

    refine ⟨_, rfl, e, T.c_NoPlan, _, rfl, he, T.S_NoPlan, ?_⟩
    exact ⟨_, rfl, _, rfl, e, T.c_NoPlan, [], rfl, T.S_NoPlan, T.na_NoPlan_at, rfl, by decide, .inl ⟨rfl, he, fun dx h1 h2 => q dx h1 h2⟩⟩

theorem ok_NoLine_i (T : Tx K mg) : FnOk P w K mg base CX0 2 T.a_NoLine_i T.fd_NoLine_i ["self", "line"] (spE1 T.c_NoLine "line") := by
  have G_SeedError_i := ok_SeedError_i (P := P) (w := w) (base := base) T
  refine T.F_NoLine_i.ok sc_NoLine_i (fun vs H Q E h => ?_) (fun cdv A outer s H vs Q E hr h => ?_)
  · obtain ⟨e, v, rfl, _⟩ := h
    rfl
  · obtain ⟨e, v, rfl, he, q⟩ := h
    refine ⟨_, QSs.go (qss_cons (qs_expr (qe_clsfn (by rfl) T.mc_SeedError T.sp_SeedError T.rd_SeedError T.fc_SeedError T.F_SeedError_i.kp G_SeedError_i (hr.mono (by decide)) T.b_SeedError_i .nil pass0 (qa_cons (qv 0) (qa_cons qe_str qa_nil))))
      (qss_one (qs_fldE (qv 0) (qv 1) rfl))), ?_⟩

    refine ⟨_, rfl, e, T.c_NoLine, _, rfl, he, T.S_NoLine, ?_⟩
    exact ⟨_, rfl, _, rfl, e, T.c_NoLine, [], rfl, T.S_NoLine, T.na_NoLine_line, rfl, by decide, .inl ⟨rfl, he, fun dx h1 h2 => q dx h1 h2⟩⟩

theorem ok_NoHolder_i (T : Tx K mg) : FnOk P w K mg base CX0 2 T.a_NoHolder_i T.fd_NoHolder_i ["self", "found"] (spE1 T.c_NoHolder "found") := by
  have G_SeedError_i := ok_SeedError_i (P := P) (w := w) (base := base) T
  refine T.F_NoHolder_i.ok sc_NoHolder_i (fun vs H Q E h => ?_) (fun cdv A outer s H vs Q E hr h => ?_)
  · obtain ⟨e, v, rfl, _⟩ := h
    rfl
  · obtain ⟨e, v, rfl, he, q⟩ := h
    refine ⟨_, QSs.go (qss_cons (qs_expr (qe_clsfn (by rfl) T.mc_SeedError T.sp_SeedError T.rd_SeedError T.fc_SeedError T.F_SeedError_i.kp G_SeedError_i (hr.mono (by decide)) T.b_SeedError_i .nil pass0 (qa_cons (qv 0) (qa_cons qe_str qa_nil))))
      (qss_one (qs_fldE (qv 0) (qv 1) rfl))), ?_⟩

    refine ⟨_, rfl, e, T.c_NoHolder, _, rfl, he, T.S_NoHolder, ?_⟩
    exact ⟨_, rfl, _, rfl, e, T.c_NoHolder, [], rfl, T.S_NoHolder, T.na_NoHolder_found, rfl, by decide, .inl ⟨rfl, he, fun dx h1 h2 => q dx h1 h2⟩⟩

theorem ok_TooWide_i (T : Tx K mg) : FnOk P w K mg base CX0 2 T.a_TooWide_i T.fd_TooWide_i ["self", "total"] (spE1 T.c_TooWide "total") := by
  have G_SeedError_i := ok_SeedError_i (P := P) (w := w) (base := base) T
  refine T.F_TooWide_i.ok sc_TooWide_i (fun vs H Q E h => ?_) (fun cdv A outer s H vs Q E hr h => ?_)
  · obtain ⟨e, v, rfl, _⟩ := h
    rfl
  · obtain ⟨e, v, rfl, he, q⟩ := h
    refine ⟨_, QSs.go (qss_cons (qs_expr (qe_clsfn (by rfl) T.mc_SeedError T.sp_SeedError T.rd_SeedError T.fc_SeedError T.F_SeedError_i.kp G_SeedError_i (hr.mono (by decide)) T.b_SeedError_i .nil pass0 (qa_cons (qv 0) (qa_cons qe_str qa_nil))))
      (qss_one (qs_fldE (qv 0) (qv 1) rfl))), ?_⟩

    refine ⟨_, rfl, e, T.c_TooWide, _, rfl, he, T.S_TooWide, ?_⟩
    exact ⟨_, rfl, _, rfl, e, T.c_TooWide, [], rfl, T.S_TooWide, T.na_TooWide_total, rfl, by decide, .inl ⟨rfl, he, fun dx h1 h2 => q dx h1 h2⟩⟩

theorem ok_TooDeep_i (T : Tx K mg) : FnOk P w K mg base CX0 2 T.a_TooDeep_i T.fd_TooDeep_i ["self", "path"] (spE1 T.c_TooDeep "path") := by
  have G_SeedError_i := ok_SeedError_i (P := P) (w := w) (base := base) T
  refine T.F_TooDeep_i.ok sc_TooDeep_i (fun vs H Q E h => ?_) (fun cdv A outer s H vs Q E hr h => ?_)
  · obtain ⟨e, v, rfl, _⟩ := h
    rfl
  · obtain ⟨e, v, rfl, he, q⟩ := h
    refine ⟨_, QSs.go (qss_cons (qs_expr (qe_clsfn (by rfl) T.mc_SeedError T.sp_SeedError T.rd_SeedError T.fc_SeedError T.F_SeedError_i.kp G_SeedError_i (hr.mono (by decide)) T.b_SeedError_i .nil pass0 (qa_cons (qv 0) (qa_cons qe_str qa_nil))))
      (qss_one (qs_fldE (qv 0) (qv 1) rfl))), ?_⟩

    refine ⟨_, rfl, e, T.c_TooDeep, _, rfl, he, T.S_TooDeep, ?_⟩
    exact ⟨_, rfl, _, rfl, e, T.c_TooDeep, [], rfl, T.S_TooDeep, T.na_TooDeep_path, rfl, by decide, .inl ⟨rfl, he, fun dx h1 h2 => q dx h1 h2⟩⟩

theorem ok_Twice_i (T : Tx K mg) : FnOk P w K mg base CX0 2 T.a_Twice_i T.fd_Twice_i ["self", "name"] (spE1 T.c_Twice "name") := by
  have G_SeedError_i := ok_SeedError_i (P := P) (w := w) (base := base) T
  refine T.F_Twice_i.ok sc_Twice_i (fun vs H Q E h => ?_) (fun cdv A outer s H vs Q E hr h => ?_)
  · obtain ⟨e, v, rfl, _⟩ := h
    rfl
  · obtain ⟨e, v, rfl, he, q⟩ := h
    refine ⟨_, QSs.go (qss_cons (qs_expr (qe_clsfn (by rfl) T.mc_SeedError T.sp_SeedError T.rd_SeedError T.fc_SeedError T.F_SeedError_i.kp G_SeedError_i (hr.mono (by decide)) T.b_SeedError_i .nil pass0 (qa_cons (qv 0) (qa_cons qe_str qa_nil))))
      (qss_one (qs_fldE (qv 0) (qv 1) rfl))), ?_⟩

    refine ⟨_, rfl, e, T.c_Twice, _, rfl, he, T.S_Twice, ?_⟩
    exact ⟨_, rfl, _, rfl, e, T.c_Twice, [], rfl, T.S_Twice, T.na_Twice_name, rfl, by decide, .inl ⟨rfl, he, fun dx h1 h2 => q dx h1 h2⟩⟩

theorem ok_Unknown_i (T : Tx K mg) : FnOk P w K mg base CX0 2 T.a_Unknown_i T.fd_Unknown_i ["self", "name"] (spE1 T.c_Unknown "name") := by
  have G_SeedError_i := ok_SeedError_i (P := P) (w := w) (base := base) T
  refine T.F_Unknown_i.ok sc_Unknown_i (fun vs H Q E h => ?_) (fun cdv A outer s H vs Q E hr h => ?_)
  · obtain ⟨e, v, rfl, _⟩ := h
    rfl
  · obtain ⟨e, v, rfl, he, q⟩ := h
    refine ⟨_, QSs.go (qss_cons (qs_expr (qe_clsfn (by rfl) T.mc_SeedError T.sp_SeedError T.rd_SeedError T.fc_SeedError T.F_SeedError_i.kp G_SeedError_i (hr.mono (by decide)) T.b_SeedError_i .nil pass0 (qa_cons (qv 0) (qa_cons qe_str qa_nil))))
      (qss_one (qs_fldE (qv 0) (qv 1) rfl))), ?_⟩

    refine ⟨_, rfl, e, T.c_Unknown, _, rfl, he, T.S_Unknown, ?_⟩
    exact ⟨_, rfl, _, rfl, e, T.c_Unknown, [], rfl, T.S_Unknown, T.na_Unknown_name, rfl, by decide, .inl ⟨rfl, he, fun dx h1 h2 => q dx h1 h2⟩⟩

theorem ok_TooMany_i (T : Tx K mg) : FnOk P w K mg base CX0 2 T.a_TooMany_i T.fd_TooMany_i ["self", "path", "many"] (spE2 T.c_TooMany "path" "many") := by
  have G_SeedError_i := ok_SeedError_i (P := P) (w := w) (base := base) T
  refine T.F_TooMany_i.ok sc_TooMany_i (fun vs H Q E h => ?_) (fun cdv A outer s H vs Q E hr h => ?_)
  · obtain ⟨e, v, w, rfl, _⟩ := h
    rfl
  · obtain ⟨e, v, w, rfl, he, q⟩ := h
    refine ⟨_, QSs.go (qss_cons (qs_expr (qe_clsfn (by rfl) T.mc_SeedError T.sp_SeedError T.rd_SeedError T.fc_SeedError T.F_SeedError_i.kp G_SeedError_i (hr.mono (by decide)) T.b_SeedError_i .nil pass0 (qa_cons (qv 0) (qa_cons qe_str qa_nil))))
      (qss_cons (qs_fldE (qv 0) (qv 1) rfl)
      (qss_one (qs_fldE (qv 0) (qv 2) rfl)))), ?_⟩

    refine ⟨_, rfl, e, T.c_TooMany, _, rfl, he, T.S_TooMany, ?_⟩
    refine ⟨_, rfl, _, rfl, e, T.c_TooMany, [], rfl, T.S_TooMany, T.na_TooMany_path, rfl, by decide, .inl ⟨rfl, he, fun dx h1 h2 => ?_⟩⟩
    exact ⟨_, rfl, _, rfl, e, T.c_TooMany, [("path", v)], rfl, T.S_TooMany, T.na_TooMany_many, rfl, by show 1 ≤ 100; decide, .inr ⟨dx, upd_same, by rw [upd_ne h2, upd_same], h2, q dx h1 h2⟩⟩

theorem ok_Spent_i (T : Tx K mg) : FnOk P w K mg base CX0 2 T.a_Spent_i T.fd_Spent_i ["self", "path", "place"] (spE2 T.c_Spent "path" "place") := by
  have G_SeedError_i := ok_SeedError_i (P := P) (w := w) (base := base) T
  refine T.F_Spent_i.ok sc_Spent_i (fun vs H Q E h => ?_) (fun cdv A outer s H vs Q E hr h => ?_)
  · obtain ⟨e, v, w, rfl, _⟩ := h
    rfl
  · obtain ⟨e, v, w, rfl, he, q⟩ := h
    refine ⟨_, QSs.go (qss_cons (qs_expr (qe_clsfn (by rfl) T.mc_SeedError T.sp_SeedError T.rd_SeedError T.fc_SeedError T.F_SeedError_i.kp G_SeedError_i (hr.mono (by decide)) T.b_SeedError_i .nil pass0 (qa_cons (qv 0) (qa_cons qe_str qa_nil))))
      (qss_cons (qs_fldE (qv 0) (qv 1) rfl)
      (qss_one (qs_fldE (qv 0) (qv 2) rfl)))), ?_⟩

    refine ⟨_, rfl, e, T.c_Spent, _, rfl, he, T.S_Spent, ?_⟩
    refine ⟨_, rfl, _, rfl, e, T.c_Spent, [], rfl, T.S_Spent, T.na_Spent_path, rfl, by decide, .inl ⟨rfl, he, fun dx h1 h2 => ?_⟩⟩
    exact ⟨_, rfl, _, rfl, e, T.c_Spent, [("path", v)], rfl, T.S_Spent, T.na_Spent_place, rfl, by show 1 ≤ 100; decide, .inr ⟨dx, upd_same, by rw [upd_ne h2, upd_same], h2, q dx h1 h2⟩⟩

theorem ok_NoDepth_i (T : Tx K mg) : FnOk P w K mg base CX0 2 T.a_NoDepth_i T.fd_NoDepth_i ["self", "name", "at"] (spE2 T.c_NoDepth "name" "at") := by
  have G_SeedError_i := ok_SeedError_i (P := P) (w := w) (base := base) T
  refine T.F_NoDepth_i.ok sc_NoDepth_i (fun vs H Q E h => ?_) (fun cdv A outer s H vs Q E hr h => ?_)
  · obtain ⟨e, v, w, rfl, _⟩ := h
    rfl
  · obtain ⟨e, v, w, rfl, he, q⟩ := h
    refine ⟨_, QSs.go (qss_cons (qs_expr (qe_clsfn (by rfl) T.mc_SeedError T.sp_SeedError T.rd_SeedError T.fc_SeedError T.F_SeedError_i.kp G_SeedError_i (hr.mono (by decide)) T.b_SeedError_i .nil pass0 (qa_cons (qv 0) (qa_cons qe_str qa_nil))))
      (qss_cons (qs_fldE (qv 0) (qv 1) rfl)
      (qss_one (qs_fldE (qv 0) (qv 2) rfl)))), ?_⟩

    refine ⟨_, rfl, e, T.c_NoDepth, _, rfl, he, T.S_NoDepth, ?_⟩
    refine ⟨_, rfl, _, rfl, e, T.c_NoDepth, [], rfl, T.S_NoDepth, T.na_NoDepth_name, rfl, by decide, .inl ⟨rfl, he, fun dx h1 h2 => ?_⟩⟩
    exact ⟨_, rfl, _, rfl, e, T.c_NoDepth, [("name", v)], rfl, T.S_NoDepth, T.na_NoDepth_at, rfl, by show 1 ≤ 100; decide, .inr ⟨dx, upd_same, by rw [upd_ne h2, upd_same], h2, q dx h1 h2⟩⟩

theorem ok_NoParts_i (T : Tx K mg) : FnOk P w K mg base CX0 2 T.a_NoParts_i T.fd_NoParts_i ["self", "name", "at"] (spE2 T.c_NoParts "name" "at") := by
  have G_SeedError_i := ok_SeedError_i (P := P) (w := w) (base := base) T
  refine T.F_NoParts_i.ok sc_NoParts_i (fun vs H Q E h => ?_) (fun cdv A outer s H vs Q E hr h => ?_)
  · obtain ⟨e, v, w, rfl, _⟩ := h
    rfl
  · obtain ⟨e, v, w, rfl, he, q⟩ := h
    refine ⟨_, QSs.go (qss_cons (qs_expr (qe_clsfn (by rfl) T.mc_SeedError T.sp_SeedError T.rd_SeedError T.fc_SeedError T.F_SeedError_i.kp G_SeedError_i (hr.mono (by decide)) T.b_SeedError_i .nil pass0 (qa_cons (qv 0) (qa_cons qe_str qa_nil))))
      (qss_cons (qs_fldE (qv 0) (qv 1) rfl)
      (qss_one (qs_fldE (qv 0) (qv 2) rfl)))), ?_⟩

    refine ⟨_, rfl, e, T.c_NoParts, _, rfl, he, T.S_NoParts, ?_⟩
    refine ⟨_, rfl, _, rfl, e, T.c_NoParts, [], rfl, T.S_NoParts, T.na_NoParts_name, rfl, by decide, .inl ⟨rfl, he, fun dx h1 h2 => ?_⟩⟩
    exact ⟨_, rfl, _, rfl, e, T.c_NoParts, [("name", v)], rfl, T.S_NoParts, T.na_NoParts_at, rfl, by show 1 ≤ 100; decide, .inr ⟨dx, upd_same, by rw [upd_ne h2, upd_same], h2, q dx h1 h2⟩⟩

theorem ok_Beyond_i (T : Tx K mg) : FnOk P w K mg base CX0 2 T.a_Beyond_i T.fd_Beyond_i ["self", "name", "place"] (spE2 T.c_Beyond "name" "place") := by
  have G_SeedError_i := ok_SeedError_i (P := P) (w := w) (base := base) T
  refine T.F_Beyond_i.ok sc_Beyond_i (fun vs H Q E h => ?_) (fun cdv A outer s H vs Q E hr h => ?_)
  · obtain ⟨e, v, w, rfl, _⟩ := h
    rfl
  · obtain ⟨e, v, w, rfl, he, q⟩ := h
    refine ⟨_, QSs.go (qss_cons (qs_expr (qe_clsfn (by rfl) T.mc_SeedError T.sp_SeedError T.rd_SeedError T.fc_SeedError T.F_SeedError_i.kp G_SeedError_i (hr.mono (by decide)) T.b_SeedError_i .nil pass0 (qa_cons (qv 0) (qa_cons qe_str qa_nil))))
      (qss_cons (qs_fldE (qv 0) (qv 1) rfl)
      (qss_one (qs_fldE (qv 0) (qv 2) rfl)))), ?_⟩

    refine ⟨_, rfl, e, T.c_Beyond, _, rfl, he, T.S_Beyond, ?_⟩
    refine ⟨_, rfl, _, rfl, e, T.c_Beyond, [], rfl, T.S_Beyond, T.na_Beyond_name, rfl, by decide, .inl ⟨rfl, he, fun dx h1 h2 => ?_⟩⟩
    exact ⟨_, rfl, _, rfl, e, T.c_Beyond, [("name", v)], rfl, T.S_Beyond, T.na_Beyond_place, rfl, by show 1 ≤ 100; decide, .inr ⟨dx, upd_same, by rw [upd_ne h2, upd_same], h2, q dx h1 h2⟩⟩

end
end K15

set_option Elab.async false
set_option linter.all false
set_option maxRecDepth 100000
set_option maxHeartbeats 4000000
namespace K15
open PySem L2
section
variable {P : Program} {w : World} {K : PySem.W.Frag} {mg : Str → Option Value} {base : Heap}

def spOnes (cs : List Addr) : Sp := fun vs H Q _ => ∃ (S : Addr → Prop) (one : V), vs = [one] ∧ St1 S H ∧ ∀ l es H', Paired (fun e C => XA S H' e C [("found", one)]) es cs → H' l = some (.lst (es.map V.ref)) → Same H H' → Q (.ref l) H'
theorem ok_L_found_ones (T : Tx K mg) : FnOk P w K mg base CX0 4 T.a_L_found_ones T.fd_L_found_ones ["_law_one"] (spOnes [T.c_NoNumber, T.c_NoWidth, T.c_NoStep, T.c_NoMachine, T.c_NoSeed, T.c_NoPath, T.c_NoPlace, T.c_NoState, T.c_NoHand, T.c_NoName, T.c_NoOrder, T.c_NoSet, T.c_NoShares, T.c_NoShape, T.c_NoRow, T.c_NoPaper, T.c_NoHolder]) := by
  have G_NoNumber_i := ok_NoNumber_i (P := P) (w := w) (base := base) T
  have G_NoWidth_i := ok_NoWidth_i (P := P) (w := w) (base := base) T
  have G_NoStep_i := ok_NoStep_i (P := P) (w := w) (base := base) T
  have G_NoMachine_i := ok_NoMachine_i (P := P) (w := w) (base := base) T
  have G_NoSeed_i := ok_NoSeed_i (P := P) (w := w) (base := base) T
  have G_NoPath_i := ok_NoPath_i (P := P) (w := w) (base := base) T
  have G_NoPlace_i := ok_NoPlace_i (P := P) (w := w) (base := base) T
  have G_NoState_i := ok_NoState_i (P := P) (w := w) (base := base) T
  have G_NoHand_i := ok_NoHand_i (P := P) (w := w) (base := base) T
  have G_NoName_i := ok_NoName_i (P := P) (w := w) (base := base) T
  have G_NoOrder_i := ok_NoOrder_i (P := P) (w := w) (base := base) T
  have G_NoSet_i := ok_NoSet_i (P := P) (w := w) (base := base) T
  have G_NoShares_i := ok_NoShares_i (P := P) (w := w) (base := base) T
  have G_NoShape_i := ok_NoShape_i (P := P) (w := w) (base := base) T
  have G_NoRow_i := ok_NoRow_i (P := P) (w := w) (base := base) T
  have G_NoPaper_i := ok_NoPaper_i (P := P) (w := w) (base := base) T
  have G_NoHolder_i := ok_NoHolder_i (P := P) (w := w) (base := base) T
  refine T.F_L_found_ones.ok sc_L_found_ones (fun vs H Q E h => ?_) (fun cdv A outer s H vs Q E hr h => ?_)
  · obtain ⟨S, one, rfl, _⟩ := h
    rfl
  · obtain ⟨S, one, rfl, hS, q⟩ := h
    refine ⟨_, QSs.go (qss_cons (qs_set (i := 1) sc_L_found_ones.nd rfl (Or.inl rfl) (qe_lst (qa_cons (qe_xmake T.S_NoNumber T.i_NoNumber T.t_NoNumber T.k_NoNumber G_NoNumber_i (hr.mono (by decide)) (by rfl) T.mc_NoNumber T.b_NoNumber_i .nil pass0 (qa_cons (qv 0) qa_nil)) (qa_cons (qe_xmake T.S_NoWidth T.i_NoWidth T.t_NoWidth T.k_NoWidth G_NoWidth_i (hr.mono (by decide)) (by rfl) T.mc_NoWidth T.b_NoWidth_i .nil pass0 (qa_cons (qv 0) qa_nil)) (qa_cons (qe_xmake T.S_NoStep T.i_NoStep T.t_NoStep T.k_NoStep G_NoStep_i (hr.mono (by decide)) (by rfl) T.mc_NoStep T.b_NoStep_i .nil pass0 (qa_cons (qv 0) qa_nil)) (qa_cons (qe_xmake T.S_NoMachine T.i_NoMachine T.t_NoMachine T.k_NoMachine G_NoMachine_i (hr.mono (by decide)) (by rfl) T.mc_NoMachine T.b_NoMachine_i .nil pass0 (qa_cons (qv 0) qa_nil)) (qa_cons (qe_xmake T.S_NoSeed T.i_NoSeed T.t_NoSeed T.k_NoSeed G_NoSeed_i (hr.mono (by decide)) (by rfl) T.mc_NoSeed T.b_NoSeed_i .nil pass0 (qa_cons (qv 0) qa_nil)) (qa_cons (qe_xmake T.S_NoPath T.i_NoPath T.t_NoPath T.k_NoPath G_NoPath_i (hr.mono (by decide)) (by rfl) T.mc_NoPath T.b_NoPath_i .nil pass0 (qa_cons (qv 0) qa_nil)) (qa_cons (qe_xmake T.S_NoPlace T.i_NoPlace T.t_NoPlace T.k_NoPlace G_NoPlace_i (hr.mono (by decide)) (by rfl) T.mc_NoPlace T.b_NoPlace_i .nil pass0 (qa_cons (qv 0) qa_nil)) qa_nil)))))))))
      (qss_cons (qs_set (i := 1) sc_L_found_ones.nd rfl (Or.inl rfl) (qe_op op_cat (qv 1) (qe_lst (qa_cons (qe_xmake T.S_NoState T.i_NoState T.t_NoState T.k_NoState G_NoState_i (hr.mono (by decide)) (by rfl) T.mc_NoState T.b_NoState_i .nil pass0 (qa_cons (qv 0) qa_nil)) (qa_cons (qe_xmake T.S_NoHand T.i_NoHand T.t_NoHand T.k_NoHand G_NoHand_i (hr.mono (by decide)) (by rfl) T.mc_NoHand T.b_NoHand_i .nil pass0 (qa_cons (qv 0) qa_nil)) (qa_cons (qe_xmake T.S_NoName T.i_NoName T.t_NoName T.k_NoName G_NoName_i (hr.mono (by decide)) (by rfl) T.mc_NoName T.b_NoName_i .nil pass0 (qa_cons (qv 0) qa_nil)) (qa_cons (qe_xmake T.S_NoOrder T.i_NoOrder T.t_NoOrder T.k_NoOrder G_NoOrder_i (hr.mono (by decide)) (by rfl) T.mc_NoOrder T.b_NoOrder_i .nil pass0 (qa_cons (qv 0) qa_nil)) (qa_cons (qe_xmake T.S_NoSet T.i_NoSet T.t_NoSet T.k_NoSet G_NoSet_i (hr.mono (by decide)) (by rfl) T.mc_NoSet T.b_NoSet_i .nil pass0 (qa_cons (qv 0) qa_nil)) (qa_cons (qe_xmake T.S_NoShares T.i_NoShares T.t_NoShares T.k_NoShares G_NoShares_i (hr.mono (by decide)) (by rfl) T.mc_NoShares T.b_NoShares_i .nil pass0 (qa_cons (qv 0) qa_nil)) (qa_cons (qe_xmake T.S_NoShape T.i_NoShape T.t_NoShape T.k_NoShape G_NoShape_i (hr.mono (by decide)) (by rfl) T.mc_NoShape T.b_NoShape_i .nil pass0 (qa_cons (qv 0) qa_nil)) qa_nil))))))))))
      (qss_one (qs_ret (qe_op op_cat (qv 1) (qe_lst (qa_cons (qe_xmake T.S_NoRow T.i_NoRow T.t_NoRow T.k_NoRow G_NoRow_i (hr.mono (by decide)) (by rfl) T.mc_NoRow T.b_NoRow_i .nil pass0 (qa_cons (qv 0) qa_nil)) (qa_cons (qe_xmake T.S_NoPaper T.i_NoPaper T.t_NoPaper T.k_NoPaper G_NoPaper_i (hr.mono (by decide)) (by rfl) T.mc_NoPaper T.b_NoPaper_i .nil pass0 (qa_cons (qv 0) qa_nil)) (qa_cons (qe_xmake T.S_NoHolder T.i_NoHolder T.t_NoHolder T.k_NoHolder G_NoHolder_i (hr.mono (by decide)) (by rfl) T.mc_NoHolder T.b_NoHolder_i .nil pass0 (qa_cons (qv 0) qa_nil)) qa_nil))))))))), ?_⟩

    refine ⟨_, rfl, (by show 1 ≤ 100; decide), fun e0 he0 => ⟨e0, one, rfl, upd_same, fun dx0 hd0 hn0 => ⟨rfl, ?_⟩⟩⟩
    obtain ⟨x0, s0⟩ := xa_one (S := S) (f := "found") (v := one) (hS.same (Same.refl H)) he0 hd0 hn0
    generalize upd (upd (upd H e0 (ExN e0 T.c_NoNumber)) dx0 (XdE dx0 [("found", one)])) e0 (ExF e0 T.c_NoNumber dx0) = G0 at x0 s0 ⊢
    have t0 : Same H G0 := (Same.refl H).trans s0
    have p : Paired (fun e C => XA S G0 e C [("found", one)]) [e0] [T.c_NoNumber] := .cons x0 .nil
    refine ⟨_, rfl, (by show 1 ≤ 100; decide), fun e1 he1 => ⟨e1, one, rfl, upd_same, fun dx1 hd1 hn1 => ⟨rfl, ?_⟩⟩⟩
    obtain ⟨x1, s1⟩ := xa_one (S := S) (f := "found") (v := one) (hS.same (t0)) he1 hd1 hn1
    generalize upd (upd (upd G0 e1 (ExN e1 T.c_NoWidth)) dx1 (XdE dx1 [("found", one)])) e1 (ExF e1 T.c_NoWidth dx1) = G1 at x1 s1 ⊢
    have t1 : Same H G1 := (t0).trans s1
    have p := pr_snoc (pr_imp (fun _ _ => XA.same s1) p) x1
    refine ⟨_, rfl, (by show 1 ≤ 100; decide), fun e2 he2 => ⟨e2, one, rfl, upd_same, fun dx2 hd2 hn2 => ⟨rfl, ?_⟩⟩⟩
    obtain ⟨x2, s2⟩ := xa_one (S := S) (f := "found") (v := one) (hS.same (t1)) he2 hd2 hn2
    generalize upd (upd (upd G1 e2 (ExN e2 T.c_NoStep)) dx2 (XdE dx2 [("found", one)])) e2 (ExF e2 T.c_NoStep dx2) = G2 at x2 s2 ⊢
    have t2 : Same H G2 := (t1).trans s2
    have p := pr_snoc (pr_imp (fun _ _ => XA.same s2) p) x2
    refine ⟨_, rfl, (by show 1 ≤ 100; decide), fun e3 he3 => ⟨e3, one, rfl, upd_same, fun dx3 hd3 hn3 => ⟨rfl, ?_⟩⟩⟩
    obtain ⟨x3, s3⟩ := xa_one (S := S) (f := "found") (v := one) (hS.same (t2)) he3 hd3 hn3
    generalize upd (upd (upd G2 e3 (ExN e3 T.c_NoMachine)) dx3 (XdE dx3 [("found", one)])) e3 (ExF e3 T.c_NoMachine dx3) = G3 at x3 s3 ⊢
    have t3 : Same H G3 := (t2).trans s3
    have p := pr_snoc (pr_imp (fun _ _ => XA.same s3) p) x3
    refine ⟨_, rfl, (by show 1 ≤ 100; decide), fun e4 he4 => ⟨e4, one, rfl, upd_same, fun dx4 hd4 hn4 => ⟨rfl, ?_⟩⟩⟩
    obtain ⟨x4, s4⟩ := xa_one (S := S) (f := "found") (v := one) (hS.same (t3)) he4 hd4 hn4
    generalize upd (upd (upd G3 e4 (ExN e4 T.c_NoSeed)) dx4 (XdE dx4 [("found", one)])) e4 (ExF e4 T.c_NoSeed dx4) = G4 at x4 s4 ⊢
    have t4 : Same H G4 := (t3).trans s4
    have p := pr_snoc (pr_imp (fun _ _ => XA.same s4) p) x4
    refine ⟨_, rfl, (by show 1 ≤ 100; decide), fun e5 he5 => ⟨e5, one, rfl, upd_same, fun dx5 hd5 hn5 => ⟨rfl, ?_⟩⟩⟩
    obtain ⟨x5, s5⟩ := xa_one (S := S) (f := "found") (v := one) (hS.same (t4)) he5 hd5 hn5
    generalize upd (upd (upd G4 e5 (ExN e5 T.c_NoPath)) dx5 (XdE dx5 [("found", one)])) e5 (ExF e5 T.c_NoPath dx5) = G5 at x5 s5 ⊢
    have t5 : Same H G5 := (t4).trans s5
    have p := pr_snoc (pr_imp (fun _ _ => XA.same s5) p) x5
    refine ⟨_, rfl, (by show 1 ≤ 100; decide), fun e6 he6 => ⟨e6, one, rfl, upd_same, fun dx6 hd6 hn6 => ⟨rfl, ?_⟩⟩⟩
    obtain ⟨x6, s6⟩ := xa_one (S := S) (f := "found") (v := one) (hS.same (t5)) he6 hd6 hn6
    generalize upd (upd (upd G5 e6 (ExN e6 T.c_NoPlace)) dx6 (XdE dx6 [("found", one)])) e6 (ExF e6 T.c_NoPlace dx6) = G6 at x6 s6 ⊢
    have t6 : Same H G6 := (t5).trans s6
    have p := pr_snoc (pr_imp (fun _ _ => XA.same s6) p) x6
    refine ⟨by show 7 ≤ sizeLine; decide, fun l1 hl1 => ?_⟩
    generalize eL1 : upd G6 l1 (HO.lst _) = L1
    have nL1 := New.of hl1 eL1
    have p := pr_imp (fun _ _ => XA.same nL1.same) p
    have tL1 : Same H L1 := (t6).trans nL1.same
    have pa := p
    refine ⟨_, rfl, ?_⟩
    refine ⟨_, rfl, (by show 1 ≤ 100; decide), fun e7 he7 => ⟨e7, one, rfl, upd_same, fun dx7 hd7 hn7 => ⟨rfl, ?_⟩⟩⟩
    obtain ⟨x7, s7⟩ := xa_one (S := S) (f := "found") (v := one) (hS.same (tL1)) he7 hd7 hn7
    generalize upd (upd (upd L1 e7 (ExN e7 T.c_NoState)) dx7 (XdE dx7 [("found", one)])) e7 (ExF e7 T.c_NoState dx7) = G7 at x7 s7 ⊢
    have t7 : Same H G7 := (tL1).trans s7
    have p := pr_snoc (pr_imp (fun _ _ => XA.same s7) p) x7
    refine ⟨_, rfl, (by show 1 ≤ 100; decide), fun e8 he8 => ⟨e8, one, rfl, upd_same, fun dx8 hd8 hn8 => ⟨rfl, ?_⟩⟩⟩
    obtain ⟨x8, s8⟩ := xa_one (S := S) (f := "found") (v := one) (hS.same (t7)) he8 hd8 hn8
    generalize upd (upd (upd G7 e8 (ExN e8 T.c_NoHand)) dx8 (XdE dx8 [("found", one)])) e8 (ExF e8 T.c_NoHand dx8) = G8 at x8 s8 ⊢
    have t8 : Same H G8 := (t7).trans s8
    have p := pr_snoc (pr_imp (fun _ _ => XA.same s8) p) x8
    refine ⟨_, rfl, (by show 1 ≤ 100; decide), fun e9 he9 => ⟨e9, one, rfl, upd_same, fun dx9 hd9 hn9 => ⟨rfl, ?_⟩⟩⟩
    obtain ⟨x9, s9⟩ := xa_one (S := S) (f := "found") (v := one) (hS.same (t8)) he9 hd9 hn9
    generalize upd (upd (upd G8 e9 (ExN e9 T.c_NoName)) dx9 (XdE dx9 [("found", one)])) e9 (ExF e9 T.c_NoName dx9) = G9 at x9 s9 ⊢
    have t9 : Same H G9 := (t8).trans s9
    have p := pr_snoc (pr_imp (fun _ _ => XA.same s9) p) x9
    refine ⟨_, rfl, (by show 1 ≤ 100; decide), fun e10 he10 => ⟨e10, one, rfl, upd_same, fun dx10 hd10 hn10 => ⟨rfl, ?_⟩⟩⟩
    obtain ⟨x10, s10⟩ := xa_one (S := S) (f := "found") (v := one) (hS.same (t9)) he10 hd10 hn10
    generalize upd (upd (upd G9 e10 (ExN e10 T.c_NoOrder)) dx10 (XdE dx10 [("found", one)])) e10 (ExF e10 T.c_NoOrder dx10) = G10 at x10 s10 ⊢
    have t10 : Same H G10 := (t9).trans s10
    have p := pr_snoc (pr_imp (fun _ _ => XA.same s10) p) x10
    refine ⟨_, rfl, (by show 1 ≤ 100; decide), fun e11 he11 => ⟨e11, one, rfl, upd_same, fun dx11 hd11 hn11 => ⟨rfl, ?_⟩⟩⟩
    obtain ⟨x11, s11⟩ := xa_one (S := S) (f := "found") (v := one) (hS.same (t10)) he11 hd11 hn11
    generalize upd (upd (upd G10 e11 (ExN e11 T.c_NoSet)) dx11 (XdE dx11 [("found", one)])) e11 (ExF e11 T.c_NoSet dx11) = G11 at x11 s11 ⊢
    have t11 : Same H G11 := (t10).trans s11
    have p := pr_snoc (pr_imp (fun _ _ => XA.same s11) p) x11
    refine ⟨_, rfl, (by show 1 ≤ 100; decide), fun e12 he12 => ⟨e12, one, rfl, upd_same, fun dx12 hd12 hn12 => ⟨rfl, ?_⟩⟩⟩
    obtain ⟨x12, s12⟩ := xa_one (S := S) (f := "found") (v := one) (hS.same (t11)) he12 hd12 hn12
    generalize upd (upd (upd G11 e12 (ExN e12 T.c_NoShares)) dx12 (XdE dx12 [("found", one)])) e12 (ExF e12 T.c_NoShares dx12) = G12 at x12 s12 ⊢
    have t12 : Same H G12 := (t11).trans s12
    have p := pr_snoc (pr_imp (fun _ _ => XA.same s12) p) x12
    refine ⟨_, rfl, (by show 1 ≤ 100; decide), fun e13 he13 => ⟨e13, one, rfl, upd_same, fun dx13 hd13 hn13 => ⟨rfl, ?_⟩⟩⟩
    obtain ⟨x13, s13⟩ := xa_one (S := S) (f := "found") (v := one) (hS.same (t12)) he13 hd13 hn13
    generalize upd (upd (upd G12 e13 (ExN e13 T.c_NoShape)) dx13 (XdE dx13 [("found", one)])) e13 (ExF e13 T.c_NoShape dx13) = G13 at x13 s13 ⊢
    have t13 : Same H G13 := (t12).trans s13
    have p := pr_snoc (pr_imp (fun _ _ => XA.same s13) p) x13
    refine ⟨by show 7 ≤ sizeLine; decide, fun l2 hl2 => ?_⟩
    generalize eL2 : upd G13 l2 (HO.lst _) = L2'
    have nL2 := New.of hl2 eL2
    have p := pr_imp (fun _ _ => XA.same nL2.same) p
    have tL2 : Same H L2' := (t13).trans nL2.same
    have sL : Same L1 L2' := (((((((s7.trans s8).trans s9).trans s10).trans s11).trans s12).trans s13)).trans nL2.same
    refine ⟨l1, l2, _, _, rfl, rfl, sL _ _ nL1.at_, nL2.at_, by show 7 + 7 ≤ sizeLine; decide, fun l3 hl3 => ?_⟩
    generalize eL3 : upd L2' l3 (HO.lst _) = L3
    have nL3 := New.of hl3 eL3
    have p := pr_imp (fun _ _ => XA.same nL3.same) p
    have tL3 : Same H L3 := tL2.trans nL3.same
    refine ⟨_, rfl, ?_⟩
    refine ⟨_, rfl, (by show 1 ≤ 100; decide), fun e14 he14 => ⟨e14, one, rfl, upd_same, fun dx14 hd14 hn14 => ⟨rfl, ?_⟩⟩⟩
    obtain ⟨x14, s14⟩ := xa_one (S := S) (f := "found") (v := one) (hS.same (tL3)) he14 hd14 hn14
    generalize upd (upd (upd L3 e14 (ExN e14 T.c_NoRow)) dx14 (XdE dx14 [("found", one)])) e14 (ExF e14 T.c_NoRow dx14) = G14 at x14 s14 ⊢
    have t14 : Same H G14 := (tL3).trans s14
    have p := pr_snoc (pr_imp (fun _ _ => XA.same s14) p) x14
    refine ⟨_, rfl, (by show 1 ≤ 100; decide), fun e15 he15 => ⟨e15, one, rfl, upd_same, fun dx15 hd15 hn15 => ⟨rfl, ?_⟩⟩⟩
    obtain ⟨x15, s15⟩ := xa_one (S := S) (f := "found") (v := one) (hS.same (t14)) he15 hd15 hn15
    generalize upd (upd (upd G14 e15 (ExN e15 T.c_NoPaper)) dx15 (XdE dx15 [("found", one)])) e15 (ExF e15 T.c_NoPaper dx15) = G15 at x15 s15 ⊢
    have t15 : Same H G15 := (t14).trans s15
    have p := pr_snoc (pr_imp (fun _ _ => XA.same s15) p) x15
    refine ⟨_, rfl, (by show 1 ≤ 100; decide), fun e16 he16 => ⟨e16, one, rfl, upd_same, fun dx16 hd16 hn16 => ⟨rfl, ?_⟩⟩⟩
    obtain ⟨x16, s16⟩ := xa_one (S := S) (f := "found") (v := one) (hS.same (t15)) he16 hd16 hn16
    generalize upd (upd (upd G15 e16 (ExN e16 T.c_NoHolder)) dx16 (XdE dx16 [("found", one)])) e16 (ExF e16 T.c_NoHolder dx16) = G16 at x16 s16 ⊢
    have t16 : Same H G16 := (t15).trans s16
    have p := pr_snoc (pr_imp (fun _ _ => XA.same s16) p) x16
    refine ⟨by show 3 ≤ sizeLine; decide, fun l4 hl4 => ?_⟩
    generalize eL4 : upd G16 l4 (HO.lst _) = L4
    have nL4 := New.of hl4 eL4
    have p := pr_imp (fun _ _ => XA.same nL4.same) p
    have sL4 : Same L3 L4 := ((s14.trans s15).trans s16).trans nL4.same
    refine ⟨l3, l4, _, _, rfl, rfl, sL4 _ _ nL3.at_, nL4.at_, by show 14 + 3 ≤ sizeLine; decide, fun l5 hl5 => ?_⟩
    generalize eL5 : upd L4 l5 (HO.lst _) = L5
    have nL5 := New.of hl5 eL5
    have p := pr_imp (fun _ _ => XA.same nL5.same) p
    exact q l5 _ _ p nL5.at_ ((tL3.trans sL4).trans nL5.same)

end
end K15

set_option Elab.async false
set_option linter.all false
set_option maxRecDepth 100000
set_option maxHeartbeats 4000000
namespace K15
open PySem L2
section
variable {P : Program} {w : World} {K : PySem.W.Frag} {mg : Str → Option Value} {base : Heap}

/-- a triple: an exception of class C, and twice the same things -/
def PrT (S : Addr → Prop) (one other : V) (H : Hp) (v : V) (C : Addr) : Prop := ∃ t e f d fs xs, v = .ref t ∧ H t = some (.tup [.ref e, .ref f, .ref d]) ∧ XA S H e C fs ∧ H f = some (.lst xs) ∧ H d = some (.lst xs) ∧ (xs = [one] ∨ xs = [one, other]) ∧ ¬ S t ∧ ¬ S f ∧ ¬ S d
/-- all that is not in S is as it was -/
def KeepS (S : Addr → Prop) (H H' : Hp) : Prop := ∀ b o, H b = some o → ¬ S b → H' b = some o
theorem XA.keep {S : Addr → Prop} {H H' : Hp} {e C : Addr} {fs : List (Str × V)} (s : KeepS S H H') (x : XA S H e C fs) : XA S H' e C fs := let ⟨dx, a, b, c, d⟩ := x; ⟨dx, s _ _ a c, s _ _ b d, c, d⟩
theorem PrT.keep {S : Addr → Prop} {one other : V} {H H' : Hp} {v : V} {C : Addr} (s : KeepS S H H') (x : PrT S one other H v C) : PrT S one other H' v C := by
  obtain ⟨t, e, f, d, fs, xs, a, b, c, k, l, m, n1, n2, n3⟩ := x
  exact ⟨t, e, f, d, fs, xs, a, s _ _ b n1, c.keep s, s _ _ k n2, s _ _ l n3, m, n1, n2, n3⟩
theorem _root_.L2.Same.keepS {S : Addr → Prop} {H H' : Hp} (s : Same H H') : KeepS S H H' := fun b o e _ => s b o e
theorem keepS_upd {S : Addr → Prop} {H : Hp} {p : Addr} {o : HO} (hp : S p) : KeepS S H (upd H p o) := fun b u e n => by
  rw [upd_ne (fun z => n (by rw [z]; exact hp))]
  exact e
theorem PrT.less {S S' : Addr → Prop} {one other : V} {H : Hp} {v : V} {C : Addr} (h : ∀ a, S' a → S a) (x : PrT S one other H v C) : PrT S' one other H v C := by
  obtain ⟨t, e, f, d, fs, xs, a, b, ⟨dx, c1, c2, c3, c4⟩, k, l, m, n1, n2, n3⟩ := x
  exact ⟨t, e, f, d, fs, xs, a, b, ⟨dx, c1, c2, fun z => c3 (h _ z), fun z => c4 (h _ z)⟩, k, l, m, fun z => n1 (h _ z), fun z => n2 (h _ z), fun z => n3 (h _ z)⟩
theorem XA.more {S : Addr → Prop} {H : Hp} {e C D : Addr} {fs : List (Str × V)} (x : XA S H e C fs) (hD : H D = none) : XA (fun a => S a ∨ a = D) H e C fs := by
  obtain ⟨dx, c1, c2, c3, c4⟩ := x
  refine ⟨dx, c1, c2, ?_, ?_⟩
  · rintro (z | z)
    · exact c3 z
    · exact ne_of_none c1 hD z
  · rintro (z | z)
    · exact c4 z
    · exact ne_of_none c2 hD z
def spTwos (cs : List Addr) : Sp := fun vs H Q _ => ∃ (S : Addr → Prop) (one other : V), vs = [one, other] ∧ St1 S H ∧ ∀ l ps H', H l = none → Paired (PrT S one other H') ps cs → H' l = some (.lst ps) → Same H H' → Q (.ref l) H'
theorem St1.app {S : Addr → Prop} {H H' : Hp} {D : Addr} {o : HO} (h : St1 S H) (s : Same H H') (hD : H' D = some o) : St1 (fun a => S a ∨ a = D) H' := by
  rintro a (z | z)
  · exact h.same s a z
  · rw [z, hD]
    exact fun z => nomatch z
theorem ok_L_twos (T : Tx K mg) : FnOk P w K mg base CX0 4 T.a_L_twos T.fd_L_twos ["_law_one", "_law_other"] (spTwos [T.c_TooMany, T.c_Spent, T.c_NoDepth, T.c_NoParts, T.c_Beyond]) := by
  have G_TooMany_i := ok_TooMany_i (P := P) (w := w) (base := base) T
  have G_Spent_i := ok_Spent_i (P := P) (w := w) (base := base) T
  have G_NoDepth_i := ok_NoDepth_i (P := P) (w := w) (base := base) T
  have G_NoParts_i := ok_NoParts_i (P := P) (w := w) (base := base) T
  have G_Beyond_i := ok_Beyond_i (P := P) (w := w) (base := base) T
  refine T.F_L_twos.ok sc_L_twos (fun vs H Q E h => ?_) (fun cdv A outer s H vs Q E hr h => ?_)
  · obtain ⟨S0, one, other, rfl, _⟩ := h
    rfl
  · obtain ⟨S0, one, other, rfl, hS0, q⟩ := h
    refine ⟨_, QSs.go (qss_cons (qs_set (i := 2) sc_L_twos.nd rfl (Or.inl rfl) (qe_lst qa_nil))
      (qss_cons (qs_set (i := 3) sc_L_twos.nd rfl (Or.inl rfl) (qe_xmake T.S_TooMany T.i_TooMany T.t_TooMany T.k_TooMany G_TooMany_i (hr.mono (by decide)) (by rfl) T.mc_TooMany T.b_TooMany_i .nil pass0 (qa_cons (qv 0) (qa_cons (qv 1) qa_nil))))
      (qss_cons (qs_expr (qe_bm PySem.F.plainAttrs_list PySem.F.slot_list_append PySem.F.type_list_append mt_append (qv 2) (qa_cons (qe_tup (qa_cons (qv 3) (qa_cons (qe_lst (qa_cons (qe_fldE (qv 3) rfl) (qa_cons (qe_fldE (qv 3) rfl) qa_nil))) (qa_cons (qe_lst (qa_cons (qv 0) (qa_cons (qv 1) qa_nil))) qa_nil)))) qa_nil)))
      (qss_cons (qs_set (i := 3) sc_L_twos.nd rfl (Or.inl rfl) (qe_xmake T.S_Spent T.i_Spent T.t_Spent T.k_Spent G_Spent_i (hr.mono (by decide)) (by rfl) T.mc_Spent T.b_Spent_i .nil pass0 (qa_cons (qv 0) (qa_cons (qv 1) qa_nil))))
      (qss_cons (qs_expr (qe_bm PySem.F.plainAttrs_list PySem.F.slot_list_append PySem.F.type_list_append mt_append (qv 2) (qa_cons (qe_tup (qa_cons (qv 3) (qa_cons (qe_lst (qa_cons (qe_fldE (qv 3) rfl) (qa_cons (qe_fldE (qv 3) rfl) qa_nil))) (qa_cons (qe_lst (qa_cons (qv 0) (qa_cons (qv 1) qa_nil))) qa_nil)))) qa_nil)))
      (qss_cons (qs_set (i := 3) sc_L_twos.nd rfl (Or.inl rfl) (qe_xmake T.S_NoDepth T.i_NoDepth T.t_NoDepth T.k_NoDepth G_NoDepth_i (hr.mono (by decide)) (by rfl) T.mc_NoDepth T.b_NoDepth_i .nil pass0 (qa_cons (qv 0) (qa_cons (qv 1) qa_nil))))
      (qss_cons (qs_expr (qe_bm PySem.F.plainAttrs_list PySem.F.slot_list_append PySem.F.type_list_append mt_append (qv 2) (qa_cons (qe_tup (qa_cons (qv 3) (qa_cons (qe_lst (qa_cons (qe_fldE (qv 3) rfl) (qa_cons (qe_fldE (qv 3) rfl) qa_nil))) (qa_cons (qe_lst (qa_cons (qv 0) (qa_cons (qv 1) qa_nil))) qa_nil)))) qa_nil)))
      (qss_cons (qs_set (i := 3) sc_L_twos.nd rfl (Or.inl rfl) (qe_xmake T.S_NoParts T.i_NoParts T.t_NoParts T.k_NoParts G_NoParts_i (hr.mono (by decide)) (by rfl) T.mc_NoParts T.b_NoParts_i .nil pass0 (qa_cons (qv 0) (qa_cons (qv 1) qa_nil))))
      (qss_cons (qs_expr (qe_bm PySem.F.plainAttrs_list PySem.F.slot_list_append PySem.F.type_list_append mt_append (qv 2) (qa_cons (qe_tup (qa_cons (qv 3) (qa_cons (qe_lst (qa_cons (qe_fldE (qv 3) rfl) (qa_cons (qe_fldE (qv 3) rfl) qa_nil))) (qa_cons (qe_lst (qa_cons (qv 0) (qa_cons (qv 1) qa_nil))) qa_nil)))) qa_nil)))
      (qss_cons (qs_set (i := 3) sc_L_twos.nd rfl (Or.inl rfl) (qe_xmake T.S_Beyond T.i_Beyond T.t_Beyond T.k_Beyond G_Beyond_i (hr.mono (by decide)) (by rfl) T.mc_Beyond T.b_Beyond_i .nil pass0 (qa_cons (qv 0) (qa_cons (qv 1) qa_nil))))
      (qss_cons (qs_expr (qe_bm PySem.F.plainAttrs_list PySem.F.slot_list_append PySem.F.type_list_append mt_append (qv 2) (qa_cons (qe_tup (qa_cons (qv 3) (qa_cons (qe_lst (qa_cons (qe_fldE (qv 3) rfl) (qa_cons (qe_fldE (qv 3) rfl) qa_nil))) (qa_cons (qe_lst (qa_cons (qv 0) (qa_cons (qv 1) qa_nil))) qa_nil)))) qa_nil)))
      (qss_one (qs_ret (qv 2)))))))))))))), ?_⟩

    refine ⟨by show 0 ≤ sizeLine; decide, fun l hl => ?_⟩
    generalize eL : upd H l (HO.lst _) = L0
    have nL : New H l (.lst []) L0 := New.of hl eL
    obtain ⟨S, eS⟩ : ∃ S : Addr → Prop, S = fun a => S0 a ∨ a = l := ⟨_, rfl⟩
    have hSp : St1 S L0 := by rw [eS]; exact hS0.app nL.same nL.at_
    have hSl : S l := by rw [eS]; exact .inr rfl
    have hz := nL.at_
    have p : Paired (PrT S one other L0) [] [] := .nil
    have sH := nL.same
    have plH := hl

    refine ⟨_, rfl, _, rfl, (by show 2 ≤ 100; decide), fun e0 he0 => ⟨e0, one, other, rfl, upd_same, fun dx0 hd0 hn0 => ⟨rfl, ?_⟩⟩⟩
    obtain ⟨x0, s0⟩ := xa_two (S := S) (f := "path") (g := "many") (v := one) (w := other) hSp he0 hd0 hn0
    generalize upd (upd (upd (upd L0 e0 (ExN e0 T.c_TooMany)) dx0 (XdE dx0 [("path", one)])) e0 (ExF e0 T.c_TooMany dx0)) dx0 (XdE dx0 [("path", one), ("many", other)]) = G0 at x0 s0 ⊢
    have hSp := hSp.same s0
    have hz := s0 _ _ hz
    refine ⟨_, rfl, .inl ⟨rfl, _, SqL.of hz⟩, ?_⟩
    obtain ⟨dy0, xe0, xd0, _, _⟩ := id x0
    refine ⟨_, rfl, ?_⟩
    refine ⟨_, rfl, e0, T.c_TooMany, dy0, _, _, rfl, xe0, xd0, T.S_TooMany, T.na_TooMany_path, rfl, ?_⟩
    refine ⟨_, rfl, e0, T.c_TooMany, dy0, _, _, rfl, xe0, xd0, T.S_TooMany, T.na_TooMany_many, rfl, ?_⟩
    refine ⟨by show 2 ≤ sizeLine; decide, fun f0 hf0 => ?_⟩
    generalize eA0 : upd G0 f0 (HO.lst _) = A0
    have nA0 : New G0 f0 (.lst [one, other]) A0 := New.of hf0 eA0
    refine ⟨_, rfl, _, rfl, by show 2 ≤ sizeLine; decide, fun d0 hdd0 => ?_⟩
    generalize eB0 : upd A0 d0 (HO.lst _) = B0
    have nB0 : New A0 d0 (.lst [one, other]) B0 := New.of hdd0 eB0
    refine ⟨by show 3 ≤ sizeLine; decide, fun y0 hy0 => ?_⟩
    generalize eC0 : upd B0 y0 (HO.tup _) = C0
    have nC0 : New B0 y0 (.tup [.ref e0, .ref f0, .ref d0]) C0 := New.of hy0 eC0
    have u0 : Same G0 C0 := (nA0.same.trans nB0.same).trans nC0.same
    have w0 : PrT S one other C0 (.ref y0) T.c_TooMany := ⟨y0, e0, f0, d0, _, [one, other], rfl, nC0.at_, x0.same u0, nC0.get (nB0.get nA0.at_), nC0.get nB0.at_, .inr rfl, (hSp.same (nA0.same.trans nB0.same)).no hy0, hSp.no hf0, (hSp.same nA0.same).no hdd0⟩
    have hz := u0 _ _ hz
    have hlen := Paired.length p
    have p := pr_snoc (pr_imp (fun _ _ => PrT.keep (s0.trans u0).keepS) p) w0
    refine ⟨l, _, _, rfl, rfl, hz, (by rw [hlen]; show 0 < sizeLine; decide), ?_⟩
    generalize eD0 : upd C0 l (HO.lst _) = D0
    have kD0 : KeepS S C0 D0 := by rw [← eD0]; exact keepS_upd hSl
    have p := pr_imp (fun _ _ => PrT.keep kD0) p
    have sH : Same H D0 := by rw [← eD0]; exact ((sH.trans s0).trans u0).at plH
    have hz := congrFun eD0.symm l
    rw [upd_same] at hz
    have hSp : St1 S D0 := by
      intro a ha
      rw [← eD0]
      by_cases za : a = l
      · rw [za, upd_same]
        exact fun z => nomatch z
      · rw [upd_ne za]
        exact hSp.same u0 a ha
    refine ⟨_, rfl, _, rfl, (by show 2 ≤ 100; decide), fun e1 he1 => ⟨e1, one, other, rfl, upd_same, fun dx1 hd1 hn1 => ⟨rfl, ?_⟩⟩⟩
    obtain ⟨x1, s1⟩ := xa_two (S := S) (f := "path") (g := "place") (v := one) (w := other) hSp he1 hd1 hn1
    generalize upd (upd (upd (upd D0 e1 (ExN e1 T.c_Spent)) dx1 (XdE dx1 [("path", one)])) e1 (ExF e1 T.c_Spent dx1)) dx1 (XdE dx1 [("path", one), ("place", other)]) = G1 at x1 s1 ⊢
    have hSp := hSp.same s1
    have hz := s1 _ _ hz
    refine ⟨_, rfl, .inl ⟨rfl, _, SqL.of hz⟩, ?_⟩
    obtain ⟨dy1, xe1, xd1, _, _⟩ := id x1
    refine ⟨_, rfl, ?_⟩
    refine ⟨_, rfl, e1, T.c_Spent, dy1, _, _, rfl, xe1, xd1, T.S_Spent, T.na_Spent_path, rfl, ?_⟩
    refine ⟨_, rfl, e1, T.c_Spent, dy1, _, _, rfl, xe1, xd1, T.S_Spent, T.na_Spent_place, rfl, ?_⟩
    refine ⟨by show 2 ≤ sizeLine; decide, fun f1 hf1 => ?_⟩
    generalize eA1 : upd G1 f1 (HO.lst _) = A1
    have nA1 : New G1 f1 (.lst [one, other]) A1 := New.of hf1 eA1
    refine ⟨_, rfl, _, rfl, by show 2 ≤ sizeLine; decide, fun d1 hdd1 => ?_⟩
    generalize eB1 : upd A1 d1 (HO.lst _) = B1
    have nB1 : New A1 d1 (.lst [one, other]) B1 := New.of hdd1 eB1
    refine ⟨by show 3 ≤ sizeLine; decide, fun y1 hy1 => ?_⟩
    generalize eC1 : upd B1 y1 (HO.tup _) = C1
    have nC1 : New B1 y1 (.tup [.ref e1, .ref f1, .ref d1]) C1 := New.of hy1 eC1
    have u1 : Same G1 C1 := (nA1.same.trans nB1.same).trans nC1.same
    have w1 : PrT S one other C1 (.ref y1) T.c_Spent := ⟨y1, e1, f1, d1, _, [one, other], rfl, nC1.at_, x1.same u1, nC1.get (nB1.get nA1.at_), nC1.get nB1.at_, .inr rfl, (hSp.same (nA1.same.trans nB1.same)).no hy1, hSp.no hf1, (hSp.same nA1.same).no hdd1⟩
    have hz := u1 _ _ hz
    have hlen := Paired.length p
    have p := pr_snoc (pr_imp (fun _ _ => PrT.keep (s1.trans u1).keepS) p) w1
    refine ⟨l, _, _, rfl, rfl, hz, (by rw [hlen]; show 1 < sizeLine; decide), ?_⟩
    generalize eD1 : upd C1 l (HO.lst _) = D1
    have kD1 : KeepS S C1 D1 := by rw [← eD1]; exact keepS_upd hSl
    have p := pr_imp (fun _ _ => PrT.keep kD1) p
    have sH : Same H D1 := by rw [← eD1]; exact ((sH.trans s1).trans u1).at plH
    have hz := congrFun eD1.symm l
    rw [upd_same] at hz
    have hSp : St1 S D1 := by
      intro a ha
      rw [← eD1]
      by_cases za : a = l
      · rw [za, upd_same]
        exact fun z => nomatch z
      · rw [upd_ne za]
        exact hSp.same u1 a ha
    refine ⟨_, rfl, _, rfl, (by show 2 ≤ 100; decide), fun e2 he2 => ⟨e2, one, other, rfl, upd_same, fun dx2 hd2 hn2 => ⟨rfl, ?_⟩⟩⟩
    obtain ⟨x2, s2⟩ := xa_two (S := S) (f := "name") (g := "at") (v := one) (w := other) hSp he2 hd2 hn2
    generalize upd (upd (upd (upd D1 e2 (ExN e2 T.c_NoDepth)) dx2 (XdE dx2 [("name", one)])) e2 (ExF e2 T.c_NoDepth dx2)) dx2 (XdE dx2 [("name", one), ("at", other)]) = G2 at x2 s2 ⊢
    have hSp := hSp.same s2
    have hz := s2 _ _ hz
    refine ⟨_, rfl, .inl ⟨rfl, _, SqL.of hz⟩, ?_⟩
    obtain ⟨dy2, xe2, xd2, _, _⟩ := id x2
    refine ⟨_, rfl, ?_⟩
    refine ⟨_, rfl, e2, T.c_NoDepth, dy2, _, _, rfl, xe2, xd2, T.S_NoDepth, T.na_NoDepth_name, rfl, ?_⟩
    refine ⟨_, rfl, e2, T.c_NoDepth, dy2, _, _, rfl, xe2, xd2, T.S_NoDepth, T.na_NoDepth_at, rfl, ?_⟩
    refine ⟨by show 2 ≤ sizeLine; decide, fun f2 hf2 => ?_⟩
    generalize eA2 : upd G2 f2 (HO.lst _) = A2
    have nA2 : New G2 f2 (.lst [one, other]) A2 := New.of hf2 eA2
    refine ⟨_, rfl, _, rfl, by show 2 ≤ sizeLine; decide, fun d2 hdd2 => ?_⟩
    generalize eB2 : upd A2 d2 (HO.lst _) = B2
    have nB2 : New A2 d2 (.lst [one, other]) B2 := New.of hdd2 eB2
    refine ⟨by show 3 ≤ sizeLine; decide, fun y2 hy2 => ?_⟩
    generalize eC2 : upd B2 y2 (HO.tup _) = C2
    have nC2 : New B2 y2 (.tup [.ref e2, .ref f2, .ref d2]) C2 := New.of hy2 eC2
    have u2 : Same G2 C2 := (nA2.same.trans nB2.same).trans nC2.same
    have w2 : PrT S one other C2 (.ref y2) T.c_NoDepth := ⟨y2, e2, f2, d2, _, [one, other], rfl, nC2.at_, x2.same u2, nC2.get (nB2.get nA2.at_), nC2.get nB2.at_, .inr rfl, (hSp.same (nA2.same.trans nB2.same)).no hy2, hSp.no hf2, (hSp.same nA2.same).no hdd2⟩
    have hz := u2 _ _ hz
    have hlen := Paired.length p
    have p := pr_snoc (pr_imp (fun _ _ => PrT.keep (s2.trans u2).keepS) p) w2
    refine ⟨l, _, _, rfl, rfl, hz, (by rw [hlen]; show 2 < sizeLine; decide), ?_⟩
    generalize eD2 : upd C2 l (HO.lst _) = D2
    have kD2 : KeepS S C2 D2 := by rw [← eD2]; exact keepS_upd hSl
    have p := pr_imp (fun _ _ => PrT.keep kD2) p
    have sH : Same H D2 := by rw [← eD2]; exact ((sH.trans s2).trans u2).at plH
    have hz := congrFun eD2.symm l
    rw [upd_same] at hz
    have hSp : St1 S D2 := by
      intro a ha
      rw [← eD2]
      by_cases za : a = l
      · rw [za, upd_same]
        exact fun z => nomatch z
      · rw [upd_ne za]
        exact hSp.same u2 a ha
    refine ⟨_, rfl, _, rfl, (by show 2 ≤ 100; decide), fun e3 he3 => ⟨e3, one, other, rfl, upd_same, fun dx3 hd3 hn3 => ⟨rfl, ?_⟩⟩⟩
    obtain ⟨x3, s3⟩ := xa_two (S := S) (f := "name") (g := "at") (v := one) (w := other) hSp he3 hd3 hn3
    generalize upd (upd (upd (upd D2 e3 (ExN e3 T.c_NoParts)) dx3 (XdE dx3 [("name", one)])) e3 (ExF e3 T.c_NoParts dx3)) dx3 (XdE dx3 [("name", one), ("at", other)]) = G3 at x3 s3 ⊢
    have hSp := hSp.same s3
    have hz := s3 _ _ hz
    refine ⟨_, rfl, .inl ⟨rfl, _, SqL.of hz⟩, ?_⟩
    obtain ⟨dy3, xe3, xd3, _, _⟩ := id x3
    refine ⟨_, rfl, ?_⟩
    refine ⟨_, rfl, e3, T.c_NoParts, dy3, _, _, rfl, xe3, xd3, T.S_NoParts, T.na_NoParts_name, rfl, ?_⟩
    refine ⟨_, rfl, e3, T.c_NoParts, dy3, _, _, rfl, xe3, xd3, T.S_NoParts, T.na_NoParts_at, rfl, ?_⟩
    refine ⟨by show 2 ≤ sizeLine; decide, fun f3 hf3 => ?_⟩
    generalize eA3 : upd G3 f3 (HO.lst _) = A3
    have nA3 : New G3 f3 (.lst [one, other]) A3 := New.of hf3 eA3
    refine ⟨_, rfl, _, rfl, by show 2 ≤ sizeLine; decide, fun d3 hdd3 => ?_⟩
    generalize eB3 : upd A3 d3 (HO.lst _) = B3
    have nB3 : New A3 d3 (.lst [one, other]) B3 := New.of hdd3 eB3
    refine ⟨by show 3 ≤ sizeLine; decide, fun y3 hy3 => ?_⟩
    generalize eC3 : upd B3 y3 (HO.tup _) = C3
    have nC3 : New B3 y3 (.tup [.ref e3, .ref f3, .ref d3]) C3 := New.of hy3 eC3
    have u3 : Same G3 C3 := (nA3.same.trans nB3.same).trans nC3.same
    have w3 : PrT S one other C3 (.ref y3) T.c_NoParts := ⟨y3, e3, f3, d3, _, [one, other], rfl, nC3.at_, x3.same u3, nC3.get (nB3.get nA3.at_), nC3.get nB3.at_, .inr rfl, (hSp.same (nA3.same.trans nB3.same)).no hy3, hSp.no hf3, (hSp.same nA3.same).no hdd3⟩
    have hz := u3 _ _ hz
    have hlen := Paired.length p
    have p := pr_snoc (pr_imp (fun _ _ => PrT.keep (s3.trans u3).keepS) p) w3
    refine ⟨l, _, _, rfl, rfl, hz, (by rw [hlen]; show 3 < sizeLine; decide), ?_⟩
    generalize eD3 : upd C3 l (HO.lst _) = D3
    have kD3 : KeepS S C3 D3 := by rw [← eD3]; exact keepS_upd hSl
    have p := pr_imp (fun _ _ => PrT.keep kD3) p
    have sH : Same H D3 := by rw [← eD3]; exact ((sH.trans s3).trans u3).at plH
    have hz := congrFun eD3.symm l
    rw [upd_same] at hz
    have hSp : St1 S D3 := by
      intro a ha
      rw [← eD3]
      by_cases za : a = l
      · rw [za, upd_same]
        exact fun z => nomatch z
      · rw [upd_ne za]
        exact hSp.same u3 a ha
    refine ⟨_, rfl, _, rfl, (by show 2 ≤ 100; decide), fun e4 he4 => ⟨e4, one, other, rfl, upd_same, fun dx4 hd4 hn4 => ⟨rfl, ?_⟩⟩⟩
    obtain ⟨x4, s4⟩ := xa_two (S := S) (f := "name") (g := "place") (v := one) (w := other) hSp he4 hd4 hn4
    generalize upd (upd (upd (upd D3 e4 (ExN e4 T.c_Beyond)) dx4 (XdE dx4 [("name", one)])) e4 (ExF e4 T.c_Beyond dx4)) dx4 (XdE dx4 [("name", one), ("place", other)]) = G4 at x4 s4 ⊢
    have hSp := hSp.same s4
    have hz := s4 _ _ hz
    refine ⟨_, rfl, .inl ⟨rfl, _, SqL.of hz⟩, ?_⟩
    obtain ⟨dy4, xe4, xd4, _, _⟩ := id x4
    refine ⟨_, rfl, ?_⟩
    refine ⟨_, rfl, e4, T.c_Beyond, dy4, _, _, rfl, xe4, xd4, T.S_Beyond, T.na_Beyond_name, rfl, ?_⟩
    refine ⟨_, rfl, e4, T.c_Beyond, dy4, _, _, rfl, xe4, xd4, T.S_Beyond, T.na_Beyond_place, rfl, ?_⟩
    refine ⟨by show 2 ≤ sizeLine; decide, fun f4 hf4 => ?_⟩
    generalize eA4 : upd G4 f4 (HO.lst _) = A4
    have nA4 : New G4 f4 (.lst [one, other]) A4 := New.of hf4 eA4
    refine ⟨_, rfl, _, rfl, by show 2 ≤ sizeLine; decide, fun d4 hdd4 => ?_⟩
    generalize eB4 : upd A4 d4 (HO.lst _) = B4
    have nB4 : New A4 d4 (.lst [one, other]) B4 := New.of hdd4 eB4
    refine ⟨by show 3 ≤ sizeLine; decide, fun y4 hy4 => ?_⟩
    generalize eC4 : upd B4 y4 (HO.tup _) = C4
    have nC4 : New B4 y4 (.tup [.ref e4, .ref f4, .ref d4]) C4 := New.of hy4 eC4
    have u4 : Same G4 C4 := (nA4.same.trans nB4.same).trans nC4.same
    have w4 : PrT S one other C4 (.ref y4) T.c_Beyond := ⟨y4, e4, f4, d4, _, [one, other], rfl, nC4.at_, x4.same u4, nC4.get (nB4.get nA4.at_), nC4.get nB4.at_, .inr rfl, (hSp.same (nA4.same.trans nB4.same)).no hy4, hSp.no hf4, (hSp.same nA4.same).no hdd4⟩
    have hz := u4 _ _ hz
    have hlen := Paired.length p
    have p := pr_snoc (pr_imp (fun _ _ => PrT.keep (s4.trans u4).keepS) p) w4
    refine ⟨l, _, _, rfl, rfl, hz, (by rw [hlen]; show 4 < sizeLine; decide), ?_⟩
    generalize eD4 : upd C4 l (HO.lst _) = D4
    have kD4 : KeepS S C4 D4 := by rw [← eD4]; exact keepS_upd hSl
    have p := pr_imp (fun _ _ => PrT.keep kD4) p
    have sH : Same H D4 := by rw [← eD4]; exact ((sH.trans s4).trans u4).at plH
    have hz := congrFun eD4.symm l
    rw [upd_same] at hz
    have hSp : St1 S D4 := by
      intro a ha
      rw [← eD4]
      by_cases za : a = l
      · rw [za, upd_same]
        exact fun z => nomatch z
      · rw [upd_ne za]
        exact hSp.same u4 a ha
    exact ⟨_, rfl, q l _ _ hl (pr_imp (fun _ _ => PrT.less (fun a ha => by rw [eS]; exact .inl ha)) p) hz sH⟩

end
end K15

set_option Elab.async false
set_option linter.all false
set_option maxRecDepth 100000
set_option maxHeartbeats 4000000
namespace K15
open PySem L2
section
variable {P : Program} {w : World} {K : PySem.W.Frag} {mg : Str → Option Value} {base : Heap}
theorem ok_L_made (T : Tx K mg) : FnOk P w K mg base CX0 5 T.a_L_made T.fd_L_made ["_law_one", "_law_other"] (spTwos [T.c_NoNumber, T.c_NoWidth, T.c_NoStep, T.c_NoMachine, T.c_NoSeed, T.c_NoPath, T.c_NoPlace, T.c_NoState, T.c_NoHand, T.c_NoName, T.c_NoOrder, T.c_NoSet, T.c_NoShares, T.c_NoShape, T.c_NoRow, T.c_NoPaper, T.c_NoHolder, T.c_NoText, T.c_NoJoin, T.c_NoPlan, T.c_NoLine, T.c_TooWide, T.c_TooDeep, T.c_Twice, T.c_Unknown, T.c_TooMany, T.c_Spent, T.c_NoDepth, T.c_NoParts, T.c_Beyond]) := by
  have G_L_found_ones := ok_L_found_ones (P := P) (w := w) (base := base) T
  have G_L_twos := ok_L_twos (P := P) (w := w) (base := base) T
  have G_NoText_i := ok_NoText_i (P := P) (w := w) (base := base) T
  have G_NoJoin_i := ok_NoJoin_i (P := P) (w := w) (base := base) T
  have G_NoPlan_i := ok_NoPlan_i (P := P) (w := w) (base := base) T
  have G_NoLine_i := ok_NoLine_i (P := P) (w := w) (base := base) T
  have G_TooWide_i := ok_TooWide_i (P := P) (w := w) (base := base) T
  have G_TooDeep_i := ok_TooDeep_i (P := P) (w := w) (base := base) T
  have G_Twice_i := ok_Twice_i (P := P) (w := w) (base := base) T
  have G_Unknown_i := ok_Unknown_i (P := P) (w := w) (base := base) T
  refine T.F_L_made.ok sc_L_made (fun vs H Q E h => ?_) (fun cdv A outer s H vs Q E hr h => ?_)
  · obtain ⟨S0, one, other, rfl, _⟩ := h
    rfl
  · obtain ⟨S0, one, other, rfl, hS0, q⟩ := h
    refine ⟨_, QSs.go (qss_cons (qs_set (i := 2) sc_L_made.nd rfl (Or.inl rfl) (qe_call G_L_found_ones (hr.mono (by decide)) (by rfl) T.m_L_found_ones T.F_L_found_ones.kp T.b_L_found_ones .nil pass0 (qa_cons (qv 0) qa_nil)))
      (qss_cons (qs_setLcK (i := 3) (own := [("_law_e", 4)]) (by rfl) sc_L_made.nd rfl rfl (sw_true rfl rfl rfl (by decide +kernel)) (qi_list (qv 2)) (blkOk_by (own := [("_law_e", 4)]) (N := ["_law_one", "_law_other", "_law_found", "_law_pairs", "_law_e"]) (sc := defScope s_L_made) (by decide +kernel)) (fun _ _ _ _ _ => qg_name (i := 4) sc_L_made.nd rfl (Or.inl rfl)) (fun _ _ _ _ _ => qts_nil) (fun _ _ _ _ _ => (qe_tup (qa_cons (qv 4) (qa_cons (qe_lst (qa_cons (qe_fldE (qv 4) rfl) qa_nil)) (qa_cons (qe_lst (qa_cons (qv 0) qa_nil)) qa_nil))))))
      (qss_cons (qs_set (i := 4) sc_L_made.nd rfl (Or.inl rfl) (qe_xmake T.S_NoText T.i_NoText T.t_NoText T.k_NoText G_NoText_i (hr.mono (by decide)) (by rfl) T.mc_NoText T.b_NoText_i .nil pass0 (qa_cons (qv 0) qa_nil)))
      (qss_cons (qs_expr (qe_bm PySem.F.plainAttrs_list PySem.F.slot_list_append PySem.F.type_list_append mt_append (qv 3) (qa_cons (qe_tup (qa_cons (qv 4) (qa_cons (qe_lst (qa_cons (qe_fldE (qv 4) rfl) qa_nil)) (qa_cons (qe_lst (qa_cons (qv 0) qa_nil)) qa_nil)))) qa_nil)))
      (qss_cons (qs_set (i := 4) sc_L_made.nd rfl (Or.inl rfl) (qe_xmake T.S_NoJoin T.i_NoJoin T.t_NoJoin T.k_NoJoin G_NoJoin_i (hr.mono (by decide)) (by rfl) T.mc_NoJoin T.b_NoJoin_i .nil pass0 (qa_cons (qv 0) qa_nil)))
      (qss_cons (qs_expr (qe_bm PySem.F.plainAttrs_list PySem.F.slot_list_append PySem.F.type_list_append mt_append (qv 3) (qa_cons (qe_tup (qa_cons (qv 4) (qa_cons (qe_lst (qa_cons (qe_fldE (qv 4) rfl) qa_nil)) (qa_cons (qe_lst (qa_cons (qv 0) qa_nil)) qa_nil)))) qa_nil)))
      (qss_cons (qs_set (i := 4) sc_L_made.nd rfl (Or.inl rfl) (qe_xmake T.S_NoPlan T.i_NoPlan T.t_NoPlan T.k_NoPlan G_NoPlan_i (hr.mono (by decide)) (by rfl) T.mc_NoPlan T.b_NoPlan_i .nil pass0 (qa_cons (qv 0) qa_nil)))
      (qss_cons (qs_expr (qe_bm PySem.F.plainAttrs_list PySem.F.slot_list_append PySem.F.type_list_append mt_append (qv 3) (qa_cons (qe_tup (qa_cons (qv 4) (qa_cons (qe_lst (qa_cons (qe_fldE (qv 4) rfl) qa_nil)) (qa_cons (qe_lst (qa_cons (qv 0) qa_nil)) qa_nil)))) qa_nil)))
      (qss_cons (qs_set (i := 4) sc_L_made.nd rfl (Or.inl rfl) (qe_xmake T.S_NoLine T.i_NoLine T.t_NoLine T.k_NoLine G_NoLine_i (hr.mono (by decide)) (by rfl) T.mc_NoLine T.b_NoLine_i .nil pass0 (qa_cons (qv 0) qa_nil)))
      (qss_cons (qs_expr (qe_bm PySem.F.plainAttrs_list PySem.F.slot_list_append PySem.F.type_list_append mt_append (qv 3) (qa_cons (qe_tup (qa_cons (qv 4) (qa_cons (qe_lst (qa_cons (qe_fldE (qv 4) rfl) qa_nil)) (qa_cons (qe_lst (qa_cons (qv 0) qa_nil)) qa_nil)))) qa_nil)))
      (qss_cons (qs_set (i := 4) sc_L_made.nd rfl (Or.inl rfl) (qe_xmake T.S_TooWide T.i_TooWide T.t_TooWide T.k_TooWide G_TooWide_i (hr.mono (by decide)) (by rfl) T.mc_TooWide T.b_TooWide_i .nil pass0 (qa_cons (qv 0) qa_nil)))
      (qss_cons (qs_expr (qe_bm PySem.F.plainAttrs_list PySem.F.slot_list_append PySem.F.type_list_append mt_append (qv 3) (qa_cons (qe_tup (qa_cons (qv 4) (qa_cons (qe_lst (qa_cons (qe_fldE (qv 4) rfl) qa_nil)) (qa_cons (qe_lst (qa_cons (qv 0) qa_nil)) qa_nil)))) qa_nil)))
      (qss_cons (qs_set (i := 4) sc_L_made.nd rfl (Or.inl rfl) (qe_xmake T.S_TooDeep T.i_TooDeep T.t_TooDeep T.k_TooDeep G_TooDeep_i (hr.mono (by decide)) (by rfl) T.mc_TooDeep T.b_TooDeep_i .nil pass0 (qa_cons (qv 0) qa_nil)))
      (qss_cons (qs_expr (qe_bm PySem.F.plainAttrs_list PySem.F.slot_list_append PySem.F.type_list_append mt_append (qv 3) (qa_cons (qe_tup (qa_cons (qv 4) (qa_cons (qe_lst (qa_cons (qe_fldE (qv 4) rfl) qa_nil)) (qa_cons (qe_lst (qa_cons (qv 0) qa_nil)) qa_nil)))) qa_nil)))
      (qss_cons (qs_set (i := 4) sc_L_made.nd rfl (Or.inl rfl) (qe_xmake T.S_Twice T.i_Twice T.t_Twice T.k_Twice G_Twice_i (hr.mono (by decide)) (by rfl) T.mc_Twice T.b_Twice_i .nil pass0 (qa_cons (qv 0) qa_nil)))
      (qss_cons (qs_expr (qe_bm PySem.F.plainAttrs_list PySem.F.slot_list_append PySem.F.type_list_append mt_append (qv 3) (qa_cons (qe_tup (qa_cons (qv 4) (qa_cons (qe_lst (qa_cons (qe_fldE (qv 4) rfl) qa_nil)) (qa_cons (qe_lst (qa_cons (qv 0) qa_nil)) qa_nil)))) qa_nil)))
      (qss_cons (qs_set (i := 4) sc_L_made.nd rfl (Or.inl rfl) (qe_xmake T.S_Unknown T.i_Unknown T.t_Unknown T.k_Unknown G_Unknown_i (hr.mono (by decide)) (by rfl) T.mc_Unknown T.b_Unknown_i .nil pass0 (qa_cons (qv 0) qa_nil)))
      (qss_cons (qs_expr (qe_bm PySem.F.plainAttrs_list PySem.F.slot_list_append PySem.F.type_list_append mt_append (qv 3) (qa_cons (qe_tup (qa_cons (qv 4) (qa_cons (qe_lst (qa_cons (qe_fldE (qv 4) rfl) qa_nil)) (qa_cons (qe_lst (qa_cons (qv 0) qa_nil)) qa_nil)))) qa_nil)))
      (qss_one (qs_ret (qe_op op_cat (qv 3) (qe_call G_L_twos (hr.mono (by decide)) (by rfl) T.m_L_twos T.F_L_twos.kp T.b_L_twos .nil pass0 (qa_cons (qv 0) (qa_cons (qv 1) qa_nil)))))))))))))))))))))))), ?_⟩

    refine ⟨_, rfl, S0, one, rfl, hS0, fun l es HA pe hl sA => ?_⟩
    have hat : ∀ C ∈ [T.c_NoNumber, T.c_NoWidth, T.c_NoStep, T.c_NoMachine, T.c_NoSeed, T.c_NoPath, T.c_NoPlace, T.c_NoState, T.c_NoHand, T.c_NoName, T.c_NoOrder, T.c_NoSet, T.c_NoShares, T.c_NoShape, T.c_NoRow, T.c_NoPaper, T.c_NoHolder], XSt K C ∧ NoAttr K C "found" := by
      intro C hC
      simp only [List.mem_cons, List.not_mem_nil, or_false] at hC
      rcases hC with rfl | rfl | rfl | rfl | rfl | rfl | rfl | rfl | rfl | rfl | rfl | rfl | rfl | rfl | rfl | rfl | rfl
      · exact ⟨T.S_NoNumber, T.na_NoNumber_found⟩
      · exact ⟨T.S_NoWidth, T.na_NoWidth_found⟩
      · exact ⟨T.S_NoStep, T.na_NoStep_found⟩
      · exact ⟨T.S_NoMachine, T.na_NoMachine_found⟩
      · exact ⟨T.S_NoSeed, T.na_NoSeed_found⟩
      · exact ⟨T.S_NoPath, T.na_NoPath_found⟩
      · exact ⟨T.S_NoPlace, T.na_NoPlace_found⟩
      · exact ⟨T.S_NoState, T.na_NoState_found⟩
      · exact ⟨T.S_NoHand, T.na_NoHand_found⟩
      · exact ⟨T.S_NoName, T.na_NoName_found⟩
      · exact ⟨T.S_NoOrder, T.na_NoOrder_found⟩
      · exact ⟨T.S_NoSet, T.na_NoSet_found⟩
      · exact ⟨T.S_NoShares, T.na_NoShares_found⟩
      · exact ⟨T.S_NoShape, T.na_NoShape_found⟩
      · exact ⟨T.S_NoRow, T.na_NoRow_found⟩
      · exact ⟨T.S_NoPaper, T.na_NoPaper_found⟩
      · exact ⟨T.S_NoHolder, T.na_NoHolder_found⟩
    generalize hcs : [T.c_NoNumber, T.c_NoWidth, T.c_NoStep, T.c_NoMachine, T.c_NoSeed, T.c_NoPath, T.c_NoPlace, T.c_NoState, T.c_NoHand, T.c_NoName, T.c_NoOrder, T.c_NoSet, T.c_NoShares, T.c_NoShape, T.c_NoRow, T.c_NoPaper, T.c_NoHolder] = cs at pe hat
    refine ⟨_, rfl, l, rfl, ⟨_, SqL.of hl⟩, fun D hD => lc_list (K := K) (xs := es.map V.ref) (fun j H' => ∃ ps, H' D = some (.lst ps) ∧ Paired (PrT (fun a => S0 a ∨ a = D) one other H') ps (cs.take j) ∧ Same HA H') ⟨[], upd_same, .nil, Same.old hD⟩ (fun j H' _ ⟨_, _, _, s⟩ => SqL.of (s _ _ hl)) ?_ ?_⟩
    · rintro j v G ev ⟨ps, hDp, p, sG⟩
      rw [List.getElem?_map] at ev
      obtain ⟨e, ee, rfl⟩ := Option.map_eq_some_iff.mp ev
      obtain ⟨C, eC, xe⟩ := pairedAt' pe ee
      obtain ⟨hst, hna⟩ := hat C (List.mem_of_getElem? eC)
      have xe := (xe.more hD).same sG
      obtain ⟨dx, x1, x2, _, _⟩ := id xe
      have hSp : St1 (fun a => S0 a ∨ a = D) G := (hS0.same sA).app sG hDp
      refine fun _ _ _ _ _ => ⟨rfl, fun _ _ _ _ _ => yes_if (fun _ _ _ _ _ => ?_)⟩
      refine ⟨_, rfl, _, rfl, e, C, dx, _, _, rfl, x1, x2, hst, hna, rfl, by show 1 ≤ sizeLine; decide, fun f hf => ?_⟩
      generalize eA : upd G f (HO.lst _) = A1
      have nA : New G f (.lst [one]) A1 := New.of hf eA
      refine ⟨_, rfl, by show 1 ≤ sizeLine; decide, fun d hd => ?_⟩
      generalize eB : upd A1 d (HO.lst _) = B1
      have nB : New A1 d (.lst [one]) B1 := New.of hd eB
      refine ⟨by show 3 ≤ sizeLine; decide, fun y hy => ?_⟩
      generalize eC1 : upd B1 y (HO.tup _) = C1
      have nC : New B1 y (.tup [.ref e, .ref f, .ref d]) C1 := New.of hy eC1
      have u : Same G C1 := (nA.same.trans nB.same).trans nC.same
      have w1 : PrT (fun a => S0 a ∨ a = D) one other C1 (.ref y) C := ⟨y, e, f, d, _, [one], rfl, nC.at_, xe.same u, nC.get (nB.get nA.at_), nC.get nB.at_, .inl rfl, (hSp.same (nA.same.trans nB.same)).no hy, hSp.no hf, (hSp.same nA.same).no hd⟩
      have hlen := Paired.length p
      rw [List.length_take] at hlen
      have hj := (List.getElem?_eq_some_iff.mp eC).1
      have hcl : cs.length = 17 := by rw [← hcs]; rfl
      refine ⟨ps, u _ _ hDp, small1000 (by omega), ps ++ [.ref y], upd_same, ?_, (sG.trans u).at hD⟩
      rw [List.take_succ, eC]
      exact pr_imp (fun _ _ => PrT.keep (keepS_upd (.inr rfl))) (pr_snoc (pr_imp (fun _ _ => PrT.keep u.keepS) p) w1)
    rintro G ⟨ps, hz, p, sG⟩
    have hcl : es.length = cs.length := Paired.length pe
    rw [List.length_map, hcl, List.take_length] at p
    subst hcs
    obtain ⟨S, eS⟩ : ∃ S : Addr → Prop, S = fun a => S0 a ∨ a = D := ⟨_, rfl⟩
    rw [← eS] at p
    have hSl : S D := by rw [eS]; exact .inr rfl
    have plH : H D = none := sA.free hD
    have sH : Same H G := sA.trans sG
    have hSp : St1 S G := by rw [eS]; exact (hS0.same sA).app sG hz
    clear pe hl

    refine ⟨_, rfl, (by show 1 ≤ 100; decide), fun e0 he0 => ⟨e0, one, rfl, upd_same, fun dx0 hd0 hn0 => ⟨rfl, ?_⟩⟩⟩
    obtain ⟨x0, s0⟩ := xa_one (S := S) (f := "at") (v := one) hSp he0 hd0 hn0
    generalize upd (upd (upd G e0 (ExN e0 T.c_NoText)) dx0 (XdE dx0 [("at", one)])) e0 (ExF e0 T.c_NoText dx0) = G0 at x0 s0 ⊢
    have hSp := hSp.same s0
    have hz := s0 _ _ hz
    refine ⟨_, rfl, .inl ⟨rfl, _, SqL.of hz⟩, ?_⟩
    obtain ⟨dy0, xe0, xd0, _, _⟩ := id x0
    refine ⟨_, rfl, ?_⟩
    refine ⟨_, rfl, e0, T.c_NoText, dy0, _, _, rfl, xe0, xd0, T.S_NoText, T.na_NoText_at, rfl, ?_⟩
    refine ⟨by show 1 ≤ sizeLine; decide, fun f0 hf0 => ?_⟩
    generalize eA0 : upd G0 f0 (HO.lst _) = A0
    have nA0 : New G0 f0 (.lst [one]) A0 := New.of hf0 eA0
    refine ⟨_, rfl, by show 1 ≤ sizeLine; decide, fun d0 hdd0 => ?_⟩
    generalize eB0 : upd A0 d0 (HO.lst _) = B0
    have nB0 : New A0 d0 (.lst [one]) B0 := New.of hdd0 eB0
    refine ⟨by show 3 ≤ sizeLine; decide, fun y0 hy0 => ?_⟩
    generalize eC0 : upd B0 y0 (HO.tup _) = C0
    have nC0 : New B0 y0 (.tup [.ref e0, .ref f0, .ref d0]) C0 := New.of hy0 eC0
    have u0 : Same G0 C0 := (nA0.same.trans nB0.same).trans nC0.same
    have w0 : PrT S one other C0 (.ref y0) T.c_NoText := ⟨y0, e0, f0, d0, _, [one], rfl, nC0.at_, x0.same u0, nC0.get (nB0.get nA0.at_), nC0.get nB0.at_, .inl rfl, (hSp.same (nA0.same.trans nB0.same)).no hy0, hSp.no hf0, (hSp.same nA0.same).no hdd0⟩
    have hz := u0 _ _ hz
    have hlen := Paired.length p
    have p := pr_snoc (pr_imp (fun _ _ => PrT.keep (s0.trans u0).keepS) p) w0
    refine ⟨D, _, _, rfl, rfl, hz, (by rw [hlen]; show 17 < sizeLine; decide), ?_⟩
    generalize eD0 : upd C0 D (HO.lst _) = D0
    have kD0 : KeepS S C0 D0 := by rw [← eD0]; exact keepS_upd hSl
    have p := pr_imp (fun _ _ => PrT.keep kD0) p
    have sH : Same H D0 := by rw [← eD0]; exact ((sH.trans s0).trans u0).at plH
    have hz := congrFun eD0.symm D
    rw [upd_same] at hz
    have hSp : St1 S D0 := by
      intro a ha
      rw [← eD0]
      by_cases za : a = D
      · rw [za, upd_same]
        exact fun z => nomatch z
      · rw [upd_ne za]
        exact hSp.same u0 a ha
    refine ⟨_, rfl, (by show 1 ≤ 100; decide), fun e1 he1 => ⟨e1, one, rfl, upd_same, fun dx1 hd1 hn1 => ⟨rfl, ?_⟩⟩⟩
    obtain ⟨x1, s1⟩ := xa_one (S := S) (f := "at") (v := one) hSp he1 hd1 hn1
    generalize upd (upd (upd D0 e1 (ExN e1 T.c_NoJoin)) dx1 (XdE dx1 [("at", one)])) e1 (ExF e1 T.c_NoJoin dx1) = G1 at x1 s1 ⊢
    have hSp := hSp.same s1
    have hz := s1 _ _ hz
    refine ⟨_, rfl, .inl ⟨rfl, _, SqL.of hz⟩, ?_⟩
    obtain ⟨dy1, xe1, xd1, _, _⟩ := id x1
    refine ⟨_, rfl, ?_⟩
    refine ⟨_, rfl, e1, T.c_NoJoin, dy1, _, _, rfl, xe1, xd1, T.S_NoJoin, T.na_NoJoin_at, rfl, ?_⟩
    refine ⟨by show 1 ≤ sizeLine; decide, fun f1 hf1 => ?_⟩
    generalize eA1 : upd G1 f1 (HO.lst _) = A1
    have nA1 : New G1 f1 (.lst [one]) A1 := New.of hf1 eA1
    refine ⟨_, rfl, by show 1 ≤ sizeLine; decide, fun d1 hdd1 => ?_⟩
    generalize eB1 : upd A1 d1 (HO.lst _) = B1
    have nB1 : New A1 d1 (.lst [one]) B1 := New.of hdd1 eB1
    refine ⟨by show 3 ≤ sizeLine; decide, fun y1 hy1 => ?_⟩
    generalize eC1 : upd B1 y1 (HO.tup _) = C1
    have nC1 : New B1 y1 (.tup [.ref e1, .ref f1, .ref d1]) C1 := New.of hy1 eC1
    have u1 : Same G1 C1 := (nA1.same.trans nB1.same).trans nC1.same
    have w1 : PrT S one other C1 (.ref y1) T.c_NoJoin := ⟨y1, e1, f1, d1, _, [one], rfl, nC1.at_, x1.same u1, nC1.get (nB1.get nA1.at_), nC1.get nB1.at_, .inl rfl, (hSp.same (nA1.same.trans nB1.same)).no hy1, hSp.no hf1, (hSp.same nA1.same).no hdd1⟩
    have hz := u1 _ _ hz
    have hlen := Paired.length p
    have p := pr_snoc (pr_imp (fun _ _ => PrT.keep (s1.trans u1).keepS) p) w1
    refine ⟨D, _, _, rfl, rfl, hz, (by rw [hlen]; show 18 < sizeLine; decide), ?_⟩
    generalize eD1 : upd C1 D (HO.lst _) = D1
    have kD1 : KeepS S C1 D1 := by rw [← eD1]; exact keepS_upd hSl
    have p := pr_imp (fun _ _ => PrT.keep kD1) p
    have sH : Same H D1 := by rw [← eD1]; exact ((sH.trans s1).trans u1).at plH
    have hz := congrFun eD1.symm D
    rw [upd_same] at hz
    have hSp : St1 S D1 := by
      intro a ha
      rw [← eD1]
      by_cases za : a = D
      · rw [za, upd_same]
        exact fun z => nomatch z
      · rw [upd_ne za]
        exact hSp.same u1 a ha
    refine ⟨_, rfl, (by show 1 ≤ 100; decide), fun e2 he2 => ⟨e2, one, rfl, upd_same, fun dx2 hd2 hn2 => ⟨rfl, ?_⟩⟩⟩
    obtain ⟨x2, s2⟩ := xa_one (S := S) (f := "at") (v := one) hSp he2 hd2 hn2
    generalize upd (upd (upd D1 e2 (ExN e2 T.c_NoPlan)) dx2 (XdE dx2 [("at", one)])) e2 (ExF e2 T.c_NoPlan dx2) = G2 at x2 s2 ⊢
    have hSp := hSp.same s2
    have hz := s2 _ _ hz
    refine ⟨_, rfl, .inl ⟨rfl, _, SqL.of hz⟩, ?_⟩
    obtain ⟨dy2, xe2, xd2, _, _⟩ := id x2
    refine ⟨_, rfl, ?_⟩
    refine ⟨_, rfl, e2, T.c_NoPlan, dy2, _, _, rfl, xe2, xd2, T.S_NoPlan, T.na_NoPlan_at, rfl, ?_⟩
    refine ⟨by show 1 ≤ sizeLine; decide, fun f2 hf2 => ?_⟩
    generalize eA2 : upd G2 f2 (HO.lst _) = A2
    have nA2 : New G2 f2 (.lst [one]) A2 := New.of hf2 eA2
    refine ⟨_, rfl, by show 1 ≤ sizeLine; decide, fun d2 hdd2 => ?_⟩
    generalize eB2 : upd A2 d2 (HO.lst _) = B2
    have nB2 : New A2 d2 (.lst [one]) B2 := New.of hdd2 eB2
    refine ⟨by show 3 ≤ sizeLine; decide, fun y2 hy2 => ?_⟩
    generalize eC2 : upd B2 y2 (HO.tup _) = C2
    have nC2 : New B2 y2 (.tup [.ref e2, .ref f2, .ref d2]) C2 := New.of hy2 eC2
    have u2 : Same G2 C2 := (nA2.same.trans nB2.same).trans nC2.same
    have w2 : PrT S one other C2 (.ref y2) T.c_NoPlan := ⟨y2, e2, f2, d2, _, [one], rfl, nC2.at_, x2.same u2, nC2.get (nB2.get nA2.at_), nC2.get nB2.at_, .inl rfl, (hSp.same (nA2.same.trans nB2.same)).no hy2, hSp.no hf2, (hSp.same nA2.same).no hdd2⟩
    have hz := u2 _ _ hz
    have hlen := Paired.length p
    have p := pr_snoc (pr_imp (fun _ _ => PrT.keep (s2.trans u2).keepS) p) w2
    refine ⟨D, _, _, rfl, rfl, hz, (by rw [hlen]; show 19 < sizeLine; decide), ?_⟩
    generalize eD2 : upd C2 D (HO.lst _) = D2
    have kD2 : KeepS S C2 D2 := by rw [← eD2]; exact keepS_upd hSl
    have p := pr_imp (fun _ _ => PrT.keep kD2) p
    have sH : Same H D2 := by rw [← eD2]; exact ((sH.trans s2).trans u2).at plH
    have hz := congrFun eD2.symm D
    rw [upd_same] at hz
    have hSp : St1 S D2 := by
      intro a ha
      rw [← eD2]
      by_cases za : a = D
      · rw [za, upd_same]
        exact fun z => nomatch z
      · rw [upd_ne za]
        exact hSp.same u2 a ha
    refine ⟨_, rfl, (by show 1 ≤ 100; decide), fun e3 he3 => ⟨e3, one, rfl, upd_same, fun dx3 hd3 hn3 => ⟨rfl, ?_⟩⟩⟩
    obtain ⟨x3, s3⟩ := xa_one (S := S) (f := "line") (v := one) hSp he3 hd3 hn3
    generalize upd (upd (upd D2 e3 (ExN e3 T.c_NoLine)) dx3 (XdE dx3 [("line", one)])) e3 (ExF e3 T.c_NoLine dx3) = G3 at x3 s3 ⊢
    have hSp := hSp.same s3
    have hz := s3 _ _ hz
    refine ⟨_, rfl, .inl ⟨rfl, _, SqL.of hz⟩, ?_⟩
    obtain ⟨dy3, xe3, xd3, _, _⟩ := id x3
    refine ⟨_, rfl, ?_⟩
    refine ⟨_, rfl, e3, T.c_NoLine, dy3, _, _, rfl, xe3, xd3, T.S_NoLine, T.na_NoLine_line, rfl, ?_⟩
    refine ⟨by show 1 ≤ sizeLine; decide, fun f3 hf3 => ?_⟩
    generalize eA3 : upd G3 f3 (HO.lst _) = A3
    have nA3 : New G3 f3 (.lst [one]) A3 := New.of hf3 eA3
    refine ⟨_, rfl, by show 1 ≤ sizeLine; decide, fun d3 hdd3 => ?_⟩
    generalize eB3 : upd A3 d3 (HO.lst _) = B3
    have nB3 : New A3 d3 (.lst [one]) B3 := New.of hdd3 eB3
    refine ⟨by show 3 ≤ sizeLine; decide, fun y3 hy3 => ?_⟩
    generalize eC3 : upd B3 y3 (HO.tup _) = C3
    have nC3 : New B3 y3 (.tup [.ref e3, .ref f3, .ref d3]) C3 := New.of hy3 eC3
    have u3 : Same G3 C3 := (nA3.same.trans nB3.same).trans nC3.same
    have w3 : PrT S one other C3 (.ref y3) T.c_NoLine := ⟨y3, e3, f3, d3, _, [one], rfl, nC3.at_, x3.same u3, nC3.get (nB3.get nA3.at_), nC3.get nB3.at_, .inl rfl, (hSp.same (nA3.same.trans nB3.same)).no hy3, hSp.no hf3, (hSp.same nA3.same).no hdd3⟩
    have hz := u3 _ _ hz
    have hlen := Paired.length p
    have p := pr_snoc (pr_imp (fun _ _ => PrT.keep (s3.trans u3).keepS) p) w3
    refine ⟨D, _, _, rfl, rfl, hz, (by rw [hlen]; show 20 < sizeLine; decide), ?_⟩
    generalize eD3 : upd C3 D (HO.lst _) = D3
    have kD3 : KeepS S C3 D3 := by rw [← eD3]; exact keepS_upd hSl
    have p := pr_imp (fun _ _ => PrT.keep kD3) p
    have sH : Same H D3 := by rw [← eD3]; exact ((sH.trans s3).trans u3).at plH
    have hz := congrFun eD3.symm D
    rw [upd_same] at hz
    have hSp : St1 S D3 := by
      intro a ha
      rw [← eD3]
      by_cases za : a = D
      · rw [za, upd_same]
        exact fun z => nomatch z
      · rw [upd_ne za]
        exact hSp.same u3 a ha
    refine ⟨_, rfl, (by show 1 ≤ 100; decide), fun e4 he4 => ⟨e4, one, rfl, upd_same, fun dx4 hd4 hn4 => ⟨rfl, ?_⟩⟩⟩
    obtain ⟨x4, s4⟩ := xa_one (S := S) (f := "total") (v := one) hSp he4 hd4 hn4
    generalize upd (upd (upd D3 e4 (ExN e4 T.c_TooWide)) dx4 (XdE dx4 [("total", one)])) e4 (ExF e4 T.c_TooWide dx4) = G4 at x4 s4 ⊢
    have hSp := hSp.same s4
    have hz := s4 _ _ hz
    refine ⟨_, rfl, .inl ⟨rfl, _, SqL.of hz⟩, ?_⟩
    obtain ⟨dy4, xe4, xd4, _, _⟩ := id x4
    refine ⟨_, rfl, ?_⟩
    refine ⟨_, rfl, e4, T.c_TooWide, dy4, _, _, rfl, xe4, xd4, T.S_TooWide, T.na_TooWide_total, rfl, ?_⟩
    refine ⟨by show 1 ≤ sizeLine; decide, fun f4 hf4 => ?_⟩
    generalize eA4 : upd G4 f4 (HO.lst _) = A4
    have nA4 : New G4 f4 (.lst [one]) A4 := New.of hf4 eA4
    refine ⟨_, rfl, by show 1 ≤ sizeLine; decide, fun d4 hdd4 => ?_⟩
    generalize eB4 : upd A4 d4 (HO.lst _) = B4
    have nB4 : New A4 d4 (.lst [one]) B4 := New.of hdd4 eB4
    refine ⟨by show 3 ≤ sizeLine; decide, fun y4 hy4 => ?_⟩
    generalize eC4 : upd B4 y4 (HO.tup _) = C4
    have nC4 : New B4 y4 (.tup [.ref e4, .ref f4, .ref d4]) C4 := New.of hy4 eC4
    have u4 : Same G4 C4 := (nA4.same.trans nB4.same).trans nC4.same
    have w4 : PrT S one other C4 (.ref y4) T.c_TooWide := ⟨y4, e4, f4, d4, _, [one], rfl, nC4.at_, x4.same u4, nC4.get (nB4.get nA4.at_), nC4.get nB4.at_, .inl rfl, (hSp.same (nA4.same.trans nB4.same)).no hy4, hSp.no hf4, (hSp.same nA4.same).no hdd4⟩
    have hz := u4 _ _ hz
    have hlen := Paired.length p
    have p := pr_snoc (pr_imp (fun _ _ => PrT.keep (s4.trans u4).keepS) p) w4
    refine ⟨D, _, _, rfl, rfl, hz, (by rw [hlen]; show 21 < sizeLine; decide), ?_⟩
    generalize eD4 : upd C4 D (HO.lst _) = D4
    have kD4 : KeepS S C4 D4 := by rw [← eD4]; exact keepS_upd hSl
    have p := pr_imp (fun _ _ => PrT.keep kD4) p
    have sH : Same H D4 := by rw [← eD4]; exact ((sH.trans s4).trans u4).at plH
    have hz := congrFun eD4.symm D
    rw [upd_same] at hz
    have hSp : St1 S D4 := by
      intro a ha
      rw [← eD4]
      by_cases za : a = D
      · rw [za, upd_same]
        exact fun z => nomatch z
      · rw [upd_ne za]
        exact hSp.same u4 a ha
    refine ⟨_, rfl, (by show 1 ≤ 100; decide), fun e5 he5 => ⟨e5, one, rfl, upd_same, fun dx5 hd5 hn5 => ⟨rfl, ?_⟩⟩⟩
    obtain ⟨x5, s5⟩ := xa_one (S := S) (f := "path") (v := one) hSp he5 hd5 hn5
    generalize upd (upd (upd D4 e5 (ExN e5 T.c_TooDeep)) dx5 (XdE dx5 [("path", one)])) e5 (ExF e5 T.c_TooDeep dx5) = G5 at x5 s5 ⊢
    have hSp := hSp.same s5
    have hz := s5 _ _ hz
    refine ⟨_, rfl, .inl ⟨rfl, _, SqL.of hz⟩, ?_⟩
    obtain ⟨dy5, xe5, xd5, _, _⟩ := id x5
    refine ⟨_, rfl, ?_⟩
    refine ⟨_, rfl, e5, T.c_TooDeep, dy5, _, _, rfl, xe5, xd5, T.S_TooDeep, T.na_TooDeep_path, rfl, ?_⟩
    refine ⟨by show 1 ≤ sizeLine; decide, fun f5 hf5 => ?_⟩
    generalize eA5 : upd G5 f5 (HO.lst _) = A5
    have nA5 : New G5 f5 (.lst [one]) A5 := New.of hf5 eA5
    refine ⟨_, rfl, by show 1 ≤ sizeLine; decide, fun d5 hdd5 => ?_⟩
    generalize eB5 : upd A5 d5 (HO.lst _) = B5
    have nB5 : New A5 d5 (.lst [one]) B5 := New.of hdd5 eB5
    refine ⟨by show 3 ≤ sizeLine; decide, fun y5 hy5 => ?_⟩
    generalize eC5 : upd B5 y5 (HO.tup _) = C5
    have nC5 : New B5 y5 (.tup [.ref e5, .ref f5, .ref d5]) C5 := New.of hy5 eC5
    have u5 : Same G5 C5 := (nA5.same.trans nB5.same).trans nC5.same
    have w5 : PrT S one other C5 (.ref y5) T.c_TooDeep := ⟨y5, e5, f5, d5, _, [one], rfl, nC5.at_, x5.same u5, nC5.get (nB5.get nA5.at_), nC5.get nB5.at_, .inl rfl, (hSp.same (nA5.same.trans nB5.same)).no hy5, hSp.no hf5, (hSp.same nA5.same).no hdd5⟩
    have hz := u5 _ _ hz
    have hlen := Paired.length p
    have p := pr_snoc (pr_imp (fun _ _ => PrT.keep (s5.trans u5).keepS) p) w5
    refine ⟨D, _, _, rfl, rfl, hz, (by rw [hlen]; show 22 < sizeLine; decide), ?_⟩
    generalize eD5 : upd C5 D (HO.lst _) = D5
    have kD5 : KeepS S C5 D5 := by rw [← eD5]; exact keepS_upd hSl
    have p := pr_imp (fun _ _ => PrT.keep kD5) p
    have sH : Same H D5 := by rw [← eD5]; exact ((sH.trans s5).trans u5).at plH
    have hz := congrFun eD5.symm D
    rw [upd_same] at hz
    have hSp : St1 S D5 := by
      intro a ha
      rw [← eD5]
      by_cases za : a = D
      · rw [za, upd_same]
        exact fun z => nomatch z
      · rw [upd_ne za]
        exact hSp.same u5 a ha
    refine ⟨_, rfl, (by show 1 ≤ 100; decide), fun e6 he6 => ⟨e6, one, rfl, upd_same, fun dx6 hd6 hn6 => ⟨rfl, ?_⟩⟩⟩
    obtain ⟨x6, s6⟩ := xa_one (S := S) (f := "name") (v := one) hSp he6 hd6 hn6
    generalize upd (upd (upd D5 e6 (ExN e6 T.c_Twice)) dx6 (XdE dx6 [("name", one)])) e6 (ExF e6 T.c_Twice dx6) = G6 at x6 s6 ⊢
    have hSp := hSp.same s6
    have hz := s6 _ _ hz
    refine ⟨_, rfl, .inl ⟨rfl, _, SqL.of hz⟩, ?_⟩
    obtain ⟨dy6, xe6, xd6, _, _⟩ := id x6
    refine ⟨_, rfl, ?_⟩
    refine ⟨_, rfl, e6, T.c_Twice, dy6, _, _, rfl, xe6, xd6, T.S_Twice, T.na_Twice_name, rfl, ?_⟩
    refine ⟨by show 1 ≤ sizeLine; decide, fun f6 hf6 => ?_⟩
    generalize eA6 : upd G6 f6 (HO.lst _) = A6
    have nA6 : New G6 f6 (.lst [one]) A6 := New.of hf6 eA6
    refine ⟨_, rfl, by show 1 ≤ sizeLine; decide, fun d6 hdd6 => ?_⟩
    generalize eB6 : upd A6 d6 (HO.lst _) = B6
    have nB6 : New A6 d6 (.lst [one]) B6 := New.of hdd6 eB6
    refine ⟨by show 3 ≤ sizeLine; decide, fun y6 hy6 => ?_⟩
    generalize eC6 : upd B6 y6 (HO.tup _) = C6
    have nC6 : New B6 y6 (.tup [.ref e6, .ref f6, .ref d6]) C6 := New.of hy6 eC6
    have u6 : Same G6 C6 := (nA6.same.trans nB6.same).trans nC6.same
    have w6 : PrT S one other C6 (.ref y6) T.c_Twice := ⟨y6, e6, f6, d6, _, [one], rfl, nC6.at_, x6.same u6, nC6.get (nB6.get nA6.at_), nC6.get nB6.at_, .inl rfl, (hSp.same (nA6.same.trans nB6.same)).no hy6, hSp.no hf6, (hSp.same nA6.same).no hdd6⟩
    have hz := u6 _ _ hz
    have hlen := Paired.length p
    have p := pr_snoc (pr_imp (fun _ _ => PrT.keep (s6.trans u6).keepS) p) w6
    refine ⟨D, _, _, rfl, rfl, hz, (by rw [hlen]; show 23 < sizeLine; decide), ?_⟩
    generalize eD6 : upd C6 D (HO.lst _) = D6
    have kD6 : KeepS S C6 D6 := by rw [← eD6]; exact keepS_upd hSl
    have p := pr_imp (fun _ _ => PrT.keep kD6) p
    have sH : Same H D6 := by rw [← eD6]; exact ((sH.trans s6).trans u6).at plH
    have hz := congrFun eD6.symm D
    rw [upd_same] at hz
    have hSp : St1 S D6 := by
      intro a ha
      rw [← eD6]
      by_cases za : a = D
      · rw [za, upd_same]
        exact fun z => nomatch z
      · rw [upd_ne za]
        exact hSp.same u6 a ha
    refine ⟨_, rfl, (by show 1 ≤ 100; decide), fun e7 he7 => ⟨e7, one, rfl, upd_same, fun dx7 hd7 hn7 => ⟨rfl, ?_⟩⟩⟩
    obtain ⟨x7, s7⟩ := xa_one (S := S) (f := "name") (v := one) hSp he7 hd7 hn7
    generalize upd (upd (upd D6 e7 (ExN e7 T.c_Unknown)) dx7 (XdE dx7 [("name", one)])) e7 (ExF e7 T.c_Unknown dx7) = G7 at x7 s7 ⊢
    have hSp := hSp.same s7
    have hz := s7 _ _ hz
    refine ⟨_, rfl, .inl ⟨rfl, _, SqL.of hz⟩, ?_⟩
    obtain ⟨dy7, xe7, xd7, _, _⟩ := id x7
    refine ⟨_, rfl, ?_⟩
    refine ⟨_, rfl, e7, T.c_Unknown, dy7, _, _, rfl, xe7, xd7, T.S_Unknown, T.na_Unknown_name, rfl, ?_⟩
    refine ⟨by show 1 ≤ sizeLine; decide, fun f7 hf7 => ?_⟩
    generalize eA7 : upd G7 f7 (HO.lst _) = A7
    have nA7 : New G7 f7 (.lst [one]) A7 := New.of hf7 eA7
    refine ⟨_, rfl, by show 1 ≤ sizeLine; decide, fun d7 hdd7 => ?_⟩
    generalize eB7 : upd A7 d7 (HO.lst _) = B7
    have nB7 : New A7 d7 (.lst [one]) B7 := New.of hdd7 eB7
    refine ⟨by show 3 ≤ sizeLine; decide, fun y7 hy7 => ?_⟩
    generalize eC7 : upd B7 y7 (HO.tup _) = C7
    have nC7 : New B7 y7 (.tup [.ref e7, .ref f7, .ref d7]) C7 := New.of hy7 eC7
    have u7 : Same G7 C7 := (nA7.same.trans nB7.same).trans nC7.same
    have w7 : PrT S one other C7 (.ref y7) T.c_Unknown := ⟨y7, e7, f7, d7, _, [one], rfl, nC7.at_, x7.same u7, nC7.get (nB7.get nA7.at_), nC7.get nB7.at_, .inl rfl, (hSp.same (nA7.same.trans nB7.same)).no hy7, hSp.no hf7, (hSp.same nA7.same).no hdd7⟩
    have hz := u7 _ _ hz
    have hlen := Paired.length p
    have p := pr_snoc (pr_imp (fun _ _ => PrT.keep (s7.trans u7).keepS) p) w7
    refine ⟨D, _, _, rfl, rfl, hz, (by rw [hlen]; show 24 < sizeLine; decide), ?_⟩
    generalize eD7 : upd C7 D (HO.lst _) = D7
    have kD7 : KeepS S C7 D7 := by rw [← eD7]; exact keepS_upd hSl
    have p := pr_imp (fun _ _ => PrT.keep kD7) p
    have sH : Same H D7 := by rw [← eD7]; exact ((sH.trans s7).trans u7).at plH
    have hz := congrFun eD7.symm D
    rw [upd_same] at hz
    have hSp : St1 S D7 := by
      intro a ha
      rw [← eD7]
      by_cases za : a = D
      · rw [za, upd_same]
        exact fun z => nomatch z
      · rw [upd_ne za]
        exact hSp.same u7 a ha
    refine ⟨_, rfl, _, rfl, _, rfl, S, one, other, rfl, hSp, fun l2 ps2 H' _ pp hl2 s2 => ?_⟩
    have l1 := Paired.length p
    have l2' := Paired.length pp
    refine ⟨D, l2, _, _, rfl, rfl, s2 _ _ hz, hl2, (by rw [l1, l2']; show 25 + 5 ≤ sizeLine; decide), fun l3 hl3 => ?_⟩
    generalize eZ : upd H' l3 (HO.lst _) = HZ
    have nZ := New.of hl3 eZ
    have p := pr_imp (fun _ _ => PrT.keep (s2.trans nZ.same).keepS) p
    have pp := pr_imp (fun _ _ => PrT.keep nZ.same.keepS) pp
    exact q l3 _ _ ((sH.trans s2).free hl3) (pr_imp (fun _ _ => PrT.less (fun a ha => by rw [eS]; exact .inl ha)) (pr_app p pp)) nZ.at_ ((sH.trans s2).trans nZ.same)

end
end K15

set_option Elab.async false
set_option linter.all false
set_option maxRecDepth 100000
set_option maxHeartbeats 4000000
namespace K15
open PySem L2
section
variable {P : Program} {w : World} {K : PySem.W.Frag} {mg : Str → Option Value} {base : Heap}

def mo : Str := Str.ofString "more"
def rep (k : Nat) : List V := List.replicate k (.str mo)
theorem rep_snoc' (k : Nat) : rep k ++ [.str mo] = rep (k + 1) := by unfold rep; rw [List.replicate_succ']
def kA : Key := .inr (Str.ofString "a")
def kM : Key := .inr mo
/-- a thing, at most n times made longer -/
def Tg (n : Nat) (H : Hp) (x : V) : Prop :=
  (∃ i, x = .int i) ∨ x = .str (Str.ofString "text") ∨ x = .non ∨ x = .bl true ∨
  (∃ a i k, x = .ref a ∧ k ≤ n ∧ H a = some (.lst (.int i :: rep k))) ∨
  (∃ a i, x = .ref a ∧ H a = some (.tup [.int i, .str (Str.ofString "a")])) ∨
  ∃ a i, x = .ref a ∧ (H a = some (.dK [(kA, .int i)]) ∨ H a = some (.dK [(kA, .int i), (kM, .int 1)]))
/-- all but the thing itself is as it was -/
def KeepV (x : V) (H H' : Hp) : Prop := ∀ b o, H b = some o → x ≠ .ref b → H' b = some o
theorem KeepV.refl {x : V} {H : Hp} : KeepV x H H := fun _ _ e _ => e
theorem KeepV.upd {a : Addr} {H : Hp} {o : HO} : KeepV (.ref a) H (upd H a o) := fun b u e n => by
  rw [upd_ne (fun z => n (by rw [z]))]
  exact e
theorem put1 (i : Int) : putK [(kA, V.int i)] kM (.int 1) = [(kA, .int i), (kM, .int 1)] := by
  have h : kA ≠ kM := by decide +kernel
  simp [putK, h]
theorem put2 (i : Int) : putK [(kA, V.int i), (kM, .int 1)] kM (.int 1) = [(kA, .int i), (kM, .int 1)] := by
  have h : kA ≠ kM := by decide +kernel
  simp [putK, h]
theorem Tg.mono {n m : Nat} {H : Hp} {x : V} (h : n ≤ m) (t : Tg n H x) : Tg m H x := by
  rcases t with t | t | t | t | ⟨a, i, k, e, l, q⟩ | t | t
  · exact .inl t
  · exact .inr (.inl t)
  · exact .inr (.inr (.inl t))
  · exact .inr (.inr (.inr (.inl t)))
  · exact .inr (.inr (.inr (.inr (.inl ⟨a, i, k, e, by omega, q⟩))))
  · exact .inr (.inr (.inr (.inr (.inr (.inl t)))))
  · exact .inr (.inr (.inr (.inr (.inr (.inr t)))))
theorem Tg.to {n : Nat} {H H' : Hp} {x : V} (t : Tg n H x) (h : ∀ a o, x = .ref a → H a = some o → H' a = some o) : Tg n H' x := by
  rcases t with t | t | t | t | ⟨a, i, k, e, l, q⟩ | ⟨a, i, e, q⟩ | ⟨a, i, e, q | q⟩
  · exact .inl t
  · exact .inr (.inl t)
  · exact .inr (.inr (.inl t))
  · exact .inr (.inr (.inr (.inl t)))
  · exact .inr (.inr (.inr (.inr (.inl ⟨a, i, k, e, l, h _ _ e q⟩))))
  · exact .inr (.inr (.inr (.inr (.inr (.inl ⟨a, i, e, h _ _ e q⟩)))))
  · exact .inr (.inr (.inr (.inr (.inr (.inr ⟨a, i, e, .inl (h _ _ e q)⟩)))))
  · exact .inr (.inr (.inr (.inr (.inr (.inr ⟨a, i, e, .inr (h _ _ e q)⟩)))))
theorem Tg.some {n : Nat} {H : Hp} {a : Addr} (t : Tg n H (.ref a)) : H a ≠ none := by
  rcases t with ⟨i, e⟩ | e | e | e | ⟨b, i, k, e, l, q⟩ | ⟨b, i, e, q⟩ | ⟨b, i, e, q | q⟩
  · cases e
  · cases e
  · cases e
  · cases e
  · cases e; rw [q]; exact fun z => nomatch z
  · cases e; rw [q]; exact fun z => nomatch z
  · cases e; rw [q]; exact fun z => nomatch z
  · cases e; rw [q]; exact fun z => nomatch z
def spThing : Sp := fun vs H Q _ => ∃ p : Addr, vs = [.ref p] ∧ Box H p ∧ ∀ x H', Tg 0 H' x → (∀ a, x = .ref a → H a = none ∧ a ≠ p) → Box H' p → Keep p H H' → Q x H'
def spSame : Sp := fun vs H Q _ => ∃ (n : Nat) (x : V), vs = [x, x] ∧ n ≤ 500 ∧ Tg n H x ∧ ∀ H', Tg (n + 1) H' x → KeepV x H H' → Q (.bl true) H'
def spKinds (cs cs' : List Addr) : Sp := fun vs H Q _ => ∃ e C : Addr, vs = [.ref e] ∧ C ∈ cs' ∧ (H e = some (ExN e C) ∨ ∃ dx fs, H e = some (ExF e C dx) ∧ H dx = some (XdE dx fs)) ∧ ∀ l H', H' l = some (.lst (cs.map fun D => .bl (decide (C = D)))) → Same H H' → Q (.ref l) H'
theorem rep_nofl (i : Int) (k : Nat) : ∀ v ∈ (V.int i :: rep k), NoFl v := by
  intro v hv
  rcases List.mem_cons.mp hv with rfl | hv
  · exact trivial
  · rw [List.eq_of_mem_replicate hv]
    exact trivial
theorem eqv_flat (d : PyData) (h : d = .none ∨ (∃ i, d = .int i) ∨ d = .str (Str.ofString "text") ∨ d = .bool true ∨ ∃ i, d = .tuple [.int i, .str (Str.ofString "a")]) : SeqAt.shaped d = true ∧ PyData.eqv d d = true := by
  rcases h with rfl | ⟨i, rfl⟩ | rfl | rfl | ⟨i, rfl⟩
  · exact ⟨rfl, rfl⟩
  · exact ⟨rfl, by simp [PyData.eqv]⟩
  · exact ⟨by decide +kernel, by decide +kernel⟩
  · exact ⟨rfl, rfl⟩
  · refine ⟨by have : PyData.strOk (Str.ofString "a") = true := by decide +kernel
               simp [SeqAt.shaped, PyData.canLay0, PyData.canLayAll0, PyData.depth, PyData.depthAll, this], by simp [PyData.eqv, PyData.eqvAll]⟩
theorem ok_L_thing (T : Tx K mg) : FnOk P w K mg base CX0 2 T.a_L_thing T.fd_L_thing ["_law_box_here"] spThing := by
  have G_L_take := ok_L_take (P := P) (w := w) (base := base) T
  refine T.F_L_thing.ok sc_L_thing (fun vs H Q E h => ?_) (fun cdv A outer s H vs Q E hr h => ?_)
  · obtain ⟨p, rfl, _⟩ := h
    rfl
  · obtain ⟨p, rfl, hb, q⟩ := h
    refine ⟨_, QSs.go (qss_cons (qs_set (i := 1) sc_L_thing.nd rfl (Or.inl rfl) (qe_call G_L_take (hr.mono (by decide)) (by rfl) T.m_L_take T.F_L_take.kp T.b_L_take .nil pass0 (qa_cons (qv 0) (qa_cons (qe_op op_pow qe_int qe_int) qa_nil))))
      (qss_one (qs_ret (qe_ix ix_list (qe_lst (qa_cons (qv 1) (qa_cons (qe_op op_sub qe_int (qv 1)) (qa_cons qe_str (qa_cons qe_non (qa_cons (qe_lst (qa_cons (qv 1) qa_nil)) (qa_cons (qe_tup (qa_cons (qv 1) (qa_cons qe_str qa_nil))) (qa_cons (qe_disp (qps_cons qe_str (qv 1) qps_nil) (by rfl) (by rfl) (fun z => by cases z) (by decide)) (qa_cons qe_bl qa_nil))))))))) (qe_call G_L_take (hr.mono (by decide)) (by rfl) T.m_L_take T.F_L_take.kp T.b_L_take .nil pass0 (qa_cons (qv 0) (qa_cons qe_int qa_nil))) (fun _ _ => rfl))))), ?_⟩

    refine ⟨_, rfl, _, _, rfl, rfl, ⟨by decide, by decide, by decide⟩, p, _, rfl, hb, by decide, by decide, fun n H1 n0 n1 b1 k1 => ?_⟩
    refine ⟨_, rfl, _, rfl, _, _, rfl, rfl, _, rfl, by show 1 ≤ sizeLine; decide, fun t1 h1 => ?_⟩
    generalize eA : upd H1 t1 (HO.lst _) = HA
    have nA : New H1 t1 (.lst (.int n :: rep 0)) HA := New.of h1 eA
    refine ⟨_, rfl, by show 2 ≤ sizeLine; decide, fun t2 h2 => ?_⟩
    generalize eB : upd HA t2 (HO.tup _) = HB1
    have nB : New HA t2 (.tup [.int n, .str (Str.ofString "a")]) HB1 := New.of h2 eB
    refine fun t3 h3 => ⟨_, rfl, upd_same, [(kA, .int n)], rfl, by show 1 ≤ 15; decide, ?_⟩
    rw [upd_upd]
    generalize eC : upd HB1 t3 (HO.dK _) = HC1
    have nC : New HB1 t3 (.dK [(kA, .int n)]) HC1 := New.of h3 eC
    refine ⟨by show 8 ≤ sizeLine; decide, fun l hl => ?_⟩
    generalize eD : upd HC1 l (HO.lst _) = HD
    have nD : New HC1 l (.lst [.int n, .int (0 - n), .str (Str.ofString "text"), .non, .ref t1, .ref t2, .ref t3, .bl true]) HD := New.of hl eD
    have sD : Same H1 HD := ((nA.same.trans nB.same).trans nC.same).trans nD.same
    have bD := sD.box b1
    have nlp : l ≠ p := (((((nA.same.trans nB.same).trans nC.same)).box b1).ne hl).symm
    have np1 : t1 ≠ p := (b1.ne h1).symm
    have np2 : t2 ≠ p := ((nA.same.box b1).ne h2).symm
    have np3 : t3 ≠ p := (((nA.same.trans nB.same).box b1).ne h3).symm
    refine ⟨_, rfl, p, _, rfl, bD, by decide, by decide, fun d H2 d0 d1 b2 k2 => ?_⟩
    obtain ⟨v, hv, he⟩ := pick [V.int n, .int (0 - n), .str (Str.ofString "text"), .non, .ref t1, .ref t2, .ref t3, .bl true] d0 d1
    refine ⟨l, _, _, _, rfl, rfl, SqL.of (k2 _ _ nD.at_ nlp), he, ?_⟩
    have kH : Keep p H H2 := (k1.trans sD.toKeep).trans k2
    have fr : ∀ {a : Addr}, H1 a = none → H a = none := fun {a} h => by
      cases e : H a with
      | none => rfl
      | some o =>
        have := k1 _ _ e (b1.ne h).symm
        rw [h] at this
        cases this
    simp only [List.mem_cons, List.not_mem_nil, or_false] at hv
    rcases hv with rfl | rfl | rfl | rfl | rfl | rfl | rfl | rfl
    · exact q _ _ (.inl ⟨_, rfl⟩) nofun b2 kH
    · exact q _ _ (.inl ⟨_, rfl⟩) nofun b2 kH
    · exact q _ _ (.inr (.inl rfl)) nofun b2 kH
    · exact q _ _ (.inr (.inr (.inl rfl))) nofun b2 kH
    · exact q _ _ (.inr (.inr (.inr (.inr (.inl ⟨t1, n, 0, rfl, Nat.le_refl _, k2 _ _ (nD.get (nC.get (nB.get nA.at_))) np1⟩))))) (fun a ha => by cases ha; exact ⟨fr h1, np1⟩) b2 kH
    · exact q _ _ (.inr (.inr (.inr (.inr (.inr (.inl ⟨t2, n, rfl, k2 _ _ (nD.get (nC.get nB.at_)) np2⟩)))))) (fun a ha => by cases ha; exact ⟨fr (nA.same.free h2), np2⟩) b2 kH
    · exact q _ _ (.inr (.inr (.inr (.inr (.inr (.inr ⟨t3, n, rfl, .inl (k2 _ _ (nD.get nC.at_) np3)⟩)))))) (fun a ha => by cases ha; exact ⟨fr ((nA.same.trans nB.same).free h3), np3⟩) b2 kH
    · exact q _ _ (.inr (.inr (.inr (.inl rfl)))) nofun b2 kH

theorem ok_L_same (T : Tx K mg) : FnOk P w K mg base CX0 1 T.a_L_same T.fd_L_same ["_law_found", "_law_due"] spSame := by
  refine T.F_L_same.ok sc_L_same (fun vs H Q E h => ?_) (fun cdv A outer s H vs Q E hr h => ?_)
  · obtain ⟨n, x, rfl, _⟩ := h
    rfl
  · obtain ⟨n, x, rfl, hn, ht, q⟩ := h
    refine ⟨_, QSs.go (qss_cons (qs_if (QW.pt (qw_or (qt_cmpR op_ne (qe_callB call_isi (by rfl) T.n_isinstance (by decide +kernel) (qa_cons (qv 0) (qa_cons (qe_bltn (v := .ty "bool") (by rfl) T.n_bool (by decide +kernel) rfl) qa_nil))) (qe_callB call_isi (by rfl) T.n_isinstance (by decide +kernel) (qa_cons (qv 1) (qa_cons (qe_bltn (v := .ty "bool") (by rfl) T.n_bool (by decide +kernel) rfl) qa_nil))) (nomark _)) (qw_or1 (qt_cmpR (op_neS hr.units) (qv 0) (qv 1) (nomark _))))) (qss_one (qs_ret qe_bl)) qss_nil)
      (qss_cons (qs_if (qt_val (qe_callB call_isi (by rfl) T.n_isinstance (by decide +kernel) (qa_cons (qv 1) (qa_cons (qe_bltn (v := .ty "list") (by rfl) T.n_list (by decide +kernel) rfl) qa_nil)))) (qss_cons (qs_expr (qe_bm PySem.F.plainAttrs_list PySem.F.slot_list_append PySem.F.type_list_append mt_append (qv 1) (qa_cons qe_str qa_nil)))
        (qss_one (qs_ret (qe_cmpR (op_eqS hr.units) (qv 0) (qv 1) (nomark _))))) qss_nil)
      (qss_cons (qs_if (qt_val (qe_callB call_isi (by rfl) T.n_isinstance (by decide +kernel) (qa_cons (qv 1) (qa_cons (qe_bltn (v := .ty "dict") (by rfl) T.n_dict (by decide +kernel) rfl) qa_nil)))) (qss_cons (qs_dput (Nat.lt_of_le_of_lt (Nat.add_le_add_left (by decide) _) hr.units) (qv 1) qe_str qe_int rfl)
        (qss_one (qs_ret (qe_cmpR (op_eqS hr.units) (qv 0) (qv 1) (nomark _))))) qss_nil)
      (qss_one (qs_ret qe_bl))))), ?_⟩

    rcases id ht with ⟨i, rfl⟩ | rfl | rfl | rfl | ⟨a, i, k, rfl, hk, ha⟩ | ⟨a, i, rfl, ha⟩ | ⟨a, i, rfl, ha⟩
    · refine ⟨_, rfl, _, _, _, _, rfl, .int i, rfl, _, rfl, _, _, _, _, rfl, .int i, rfl, rfl, _, rfl, neF rfl ?_⟩
      obtain ⟨g1, g2⟩ := eqv_flat (.int i) (.inr (.inl ⟨i, rfl⟩))
      refine ⟨_, rfl, _, rfl, .inl (.inl ⟨_, _, .int i, .int i, g1, g1, _, rfl, ?_⟩)⟩
      rw [g2]
      refine iteF ?_
      refine ⟨_, rfl, _, _, _, _, rfl, .int i, rfl, _, rfl, iteF ?_⟩
      refine ⟨_, rfl, _, _, _, _, rfl, .int i, rfl, _, rfl, iteF ?_⟩
      exact q _ (.inl ⟨i, rfl⟩) KeepV.refl
    · refine ⟨_, rfl, _, _, _, _, rfl, .str _, rfl, _, rfl, _, _, _, _, rfl, .str _, rfl, rfl, _, rfl, neF rfl ?_⟩
      obtain ⟨g1, g2⟩ := eqv_flat (.str (Str.ofString "text")) (.inr (.inr (.inl rfl)))
      refine ⟨_, rfl, _, rfl, .inl (.inl ⟨_, _, .str _, .str _, g1, g1, _, rfl, ?_⟩)⟩
      rw [g2]
      refine iteF ?_
      refine ⟨_, rfl, _, _, _, _, rfl, .str _, rfl, _, rfl, iteF ?_⟩
      refine ⟨_, rfl, _, _, _, _, rfl, .str _, rfl, _, rfl, iteF ?_⟩
      exact q _ (.inr (.inl rfl)) KeepV.refl
    · refine ⟨_, rfl, _, _, _, _, rfl, .non, rfl, _, rfl, _, _, _, _, rfl, .non, rfl, rfl, _, rfl, neF rfl ?_⟩
      obtain ⟨g1, g2⟩ := eqv_flat .none (.inl rfl)
      refine ⟨_, rfl, _, rfl, .inl (.inl ⟨_, _, .non, .non, g1, g1, _, rfl, ?_⟩)⟩
      rw [g2]
      refine iteF ?_
      refine ⟨_, rfl, _, _, _, _, rfl, .non, rfl, _, rfl, iteF ?_⟩
      refine ⟨_, rfl, _, _, _, _, rfl, .non, rfl, _, rfl, iteF ?_⟩
      exact q _ (.inr (.inr (.inl rfl))) KeepV.refl
    · refine ⟨_, rfl, _, _, _, _, rfl, .bl true, rfl, _, rfl, _, _, _, _, rfl, .bl true, rfl, rfl, _, rfl, neF rfl ?_⟩
      obtain ⟨g1, g2⟩ := eqv_flat (.bool true) (.inr (.inr (.inr (.inl rfl))))
      refine ⟨_, rfl, _, rfl, .inl (.inl ⟨_, _, .bl true, .bl true, g1, g1, _, rfl, ?_⟩)⟩
      rw [g2]
      refine iteF ?_
      refine ⟨_, rfl, _, _, _, _, rfl, .bl true, rfl, _, rfl, iteF ?_⟩
      refine ⟨_, rfl, _, _, _, _, rfl, .bl true, rfl, _, rfl, iteF ?_⟩
      exact q _ (.inr (.inr (.inr (.inl rfl)))) KeepV.refl
    · refine ⟨_, rfl, _, _, _, _, rfl, .lst ha, rfl, _, rfl, _, _, _, _, rfl, .lst ha, rfl, rfl, _, rfl, neF rfl ?_⟩
      refine ⟨_, rfl, _, rfl, .inl (.inr (.inr ⟨a, a, _, rfl, rfl, SqL.of ha, SqL.of ha, rep_nofl i k, _, rfl, iteF ?_⟩))⟩
      refine ⟨_, rfl, _, _, _, _, rfl, .lst ha, rfl, _, rfl, iteT ?_⟩
      refine ⟨_, rfl, .inl ⟨rfl, _, SqL.of ha⟩, a, _, _, rfl, rfl, ha, (by show (rep k).length + 1 < sizeLine; unfold rep; rw [List.length_replicate]; exact small1000 (by omega)), ?_⟩
      have hb : (upd H a (.lst ((V.int i :: rep k) ++ [.str mo]))) a = some (.lst (.int i :: rep (k + 1))) := by
        rw [upd_same, List.cons_append, rep_snoc']
      refine ⟨_, rfl, _, rfl, .inl (.inr (.inr ⟨a, a, _, rfl, rfl, SqL.of hb, SqL.of hb, rep_nofl i (k + 1), ?_⟩))⟩
      exact q _ (.inr (.inr (.inr (.inr (.inl ⟨a, i, k + 1, rfl, by omega, hb⟩))))) KeepV.upd
    · refine ⟨_, rfl, _, _, _, _, rfl, .tup ha, rfl, _, rfl, _, _, _, _, rfl, .tup ha, rfl, rfl, _, rfl, neF rfl ?_⟩
      obtain ⟨g1, g2⟩ := eqv_flat (.tuple [.int i, .str (Str.ofString "a")]) (.inr (.inr (.inr (.inr ⟨i, rfl⟩))))
      refine ⟨_, rfl, _, rfl, .inl (.inl ⟨_, _, (.tup (SqT.of ha) (.cons (.int i) (.cons (.str _) .nil))), (.tup (SqT.of ha) (.cons (.int i) (.cons (.str _) .nil))), g1, g1, _, rfl, ?_⟩)⟩
      rw [g2]
      refine iteF ?_
      refine ⟨_, rfl, _, _, _, _, rfl, .tup ha, rfl, _, rfl, iteF ?_⟩
      refine ⟨_, rfl, _, _, _, _, rfl, .tup ha, rfl, _, rfl, iteF ?_⟩
      exact q _ (.inr (.inr (.inr (.inr (.inr (.inl ⟨a, i, rfl, ha⟩)))))) KeepV.refl
    · obtain ⟨kvs, hd, hp⟩ : ∃ kvs, H a = some (.dK kvs) ∧ putK kvs kM (.int 1) = [(kA, .int i), (kM, .int 1)] ∧ kvs.length < 10 := by
        rcases ha with ha | ha
        · exact ⟨_, ha, put1 i, by show 1 < 10; decide⟩
        · exact ⟨_, ha, put2 i, by show 2 < 10; decide⟩
      refine ⟨_, rfl, _, _, _, _, rfl, .dK hd, rfl, _, rfl, _, _, _, _, rfl, .dK hd, rfl, rfl, _, rfl, neF rfl ?_⟩
      refine ⟨_, rfl, _, rfl, .inr ⟨a, _, rfl, rfl, hd, _, rfl, iteF ?_⟩⟩
      refine ⟨_, rfl, _, _, _, _, rfl, .dK hd, rfl, _, rfl, iteF ?_⟩
      refine ⟨_, rfl, _, _, _, _, rfl, .dK hd, rfl, _, rfl, iteT ?_⟩
      refine ⟨_, rfl, a, _, rfl, DPut.k (k := kM) hd (small1000 (by omega)), ?_⟩
      rw [hp.1]
      refine ⟨_, rfl, _, rfl, .inr ⟨a, _, rfl, rfl, upd_same, ?_⟩⟩
      exact q _ (.inr (.inr (.inr (.inr (.inr (.inr ⟨a, i, rfl, .inr upd_same⟩)))))) KeepV.upd

theorem ok_L_kinds (T : Tx K mg) : FnOk P w K mg base CX0 1 T.a_L_kinds T.fd_L_kinds ["_law_e"] (spKinds [T.c_NoNumber, T.c_NoWidth, T.c_NoStep, T.c_NoMachine, T.c_NoSeed, T.c_NoPath, T.c_NoPlace, T.c_NoState, T.c_NoHand, T.c_NoName, T.c_NoOrder, T.c_NoSet, T.c_NoShares, T.c_NoShape, T.c_NoRow, T.c_NoPaper, T.c_NoHolder, T.c_NoText, T.c_NoJoin, T.c_NoPlan, T.c_NoLine, T.c_TooWide, T.c_TooDeep, T.c_Twice, T.c_Unknown, T.c_TooMany, T.c_Spent, T.c_NoDepth, T.c_NoParts, T.c_Beyond] [T.c_SeedError, T.c_NoNumber, T.c_NoWidth, T.c_NoStep, T.c_NoMachine, T.c_NoSeed, T.c_NoPath, T.c_NoPlace, T.c_NoState, T.c_NoHand, T.c_NoName, T.c_NoOrder, T.c_NoSet, T.c_NoShares, T.c_NoShape, T.c_NoRow, T.c_NoPaper, T.c_NoHolder, T.c_NoText, T.c_NoJoin, T.c_NoPlan, T.c_NoLine, T.c_TooWide, T.c_TooDeep, T.c_Twice, T.c_Unknown, T.c_TooMany, T.c_Spent, T.c_NoDepth, T.c_NoParts, T.c_Beyond]) := by
  refine T.F_L_kinds.ok sc_L_kinds (fun vs H Q E h => ?_) (fun cdv A outer s H vs Q E hr h => ?_)
  · obtain ⟨e, C, rfl, _⟩ := h
    rfl
  · obtain ⟨e, C, rfl, hC, hob, q⟩ := h
    refine ⟨_, QSs.go (qss_cons (qs_set (i := 1) sc_L_kinds.nd rfl (Or.inl rfl) (qe_lst (qa_cons (qe_callB call_isiE (by rfl) T.n_isinstance (by decide +kernel) (qa_cons (qv 0) (qa_cons (qe_glob (v := .ref T.c_NoNumber) (by rfl) T.mc_NoNumber rfl) qa_nil))) (qa_cons (qe_callB call_isiE (by rfl) T.n_isinstance (by decide +kernel) (qa_cons (qv 0) (qa_cons (qe_glob (v := .ref T.c_NoWidth) (by rfl) T.mc_NoWidth rfl) qa_nil))) (qa_cons (qe_callB call_isiE (by rfl) T.n_isinstance (by decide +kernel) (qa_cons (qv 0) (qa_cons (qe_glob (v := .ref T.c_NoStep) (by rfl) T.mc_NoStep rfl) qa_nil))) (qa_cons (qe_callB call_isiE (by rfl) T.n_isinstance (by decide +kernel) (qa_cons (qv 0) (qa_cons (qe_glob (v := .ref T.c_NoMachine) (by rfl) T.mc_NoMachine rfl) qa_nil))) qa_nil))))))
      (qss_cons (qs_set (i := 1) sc_L_kinds.nd rfl (Or.inl rfl) (qe_op op_cat (qv 1) (qe_lst (qa_cons (qe_callB call_isiE (by rfl) T.n_isinstance (by decide +kernel) (qa_cons (qv 0) (qa_cons (qe_glob (v := .ref T.c_NoSeed) (by rfl) T.mc_NoSeed rfl) qa_nil))) (qa_cons (qe_callB call_isiE (by rfl) T.n_isinstance (by decide +kernel) (qa_cons (qv 0) (qa_cons (qe_glob (v := .ref T.c_NoPath) (by rfl) T.mc_NoPath rfl) qa_nil))) (qa_cons (qe_callB call_isiE (by rfl) T.n_isinstance (by decide +kernel) (qa_cons (qv 0) (qa_cons (qe_glob (v := .ref T.c_NoPlace) (by rfl) T.mc_NoPlace rfl) qa_nil))) (qa_cons (qe_callB call_isiE (by rfl) T.n_isinstance (by decide +kernel) (qa_cons (qv 0) (qa_cons (qe_glob (v := .ref T.c_NoState) (by rfl) T.mc_NoState rfl) qa_nil))) qa_nil)))))))
      (qss_cons (qs_set (i := 1) sc_L_kinds.nd rfl (Or.inl rfl) (qe_op op_cat (qv 1) (qe_lst (qa_cons (qe_callB call_isiE (by rfl) T.n_isinstance (by decide +kernel) (qa_cons (qv 0) (qa_cons (qe_glob (v := .ref T.c_NoHand) (by rfl) T.mc_NoHand rfl) qa_nil))) (qa_cons (qe_callB call_isiE (by rfl) T.n_isinstance (by decide +kernel) (qa_cons (qv 0) (qa_cons (qe_glob (v := .ref T.c_NoName) (by rfl) T.mc_NoName rfl) qa_nil))) (qa_cons (qe_callB call_isiE (by rfl) T.n_isinstance (by decide +kernel) (qa_cons (qv 0) (qa_cons (qe_glob (v := .ref T.c_NoOrder) (by rfl) T.mc_NoOrder rfl) qa_nil))) (qa_cons (qe_callB call_isiE (by rfl) T.n_isinstance (by decide +kernel) (qa_cons (qv 0) (qa_cons (qe_glob (v := .ref T.c_NoSet) (by rfl) T.mc_NoSet rfl) qa_nil))) qa_nil)))))))
      (qss_cons (qs_set (i := 1) sc_L_kinds.nd rfl (Or.inl rfl) (qe_op op_cat (qv 1) (qe_lst (qa_cons (qe_callB call_isiE (by rfl) T.n_isinstance (by decide +kernel) (qa_cons (qv 0) (qa_cons (qe_glob (v := .ref T.c_NoShares) (by rfl) T.mc_NoShares rfl) qa_nil))) (qa_cons (qe_callB call_isiE (by rfl) T.n_isinstance (by decide +kernel) (qa_cons (qv 0) (qa_cons (qe_glob (v := .ref T.c_NoShape) (by rfl) T.mc_NoShape rfl) qa_nil))) (qa_cons (qe_callB call_isiE (by rfl) T.n_isinstance (by decide +kernel) (qa_cons (qv 0) (qa_cons (qe_glob (v := .ref T.c_NoRow) (by rfl) T.mc_NoRow rfl) qa_nil))) (qa_cons (qe_callB call_isiE (by rfl) T.n_isinstance (by decide +kernel) (qa_cons (qv 0) (qa_cons (qe_glob (v := .ref T.c_NoPaper) (by rfl) T.mc_NoPaper rfl) qa_nil))) qa_nil)))))))
      (qss_cons (qs_set (i := 1) sc_L_kinds.nd rfl (Or.inl rfl) (qe_op op_cat (qv 1) (qe_lst (qa_cons (qe_callB call_isiE (by rfl) T.n_isinstance (by decide +kernel) (qa_cons (qv 0) (qa_cons (qe_glob (v := .ref T.c_NoHolder) (by rfl) T.mc_NoHolder rfl) qa_nil))) (qa_cons (qe_callB call_isiE (by rfl) T.n_isinstance (by decide +kernel) (qa_cons (qv 0) (qa_cons (qe_glob (v := .ref T.c_NoText) (by rfl) T.mc_NoText rfl) qa_nil))) (qa_cons (qe_callB call_isiE (by rfl) T.n_isinstance (by decide +kernel) (qa_cons (qv 0) (qa_cons (qe_glob (v := .ref T.c_NoJoin) (by rfl) T.mc_NoJoin rfl) qa_nil))) (qa_cons (qe_callB call_isiE (by rfl) T.n_isinstance (by decide +kernel) (qa_cons (qv 0) (qa_cons (qe_glob (v := .ref T.c_NoPlan) (by rfl) T.mc_NoPlan rfl) qa_nil))) qa_nil)))))))
      (qss_cons (qs_set (i := 1) sc_L_kinds.nd rfl (Or.inl rfl) (qe_op op_cat (qv 1) (qe_lst (qa_cons (qe_callB call_isiE (by rfl) T.n_isinstance (by decide +kernel) (qa_cons (qv 0) (qa_cons (qe_glob (v := .ref T.c_NoLine) (by rfl) T.mc_NoLine rfl) qa_nil))) (qa_cons (qe_callB call_isiE (by rfl) T.n_isinstance (by decide +kernel) (qa_cons (qv 0) (qa_cons (qe_glob (v := .ref T.c_TooWide) (by rfl) T.mc_TooWide rfl) qa_nil))) (qa_cons (qe_callB call_isiE (by rfl) T.n_isinstance (by decide +kernel) (qa_cons (qv 0) (qa_cons (qe_glob (v := .ref T.c_TooDeep) (by rfl) T.mc_TooDeep rfl) qa_nil))) (qa_cons (qe_callB call_isiE (by rfl) T.n_isinstance (by decide +kernel) (qa_cons (qv 0) (qa_cons (qe_glob (v := .ref T.c_Twice) (by rfl) T.mc_Twice rfl) qa_nil))) qa_nil)))))))
      (qss_cons (qs_set (i := 1) sc_L_kinds.nd rfl (Or.inl rfl) (qe_op op_cat (qv 1) (qe_lst (qa_cons (qe_callB call_isiE (by rfl) T.n_isinstance (by decide +kernel) (qa_cons (qv 0) (qa_cons (qe_glob (v := .ref T.c_Unknown) (by rfl) T.mc_Unknown rfl) qa_nil))) (qa_cons (qe_callB call_isiE (by rfl) T.n_isinstance (by decide +kernel) (qa_cons (qv 0) (qa_cons (qe_glob (v := .ref T.c_TooMany) (by rfl) T.mc_TooMany rfl) qa_nil))) (qa_cons (qe_callB call_isiE (by rfl) T.n_isinstance (by decide +kernel) (qa_cons (qv 0) (qa_cons (qe_glob (v := .ref T.c_Spent) (by rfl) T.mc_Spent rfl) qa_nil))) (qa_cons (qe_callB call_isiE (by rfl) T.n_isinstance (by decide +kernel) (qa_cons (qv 0) (qa_cons (qe_glob (v := .ref T.c_NoDepth) (by rfl) T.mc_NoDepth rfl) qa_nil))) qa_nil)))))))
      (qss_one (qs_ret (qe_op op_cat (qv 1) (qe_lst (qa_cons (qe_callB call_isiE (by rfl) T.n_isinstance (by decide +kernel) (qa_cons (qv 0) (qa_cons (qe_glob (v := .ref T.c_NoParts) (by rfl) T.mc_NoParts rfl) qa_nil))) (qa_cons (qe_callB call_isiE (by rfl) T.n_isinstance (by decide +kernel) (qa_cons (qv 0) (qa_cons (qe_glob (v := .ref T.c_Beyond) (by rfl) T.mc_Beyond rfl) qa_nil))) qa_nil))))))))))))), ?_⟩

    have obs : ∀ {G : Hp}, Same H G → (G e = some (ExN e C) ∨ ∃ dx fs, G e = some (ExF e C dx) ∧ G dx = some (XdE dx fs)) := fun s => by
      rcases hob with h | ⟨dx, fs, h1, h2⟩
      · exact .inl (s _ _ h)
      · exact .inr ⟨dx, fs, s _ _ h1, s _ _ h2⟩
    have ob := hob
    refine ⟨_, rfl, e, _, C, _, _, rfl, .inl ⟨_, rfl, rfl⟩, ob, T.xk C hC, T.kit C hC T.c_NoNumber (by simp), _, rfl, e, _, C, _, _, rfl, .inl ⟨_, rfl, rfl⟩, ob, T.xk C hC, T.kit C hC T.c_NoWidth (by simp), _, rfl, e, _, C, _, _, rfl, .inl ⟨_, rfl, rfl⟩, ob, T.xk C hC, T.kit C hC T.c_NoStep (by simp), _, rfl, e, _, C, _, _, rfl, .inl ⟨_, rfl, rfl⟩, ob, T.xk C hC, T.kit C hC T.c_NoMachine (by simp), by show 4 ≤ sizeLine; decide, fun l0 hl0 => ?_⟩
    generalize e0 : upd H l0 (HO.lst _) = H0
    have n0' : New H l0 (.lst (([T.c_NoNumber, T.c_NoWidth, T.c_NoStep, T.c_NoMachine] : List Addr).map fun D => V.bl (decide (C = D)))) H0 := New.of hl0 e0
    have s0 := n0'.same
    have a0 := n0'.at_
    have ob := obs s0
    refine ⟨_, rfl, _, rfl, e, _, C, _, _, rfl, .inl ⟨_, rfl, rfl⟩, ob, T.xk C hC, T.kit C hC T.c_NoSeed (by simp), _, rfl, e, _, C, _, _, rfl, .inl ⟨_, rfl, rfl⟩, ob, T.xk C hC, T.kit C hC T.c_NoPath (by simp), _, rfl, e, _, C, _, _, rfl, .inl ⟨_, rfl, rfl⟩, ob, T.xk C hC, T.kit C hC T.c_NoPlace (by simp), _, rfl, e, _, C, _, _, rfl, .inl ⟨_, rfl, rfl⟩, ob, T.xk C hC, T.kit C hC T.c_NoState (by simp), by show 4 ≤ sizeLine; decide, fun m1 hm1 => ?_⟩
    generalize em1 : upd H0 m1 (HO.lst _) = M1
    have nm1 : New H0 m1 (.lst (([T.c_NoSeed, T.c_NoPath, T.c_NoPlace, T.c_NoState] : List Addr).map fun D => V.bl (decide (C = D)))) M1 := New.of hm1 em1
    refine ⟨l0, m1, _, _, rfl, rfl, nm1.get a0, nm1.at_, by show 4 + 4 ≤ sizeLine; decide, fun l1 hl1 => ?_⟩
    generalize e1 : upd M1 l1 (HO.lst _) = H1
    have n1' : New M1 l1 (.lst (([T.c_NoNumber, T.c_NoWidth, T.c_NoStep, T.c_NoMachine, T.c_NoSeed, T.c_NoPath, T.c_NoPlace, T.c_NoState] : List Addr).map fun D => V.bl (decide (C = D)))) H1 := New.of hl1 e1
    have s1 := (s0.trans nm1.same).trans n1'.same
    have a1 := n1'.at_
    have ob := obs s1
    refine ⟨_, rfl, _, rfl, e, _, C, _, _, rfl, .inl ⟨_, rfl, rfl⟩, ob, T.xk C hC, T.kit C hC T.c_NoHand (by simp), _, rfl, e, _, C, _, _, rfl, .inl ⟨_, rfl, rfl⟩, ob, T.xk C hC, T.kit C hC T.c_NoName (by simp), _, rfl, e, _, C, _, _, rfl, .inl ⟨_, rfl, rfl⟩, ob, T.xk C hC, T.kit C hC T.c_NoOrder (by simp), _, rfl, e, _, C, _, _, rfl, .inl ⟨_, rfl, rfl⟩, ob, T.xk C hC, T.kit C hC T.c_NoSet (by simp), by show 4 ≤ sizeLine; decide, fun m2 hm2 => ?_⟩
    generalize em2 : upd H1 m2 (HO.lst _) = M2
    have nm2 : New H1 m2 (.lst (([T.c_NoHand, T.c_NoName, T.c_NoOrder, T.c_NoSet] : List Addr).map fun D => V.bl (decide (C = D)))) M2 := New.of hm2 em2
    refine ⟨l1, m2, _, _, rfl, rfl, nm2.get a1, nm2.at_, by show 8 + 4 ≤ sizeLine; decide, fun l2 hl2 => ?_⟩
    generalize e2 : upd M2 l2 (HO.lst _) = H2
    have n2' : New M2 l2 (.lst (([T.c_NoNumber, T.c_NoWidth, T.c_NoStep, T.c_NoMachine, T.c_NoSeed, T.c_NoPath, T.c_NoPlace, T.c_NoState, T.c_NoHand, T.c_NoName, T.c_NoOrder, T.c_NoSet] : List Addr).map fun D => V.bl (decide (C = D)))) H2 := New.of hl2 e2
    have s2 := (s1.trans nm2.same).trans n2'.same
    have a2 := n2'.at_
    have ob := obs s2
    refine ⟨_, rfl, _, rfl, e, _, C, _, _, rfl, .inl ⟨_, rfl, rfl⟩, ob, T.xk C hC, T.kit C hC T.c_NoShares (by simp), _, rfl, e, _, C, _, _, rfl, .inl ⟨_, rfl, rfl⟩, ob, T.xk C hC, T.kit C hC T.c_NoShape (by simp), _, rfl, e, _, C, _, _, rfl, .inl ⟨_, rfl, rfl⟩, ob, T.xk C hC, T.kit C hC T.c_NoRow (by simp), _, rfl, e, _, C, _, _, rfl, .inl ⟨_, rfl, rfl⟩, ob, T.xk C hC, T.kit C hC T.c_NoPaper (by simp), by show 4 ≤ sizeLine; decide, fun m3 hm3 => ?_⟩
    generalize em3 : upd H2 m3 (HO.lst _) = M3
    have nm3 : New H2 m3 (.lst (([T.c_NoShares, T.c_NoShape, T.c_NoRow, T.c_NoPaper] : List Addr).map fun D => V.bl (decide (C = D)))) M3 := New.of hm3 em3
    refine ⟨l2, m3, _, _, rfl, rfl, nm3.get a2, nm3.at_, by show 12 + 4 ≤ sizeLine; decide, fun l3 hl3 => ?_⟩
    generalize e3 : upd M3 l3 (HO.lst _) = H3
    have n3' : New M3 l3 (.lst (([T.c_NoNumber, T.c_NoWidth, T.c_NoStep, T.c_NoMachine, T.c_NoSeed, T.c_NoPath, T.c_NoPlace, T.c_NoState, T.c_NoHand, T.c_NoName, T.c_NoOrder, T.c_NoSet, T.c_NoShares, T.c_NoShape, T.c_NoRow, T.c_NoPaper] : List Addr).map fun D => V.bl (decide (C = D)))) H3 := New.of hl3 e3
    have s3 := (s2.trans nm3.same).trans n3'.same
    have a3 := n3'.at_
    have ob := obs s3
    refine ⟨_, rfl, _, rfl, e, _, C, _, _, rfl, .inl ⟨_, rfl, rfl⟩, ob, T.xk C hC, T.kit C hC T.c_NoHolder (by simp), _, rfl, e, _, C, _, _, rfl, .inl ⟨_, rfl, rfl⟩, ob, T.xk C hC, T.kit C hC T.c_NoText (by simp), _, rfl, e, _, C, _, _, rfl, .inl ⟨_, rfl, rfl⟩, ob, T.xk C hC, T.kit C hC T.c_NoJoin (by simp), _, rfl, e, _, C, _, _, rfl, .inl ⟨_, rfl, rfl⟩, ob, T.xk C hC, T.kit C hC T.c_NoPlan (by simp), by show 4 ≤ sizeLine; decide, fun m4 hm4 => ?_⟩
    generalize em4 : upd H3 m4 (HO.lst _) = M4
    have nm4 : New H3 m4 (.lst (([T.c_NoHolder, T.c_NoText, T.c_NoJoin, T.c_NoPlan] : List Addr).map fun D => V.bl (decide (C = D)))) M4 := New.of hm4 em4
    refine ⟨l3, m4, _, _, rfl, rfl, nm4.get a3, nm4.at_, by show 16 + 4 ≤ sizeLine; decide, fun l4 hl4 => ?_⟩
    generalize e4 : upd M4 l4 (HO.lst _) = H4
    have n4' : New M4 l4 (.lst (([T.c_NoNumber, T.c_NoWidth, T.c_NoStep, T.c_NoMachine, T.c_NoSeed, T.c_NoPath, T.c_NoPlace, T.c_NoState, T.c_NoHand, T.c_NoName, T.c_NoOrder, T.c_NoSet, T.c_NoShares, T.c_NoShape, T.c_NoRow, T.c_NoPaper, T.c_NoHolder, T.c_NoText, T.c_NoJoin, T.c_NoPlan] : List Addr).map fun D => V.bl (decide (C = D)))) H4 := New.of hl4 e4
    have s4 := (s3.trans nm4.same).trans n4'.same
    have a4 := n4'.at_
    have ob := obs s4
    refine ⟨_, rfl, _, rfl, e, _, C, _, _, rfl, .inl ⟨_, rfl, rfl⟩, ob, T.xk C hC, T.kit C hC T.c_NoLine (by simp), _, rfl, e, _, C, _, _, rfl, .inl ⟨_, rfl, rfl⟩, ob, T.xk C hC, T.kit C hC T.c_TooWide (by simp), _, rfl, e, _, C, _, _, rfl, .inl ⟨_, rfl, rfl⟩, ob, T.xk C hC, T.kit C hC T.c_TooDeep (by simp), _, rfl, e, _, C, _, _, rfl, .inl ⟨_, rfl, rfl⟩, ob, T.xk C hC, T.kit C hC T.c_Twice (by simp), by show 4 ≤ sizeLine; decide, fun m5 hm5 => ?_⟩
    generalize em5 : upd H4 m5 (HO.lst _) = M5
    have nm5 : New H4 m5 (.lst (([T.c_NoLine, T.c_TooWide, T.c_TooDeep, T.c_Twice] : List Addr).map fun D => V.bl (decide (C = D)))) M5 := New.of hm5 em5
    refine ⟨l4, m5, _, _, rfl, rfl, nm5.get a4, nm5.at_, by show 20 + 4 ≤ sizeLine; decide, fun l5 hl5 => ?_⟩
    generalize e5 : upd M5 l5 (HO.lst _) = H5
    have n5' : New M5 l5 (.lst (([T.c_NoNumber, T.c_NoWidth, T.c_NoStep, T.c_NoMachine, T.c_NoSeed, T.c_NoPath, T.c_NoPlace, T.c_NoState, T.c_NoHand, T.c_NoName, T.c_NoOrder, T.c_NoSet, T.c_NoShares, T.c_NoShape, T.c_NoRow, T.c_NoPaper, T.c_NoHolder, T.c_NoText, T.c_NoJoin, T.c_NoPlan, T.c_NoLine, T.c_TooWide, T.c_TooDeep, T.c_Twice] : List Addr).map fun D => V.bl (decide (C = D)))) H5 := New.of hl5 e5
    have s5 := (s4.trans nm5.same).trans n5'.same
    have a5 := n5'.at_
    have ob := obs s5
    refine ⟨_, rfl, _, rfl, e, _, C, _, _, rfl, .inl ⟨_, rfl, rfl⟩, ob, T.xk C hC, T.kit C hC T.c_Unknown (by simp), _, rfl, e, _, C, _, _, rfl, .inl ⟨_, rfl, rfl⟩, ob, T.xk C hC, T.kit C hC T.c_TooMany (by simp), _, rfl, e, _, C, _, _, rfl, .inl ⟨_, rfl, rfl⟩, ob, T.xk C hC, T.kit C hC T.c_Spent (by simp), _, rfl, e, _, C, _, _, rfl, .inl ⟨_, rfl, rfl⟩, ob, T.xk C hC, T.kit C hC T.c_NoDepth (by simp), by show 4 ≤ sizeLine; decide, fun m6 hm6 => ?_⟩
    generalize em6 : upd H5 m6 (HO.lst _) = M6
    have nm6 : New H5 m6 (.lst (([T.c_Unknown, T.c_TooMany, T.c_Spent, T.c_NoDepth] : List Addr).map fun D => V.bl (decide (C = D)))) M6 := New.of hm6 em6
    refine ⟨l5, m6, _, _, rfl, rfl, nm6.get a5, nm6.at_, by show 24 + 4 ≤ sizeLine; decide, fun l6 hl6 => ?_⟩
    generalize e6 : upd M6 l6 (HO.lst _) = H6
    have n6' : New M6 l6 (.lst (([T.c_NoNumber, T.c_NoWidth, T.c_NoStep, T.c_NoMachine, T.c_NoSeed, T.c_NoPath, T.c_NoPlace, T.c_NoState, T.c_NoHand, T.c_NoName, T.c_NoOrder, T.c_NoSet, T.c_NoShares, T.c_NoShape, T.c_NoRow, T.c_NoPaper, T.c_NoHolder, T.c_NoText, T.c_NoJoin, T.c_NoPlan, T.c_NoLine, T.c_TooWide, T.c_TooDeep, T.c_Twice, T.c_Unknown, T.c_TooMany, T.c_Spent, T.c_NoDepth] : List Addr).map fun D => V.bl (decide (C = D)))) H6 := New.of hl6 e6
    have s6 := (s5.trans nm6.same).trans n6'.same
    have a6 := n6'.at_
    have ob := obs s6
    refine ⟨_, rfl, _, rfl, e, _, C, _, _, rfl, .inl ⟨_, rfl, rfl⟩, ob, T.xk C hC, T.kit C hC T.c_NoParts (by simp), _, rfl, e, _, C, _, _, rfl, .inl ⟨_, rfl, rfl⟩, ob, T.xk C hC, T.kit C hC T.c_Beyond (by simp), by show 2 ≤ sizeLine; decide, fun m7 hm7 => ?_⟩
    generalize em7 : upd H6 m7 (HO.lst _) = M7
    have nm7 : New H6 m7 (.lst (([T.c_NoParts, T.c_Beyond] : List Addr).map fun D => V.bl (decide (C = D)))) M7 := New.of hm7 em7
    refine ⟨l6, m7, _, _, rfl, rfl, nm7.get a6, nm7.at_, by show 28 + 2 ≤ sizeLine; decide, fun l7 hl7 => ?_⟩
    generalize e7 : upd M7 l7 (HO.lst _) = H7
    have n7' : New M7 l7 (.lst (([T.c_NoNumber, T.c_NoWidth, T.c_NoStep, T.c_NoMachine, T.c_NoSeed, T.c_NoPath, T.c_NoPlace, T.c_NoState, T.c_NoHand, T.c_NoName, T.c_NoOrder, T.c_NoSet, T.c_NoShares, T.c_NoShape, T.c_NoRow, T.c_NoPaper, T.c_NoHolder, T.c_NoText, T.c_NoJoin, T.c_NoPlan, T.c_NoLine, T.c_TooWide, T.c_TooDeep, T.c_Twice, T.c_Unknown, T.c_TooMany, T.c_Spent, T.c_NoDepth, T.c_NoParts, T.c_Beyond] : List Addr).map fun D => V.bl (decide (C = D)))) H7 := New.of hl7 e7
    have s7 := (s6.trans nm7.same).trans n7'.same
    have a7 := n7'.at_
    exact q _ _ a7 s7

end
end K15

set_option Elab.async false
set_option linter.all false
set_option maxRecDepth 100000
set_option maxHeartbeats 4000000
namespace K15
open PySem L2
section
variable {P : Program} {w : World} {K : PySem.W.Frag} {mg : Str → Option Value} {base : Heap}

theorem inV_no {C : Addr} : ∀ {cs : List Addr}, (∀ D ∈ cs, C ≠ D) → inV (.bl true) (cs.map fun D => V.bl (decide (C = D))) = false
  | [], _ => rfl
  | D :: cs, h => by
    have ih := inV_no (cs := cs) fun E hE => h E (List.mem_cons_of_mem _ hE)
    unfold inV at ih ⊢
    rw [List.map_cons, List.any_cons, ih, decide_eq_false (h D List.mem_cons_self)]
    rfl
theorem bl_flat {C : Addr} (cs : List Addr) : (cs.map fun D => V.bl (decide (C = D))).all flatV = true := by
  rw [List.all_map]
  exact List.all_eq_true.mpr fun x _ => rfl
theorem bl_nofl {C : Addr} (cs : List Addr) : ∀ v ∈ (cs.map fun D => V.bl (decide (C = D))), NoFl v := by
  intro v hv
  obtain ⟨D, _, rfl⟩ := List.mem_map.mp hv
  exact trivial
theorem kinds_eq {cs : List Addr} (hn : cs.Nodup) {i : Nat} {C : Addr} (h : cs[i]? = some C) {n : Nat} (hl : cs.length = n) : ((List.range n).map fun (j : Nat) => V.bl (decide (V.int (i : Nat) = V.int (0 + (j : Int))))) = cs.map fun D => V.bl (decide (C = D)) := by
  subst hl
  apply List.ext_getElem?
  intro j
  rw [List.getElem?_map, List.getElem?_map]
  rcases Nat.lt_or_ge j cs.length with c | c
  · rw [List.getElem?_range c, List.getElem?_eq_getElem c]
    show some (V.bl _) = some (V.bl _)
    congr 2
    obtain ⟨hi, e⟩ := List.getElem?_eq_some_iff.mp h
    by_cases z : i = j
    · subst z
      rw [decide_eq_true (by rw [Int.zero_add]), decide_eq_true e.symm]
    · rw [decide_eq_false (fun w => z (by have := V.int.inj w; omega)), decide_eq_false]
      intro w
      rcases Nat.lt_or_gt_of_ne z with l | l
      · exact List.pairwise_iff_getElem.mp hn i j hi c l (e.trans w)
      · exact List.pairwise_iff_getElem.mp hn j i c hi l (w.symm.trans e.symm)
  · rw [List.getElem?_eq_none (by rw [List.length_range]; exact c), List.getElem?_eq_none c]
    rfl
theorem ok_law (T : Tx K mg) : FnOk P w K mg base CX0 6 T.a_law T.fd_law ["_law_script"] (spLaw K) := by
  have G_SeedError_i := ok_SeedError_i (P := P) (w := w) (base := base) T
  have G_L_kinds := ok_L_kinds (P := P) (w := w) (base := base) T
  have G_L_cell_at := ok_L_cell_at (P := P) (w := w) (base := base) T
  have G_L_box := ok_L_box (P := P) (w := w) (base := base) T
  have G_L_thing := ok_L_thing (P := P) (w := w) (base := base) T
  have G_L_made := ok_L_made (P := P) (w := w) (base := base) T
  have G_L_same := ok_L_same (P := P) (w := w) (base := base) T
  refine T.F_law.ok sc_law (fun vs H Q E h => ?_) (fun cdv A outer s H vs Q E hr h => ?_)
  · obtain ⟨a, ns, rfl, _⟩ := h
    rfl
  · obtain ⟨a, ns, rfl, hS, hlen, q⟩ := h
    refine ⟨_, QSs.go (qss_cons (qs_set (i := 1) sc_law.nd rfl (Or.inl rfl) (qe_xmake T.S_SeedError T.i_SeedError T.t_SeedError T.k_SeedError G_SeedError_i (hr.mono (by decide)) (by rfl) T.mc_SeedError T.b_SeedError_i .nil pass0 (qa_cons qe_str qa_nil)))
      (qss_cons (qs_if (QW.pt (qw_or (qt_not (qt_val (qe_callB call_isiE (by rfl) T.n_isinstance (by decide +kernel) (qa_cons (qv 1) (qa_cons (qe_bltn (v := .ty "ValueError") (by rfl) T.n_ValueError (by decide +kernel) rfl) qa_nil))))) (qw_or1 (qt_cmpR op_in_seq qe_bl (qe_call G_L_kinds (hr.mono (by decide)) (by rfl) T.m_L_kinds T.F_L_kinds.kp T.b_L_kinds .nil pass0 (qa_cons (qv 1) qa_nil)) (by rfl))))) (qss_one (qs_ret qe_bl)) qss_nil)
      (qss_cons (qs_for PassesOwn.never rfl (qi_range1 (by rfl) T.n_range (qa_cons (qe_callB (call_max2 rfl) (by rfl) T.n_max (by decide +kernel) (qa_cons qe_int (qa_cons (qe_callB (call_min2 rfl) (by rfl) T.n_min (by decide +kernel) (qa_cons qe_int (qa_cons (qe_callB call_len_seq (by rfl) T.n_len (by decide +kernel) (qa_cons (qv 0) qa_nil)) qa_nil))) qa_nil))) qa_nil)) (qg_name (i := 2) sc_law.nd rfl (Or.inl rfl)) (qss_cons (qs_set (i := 3) sc_law.nd rfl (Or.inl rfl) (qe_call G_L_box (hr.mono (by decide)) (by rfl) T.m_L_box T.F_L_box.kp T.b_L_box .nil pass0 (qa_cons (qe_call G_L_cell_at (hr.mono (by decide)) (by rfl) T.m_L_cell_at T.F_L_cell_at.kp T.b_L_cell_at .nil pass0 (qa_cons (qv 0) (qa_cons (qv 2) qa_nil))) qa_nil)))
        (qss_cons (qs_set (i := 4) sc_law.nd rfl (Or.inl rfl) (qe_call G_L_made (hr.mono (by decide)) (by rfl) T.m_L_made T.F_L_made.kp T.b_L_made .nil pass0 (qa_cons (qe_call G_L_thing (hr.mono (by decide)) (by rfl) T.m_L_thing T.F_L_thing.kp T.b_L_thing .nil pass0 (qa_cons (qv 3) qa_nil)) (qa_cons (qe_call G_L_thing (hr.mono (by decide)) (by rfl) T.m_L_thing T.F_L_thing.kp T.b_L_thing .nil pass0 (qa_cons (qv 3) qa_nil)) qa_nil))))
        (qss_one (qs_for PassesOwn.never rfl (qi_enG (by rfl) T.n_enumerate (qa_cons (qv 4) qa_nil)) (qg_tup (by rfl) (qgs_cons (qg_name (i := 5) sc_law.nd rfl (Or.inr rfl)) (qgs_cons (qg_tup (by rfl) (qgs_cons (qg_name (i := 6) sc_law.nd rfl (Or.inl rfl)) (qgs_cons (qg_name (i := 7) sc_law.nd rfl (Or.inl rfl)) (qgs_cons (qg_name (i := 8) sc_law.nd rfl (Or.inl rfl)) qgs_nil)))) qgs_nil))) (qss_cons (qs_if (QW.pt (qw_or (qt_not (qt_val (qe_callB call_isiE (by rfl) T.n_isinstance (by decide +kernel) (qa_cons (qv 6) (qa_cons (qe_glob (v := .ref T.c_SeedError) (by rfl) T.mc_SeedError rfl) qa_nil))))) (qw_or1 (qt_not (qt_val (qe_callB call_isiE (by rfl) T.n_isinstance (by decide +kernel) (qa_cons (qv 6) (qa_cons (qe_bltn (v := .ty "ValueError") (by rfl) T.n_ValueError (by decide +kernel) rfl) qa_nil)))))))) (qss_one (qs_ret qe_bl)) qss_nil)
          (qss_cons (qs_if (QW.pt (qw_or (qt_cmpR (op_neM hr.units) (qe_call G_L_kinds (hr.mono (by decide)) (by rfl) T.m_L_kinds T.F_L_kinds.kp T.b_L_kinds .nil pass0 (qa_cons (qv 6) qa_nil)) (qe_lcK (own := [("_law_j", 9)]) (by rfl) sc_law.nd (qi_range1 (by rfl) T.n_range (qa_cons qe_int qa_nil)) (blkOk_by (own := [("_law_j", 9)]) (N := ["_law_script", "_law_plain", "_law_k", "_law_box_here", "_law_some", "_law_at", "_law_e", "_law_found", "_law_due", "_law_j", "_law_one", "_law_other"]) (sc := defScope s_law) (by decide +kernel)) (fun _ _ _ _ _ => qg_name (i := 9) sc_law.nd rfl (Or.inl rfl)) (fun _ _ _ _ _ => qts_nil) (fun _ _ _ _ _ => (qe_cmpR op_eq (qv 5) (qv 9) (nomark _)))) (nomark _)) (qw_or1 (qt_cmpR op_ne (qe_callB call_len_seq (by rfl) T.n_len (by decide +kernel) (qa_cons (qv 4) qa_nil)) qe_int (nomark _))))) (qss_one (qs_ret qe_bl)) qss_nil)
          (qss_one (qs_if (qt_not (qt_val (qe_callB (cr_all rfl) (by rfl) T.n_all (by decide +kernel) (qa_cons (qe_lcK (own := [("_law_one", 10), ("_law_other", 11)]) (by rfl) sc_law.nd (qi_zipG (by rfl) T.n_zip (qa_cons (qv 7) (qa_cons (qv 8) qa_nil))) (blkOk_by (own := [("_law_one", 10), ("_law_other", 11)]) (N := ["_law_script", "_law_plain", "_law_k", "_law_box_here", "_law_some", "_law_at", "_law_e", "_law_found", "_law_due", "_law_j", "_law_one", "_law_other"]) (sc := defScope s_law) (by decide +kernel)) (fun _ _ _ _ _ => qg_tup (by rfl) (qgs_cons (qg_name (i := 10) sc_law.nd rfl (Or.inl rfl)) (qgs_cons (qg_name (i := 11) sc_law.nd rfl (Or.inl rfl)) qgs_nil))) (fun _ _ _ _ _ => qts_nil) (fun _ _ _ _ _ => (qe_call G_L_same (hr.mono (by decide)) (by rfl) T.m_L_same T.F_L_same.kp T.b_L_same .nil pass0 (qa_cons (qv 10) (qa_cons (qv 11) qa_nil))))) qa_nil)))) (qss_one (qs_ret qe_bl)) qss_nil)))))))))
      (qss_one (qs_ret qe_bl))))), ?_⟩

    have hnd := T.nodup
    have hnd30 : ([T.c_NoNumber, T.c_NoWidth, T.c_NoStep, T.c_NoMachine, T.c_NoSeed, T.c_NoPath, T.c_NoPlace, T.c_NoState, T.c_NoHand, T.c_NoName, T.c_NoOrder, T.c_NoSet, T.c_NoShares, T.c_NoShape, T.c_NoRow, T.c_NoPaper, T.c_NoHolder, T.c_NoText, T.c_NoJoin, T.c_NoPlan, T.c_NoLine, T.c_TooWide, T.c_TooDeep, T.c_Twice, T.c_Unknown, T.c_TooMany, T.c_Spent, T.c_NoDepth, T.c_NoParts, T.c_Beyond] : List Addr).Nodup := (List.nodup_cons.mp hnd).2
    have hS0 : ∀ D ∈ ([T.c_NoNumber, T.c_NoWidth, T.c_NoStep, T.c_NoMachine, T.c_NoSeed, T.c_NoPath, T.c_NoPlace, T.c_NoState, T.c_NoHand, T.c_NoName, T.c_NoOrder, T.c_NoSet, T.c_NoShares, T.c_NoShape, T.c_NoRow, T.c_NoPaper, T.c_NoHolder, T.c_NoText, T.c_NoJoin, T.c_NoPlan, T.c_NoLine, T.c_TooWide, T.c_TooDeep, T.c_Twice, T.c_Unknown, T.c_TooMany, T.c_Spent, T.c_NoDepth, T.c_NoParts, T.c_Beyond] : List Addr), T.c_SeedError ≠ D := fun D hD z => (List.nodup_cons.mp hnd).1 (by rw [z]; exact hD)
    refine ⟨(by show 1 ≤ 100; decide), fun pl hpl => ⟨pl, T.c_SeedError, _, rfl, upd_same, T.S_SeedError, rfl, ?_⟩⟩
    generalize eP : upd H pl (ExN pl T.c_SeedError) = HP
    have nP := New.of hpl eP
    refine ⟨_, rfl, pl, _, T.c_SeedError, _, _, rfl, .inr ⟨_, rfl, rfl⟩, .inl nP.at_, T.xk _ List.mem_cons_self, T.kitV _ List.mem_cons_self, _, rfl, iteF ?_⟩
    refine ⟨_, rfl, pl, T.c_SeedError, rfl, List.mem_cons_self, .inl nP.at_, fun lk H0 hlk s0 => ⟨lk, _, rfl, .inl (SqL.of hlk), rfl, bl_flat _, _, rfl, ?_⟩⟩
    rw [inV_no hS0]
    refine iteF ?_
    have s00 : Same H H0 := nP.same.trans s0
    have xk := T.xk
    have kit := T.kit
    have kitS := T.kitS
    have kitV := T.kitV
    generalize hcs : ([T.c_NoNumber, T.c_NoWidth, T.c_NoStep, T.c_NoMachine, T.c_NoSeed, T.c_NoPath, T.c_NoPlace, T.c_NoState, T.c_NoHand, T.c_NoName, T.c_NoOrder, T.c_NoSet, T.c_NoShares, T.c_NoShape, T.c_NoRow, T.c_NoPaper, T.c_NoHolder, T.c_NoText, T.c_NoJoin, T.c_NoPlan, T.c_NoLine, T.c_TooWide, T.c_TooDeep, T.c_Twice, T.c_Unknown, T.c_TooMany, T.c_Spent, T.c_NoDepth, T.c_NoParts, T.c_Beyond] : List Addr) = cs at *
    have hcl : cs.length = 30 := by rw [← hcs]; rfl
    refine ⟨_, rfl, a, _, rfl, .inl (s00.seq hS), _, _, rfl, _, _, rfl, _, rfl, ?b1, ?b2, for_range (lo := 0) (fun i σ H' => ∃ v1 v2 v3 v4 v5 v6 v7 v8 v9 v10 v11, σ = [some (.ref a), v1, v2, v3, v4, v5, v6, v7, v8, v9, v10, v11] ∧ Same H H') ⟨_, _, _, _, _, _, _, _, _, _, _, rfl, s00⟩ ?turn ?done⟩
    case b1 => split <;> (try split) <;> omega
    case b2 => rw [List.length_map]; split <;> (try split) <;> omega
    case done =>
      rintro σ H1 ⟨v1, v2, v3, v4, v5, v6, v7, v8, v9, v10, v11, rfl, s1⟩
      exact q _
    case turn =>
      rintro i0 σ H1 hi0 ⟨v1, v2, v3, v4, v5, v6, v7, v8, v9, v10, v11, rfl, s1⟩
      refine ⟨_, rfl, _, rfl, a, ns, _, rfl, s1.seq hS, by omega, fun c => ⟨c, rfl, fun p H2 hp b2 s12 => ?_⟩⟩
      have s2 : Same H H2 := s1.trans s12
      have hpH : H p = none := s1.free hp
      refine ⟨_, rfl, p, rfl, b2, fun one H3 t1 f1 b3 k3 => ⟨_, rfl, p, rfl, b3, fun other H4 t2 f2 b4 k4 => ?_⟩⟩
      have hdist : ∀ x, one = .ref x → other ≠ .ref x := fun x e z => by
        have h3 := (f2 x z).1
        subst e
        exact t1.some h3
      have t1 : Tg 0 H4 one := t1.to fun x o e h => k4 _ _ h (f1 x e).2
      obtain ⟨S, eS⟩ : ∃ S : Addr → Prop, S = fun x => one = .ref x ∨ other = .ref x := ⟨_, rfl⟩
      have hSt : St1 S H4 := by
        rw [eS]
        rintro x (z | z)
        · rw [z] at t1
          exact t1.some
        · rw [z] at t2
          exact t2.some
      have s4 : Same H H4 := (s2.keep hpH k3).keep hpH k4
      have hSH : ∀ x, S x → H x = none := by
        rw [eS]
        rintro x (z | z)
        · exact s2.free (f1 x z).1
        · exact (s2.keep hpH k3).free (f2 x z).1
      refine ⟨S, one, other, rfl, hSt, fun l ps H5 hlf pp hl5 s5 => ?_⟩
      have hSl : ¬ S l := hSt.no hlf
      have t1 : Tg 0 H5 one := t1.to fun x o e h => s5 _ _ h
      have t2 : Tg 0 H5 other := t2.to fun x o e h => s5 _ _ h
      have hpl30 := Paired.length pp
      refine ⟨_, rfl, true, l, _, rfl, SqL.of hl5, for_enG (K := K) (xs := ps) (fun i σ H' => ∃ v1 v2 v3 v5 v6 v7 v8 v9 v10 v11, σ = [some (.ref a), v1, v2, v3, some (.ref l), v5, v6, v7, v8, v9, v10, v11] ∧ Tg (2 * i) H' one ∧ Tg (2 * i) H' other ∧ Paired (PrT S one other H') ps cs ∧ H' l = some (.lst ps) ∧ Same H H') ⟨_, _, _, _, _, _, _, _, _, _, rfl, t1, t2, pp, hl5, s4.trans s5⟩ (fun i σ H' _ ⟨_, _, _, _, _, _, _, _, _, _, _, _, _, _, h, _⟩ => SqL.of h) ?_ ?_⟩
      rotate_left
      · rintro σ G ⟨v1, v2, v3, v5, v6, v7, v8, v9, v10, v11, rfl, _, _, _, _, sG⟩
        exact ⟨_, _, _, _, _, _, _, _, _, _, _, rfl, sG⟩
      rintro i y T1 σ G ey ⟨v1, v2, v3, v5, v6, v7, v8, v9, v10, v11, rfl, g1, g2, pp, hlG, sG⟩ hT1
      obtain ⟨C, eC, t, e, f, d, fs, xs, rfl, ht, xa, hf, hd, hxs, nt, nf, nd⟩ := pairedAt' pp ey
      have hC := List.mem_of_getElem? eC
      have hC' : C ∈ T.c_SeedError :: cs := List.mem_cons_of_mem _ hC
      have hi30 : i < 30 := by rw [← hcl]; exact (List.getElem?_eq_some_iff.mp eC).1
      have sT : Same G (upd G T1 (.tup [.int (i : Nat), .ref t])) := Same.old hT1
      generalize eT : upd G T1 (.tup [.int (i : Nat), .ref t]) = GT at sT
      have hTT : GT T1 = some (.tup [.int (i : Nat), .ref t]) := by rw [← eT]; exact upd_same
      refine ⟨T1, _, rfl, SqT.of hTT, rfl, _, _, rfl, _, _, rfl, t, _, rfl, SqT.of (sT _ _ ht), rfl, _, _, rfl, _, _, rfl, _, _, rfl, rfl, rfl, ?_⟩
      have obs : ∀ {G' : Hp}, Same GT G' → (G' e = some (ExN e C) ∨ ∃ dx fs, G' e = some (ExF e C dx) ∧ G' dx = some (XdE dx fs)) := fun s => by
        obtain ⟨dx, x1, x2, _, _⟩ := xa
        exact .inr ⟨dx, fs, s _ _ (sT _ _ x1), s _ _ (sT _ _ x2)⟩
      have ob := obs (Same.refl GT)
      refine ⟨_, rfl, e, _, C, _, _, rfl, .inl ⟨_, rfl, rfl⟩, ob, xk C hC', kitS C hC, _, rfl, iteF ⟨_, rfl, e, _, C, _, _, rfl, .inr ⟨_, rfl, rfl⟩, ob, xk C hC', kitV C hC', _, rfl, iteF ?_⟩⟩
      refine ⟨_, rfl, e, C, rfl, hC', ob, fun l1 G1 hl1 sG1 => ?_⟩
      refine ⟨_, rfl, by decide, by decide, fun D hD => lc_range (lo := 0) (fun j H' => New G1 D (.lst ((List.range j).map fun (j : Nat) => V.bl (decide (V.int (i : Nat) = V.int (0 + (j : Int)))))) H') (New.of hD rfl) ?ct ?cd⟩
      case ct =>
        intro j H' hj n2
        refine fun _ _ _ _ _ => ⟨rfl, fun _ _ _ _ _ => yes_if (fun _ _ _ _ _ => ⟨_, rfl, _, rfl, rfl, _, n2.at_, ?_, ?_⟩)⟩
        · rw [List.length_map, List.length_range]
          have hj : j < 30 := hj
          exact small1000 (by omega)
        · rw [List.range_succ, List.map_append]
          exact n2.reset
      case cd =>
        intro G2 n2
        have n2 : New G1 D (.lst ((List.range 30).map fun (j : Nat) => V.bl (decide (V.int (i : Nat) = V.int (0 + (j : Int)))))) G2 := n2
        rw [kinds_eq hnd30 eC hcl] at n2
        refine .inr (.inr ⟨l1, D, _, rfl, rfl, SqL.of (n2.get hl1), SqL.of n2.at_, bl_nofl _, _, rfl, iteF ?_⟩)
        have s2G : Same G G2 := (sT.trans sG1).trans n2.same
        refine ⟨_, rfl, l, _, rfl, .inl (SqL.of (s2G _ _ hlG)), ?_⟩
        rw [hpl30, hcl]
        refine ⟨rfl, _, rfl, neF rfl ?_⟩
        have hf2 := s2G _ _ hf
        have hd2 := s2G _ _ hd
        have g1 : Tg (2 * i + 0) G2 one := g1.to fun x o e h => s2G _ _ h
        have g2 : Tg (2 * i + 0) G2 other := g2.to fun x o e h => s2G _ _ h
        have hxl : xs.length ≤ 2 := by
          rcases hxs with rfl | rfl
          · show 1 ≤ 2
            decide
          · show 2 ≤ 2
            decide
        have hxm : ∀ x ∈ xs, x = one ∨ x = other := by
          rcases hxs with rfl | rfl
          · intro x hx
            exact .inl (List.mem_singleton.mp hx)
          · intro x hx
            simpa using hx
        have hSG : St1 S G2 := by
          intro x hx z
          rw [eS] at hx
          rcases hx with w | w
          · rw [w] at g1; exact g1.some z
          · rw [w] at g2; exact g2.some z
        refine ⟨_, rfl, _, rfl, true, true, f, d, xs, xs, rfl, SqL.of hf2, SqL.of hd2, fun D2 hD2 => lc_zipG (K := K) (xs := xs) (ys := xs) (fun j H' => H' D2 = some (.lst ((List.replicate j true).map V.bl)) ∧ KeepS S G2 H' ∧ Tg (2 * i + j) H' one ∧ Tg (2 * i + j) H' other) ⟨upd_same, (Same.old hD2).keepS, g1.to fun x o e h => Same.old hD2 _ _ h, g2.to fun x o e h => Same.old hD2 _ _ h⟩ (fun j H' _ nn => ⟨SqL.of (nn.2.1 _ _ hf2 nf), SqL.of (nn.2.1 _ _ hd2 nd)⟩) ?zt ?zd⟩
        case zt =>
          rintro j x y t2 M ex ey2 ⟨hD2M, kM, m1, m2⟩ ht2
          rw [ex] at ey2
          obtain rfl := Option.some.inj ey2
          have hj := (List.getElem?_eq_some_iff.mp ex).1
          have hD2S : ¬ S D2 := hSG.no hD2
          have sN : Same M (upd M t2 (.tup [x, x])) := Same.old ht2
          generalize eN : upd M t2 (.tup [x, x]) = N at sN
          have hN : N t2 = some (.tup [x, x]) := by rw [← eN]; exact upd_same
          have m1 : Tg (2 * i + j) N one := m1.to fun x o e h => sN _ _ h
          have m2 : Tg (2 * i + j) N other := m2.to fun x o e h => sN _ _ h
          have mx : Tg (2 * i + j) N x := by
            rcases hxm x (List.mem_of_getElem? ex) with rfl | rfl
            · exact m1
            · exact m2
          refine fun _ _ _ _ _ => ⟨t2, _, rfl, SqT.of hN, rfl, _, _, rfl, _, _, rfl, rfl, rfl, fun _ _ _ _ _ => yes_if (fun _ _ _ _ _ => ?_)⟩
          refine ⟨_, rfl, _, rfl, 2 * i + j, x, rfl, by omega, mx, fun N2 mx2 kv => ?_⟩
          have hxS : ∀ b, x = .ref b → S b := by
            rw [eS]
            intro b hb
            rcases hxm x (List.mem_of_getElem? ex) with rfl | rfl
            · exact .inl hb
            · exact .inr hb
          have kS : KeepS S N N2 := fun b o h n => kv b o h (fun z => n (hxS b z))
          have hD2N := kS _ _ (sN _ _ hD2M) hD2S
          refine ⟨_, hD2N, ?_, ?_, ?_, ?_, ?_⟩
          · rw [List.length_map, List.length_replicate]
            exact small1000 (by omega)
          · rw [upd_same, rep_snoc]
          · intro b o h n
            have hbD : b ≠ D2 := ne_of_none h hD2
            rw [upd_ne hbD]
            exact kS _ _ (sN _ _ (kM _ _ h n)) n
          · have r : Tg (2 * i + (j + 1)) N2 one := by
              rcases hxm x (List.mem_of_getElem? ex) with rfl | rfl
              · exact mx2
              · exact (m1.to fun b o e h => kv _ _ h (fun z => hdist b e z)).mono (by omega)
            exact r.to fun b o e h => by
              have hbS : S b := by rw [eS]; exact .inl e
              rw [upd_ne (fun z => hD2S (by rw [← z]; exact hbS))]
              exact h
          · have r : Tg (2 * i + (j + 1)) N2 other := by
              rcases hxm x (List.mem_of_getElem? ex) with rfl | rfl
              · exact (m2.to fun b o e h => kv _ _ h (fun z => hdist b z e)).mono (by omega)
              · exact mx2
            exact r.to fun b o e h => by
              have hbS : S b := by rw [eS]; exact .inr e
              rw [upd_ne (fun z => hD2S (by rw [← z]; exact hbS))]
              exact h
        case zd =>
          rintro M ⟨hD2M, kM, m1, m2⟩
          refine ⟨D2, _, rfl, SqL.of hD2M, ?_⟩
          rw [all_rep]
          refine ⟨_, rfl, iteF ?_⟩
          have hmin : min xs.length xs.length ≤ 2 := by omega
          refine ⟨_, _, _, _, _, _, _, _, _, _, rfl, m1.mono (by omega), m2.mono (by omega), pr_imp (fun _ _ => PrT.keep fun b o h n => kM _ _ (s2G _ _ h) n) pp, kM _ _ (s2G _ _ hlG) hSl, fun b o h => ?_⟩
          exact kM _ _ (s2G _ _ (sG _ _ h)) (fun z => by rw [hSH b z] at h; cases h)

end
end K15

set_option Elab.async false
set_option linter.all false
set_option maxRecDepth 100000
set_option maxHeartbeats 4000000
namespace K15
open PySem L2

def XC0 (K : PySem.W.Frag) (C : Addr) (l : List Addr) : Prop := (∃ cd dd sl, K.lookup C = some ⟨.type "type", cd, .cls dd, sl⟩) ∧ ∀ b, PySem.W.mroIn K C b = some ((Value.ref C :: (l.map Value.ref ++ vMro)).contains b)
theorem xc_of {K : PySem.W.Frag} {C N : Addr} {nm q : Str} {bs : List Value} {l : List Addr} {sn : List Str} {sub : List Value} {ab : Bool} {col : Option Bool} {dd : Option Addr} {k0 k1 k2 k3 k5 : Option Value}
    (lk : K.lookup C = some (PySem.excClassObj nm q C N bs (l.map Value.ref ++ vMro) true sn sub ab col dd k0 k1 k2 k3 k5 vNew)) : XC0 K C l := by
  refine ⟨⟨_, _, _, lk⟩, fun b => ?_⟩
  unfold PySem.W.mroIn PySem.W.clsIn
  rw [lk]
  rfl
theorem vMro_no (D : Addr) : vMro.contains (Value.ref D) = false := by
  unfold vMro
  simp
theorem vMro_val : vMro.contains (Value.type "ValueError") = true := by decide
theorem kits_of {K : PySem.W.Frag} {S : Addr} {cs : List Addr} (hS : XC0 K S []) (h : ∀ C ∈ cs, XC0 K C [S]) (nd : (S :: cs).Nodup) :
    (∀ C ∈ S :: cs, ∀ D ∈ cs, PySem.W.kitOne K (.ref C) (.ref D) = some (decide (C = D))) ∧ (∀ C ∈ cs, PySem.W.kitOne K (.ref C) (.ref S) = some true) ∧ ∀ C ∈ S :: cs, PySem.W.kitOne K (.ref C) (.type "ValueError") = some true := by
  have ns := (List.nodup_cons.mp nd).1
  refine ⟨fun C hC D hD => ?_, fun C hC => ?_, fun C hC => ?_⟩
  · by_cases z : C = D
    · subst z
      rw [decide_eq_true rfl]
      exact kit_self
    · rw [decide_eq_false z]
      obtain ⟨⟨cd, dd, sl, lk⟩, _⟩ := h D hD
      have hDS : D ≠ S := fun w => ns (by rw [← w]; exact hD)
      refine kit_ref z lk ?_
      rcases List.mem_cons.mp hC with rfl | hC
      · show PySem.W.mroIn K C (.ref D) = _
        rw [hS.2]
        have := vMro_no D
        simp only [List.map_nil, List.nil_append, List.contains_cons, this, Bool.or_false]
        congr 1
        simpa using fun w => hDS w
      · show PySem.W.mroIn K C (.ref D) = _
        rw [(h C hC).2]
        have := vMro_no D
        simp only [List.map_cons, List.map_nil, List.cons_append, List.nil_append, List.contains_cons, this, Bool.or_false]
        congr 1
        simp [hDS]
        exact fun w => z w.symm
  · obtain ⟨⟨cd, dd, sl, lk⟩, _⟩ := hS
    refine kit_ref (fun w => ns (by rw [← w]; exact hC)) lk ?_
    show PySem.W.mroIn K C (.ref S) = _
    rw [(h C hC).2]
    simp
  · refine kit_ty (by decide +kernel) ?_
    show PySem.W.mroIn K C (.type "ValueError") = _
    rcases List.mem_cons.mp hC with rfl | hC
    · rw [hS.2]
      have := vMro_val
      simp only [List.map_nil, List.nil_append, List.contains_cons, this, Bool.or_true]
    · rw [(h C hC).2]
      have := vMro_val
      simp only [List.map_cons, List.map_nil, List.cons_append, List.nil_append, List.contains_cons, this, Bool.or_true]
theorem all_mk {l : PySem.W.OpenLaw} {w : World} {K : PySem.W.Frag} {h : Heap} {mg : Str → Option Value} {fa : Addr} (X : K.In h) (G : h.Ns mainGlobals mg) (hfa : mg "law" = some (.ref fa))
    {c_SeedError N_SeedError : Addr} {nm_SeedError q_SeedError : Str} {bs_SeedError sub_SeedError : List Value} {sn_SeedError : List Str} {ab_SeedError : Bool} {col_SeedError : Option Bool} {dd_SeedError : Option Addr} {k0_SeedError k1_SeedError k2_SeedError k3_SeedError k5_SeedError : Option Value} (mc_SeedError : PySem.W.nsIn K mainGlobals "SeedError" = some (some (.ref c_SeedError)))
    (lk_SeedError : K.lookup c_SeedError = some (PySem.excClassObj nm_SeedError q_SeedError c_SeedError N_SeedError bs_SeedError (([] : List Addr).map Value.ref ++ vMro) true sn_SeedError sub_SeedError ab_SeedError col_SeedError dd_SeedError k0_SeedError k1_SeedError k2_SeedError k3_SeedError k5_SeedError vNew)) (kc_SeedError : PySem.W.keepIn K (.ref c_SeedError) = true) (sa_SeedError : PySem.W.findIn K (.ref c_SeedError) "__setattr__" = some (some (.builtin "object.__setattr__"))) (ga_SeedError : PySem.W.findIn K (.ref c_SeedError) "__getattribute__" = some (some (.builtin bGa))) (gt_SeedError : PySem.W.findIn K (.ref c_SeedError) "__getattr__" = some none)
    {c_NoNumber N_NoNumber : Addr} {nm_NoNumber q_NoNumber : Str} {bs_NoNumber sub_NoNumber : List Value} {sn_NoNumber : List Str} {ab_NoNumber : Bool} {col_NoNumber : Option Bool} {dd_NoNumber : Option Addr} {k0_NoNumber k1_NoNumber k2_NoNumber k3_NoNumber k5_NoNumber : Option Value} (mc_NoNumber : PySem.W.nsIn K mainGlobals "NoNumber" = some (some (.ref c_NoNumber)))
    (lk_NoNumber : K.lookup c_NoNumber = some (PySem.excClassObj nm_NoNumber q_NoNumber c_NoNumber N_NoNumber bs_NoNumber (([c_SeedError] : List Addr).map Value.ref ++ vMro) true sn_NoNumber sub_NoNumber ab_NoNumber col_NoNumber dd_NoNumber k0_NoNumber k1_NoNumber k2_NoNumber k3_NoNumber k5_NoNumber vNew)) (kc_NoNumber : PySem.W.keepIn K (.ref c_NoNumber) = true) (sa_NoNumber : PySem.W.findIn K (.ref c_NoNumber) "__setattr__" = some (some (.builtin "object.__setattr__"))) (ga_NoNumber : PySem.W.findIn K (.ref c_NoNumber) "__getattribute__" = some (some (.builtin bGa))) (gt_NoNumber : PySem.W.findIn K (.ref c_NoNumber) "__getattr__" = some none)
    {c_NoWidth N_NoWidth : Addr} {nm_NoWidth q_NoWidth : Str} {bs_NoWidth sub_NoWidth : List Value} {sn_NoWidth : List Str} {ab_NoWidth : Bool} {col_NoWidth : Option Bool} {dd_NoWidth : Option Addr} {k0_NoWidth k1_NoWidth k2_NoWidth k3_NoWidth k5_NoWidth : Option Value} (mc_NoWidth : PySem.W.nsIn K mainGlobals "NoWidth" = some (some (.ref c_NoWidth)))
    (lk_NoWidth : K.lookup c_NoWidth = some (PySem.excClassObj nm_NoWidth q_NoWidth c_NoWidth N_NoWidth bs_NoWidth (([c_SeedError] : List Addr).map Value.ref ++ vMro) true sn_NoWidth sub_NoWidth ab_NoWidth col_NoWidth dd_NoWidth k0_NoWidth k1_NoWidth k2_NoWidth k3_NoWidth k5_NoWidth vNew)) (kc_NoWidth : PySem.W.keepIn K (.ref c_NoWidth) = true) (sa_NoWidth : PySem.W.findIn K (.ref c_NoWidth) "__setattr__" = some (some (.builtin "object.__setattr__"))) (ga_NoWidth : PySem.W.findIn K (.ref c_NoWidth) "__getattribute__" = some (some (.builtin bGa))) (gt_NoWidth : PySem.W.findIn K (.ref c_NoWidth) "__getattr__" = some none)
    {c_NoStep N_NoStep : Addr} {nm_NoStep q_NoStep : Str} {bs_NoStep sub_NoStep : List Value} {sn_NoStep : List Str} {ab_NoStep : Bool} {col_NoStep : Option Bool} {dd_NoStep : Option Addr} {k0_NoStep k1_NoStep k2_NoStep k3_NoStep k5_NoStep : Option Value} (mc_NoStep : PySem.W.nsIn K mainGlobals "NoStep" = some (some (.ref c_NoStep)))
    (lk_NoStep : K.lookup c_NoStep = some (PySem.excClassObj nm_NoStep q_NoStep c_NoStep N_NoStep bs_NoStep (([c_SeedError] : List Addr).map Value.ref ++ vMro) true sn_NoStep sub_NoStep ab_NoStep col_NoStep dd_NoStep k0_NoStep k1_NoStep k2_NoStep k3_NoStep k5_NoStep vNew)) (kc_NoStep : PySem.W.keepIn K (.ref c_NoStep) = true) (sa_NoStep : PySem.W.findIn K (.ref c_NoStep) "__setattr__" = some (some (.builtin "object.__setattr__"))) (ga_NoStep : PySem.W.findIn K (.ref c_NoStep) "__getattribute__" = some (some (.builtin bGa))) (gt_NoStep : PySem.W.findIn K (.ref c_NoStep) "__getattr__" = some none)
    {c_NoMachine N_NoMachine : Addr} {nm_NoMachine q_NoMachine : Str} {bs_NoMachine sub_NoMachine : List Value} {sn_NoMachine : List Str} {ab_NoMachine : Bool} {col_NoMachine : Option Bool} {dd_NoMachine : Option Addr} {k0_NoMachine k1_NoMachine k2_NoMachine k3_NoMachine k5_NoMachine : Option Value} (mc_NoMachine : PySem.W.nsIn K mainGlobals "NoMachine" = some (some (.ref c_NoMachine)))
    (lk_NoMachine : K.lookup c_NoMachine = some (PySem.excClassObj nm_NoMachine q_NoMachine c_NoMachine N_NoMachine bs_NoMachine (([c_SeedError] : List Addr).map Value.ref ++ vMro) true sn_NoMachine sub_NoMachine ab_NoMachine col_NoMachine dd_NoMachine k0_NoMachine k1_NoMachine k2_NoMachine k3_NoMachine k5_NoMachine vNew)) (kc_NoMachine : PySem.W.keepIn K (.ref c_NoMachine) = true) (sa_NoMachine : PySem.W.findIn K (.ref c_NoMachine) "__setattr__" = some (some (.builtin "object.__setattr__"))) (ga_NoMachine : PySem.W.findIn K (.ref c_NoMachine) "__getattribute__" = some (some (.builtin bGa))) (gt_NoMachine : PySem.W.findIn K (.ref c_NoMachine) "__getattr__" = some none)
    {c_NoSeed N_NoSeed : Addr} {nm_NoSeed q_NoSeed : Str} {bs_NoSeed sub_NoSeed : List Value} {sn_NoSeed : List Str} {ab_NoSeed : Bool} {col_NoSeed : Option Bool} {dd_NoSeed : Option Addr} {k0_NoSeed k1_NoSeed k2_NoSeed k3_NoSeed k5_NoSeed : Option Value} (mc_NoSeed : PySem.W.nsIn K mainGlobals "NoSeed" = some (some (.ref c_NoSeed)))
    (lk_NoSeed : K.lookup c_NoSeed = some (PySem.excClassObj nm_NoSeed q_NoSeed c_NoSeed N_NoSeed bs_NoSeed (([c_SeedError] : List Addr).map Value.ref ++ vMro) true sn_NoSeed sub_NoSeed ab_NoSeed col_NoSeed dd_NoSeed k0_NoSeed k1_NoSeed k2_NoSeed k3_NoSeed k5_NoSeed vNew)) (kc_NoSeed : PySem.W.keepIn K (.ref c_NoSeed) = true) (sa_NoSeed : PySem.W.findIn K (.ref c_NoSeed) "__setattr__" = some (some (.builtin "object.__setattr__"))) (ga_NoSeed : PySem.W.findIn K (.ref c_NoSeed) "__getattribute__" = some (some (.builtin bGa))) (gt_NoSeed : PySem.W.findIn K (.ref c_NoSeed) "__getattr__" = some none)
    {c_NoPath N_NoPath : Addr} {nm_NoPath q_NoPath : Str} {bs_NoPath sub_NoPath : List Value} {sn_NoPath : List Str} {ab_NoPath : Bool} {col_NoPath : Option Bool} {dd_NoPath : Option Addr} {k0_NoPath k1_NoPath k2_NoPath k3_NoPath k5_NoPath : Option Value} (mc_NoPath : PySem.W.nsIn K mainGlobals "NoPath" = some (some (.ref c_NoPath)))
    (lk_NoPath : K.lookup c_NoPath = some (PySem.excClassObj nm_NoPath q_NoPath c_NoPath N_NoPath bs_NoPath (([c_SeedError] : List Addr).map Value.ref ++ vMro) true sn_NoPath sub_NoPath ab_NoPath col_NoPath dd_NoPath k0_NoPath k1_NoPath k2_NoPath k3_NoPath k5_NoPath vNew)) (kc_NoPath : PySem.W.keepIn K (.ref c_NoPath) = true) (sa_NoPath : PySem.W.findIn K (.ref c_NoPath) "__setattr__" = some (some (.builtin "object.__setattr__"))) (ga_NoPath : PySem.W.findIn K (.ref c_NoPath) "__getattribute__" = some (some (.builtin bGa))) (gt_NoPath : PySem.W.findIn K (.ref c_NoPath) "__getattr__" = some none)
    {c_NoPlace N_NoPlace : Addr} {nm_NoPlace q_NoPlace : Str} {bs_NoPlace sub_NoPlace : List Value} {sn_NoPlace : List Str} {ab_NoPlace : Bool} {col_NoPlace : Option Bool} {dd_NoPlace : Option Addr} {k0_NoPlace k1_NoPlace k2_NoPlace k3_NoPlace k5_NoPlace : Option Value} (mc_NoPlace : PySem.W.nsIn K mainGlobals "NoPlace" = some (some (.ref c_NoPlace)))
    (lk_NoPlace : K.lookup c_NoPlace = some (PySem.excClassObj nm_NoPlace q_NoPlace c_NoPlace N_NoPlace bs_NoPlace (([c_SeedError] : List Addr).map Value.ref ++ vMro) true sn_NoPlace sub_NoPlace ab_NoPlace col_NoPlace dd_NoPlace k0_NoPlace k1_NoPlace k2_NoPlace k3_NoPlace k5_NoPlace vNew)) (kc_NoPlace : PySem.W.keepIn K (.ref c_NoPlace) = true) (sa_NoPlace : PySem.W.findIn K (.ref c_NoPlace) "__setattr__" = some (some (.builtin "object.__setattr__"))) (ga_NoPlace : PySem.W.findIn K (.ref c_NoPlace) "__getattribute__" = some (some (.builtin bGa))) (gt_NoPlace : PySem.W.findIn K (.ref c_NoPlace) "__getattr__" = some none)
    {c_NoState N_NoState : Addr} {nm_NoState q_NoState : Str} {bs_NoState sub_NoState : List Value} {sn_NoState : List Str} {ab_NoState : Bool} {col_NoState : Option Bool} {dd_NoState : Option Addr} {k0_NoState k1_NoState k2_NoState k3_NoState k5_NoState : Option Value} (mc_NoState : PySem.W.nsIn K mainGlobals "NoState" = some (some (.ref c_NoState)))
    (lk_NoState : K.lookup c_NoState = some (PySem.excClassObj nm_NoState q_NoState c_NoState N_NoState bs_NoState (([c_SeedError] : List Addr).map Value.ref ++ vMro) true sn_NoState sub_NoState ab_NoState col_NoState dd_NoState k0_NoState k1_NoState k2_NoState k3_NoState k5_NoState vNew)) (kc_NoState : PySem.W.keepIn K (.ref c_NoState) = true) (sa_NoState : PySem.W.findIn K (.ref c_NoState) "__setattr__" = some (some (.builtin "object.__setattr__"))) (ga_NoState : PySem.W.findIn K (.ref c_NoState) "__getattribute__" = some (some (.builtin bGa))) (gt_NoState : PySem.W.findIn K (.ref c_NoState) "__getattr__" = some none)
    {c_NoText N_NoText : Addr} {nm_NoText q_NoText : Str} {bs_NoText sub_NoText : List Value} {sn_NoText : List Str} {ab_NoText : Bool} {col_NoText : Option Bool} {dd_NoText : Option Addr} {k0_NoText k1_NoText k2_NoText k3_NoText k5_NoText : Option Value} (mc_NoText : PySem.W.nsIn K mainGlobals "NoText" = some (some (.ref c_NoText)))
    (lk_NoText : K.lookup c_NoText = some (PySem.excClassObj nm_NoText q_NoText c_NoText N_NoText bs_NoText (([c_SeedError] : List Addr).map Value.ref ++ vMro) true sn_NoText sub_NoText ab_NoText col_NoText dd_NoText k0_NoText k1_NoText k2_NoText k3_NoText k5_NoText vNew)) (kc_NoText : PySem.W.keepIn K (.ref c_NoText) = true) (sa_NoText : PySem.W.findIn K (.ref c_NoText) "__setattr__" = some (some (.builtin "object.__setattr__"))) (ga_NoText : PySem.W.findIn K (.ref c_NoText) "__getattribute__" = some (some (.builtin bGa))) (gt_NoText : PySem.W.findIn K (.ref c_NoText) "__getattr__" = some none)
    {c_NoHand N_NoHand : Addr} {nm_NoHand q_NoHand : Str} {bs_NoHand sub_NoHand : List Value} {sn_NoHand : List Str} {ab_NoHand : Bool} {col_NoHand : Option Bool} {dd_NoHand : Option Addr} {k0_NoHand k1_NoHand k2_NoHand k3_NoHand k5_NoHand : Option Value} (mc_NoHand : PySem.W.nsIn K mainGlobals "NoHand" = some (some (.ref c_NoHand)))
    (lk_NoHand : K.lookup c_NoHand = some (PySem.excClassObj nm_NoHand q_NoHand c_NoHand N_NoHand bs_NoHand (([c_SeedError] : List Addr).map Value.ref ++ vMro) true sn_NoHand sub_NoHand ab_NoHand col_NoHand dd_NoHand k0_NoHand k1_NoHand k2_NoHand k3_NoHand k5_NoHand vNew)) (kc_NoHand : PySem.W.keepIn K (.ref c_NoHand) = true) (sa_NoHand : PySem.W.findIn K (.ref c_NoHand) "__setattr__" = some (some (.builtin "object.__setattr__"))) (ga_NoHand : PySem.W.findIn K (.ref c_NoHand) "__getattribute__" = some (some (.builtin bGa))) (gt_NoHand : PySem.W.findIn K (.ref c_NoHand) "__getattr__" = some none)
    {c_NoJoin N_NoJoin : Addr} {nm_NoJoin q_NoJoin : Str} {bs_NoJoin sub_NoJoin : List Value} {sn_NoJoin : List Str} {ab_NoJoin : Bool} {col_NoJoin : Option Bool} {dd_NoJoin : Option Addr} {k0_NoJoin k1_NoJoin k2_NoJoin k3_NoJoin k5_NoJoin : Option Value} (mc_NoJoin : PySem.W.nsIn K mainGlobals "NoJoin" = some (some (.ref c_NoJoin)))
    (lk_NoJoin : K.lookup c_NoJoin = some (PySem.excClassObj nm_NoJoin q_NoJoin c_NoJoin N_NoJoin bs_NoJoin (([c_SeedError] : List Addr).map Value.ref ++ vMro) true sn_NoJoin sub_NoJoin ab_NoJoin col_NoJoin dd_NoJoin k0_NoJoin k1_NoJoin k2_NoJoin k3_NoJoin k5_NoJoin vNew)) (kc_NoJoin : PySem.W.keepIn K (.ref c_NoJoin) = true) (sa_NoJoin : PySem.W.findIn K (.ref c_NoJoin) "__setattr__" = some (some (.builtin "object.__setattr__"))) (ga_NoJoin : PySem.W.findIn K (.ref c_NoJoin) "__getattribute__" = some (some (.builtin bGa))) (gt_NoJoin : PySem.W.findIn K (.ref c_NoJoin) "__getattr__" = some none)
    {c_NoName N_NoName : Addr} {nm_NoName q_NoName : Str} {bs_NoName sub_NoName : List Value} {sn_NoName : List Str} {ab_NoName : Bool} {col_NoName : Option Bool} {dd_NoName : Option Addr} {k0_NoName k1_NoName k2_NoName k3_NoName k5_NoName : Option Value} (mc_NoName : PySem.W.nsIn K mainGlobals "NoName" = some (some (.ref c_NoName)))
    (lk_NoName : K.lookup c_NoName = some (PySem.excClassObj nm_NoName q_NoName c_NoName N_NoName bs_NoName (([c_SeedError] : List Addr).map Value.ref ++ vMro) true sn_NoName sub_NoName ab_NoName col_NoName dd_NoName k0_NoName k1_NoName k2_NoName k3_NoName k5_NoName vNew)) (kc_NoName : PySem.W.keepIn K (.ref c_NoName) = true) (sa_NoName : PySem.W.findIn K (.ref c_NoName) "__setattr__" = some (some (.builtin "object.__setattr__"))) (ga_NoName : PySem.W.findIn K (.ref c_NoName) "__getattribute__" = some (some (.builtin bGa))) (gt_NoName : PySem.W.findIn K (.ref c_NoName) "__getattr__" = some none)
    {c_NoOrder N_NoOrder : Addr} {nm_NoOrder q_NoOrder : Str} {bs_NoOrder sub_NoOrder : List Value} {sn_NoOrder : List Str} {ab_NoOrder : Bool} {col_NoOrder : Option Bool} {dd_NoOrder : Option Addr} {k0_NoOrder k1_NoOrder k2_NoOrder k3_NoOrder k5_NoOrder : Option Value} (mc_NoOrder : PySem.W.nsIn K mainGlobals "NoOrder" = some (some (.ref c_NoOrder)))
    (lk_NoOrder : K.lookup c_NoOrder = some (PySem.excClassObj nm_NoOrder q_NoOrder c_NoOrder N_NoOrder bs_NoOrder (([c_SeedError] : List Addr).map Value.ref ++ vMro) true sn_NoOrder sub_NoOrder ab_NoOrder col_NoOrder dd_NoOrder k0_NoOrder k1_NoOrder k2_NoOrder k3_NoOrder k5_NoOrder vNew)) (kc_NoOrder : PySem.W.keepIn K (.ref c_NoOrder) = true) (sa_NoOrder : PySem.W.findIn K (.ref c_NoOrder) "__setattr__" = some (some (.builtin "object.__setattr__"))) (ga_NoOrder : PySem.W.findIn K (.ref c_NoOrder) "__getattribute__" = some (some (.builtin bGa))) (gt_NoOrder : PySem.W.findIn K (.ref c_NoOrder) "__getattr__" = some none)
    {c_NoSet N_NoSet : Addr} {nm_NoSet q_NoSet : Str} {bs_NoSet sub_NoSet : List Value} {sn_NoSet : List Str} {ab_NoSet : Bool} {col_NoSet : Option Bool} {dd_NoSet : Option Addr} {k0_NoSet k1_NoSet k2_NoSet k3_NoSet k5_NoSet : Option Value} (mc_NoSet : PySem.W.nsIn K mainGlobals "NoSet" = some (some (.ref c_NoSet)))
    (lk_NoSet : K.lookup c_NoSet = some (PySem.excClassObj nm_NoSet q_NoSet c_NoSet N_NoSet bs_NoSet (([c_SeedError] : List Addr).map Value.ref ++ vMro) true sn_NoSet sub_NoSet ab_NoSet col_NoSet dd_NoSet k0_NoSet k1_NoSet k2_NoSet k3_NoSet k5_NoSet vNew)) (kc_NoSet : PySem.W.keepIn K (.ref c_NoSet) = true) (sa_NoSet : PySem.W.findIn K (.ref c_NoSet) "__setattr__" = some (some (.builtin "object.__setattr__"))) (ga_NoSet : PySem.W.findIn K (.ref c_NoSet) "__getattribute__" = some (some (.builtin bGa))) (gt_NoSet : PySem.W.findIn K (.ref c_NoSet) "__getattr__" = some none)
    {c_NoShares N_NoShares : Addr} {nm_NoShares q_NoShares : Str} {bs_NoShares sub_NoShares : List Value} {sn_NoShares : List Str} {ab_NoShares : Bool} {col_NoShares : Option Bool} {dd_NoShares : Option Addr} {k0_NoShares k1_NoShares k2_NoShares k3_NoShares k5_NoShares : Option Value} (mc_NoShares : PySem.W.nsIn K mainGlobals "NoShares" = some (some (.ref c_NoShares)))
    (lk_NoShares : K.lookup c_NoShares = some (PySem.excClassObj nm_NoShares q_NoShares c_NoShares N_NoShares bs_NoShares (([c_SeedError] : List Addr).map Value.ref ++ vMro) true sn_NoShares sub_NoShares ab_NoShares col_NoShares dd_NoShares k0_NoShares k1_NoShares k2_NoShares k3_NoShares k5_NoShares vNew)) (kc_NoShares : PySem.W.keepIn K (.ref c_NoShares) = true) (sa_NoShares : PySem.W.findIn K (.ref c_NoShares) "__setattr__" = some (some (.builtin "object.__setattr__"))) (ga_NoShares : PySem.W.findIn K (.ref c_NoShares) "__getattribute__" = some (some (.builtin bGa))) (gt_NoShares : PySem.W.findIn K (.ref c_NoShares) "__getattr__" = some none)
    {c_NoShape N_NoShape : Addr} {nm_NoShape q_NoShape : Str} {bs_NoShape sub_NoShape : List Value} {sn_NoShape : List Str} {ab_NoShape : Bool} {col_NoShape : Option Bool} {dd_NoShape : Option Addr} {k0_NoShape k1_NoShape k2_NoShape k3_NoShape k5_NoShape : Option Value} (mc_NoShape : PySem.W.nsIn K mainGlobals "NoShape" = some (some (.ref c_NoShape)))
    (lk_NoShape : K.lookup c_NoShape = some (PySem.excClassObj nm_NoShape q_NoShape c_NoShape N_NoShape bs_NoShape (([c_SeedError] : List Addr).map Value.ref ++ vMro) true sn_NoShape sub_NoShape ab_NoShape col_NoShape dd_NoShape k0_NoShape k1_NoShape k2_NoShape k3_NoShape k5_NoShape vNew)) (kc_NoShape : PySem.W.keepIn K (.ref c_NoShape) = true) (sa_NoShape : PySem.W.findIn K (.ref c_NoShape) "__setattr__" = some (some (.builtin "object.__setattr__"))) (ga_NoShape : PySem.W.findIn K (.ref c_NoShape) "__getattribute__" = some (some (.builtin bGa))) (gt_NoShape : PySem.W.findIn K (.ref c_NoShape) "__getattr__" = some none)
    {c_NoRow N_NoRow : Addr} {nm_NoRow q_NoRow : Str} {bs_NoRow sub_NoRow : List Value} {sn_NoRow : List Str} {ab_NoRow : Bool} {col_NoRow : Option Bool} {dd_NoRow : Option Addr} {k0_NoRow k1_NoRow k2_NoRow k3_NoRow k5_NoRow : Option Value} (mc_NoRow : PySem.W.nsIn K mainGlobals "NoRow" = some (some (.ref c_NoRow)))
    (lk_NoRow : K.lookup c_NoRow = some (PySem.excClassObj nm_NoRow q_NoRow c_NoRow N_NoRow bs_NoRow (([c_SeedError] : List Addr).map Value.ref ++ vMro) true sn_NoRow sub_NoRow ab_NoRow col_NoRow dd_NoRow k0_NoRow k1_NoRow k2_NoRow k3_NoRow k5_NoRow vNew)) (kc_NoRow : PySem.W.keepIn K (.ref c_NoRow) = true) (sa_NoRow : PySem.W.findIn K (.ref c_NoRow) "__setattr__" = some (some (.builtin "object.__setattr__"))) (ga_NoRow : PySem.W.findIn K (.ref c_NoRow) "__getattribute__" = some (some (.builtin bGa))) (gt_NoRow : PySem.W.findIn K (.ref c_NoRow) "__getattr__" = some none)
    {c_NoPaper N_NoPaper : Addr} {nm_NoPaper q_NoPaper : Str} {bs_NoPaper sub_NoPaper : List Value} {sn_NoPaper : List Str} {ab_NoPaper : Bool} {col_NoPaper : Option Bool} {dd_NoPaper : Option Addr} {k0_NoPaper k1_NoPaper k2_NoPaper k3_NoPaper k5_NoPaper : Option Value} (mc_NoPaper : PySem.W.nsIn K mainGlobals "NoPaper" = some (some (.ref c_NoPaper)))
    (lk_NoPaper : K.lookup c_NoPaper = some (PySem.excClassObj nm_NoPaper q_NoPaper c_NoPaper N_NoPaper bs_NoPaper (([c_SeedError] : List Addr).map Value.ref ++ vMro) true sn_NoPaper sub_NoPaper ab_NoPaper col_NoPaper dd_NoPaper k0_NoPaper k1_NoPaper k2_NoPaper k3_NoPaper k5_NoPaper vNew)) (kc_NoPaper : PySem.W.keepIn K (.ref c_NoPaper) = true) (sa_NoPaper : PySem.W.findIn K (.ref c_NoPaper) "__setattr__" = some (some (.builtin "object.__setattr__"))) (ga_NoPaper : PySem.W.findIn K (.ref c_NoPaper) "__getattribute__" = some (some (.builtin bGa))) (gt_NoPaper : PySem.W.findIn K (.ref c_NoPaper) "__getattr__" = some none)
    {c_NoPlan N_NoPlan : Addr} {nm_NoPlan q_NoPlan : Str} {bs_NoPlan sub_NoPlan : List Value} {sn_NoPlan : List Str} {ab_NoPlan : Bool} {col_NoPlan : Option Bool} {dd_NoPlan : Option Addr} {k0_NoPlan k1_NoPlan k2_NoPlan k3_NoPlan k5_NoPlan : Option Value} (mc_NoPlan : PySem.W.nsIn K mainGlobals "NoPlan" = some (some (.ref c_NoPlan)))
    (lk_NoPlan : K.lookup c_NoPlan = some (PySem.excClassObj nm_NoPlan q_NoPlan c_NoPlan N_NoPlan bs_NoPlan (([c_SeedError] : List Addr).map Value.ref ++ vMro) true sn_NoPlan sub_NoPlan ab_NoPlan col_NoPlan dd_NoPlan k0_NoPlan k1_NoPlan k2_NoPlan k3_NoPlan k5_NoPlan vNew)) (kc_NoPlan : PySem.W.keepIn K (.ref c_NoPlan) = true) (sa_NoPlan : PySem.W.findIn K (.ref c_NoPlan) "__setattr__" = some (some (.builtin "object.__setattr__"))) (ga_NoPlan : PySem.W.findIn K (.ref c_NoPlan) "__getattribute__" = some (some (.builtin bGa))) (gt_NoPlan : PySem.W.findIn K (.ref c_NoPlan) "__getattr__" = some none)
    {c_NoLine N_NoLine : Addr} {nm_NoLine q_NoLine : Str} {bs_NoLine sub_NoLine : List Value} {sn_NoLine : List Str} {ab_NoLine : Bool} {col_NoLine : Option Bool} {dd_NoLine : Option Addr} {k0_NoLine k1_NoLine k2_NoLine k3_NoLine k5_NoLine : Option Value} (mc_NoLine : PySem.W.nsIn K mainGlobals "NoLine" = some (some (.ref c_NoLine)))
    (lk_NoLine : K.lookup c_NoLine = some (PySem.excClassObj nm_NoLine q_NoLine c_NoLine N_NoLine bs_NoLine (([c_SeedError] : List Addr).map Value.ref ++ vMro) true sn_NoLine sub_NoLine ab_NoLine col_NoLine dd_NoLine k0_NoLine k1_NoLine k2_NoLine k3_NoLine k5_NoLine vNew)) (kc_NoLine : PySem.W.keepIn K (.ref c_NoLine) = true) (sa_NoLine : PySem.W.findIn K (.ref c_NoLine) "__setattr__" = some (some (.builtin "object.__setattr__"))) (ga_NoLine : PySem.W.findIn K (.ref c_NoLine) "__getattribute__" = some (some (.builtin bGa))) (gt_NoLine : PySem.W.findIn K (.ref c_NoLine) "__getattr__" = some none)
    {c_NoHolder N_NoHolder : Addr} {nm_NoHolder q_NoHolder : Str} {bs_NoHolder sub_NoHolder : List Value} {sn_NoHolder : List Str} {ab_NoHolder : Bool} {col_NoHolder : Option Bool} {dd_NoHolder : Option Addr} {k0_NoHolder k1_NoHolder k2_NoHolder k3_NoHolder k5_NoHolder : Option Value} (mc_NoHolder : PySem.W.nsIn K mainGlobals "NoHolder" = some (some (.ref c_NoHolder)))
    (lk_NoHolder : K.lookup c_NoHolder = some (PySem.excClassObj nm_NoHolder q_NoHolder c_NoHolder N_NoHolder bs_NoHolder (([c_SeedError] : List Addr).map Value.ref ++ vMro) true sn_NoHolder sub_NoHolder ab_NoHolder col_NoHolder dd_NoHolder k0_NoHolder k1_NoHolder k2_NoHolder k3_NoHolder k5_NoHolder vNew)) (kc_NoHolder : PySem.W.keepIn K (.ref c_NoHolder) = true) (sa_NoHolder : PySem.W.findIn K (.ref c_NoHolder) "__setattr__" = some (some (.builtin "object.__setattr__"))) (ga_NoHolder : PySem.W.findIn K (.ref c_NoHolder) "__getattribute__" = some (some (.builtin bGa))) (gt_NoHolder : PySem.W.findIn K (.ref c_NoHolder) "__getattr__" = some none)
    {c_TooWide N_TooWide : Addr} {nm_TooWide q_TooWide : Str} {bs_TooWide sub_TooWide : List Value} {sn_TooWide : List Str} {ab_TooWide : Bool} {col_TooWide : Option Bool} {dd_TooWide : Option Addr} {k0_TooWide k1_TooWide k2_TooWide k3_TooWide k5_TooWide : Option Value} (mc_TooWide : PySem.W.nsIn K mainGlobals "TooWide" = some (some (.ref c_TooWide)))
    (lk_TooWide : K.lookup c_TooWide = some (PySem.excClassObj nm_TooWide q_TooWide c_TooWide N_TooWide bs_TooWide (([c_SeedError] : List Addr).map Value.ref ++ vMro) true sn_TooWide sub_TooWide ab_TooWide col_TooWide dd_TooWide k0_TooWide k1_TooWide k2_TooWide k3_TooWide k5_TooWide vNew)) (kc_TooWide : PySem.W.keepIn K (.ref c_TooWide) = true) (sa_TooWide : PySem.W.findIn K (.ref c_TooWide) "__setattr__" = some (some (.builtin "object.__setattr__"))) (ga_TooWide : PySem.W.findIn K (.ref c_TooWide) "__getattribute__" = some (some (.builtin bGa))) (gt_TooWide : PySem.W.findIn K (.ref c_TooWide) "__getattr__" = some none)
    {c_TooDeep N_TooDeep : Addr} {nm_TooDeep q_TooDeep : Str} {bs_TooDeep sub_TooDeep : List Value} {sn_TooDeep : List Str} {ab_TooDeep : Bool} {col_TooDeep : Option Bool} {dd_TooDeep : Option Addr} {k0_TooDeep k1_TooDeep k2_TooDeep k3_TooDeep k5_TooDeep : Option Value} (mc_TooDeep : PySem.W.nsIn K mainGlobals "TooDeep" = some (some (.ref c_TooDeep)))
    (lk_TooDeep : K.lookup c_TooDeep = some (PySem.excClassObj nm_TooDeep q_TooDeep c_TooDeep N_TooDeep bs_TooDeep (([c_SeedError] : List Addr).map Value.ref ++ vMro) true sn_TooDeep sub_TooDeep ab_TooDeep col_TooDeep dd_TooDeep k0_TooDeep k1_TooDeep k2_TooDeep k3_TooDeep k5_TooDeep vNew)) (kc_TooDeep : PySem.W.keepIn K (.ref c_TooDeep) = true) (sa_TooDeep : PySem.W.findIn K (.ref c_TooDeep) "__setattr__" = some (some (.builtin "object.__setattr__"))) (ga_TooDeep : PySem.W.findIn K (.ref c_TooDeep) "__getattribute__" = some (some (.builtin bGa))) (gt_TooDeep : PySem.W.findIn K (.ref c_TooDeep) "__getattr__" = some none)
    {c_TooMany N_TooMany : Addr} {nm_TooMany q_TooMany : Str} {bs_TooMany sub_TooMany : List Value} {sn_TooMany : List Str} {ab_TooMany : Bool} {col_TooMany : Option Bool} {dd_TooMany : Option Addr} {k0_TooMany k1_TooMany k2_TooMany k3_TooMany k5_TooMany : Option Value} (mc_TooMany : PySem.W.nsIn K mainGlobals "TooMany" = some (some (.ref c_TooMany)))
    (lk_TooMany : K.lookup c_TooMany = some (PySem.excClassObj nm_TooMany q_TooMany c_TooMany N_TooMany bs_TooMany (([c_SeedError] : List Addr).map Value.ref ++ vMro) true sn_TooMany sub_TooMany ab_TooMany col_TooMany dd_TooMany k0_TooMany k1_TooMany k2_TooMany k3_TooMany k5_TooMany vNew)) (kc_TooMany : PySem.W.keepIn K (.ref c_TooMany) = true) (sa_TooMany : PySem.W.findIn K (.ref c_TooMany) "__setattr__" = some (some (.builtin "object.__setattr__"))) (ga_TooMany : PySem.W.findIn K (.ref c_TooMany) "__getattribute__" = some (some (.builtin bGa))) (gt_TooMany : PySem.W.findIn K (.ref c_TooMany) "__getattr__" = some none)
    {c_Spent N_Spent : Addr} {nm_Spent q_Spent : Str} {bs_Spent sub_Spent : List Value} {sn_Spent : List Str} {ab_Spent : Bool} {col_Spent : Option Bool} {dd_Spent : Option Addr} {k0_Spent k1_Spent k2_Spent k3_Spent k5_Spent : Option Value} (mc_Spent : PySem.W.nsIn K mainGlobals "Spent" = some (some (.ref c_Spent)))
    (lk_Spent : K.lookup c_Spent = some (PySem.excClassObj nm_Spent q_Spent c_Spent N_Spent bs_Spent (([c_SeedError] : List Addr).map Value.ref ++ vMro) true sn_Spent sub_Spent ab_Spent col_Spent dd_Spent k0_Spent k1_Spent k2_Spent k3_Spent k5_Spent vNew)) (kc_Spent : PySem.W.keepIn K (.ref c_Spent) = true) (sa_Spent : PySem.W.findIn K (.ref c_Spent) "__setattr__" = some (some (.builtin "object.__setattr__"))) (ga_Spent : PySem.W.findIn K (.ref c_Spent) "__getattribute__" = some (some (.builtin bGa))) (gt_Spent : PySem.W.findIn K (.ref c_Spent) "__getattr__" = some none)
    {c_Twice N_Twice : Addr} {nm_Twice q_Twice : Str} {bs_Twice sub_Twice : List Value} {sn_Twice : List Str} {ab_Twice : Bool} {col_Twice : Option Bool} {dd_Twice : Option Addr} {k0_Twice k1_Twice k2_Twice k3_Twice k5_Twice : Option Value} (mc_Twice : PySem.W.nsIn K mainGlobals "Twice" = some (some (.ref c_Twice)))
    (lk_Twice : K.lookup c_Twice = some (PySem.excClassObj nm_Twice q_Twice c_Twice N_Twice bs_Twice (([c_SeedError] : List Addr).map Value.ref ++ vMro) true sn_Twice sub_Twice ab_Twice col_Twice dd_Twice k0_Twice k1_Twice k2_Twice k3_Twice k5_Twice vNew)) (kc_Twice : PySem.W.keepIn K (.ref c_Twice) = true) (sa_Twice : PySem.W.findIn K (.ref c_Twice) "__setattr__" = some (some (.builtin "object.__setattr__"))) (ga_Twice : PySem.W.findIn K (.ref c_Twice) "__getattribute__" = some (some (.builtin bGa))) (gt_Twice : PySem.W.findIn K (.ref c_Twice) "__getattr__" = some none)
    {c_Unknown N_Unknown : Addr} {nm_Unknown q_Unknown : Str} {bs_Unknown sub_Unknown : List Value} {sn_Unknown : List Str} {ab_Unknown : Bool} {col_Unknown : Option Bool} {dd_Unknown : Option Addr} {k0_Unknown k1_Unknown k2_Unknown k3_Unknown k5_Unknown : Option Value} (mc_Unknown : PySem.W.nsIn K mainGlobals "Unknown" = some (some (.ref c_Unknown)))
    (lk_Unknown : K.lookup c_Unknown = some (PySem.excClassObj nm_Unknown q_Unknown c_Unknown N_Unknown bs_Unknown (([c_SeedError] : List Addr).map Value.ref ++ vMro) true sn_Unknown sub_Unknown ab_Unknown col_Unknown dd_Unknown k0_Unknown k1_Unknown k2_Unknown k3_Unknown k5_Unknown vNew)) (kc_Unknown : PySem.W.keepIn K (.ref c_Unknown) = true) (sa_Unknown : PySem.W.findIn K (.ref c_Unknown) "__setattr__" = some (some (.builtin "object.__setattr__"))) (ga_Unknown : PySem.W.findIn K (.ref c_Unknown) "__getattribute__" = some (some (.builtin bGa))) (gt_Unknown : PySem.W.findIn K (.ref c_Unknown) "__getattr__" = some none)
    {c_NoDepth N_NoDepth : Addr} {nm_NoDepth q_NoDepth : Str} {bs_NoDepth sub_NoDepth : List Value} {sn_NoDepth : List Str} {ab_NoDepth : Bool} {col_NoDepth : Option Bool} {dd_NoDepth : Option Addr} {k0_NoDepth k1_NoDepth k2_NoDepth k3_NoDepth k5_NoDepth : Option Value} (mc_NoDepth : PySem.W.nsIn K mainGlobals "NoDepth" = some (some (.ref c_NoDepth)))
    (lk_NoDepth : K.lookup c_NoDepth = some (PySem.excClassObj nm_NoDepth q_NoDepth c_NoDepth N_NoDepth bs_NoDepth (([c_SeedError] : List Addr).map Value.ref ++ vMro) true sn_NoDepth sub_NoDepth ab_NoDepth col_NoDepth dd_NoDepth k0_NoDepth k1_NoDepth k2_NoDepth k3_NoDepth k5_NoDepth vNew)) (kc_NoDepth : PySem.W.keepIn K (.ref c_NoDepth) = true) (sa_NoDepth : PySem.W.findIn K (.ref c_NoDepth) "__setattr__" = some (some (.builtin "object.__setattr__"))) (ga_NoDepth : PySem.W.findIn K (.ref c_NoDepth) "__getattribute__" = some (some (.builtin bGa))) (gt_NoDepth : PySem.W.findIn K (.ref c_NoDepth) "__getattr__" = some none)
    {c_NoParts N_NoParts : Addr} {nm_NoParts q_NoParts : Str} {bs_NoParts sub_NoParts : List Value} {sn_NoParts : List Str} {ab_NoParts : Bool} {col_NoParts : Option Bool} {dd_NoParts : Option Addr} {k0_NoParts k1_NoParts k2_NoParts k3_NoParts k5_NoParts : Option Value} (mc_NoParts : PySem.W.nsIn K mainGlobals "NoParts" = some (some (.ref c_NoParts)))
    (lk_NoParts : K.lookup c_NoParts = some (PySem.excClassObj nm_NoParts q_NoParts c_NoParts N_NoParts bs_NoParts (([c_SeedError] : List Addr).map Value.ref ++ vMro) true sn_NoParts sub_NoParts ab_NoParts col_NoParts dd_NoParts k0_NoParts k1_NoParts k2_NoParts k3_NoParts k5_NoParts vNew)) (kc_NoParts : PySem.W.keepIn K (.ref c_NoParts) = true) (sa_NoParts : PySem.W.findIn K (.ref c_NoParts) "__setattr__" = some (some (.builtin "object.__setattr__"))) (ga_NoParts : PySem.W.findIn K (.ref c_NoParts) "__getattribute__" = some (some (.builtin bGa))) (gt_NoParts : PySem.W.findIn K (.ref c_NoParts) "__getattr__" = some none)
    {c_Beyond N_Beyond : Addr} {nm_Beyond q_Beyond : Str} {bs_Beyond sub_Beyond : List Value} {sn_Beyond : List Str} {ab_Beyond : Bool} {col_Beyond : Option Bool} {dd_Beyond : Option Addr} {k0_Beyond k1_Beyond k2_Beyond k3_Beyond k5_Beyond : Option Value} (mc_Beyond : PySem.W.nsIn K mainGlobals "Beyond" = some (some (.ref c_Beyond)))
    (lk_Beyond : K.lookup c_Beyond = some (PySem.excClassObj nm_Beyond q_Beyond c_Beyond N_Beyond bs_Beyond (([c_SeedError] : List Addr).map Value.ref ++ vMro) true sn_Beyond sub_Beyond ab_Beyond col_Beyond dd_Beyond k0_Beyond k1_Beyond k2_Beyond k3_Beyond k5_Beyond vNew)) (kc_Beyond : PySem.W.keepIn K (.ref c_Beyond) = true) (sa_Beyond : PySem.W.findIn K (.ref c_Beyond) "__setattr__" = some (some (.builtin "object.__setattr__"))) (ga_Beyond : PySem.W.findIn K (.ref c_Beyond) "__getattribute__" = some (some (.builtin bGa))) (gt_Beyond : PySem.W.findIn K (.ref c_Beyond) "__getattr__" = some none)
    {f0 : Addr} {od0 an0 : Option Addr} {sl0 : Array (Option Value)} {oc0 kV0 dc0 pm0 cd0 ct0 : Value} (a0 : PySem.W.findIn K (.ref c_SeedError) "__init__" = some (some (.ref f0))) (t0 : PySem.W.typeIn K (.ref f0) = some (.type "function"))
    (l0 : K.lookup f0 = some ⟨oc0, od0, .func (PySem.W.fnOf "__init__" "SeedError.__init__" (defArgs s_SeedError_i) (defBody s_SeedError_i) (defScope s_SeedError_i) .none kV0 dc0 pm0 an0 cd0 ct0), sl0⟩) (c0 : PySem.W.codeIn K cd0 "SeedError.__init__" = true) (k0 : PySem.W.keepIn K (.ref f0) = true)
    {f1 : Addr} {od1 an1 : Option Addr} {sl1 : Array (Option Value)} {oc1 kV1 dc1 pm1 cd1 ct1 : Value} (a1 : PySem.W.findIn K (.ref c_NoNumber) "__init__" = some (some (.ref f1))) (t1 : PySem.W.typeIn K (.ref f1) = some (.type "function"))
    (na_NoNumber_found : PySem.W.findIn K (.ref c_NoNumber) "found" = some none)
    (l1 : K.lookup f1 = some ⟨oc1, od1, .func (PySem.W.fnOf "__init__" "NoNumber.__init__" (defArgs s_NoNumber_i) (defBody s_NoNumber_i) (defScope s_NoNumber_i) .none kV1 dc1 pm1 an1 cd1 ct1), sl1⟩) (c1 : PySem.W.codeIn K cd1 "NoNumber.__init__" = true) (k1 : PySem.W.keepIn K (.ref f1) = true)
    {f2 : Addr} {od2 an2 : Option Addr} {sl2 : Array (Option Value)} {oc2 kV2 dc2 pm2 cd2 ct2 : Value} (a2 : PySem.W.findIn K (.ref c_NoWidth) "__init__" = some (some (.ref f2))) (t2 : PySem.W.typeIn K (.ref f2) = some (.type "function"))
    (na_NoWidth_found : PySem.W.findIn K (.ref c_NoWidth) "found" = some none)
    (l2 : K.lookup f2 = some ⟨oc2, od2, .func (PySem.W.fnOf "__init__" "NoWidth.__init__" (defArgs s_NoWidth_i) (defBody s_NoWidth_i) (defScope s_NoWidth_i) .none kV2 dc2 pm2 an2 cd2 ct2), sl2⟩) (c2 : PySem.W.codeIn K cd2 "NoWidth.__init__" = true) (k2 : PySem.W.keepIn K (.ref f2) = true)
    {f3 : Addr} {od3 an3 : Option Addr} {sl3 : Array (Option Value)} {oc3 kV3 dc3 pm3 cd3 ct3 : Value} (a3 : PySem.W.findIn K (.ref c_NoStep) "__init__" = some (some (.ref f3))) (t3 : PySem.W.typeIn K (.ref f3) = some (.type "function"))
    (na_NoStep_found : PySem.W.findIn K (.ref c_NoStep) "found" = some none)
    (l3 : K.lookup f3 = some ⟨oc3, od3, .func (PySem.W.fnOf "__init__" "NoStep.__init__" (defArgs s_NoStep_i) (defBody s_NoStep_i) (defScope s_NoStep_i) .none kV3 dc3 pm3 an3 cd3 ct3), sl3⟩) (c3 : PySem.W.codeIn K cd3 "NoStep.__init__" = true) (k3 : PySem.W.keepIn K (.ref f3) = true)
    {f4 : Addr} {od4 an4 : Option Addr} {sl4 : Array (Option Value)} {oc4 kV4 dc4 pm4 cd4 ct4 : Value} (a4 : PySem.W.findIn K (.ref c_NoMachine) "__init__" = some (some (.ref f4))) (t4 : PySem.W.typeIn K (.ref f4) = some (.type "function"))
    (na_NoMachine_found : PySem.W.findIn K (.ref c_NoMachine) "found" = some none)
    (l4 : K.lookup f4 = some ⟨oc4, od4, .func (PySem.W.fnOf "__init__" "NoMachine.__init__" (defArgs s_NoMachine_i) (defBody s_NoMachine_i) (defScope s_NoMachine_i) .none kV4 dc4 pm4 an4 cd4 ct4), sl4⟩) (c4 : PySem.W.codeIn K cd4 "NoMachine.__init__" = true) (k4 : PySem.W.keepIn K (.ref f4) = true)
    {f5 : Addr} {od5 an5 : Option Addr} {sl5 : Array (Option Value)} {oc5 kV5 dc5 pm5 cd5 ct5 : Value} (a5 : PySem.W.findIn K (.ref c_NoSeed) "__init__" = some (some (.ref f5))) (t5 : PySem.W.typeIn K (.ref f5) = some (.type "function"))
    (na_NoSeed_found : PySem.W.findIn K (.ref c_NoSeed) "found" = some none)
    (l5 : K.lookup f5 = some ⟨oc5, od5, .func (PySem.W.fnOf "__init__" "NoSeed.__init__" (defArgs s_NoSeed_i) (defBody s_NoSeed_i) (defScope s_NoSeed_i) .none kV5 dc5 pm5 an5 cd5 ct5), sl5⟩) (c5 : PySem.W.codeIn K cd5 "NoSeed.__init__" = true) (k5 : PySem.W.keepIn K (.ref f5) = true)
    {f6 : Addr} {od6 an6 : Option Addr} {sl6 : Array (Option Value)} {oc6 kV6 dc6 pm6 cd6 ct6 : Value} (a6 : PySem.W.findIn K (.ref c_NoPath) "__init__" = some (some (.ref f6))) (t6 : PySem.W.typeIn K (.ref f6) = some (.type "function"))
    (na_NoPath_found : PySem.W.findIn K (.ref c_NoPath) "found" = some none)
    (l6 : K.lookup f6 = some ⟨oc6, od6, .func (PySem.W.fnOf "__init__" "NoPath.__init__" (defArgs s_NoPath_i) (defBody s_NoPath_i) (defScope s_NoPath_i) .none kV6 dc6 pm6 an6 cd6 ct6), sl6⟩) (c6 : PySem.W.codeIn K cd6 "NoPath.__init__" = true) (k6 : PySem.W.keepIn K (.ref f6) = true)
    {f7 : Addr} {od7 an7 : Option Addr} {sl7 : Array (Option Value)} {oc7 kV7 dc7 pm7 cd7 ct7 : Value} (a7 : PySem.W.findIn K (.ref c_NoPlace) "__init__" = some (some (.ref f7))) (t7 : PySem.W.typeIn K (.ref f7) = some (.type "function"))
    (na_NoPlace_found : PySem.W.findIn K (.ref c_NoPlace) "found" = some none)
    (l7 : K.lookup f7 = some ⟨oc7, od7, .func (PySem.W.fnOf "__init__" "NoPlace.__init__" (defArgs s_NoPlace_i) (defBody s_NoPlace_i) (defScope s_NoPlace_i) .none kV7 dc7 pm7 an7 cd7 ct7), sl7⟩) (c7 : PySem.W.codeIn K cd7 "NoPlace.__init__" = true) (k7 : PySem.W.keepIn K (.ref f7) = true)
    {f8 : Addr} {od8 an8 : Option Addr} {sl8 : Array (Option Value)} {oc8 kV8 dc8 pm8 cd8 ct8 : Value} (a8 : PySem.W.findIn K (.ref c_NoState) "__init__" = some (some (.ref f8))) (t8 : PySem.W.typeIn K (.ref f8) = some (.type "function"))
    (na_NoState_found : PySem.W.findIn K (.ref c_NoState) "found" = some none)
    (l8 : K.lookup f8 = some ⟨oc8, od8, .func (PySem.W.fnOf "__init__" "NoState.__init__" (defArgs s_NoState_i) (defBody s_NoState_i) (defScope s_NoState_i) .none kV8 dc8 pm8 an8 cd8 ct8), sl8⟩) (c8 : PySem.W.codeIn K cd8 "NoState.__init__" = true) (k8 : PySem.W.keepIn K (.ref f8) = true)
    {f9 : Addr} {od9 an9 : Option Addr} {sl9 : Array (Option Value)} {oc9 kV9 dc9 pm9 cd9 ct9 : Value} (a9 : PySem.W.findIn K (.ref c_NoText) "__init__" = some (some (.ref f9))) (t9 : PySem.W.typeIn K (.ref f9) = some (.type "function"))
    (na_NoText_at : PySem.W.findIn K (.ref c_NoText) "at" = some none)
    (l9 : K.lookup f9 = some ⟨oc9, od9, .func (PySem.W.fnOf "__init__" "NoText.__init__" (defArgs s_NoText_i) (defBody s_NoText_i) (defScope s_NoText_i) .none kV9 dc9 pm9 an9 cd9 ct9), sl9⟩) (c9 : PySem.W.codeIn K cd9 "NoText.__init__" = true) (k9 : PySem.W.keepIn K (.ref f9) = true)
    {f10 : Addr} {od10 an10 : Option Addr} {sl10 : Array (Option Value)} {oc10 kV10 dc10 pm10 cd10 ct10 : Value} (a10 : PySem.W.findIn K (.ref c_NoHand) "__init__" = some (some (.ref f10))) (t10 : PySem.W.typeIn K (.ref f10) = some (.type "function"))
    (na_NoHand_found : PySem.W.findIn K (.ref c_NoHand) "found" = some none)
    (l10 : K.lookup f10 = some ⟨oc10, od10, .func (PySem.W.fnOf "__init__" "NoHand.__init__" (defArgs s_NoHand_i) (defBody s_NoHand_i) (defScope s_NoHand_i) .none kV10 dc10 pm10 an10 cd10 ct10), sl10⟩) (c10 : PySem.W.codeIn K cd10 "NoHand.__init__" = true) (k10 : PySem.W.keepIn K (.ref f10) = true)
    {f11 : Addr} {od11 an11 : Option Addr} {sl11 : Array (Option Value)} {oc11 kV11 dc11 pm11 cd11 ct11 : Value} (a11 : PySem.W.findIn K (.ref c_NoJoin) "__init__" = some (some (.ref f11))) (t11 : PySem.W.typeIn K (.ref f11) = some (.type "function"))
    (na_NoJoin_at : PySem.W.findIn K (.ref c_NoJoin) "at" = some none)
    (l11 : K.lookup f11 = some ⟨oc11, od11, .func (PySem.W.fnOf "__init__" "NoJoin.__init__" (defArgs s_NoJoin_i) (defBody s_NoJoin_i) (defScope s_NoJoin_i) .none kV11 dc11 pm11 an11 cd11 ct11), sl11⟩) (c11 : PySem.W.codeIn K cd11 "NoJoin.__init__" = true) (k11 : PySem.W.keepIn K (.ref f11) = true)
    {f12 : Addr} {od12 an12 : Option Addr} {sl12 : Array (Option Value)} {oc12 kV12 dc12 pm12 cd12 ct12 : Value} (a12 : PySem.W.findIn K (.ref c_NoName) "__init__" = some (some (.ref f12))) (t12 : PySem.W.typeIn K (.ref f12) = some (.type "function"))
    (na_NoName_found : PySem.W.findIn K (.ref c_NoName) "found" = some none)
    (l12 : K.lookup f12 = some ⟨oc12, od12, .func (PySem.W.fnOf "__init__" "NoName.__init__" (defArgs s_NoName_i) (defBody s_NoName_i) (defScope s_NoName_i) .none kV12 dc12 pm12 an12 cd12 ct12), sl12⟩) (c12 : PySem.W.codeIn K cd12 "NoName.__init__" = true) (k12 : PySem.W.keepIn K (.ref f12) = true)
    {f13 : Addr} {od13 an13 : Option Addr} {sl13 : Array (Option Value)} {oc13 kV13 dc13 pm13 cd13 ct13 : Value} (a13 : PySem.W.findIn K (.ref c_NoOrder) "__init__" = some (some (.ref f13))) (t13 : PySem.W.typeIn K (.ref f13) = some (.type "function"))
    (na_NoOrder_found : PySem.W.findIn K (.ref c_NoOrder) "found" = some none)
    (l13 : K.lookup f13 = some ⟨oc13, od13, .func (PySem.W.fnOf "__init__" "NoOrder.__init__" (defArgs s_NoOrder_i) (defBody s_NoOrder_i) (defScope s_NoOrder_i) .none kV13 dc13 pm13 an13 cd13 ct13), sl13⟩) (c13 : PySem.W.codeIn K cd13 "NoOrder.__init__" = true) (k13 : PySem.W.keepIn K (.ref f13) = true)
    {f14 : Addr} {od14 an14 : Option Addr} {sl14 : Array (Option Value)} {oc14 kV14 dc14 pm14 cd14 ct14 : Value} (a14 : PySem.W.findIn K (.ref c_NoSet) "__init__" = some (some (.ref f14))) (t14 : PySem.W.typeIn K (.ref f14) = some (.type "function"))
    (na_NoSet_found : PySem.W.findIn K (.ref c_NoSet) "found" = some none)
    (l14 : K.lookup f14 = some ⟨oc14, od14, .func (PySem.W.fnOf "__init__" "NoSet.__init__" (defArgs s_NoSet_i) (defBody s_NoSet_i) (defScope s_NoSet_i) .none kV14 dc14 pm14 an14 cd14 ct14), sl14⟩) (c14 : PySem.W.codeIn K cd14 "NoSet.__init__" = true) (k14 : PySem.W.keepIn K (.ref f14) = true)
    {f15 : Addr} {od15 an15 : Option Addr} {sl15 : Array (Option Value)} {oc15 kV15 dc15 pm15 cd15 ct15 : Value} (a15 : PySem.W.findIn K (.ref c_NoShares) "__init__" = some (some (.ref f15))) (t15 : PySem.W.typeIn K (.ref f15) = some (.type "function"))
    (na_NoShares_found : PySem.W.findIn K (.ref c_NoShares) "found" = some none)
    (l15 : K.lookup f15 = some ⟨oc15, od15, .func (PySem.W.fnOf "__init__" "NoShares.__init__" (defArgs s_NoShares_i) (defBody s_NoShares_i) (defScope s_NoShares_i) .none kV15 dc15 pm15 an15 cd15 ct15), sl15⟩) (c15 : PySem.W.codeIn K cd15 "NoShares.__init__" = true) (k15 : PySem.W.keepIn K (.ref f15) = true)
    {f16 : Addr} {od16 an16 : Option Addr} {sl16 : Array (Option Value)} {oc16 kV16 dc16 pm16 cd16 ct16 : Value} (a16 : PySem.W.findIn K (.ref c_NoShape) "__init__" = some (some (.ref f16))) (t16 : PySem.W.typeIn K (.ref f16) = some (.type "function"))
    (na_NoShape_found : PySem.W.findIn K (.ref c_NoShape) "found" = some none)
    (l16 : K.lookup f16 = some ⟨oc16, od16, .func (PySem.W.fnOf "__init__" "NoShape.__init__" (defArgs s_NoShape_i) (defBody s_NoShape_i) (defScope s_NoShape_i) .none kV16 dc16 pm16 an16 cd16 ct16), sl16⟩) (c16 : PySem.W.codeIn K cd16 "NoShape.__init__" = true) (k16 : PySem.W.keepIn K (.ref f16) = true)
    {f17 : Addr} {od17 an17 : Option Addr} {sl17 : Array (Option Value)} {oc17 kV17 dc17 pm17 cd17 ct17 : Value} (a17 : PySem.W.findIn K (.ref c_NoRow) "__init__" = some (some (.ref f17))) (t17 : PySem.W.typeIn K (.ref f17) = some (.type "function"))
    (na_NoRow_found : PySem.W.findIn K (.ref c_NoRow) "found" = some none)
    (l17 : K.lookup f17 = some ⟨oc17, od17, .func (PySem.W.fnOf "__init__" "NoRow.__init__" (defArgs s_NoRow_i) (defBody s_NoRow_i) (defScope s_NoRow_i) .none kV17 dc17 pm17 an17 cd17 ct17), sl17⟩) (c17 : PySem.W.codeIn K cd17 "NoRow.__init__" = true) (k17 : PySem.W.keepIn K (.ref f17) = true)
    {f18 : Addr} {od18 an18 : Option Addr} {sl18 : Array (Option Value)} {oc18 kV18 dc18 pm18 cd18 ct18 : Value} (a18 : PySem.W.findIn K (.ref c_NoPaper) "__init__" = some (some (.ref f18))) (t18 : PySem.W.typeIn K (.ref f18) = some (.type "function"))
    (na_NoPaper_found : PySem.W.findIn K (.ref c_NoPaper) "found" = some none)
    (l18 : K.lookup f18 = some ⟨oc18, od18, .func (PySem.W.fnOf "__init__" "NoPaper.__init__" (defArgs s_NoPaper_i) (defBody s_NoPaper_i) (defScope s_NoPaper_i) .none kV18 dc18 pm18 an18 cd18 ct18), sl18⟩) (c18 : PySem.W.codeIn K cd18 "NoPaper.__init__" = true) (k18 : PySem.W.keepIn K (.ref f18) = true)
    {f19 : Addr} {od19 an19 : Option Addr} {sl19 : Array (Option Value)} {oc19 kV19 dc19 pm19 cd19 ct19 : Value} (a19 : PySem.W.findIn K (.ref c_NoPlan) "__init__" = some (some (.ref f19))) (t19 : PySem.W.typeIn K (.ref f19) = some (.type "function"))
    (na_NoPlan_at : PySem.W.findIn K (.ref c_NoPlan) "at" = some none)
    (l19 : K.lookup f19 = some ⟨oc19, od19, .func (PySem.W.fnOf "__init__" "NoPlan.__init__" (defArgs s_NoPlan_i) (defBody s_NoPlan_i) (defScope s_NoPlan_i) .none kV19 dc19 pm19 an19 cd19 ct19), sl19⟩) (c19 : PySem.W.codeIn K cd19 "NoPlan.__init__" = true) (k19 : PySem.W.keepIn K (.ref f19) = true)
    {f20 : Addr} {od20 an20 : Option Addr} {sl20 : Array (Option Value)} {oc20 kV20 dc20 pm20 cd20 ct20 : Value} (a20 : PySem.W.findIn K (.ref c_NoLine) "__init__" = some (some (.ref f20))) (t20 : PySem.W.typeIn K (.ref f20) = some (.type "function"))
    (na_NoLine_line : PySem.W.findIn K (.ref c_NoLine) "line" = some none)
    (l20 : K.lookup f20 = some ⟨oc20, od20, .func (PySem.W.fnOf "__init__" "NoLine.__init__" (defArgs s_NoLine_i) (defBody s_NoLine_i) (defScope s_NoLine_i) .none kV20 dc20 pm20 an20 cd20 ct20), sl20⟩) (c20 : PySem.W.codeIn K cd20 "NoLine.__init__" = true) (k20 : PySem.W.keepIn K (.ref f20) = true)
    {f21 : Addr} {od21 an21 : Option Addr} {sl21 : Array (Option Value)} {oc21 kV21 dc21 pm21 cd21 ct21 : Value} (a21 : PySem.W.findIn K (.ref c_NoHolder) "__init__" = some (some (.ref f21))) (t21 : PySem.W.typeIn K (.ref f21) = some (.type "function"))
    (na_NoHolder_found : PySem.W.findIn K (.ref c_NoHolder) "found" = some none)
    (l21 : K.lookup f21 = some ⟨oc21, od21, .func (PySem.W.fnOf "__init__" "NoHolder.__init__" (defArgs s_NoHolder_i) (defBody s_NoHolder_i) (defScope s_NoHolder_i) .none kV21 dc21 pm21 an21 cd21 ct21), sl21⟩) (c21 : PySem.W.codeIn K cd21 "NoHolder.__init__" = true) (k21 : PySem.W.keepIn K (.ref f21) = true)
    {f22 : Addr} {od22 an22 : Option Addr} {sl22 : Array (Option Value)} {oc22 kV22 dc22 pm22 cd22 ct22 : Value} (a22 : PySem.W.findIn K (.ref c_TooWide) "__init__" = some (some (.ref f22))) (t22 : PySem.W.typeIn K (.ref f22) = some (.type "function"))
    (na_TooWide_total : PySem.W.findIn K (.ref c_TooWide) "total" = some none)
    (l22 : K.lookup f22 = some ⟨oc22, od22, .func (PySem.W.fnOf "__init__" "TooWide.__init__" (defArgs s_TooWide_i) (defBody s_TooWide_i) (defScope s_TooWide_i) .none kV22 dc22 pm22 an22 cd22 ct22), sl22⟩) (c22 : PySem.W.codeIn K cd22 "TooWide.__init__" = true) (k22 : PySem.W.keepIn K (.ref f22) = true)
    {f23 : Addr} {od23 an23 : Option Addr} {sl23 : Array (Option Value)} {oc23 kV23 dc23 pm23 cd23 ct23 : Value} (a23 : PySem.W.findIn K (.ref c_TooDeep) "__init__" = some (some (.ref f23))) (t23 : PySem.W.typeIn K (.ref f23) = some (.type "function"))
    (na_TooDeep_path : PySem.W.findIn K (.ref c_TooDeep) "path" = some none)
    (l23 : K.lookup f23 = some ⟨oc23, od23, .func (PySem.W.fnOf "__init__" "TooDeep.__init__" (defArgs s_TooDeep_i) (defBody s_TooDeep_i) (defScope s_TooDeep_i) .none kV23 dc23 pm23 an23 cd23 ct23), sl23⟩) (c23 : PySem.W.codeIn K cd23 "TooDeep.__init__" = true) (k23 : PySem.W.keepIn K (.ref f23) = true)
    {f24 : Addr} {od24 an24 : Option Addr} {sl24 : Array (Option Value)} {oc24 kV24 dc24 pm24 cd24 ct24 : Value} (a24 : PySem.W.findIn K (.ref c_TooMany) "__init__" = some (some (.ref f24))) (t24 : PySem.W.typeIn K (.ref f24) = some (.type "function"))
    (na_TooMany_path : PySem.W.findIn K (.ref c_TooMany) "path" = some none)
    (na_TooMany_many : PySem.W.findIn K (.ref c_TooMany) "many" = some none)
    (l24 : K.lookup f24 = some ⟨oc24, od24, .func (PySem.W.fnOf "__init__" "TooMany.__init__" (defArgs s_TooMany_i) (defBody s_TooMany_i) (defScope s_TooMany_i) .none kV24 dc24 pm24 an24 cd24 ct24), sl24⟩) (c24 : PySem.W.codeIn K cd24 "TooMany.__init__" = true) (k24 : PySem.W.keepIn K (.ref f24) = true)
    {f25 : Addr} {od25 an25 : Option Addr} {sl25 : Array (Option Value)} {oc25 kV25 dc25 pm25 cd25 ct25 : Value} (a25 : PySem.W.findIn K (.ref c_Spent) "__init__" = some (some (.ref f25))) (t25 : PySem.W.typeIn K (.ref f25) = some (.type "function"))
    (na_Spent_path : PySem.W.findIn K (.ref c_Spent) "path" = some none)
    (na_Spent_place : PySem.W.findIn K (.ref c_Spent) "place" = some none)
    (l25 : K.lookup f25 = some ⟨oc25, od25, .func (PySem.W.fnOf "__init__" "Spent.__init__" (defArgs s_Spent_i) (defBody s_Spent_i) (defScope s_Spent_i) .none kV25 dc25 pm25 an25 cd25 ct25), sl25⟩) (c25 : PySem.W.codeIn K cd25 "Spent.__init__" = true) (k25 : PySem.W.keepIn K (.ref f25) = true)
    {f26 : Addr} {od26 an26 : Option Addr} {sl26 : Array (Option Value)} {oc26 kV26 dc26 pm26 cd26 ct26 : Value} (a26 : PySem.W.findIn K (.ref c_Twice) "__init__" = some (some (.ref f26))) (t26 : PySem.W.typeIn K (.ref f26) = some (.type "function"))
    (na_Twice_name : PySem.W.findIn K (.ref c_Twice) "name" = some none)
    (l26 : K.lookup f26 = some ⟨oc26, od26, .func (PySem.W.fnOf "__init__" "Twice.__init__" (defArgs s_Twice_i) (defBody s_Twice_i) (defScope s_Twice_i) .none kV26 dc26 pm26 an26 cd26 ct26), sl26⟩) (c26 : PySem.W.codeIn K cd26 "Twice.__init__" = true) (k26 : PySem.W.keepIn K (.ref f26) = true)
    {f27 : Addr} {od27 an27 : Option Addr} {sl27 : Array (Option Value)} {oc27 kV27 dc27 pm27 cd27 ct27 : Value} (a27 : PySem.W.findIn K (.ref c_Unknown) "__init__" = some (some (.ref f27))) (t27 : PySem.W.typeIn K (.ref f27) = some (.type "function"))
    (na_Unknown_name : PySem.W.findIn K (.ref c_Unknown) "name" = some none)
    (l27 : K.lookup f27 = some ⟨oc27, od27, .func (PySem.W.fnOf "__init__" "Unknown.__init__" (defArgs s_Unknown_i) (defBody s_Unknown_i) (defScope s_Unknown_i) .none kV27 dc27 pm27 an27 cd27 ct27), sl27⟩) (c27 : PySem.W.codeIn K cd27 "Unknown.__init__" = true) (k27 : PySem.W.keepIn K (.ref f27) = true)
    {f28 : Addr} {od28 an28 : Option Addr} {sl28 : Array (Option Value)} {oc28 kV28 dc28 pm28 cd28 ct28 : Value} (a28 : PySem.W.findIn K (.ref c_NoDepth) "__init__" = some (some (.ref f28))) (t28 : PySem.W.typeIn K (.ref f28) = some (.type "function"))
    (na_NoDepth_name : PySem.W.findIn K (.ref c_NoDepth) "name" = some none)
    (na_NoDepth_at : PySem.W.findIn K (.ref c_NoDepth) "at" = some none)
    (l28 : K.lookup f28 = some ⟨oc28, od28, .func (PySem.W.fnOf "__init__" "NoDepth.__init__" (defArgs s_NoDepth_i) (defBody s_NoDepth_i) (defScope s_NoDepth_i) .none kV28 dc28 pm28 an28 cd28 ct28), sl28⟩) (c28 : PySem.W.codeIn K cd28 "NoDepth.__init__" = true) (k28 : PySem.W.keepIn K (.ref f28) = true)
    {f29 : Addr} {od29 an29 : Option Addr} {sl29 : Array (Option Value)} {oc29 kV29 dc29 pm29 cd29 ct29 : Value} (a29 : PySem.W.findIn K (.ref c_NoParts) "__init__" = some (some (.ref f29))) (t29 : PySem.W.typeIn K (.ref f29) = some (.type "function"))
    (na_NoParts_name : PySem.W.findIn K (.ref c_NoParts) "name" = some none)
    (na_NoParts_at : PySem.W.findIn K (.ref c_NoParts) "at" = some none)
    (l29 : K.lookup f29 = some ⟨oc29, od29, .func (PySem.W.fnOf "__init__" "NoParts.__init__" (defArgs s_NoParts_i) (defBody s_NoParts_i) (defScope s_NoParts_i) .none kV29 dc29 pm29 an29 cd29 ct29), sl29⟩) (c29 : PySem.W.codeIn K cd29 "NoParts.__init__" = true) (k29 : PySem.W.keepIn K (.ref f29) = true)
    {f30 : Addr} {od30 an30 : Option Addr} {sl30 : Array (Option Value)} {oc30 kV30 dc30 pm30 cd30 ct30 : Value} (a30 : PySem.W.findIn K (.ref c_Beyond) "__init__" = some (some (.ref f30))) (t30 : PySem.W.typeIn K (.ref f30) = some (.type "function"))
    (na_Beyond_name : PySem.W.findIn K (.ref c_Beyond) "name" = some none)
    (na_Beyond_place : PySem.W.findIn K (.ref c_Beyond) "place" = some none)
    (l30 : K.lookup f30 = some ⟨oc30, od30, .func (PySem.W.fnOf "__init__" "Beyond.__init__" (defArgs s_Beyond_i) (defBody s_Beyond_i) (defScope s_Beyond_i) .none kV30 dc30 pm30 an30 cd30 ct30), sl30⟩) (c30 : PySem.W.codeIn K cd30 "Beyond.__init__" = true) (k30 : PySem.W.keepIn K (.ref f30) = true)
    {f31 : Addr} {od31 an31 : Option Addr} {sl31 : Array (Option Value)} {oc31 kV31 dc31 pm31 cd31 ct31 : Value} (a31 : PySem.W.nsIn K mainGlobals "_law_cell_at" = some (some (.ref f31)))
    (l31 : K.lookup f31 = some ⟨oc31, od31, .func (PySem.W.fnOf "_law_cell_at" "_law_cell_at" (defArgs s_L_cell_at) (defBody s_L_cell_at) (defScope s_L_cell_at) .none kV31 dc31 pm31 an31 cd31 ct31), sl31⟩) (c31 : PySem.W.codeIn K cd31 "_law_cell_at" = true) (k31 : PySem.W.keepIn K (.ref f31) = true)
    {f32 : Addr} {od32 an32 : Option Addr} {sl32 : Array (Option Value)} {oc32 kV32 dc32 pm32 cd32 ct32 : Value} (a32 : PySem.W.nsIn K mainGlobals "_law_box" = some (some (.ref f32)))
    (l32 : K.lookup f32 = some ⟨oc32, od32, .func (PySem.W.fnOf "_law_box" "_law_box" (defArgs s_L_box) (defBody s_L_box) (defScope s_L_box) .none kV32 dc32 pm32 an32 cd32 ct32), sl32⟩) (c32 : PySem.W.codeIn K cd32 "_law_box" = true) (k32 : PySem.W.keepIn K (.ref f32) = true)
    {f33 : Addr} {od33 an33 : Option Addr} {sl33 : Array (Option Value)} {oc33 kV33 dc33 pm33 cd33 ct33 : Value} (a33 : PySem.W.nsIn K mainGlobals "_law_take" = some (some (.ref f33)))
    (l33 : K.lookup f33 = some ⟨oc33, od33, .func (PySem.W.fnOf "_law_take" "_law_take" (defArgs s_L_take) (defBody s_L_take) (defScope s_L_take) .none kV33 dc33 pm33 an33 cd33 ct33), sl33⟩) (c33 : PySem.W.codeIn K cd33 "_law_take" = true) (k33 : PySem.W.keepIn K (.ref f33) = true)
    {f34 : Addr} {od34 an34 : Option Addr} {sl34 : Array (Option Value)} {oc34 kV34 dc34 pm34 cd34 ct34 : Value} (a34 : PySem.W.nsIn K mainGlobals "_law_thing" = some (some (.ref f34)))
    (l34 : K.lookup f34 = some ⟨oc34, od34, .func (PySem.W.fnOf "_law_thing" "_law_thing" (defArgs s_L_thing) (defBody s_L_thing) (defScope s_L_thing) .none kV34 dc34 pm34 an34 cd34 ct34), sl34⟩) (c34 : PySem.W.codeIn K cd34 "_law_thing" = true) (k34 : PySem.W.keepIn K (.ref f34) = true)
    {f35 : Addr} {od35 an35 : Option Addr} {sl35 : Array (Option Value)} {oc35 kV35 dc35 pm35 cd35 ct35 : Value} (a35 : PySem.W.nsIn K mainGlobals "_law_found_ones" = some (some (.ref f35)))
    (l35 : K.lookup f35 = some ⟨oc35, od35, .func (PySem.W.fnOf "_law_found_ones" "_law_found_ones" (defArgs s_L_found_ones) (defBody s_L_found_ones) (defScope s_L_found_ones) .none kV35 dc35 pm35 an35 cd35 ct35), sl35⟩) (c35 : PySem.W.codeIn K cd35 "_law_found_ones" = true) (k35 : PySem.W.keepIn K (.ref f35) = true)
    {f36 : Addr} {od36 an36 : Option Addr} {sl36 : Array (Option Value)} {oc36 kV36 dc36 pm36 cd36 ct36 : Value} (a36 : PySem.W.nsIn K mainGlobals "_law_made" = some (some (.ref f36)))
    (l36 : K.lookup f36 = some ⟨oc36, od36, .func (PySem.W.fnOf "_law_made" "_law_made" (defArgs s_L_made) (defBody s_L_made) (defScope s_L_made) .none kV36 dc36 pm36 an36 cd36 ct36), sl36⟩) (c36 : PySem.W.codeIn K cd36 "_law_made" = true) (k36 : PySem.W.keepIn K (.ref f36) = true)
    {f37 : Addr} {od37 an37 : Option Addr} {sl37 : Array (Option Value)} {oc37 kV37 dc37 pm37 cd37 ct37 : Value} (a37 : PySem.W.nsIn K mainGlobals "_law_twos" = some (some (.ref f37)))
    (l37 : K.lookup f37 = some ⟨oc37, od37, .func (PySem.W.fnOf "_law_twos" "_law_twos" (defArgs s_L_twos) (defBody s_L_twos) (defScope s_L_twos) .none kV37 dc37 pm37 an37 cd37 ct37), sl37⟩) (c37 : PySem.W.codeIn K cd37 "_law_twos" = true) (k37 : PySem.W.keepIn K (.ref f37) = true)
    {f38 : Addr} {od38 an38 : Option Addr} {sl38 : Array (Option Value)} {oc38 kV38 dc38 pm38 cd38 ct38 : Value} (a38 : PySem.W.nsIn K mainGlobals "_law_kinds" = some (some (.ref f38)))
    (l38 : K.lookup f38 = some ⟨oc38, od38, .func (PySem.W.fnOf "_law_kinds" "_law_kinds" (defArgs s_L_kinds) (defBody s_L_kinds) (defScope s_L_kinds) .none kV38 dc38 pm38 an38 cd38 ct38), sl38⟩) (c38 : PySem.W.codeIn K cd38 "_law_kinds" = true) (k38 : PySem.W.keepIn K (.ref f38) = true)
    {f39 : Addr} {od39 an39 : Option Addr} {sl39 : Array (Option Value)} {oc39 kV39 dc39 pm39 cd39 ct39 : Value} (a39 : PySem.W.nsIn K mainGlobals "_law_same" = some (some (.ref f39)))
    (l39 : K.lookup f39 = some ⟨oc39, od39, .func (PySem.W.fnOf "_law_same" "_law_same" (defArgs s_L_same) (defBody s_L_same) (defScope s_L_same) .none kV39 dc39 pm39 an39 cd39 ct39), sl39⟩) (c39 : PySem.W.codeIn K cd39 "_law_same" = true) (k39 : PySem.W.keepIn K (.ref f39) = true)
    {f40 : Addr} {od40 an40 : Option Addr} {sl40 : Array (Option Value)} {oc40 kV40 dc40 pm40 cd40 ct40 : Value} (a40 : PySem.W.nsIn K mainGlobals "law" = some (some (.ref f40)))
    (l40 : K.lookup f40 = some ⟨oc40, od40, .func (PySem.W.fnOf "law" "law" (defArgs s_law) (defBody s_law) (defScope s_law) .none kV40 dc40 pm40 an40 cd40 ct40), sl40⟩) (c40 : PySem.W.codeIn K cd40 "law" = true) (k40 : PySem.W.keepIn K (.ref f40) = true)
    (sp_SeedError : PySem.W.specialIn K (.ref c_SeedError) "__getattribute__" = some (some (.builtin "type.__getattribute__"))) (rd_SeedError : PySem.W.readsIn K c_SeedError (.type "type") = true) (fc_SeedError : PySem.W.findCls K (.ref c_SeedError) (.type "type") "__init__" = some (.val (.ref f0)))
    (fv : PySem.W.findCls K (.type "ValueError") (.type "type") "__init__" = some (.val (.builtin vInit)))
    (z_ValueError : PySem.W.nsIn K mainGlobals "ValueError" = some none)
    (z_all : PySem.W.nsIn K mainGlobals "all" = some none)
    (z_bool : PySem.W.nsIn K mainGlobals "bool" = some none)
    (z_dict : PySem.W.nsIn K mainGlobals "dict" = some none)
    (z_enumerate : PySem.W.nsIn K mainGlobals "enumerate" = some none)
    (z_int : PySem.W.nsIn K mainGlobals "int" = some none)
    (z_isinstance : PySem.W.nsIn K mainGlobals "isinstance" = some none)
    (z_len : PySem.W.nsIn K mainGlobals "len" = some none)
    (z_list : PySem.W.nsIn K mainGlobals "list" = some none)
    (z_max : PySem.W.nsIn K mainGlobals "max" = some none)
    (z_min : PySem.W.nsIn K mainGlobals "min" = some none)
    (z_range : PySem.W.nsIn K mainGlobals "range" = some none)
    (z_zip : PySem.W.nsIn K mainGlobals "zip" = some none)
    (nd : [c_SeedError, c_NoNumber, c_NoWidth, c_NoStep, c_NoMachine, c_NoSeed, c_NoPath, c_NoPlace, c_NoState, c_NoHand, c_NoName, c_NoOrder, c_NoSet, c_NoShares, c_NoShape, c_NoRow, c_NoPaper, c_NoHolder, c_NoText, c_NoJoin, c_NoPlan, c_NoLine, c_TooWide, c_TooDeep, c_Twice, c_Unknown, c_TooMany, c_Spent, c_NoDepth, c_NoParts, c_Beyond].Nodup)
    (cl_SeedError : PySem.W.findIn K (.ref c_SeedError) "__class__" = some (some (.builtin "object.__class__"))) (mo_SeedError : PySem.W.mroIn K c_SeedError (.type "object") = some true)
    (cl_NoNumber : PySem.W.findIn K (.ref c_NoNumber) "__class__" = some (some (.builtin "object.__class__"))) (mo_NoNumber : PySem.W.mroIn K c_NoNumber (.type "object") = some true)
    (cl_NoWidth : PySem.W.findIn K (.ref c_NoWidth) "__class__" = some (some (.builtin "object.__class__"))) (mo_NoWidth : PySem.W.mroIn K c_NoWidth (.type "object") = some true)
    (cl_NoStep : PySem.W.findIn K (.ref c_NoStep) "__class__" = some (some (.builtin "object.__class__"))) (mo_NoStep : PySem.W.mroIn K c_NoStep (.type "object") = some true)
    (cl_NoMachine : PySem.W.findIn K (.ref c_NoMachine) "__class__" = some (some (.builtin "object.__class__"))) (mo_NoMachine : PySem.W.mroIn K c_NoMachine (.type "object") = some true)
    (cl_NoSeed : PySem.W.findIn K (.ref c_NoSeed) "__class__" = some (some (.builtin "object.__class__"))) (mo_NoSeed : PySem.W.mroIn K c_NoSeed (.type "object") = some true)
    (cl_NoPath : PySem.W.findIn K (.ref c_NoPath) "__class__" = some (some (.builtin "object.__class__"))) (mo_NoPath : PySem.W.mroIn K c_NoPath (.type "object") = some true)
    (cl_NoPlace : PySem.W.findIn K (.ref c_NoPlace) "__class__" = some (some (.builtin "object.__class__"))) (mo_NoPlace : PySem.W.mroIn K c_NoPlace (.type "object") = some true)
    (cl_NoState : PySem.W.findIn K (.ref c_NoState) "__class__" = some (some (.builtin "object.__class__"))) (mo_NoState : PySem.W.mroIn K c_NoState (.type "object") = some true)
    (cl_NoHand : PySem.W.findIn K (.ref c_NoHand) "__class__" = some (some (.builtin "object.__class__"))) (mo_NoHand : PySem.W.mroIn K c_NoHand (.type "object") = some true)
    (cl_NoName : PySem.W.findIn K (.ref c_NoName) "__class__" = some (some (.builtin "object.__class__"))) (mo_NoName : PySem.W.mroIn K c_NoName (.type "object") = some true)
    (cl_NoOrder : PySem.W.findIn K (.ref c_NoOrder) "__class__" = some (some (.builtin "object.__class__"))) (mo_NoOrder : PySem.W.mroIn K c_NoOrder (.type "object") = some true)
    (cl_NoSet : PySem.W.findIn K (.ref c_NoSet) "__class__" = some (some (.builtin "object.__class__"))) (mo_NoSet : PySem.W.mroIn K c_NoSet (.type "object") = some true)
    (cl_NoShares : PySem.W.findIn K (.ref c_NoShares) "__class__" = some (some (.builtin "object.__class__"))) (mo_NoShares : PySem.W.mroIn K c_NoShares (.type "object") = some true)
    (cl_NoShape : PySem.W.findIn K (.ref c_NoShape) "__class__" = some (some (.builtin "object.__class__"))) (mo_NoShape : PySem.W.mroIn K c_NoShape (.type "object") = some true)
    (cl_NoRow : PySem.W.findIn K (.ref c_NoRow) "__class__" = some (some (.builtin "object.__class__"))) (mo_NoRow : PySem.W.mroIn K c_NoRow (.type "object") = some true)
    (cl_NoPaper : PySem.W.findIn K (.ref c_NoPaper) "__class__" = some (some (.builtin "object.__class__"))) (mo_NoPaper : PySem.W.mroIn K c_NoPaper (.type "object") = some true)
    (cl_NoHolder : PySem.W.findIn K (.ref c_NoHolder) "__class__" = some (some (.builtin "object.__class__"))) (mo_NoHolder : PySem.W.mroIn K c_NoHolder (.type "object") = some true)
    (cl_NoText : PySem.W.findIn K (.ref c_NoText) "__class__" = some (some (.builtin "object.__class__"))) (mo_NoText : PySem.W.mroIn K c_NoText (.type "object") = some true)
    (cl_NoJoin : PySem.W.findIn K (.ref c_NoJoin) "__class__" = some (some (.builtin "object.__class__"))) (mo_NoJoin : PySem.W.mroIn K c_NoJoin (.type "object") = some true)
    (cl_NoPlan : PySem.W.findIn K (.ref c_NoPlan) "__class__" = some (some (.builtin "object.__class__"))) (mo_NoPlan : PySem.W.mroIn K c_NoPlan (.type "object") = some true)
    (cl_NoLine : PySem.W.findIn K (.ref c_NoLine) "__class__" = some (some (.builtin "object.__class__"))) (mo_NoLine : PySem.W.mroIn K c_NoLine (.type "object") = some true)
    (cl_TooWide : PySem.W.findIn K (.ref c_TooWide) "__class__" = some (some (.builtin "object.__class__"))) (mo_TooWide : PySem.W.mroIn K c_TooWide (.type "object") = some true)
    (cl_TooDeep : PySem.W.findIn K (.ref c_TooDeep) "__class__" = some (some (.builtin "object.__class__"))) (mo_TooDeep : PySem.W.mroIn K c_TooDeep (.type "object") = some true)
    (cl_Twice : PySem.W.findIn K (.ref c_Twice) "__class__" = some (some (.builtin "object.__class__"))) (mo_Twice : PySem.W.mroIn K c_Twice (.type "object") = some true)
    (cl_Unknown : PySem.W.findIn K (.ref c_Unknown) "__class__" = some (some (.builtin "object.__class__"))) (mo_Unknown : PySem.W.mroIn K c_Unknown (.type "object") = some true)
    (cl_TooMany : PySem.W.findIn K (.ref c_TooMany) "__class__" = some (some (.builtin "object.__class__"))) (mo_TooMany : PySem.W.mroIn K c_TooMany (.type "object") = some true)
    (cl_Spent : PySem.W.findIn K (.ref c_Spent) "__class__" = some (some (.builtin "object.__class__"))) (mo_Spent : PySem.W.mroIn K c_Spent (.type "object") = some true)
    (cl_NoDepth : PySem.W.findIn K (.ref c_NoDepth) "__class__" = some (some (.builtin "object.__class__"))) (mo_NoDepth : PySem.W.mroIn K c_NoDepth (.type "object") = some true)
    (cl_NoParts : PySem.W.findIn K (.ref c_NoParts) "__class__" = some (some (.builtin "object.__class__"))) (mo_NoParts : PySem.W.mroIn K c_NoParts (.type "object") = some true)
    (cl_Beyond : PySem.W.findIn K (.ref c_Beyond) "__class__" = some (some (.builtin "object.__class__"))) (mo_Beyond : PySem.W.mroIn K c_Beyond (.type "object") = some true) :
    ∃ fd : FuncData, (∀ (s : Shared) (v : Value), BindsTo s fd ⟨[v], []⟩ [("_law_script", v)]) ∧ ∀ base : Heap, K.In base → base.Ns mainGlobals mg → FnOk l.prog w K mg base CX0 6 fa fd ["_law_script"] (spLaw K) := by
  have e := hfa.symm.trans (PySem.W.mg_of X G a40)
  cases e
  have F0 := fun_mk (st := s_SeedError_i) l0 c0 k0
  have b0 := F0.binds (ps := ["self", "text"]) fun _ _ _ _ _ _ us hl => match us, hl with | [_, _], _ => rfl
  have F1 := fun_mk (st := s_NoNumber_i) l1 c1 k1
  have b1 := F1.binds (ps := ["self", "found"]) fun _ _ _ _ _ _ us hl => match us, hl with | [_, _], _ => rfl
  have F2 := fun_mk (st := s_NoWidth_i) l2 c2 k2
  have b2 := F2.binds (ps := ["self", "found"]) fun _ _ _ _ _ _ us hl => match us, hl with | [_, _], _ => rfl
  have F3 := fun_mk (st := s_NoStep_i) l3 c3 k3
  have b3 := F3.binds (ps := ["self", "found"]) fun _ _ _ _ _ _ us hl => match us, hl with | [_, _], _ => rfl
  have F4 := fun_mk (st := s_NoMachine_i) l4 c4 k4
  have b4 := F4.binds (ps := ["self", "found"]) fun _ _ _ _ _ _ us hl => match us, hl with | [_, _], _ => rfl
  have F5 := fun_mk (st := s_NoSeed_i) l5 c5 k5
  have b5 := F5.binds (ps := ["self", "found"]) fun _ _ _ _ _ _ us hl => match us, hl with | [_, _], _ => rfl
  have F6 := fun_mk (st := s_NoPath_i) l6 c6 k6
  have b6 := F6.binds (ps := ["self", "found"]) fun _ _ _ _ _ _ us hl => match us, hl with | [_, _], _ => rfl
  have F7 := fun_mk (st := s_NoPlace_i) l7 c7 k7
  have b7 := F7.binds (ps := ["self", "found"]) fun _ _ _ _ _ _ us hl => match us, hl with | [_, _], _ => rfl
  have F8 := fun_mk (st := s_NoState_i) l8 c8 k8
  have b8 := F8.binds (ps := ["self", "found"]) fun _ _ _ _ _ _ us hl => match us, hl with | [_, _], _ => rfl
  have F9 := fun_mk (st := s_NoText_i) l9 c9 k9
  have b9 := F9.binds (ps := ["self", "at"]) fun _ _ _ _ _ _ us hl => match us, hl with | [_, _], _ => rfl
  have F10 := fun_mk (st := s_NoHand_i) l10 c10 k10
  have b10 := F10.binds (ps := ["self", "found"]) fun _ _ _ _ _ _ us hl => match us, hl with | [_, _], _ => rfl
  have F11 := fun_mk (st := s_NoJoin_i) l11 c11 k11
  have b11 := F11.binds (ps := ["self", "at"]) fun _ _ _ _ _ _ us hl => match us, hl with | [_, _], _ => rfl
  have F12 := fun_mk (st := s_NoName_i) l12 c12 k12
  have b12 := F12.binds (ps := ["self", "found"]) fun _ _ _ _ _ _ us hl => match us, hl with | [_, _], _ => rfl
  have F13 := fun_mk (st := s_NoOrder_i) l13 c13 k13
  have b13 := F13.binds (ps := ["self", "found"]) fun _ _ _ _ _ _ us hl => match us, hl with | [_, _], _ => rfl
  have F14 := fun_mk (st := s_NoSet_i) l14 c14 k14
  have b14 := F14.binds (ps := ["self", "found"]) fun _ _ _ _ _ _ us hl => match us, hl with | [_, _], _ => rfl
  have F15 := fun_mk (st := s_NoShares_i) l15 c15 k15
  have b15 := F15.binds (ps := ["self", "found"]) fun _ _ _ _ _ _ us hl => match us, hl with | [_, _], _ => rfl
  have F16 := fun_mk (st := s_NoShape_i) l16 c16 k16
  have b16 := F16.binds (ps := ["self", "found"]) fun _ _ _ _ _ _ us hl => match us, hl with | [_, _], _ => rfl
  have F17 := fun_mk (st := s_NoRow_i) l17 c17 k17
  have b17 := F17.binds (ps := ["self", "found"]) fun _ _ _ _ _ _ us hl => match us, hl with | [_, _], _ => rfl
  have F18 := fun_mk (st := s_NoPaper_i) l18 c18 k18
  have b18 := F18.binds (ps := ["self", "found"]) fun _ _ _ _ _ _ us hl => match us, hl with | [_, _], _ => rfl
  have F19 := fun_mk (st := s_NoPlan_i) l19 c19 k19
  have b19 := F19.binds (ps := ["self", "at"]) fun _ _ _ _ _ _ us hl => match us, hl with | [_, _], _ => rfl
  have F20 := fun_mk (st := s_NoLine_i) l20 c20 k20
  have b20 := F20.binds (ps := ["self", "line"]) fun _ _ _ _ _ _ us hl => match us, hl with | [_, _], _ => rfl
  have F21 := fun_mk (st := s_NoHolder_i) l21 c21 k21
  have b21 := F21.binds (ps := ["self", "found"]) fun _ _ _ _ _ _ us hl => match us, hl with | [_, _], _ => rfl
  have F22 := fun_mk (st := s_TooWide_i) l22 c22 k22
  have b22 := F22.binds (ps := ["self", "total"]) fun _ _ _ _ _ _ us hl => match us, hl with | [_, _], _ => rfl
  have F23 := fun_mk (st := s_TooDeep_i) l23 c23 k23
  have b23 := F23.binds (ps := ["self", "path"]) fun _ _ _ _ _ _ us hl => match us, hl with | [_, _], _ => rfl
  have F24 := fun_mk (st := s_TooMany_i) l24 c24 k24
  have b24 := F24.binds (ps := ["self", "path", "many"]) fun _ _ _ _ _ _ us hl => match us, hl with | [_, _, _], _ => rfl
  have F25 := fun_mk (st := s_Spent_i) l25 c25 k25
  have b25 := F25.binds (ps := ["self", "path", "place"]) fun _ _ _ _ _ _ us hl => match us, hl with | [_, _, _], _ => rfl
  have F26 := fun_mk (st := s_Twice_i) l26 c26 k26
  have b26 := F26.binds (ps := ["self", "name"]) fun _ _ _ _ _ _ us hl => match us, hl with | [_, _], _ => rfl
  have F27 := fun_mk (st := s_Unknown_i) l27 c27 k27
  have b27 := F27.binds (ps := ["self", "name"]) fun _ _ _ _ _ _ us hl => match us, hl with | [_, _], _ => rfl
  have F28 := fun_mk (st := s_NoDepth_i) l28 c28 k28
  have b28 := F28.binds (ps := ["self", "name", "at"]) fun _ _ _ _ _ _ us hl => match us, hl with | [_, _, _], _ => rfl
  have F29 := fun_mk (st := s_NoParts_i) l29 c29 k29
  have b29 := F29.binds (ps := ["self", "name", "at"]) fun _ _ _ _ _ _ us hl => match us, hl with | [_, _, _], _ => rfl
  have F30 := fun_mk (st := s_Beyond_i) l30 c30 k30
  have b30 := F30.binds (ps := ["self", "name", "place"]) fun _ _ _ _ _ _ us hl => match us, hl with | [_, _, _], _ => rfl
  have F31 := fun_mk (st := s_L_cell_at) l31 c31 k31
  have b31 := F31.binds (ps := ["_law_script", "_law_k"]) fun _ _ _ _ _ _ us hl => match us, hl with | [_, _], _ => rfl
  have F32 := fun_mk (st := s_L_box) l32 c32 k32
  have b32 := F32.binds (ps := ["_law_cell"]) fun _ _ _ _ _ _ us hl => match us, hl with | [_], _ => rfl
  have F33 := fun_mk (st := s_L_take) l33 c33 k33
  have b33 := F33.binds (ps := ["_law_box_here", "_law_many"]) fun _ _ _ _ _ _ us hl => match us, hl with | [_, _], _ => rfl
  have F34 := fun_mk (st := s_L_thing) l34 c34 k34
  have b34 := F34.binds (ps := ["_law_box_here"]) fun _ _ _ _ _ _ us hl => match us, hl with | [_], _ => rfl
  have F35 := fun_mk (st := s_L_found_ones) l35 c35 k35
  have b35 := F35.binds (ps := ["_law_one"]) fun _ _ _ _ _ _ us hl => match us, hl with | [_], _ => rfl
  have F36 := fun_mk (st := s_L_made) l36 c36 k36
  have b36 := F36.binds (ps := ["_law_one", "_law_other"]) fun _ _ _ _ _ _ us hl => match us, hl with | [_, _], _ => rfl
  have F37 := fun_mk (st := s_L_twos) l37 c37 k37
  have b37 := F37.binds (ps := ["_law_one", "_law_other"]) fun _ _ _ _ _ _ us hl => match us, hl with | [_, _], _ => rfl
  have F38 := fun_mk (st := s_L_kinds) l38 c38 k38
  have b38 := F38.binds (ps := ["_law_e"]) fun _ _ _ _ _ _ us hl => match us, hl with | [_], _ => rfl
  have F39 := fun_mk (st := s_L_same) l39 c39 k39
  have b39 := F39.binds (ps := ["_law_found", "_law_due"]) fun _ _ _ _ _ _ us hl => match us, hl with | [_, _], _ => rfl
  have F40 := fun_mk (st := s_law) l40 c40 k40
  have b40 := F40.binds (ps := ["_law_script"]) fun _ _ _ _ _ _ us hl => match us, hl with | [_], _ => rfl
  have hx : ∀ C ∈ [c_NoNumber, c_NoWidth, c_NoStep, c_NoMachine, c_NoSeed, c_NoPath, c_NoPlace, c_NoState, c_NoHand, c_NoName, c_NoOrder, c_NoSet, c_NoShares, c_NoShape, c_NoRow, c_NoPaper, c_NoHolder, c_NoText, c_NoJoin, c_NoPlan, c_NoLine, c_TooWide, c_TooDeep, c_Twice, c_Unknown, c_TooMany, c_Spent, c_NoDepth, c_NoParts, c_Beyond], XC0 K C [c_SeedError] := by
    intro C hC
    simp only [List.mem_cons, List.not_mem_nil, or_false] at hC
    rcases hC with e | e | e | e | e | e | e | e | e | e | e | e | e | e | e | e | e | e | e | e | e | e | e | e | e | e | e | e | e | e
    · rw [e]; exact xc_of lk_NoNumber
    · rw [e]; exact xc_of lk_NoWidth
    · rw [e]; exact xc_of lk_NoStep
    · rw [e]; exact xc_of lk_NoMachine
    · rw [e]; exact xc_of lk_NoSeed
    · rw [e]; exact xc_of lk_NoPath
    · rw [e]; exact xc_of lk_NoPlace
    · rw [e]; exact xc_of lk_NoState
    · rw [e]; exact xc_of lk_NoHand
    · rw [e]; exact xc_of lk_NoName
    · rw [e]; exact xc_of lk_NoOrder
    · rw [e]; exact xc_of lk_NoSet
    · rw [e]; exact xc_of lk_NoShares
    · rw [e]; exact xc_of lk_NoShape
    · rw [e]; exact xc_of lk_NoRow
    · rw [e]; exact xc_of lk_NoPaper
    · rw [e]; exact xc_of lk_NoHolder
    · rw [e]; exact xc_of lk_NoText
    · rw [e]; exact xc_of lk_NoJoin
    · rw [e]; exact xc_of lk_NoPlan
    · rw [e]; exact xc_of lk_NoLine
    · rw [e]; exact xc_of lk_TooWide
    · rw [e]; exact xc_of lk_TooDeep
    · rw [e]; exact xc_of lk_Twice
    · rw [e]; exact xc_of lk_Unknown
    · rw [e]; exact xc_of lk_TooMany
    · rw [e]; exact xc_of lk_Spent
    · rw [e]; exact xc_of lk_NoDepth
    · rw [e]; exact xc_of lk_NoParts
    · rw [e]; exact xc_of lk_Beyond
  have hk := kits_of (cs := [c_NoNumber, c_NoWidth, c_NoStep, c_NoMachine, c_NoSeed, c_NoPath, c_NoPlace, c_NoState, c_NoHand, c_NoName, c_NoOrder, c_NoSet, c_NoShares, c_NoShape, c_NoRow, c_NoPaper, c_NoHolder, c_NoText, c_NoJoin, c_NoPlan, c_NoLine, c_TooWide, c_TooDeep, c_Twice, c_Unknown, c_TooMany, c_Spent, c_NoDepth, c_NoParts, c_Beyond]) (xc_of (l := []) lk_SeedError) hx nd
  have hxk : ∀ C ∈ [c_SeedError, c_NoNumber, c_NoWidth, c_NoStep, c_NoMachine, c_NoSeed, c_NoPath, c_NoPlace, c_NoState, c_NoHand, c_NoName, c_NoOrder, c_NoSet, c_NoShares, c_NoShape, c_NoRow, c_NoPaper, c_NoHolder, c_NoText, c_NoJoin, c_NoPlan, c_NoLine, c_TooWide, c_TooDeep, c_Twice, c_Unknown, c_TooMany, c_Spent, c_NoDepth, c_NoParts, c_Beyond], XKnd K C := by
    intro C hC
    simp only [List.mem_cons, List.not_mem_nil, or_false] at hC
    rcases hC with e | e | e | e | e | e | e | e | e | e | e | e | e | e | e | e | e | e | e | e | e | e | e | e | e | e | e | e | e | e | e
    · rw [e]; exact ⟨⟨⟨_, xst_mk lk_SeedError⟩, sa_SeedError, ga_SeedError, gt_SeedError⟩, cl_SeedError, mo_SeedError⟩
    · rw [e]; exact ⟨⟨⟨_, xst_mk lk_NoNumber⟩, sa_NoNumber, ga_NoNumber, gt_NoNumber⟩, cl_NoNumber, mo_NoNumber⟩
    · rw [e]; exact ⟨⟨⟨_, xst_mk lk_NoWidth⟩, sa_NoWidth, ga_NoWidth, gt_NoWidth⟩, cl_NoWidth, mo_NoWidth⟩
    · rw [e]; exact ⟨⟨⟨_, xst_mk lk_NoStep⟩, sa_NoStep, ga_NoStep, gt_NoStep⟩, cl_NoStep, mo_NoStep⟩
    · rw [e]; exact ⟨⟨⟨_, xst_mk lk_NoMachine⟩, sa_NoMachine, ga_NoMachine, gt_NoMachine⟩, cl_NoMachine, mo_NoMachine⟩
    · rw [e]; exact ⟨⟨⟨_, xst_mk lk_NoSeed⟩, sa_NoSeed, ga_NoSeed, gt_NoSeed⟩, cl_NoSeed, mo_NoSeed⟩
    · rw [e]; exact ⟨⟨⟨_, xst_mk lk_NoPath⟩, sa_NoPath, ga_NoPath, gt_NoPath⟩, cl_NoPath, mo_NoPath⟩
    · rw [e]; exact ⟨⟨⟨_, xst_mk lk_NoPlace⟩, sa_NoPlace, ga_NoPlace, gt_NoPlace⟩, cl_NoPlace, mo_NoPlace⟩
    · rw [e]; exact ⟨⟨⟨_, xst_mk lk_NoState⟩, sa_NoState, ga_NoState, gt_NoState⟩, cl_NoState, mo_NoState⟩
    · rw [e]; exact ⟨⟨⟨_, xst_mk lk_NoHand⟩, sa_NoHand, ga_NoHand, gt_NoHand⟩, cl_NoHand, mo_NoHand⟩
    · rw [e]; exact ⟨⟨⟨_, xst_mk lk_NoName⟩, sa_NoName, ga_NoName, gt_NoName⟩, cl_NoName, mo_NoName⟩
    · rw [e]; exact ⟨⟨⟨_, xst_mk lk_NoOrder⟩, sa_NoOrder, ga_NoOrder, gt_NoOrder⟩, cl_NoOrder, mo_NoOrder⟩
    · rw [e]; exact ⟨⟨⟨_, xst_mk lk_NoSet⟩, sa_NoSet, ga_NoSet, gt_NoSet⟩, cl_NoSet, mo_NoSet⟩
    · rw [e]; exact ⟨⟨⟨_, xst_mk lk_NoShares⟩, sa_NoShares, ga_NoShares, gt_NoShares⟩, cl_NoShares, mo_NoShares⟩
    · rw [e]; exact ⟨⟨⟨_, xst_mk lk_NoShape⟩, sa_NoShape, ga_NoShape, gt_NoShape⟩, cl_NoShape, mo_NoShape⟩
    · rw [e]; exact ⟨⟨⟨_, xst_mk lk_NoRow⟩, sa_NoRow, ga_NoRow, gt_NoRow⟩, cl_NoRow, mo_NoRow⟩
    · rw [e]; exact ⟨⟨⟨_, xst_mk lk_NoPaper⟩, sa_NoPaper, ga_NoPaper, gt_NoPaper⟩, cl_NoPaper, mo_NoPaper⟩
    · rw [e]; exact ⟨⟨⟨_, xst_mk lk_NoHolder⟩, sa_NoHolder, ga_NoHolder, gt_NoHolder⟩, cl_NoHolder, mo_NoHolder⟩
    · rw [e]; exact ⟨⟨⟨_, xst_mk lk_NoText⟩, sa_NoText, ga_NoText, gt_NoText⟩, cl_NoText, mo_NoText⟩
    · rw [e]; exact ⟨⟨⟨_, xst_mk lk_NoJoin⟩, sa_NoJoin, ga_NoJoin, gt_NoJoin⟩, cl_NoJoin, mo_NoJoin⟩
    · rw [e]; exact ⟨⟨⟨_, xst_mk lk_NoPlan⟩, sa_NoPlan, ga_NoPlan, gt_NoPlan⟩, cl_NoPlan, mo_NoPlan⟩
    · rw [e]; exact ⟨⟨⟨_, xst_mk lk_NoLine⟩, sa_NoLine, ga_NoLine, gt_NoLine⟩, cl_NoLine, mo_NoLine⟩
    · rw [e]; exact ⟨⟨⟨_, xst_mk lk_TooWide⟩, sa_TooWide, ga_TooWide, gt_TooWide⟩, cl_TooWide, mo_TooWide⟩
    · rw [e]; exact ⟨⟨⟨_, xst_mk lk_TooDeep⟩, sa_TooDeep, ga_TooDeep, gt_TooDeep⟩, cl_TooDeep, mo_TooDeep⟩
    · rw [e]; exact ⟨⟨⟨_, xst_mk lk_Twice⟩, sa_Twice, ga_Twice, gt_Twice⟩, cl_Twice, mo_Twice⟩
    · rw [e]; exact ⟨⟨⟨_, xst_mk lk_Unknown⟩, sa_Unknown, ga_Unknown, gt_Unknown⟩, cl_Unknown, mo_Unknown⟩
    · rw [e]; exact ⟨⟨⟨_, xst_mk lk_TooMany⟩, sa_TooMany, ga_TooMany, gt_TooMany⟩, cl_TooMany, mo_TooMany⟩
    · rw [e]; exact ⟨⟨⟨_, xst_mk lk_Spent⟩, sa_Spent, ga_Spent, gt_Spent⟩, cl_Spent, mo_Spent⟩
    · rw [e]; exact ⟨⟨⟨_, xst_mk lk_NoDepth⟩, sa_NoDepth, ga_NoDepth, gt_NoDepth⟩, cl_NoDepth, mo_NoDepth⟩
    · rw [e]; exact ⟨⟨⟨_, xst_mk lk_NoParts⟩, sa_NoParts, ga_NoParts, gt_NoParts⟩, cl_NoParts, mo_NoParts⟩
    · rw [e]; exact ⟨⟨⟨_, xst_mk lk_Beyond⟩, sa_Beyond, ga_Beyond, gt_Beyond⟩, cl_Beyond, mo_Beyond⟩
  exact ⟨PySem.W.fnOf "law" "law" (defArgs s_law) (defBody s_law) (defScope s_law) .none kV40 dc40 pm40 an40 cd40 ct40, fun s v => .of_eq rfl, fun base _ _ => ok_law (P := l.prog) (w := w) (base := base) ⟨_, PySem.W.mg_of X G mc_SeedError, ⟨⟨_, xst_mk lk_SeedError⟩, sa_SeedError, ga_SeedError, gt_SeedError⟩, kc_SeedError, _, PySem.W.mg_of X G mc_NoNumber, ⟨⟨_, xst_mk lk_NoNumber⟩, sa_NoNumber, ga_NoNumber, gt_NoNumber⟩, kc_NoNumber, _, PySem.W.mg_of X G mc_NoWidth, ⟨⟨_, xst_mk lk_NoWidth⟩, sa_NoWidth, ga_NoWidth, gt_NoWidth⟩, kc_NoWidth, _, PySem.W.mg_of X G mc_NoStep, ⟨⟨_, xst_mk lk_NoStep⟩, sa_NoStep, ga_NoStep, gt_NoStep⟩, kc_NoStep, _, PySem.W.mg_of X G mc_NoMachine, ⟨⟨_, xst_mk lk_NoMachine⟩, sa_NoMachine, ga_NoMachine, gt_NoMachine⟩, kc_NoMachine, _, PySem.W.mg_of X G mc_NoSeed, ⟨⟨_, xst_mk lk_NoSeed⟩, sa_NoSeed, ga_NoSeed, gt_NoSeed⟩, kc_NoSeed, _, PySem.W.mg_of X G mc_NoPath, ⟨⟨_, xst_mk lk_NoPath⟩, sa_NoPath, ga_NoPath, gt_NoPath⟩, kc_NoPath, _, PySem.W.mg_of X G mc_NoPlace, ⟨⟨_, xst_mk lk_NoPlace⟩, sa_NoPlace, ga_NoPlace, gt_NoPlace⟩, kc_NoPlace, _, PySem.W.mg_of X G mc_NoState, ⟨⟨_, xst_mk lk_NoState⟩, sa_NoState, ga_NoState, gt_NoState⟩, kc_NoState, _, PySem.W.mg_of X G mc_NoText, ⟨⟨_, xst_mk lk_NoText⟩, sa_NoText, ga_NoText, gt_NoText⟩, kc_NoText, _, PySem.W.mg_of X G mc_NoHand, ⟨⟨_, xst_mk lk_NoHand⟩, sa_NoHand, ga_NoHand, gt_NoHand⟩, kc_NoHand, _, PySem.W.mg_of X G mc_NoJoin, ⟨⟨_, xst_mk lk_NoJoin⟩, sa_NoJoin, ga_NoJoin, gt_NoJoin⟩, kc_NoJoin, _, PySem.W.mg_of X G mc_NoName, ⟨⟨_, xst_mk lk_NoName⟩, sa_NoName, ga_NoName, gt_NoName⟩, kc_NoName, _, PySem.W.mg_of X G mc_NoOrder, ⟨⟨_, xst_mk lk_NoOrder⟩, sa_NoOrder, ga_NoOrder, gt_NoOrder⟩, kc_NoOrder, _, PySem.W.mg_of X G mc_NoSet, ⟨⟨_, xst_mk lk_NoSet⟩, sa_NoSet, ga_NoSet, gt_NoSet⟩, kc_NoSet, _, PySem.W.mg_of X G mc_NoShares, ⟨⟨_, xst_mk lk_NoShares⟩, sa_NoShares, ga_NoShares, gt_NoShares⟩, kc_NoShares, _, PySem.W.mg_of X G mc_NoShape, ⟨⟨_, xst_mk lk_NoShape⟩, sa_NoShape, ga_NoShape, gt_NoShape⟩, kc_NoShape, _, PySem.W.mg_of X G mc_NoRow, ⟨⟨_, xst_mk lk_NoRow⟩, sa_NoRow, ga_NoRow, gt_NoRow⟩, kc_NoRow, _, PySem.W.mg_of X G mc_NoPaper, ⟨⟨_, xst_mk lk_NoPaper⟩, sa_NoPaper, ga_NoPaper, gt_NoPaper⟩, kc_NoPaper, _, PySem.W.mg_of X G mc_NoPlan, ⟨⟨_, xst_mk lk_NoPlan⟩, sa_NoPlan, ga_NoPlan, gt_NoPlan⟩, kc_NoPlan, _, PySem.W.mg_of X G mc_NoLine, ⟨⟨_, xst_mk lk_NoLine⟩, sa_NoLine, ga_NoLine, gt_NoLine⟩, kc_NoLine, _, PySem.W.mg_of X G mc_NoHolder, ⟨⟨_, xst_mk lk_NoHolder⟩, sa_NoHolder, ga_NoHolder, gt_NoHolder⟩, kc_NoHolder, _, PySem.W.mg_of X G mc_TooWide, ⟨⟨_, xst_mk lk_TooWide⟩, sa_TooWide, ga_TooWide, gt_TooWide⟩, kc_TooWide, _, PySem.W.mg_of X G mc_TooDeep, ⟨⟨_, xst_mk lk_TooDeep⟩, sa_TooDeep, ga_TooDeep, gt_TooDeep⟩, kc_TooDeep, _, PySem.W.mg_of X G mc_TooMany, ⟨⟨_, xst_mk lk_TooMany⟩, sa_TooMany, ga_TooMany, gt_TooMany⟩, kc_TooMany, _, PySem.W.mg_of X G mc_Spent, ⟨⟨_, xst_mk lk_Spent⟩, sa_Spent, ga_Spent, gt_Spent⟩, kc_Spent, _, PySem.W.mg_of X G mc_Twice, ⟨⟨_, xst_mk lk_Twice⟩, sa_Twice, ga_Twice, gt_Twice⟩, kc_Twice, _, PySem.W.mg_of X G mc_Unknown, ⟨⟨_, xst_mk lk_Unknown⟩, sa_Unknown, ga_Unknown, gt_Unknown⟩, kc_Unknown, _, PySem.W.mg_of X G mc_NoDepth, ⟨⟨_, xst_mk lk_NoDepth⟩, sa_NoDepth, ga_NoDepth, gt_NoDepth⟩, kc_NoDepth, _, PySem.W.mg_of X G mc_NoParts, ⟨⟨_, xst_mk lk_NoParts⟩, sa_NoParts, ga_NoParts, gt_NoParts⟩, kc_NoParts, _, PySem.W.mg_of X G mc_Beyond, ⟨⟨_, xst_mk lk_Beyond⟩, sa_Beyond, ga_Beyond, gt_Beyond⟩, kc_Beyond, _, _, F0, b0, a0, t0, _, _, F1, b1, a1, t1, na_NoNumber_found, _, _, F2, b2, a2, t2, na_NoWidth_found, _, _, F3, b3, a3, t3, na_NoStep_found, _, _, F4, b4, a4, t4, na_NoMachine_found, _, _, F5, b5, a5, t5, na_NoSeed_found, _, _, F6, b6, a6, t6, na_NoPath_found, _, _, F7, b7, a7, t7, na_NoPlace_found, _, _, F8, b8, a8, t8, na_NoState_found, _, _, F9, b9, a9, t9, na_NoText_at, _, _, F10, b10, a10, t10, na_NoHand_found, _, _, F11, b11, a11, t11, na_NoJoin_at, _, _, F12, b12, a12, t12, na_NoName_found, _, _, F13, b13, a13, t13, na_NoOrder_found, _, _, F14, b14, a14, t14, na_NoSet_found, _, _, F15, b15, a15, t15, na_NoShares_found, _, _, F16, b16, a16, t16, na_NoShape_found, _, _, F17, b17, a17, t17, na_NoRow_found, _, _, F18, b18, a18, t18, na_NoPaper_found, _, _, F19, b19, a19, t19, na_NoPlan_at, _, _, F20, b20, a20, t20, na_NoLine_line, _, _, F21, b21, a21, t21, na_NoHolder_found, _, _, F22, b22, a22, t22, na_TooWide_total, _, _, F23, b23, a23, t23, na_TooDeep_path, _, _, F24, b24, a24, t24, na_TooMany_path, na_TooMany_many, _, _, F25, b25, a25, t25, na_Spent_path, na_Spent_place, _, _, F26, b26, a26, t26, na_Twice_name, _, _, F27, b27, a27, t27, na_Unknown_name, _, _, F28, b28, a28, t28, na_NoDepth_name, na_NoDepth_at, _, _, F29, b29, a29, t29, na_NoParts_name, na_NoParts_at, _, _, F30, b30, a30, t30, na_Beyond_name, na_Beyond_place, _, _, F31, b31, PySem.W.mg_of X G a31, _, _, F32, b32, PySem.W.mg_of X G a32, _, _, F33, b33, PySem.W.mg_of X G a33, _, _, F34, b34, PySem.W.mg_of X G a34, _, _, F35, b35, PySem.W.mg_of X G a35, _, _, F36, b36, PySem.W.mg_of X G a36, _, _, F37, b37, PySem.W.mg_of X G a37, _, _, F38, b38, PySem.W.mg_of X G a38, _, _, F39, b39, PySem.W.mg_of X G a39, _, _, F40, b40, PySem.W.mg_of X G a40, .type "type", sp_SeedError, rd_SeedError, fc_SeedError, fv, PySem.W.mg_none_of X G z_ValueError, PySem.W.mg_none_of X G z_all, PySem.W.mg_none_of X G z_bool, PySem.W.mg_none_of X G z_dict, PySem.W.mg_none_of X G z_enumerate, PySem.W.mg_none_of X G z_int, PySem.W.mg_none_of X G z_isinstance, PySem.W.mg_none_of X G z_len, PySem.W.mg_none_of X G z_list, PySem.W.mg_none_of X G z_max, PySem.W.mg_none_of X G z_min, PySem.W.mg_none_of X G z_range, PySem.W.mg_none_of X G z_zip, nd, hk.1, hk.2.1, hk.2.2, hxk⟩⟩
theorem walk {l : PySem.W.OpenLaw} {q : Program} {loose : List Str} {XP : (Str → Option Value) → Heap → Prop} {YP : World → Heap → Prop} {d : DefRec} {K : Params → PySem.W.Frag} (hn : l.most = some 63) (hdf : d.params.defaults = [])
    (hY : ∀ (w : World) (h : Heap), YP w h → (K w.params).In h)
    (F : ∀ (w : World) (mg : Str → Option Value) (fa : Addr) (h : Heap), (K w.params).In h → h.Ns mainGlobals mg → mg d.name = some (.ref fa) →
      ∃ fd : FuncData, (∀ (s : Shared) (u : Value), BindsTo s fd ⟨[u], []⟩ [("_law_script", u)]) ∧ ∀ base : Heap, (K w.params).In base → base.Ns mainGlobals mg → FnOk l.prog w (K w.params) mg base CX0 6 fa fd ["_law_script"] (spLaw (K w.params))) :
    PySem.W.WalkO q loose XP YP l.row.toRowW d [] (fun f vs => PySem.call f vs) :=
  L2.walk_of (n := 63) (k := 6) (x := "_law_script") (CX := fun _ => CX0) (sp := fun w => spLaw (K w.params)) hn (by decide) hdf ⟨rfl, by decide, by decide, rfl⟩ hY F (fun _ _ a ns hl _ hS => ⟨a, ns, rfl, hS, hl, fun _ => rfl⟩) fun _ _ _ _ _ z => z
end K15
open PySem PySem.W PyProof.Rows
set_option maxRecDepth 100000 in
set_option maxHeartbeats 0 in
theorem PySem.Challenge.cw_splitseed_k15_refusals_apart_holds : PySem.Challenge.rw_splitseed_k15_refusals_apart.Holds := by
  w_on; o_law; k_head; (case hw => w_witness2)
  k_fill
  refine K15.walk (l := PySem.Challenge.rw_splitseed_k15_refusals_apart) rfl rfl (fun w h Y => PySem.W.kIn_of Y) ?F
  case F =>
    intro w mg fa h KX G hmg
    refine' K15.all_mk KX G hmg ?mc_SeedError ?lk_SeedError ?kc_SeedError ?sa_SeedError ?ga_SeedError ?gt_SeedError ?mc_NoNumber ?lk_NoNumber ?kc_NoNumber ?sa_NoNumber ?ga_NoNumber ?gt_NoNumber ?mc_NoWidth ?lk_NoWidth ?kc_NoWidth ?sa_NoWidth ?ga_NoWidth ?gt_NoWidth ?mc_NoStep ?lk_NoStep ?kc_NoStep ?sa_NoStep ?ga_NoStep ?gt_NoStep ?mc_NoMachine ?lk_NoMachine ?kc_NoMachine ?sa_NoMachine ?ga_NoMachine ?gt_NoMachine ?mc_NoSeed ?lk_NoSeed ?kc_NoSeed ?sa_NoSeed ?ga_NoSeed ?gt_NoSeed ?mc_NoPath ?lk_NoPath ?kc_NoPath ?sa_NoPath ?ga_NoPath ?gt_NoPath ?mc_NoPlace ?lk_NoPlace ?kc_NoPlace ?sa_NoPlace ?ga_NoPlace ?gt_NoPlace ?mc_NoState ?lk_NoState ?kc_NoState ?sa_NoState ?ga_NoState ?gt_NoState ?mc_NoText ?lk_NoText ?kc_NoText ?sa_NoText ?ga_NoText ?gt_NoText ?mc_NoHand ?lk_NoHand ?kc_NoHand ?sa_NoHand ?ga_NoHand ?gt_NoHand ?mc_NoJoin ?lk_NoJoin ?kc_NoJoin ?sa_NoJoin ?ga_NoJoin ?gt_NoJoin ?mc_NoName ?lk_NoName ?kc_NoName ?sa_NoName ?ga_NoName ?gt_NoName ?mc_NoOrder ?lk_NoOrder ?kc_NoOrder ?sa_NoOrder ?ga_NoOrder ?gt_NoOrder ?mc_NoSet ?lk_NoSet ?kc_NoSet ?sa_NoSet ?ga_NoSet ?gt_NoSet ?mc_NoShares ?lk_NoShares ?kc_NoShares ?sa_NoShares ?ga_NoShares ?gt_NoShares ?mc_NoShape ?lk_NoShape ?kc_NoShape ?sa_NoShape ?ga_NoShape ?gt_NoShape ?mc_NoRow ?lk_NoRow ?kc_NoRow ?sa_NoRow ?ga_NoRow ?gt_NoRow ?mc_NoPaper ?lk_NoPaper ?kc_NoPaper ?sa_NoPaper ?ga_NoPaper ?gt_NoPaper ?mc_NoPlan ?lk_NoPlan ?kc_NoPlan ?sa_NoPlan ?ga_NoPlan ?gt_NoPlan ?mc_NoLine ?lk_NoLine ?kc_NoLine ?sa_NoLine ?ga_NoLine ?gt_NoLine ?mc_NoHolder ?lk_NoHolder ?kc_NoHolder ?sa_NoHolder ?ga_NoHolder ?gt_NoHolder ?mc_TooWide ?lk_TooWide ?kc_TooWide ?sa_TooWide ?ga_TooWide ?gt_TooWide ?mc_TooDeep ?lk_TooDeep ?kc_TooDeep ?sa_TooDeep ?ga_TooDeep ?gt_TooDeep ?mc_TooMany ?lk_TooMany ?kc_TooMany ?sa_TooMany ?ga_TooMany ?gt_TooMany ?mc_Spent ?lk_Spent ?kc_Spent ?sa_Spent ?ga_Spent ?gt_Spent ?mc_Twice ?lk_Twice ?kc_Twice ?sa_Twice ?ga_Twice ?gt_Twice ?mc_Unknown ?lk_Unknown ?kc_Unknown ?sa_Unknown ?ga_Unknown ?gt_Unknown ?mc_NoDepth ?lk_NoDepth ?kc_NoDepth ?sa_NoDepth ?ga_NoDepth ?gt_NoDepth ?mc_NoParts ?lk_NoParts ?kc_NoParts ?sa_NoParts ?ga_NoParts ?gt_NoParts ?mc_Beyond ?lk_Beyond ?kc_Beyond ?sa_Beyond ?ga_Beyond ?gt_Beyond ?a0 ?t0 ?l0 ?c0 ?k0 ?a1 ?t1 ?na_NoNumber_found ?l1 ?c1 ?k1 ?a2 ?t2 ?na_NoWidth_found ?l2 ?c2 ?k2 ?a3 ?t3 ?na_NoStep_found ?l3 ?c3 ?k3 ?a4 ?t4 ?na_NoMachine_found ?l4 ?c4 ?k4 ?a5 ?t5 ?na_NoSeed_found ?l5 ?c5 ?k5 ?a6 ?t6 ?na_NoPath_found ?l6 ?c6 ?k6 ?a7 ?t7 ?na_NoPlace_found ?l7 ?c7 ?k7 ?a8 ?t8 ?na_NoState_found ?l8 ?c8 ?k8 ?a9 ?t9 ?na_NoText_at ?l9 ?c9 ?k9 ?a10 ?t10 ?na_NoHand_found ?l10 ?c10 ?k10 ?a11 ?t11 ?na_NoJoin_at ?l11 ?c11 ?k11 ?a12 ?t12 ?na_NoName_found ?l12 ?c12 ?k12 ?a13 ?t13 ?na_NoOrder_found ?l13 ?c13 ?k13 ?a14 ?t14 ?na_NoSet_found ?l14 ?c14 ?k14 ?a15 ?t15 ?na_NoShares_found ?l15 ?c15 ?k15 ?a16 ?t16 ?na_NoShape_found ?l16 ?c16 ?k16 ?a17 ?t17 ?na_NoRow_found ?l17 ?c17 ?k17 ?a18 ?t18 ?na_NoPaper_found ?l18 ?c18 ?k18 ?a19 ?t19 ?na_NoPlan_at ?l19 ?c19 ?k19 ?a20 ?t20 ?na_NoLine_line ?l20 ?c20 ?k20 ?a21 ?t21 ?na_NoHolder_found ?l21 ?c21 ?k21 ?a22 ?t22 ?na_TooWide_total ?l22 ?c22 ?k22 ?a23 ?t23 ?na_TooDeep_path ?l23 ?c23 ?k23 ?a24 ?t24 ?na_TooMany_path ?na_TooMany_many ?l24 ?c24 ?k24 ?a25 ?t25 ?na_Spent_path ?na_Spent_place ?l25 ?c25 ?k25 ?a26 ?t26 ?na_Twice_name ?l26 ?c26 ?k26 ?a27 ?t27 ?na_Unknown_name ?l27 ?c27 ?k27 ?a28 ?t28 ?na_NoDepth_name ?na_NoDepth_at ?l28 ?c28 ?k28 ?a29 ?t29 ?na_NoParts_name ?na_NoParts_at ?l29 ?c29 ?k29 ?a30 ?t30 ?na_Beyond_name ?na_Beyond_place ?l30 ?c30 ?k30 ?a31 ?l31 ?c31 ?k31 ?a32 ?l32 ?c32 ?k32 ?a33 ?l33 ?c33 ?k33 ?a34 ?l34 ?c34 ?k34 ?a35 ?l35 ?c35 ?k35 ?a36 ?l36 ?c36 ?k36 ?a37 ?l37 ?c37 ?k37 ?a38 ?l38 ?c38 ?k38 ?a39 ?l39 ?c39 ?k39 ?a40 ?l40 ?c40 ?k40 ?sp_SeedError ?rd_SeedError ?fc_SeedError ?fv ?z_ValueError ?z_all ?z_bool ?z_dict ?z_enumerate ?z_int ?z_isinstance ?z_len ?z_list ?z_max ?z_min ?z_range ?z_zip ?nd ?cl_SeedError ?mo_SeedError ?cl_NoNumber ?mo_NoNumber ?cl_NoWidth ?mo_NoWidth ?cl_NoStep ?mo_NoStep ?cl_NoMachine ?mo_NoMachine ?cl_NoSeed ?mo_NoSeed ?cl_NoPath ?mo_NoPath ?cl_NoPlace ?mo_NoPlace ?cl_NoState ?mo_NoState ?cl_NoHand ?mo_NoHand ?cl_NoName ?mo_NoName ?cl_NoOrder ?mo_NoOrder ?cl_NoSet ?mo_NoSet ?cl_NoShares ?mo_NoShares ?cl_NoShape ?mo_NoShape ?cl_NoRow ?mo_NoRow ?cl_NoPaper ?mo_NoPaper ?cl_NoHolder ?mo_NoHolder ?cl_NoText ?mo_NoText ?cl_NoJoin ?mo_NoJoin ?cl_NoPlan ?mo_NoPlan ?cl_NoLine ?mo_NoLine ?cl_TooWide ?mo_TooWide ?cl_TooDeep ?mo_TooDeep ?cl_Twice ?mo_Twice ?cl_Unknown ?mo_Unknown ?cl_TooMany ?mo_TooMany ?cl_Spent ?mo_Spent ?cl_NoDepth ?mo_NoDepth ?cl_NoParts ?mo_NoParts ?cl_Beyond ?mo_Beyond
    (case mc_SeedError => k_is); (case lk_SeedError => k_is); (case kc_SeedError => k_is); (case sa_SeedError => k_is); (case ga_SeedError => k_is); (case gt_SeedError => k_is); (case mc_NoNumber => k_is); (case lk_NoNumber => k_is); (case kc_NoNumber => k_is); (case sa_NoNumber => k_is); (case ga_NoNumber => k_is); (case gt_NoNumber => k_is); (case mc_NoWidth => k_is); (case lk_NoWidth => k_is); (case kc_NoWidth => k_is); (case sa_NoWidth => k_is); (case ga_NoWidth => k_is); (case gt_NoWidth => k_is); (case mc_NoStep => k_is); (case lk_NoStep => k_is); (case kc_NoStep => k_is); (case sa_NoStep => k_is); (case ga_NoStep => k_is); (case gt_NoStep => k_is); (case mc_NoMachine => k_is); (case lk_NoMachine => k_is); (case kc_NoMachine => k_is); (case sa_NoMachine => k_is); (case ga_NoMachine => k_is); (case gt_NoMachine => k_is); (case mc_NoSeed => k_is); (case lk_NoSeed => k_is); (case kc_NoSeed => k_is); (case sa_NoSeed => k_is); (case ga_NoSeed => k_is); (case gt_NoSeed => k_is); (case mc_NoPath => k_is); (case lk_NoPath => k_is); (case kc_NoPath => k_is); (case sa_NoPath => k_is); (case ga_NoPath => k_is); (case gt_NoPath => k_is); (case mc_NoPlace => k_is); (case lk_NoPlace => k_is); (case kc_NoPlace => k_is); (case sa_NoPlace => k_is); (case ga_NoPlace => k_is); (case gt_NoPlace => k_is); (case mc_NoState => k_is); (case lk_NoState => k_is); (case kc_NoState => k_is); (case sa_NoState => k_is); (case ga_NoState => k_is); (case gt_NoState => k_is); (case mc_NoText => k_is); (case lk_NoText => k_is); (case kc_NoText => k_is); (case sa_NoText => k_is); (case ga_NoText => k_is); (case gt_NoText => k_is); (case mc_NoHand => k_is); (case lk_NoHand => k_is); (case kc_NoHand => k_is); (case sa_NoHand => k_is); (case ga_NoHand => k_is); (case gt_NoHand => k_is); (case mc_NoJoin => k_is); (case lk_NoJoin => k_is); (case kc_NoJoin => k_is); (case sa_NoJoin => k_is); (case ga_NoJoin => k_is); (case gt_NoJoin => k_is); (case mc_NoName => k_is); (case lk_NoName => k_is); (case kc_NoName => k_is); (case sa_NoName => k_is); (case ga_NoName => k_is); (case gt_NoName => k_is); (case mc_NoOrder => k_is); (case lk_NoOrder => k_is); (case kc_NoOrder => k_is); (case sa_NoOrder => k_is); (case ga_NoOrder => k_is); (case gt_NoOrder => k_is); (case mc_NoSet => k_is); (case lk_NoSet => k_is); (case kc_NoSet => k_is); (case sa_NoSet => k_is); (case ga_NoSet => k_is); (case gt_NoSet => k_is); (case mc_NoShares => k_is); (case lk_NoShares => k_is); (case kc_NoShares => k_is); (case sa_NoShares => k_is); (case ga_NoShares => k_is); (case gt_NoShares => k_is); (case mc_NoShape => k_is); (case lk_NoShape => k_is); (case kc_NoShape => k_is); (case sa_NoShape => k_is); (case ga_NoShape => k_is); (case gt_NoShape => k_is); (case mc_NoRow => k_is); (case lk_NoRow => k_is); (case kc_NoRow => k_is); (case sa_NoRow => k_is); (case ga_NoRow => k_is); (case gt_NoRow => k_is); (case mc_NoPaper => k_is); (case lk_NoPaper => k_is); (case kc_NoPaper => k_is); (case sa_NoPaper => k_is); (case ga_NoPaper => k_is); (case gt_NoPaper => k_is); (case mc_NoPlan => k_is); (case lk_NoPlan => k_is); (case kc_NoPlan => k_is); (case sa_NoPlan => k_is); (case ga_NoPlan => k_is); (case gt_NoPlan => k_is); (case mc_NoLine => k_is); (case lk_NoLine => k_is); (case kc_NoLine => k_is); (case sa_NoLine => k_is); (case ga_NoLine => k_is); (case gt_NoLine => k_is); (case mc_NoHolder => k_is); (case lk_NoHolder => k_is); (case kc_NoHolder => k_is); (case sa_NoHolder => k_is); (case ga_NoHolder => k_is); (case gt_NoHolder => k_is); (case mc_TooWide => k_is); (case lk_TooWide => k_is); (case kc_TooWide => k_is); (case sa_TooWide => k_is); (case ga_TooWide => k_is); (case gt_TooWide => k_is); (case mc_TooDeep => k_is); (case lk_TooDeep => k_is); (case kc_TooDeep => k_is); (case sa_TooDeep => k_is); (case ga_TooDeep => k_is); (case gt_TooDeep => k_is); (case mc_TooMany => k_is); (case lk_TooMany => k_is); (case kc_TooMany => k_is); (case sa_TooMany => k_is); (case ga_TooMany => k_is); (case gt_TooMany => k_is); (case mc_Spent => k_is); (case lk_Spent => k_is); (case kc_Spent => k_is); (case sa_Spent => k_is); (case ga_Spent => k_is); (case gt_Spent => k_is); (case mc_Twice => k_is); (case lk_Twice => k_is); (case kc_Twice => k_is); (case sa_Twice => k_is); (case ga_Twice => k_is); (case gt_Twice => k_is); (case mc_Unknown => k_is); (case lk_Unknown => k_is); (case kc_Unknown => k_is); (case sa_Unknown => k_is); (case ga_Unknown => k_is); (case gt_Unknown => k_is); (case mc_NoDepth => k_is); (case lk_NoDepth => k_is); (case kc_NoDepth => k_is); (case sa_NoDepth => k_is); (case ga_NoDepth => k_is); (case gt_NoDepth => k_is); (case mc_NoParts => k_is); (case lk_NoParts => k_is); (case kc_NoParts => k_is); (case sa_NoParts => k_is); (case ga_NoParts => k_is); (case gt_NoParts => k_is); (case mc_Beyond => k_is); (case lk_Beyond => k_is); (case kc_Beyond => k_is); (case sa_Beyond => k_is); (case ga_Beyond => k_is); (case gt_Beyond => k_is); (case a0 => k_is); (case t0 => k_is); (case l0 => k_is); (case c0 => k_is); (case k0 => k_is); (case a1 => k_is); (case t1 => k_is); (case na_NoNumber_found => k_is); (case l1 => k_is); (case c1 => k_is); (case k1 => k_is); (case a2 => k_is); (case t2 => k_is); (case na_NoWidth_found => k_is); (case l2 => k_is); (case c2 => k_is); (case k2 => k_is); (case a3 => k_is); (case t3 => k_is); (case na_NoStep_found => k_is); (case l3 => k_is); (case c3 => k_is); (case k3 => k_is); (case a4 => k_is); (case t4 => k_is); (case na_NoMachine_found => k_is); (case l4 => k_is); (case c4 => k_is); (case k4 => k_is); (case a5 => k_is); (case t5 => k_is); (case na_NoSeed_found => k_is); (case l5 => k_is); (case c5 => k_is); (case k5 => k_is); (case a6 => k_is); (case t6 => k_is); (case na_NoPath_found => k_is); (case l6 => k_is); (case c6 => k_is); (case k6 => k_is); (case a7 => k_is); (case t7 => k_is); (case na_NoPlace_found => k_is); (case l7 => k_is); (case c7 => k_is); (case k7 => k_is); (case a8 => k_is); (case t8 => k_is); (case na_NoState_found => k_is); (case l8 => k_is); (case c8 => k_is); (case k8 => k_is); (case a9 => k_is); (case t9 => k_is); (case na_NoText_at => k_is); (case l9 => k_is); (case c9 => k_is); (case k9 => k_is); (case a10 => k_is); (case t10 => k_is); (case na_NoHand_found => k_is); (case l10 => k_is); (case c10 => k_is); (case k10 => k_is); (case a11 => k_is); (case t11 => k_is); (case na_NoJoin_at => k_is); (case l11 => k_is); (case c11 => k_is); (case k11 => k_is); (case a12 => k_is); (case t12 => k_is); (case na_NoName_found => k_is); (case l12 => k_is); (case c12 => k_is); (case k12 => k_is); (case a13 => k_is); (case t13 => k_is); (case na_NoOrder_found => k_is); (case l13 => k_is); (case c13 => k_is); (case k13 => k_is); (case a14 => k_is); (case t14 => k_is); (case na_NoSet_found => k_is); (case l14 => k_is); (case c14 => k_is); (case k14 => k_is); (case a15 => k_is); (case t15 => k_is); (case na_NoShares_found => k_is); (case l15 => k_is); (case c15 => k_is); (case k15 => k_is); (case a16 => k_is); (case t16 => k_is); (case na_NoShape_found => k_is); (case l16 => k_is); (case c16 => k_is); (case k16 => k_is); (case a17 => k_is); (case t17 => k_is); (case na_NoRow_found => k_is); (case l17 => k_is); (case c17 => k_is); (case k17 => k_is); (case a18 => k_is); (case t18 => k_is); (case na_NoPaper_found => k_is); (case l18 => k_is); (case c18 => k_is); (case k18 => k_is); (case a19 => k_is); (case t19 => k_is); (case na_NoPlan_at => k_is); (case l19 => k_is); (case c19 => k_is); (case k19 => k_is); (case a20 => k_is); (case t20 => k_is); (case na_NoLine_line => k_is); (case l20 => k_is); (case c20 => k_is); (case k20 => k_is); (case a21 => k_is); (case t21 => k_is); (case na_NoHolder_found => k_is); (case l21 => k_is); (case c21 => k_is); (case k21 => k_is); (case a22 => k_is); (case t22 => k_is); (case na_TooWide_total => k_is); (case l22 => k_is); (case c22 => k_is); (case k22 => k_is); (case a23 => k_is); (case t23 => k_is); (case na_TooDeep_path => k_is); (case l23 => k_is); (case c23 => k_is); (case k23 => k_is); (case a24 => k_is); (case t24 => k_is); (case na_TooMany_path => k_is); (case na_TooMany_many => k_is); (case l24 => k_is); (case c24 => k_is); (case k24 => k_is); (case a25 => k_is); (case t25 => k_is); (case na_Spent_path => k_is); (case na_Spent_place => k_is); (case l25 => k_is); (case c25 => k_is); (case k25 => k_is); (case a26 => k_is); (case t26 => k_is); (case na_Twice_name => k_is); (case l26 => k_is); (case c26 => k_is); (case k26 => k_is); (case a27 => k_is); (case t27 => k_is); (case na_Unknown_name => k_is); (case l27 => k_is); (case c27 => k_is); (case k27 => k_is); (case a28 => k_is); (case t28 => k_is); (case na_NoDepth_name => k_is); (case na_NoDepth_at => k_is); (case l28 => k_is); (case c28 => k_is); (case k28 => k_is); (case a29 => k_is); (case t29 => k_is); (case na_NoParts_name => k_is); (case na_NoParts_at => k_is); (case l29 => k_is); (case c29 => k_is); (case k29 => k_is); (case a30 => k_is); (case t30 => k_is); (case na_Beyond_name => k_is); (case na_Beyond_place => k_is); (case l30 => k_is); (case c30 => k_is); (case k30 => k_is); (case a31 => k_is); (case l31 => k_is); (case c31 => k_is); (case k31 => k_is); (case a32 => k_is); (case l32 => k_is); (case c32 => k_is); (case k32 => k_is); (case a33 => k_is); (case l33 => k_is); (case c33 => k_is); (case k33 => k_is); (case a34 => k_is); (case l34 => k_is); (case c34 => k_is); (case k34 => k_is); (case a35 => k_is); (case l35 => k_is); (case c35 => k_is); (case k35 => k_is); (case a36 => k_is); (case l36 => k_is); (case c36 => k_is); (case k36 => k_is); (case a37 => k_is); (case l37 => k_is); (case c37 => k_is); (case k37 => k_is); (case a38 => k_is); (case l38 => k_is); (case c38 => k_is); (case k38 => k_is); (case a39 => k_is); (case l39 => k_is); (case c39 => k_is); (case k39 => k_is); (case a40 => k_is); (case l40 => k_is); (case c40 => k_is); (case k40 => k_is); (case sp_SeedError => k_is); (case rd_SeedError => k_is); (case fc_SeedError => k_is); (case fv => k_is); (case z_ValueError => k_is); (case z_all => k_is); (case z_bool => k_is); (case z_dict => k_is); (case z_enumerate => k_is); (case z_int => k_is); (case z_isinstance => k_is); (case z_len => k_is); (case z_list => k_is); (case z_max => k_is); (case z_min => k_is); (case z_range => k_is); (case z_zip => k_is); (case nd => decide); (case cl_SeedError => k_is); (case mo_SeedError => k_is); (case cl_NoNumber => k_is); (case mo_NoNumber => k_is); (case cl_NoWidth => k_is); (case mo_NoWidth => k_is); (case cl_NoStep => k_is); (case mo_NoStep => k_is); (case cl_NoMachine => k_is); (case mo_NoMachine => k_is); (case cl_NoSeed => k_is); (case mo_NoSeed => k_is); (case cl_NoPath => k_is); (case mo_NoPath => k_is); (case cl_NoPlace => k_is); (case mo_NoPlace => k_is); (case cl_NoState => k_is); (case mo_NoState => k_is); (case cl_NoHand => k_is); (case mo_NoHand => k_is); (case cl_NoName => k_is); (case mo_NoName => k_is); (case cl_NoOrder => k_is); (case mo_NoOrder => k_is); (case cl_NoSet => k_is); (case mo_NoSet => k_is); (case cl_NoShares => k_is); (case mo_NoShares => k_is); (case cl_NoShape => k_is); (case mo_NoShape => k_is); (case cl_NoRow => k_is); (case mo_NoRow => k_is); (case cl_NoPaper => k_is); (case mo_NoPaper => k_is); (case cl_NoHolder => k_is); (case mo_NoHolder => k_is); (case cl_NoText => k_is); (case mo_NoText => k_is); (case cl_NoJoin => k_is); (case mo_NoJoin => k_is); (case cl_NoPlan => k_is); (case mo_NoPlan => k_is); (case cl_NoLine => k_is); (case mo_NoLine => k_is); (case cl_TooWide => k_is); (case mo_TooWide => k_is); (case cl_TooDeep => k_is); (case mo_TooDeep => k_is); (case cl_Twice => k_is); (case mo_Twice => k_is); (case cl_Unknown => k_is); (case mo_Unknown => k_is); (case cl_TooMany => k_is); (case mo_TooMany => k_is); (case cl_Spent => k_is); (case mo_Spent => k_is); (case cl_NoDepth => k_is); (case mo_NoDepth => k_is); (case cl_NoParts => k_is); (case mo_NoParts => k_is); (case cl_Beyond => k_is); (case mo_Beyond => k_is)
