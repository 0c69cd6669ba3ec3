import PyProof.Rows.All
import Wide.All
import OpenK.AllK
import Wide.FinOn
import Lean
import PyProof.EqAt
import PyProof.EqKinds
import PyProof.TupleCall
import PyProof.NeKinds
import PyProof.Draws
import PyProof.EnumMake
import PyProof.DictWalks
import PyProof.Rows.SortStr
import PyProof.SumWalk
import PyProof.ZipIter
import PyProof.Rows.ZipGen
import KE.KDictSum
import PyProof.DictCompW
import PyProof.Rows.FStr
import PyProof.Rows.FStrParts
import PyProof.Rows.StrIntSpec
import PyProof.StrOps2
import PySem.Challenge.RW_ribboncast_k74_galleys_written
set_option Elab.async false
set_option linter.all false
set_option maxRecDepth 100000

namespace L2
open PySem PySem.Spec PyProof.Rows

abbrev Key := Sum Int Str
def keyIs : Key → Value → Bool
  | .inl k, v => Value.isInt k v
  | .inr x, v => Value.isStrOf x v
def keyH (w : World) : Key → Int
  | .inl k => hashInt k
  | .inr x => hashStr w x
theorem keyIs_shape : ∀ {k : Key} {v : Value}, keyIs k v = true → (∃ i t, k = Sum.inl i ∧ v = Value.int i t) ∨ (∃ x t, k = Sum.inr x ∧ v = Value.str x t)
  | .inl i, v, h => by
    obtain ⟨t, e⟩ := Value.isInt_shape (k := i) (v := v) h
    exact .inl ⟨i, t, rfl, e⟩
  | .inr x, v, h => by
    obtain ⟨t, e⟩ := Value.isStrOf_shape (x := x) (v := v) h
    exact .inr ⟨x, t, rfl, e⟩
theorem key_ll (a b : Int) : decide ((Sum.inl a : Key) = Sum.inl b) = (a == b) := by
  by_cases e : a = b
  · subst e; simp
  · have h : ¬ (Sum.inl a : Key) = Sum.inl b := fun q => e (Sum.inl.inj q)
    rw [decide_eq_false h]
    exact (beq_eq_false_iff_ne.mpr e).symm
theorem key_rr (a b : Str) : decide ((Sum.inr a : Key) = Sum.inr b) = decide (a = b) := by
  by_cases e : a = b
  · subst e; simp
  · have h : ¬ (Sum.inr a : Key) = Sum.inr b := fun q => e (Sum.inr.inj q)
    rw [decide_eq_false h, decide_eq_false e]
theorem key_lr (a : Int) (b : Str) : decide ((Sum.inl a : Key) = Sum.inr b) = false := decide_eq_false (fun q => nomatch q)
theorem key_rl (a : Str) (b : Int) : decide ((Sum.inr a : Key) = Sum.inl b) = false := decide_eq_false (fun q => nomatch q)

def mixKind (prog : Program) (w : World) : PySem.KeyKind prog w Key where
  is := keyIs
  hash := keyH w
  inj := fun v a b ha hb => by
    rcases keyIs_shape ha with ⟨i, t, rfl, rfl⟩ | ⟨x, t, rfl, rfl⟩
    · rcases keyIs_shape hb with ⟨j, u, rfl, e⟩ | ⟨y, u, rfl, e⟩
      · injection e with e1 _; rw [e1]
      · exact nomatch e
    · rcases keyIs_shape hb with ⟨j, u, rfl, e⟩ | ⟨y, u, rfl, e⟩
      · exact nomatch e
      · injection e with e1 _; rw [e1]
  byValue := fun k v h => by
    rcases keyIs_shape h with ⟨i, t, rfl, rfl⟩ | ⟨x, t, rfl, rfl⟩ <;> rfl
  pyHash := fun hv h => by
    rcases keyIs_shape hv with ⟨i, t, rfl, rfl⟩ | ⟨x, t, rfl, rfl⟩
    · exact wpAny_pyHash_int h
    · exact wpAny_pyHash_str h
  eqBool := fun hu hv h => by
    rcases keyIs_shape hu with ⟨i, t, rfl, rfl⟩ | ⟨x, t, rfl, rfl⟩
    · rcases keyIs_shape hv with ⟨j, u, rfl, rfl⟩ | ⟨y, u, rfl, rfl⟩
      · rw [key_ll] at h; exact wpAny_eqBool_int h
      · rw [key_lr] at h; exact SeqAt.EqAt.int_str i t y u _ _ _ _ h
    · rcases keyIs_shape hv with ⟨j, u, rfl, rfl⟩ | ⟨y, u, rfl, rfl⟩
      · rw [key_rl] at h; exact SeqAt.EqAt.str_int x t j u _ _ _ _ h
      · rw [key_rr] at h; exact wpAny_eqBool_str h
  «strs» := fun k x t v h => by
    rcases keyIs_shape h with ⟨i, u, rfl, e⟩ | ⟨y, u, rfl, e⟩
    · exact nomatch e
    · injection e with e1 _
      subst e1
      cases v <;> rfl

end L2

namespace L2
open PySem PySem.Spec PyProof.Rows

inductive V where
  | non | bl (b : Bool) | int (i : Int) | str (x : Str) | byt (b : Array UInt8) | flt (b : UInt64) | ref (a : Addr) | ty (n : String)
  deriving DecidableEq

def RelV : V → Value → Prop
  | .non, u => u = Value.none
  | .bl b, u => u = Value.bool b
  | .int i, u => ∃ t, u = Value.int i t
  | .str x, u => ∃ t, u = Value.str x t
  | .byt b, u => ∃ t, u = Value.bytes b t
  | .flt b, u => ∃ t, u = Value.float b t
  | .ref a, u => u = Value.ref a
  | .ty n, u => u = Value.type n

abbrev Vals : List V → List Value → Prop := Paired RelV
theorem Vals.length {xs : List V} {us : List Value} (r : Vals xs us) : xs.length = us.length := Paired.length r
theorem Vals.get : ∀ {xs : List V} {us : List Value} {i : Nat} {x : V}, Vals xs us → xs[i]? = some x → ∃ u, us[i]? = some u ∧ RelV x u
  | _, _, _, _, .nil, e => by simp at e
  | _, _, 0, _, .cons r _, e => by simp at e; subst e; exact ⟨_, rfl, r⟩
  | _, _, i + 1, x, .cons _ t, e => by
    obtain ⟨u, h1, h2⟩ := Vals.get (i := i) (x := x) t (by simpa using e)
    exact ⟨u, by simpa using h1, h2⟩
theorem Vals.set {x : V} {u : Value} (r : RelV x u) : ∀ {xs : List V} {us : List Value} (i : Nat), Vals xs us → Vals (xs.set i x) (us.set i u)
  | _, _, _, .nil => .nil
  | _, _, 0, .cons _ t => .cons r t
  | _, _, i + 1, .cons q t => .cons q (Vals.set r i t)
theorem Vals.append : ∀ {xs ys : List V} {us ws : List Value}, Vals xs us → Vals ys ws → Vals (xs ++ ys) (us ++ ws)
  | _, _, _, _, .nil, s => s
  | _, _, _, _, .cons r t, s => .cons r (Vals.append t s)
def RelO : Option V → Option Value → Prop
  | some v, some u => RelV v u
  | none, none => True
  | _, _ => False
def KV {κ : Type} : List (κ × V) → List (κ × Value) → Prop := Paired fun (p : κ × V) (q : κ × Value) => p.1 = q.1 ∧ RelV p.2 q.2

def kV : Key → V
  | .inl i => .int i
  | .inr x => .str x

inductive HO where
  | lst (xs : List V)
  | tup (xs : List V)
  | dK (kvs : List (Key × V)) | dT (kvs : List (List Key × V))
  | set (S : Int → Bool) (n : Nat)
  | ins (C dx : Addr) (fs : List (Str × V))
  | own (x : Addr)
  | xd (fs : List (Str × V))
  | met (f x : Addr)
  | rng (lo hi : Int)
  | frz (o : Obj) (u : HO)
  | tbl (ps : Array Value)
  | ext (φ : Heap → Prop)
  | dU (kvs : List (List Key × Addr × V))

abbrev Hp := Addr → Option HO
def upd (H : Hp) (a : Addr) (o : HO) : Hp := fun b => if b = a then some o else H b
theorem upd_same {H : Hp} {a : Addr} {o : HO} : upd H a o a = some o := by unfold upd; rw [if_pos rfl]
theorem upd_ne {H : Hp} {a b : Addr} {o : HO} (h : b ≠ a) : upd H a o b = H b := by unfold upd; rw [if_neg h]
theorem ne_of_none {H : Hp} {a b : Addr} {o : HO} (h : H a = some o) (h' : H b = none) : a ≠ b := by
  intro e; subst e; rw [h] at h'; cases h'

section
variable (P : Program) (w : World)
def ObjOk (H : Hp) (h : Heap) (a : Addr) : HO → Prop
  | .lst xs => xs.length ≤ sizeLine ∧ ∃ (its : List Value) (n : Nat), Vals xs its ∧ h.get? a = some { cls := .type "list", data := .seq its.toArray n }
  | .tup xs => xs.length ≤ sizeLine ∧ ∃ its : List Value, Vals xs its ∧ IsTup h a its.toArray
  | .dK kvs => kvs.length ≤ sizeLine ∧ (a == sysModules) = false ∧ ∃ vs, KV kvs vs ∧ h.DictOf (mixKind P w) a vs
  | .dT kvs => kvs.length ≤ sizeLine ∧ (a == sysModules) = false ∧ ∃ xs : List (List Key × Addr × Value),
      Paired (fun (p : List Key × V) (q : List Key × Addr × Value) => p.1 = q.1 ∧ H q.2.1 = some (.tup (p.1.map kV)) ∧ RelV p.2 q.2.2) kvs xs ∧
      ∃ o es ep, h.get? a = some o ∧ o.ExactDict ∧ o.data = .dict es ep ∧ es.toList = xs.map (entryOfKey (tupleKind (mixKind P w))) ∧ (xs.map (·.1)).Nodup
  | .set S n => h.SetOf (intKind P w) a S n
  | .ins C dx fs => H dx = some (.own a) ∧ fs.length ≤ 1000 ∧ dx ≠ a ∧ h.get? a = some (PySem.W.instObj C dx) ∧
      ∃ mA, h.Ns1 dx mA ∧ (∀ f, RelO (fs.lookup f) (mA f)) ∧ PySem.Within mA (fs.map (·.1))
  | .own _ => ∃ o, h.get? a = some o
  | .xd fs => ∃ mA, h.Ns1 a mA ∧ ∀ f, RelO (fs.lookup f) (mA f)
  | .rng lo hi => ∃ t u v, h.get? a = some { cls := .type "range", data := .fields #[.int lo t, .int hi u, .int 1 v] }
  | .frz o u => h.get? a = some o ∧ ObjOk H h a u
  | .tbl ps => h.get? a = some { cls := .none, data := .fields ps }
  | .met f x => h.get? a = some (PySem.W.methodObj (.ref f) (.ref x))
  | .ext φ => φ h ∧ (∃ o, h.get? a = some o) ∧ ∀ h1 h2 : Heap, φ h1 → (∀ o, h1.get? a = some o → h2.get? a = some o) → φ h2
  | .dU kvs => kvs.length ≤ sizeLine ∧ (a == sysModules) = false ∧ ∃ xs : List (List Key × Addr × Value), Paired (fun (p : List Key × Addr × V) (q : List Key × Addr × Value) => p.1 = q.1 ∧ p.2.1 = q.2.1 ∧ RelV p.2.2 q.2.2) kvs xs ∧
      ∃ o es ep, h.get? a = some o ∧ o.ExactDict ∧ o.data = .dict es ep ∧ es.toList = xs.map (entryOfKey (tupleKind (mixKind P w))) ∧ (xs.map (·.1)).Nodup
def HOk (H : Hp) (h : Heap) : Prop := ∀ a o, H a = some o → ObjOk P w H h a o
end

section
variable {P : Program} {w : World} {H H' : Hp} {h h' : Heap} {a : Addr} {o : HO}
theorem ObjOk.lt (x : ObjOk P w H h a o) : a < h.objs.size := by
  cases o with
  | lst xs => obtain ⟨_, _, _, _, e⟩ := x; exact Heap.lt_size e
  | tup xs => obtain ⟨_, _, _, p⟩ := x; exact p.lt
  | dK kvs => obtain ⟨_, _, _, _, o, _, _, e, _⟩ := x; exact Heap.lt_size e
  | dT kvs => obtain ⟨_, _, _, _, o, _, _, e, _⟩ := x; exact Heap.lt_size e
  | set S n => obtain ⟨o, _, _, _, e, _⟩ := x; exact Heap.lt_size e
  | ins C dx fs => obtain ⟨_, _, _, e, _⟩ := x; exact Heap.lt_size e
  | own y => obtain ⟨_, e⟩ := x; exact Heap.lt_size e
  | xd fs => obtain ⟨_, ⟨_, _, _, e, _⟩, _⟩ := x; exact Heap.lt_size e
  | rng lo hi => obtain ⟨_, _, _, e⟩ := x; exact Heap.lt_size e
  | frz ob u => obtain ⟨e, _⟩ := x; exact Heap.lt_size e
  | tbl ps => exact Heap.lt_size (show h.get? a = some _ from x)
  | met f y => exact Heap.lt_size (show h.get? a = some _ from x)
  | ext φ => obtain ⟨_, ⟨_, e⟩, _⟩ := x; exact Heap.lt_size e
  | dU kvs => obtain ⟨_, _, _, _, o, _, _, e, _⟩ := x; exact Heap.lt_size e
theorem Paired.mapP {α β : Type} {F G : α → β → Prop} : ∀ {l₁ : List α} {l₂ : List β}, Paired F l₁ l₂ → (∀ a b, F a b → G a b) → Paired G l₁ l₂
  | _, _, .nil, _ => .nil
  | _, _, .cons r t, f => .cons (f _ _ r) (Paired.mapP t f)
theorem ObjOk.stay (x : ObjOk P w H h a o) (k : ∀ b u, (b = a ∨ H b = some (.own a)) → h.get? b = some u → h'.get? b = some u)
    (ho : ∀ b, H b = some (.own a) → H' b = some (.own a)) (ht : ∀ b xs, H b = some (.tup xs) → H' b = some (.tup xs)) : ObjOk P w H' h' a o := by
  induction o with
  | lst xs => obtain ⟨z, its, n, r, e⟩ := x; exact ⟨z, its, n, r, k _ _ (.inl rfl) e⟩
  | tup xs => obtain ⟨z, its, r, ob, e, c⟩ := x; exact ⟨z, its, r, ob, k _ _ (.inl rfl) e, c⟩
  | dK kvs => obtain ⟨z, y, vs, r, ob, es, ep, e, c⟩ := x; exact ⟨z, y, vs, r, ob, es, ep, k _ _ (.inl rfl) e, c⟩
  | dT kvs =>
    obtain ⟨z, y, xs, r, ob, es, ep, e, c⟩ := x
    exact ⟨z, y, xs, Paired.mapP r fun p q z => ⟨z.1, ht _ _ z.2.1, z.2.2⟩, ob, es, ep, k _ _ (.inl rfl) e, c⟩
  | set S n => obtain ⟨ob, es, ep, t, e, c⟩ := x; exact ⟨ob, es, ep, t, k _ _ (.inl rfl) e, c⟩
  | ins C dx fs =>
    obtain ⟨d, z, ne, e, mA, ⟨od, es, ep, e2, c⟩, r⟩ := x
    exact ⟨ho _ d, z, ne, k _ _ (.inl rfl) e, mA, ⟨od, es, ep, k _ _ (.inr d) e2, c⟩, r⟩
  | own y => obtain ⟨ob, e⟩ := x; exact ⟨ob, k _ _ (.inl rfl) e⟩
  | xd fs => obtain ⟨mA, ⟨od, es, ep, e, c⟩, r⟩ := x; exact ⟨mA, ⟨od, es, ep, k _ _ (.inl rfl) e, c⟩, r⟩
  | rng lo hi => obtain ⟨t, u, v, e⟩ := x; exact ⟨t, u, v, k _ _ (.inl rfl) e⟩
  | frz ob u ih => obtain ⟨e, q⟩ := x; exact ⟨k _ _ (.inl rfl) e, ih q⟩
  | tbl ps =>
    have e : h.get? a = some { cls := .none, data := .fields ps } := x
    show h'.get? a = some { cls := .none, data := .fields ps }
    exact k a _ (.inl rfl) e
  | met f y =>
    have e : h.get? a = some (PySem.W.methodObj (.ref f) (.ref y)) := x
    show h'.get? a = some (PySem.W.methodObj (.ref f) (.ref y))
    exact k a _ (.inl rfl) e
  | ext φ => obtain ⟨p, ⟨o, e⟩, st⟩ := x; exact ⟨st _ _ p fun o q => k _ _ (.inl rfl) q, ⟨o, k _ _ (.inl rfl) e⟩, st⟩
  | dU kvs => obtain ⟨z, y, xs, r, ob, es, ep, e, c⟩ := x; exact ⟨z, y, xs, r, ob, es, ep, k _ _ (.inl rfl) e, c⟩
theorem HOk.lt (x : HOk P w H h) (e : H a = some o) : a < h.objs.size := (x a o e).lt
theorem HOk.fresh (x : HOk P w H h) (e : h.objs.size ≤ a) : H a = none := by
  cases q : H a with
  | none => rfl
  | some u => exact absurd (Nat.lt_of_lt_of_le (x.lt q) e) (Nat.lt_irrefl _)
theorem HOk.kept (x : HOk P w H h) (k : ∀ b u, h.get? b = some u → h'.get? b = some u) : HOk P w H h' := fun a o e =>
  (x a o e).stay (fun b u _ q => k b u q) (fun _ q => q) fun _ _ q => q
theorem HOk.laid (x : HOk P w H h) (k : ∀ b u, h.get? b = some u → h'.get? b = some u) (hp : h.objs.size ≤ a) (new : ObjOk P w (upd H a o) h' a o) : HOk P w (upd H a o) h' := fun b u e => by
  have hn := x.fresh hp
  by_cases hb : b = a
  · subst hb; rw [upd_same] at e; cases e; exact new
  · rw [upd_ne hb] at e
    exact (x b u e).stay (fun c v _ q => k c v q) (fun c q => by rw [upd_ne (ne_of_none q hn)]; exact q) fun c xs q => by rw [upd_ne (ne_of_none q hn)]; exact q
end

def Rd (H : Hp) (a : Addr) (u : HO) : Prop := H a = some u ∨ ∃ o, H a = some (.frz o u)
theorem Rd.ok {P : Program} {w : World} {H : Hp} {h : Heap} {a : Addr} {u : HO} (r : Rd H a u) (x : HOk P w H h) : ObjOk P w H h a u := by
  rcases r with r | ⟨o, r⟩
  · exact x a u r
  · obtain ⟨_, q⟩ := x a _ r
    exact q
def Mut : Option HO → Prop
  | some (.lst _) => True
  | some (.dK _) => True
  | some (.dT _) => True
  | some (.set _ _) => True
  | some (.ins _ _ _) => True
  | some (.ext _) => True
  | some (.dU _) => True
  | _ => False
section
variable {P : Program} {w : World} {H : Hp} {h h' : Heap} {x e : Addr} {o' : HO}
theorem HOk.write (ok : HOk P w H h) (mu : Mut (H x)) (he : e = x ∨ H e = some (.own x)) (k : ∀ b u, b ≠ e → h.get? b = some u → h'.get? b = some u) (heo : ∃ u, h'.get? e = some u)
    (new : ObjOk P w (upd H x o') h' x o') : HOk P w (upd H x o') h' := fun b u q => by
  have nown : ∀ c y, H c = some (.own y) → c ≠ x := fun c y r z => by subst z; rw [r] at mu; exact mu
  have ntup : ∀ c xs, H c = some (.tup xs) → c ≠ x := fun c xs r z => by subst z; rw [r] at mu; exact mu
  by_cases hb : b = x
  · subst hb; rw [upd_same] at q; cases q; exact new
  · rw [upd_ne hb] at q
    by_cases hbe : b = e
    · have q' : H b = some (.own x) := by
        rcases he with z | z
        · exact absurd (hbe.trans z) hb
        · rw [hbe]; exact z
      rw [q] at q'; cases q'
      obtain ⟨v, hv⟩ := heo
      exact ⟨v, by rw [hbe]; exact hv⟩
    · refine (ok b u q).stay (fun c v hc r => k c v ?_ r) (fun c r => by rw [upd_ne (nown c b r)]; exact r) fun c xs r => by rw [upd_ne (ntup c xs r)]; exact r
      rcases hc with rfl | hc
      · exact hbe
      · rintro rfl
        rcases he with z | z
        · exact nown c b hc z
        · rw [hc] at z; cases z; exact hb rfl
end


structure Un (fs ex : List Addr) (H H' : Hp) (h h' : Heap) : Prop where
  keep : ∀ b o, h.get? b = some o → H b = none → b ∉ fs → b ∉ ex → h'.get? b = some o
  slot : ∀ b o, h.get? b = some o → H b = none → b ∈ fs → b ∉ ex → ∃ sl, h'.get? b = some { o with slots := sl }
  free : ∀ b o, h.get? b = some o → H b = none → b ∉ ex → H' b = none
  there : ∀ b o, h.get? b = some o → b ∉ ex → ∃ o', h'.get? b = some o'
  tups : ∀ b xs, H b = some (.tup xs) → H' b = some (.tup xs)
  frzs : ∀ b o u, H b = some (.frz o u) → H' b = some (.frz o u)
  tbls : ∀ b ps, H b = some (.tbl ps) → ∃ more, H' b = some (.tbl (ps ++ more))
section
variable {fs fs' ex ex' : List Addr} {H H1 H2 : Hp} {h h1 h2 h' : Heap} {a x e : Addr} {o : HO}
theorem Un.any (u : Un fs ex H H1 h h1) {b : Addr} {ob : Obj} (q : h.get? b = some ob) (n : H b = none) (hx : b ∉ ex) : ∃ sl, h1.get? b = some { ob with slots := sl } := by
  by_cases hb : b ∈ fs
  · exact u.slot b ob q n hb hx
  · exact ⟨ob.slots, u.keep b ob q n hb hx⟩
theorem Un.kept (k : ∀ b u, h.get? b = some u → h'.get? b = some u) : Un fs ex H H h h' :=
  ⟨fun b ob q _ _ _ => k b ob q, fun b ob q _ _ _ => ⟨ob.slots, k b ob q⟩, fun _ _ _ n _ => n, fun b ob q _ => ⟨ob, k b ob q⟩, fun _ _ q => q, fun _ _ _ q => q, fun _ ps q => ⟨#[], by rw [q]; simp⟩⟩
theorem Un.refl : Un fs ex H H h h := Un.kept fun _ _ q => q
theorem Un.laid (k : ∀ b u, h.get? b = some u → h'.get? b = some u) (hp : h.objs.size ≤ a) (hn : H a = none) : Un fs ex H (upd H a o) h h' where
  keep := fun b u q _ _ _ => k b u q
  slot := fun b u q _ _ _ => ⟨u.slots, k b u q⟩
  free := fun b u q n _ => by rw [upd_ne (Nat.ne_of_lt (Nat.lt_of_lt_of_le (Heap.lt_size q) hp))]; exact n
  there := fun b u q _ => ⟨u, k b u q⟩
  tups := fun b xs q => by rw [upd_ne (ne_of_none q hn)]; exact q
  frzs := fun b u xs q => by rw [upd_ne (ne_of_none q hn)]; exact q
  tbls := fun b ps q => ⟨#[], by rw [upd_ne (ne_of_none q hn), q]; simp⟩
theorem Un.write (mu : Mut (H x)) (he : e = x ∨ H e = some (.own x)) (k : ∀ b u, b ≠ e → h.get? b = some u → h'.get? b = some u) (heo : ∃ u, h'.get? e = some u) : Un fs ex H (upd H x o) h h' := by
  have hx : ∀ b, H b = none → b ≠ x := fun b n z => by subst z; rw [n] at mu; exact mu
  have hb : ∀ b, H b = none → b ≠ e := fun b n z => by
    subst z
    rcases he with r | r
    · exact hx b n r
    · rw [n] at r; cases r
  have hm : ∀ b u, H b = some u → ¬ Mut (some u) → b ≠ x := fun b u q nm z => by subst z; rw [q] at mu; exact nm mu
  refine ⟨fun b u q n _ _ => k b u (hb b n) q, fun b u q n _ _ => ⟨u.slots, k b u (hb b n) q⟩, fun b u q n _ => by rw [upd_ne (hx b n)]; exact n, fun b u q _ => ?_,
    fun b xs q => by rw [upd_ne (hm b _ q fun z => z)]; exact q, fun b u xs q => by rw [upd_ne (hm b _ q fun z => z)]; exact q, fun b ps q => ⟨#[], by rw [upd_ne (hm b _ q fun z => z), q]; simp⟩⟩
  by_cases hbe : b = e
  · subst hbe; exact heo
  · exact ⟨u, k b u hbe q⟩
end


def trk (h : Heap) (H : Hp) : List Addr := (List.range h.objs.size).filter fun a => (H a).isSome
def hidT (h : Heap) (H : Hp) : Heap := PySem.W.hideAll h (trk h H)
theorem hidT_size (h : Heap) (H : Hp) : (hidT h H).objs.size = h.objs.size := PySem.W.hideAll_size _ _
theorem hidT_get {h : Heap} {H : Hp} {b : Addr} {o : Obj} (e : h.get? b = some o) (n : H b = none) : (hidT h H).get? b = some o :=
  PySem.W.hideAll_get _ e fun hm => by
    have q : (H b).isSome = true := (List.mem_filter.mp hm).2
    rw [n] at q; simp at q
theorem of_hidT {h : Heap} {H : Hp} {b : Addr} {o : Obj} (e : (hidT h H).get? b = some o) : h.get? b = some o ∧ H b = none := by
  have e' : h.get? b = some o := PySem.W.of_hideAll (trk h H) e
  refine ⟨e', ?_⟩
  cases q : H b with
  | none => rfl
  | some x =>
    have hm : b ∈ trk h H := List.mem_filter.mpr ⟨List.mem_range.mpr (Heap.lt_size e'), by simp [q]⟩
    have z : (hidT h H).get? b = none := PySem.W.hideAll_none (trk h H) hm
    rw [z] at e; cases e


end L2

namespace L2
open PySem PySem.Spec PyProof.Rows

structure Mod (K : PySem.W.Frag) (mg : Str → Option Value) (base : Heap) : Prop where
  kin : K.In base
  glob : base.Ns mainGlobals mg
  blt : ∃ mb, base.Ns builtinsNs mb ∧ ∀ x : Str, x ≠ "__name__" → mb x = bootBuiltins x
  nolimit : base.NoLimit

/-- the context: a def's body (or a comprehension's block) running. base: fixed through the whole law; s₀, H₀: the entry; outer: the frames whose slots others may change (a def's callers); stack: all frames that run;
   ex: iterators that were made ahead of the entry and are walked here (a comprehension's); fn: the names whose cells were made at the entry (a def: all; a comprehension's block: its own); calm: not within an except suite; pn: pins that every state bears; xe: what is wanted of an exception that leaves the code -/
structure Cx where
  prog : Program
  w : World
  K : PySem.W.Frag
  mg : Str → Option Value
  base : Heap
  A : Around
  N : List Str
  s₀ : Shared
  H₀ : Hp
  env : Env
  outer : List Env
  stack : List Env
  ex : List Addr
  fn : Str → Bool
  calm : Bool
  pn : List (Addr × Obj)
  xe : Value → Shared → Prop
def frs (l : List Env) : List Addr := l.filterMap (·.frame)
abbrev Cx.fs (X : Cx) : List Addr := frs X.outer

def Vis (sc : Scope) (x : Str) : Prop := sc.names.lookup x = some .local ∨ sc.names.lookup x = some .cell ∨ sc.names.lookup x = some .free
def Loc (sc : Scope) (x : Str) : Prop := sc.names.lookup x = some .local ∨ sc.names.lookup x = some .cell
def Look (env : Env) (h : Heap) (m : Str → Option Value) (x : Str) (u : Value) : Prop :=
  (env.kindOf x = some .local ∧ m x = some u) ∨ ((env.kindOf x = some .cell ∨ env.kindOf x = some .free) ∧ ∃ c, env.cells.lookup x = some c ∧ h.IsCell c (some u))

structure Cx.Ok (X : Cx) : Prop where
  mod : Mod X.K X.mg X.base
  kind : X.env.scope.kind = .function
  glob : X.env.globals = mainGlobals
  blt : X.env.builtins = builtinsNs
  above : X.s₀.heap.objs.size ≤ X.env.locals
  inj : ∀ x y c, X.env.cells.lookup x = some c → X.env.cells.lookup y = some c → x = y
  has : ∀ x, (X.env.kindOf x = some .cell ∨ X.env.kindOf x = some .free) → ∃ c, X.env.cells.lookup x = some c
  cab : ∀ x c, X.fn x = true → X.env.cells.lookup x = some c → X.s₀.heap.objs.size ≤ c
  hd : X.calm = true → X.A.handled = none
  frames : X.A.frames = some X.stack
  stk : X.stack = X.outer ∨ (X.stack = X.env :: X.outer ∧ X.env.frame = some X.env.locals)
  exf : ∀ b ∈ X.ex, b ≠ X.env.locals ∧ ∀ x c, X.env.cells.lookup x = some c → c ≠ b
  bs : ∀ b o, X.base.get? b = some o → X.s₀.heap.get? b = some o ∧ X.H₀ b = none
  bsz : X.base.objs.size ≤ X.s₀.heap.objs.size
  noex : ∀ b o, X.base.get? b = some o → b ∉ X.ex
  exfs : ∀ b ∈ X.ex, b ∉ X.fs
  funs : X.s₀.heap.FunFrames X.base X.outer
  frf : ∀ b ∈ X.fs, X.H₀ b = none

structure Inv (X : Cx) (pins : List (Addr × Obj)) (σ : List (Option V)) (H : Hp) (s : Shared) : Prop where
  ok : X.Ok
  os : s.os = X.s₀.os
  bare : AllBare s.gens
  base : Un X.fs X.ex X.H₀ H X.s₀.heap s.heap
  loc : ∃ m, s.heap.Ns X.env.locals m ∧ ∀ (i : Nat) (x : Str) (v : V), X.N[i]? = some x → σ[i]? = some (some v) → Vis X.env.scope x → ∃ u, RelV v u ∧ Look X.env s.heap m x u
  cell : ∀ x c, X.env.cells.lookup x = some c → ∃ v, s.heap.IsCell c v
  free : H X.env.locals = none
  freeC : ∀ x c, X.env.cells.lookup x = some c → H c = none
  pin : ∀ p ∈ X.pn ++ pins, s.heap.get? p.1 = some p.2 ∧ H p.1 = none ∧ p.1 ≠ X.env.locals ∧ p.1 ∉ X.fs ∧ ∀ v, p.2.data ≠ .cell v
  hok : HOk X.prog X.w H s.heap
  len : σ.length = X.N.length

section
variable {X : Cx} {pins : List (Addr × Obj)} {σ : List (Option V)} {H H' : Hp} {s : Shared} {h' : Heap}

theorem Cx.Ok.nofr (ok : X.Ok) {b : Addr} {o : Obj} (e : X.base.get? b = some o) : b ∉ X.fs := fun hb => by
  have := (ok.funs.mem hb).1
  rw [e] at this; cases this
theorem Inv.bs (I : Inv X pins σ H s) : ∀ b o, X.base.get? b = some o → s.heap.get? b = some o ∧ H b = none := fun b o e =>
  ⟨I.base.keep b o (I.ok.bs b o e).1 (I.ok.bs b o e).2 (I.ok.nofr e) (I.ok.noex b o e), I.base.free b o (I.ok.bs b o e).1 (I.ok.bs b o e).2 (I.ok.noex b o e)⟩
theorem Inv.bk (I : Inv X pins σ H s) : ∀ b o, X.base.get? b = some o → s.heap.get? b = some o := fun b o e => (I.bs b o e).1
theorem Inv.mod (I : Inv X pins σ H s) : Mod X.K X.mg X.base := I.ok.mod
theorem Inv.kIn (I : Inv X pins σ H s) : X.K.In s.heap := I.ok.mod.kin.keeps I.bk
theorem Inv.lt (I : Inv X pins σ H s) : X.env.locals < s.heap.objs.size := let ⟨_, hn, _⟩ := I.loc; hn.lt
theorem Inv.sz (I : Inv X pins σ H s) : X.s₀.heap.objs.size ≤ s.heap.objs.size := Nat.le_trans I.ok.above (Nat.le_of_lt I.lt)
theorem Inv.nofs (I : Inv X pins σ H s) {a : Addr} (h : s.heap.objs.size ≤ a) : a ∉ X.fs := fun hb => by
  obtain ⟨_, o, ho, _⟩ := I.ok.funs.mem hb
  exact absurd (Nat.lt_of_lt_of_le (Heap.lt_size ho) (Nat.le_trans I.sz h)) (Nat.lt_irrefl _)
theorem Inv.cne (I : Inv X pins σ H s) : ∀ x c, X.env.cells.lookup x = some c → c ≠ X.env.locals := fun x c e z => by
  obtain ⟨v, o, ho, hd⟩ := I.cell x c e
  obtain ⟨m, ⟨o', es, ep, ho', hd', _⟩, _⟩ := I.loc
  rw [z, ho'] at ho; cases ho; rw [hd'] at hd; cases hd
theorem Inv.funs (I : Inv X pins σ H s) : s.heap.FunFrames X.base X.outer := by
  have all : ∀ (l : List Env), (∀ b ∈ frs l, b ∈ X.fs) → X.s₀.heap.FunFrames X.base l → s.heap.FunFrames X.base l := by
    intro l
    induction l with
    | nil => intro _ _; trivial
    | cons env r ih =>
      intro hs hl
      obtain ⟨hk, ⟨L, o, hf, hn, ho, hd⟩, hr⟩ := hl
      have hL : L ∈ X.fs := hs L (by unfold frs; rw [List.filterMap_cons, hf]; exact List.mem_cons_self)
      obtain ⟨sl, e⟩ := I.base.slot L o ho (I.ok.frf L hL) hL fun z => I.ok.exfs L z hL
      exact ⟨hk, ⟨L, _, hf, hn, e, hd⟩, ih (fun b hb => hs b (by unfold frs; rw [List.filterMap_cons, hf]; exact List.mem_cons_of_mem _ hb)) hr⟩
  exact all X.outer (fun _ hb => hb) I.ok.funs

theorem Inv.stack (I : Inv X pins σ H s) : s.heap.FunFrames X.base X.stack := by
  rcases I.ok.stk with e | ⟨e, hf⟩
  · rw [e]; exact I.funs
  · rw [e]
    obtain ⟨m, hn, _⟩ := I.loc
    refine .cons (by rw [I.ok.kind]; decide) hf hn ?_ I.funs
    exact Heap.get?_none_of_le (Nat.le_trans I.ok.bsz I.ok.above)
theorem Inv.stkSub (I : Inv X pins σ H s) : ∀ b ∈ frs X.stack, b ∈ X.env.locals :: X.fs := fun b hb => by
  rcases I.ok.stk with e | ⟨e, hf⟩
  · rw [e] at hb; exact List.mem_cons_of_mem _ hb
  · rw [e] at hb
    unfold frs at hb
    rw [List.filterMap_cons, hf] at hb
    exact hb
theorem Inv.stkFree (I : Inv X pins σ H s) : ∀ b ∈ frs X.stack, H b = none := fun b hb => by
  rcases List.mem_cons.mp (I.stkSub b hb) with e | hb
  · rw [e]; exact I.free
  · obtain ⟨_, o, ho, _⟩ := I.ok.funs.mem hb
    exact I.base.free b o ho (I.ok.frf b hb) fun z => I.ok.exfs b z hb

theorem Inv.step {g' : Array GenState} {t' : Nat} {d' : Drawn} {ch : List Addr} (I : Inv X pins σ H s)
    (hch : ∀ b ∈ ch, (b ∈ X.ex ∨ X.s₀.heap.objs.size ≤ b) ∧ b ≠ X.env.locals ∧ (∀ x c, X.env.cells.lookup x = some c → c ≠ b) ∧ ∀ p ∈ X.pn ++ pins, p.1 ≠ b)
    (keep : ∀ b o, b ≠ X.env.locals → b ∉ X.fs → b ∉ ch → s.heap.get? b = some o → H b = none → h'.get? b = some o)
    (slot : ∀ b o, b ≠ X.env.locals → b ∈ X.fs → b ∉ ch → s.heap.get? b = some o → H b = none → ∃ sl, h'.get? b = some { o with slots := sl }) (free : ∀ b o, b ∉ ch → s.heap.get? b = some o → H b = none → H' b = none)
    (there : ∀ b o, b ∉ ch → s.heap.get? b = some o → ∃ o', h'.get? b = some o')
    (tups : ∀ b xs, H b = some (.tup xs) → H' b = some (.tup xs)) (frzs : ∀ b o u, H b = some (.frz o u) → H' b = some (.frz o u)) (tbls : ∀ b ps, H b = some (.tbl ps) → ∃ more, H' b = some (.tbl (ps ++ more)))
    (ns : ∀ m, s.heap.Ns X.env.locals m → h'.Ns X.env.locals m) (hok : HOk X.prog X.w H' h') (hg : AllBare g') :
    Inv X pins σ H' { s with heap := h', gens := g', drawn := d', toks := t' } := by
  have neL : ∀ b o, X.s₀.heap.get? b = some o → b ≠ X.env.locals := fun b o e => Nat.ne_of_lt (Nat.lt_of_lt_of_le (Heap.lt_size e) I.ok.above)
  have neC : ∀ b o, X.s₀.heap.get? b = some o → b ∉ X.ex → b ∉ ch := fun b o e hx hb => by
    rcases (hch b hb).1 with z | z
    · exact hx z
    · exact absurd (Nat.lt_of_lt_of_le (Heap.lt_size e) z) (Nat.lt_irrefl _)
  have cellK : ∀ x c, X.env.cells.lookup x = some c → ∀ v, s.heap.IsCell c v → h'.IsCell c v := fun x c e v ⟨o, ho, hd⟩ => by
    have nch : c ∉ ch := fun z => (hch c z).2.2.1 x c e rfl
    by_cases hc : c ∈ X.fs
    · obtain ⟨sl, q⟩ := slot c o (I.cne x c e) hc nch ho (I.freeC x c e)
      exact ⟨_, q, hd⟩
    · exact ⟨o, keep c o (I.cne x c e) hc nch ho (I.freeC x c e), hd⟩
  refine ⟨I.ok, I.os, hg, ⟨fun b o e n hb hx => ?_, fun b o e n hb hx => ?_, fun b o e n hx => ?_, fun b o e hx => ?_, fun b xs e => tups b xs (I.base.tups b xs e), fun b o xs e => frzs b o xs (I.base.frzs b o xs e), fun b ps e => ?_⟩, ?_, fun x c e => ?_, ?_, fun x c e => ?_, fun p hp => ?_, hok, I.len⟩
  · exact keep b o (neL b o e) hb (neC b o e hx) (I.base.keep b o e n hb hx) (I.base.free b o e n hx)
  · obtain ⟨sl, e1⟩ := I.base.slot b o e n hb hx
    obtain ⟨sl', e2⟩ := slot b _ (neL b o e) hb (neC b o e hx) e1 (I.base.free b o e n hx)
    exact ⟨sl', e2⟩
  · obtain ⟨o', e1⟩ := I.base.there b o e hx
    exact free b o' (neC b o e hx) e1 (I.base.free b o e n hx)
  · obtain ⟨o', e1⟩ := I.base.there b o e hx
    exact there b o' (neC b o e hx) e1
  · obtain ⟨m1, e1⟩ := I.base.tbls b ps e
    obtain ⟨m2, e2⟩ := tbls b _ e1
    exact ⟨m1 ++ m2, by rw [e2, Array.append_assoc]⟩
  · obtain ⟨m, hn, hl⟩ := I.loc
    refine ⟨m, ns m hn, fun i x v e1 e2 e3 => ?_⟩
    obtain ⟨u, r, l⟩ := hl i x v e1 e2 e3
    refine ⟨u, r, ?_⟩
    rcases l with l | ⟨k, c, e, z⟩
    · exact .inl l
    · exact .inr ⟨k, c, e, cellK x c e _ z⟩
  · obtain ⟨v, z⟩ := I.cell x c e
    exact ⟨v, cellK x c e v z⟩
  · obtain ⟨m, ⟨o, _, _, ho, _⟩, _⟩ := I.loc
    exact free _ o (fun z => (hch _ z).2.1 rfl) ho I.free
  · obtain ⟨v, o, ho, hd⟩ := I.cell x c e
    exact free c o (fun z => (hch c z).2.2.1 x c e rfl) ho (I.freeC x c e)
  · obtain ⟨e, n, ne, nf, d⟩ := I.pin p hp
    have nch : p.1 ∉ ch := fun z => (hch p.1 z).2.2.2 p hp rfl
    exact ⟨keep p.1 p.2 ne nf nch e n, free p.1 p.2 nch e n, ne, nf, d⟩
theorem Inv.un {t' : Nat} (I : Inv X pins σ H s) (u : Un X.fs [] H H' s.heap h') (hok : HOk X.prog X.w H' h') : Inv X pins σ H' { s with heap := h', toks := t' } := by
  obtain ⟨m, ⟨o, es, ep, ho, r⟩, _⟩ := id I.loc
  obtain ⟨sl, hL⟩ := u.any ho I.free (by simp)
  exact I.step (g' := s.gens) (d' := s.drawn) (ch := []) (fun _ z => nomatch z) (fun b o _ hb _ e n => u.keep b o e n hb (by simp)) (fun b o _ hb _ e n => u.slot b o e n hb (by simp)) (fun b o _ e n => u.free b o e n (by simp)) (fun b o _ e => u.there b o e (by simp)) u.tups u.frzs u.tbls (fun m' hm => by
    obtain ⟨o', es', ep', ho', r'⟩ := hm
    rw [ho] at ho'; cases ho'
    exact ⟨_, es', ep', hL, r'⟩) hok I.bare
theorem Inv.call {g' : Array GenState} {t' : Nat} {d' : Drawn} {ch : List Addr} (I : Inv X pins σ H s) (u : Un (frs X.stack) ch H H' s.heap h') (hok : HOk X.prog X.w H' h') (hg : AllBare g')
    (hch : ∀ b ∈ ch, (b ∈ X.ex ∨ X.s₀.heap.objs.size ≤ b) ∧ b ≠ X.env.locals ∧ (∀ x c, X.env.cells.lookup x = some c → c ≠ b) ∧ ∀ p ∈ X.pn ++ pins, p.1 ≠ b) :
    Inv X pins σ H' { s with heap := h', gens := g', drawn := d', toks := t' } := by
  obtain ⟨m, ⟨o, es, ep, ho, r⟩, _⟩ := id I.loc
  obtain ⟨sl, hL⟩ := u.any ho I.free fun z => (hch _ z).2.1 rfl
  exact I.step (ch := ch) hch (fun b o hL hb hc e n => u.keep b o e n (fun z => (List.mem_cons.mp (I.stkSub b z)).elim hL hb) hc) (fun b o _ _ hc e n => u.any e n hc) (fun b o hc e n => u.free b o e n hc) (fun b o hc e => u.there b o e hc) u.tups u.frzs u.tbls (fun m' hm => by
    obtain ⟨o', es', ep', ho', r'⟩ := hm
    rw [ho] at ho'; cases ho'
    exact ⟨_, es', ep', hL, r'⟩) hok hg
theorem Inv.turned {t' : Nat} {it : Addr} (I : Inv X pins σ H s) (k : ∀ b o, b ≠ it → s.heap.get? b = some o → h'.get? b = some o) (hn : H it = none) (hL : it ≠ X.env.locals)
    (h1 : it ∈ X.ex ∨ X.s₀.heap.objs.size ≤ it) (h2 : ∀ x c, X.env.cells.lookup x = some c → c ≠ it) (h3 : ∀ p ∈ X.pn ++ pins, p.1 ≠ it) : Inv X pins σ H { s with heap := h', toks := t' } := by
  have nit : ∀ b u, H b = some u → b ≠ it := fun b u e z => by rw [z, hn] at e; cases e
  refine I.step (g' := s.gens) (d' := s.drawn) (ch := [it]) (fun b hb => ?_) (fun b o _ _ hc e _ => k b o (fun z => hc (by simp [z])) e) (fun b o _ _ hc e _ => ⟨o.slots, k b o (fun z => hc (by simp [z])) e⟩) (fun _ _ _ _ n => n)
    (fun b o hc e => ⟨o, k b o (fun z => hc (by simp [z])) e⟩) (fun _ _ e => e) (fun _ _ _ e => e) (fun b ps e => ⟨#[], by rw [e]; simp⟩) (fun m hm => ?_) (fun b u e => ?_) I.bare
  · have e : b = it := by simpa using hb
    subst e
    exact ⟨h1, hL, h2, h3⟩
  · obtain ⟨o, es, ep, ho, r⟩ := hm
    exact ⟨o, es, ep, k _ o (Ne.symm hL) ho, r⟩
  · refine (I.hok b u e).stay (fun c v hc q => k c v ?_ q) (fun _ q => q) fun _ _ q => q
    rcases hc with z | z
    · rw [z]; exact nit b u e
    · exact nit c _ z
theorem Inv.tok (I : Inv X pins σ H s) (t : Nat) : Inv X pins σ H { s with toks := t } := I.un (h' := s.heap) (t' := t) Un.refl I.hok
theorem Inv.kept {t' : Nat} (I : Inv X pins σ H s) (k : ∀ b u, s.heap.get? b = some u → h'.get? b = some u) : Inv X pins σ H { s with heap := h', toks := t' } := I.un (Un.kept k) (I.hok.kept k)
theorem Inv.laid {a : Addr} {o : HO} {t' : Nat} (I : Inv X pins σ H s) (k : ∀ b u, s.heap.get? b = some u → h'.get? b = some u) (hp : s.heap.objs.size ≤ a) (new : ObjOk X.prog X.w (upd H a o) h' a o) :
    Inv X pins σ (upd H a o) { s with heap := h', toks := t' } := I.un (Un.laid k hp (I.hok.fresh hp)) (I.hok.laid k hp new)
theorem Inv.write {x e : Addr} {o : HO} {t' : Nat} (I : Inv X pins σ H s) (mu : Mut (H x)) (he : e = x ∨ H e = some (.own x)) (k : ∀ b u, b ≠ e → s.heap.get? b = some u → h'.get? b = some u) (heo : ∃ u, h'.get? e = some u)
    (new : ObjOk X.prog X.w (upd H x o) h' x o) : Inv X pins σ (upd H x o) { s with heap := h', toks := t' } := I.un (Un.write mu he k heo) (I.hok.write mu he k heo new)
theorem Inv.pins_of {pins' : List (Addr × Obj)} (I : Inv X pins σ H s) (h : ∀ p ∈ pins', s.heap.get? p.1 = some p.2 ∧ H p.1 = none ∧ p.1 ≠ X.env.locals ∧ p.1 ∉ X.fs ∧ ∀ v, p.2.data ≠ .cell v) : Inv X pins' σ H s :=
  ⟨I.ok, I.os, I.bare, I.base, I.loc, I.cell, I.free, I.freeC, fun p hp => (List.mem_append.mp hp).elim (fun z => I.pin p (List.mem_append_left _ z)) (h p), I.hok, I.len⟩

theorem nodup_ix {N : List Str} (hN : N.Nodup) {i j : Nat} {x : Str} (a : N[i]? = some x) (b : N[j]? = some x) : i = j := by
  obtain ⟨h1, e1⟩ := List.getElem?_eq_some_iff.mp a
  obtain ⟨h2, e2⟩ := List.getElem?_eq_some_iff.mp b
  exact (List.getElem_inj hN).mp (e1.trans e2.symm)

theorem store_ok2 {M : Model} {A : Around} {E : Value → Shared → Prop} {i : Nat} {x : Str} {v : V} {u : Value} {Q : Unit → Shared → Prop} (I : Inv X pins σ H s) (hN : X.N.Nodup) (hi : X.N[i]? = some x) (hx : Loc X.env.scope x) (r : RelV v u)
    (h : ∀ s', Inv X pins (σ.set i (some v)) H s' → (∃ a, Heap.SameBut a s.heap s'.heap ∧ (a = X.env.locals ∨ X.env.cells.lookup x = some a)) → Q () s') (hf : X.fn x = true ∨ X.env.scope.names.lookup x = some .local := by first | exact .inl rfl | exact .inr rfl | assumption) : wpAny M A (storeName X.env x u) Q E s := by
  obtain ⟨m, hn, hl⟩ := id I.loc
  have hcls : (X.env.scope.kind == .class || (X.env.scope.kind == .module && X.env.locals != X.env.globals)) = false := by rw [I.ok.kind]; rfl
  have hiσ : i < σ.length := by rw [I.len]; exact (List.getElem?_eq_some_iff.mp hi).1
  have cne := I.cne
  have tracked : ∀ {a : Addr} {h' : Heap}, (∃ o, s.heap.get? a = some o ∧ H a = none) → Heap.SameBut a s.heap h' → HOk X.prog X.w H h' := fun {a h'} ha hs b ob e => by
    obtain ⟨_, _, hfree⟩ := ha
    refine (I.hok b ob e).stay (fun c w' hc q => (hs.2 c ?_).trans q) (fun _ q => q) fun _ _ q => q
    rintro rfl
    rcases hc with rfl | hc
    · rw [hfree] at e; cases e
    · rw [hfree] at hc; cases hc
  rcases hx with hk | hk
  · refine wpAny_storeName_local hk hn (fun h' hn' hs => ?_) hcls
    obtain ⟨oL, _, _, hoL, _⟩ := id hn
    refine h _ ⟨I.ok, I.os, I.bare, ⟨fun b o e n hb hx => ?_, fun b o e n hb hx => ?_, I.base.free, fun b o e hx => ?_, I.base.tups, I.base.frzs, I.base.tbls⟩, ⟨_, hn', fun j y v' e1 e2 e3 => ?_⟩, fun y c e => ?_, I.free, I.freeC, fun p hp => ?_, tracked ⟨oL, hoL, I.free⟩ hs, by simpa using I.len⟩ ⟨_, hs, .inl rfl⟩
    · exact (hs.2 b (Nat.ne_of_lt (Nat.lt_of_lt_of_le (Heap.lt_size e) I.ok.above))).trans (I.base.keep b o e n hb hx)
    · obtain ⟨sl, e1⟩ := I.base.slot b o e n hb hx
      exact ⟨sl, (hs.2 b (Nat.ne_of_lt (Nat.lt_of_lt_of_le (Heap.lt_size e) I.ok.above))).trans e1⟩
    · obtain ⟨o', e1⟩ := I.base.there b o e hx
      exact ⟨o', (hs.2 b (Nat.ne_of_lt (Nat.lt_of_lt_of_le (Heap.lt_size e) I.ok.above))).trans e1⟩
    · by_cases hj : j = i
      · subst hj
        rw [hi] at e1; cases e1
        rw [List.getElem?_set_self hiσ] at e2
        cases e2
        exact ⟨u, r, .inl ⟨hk, by simp⟩⟩
      · rw [List.getElem?_set_ne (Ne.symm hj)] at e2
        obtain ⟨u', r', q⟩ := hl j y v' e1 e2 e3
        refine ⟨u', r', ?_⟩
        rcases q with ⟨k, e⟩ | ⟨k, c, e, z⟩
        · refine .inl ⟨k, ?_⟩
          have : y ≠ x := fun e => hj (nodup_ix hN e1 (e ▸ hi))
          simp [this, e]
        · exact .inr ⟨k, c, e, z.sameBut hs (cne y c e)⟩
    · obtain ⟨w', z⟩ := I.cell y c e
      exact ⟨w', z.sameBut hs (cne y c e)⟩
    · obtain ⟨e, n, ne, nf, d⟩ := I.pin p hp
      exact ⟨(hs.2 p.1 ne).trans e, n, ne, nf, d⟩
  · have hfn : X.fn x = true := by
      rcases hf with z | z
      · exact z
      · rw [z] at hk; cases hk
    obtain ⟨c, hc⟩ := I.ok.has x (.inl hk)
    obtain ⟨w', z⟩ := I.cell x c hc
    refine wpAny_storeName_cell I.ok.kind hk hc z (fun h' hc' hs => ?_)
    obtain ⟨oc, hoc, hocd⟩ := id z
    refine h { s with heap := h' } ⟨I.ok, I.os, I.bare, ⟨fun b o e n hb hx => ?_, fun b o e n hb hx => ?_, I.base.free, fun b o e hx => ?_, I.base.tups, I.base.frzs, I.base.tbls⟩, ⟨m, hn.sameBut hs (Ne.symm (cne x c hc)), fun j y v' e1 e2 e3 => ?_⟩, fun y c' e => ?_, I.free, I.freeC, fun p hp => ?_, tracked ⟨oc, hoc, I.freeC x c hc⟩ hs, by simpa using I.len⟩ ⟨c, hs, .inr hc⟩
    · exact (hs.2 b (Nat.ne_of_lt (Nat.lt_of_lt_of_le (Heap.lt_size e) (I.ok.cab x c hfn hc)))).trans (I.base.keep b o e n hb hx)
    · obtain ⟨sl, e1⟩ := I.base.slot b o e n hb hx
      exact ⟨sl, (hs.2 b (Nat.ne_of_lt (Nat.lt_of_lt_of_le (Heap.lt_size e) (I.ok.cab x c hfn hc)))).trans e1⟩
    · obtain ⟨o', e1⟩ := I.base.there b o e hx
      exact ⟨o', (hs.2 b (Nat.ne_of_lt (Nat.lt_of_lt_of_le (Heap.lt_size e) (I.ok.cab x c hfn hc)))).trans e1⟩
    · by_cases hj : j = i
      · subst hj
        rw [hi] at e1; cases e1
        rw [List.getElem?_set_self hiσ] at e2
        cases e2
        exact ⟨u, r, .inr ⟨.inl hk, c, hc, hc'⟩⟩
      · rw [List.getElem?_set_ne (Ne.symm hj)] at e2
        obtain ⟨u', r', q⟩ := hl j y v' e1 e2 e3
        refine ⟨u', r', ?_⟩
        rcases q with q | ⟨k, c', e, z'⟩
        · exact .inl q
        · refine .inr ⟨k, c', e, z'.sameBut hs ?_⟩
          rintro rfl
          exact hj (nodup_ix hN e1 (I.ok.inj _ _ _ e hc ▸ hi))
    · by_cases hcc : c' = c
      · subst hcc; exact ⟨_, hc'⟩
      · obtain ⟨w2, z2⟩ := I.cell y c' e
        exact ⟨w2, z2.sameBut hs hcc⟩
    · obtain ⟨e, n, ne, nf, d⟩ := I.pin p hp
      refine ⟨(hs.2 p.1 ?_).trans e, n, ne, nf, d⟩
      intro q
      rw [q, hoc] at e
      have q' : oc = p.2 := Option.some.inj e
      exact d w' (by rw [← q']; exact hocd)
theorem store_ok {M : Model} {A : Around} {E : Value → Shared → Prop} {i : Nat} {x : Str} {v : V} {u : Value} {Q : Unit → Shared → Prop} (I : Inv X pins σ H s) (hN : X.N.Nodup) (hi : X.N[i]? = some x) (hx : Loc X.env.scope x) (r : RelV v u)
    (h : ∀ s', Inv X pins (σ.set i (some v)) H s' → Q () s') (hf : X.fn x = true ∨ X.env.scope.names.lookup x = some .local := by first | exact .inl rfl | exact .inr rfl | assumption) : wpAny M A (storeName X.env x u) Q E s :=
  store_ok2 I hN hi hx r (fun s' I' _ => h s' I') hf
theorem Inv.call' {s' : Shared} {ch : List Addr} (I : Inv X pins σ H s) (ho : s'.os = s.os) (u : Un (frs X.stack) ch H H' s.heap s'.heap) (hok : HOk X.prog X.w H' s'.heap) (hg : AllBare s'.gens)
    (hch : ∀ b ∈ ch, (b ∈ X.ex ∨ X.s₀.heap.objs.size ≤ b) ∧ b ≠ X.env.locals ∧ (∀ x c, X.env.cells.lookup x = some c → c ≠ b) ∧ ∀ p ∈ X.pn ++ pins, p.1 ≠ b) : Inv X pins σ H' s' := by
  obtain ⟨h', g', d', t', o'⟩ := s'
  have e : o' = s.os := ho
  subst e
  exact I.call (g' := g') (t' := t') (d' := d') u hok hg hch
end


abbrev XK := Value → Option Addr → Hp → Prop
abbrev St := List (Option V)
abbrev VK := V → Hp → Prop
abbrev TE := St → Hp → VK → Prop
abbrev TT := St → Hp → (Bool → Hp → Prop) → Prop
abbrev TA := St → Hp → (List V → Hp → Prop) → Prop
structure Ends where
  nx : St → Hp → Prop
  rt : VK
  bk : St → Hp → Prop := fun _ _ => False
  ct : St → Hp → Prop := fun _ _ => False
abbrev TS := Ends → St → Hp → Prop

def EP (X : Cx) (pins : List (Addr × Obj)) (σ : St) (Q : VK) (u : Value) (s' : Shared) : Prop := ∃ v H', Inv X pins σ H' s' ∧ RelV v u ∧ Q v H'
def TP (X : Cx) (pins : List (Addr × Obj)) (σ : St) (Q : Bool → Hp → Prop) (b : Bool) (s' : Shared) : Prop := ∃ H', Inv X pins σ H' s' ∧ Q b H'
def AP (X : Cx) (pins : List (Addr × Obj)) (σ : St) (Q : List V → Hp → Prop) (us : List Value) (s' : Shared) : Prop := ∃ vs H', Inv X pins σ H' s' ∧ Vals vs us ∧ Q vs H'
def SP (X : Cx) (pins : List (Addr × Obj)) (D : Ends) (f : Flow) (s' : Shared) : Prop :=
  match f with
  | .next => ∃ σ' H', Inv X pins σ' H' s' ∧ D.nx σ' H'
  | .brk => ∃ σ' H', Inv X pins σ' H' s' ∧ D.bk σ' H'
  | .cont => ∃ σ' H', Inv X pins σ' H' s' ∧ D.ct σ' H'
  | .ret u => ∃ v σ' H', Inv X pins σ' H' s' ∧ RelV v u ∧ D.rt v H'

def PE (X : Cx) (e : Expr) (t : TE) : Prop :=
  ∀ (pins : List (Addr × Obj)) (s : Shared) (σ : St) (H : Hp) (Q : VK), Inv X pins σ H s → t σ H Q → wpAny (model X.prog X.w) X.A (eval e X.env) (EP X pins σ Q) X.xe s
def PT (X : Cx) (e : Expr) (t : TT) : Prop :=
  ∀ (pins : List (Addr × Obj)) (s : Shared) (σ : St) (H : Hp) (Q : Bool → Hp → Prop), Inv X pins σ H s → t σ H Q → wpAny (model X.prog X.w) X.A (isTrue e X.env (eval e X.env)) (TP X pins σ Q) X.xe s
def PW (X : Cx) (e : Expr) (t : TT) : Prop :=
  ∀ (whole : Sem Value) (pins : List (Addr × Obj)) (s : Shared) (σ : St) (H : Hp) (Q : Bool → Hp → Prop), Inv X pins σ H s → t σ H Q → wpAny (model X.prog X.w) X.A (isTrue e X.env whole) (TP X pins σ Q) X.xe s
theorem PW.pt {X : Cx} {e : Expr} {t : TT} (h : PW X e t) : PT X e t := h _
def PA (X : Cx) (es : List Expr) (t : TA) : Prop :=
  ∀ (pos : Pos) (pins : List (Addr × Obj)) (s : Shared) (σ : St) (H : Hp) (Q : List V → Hp → Prop), Inv X pins σ H s → t σ H Q → wpAny (model X.prog X.w) X.A (spliced (backTo pos (starEach es X.env))) (AP X pins σ Q) X.xe s
def PS (X : Cx) (st : Stmt) (t : TS) : Prop :=
  ∀ (pins : List (Addr × Obj)) (s : Shared) (σ : St) (H : Hp) (D : Ends), Inv X pins σ H s → t D σ H → wpAny (model X.prog X.w) X.A (exec st X.env) (SP X pins D) X.xe s
def PSs (X : Cx) (st : List Stmt) (t : TS) : Prop :=
  ∀ (pins : List (Addr × Obj)) (s : Shared) (σ : St) (H : Hp) (D : Ends), Inv X pins σ H s → t D σ H → wpAny (model X.prog X.w) X.A (execs st X.env) (SP X pins D) X.xe s
theorem thn {α : Type} {t : Sem α} {Q Q' : α → Shared → Prop} {M : Model} {A : Around} {E : Value → Shared → Prop} {s : Shared} (h : wpAny M A t Q E s) (hQ : ∀ a s, Q a s → Q' a s) : wpAny M A t Q' E s := wpAny_mono h hQ fun _ _ x => x
end L2

namespace L2
open PySem PySem.Spec PyProof.Rows
section
variable {X : Cx}


def tVar (i : Nat) : TE := fun σ H Q => ∃ v, σ[i]? = some (some v) ∧ Q v H
def tC (v : V) : TE := fun _ H Q => Q v H
theorem pe_var {i : Nat} {x : Str} {pos : Pos} (hN : X.N[i]? = some x) (hv : Vis X.env.scope x) (hd : (x == ("__debug__" : Str)) = false := by decide) (hcd : (x == ("__classdict__" : Str)) = false := by decide) : PE X (.Name x pos) (tVar i) := by
  intro pins s σ H Q I h
  obtain ⟨v, e, h⟩ := h
  obtain ⟨m, hn, hl⟩ := I.loc
  obtain ⟨u, r, l⟩ := hl i x v hN e hv
  have fin : EP X pins σ Q u s := ⟨v, H, I, r, h⟩
  rcases l with ⟨hk, hm⟩ | ⟨hk, c, hc, hcell⟩
  · exact wpAny_Name (wpAny_loadName_local I.ok.kind hk hn hm fin) hd
  · rcases hk with hk | hk
    · exact wpAny_Name (wpAny_loadName_cell I.ok.kind hk hc hcell fin) hd
    · exact wpAny_Name (wpAny_loadName_free I.ok.kind hk hc hcell fin hcd) hd
theorem pe_int {i j pos} : PE X (.Constant (.int i) j pos) (tC (.int i)) := fun _ _ _ H _ I h => wpAny_Constant_int ⟨.int i, H, I.tok _, ⟨_, rfl⟩, h⟩
theorem pe_bl {b j pos} : PE X (.Constant (.bool b) j pos) (tC (.bl b)) := fun _ _ _ H _ I h => Constant_bool ⟨.bl b, H, I, rfl, h⟩
theorem pe_str {x j pos} : PE X (.Constant (.str x) j pos) (tC (.str x)) := fun _ _ _ H _ I h => Calls.Constant_str ⟨.str x, H, I.tok _, ⟨_, rfl⟩, h⟩

def Gl (X : Cx) (x : Str) : Prop := X.env.kindOf x = some .globalImplicit
theorem ld_glob {E : Value → Shared → Prop} {pins : List (Addr × Obj)} {s : Shared} {σ : St} {H : Hp} {x : Str} {u : Value} {pos : Pos} {Q : Value → Shared → Prop} (I : Inv X pins σ H s) (hg : Gl X x) (hm : X.mg x = some u) (h : Q u s)
    (hd : (x == ("__debug__" : Str)) = false := by decide) : wpAny (model X.prog X.w) X.A (eval (.Name x pos) X.env) Q E s :=
  Calls.Name_function_global I.ok.kind hg (Calls.loadGlobal_global (by rw [I.ok.glob]; exact I.mod.glob.keeps I.bk) hm h) hd
theorem ld_blt {E : Value → Shared → Prop} {pins : List (Addr × Obj)} {s : Shared} {σ : St} {H : Hp} {x : Str} {u : Value} {pos : Pos} {Q : Value → Shared → Prop} (I : Inv X pins σ H s) (hg : Gl X x) (hm : X.mg x = none) (hv : bootBuiltins x = some u) (h : Q u s)
    (hn : x ≠ "__name__" := by decide) (hd : (x == ("__debug__" : Str)) = false := by decide) : wpAny (model X.prog X.w) X.A (eval (.Name x pos) X.env) Q E s := by
  obtain ⟨mb, h1, h2⟩ := I.mod.blt
  exact Calls.Name_function_global I.ok.kind hg (Calls.loadGlobal_builtin (by rw [I.ok.glob]; exact I.mod.glob.keeps I.bk) hm (by rw [I.ok.blt]; exact h1.keeps I.bk) ((h2 x hn).trans hv) h) hd
theorem pe_glob {x : Str} {v : V} {u : Value} {pos : Pos} (hg : Gl X x) (hm : X.mg x = some u) (r : RelV v u) (hd : (x == ("__debug__" : Str)) = false := by decide) : PE X (.Name x pos) (tC v) :=
  fun _ _ _ H _ I h => ld_glob I hg hm ⟨v, H, I, r, h⟩ hd
theorem pe_bltn {x : Str} {v : V} {u : Value} {pos : Pos} (hg : Gl X x) (hm : X.mg x = none) (hv : bootBuiltins x = some u) (r : RelV v u) (hn : x ≠ "__name__" := by decide) (hd : (x == ("__debug__" : Str)) = false := by decide) : PE X (.Name x pos) (tC v) :=
  fun _ _ _ H _ I h => ld_blt I hg hm hv ⟨v, H, I, r, h⟩ hn hd


variable {a b : Expr} {ta tb : TE} {pos : Pos}

def tB (t : TE) : TT := fun σ H Q => t σ H fun x H1 => ∃ c, x = .bl c ∧ Q c H1
theorem pt_val {e : Expr} {t : TE} (h : PE X e t) (he : ∀ whole, isTrue e X.env whole = (do let v ← whole; standAt e.pos; holding [v] (truthy v)) := by intro _; rfl) : PT X e (tB t) := by
  intro pins s σ H Q I hw
  refine isTrue_plain (thn (h pins s σ H _ I hw) fun v s1 ⟨x, H1, I1, r1, q1⟩ => ?_) (he _)
  obtain ⟨d, rfl, q⟩ := q1
  cases r1
  exact wpAny_truthy_bool ⟨H1, I1, q⟩


variable {tA tB' : TT} {rest : List Expr}
def tOr (t u : TT) : TT := fun σ H Q => t σ H fun c H1 => if c = true then Q true H1 else u σ H1 Q
def tNot (t : TT) : TT := fun σ H Q => t σ H fun c H1 => Q (!c) H1
theorem pw_or1 (ha : PT X a tA) : PW X (.BoolOp .Or [a] pos) tA := by
  intro wh pins s σ H Q I h
  refine isTrue_or (thn (ha pins s σ H Q I h) fun c s1 e => ?_)
  cases c with
  | false => exact isTrue_or_nil e
  | true => exact e
theorem pw_or (ha : PT X a tA) (hb : PW X (.BoolOp .Or (b :: rest) pos) tB') : PW X (.BoolOp .Or (a :: b :: rest) pos) (tOr tA tB') := by
  intro wh pins s σ H Q I h
  refine isTrue_or (thn (ha pins s σ H _ I h) fun c s1 ⟨H1, I1, q1⟩ => ?_)
  cases c with
  | true => exact ⟨H1, I1, q1⟩
  | false => exact hb wh pins s1 σ H1 Q I1 q1
theorem pt_not (ha : PT X a tA) : PT X (.UnaryOp .Not a pos) (tNot tA) := by
  intro pins s σ H Q I h
  exact isTrue_not (ha pins s σ H (fun c H1 => Q (!c) H1) I h)
def tAndV (ta tb : TE) : TE := fun σ H Q => ta σ H fun x H1 => ∃ c, x = .bl c ∧ if c = true then tb σ H1 Q else Q (.bl false) H1
theorem pe_one {op} {t : TE} (h : PE X a t) : PE X (.BoolOp op [a] pos) t := fun pins s σ H Q I hw => BoolOp_one (h pins s σ H Q I hw)
theorem pe_and (ha : PE X a ta) (hb : PE X (.BoolOp .And (b :: rest) pos) tb) : PE X (.BoolOp .And (a :: b :: rest) pos) (tAndV ta tb) := by
  intro pins s σ H Q I h
  refine BoolOp_and (thn (ha pins s σ H _ I h) fun v s1 ⟨x, H1, I1, r1, q1⟩ => ?_)
  obtain ⟨c, rfl, q1⟩ := q1
  cases r1
  refine wpAny_truthy_bool ?_
  cases c with
  | true => exact hb pins s1 σ H1 Q I1 q1
  | false => exact ⟨.bl false, H1, I1, rfl, q1⟩
def tIf (t : TT) (ta tb : TE) : TE := fun σ H Q => t σ H fun c H1 => if c = true then ta σ H1 Q else tb σ H1 Q
theorem pe_ifExp {c : Expr} (hc : PT X c tA) (ha : PE X a ta) (hb : PE X b tb) : PE X (.IfExp c a b pos) (tIf tA ta tb) := by
  intro pins s σ H Q I h
  refine wpAny_IfExp (thn (hc pins s σ H _ I h) fun d s1 ⟨H1, I1, q1⟩ => ?_)
  cases d with
  | true => exact ha pins s1 σ H1 Q I1 q1
  | false => exact hb pins s1 σ H1 Q I1 q1
end
end L2

namespace L2
open PySem PySem.Spec PyProof.Rows


def SqL (K : PySem.W.Frag) (H : Hp) (a : Addr) (xs : List V) : Prop :=
  Rd H a (.lst xs) ∨
    ∃ (o : Obj) (its : Array Value) (n : Nat), K.lookup a = some o ∧ o.cls = .type "list" ∧ o.dict = none ∧ o.data = .seq its n ∧ its.size ≤ sizeLine ∧ Vals xs its.toList
def SqT (K : PySem.W.Frag) (H : Hp) (a : Addr) (xs : List V) : Prop :=
  Rd H a (.tup xs) ∨
    ∃ (o : Obj) (its : Array Value) (n : Nat), K.lookup a = some o ∧ o.cls = .type "tuple" ∧ o.data = .seq its n ∧ its.size ≤ sizeLine ∧ Vals xs its.toList
def absV : Value → Option V
  | .none => some .non
  | .bool b => some (.bl b)
  | .int i _ => some (.int i)
  | .str x _ => some (.str x)
  | .bytes b _ => some (.byt b)
  | .float b _ => some (.flt b)
  | .ref a => some (.ref a)
  | .type n => some (.ty n)
  | _ => none
theorem RelV.abs {x : V} {u : Value} (r : RelV x u) : absV u = some x := by
  cases x with
  | non => cases r; rfl
  | bl _ => cases r; rfl
  | int _ => obtain ⟨t, rfl⟩ := r; rfl
  | str _ => obtain ⟨t, rfl⟩ := r; rfl
  | byt _ => obtain ⟨t, rfl⟩ := r; rfl
  | flt _ => obtain ⟨t, rfl⟩ := r; rfl
  | ref _ => cases r; rfl
  | ty _ => cases r; rfl
theorem RelV.inj {x y : V} {u : Value} (r : RelV x u) (q : RelV y u) : x = y := Option.some.inj (r.abs.symm.trans q.abs)
theorem Vals.inj : ∀ {xs ys : List V} {us : List Value}, Vals xs us → Vals ys us → xs = ys
  | _, _, _, .nil, .nil => rfl
  | _, _, _, .cons r t, .cons r' t' => by rw [r.inj r', Vals.inj t t']
section
variable {X : Cx} {pins : List (Addr × Obj)} {σ : St} {H : Hp} {s : Shared} {a : Addr} {xs ys : List V}
theorem SqT.of {K : PySem.W.Frag} (h : H a = some (.tup xs)) : SqT K H a xs := .inl (.inl h)
theorem Inv.list (I : Inv X pins σ H s) (h : SqL X.K H a xs) : ∃ its : List Value, Vals xs its ∧ PlainL s.heap a its.toArray ∧ xs.length ≤ sizeLine := by
  rcases h with h | ⟨o, its, n, hk, hc, hd, hs, hz, r⟩
  · obtain ⟨z, its, n, r, e⟩ := h.ok I.hok
    exact ⟨its, r, ⟨_, n, e, rfl, rfl, rfl⟩, z⟩
  · refine ⟨its.toList, r, ⟨o, n, I.kIn a o hk, hc, hd, by simpa using hs⟩, ?_⟩
    have e := r.length
    simp only [Array.length_toList] at e
    omega
theorem Inv.tuple (I : Inv X pins σ H s) (h : SqT X.K H a xs) : ∃ its : List Value, Vals xs its ∧ IsTup s.heap a its.toArray ∧ xs.length ≤ sizeLine := by
  rcases h with h | ⟨o, its, n, hk, hc, hs, hz, r⟩
  · obtain ⟨z, its, r, p⟩ := h.ok I.hok
    exact ⟨its, r, p, z⟩
  · refine ⟨its.toList, r, ⟨o, I.kIn a o hk, hc, n, by simpa using hs⟩, ?_⟩
    have e := r.length
    simp only [Array.length_toList] at e
    omega
theorem Inv.list_inj (I : Inv X pins σ H s) (h : SqL X.K H a xs) (h' : SqL X.K H a ys) : xs = ys := by
  obtain ⟨its, r, ⟨o, n, e, _, _, d⟩, _⟩ := I.list h
  obtain ⟨its', r', ⟨o', n', e', _, _, d'⟩, _⟩ := I.list h'
  rw [e] at e'; cases e'
  rw [d] at d'
  injection d' with d1 _
  have : its = its' := by simpa using congrArg Array.toList d1
  subst this
  exact r.inj r'
theorem Inv.tuple_inj (I : Inv X pins σ H s) (h : SqT X.K H a xs) (h' : SqT X.K H a ys) : xs = ys := by
  obtain ⟨its, r, ⟨o, e, _, n, d⟩, _⟩ := I.tuple h
  obtain ⟨its', r', ⟨o', e', _, n', d'⟩, _⟩ := I.tuple h'
  rw [e] at e'; cases e'
  rw [d] at d'
  injection d' with d1 _
  have : its = its' := by simpa using congrArg Array.toList d1
  subst this
  exact r.inj r'
end


abbrev Cx.wish (X : Cx) (E : Value → Shared → Prop) : Cx := { X with xe := E }
abbrev Cx.nox (X : Cx) : Cx := X.wish fun _ _ => False
theorem Cx.Ok.wish {X : Cx} (ok : X.Ok) (E : Value → Shared → Prop) : (X.wish E).Ok :=
  ⟨ok.mod, ok.kind, ok.glob, ok.blt, ok.above, ok.inj, ok.has, ok.cab, ok.hd, ok.frames, ok.stk, ok.exf, ok.bs, ok.bsz, ok.noex, ok.exfs, ok.funs, ok.frf⟩
theorem Cx.Ok.unwish {X : Cx} {E : Value → Shared → Prop} (ok : (X.wish E).Ok) : X.Ok :=
  ⟨ok.mod, ok.kind, ok.glob, ok.blt, ok.above, ok.inj, ok.has, ok.cab, ok.hd, ok.frames, ok.stk, ok.exf, ok.bs, ok.bsz, ok.noex, ok.exfs, ok.funs, ok.frf⟩
section
variable {X : Cx} {pins : List (Addr × Obj)} {σ : St} {H : Hp} {s : Shared} {E : Value → Shared → Prop}
theorem Inv.wish (I : Inv X pins σ H s) (E : Value → Shared → Prop) : Inv (X.wish E) pins σ H s := ⟨I.ok.wish E, I.os, I.bare, I.base, I.loc, I.cell, I.free, I.freeC, I.pin, I.hok, I.len⟩
theorem Inv.unwish (I : Inv (X.wish E) pins σ H s) : Inv X pins σ H s := ⟨I.ok.unwish, I.os, I.bare, I.base, I.loc, I.cell, I.free, I.freeC, I.pin, I.hok, I.len⟩
theorem SP.unwish {D : Ends} {f : Flow} {s' : Shared} (h : SP (X.wish E) pins D f s') : SP X pins D f s' := by
  cases f with
  | next => obtain ⟨σ', H', I, q⟩ := h; exact ⟨σ', H', I.unwish, q⟩
  | brk => obtain ⟨σ', H', I, q⟩ := h; exact ⟨σ', H', I.unwish, q⟩
  | cont => obtain ⟨σ', H', I, q⟩ := h; exact ⟨σ', H', I.unwish, q⟩
  | ret u => obtain ⟨v, σ', H', I, r, q⟩ := h; exact ⟨v, σ', H', I.unwish, r, q⟩
theorem PSs.nox {st : List Stmt} {t : TS} (h : PSs X.nox st t) : PSs X st t := fun pins s σ H D I hw =>
  wpAny_mono (h pins s σ H D (I.wish _) hw) (fun _ _ q => q.unwish) fun _ _ z => False.elim z
end


section
variable {X : Cx} {st : Stmt} {rest : List Stmt} {t u : TS} {e : Expr} {te : TE} {pos : Pos}
def tNext : TS := fun D σ H => D.nx σ H
def tSeq (t u : TS) : TS := fun D σ H => t { D with nx := u D } σ H
theorem pss_nil : PSs X [] tNext := fun _ _ σ H _ I h => wpAny_execs_nil ⟨σ, H, I, h⟩
theorem pss_cons (h1 : PS X st t) (h2 : PSs X rest u) : PSs X (st :: rest) (tSeq t u) := by
  intro pins s σ H D I h
  refine wpAny_execs_cons (thn (h1 pins s σ H { D with nx := u D } I h) fun f s1 q => ?_)
  cases f with
  | next =>
    obtain ⟨σ', H', I', q⟩ := q
    exact h2 pins s1 σ' H' D I' q
  | ret v => exact q
  | brk => exact q
  | cont => exact q
theorem pss_one (h1 : PS X st t) : PSs X [st] t := by
  intro pins s σ H D I h
  refine wpAny_execs_cons (thn (h1 pins s σ H D I h) fun f s1 q => ?_)
  cases f with
  | next => exact wpAny_execs_nil q
  | ret v => exact q
  | brk => exact q
  | cont => exact q
theorem Inv.quiet {pins : List (Addr × Obj)} {σ : St} {H : Hp} {s : Shared} (I : Inv X pins σ H s) : interactive X.env = false := by simp [interactive, I.ok.kind]
def tDrop (te : TE) : TS := fun D σ H => te σ H fun _ H1 => D.nx σ H1
theorem ps_expr (he : PE X e te) (hs : swapsWith e none pos.line X.env = pure false := by rfl) : PS X (.Expr e pos) (tDrop te) := by
  intro pins s σ H D I h
  exact wpAny_Expr_any (thn (he pins s σ H _ I h) fun v s1 ⟨x, H1, I1, r1, q1⟩ => ⟨σ, H1, I1, q1⟩) I.quiet hs
def tRet (te : TE) : TS := fun D σ H => te σ H D.rt
theorem ps_ret (he : PE X e te) : PS X (.Return (some e) pos) (tRet te) := by
  intro pins s σ H D I h
  exact wpAny_Return_some (thn (he pins s σ H _ I h) fun v s1 ⟨x, H1, I1, r1, q1⟩ => ⟨x, σ, H1, I1, r1, q1⟩)
def tIfS (c : TT) (t u : TS) : TS := fun D σ H => c σ H fun b H1 => if b = true then t D σ H1 else u D σ H1
theorem ps_if {c : Expr} {a b : List Stmt} {tc : TT} (hc : PT X c tc) (ha : PSs X a t) (hb : PSs X b u) : PS X (.If c a b pos) (tIfS tc t u) := by
  intro pins s σ H D I h
  refine wpAny_If (thn (hc pins s σ H _ I h) fun d s1 ⟨H1, I1, q1⟩ => ?_)
  cases d with
  | true => exact ha pins s1 σ H1 D I1 q1
  | false => exact hb pins s1 σ H1 D I1 q1
end


abbrev TG := V → St → Hp → (St → Hp → Prop) → Prop
abbrev TGs := List V → St → Hp → (St → Hp → Prop) → Prop
def PG (X : Cx) (target : Expr) (t : TG) : Prop :=
  ∀ (pins : List (Addr × Obj)) (s : Shared) (σ : St) (H : Hp) (v : V) (u : Value) (Q : St → Hp → Prop), Inv X pins σ H s → RelV v u → t v σ H Q →
    wpAny (model X.prog X.w) X.A (assign target X.env u) (fun _ s' => ∃ σ' H', Inv X pins σ' H' s' ∧ Q σ' H') X.xe s
def PGs (X : Cx) (ts : List Expr) (t : TGs) : Prop :=
  ∀ (pins : List (Addr × Obj)) (s : Shared) (σ : St) (H : Hp) (vs : List V) (us : List Value) (Q : St → Hp → Prop), Inv X pins σ H s → Vals vs us → t vs σ H Q →
    wpAny (model X.prog X.w) X.A (assignInOrder ((assignEach ts X.env).map (·.2)) us) (fun _ s' => ∃ σ' H', Inv X pins σ' H' s' ∧ Q σ' H') X.xe s
abbrev TSet := V → V → V → Hp → (Hp → Prop) → Prop
def PSet (X : Cx) (t : TSet) : Prop :=
  ∀ (pins : List (Addr × Obj)) (s : Shared) (σ : St) (H : Hp) (o i v : V) (ov iv u : Value) (Q : Hp → Prop), Inv X pins σ H s → RelV o ov → RelV i iv → RelV v u → t o i v H Q →
    wpAny (model X.prog X.w) X.A (setItem ov iv u) (fun _ s' => ∃ H', Inv X pins σ H' s' ∧ Q H') X.xe s
section
variable {X : Cx} {pos : Pos}
def gName (i : Nat) : TG := fun v σ H Q => Q (σ.set i (some v)) H
theorem pg_name {i : Nat} {x : Str} (hN : X.N.Nodup) (hi : X.N[i]? = some x) (hx : Loc X.env.scope x) (hf : X.fn x = true ∨ X.env.scope.names.lookup x = some .local := by first | exact .inl rfl | exact .inr rfl | assumption) : PG X (.Name x pos) (gName i) := by
  intro pins s σ H v u Q I r h
  exact wpAny_assign_Name (store_ok I hN hi hx r (fun s' I' => ⟨_, H, I', h⟩) hf)
def gNil : TGs := fun vs σ H Q => vs = [] ∧ Q σ H
def gCons (t : TG) (u : TGs) : TGs := fun vs σ H Q => ∃ v r, vs = v :: r ∧ t v σ H fun σ' H' => u r σ' H' Q
theorem pgs_nil : PGs X [] gNil := by
  intro pins s σ H vs us Q I r h
  obtain ⟨e, h⟩ := h
  subst e
  cases r
  exact assignInOrder_nil ⟨σ, H, I, h⟩
theorem pgs_cons {e : Expr} {es : List Expr} {t : TG} {u : TGs} (h1 : PG X e t) (h2 : PGs X es u)
    (hs : (assignEach (e :: es) X.env).map (·.2) = assign e X.env :: (assignEach es X.env).map (·.2) := by rfl) : PGs X (e :: es) (gCons t u) := by
  intro pins s σ H vs us Q I r h
  obtain ⟨v, vr, e1, h⟩ := h
  subst e1
  cases r with
  | cons r rr =>
    rw [hs]
    refine assignInOrder_cons (thn (h1 pins s σ H _ _ _ I r h) fun _ s1 ⟨σ1, H1, I1, q1⟩ => ?_)
    exact h2 pins s1 σ1 H1 _ _ Q I1 rr q1
def gTup (K : PySem.W.Frag) (n : Nat) (t : TGs) : TG := fun v σ H Q => ∃ a xs, v = .ref a ∧ SqT K H a xs ∧ xs.length = n ∧ t xs σ H Q
theorem pg_tup {es : List Expr} {k : Nat} {t : TGs} {n : Nat} (hc : X.calm = true) (h : PGs X es t)
    (hn : (assignEach es X.env).length = n := by rfl) (hst : (assignEach es X.env).findIdx? (·.1) = none := by rfl) : PG X (.Tuple es k pos) (gTup X.K n t) := by
  intro pins s σ H v u Q I r hw
  obtain ⟨a, xs, e1, hq, hl, hw⟩ := hw
  subst e1
  cases r
  obtain ⟨its, rv, ht, hz⟩ := I.tuple hq
  refine assign_Tuple_tuple (I.ok.hd hc) ht (by simp [hn, ← hl, rv.length]) hst fun h' hx => ?_
  have I1 : Inv X pins σ H { s with heap := h' } := I.kept (t' := s.toks) fun b o e => hx b o (Nat.ne_of_lt (Heap.lt_size e)) e
  exact h pins _ σ H xs _ Q I1 (by simpa using rv) hw
def gSub (to ti : TE) (t : TSet) : TG := fun v σ H Q => to σ H fun o H1 => ti σ H1 fun i H2 => t o i v H2 fun H3 => Q σ H3
theorem pg_sub {o i : Expr} {to ti : TE} {t : TSet} (ho : PE X o to) (hi : PE X i ti) (hs : PSet X t)
    (ha : ∀ v, assign (.Subscript o i pos) X.env v = (do
      let ov ← holding [v] (eval o X.env)
      let iv ← holding [v, ov] (eval i X.env)
      standAt pos
      holding [v, ov, iv] (setItem ov iv v)
      release [v, ov, iv] []) := by intro _; rfl) : PG X (.Subscript o i pos) (gSub to ti t) := by
  intro pins s σ H v u Q I r h
  rw [ha]
  refine wpAny_bind (wpAny_holding (thn (ho pins s σ H _ I h) fun ov s1 ⟨x, H1, I1, r1, q1⟩ => ?_))
  refine wpAny_bind (wpAny_holding (thn (hi pins s1 σ H1 _ I1 q1) fun iv s2 ⟨y, H2, I2, r2, q2⟩ => ?_))
  refine wpAny_bind (wpAny_standAt (wpAny_bind (wpAny_holding (thn (hs pins s2 σ H2 x y v ov iv u _ I2 r1 r2 r q2) fun _ s3 ⟨H3, I3, q3⟩ => ?_))))
  exact wpAny_release ⟨σ, H3, I3, q3⟩
def tAsg (te : TE) (g : TG) : TS := fun D σ H => te σ H fun x H1 => g x σ H1 D.nx
theorem ps_asg {tg e : Expr} {te : TE} {g : TG} (he : PE X e te) (hg : PG X tg g) (hs : swapsWithSole [tg] e pos.line X.env = pure false := by rfl) (hw : swappedStores [tg] e X.env = pure none := by rfl)
    (h1 : (assignEach [tg] X.env).map (·.2) = [assign tg X.env] := by rfl) : PS X (.Assign [tg] e pos) (tAsg te g) := by
  intro pins s σ H D I h
  refine wpAny_Assign_stores (thn (he pins s σ H _ I h) fun v s1 ⟨x, H1, I1, r1, q1⟩ => ?_) hs hw
  rw [h1]
  exact thn (hg pins s1 σ H1 x v _ I1 r1 q1) fun _ s2 q => q
theorem ps_set {i : Nat} {x : Str} {e : Expr} {te : TE} {pos' : Pos} (hN : X.N.Nodup) (hi : X.N[i]? = some x) (hx : Loc X.env.scope x) (he : PE X e te) (hs : swapsWith e (some (.Name x pos')) pos.line X.env = pure false := by rfl) (hf : X.fn x = true ∨ X.env.scope.names.lookup x = some .local := by first | exact .inl rfl | exact .inr rfl | assumption) :
    PS X (.Assign [.Name x pos'] e pos) (tAsg te (gName i)) := by
  intro pins s σ H D I h
  refine wpAny_Assign_Name (thn (he pins s σ H _ I h) fun v s1 ⟨y, H1, I1, r1, q1⟩ => ?_) hs
  exact store_ok I1 hN hi hx r1 (fun s2 I2 => ⟨_, H1, I2, q1⟩) hf
end


section
variable {X : Cx} {pos : Pos}
def tWhile (c : TT) (tb : TS) : TS := fun D σ H => ∃ W : Nat → St → Hp → Prop, (∃ m, W m σ H) ∧ ∀ m σ H, W m σ H →
  c σ H fun b H1 => if b = true then ∃ N : St → Hp → Prop, (∀ σ' H', N σ' H' → ∃ m', m' < m ∧ W m' σ' H') ∧ tb { D with nx := N, ct := N, bk := D.nx } σ H1 else D.nx σ H1
theorem ps_while {c : Expr} {body : List Stmt} {tc : TT} {tb : TS} (hp : PassesOwn (model X.prog X.w) X.A X.env X.xe) (hc : PT X c tc) (hb : PSs X body tb) : PS X (.While c body [] pos) (tWhile tc tb) := by
  intro pins s σ H D I h
  obtain ⟨W, ⟨m0, w0⟩, turn⟩ := h
  refine wpAny_While (codeAny_whileLoop (fun n s' => ∃ σ' H', Inv X pins σ' H' s' ∧ W n σ' H') ?_ m0 ⟨σ, H, I, w0⟩)
  rintro n s1 ⟨σ1, H1, I1, w1⟩
  refine wpAny_passesOwn hp (thn (hc pins s1 σ1 H1 _ I1 (turn n σ1 H1 w1)) fun b s2 ⟨H2, I2, q2⟩ => ?_)
  cases b with
  | true =>
    obtain ⟨N, hN, q2⟩ := q2
    rw [if_pos rfl]
    refine wpAny_passesOwn hp (thn (hb pins s2 σ1 H2 _ I2 q2) fun f s3 q3 => ?_)
    cases f with
    | next =>
      obtain ⟨σ3, H3, I3, n3⟩ := q3
      obtain ⟨m', hm, w3⟩ := hN σ3 H3 n3
      exact ⟨m', hm, σ3, H3, I3, w3⟩
    | cont =>
      obtain ⟨σ3, H3, I3, n3⟩ := q3
      obtain ⟨m', hm, w3⟩ := hN σ3 H3 n3
      exact ⟨m', hm, σ3, H3, I3, w3⟩
    | brk => exact q3
    | ret v => exact q3
  | false =>
    rw [if_neg Bool.false_ne_true]
    exact wpAny_execs_nil ⟨σ1, H2, I2, q2⟩
end


structure It where
  go : Nat → Hp → Prop
  yld : Nat → Hp → V → Hp → Prop
  stop : Nat → Hp → Prop
def FpOk (X : Cx) (pins : List (Addr × Obj)) (H : Hp) (b : Addr) : Prop :=
  H b = none ∧ b ≠ X.env.locals ∧ b ∉ X.fs ∧ (b ∈ X.ex ∨ X.s₀.heap.objs.size ≤ b) ∧ (∀ x c, X.env.cells.lookup x = some c → c ≠ b) ∧ ∀ p ∈ X.pn ++ pins, p.1 ≠ b
theorem Inv.fpOk {X : Cx} {pins : List (Addr × Obj)} {σ : St} {H H' : Hp} {s : Shared} {b : Addr} (I : Inv X pins σ H s) (hb : s.heap.objs.size ≤ b) (hn : H' b = none) : FpOk X pins H' b := by
  refine ⟨hn, Nat.ne_of_gt (Nat.lt_of_lt_of_le I.lt hb), I.nofs hb, .inr (Nat.le_trans I.sz hb), fun x c e z => ?_, fun p hp z => ?_⟩
  · obtain ⟨v, q⟩ := I.cell x c e
    exact absurd (Nat.lt_of_lt_of_le q.lt (by rw [z]; exact hb)) (Nat.lt_irrefl _)
  · exact absurd (Nat.lt_of_lt_of_le (Heap.lt_size (I.pin p hp).1) (by rw [z]; exact hb)) (Nat.lt_irrefl _)
structure Turn (P : Program) (w : World) (K : PySem.W.Frag) (tg : Expr) (J : It) (fp : List Addr) (it : Addr) (tn : Nat → Heap → Prop) : Prop where
  mem : it ∈ fp
  obj : ∀ i h, tn i h → ∀ b ∈ fp, ∃ o, h.get? b = some o ∧ ∀ v, o.data ≠ .cell v
  keep : ∀ i h h', tn i h → (∀ b ∈ fp, ∀ o, h.get? b = some o → h'.get? b = some o) → tn i h'
  item : ∀ (X : Cx), X.prog = P → X.w = w → X.K = K → X.calm = true → ∀ (i : Nat) (pins : List (Addr × Obj)) (s : Shared) (σ : St) (H : Hp) (E : Value → Shared → Prop), Inv X pins σ H s → (∀ b ∈ fp, FpOk X pins H b) → tn i s.heap → J.go i H →
    wpAny (model P w) X.A (pyNext (.ref it)) (fun r s1 => ∃ u, r = some u ∧
      wpAny (model P w) X.A (letOwnedTupleGo tg (.ref it) u) (fun _ s2 => ∃ x H', Inv X pins σ H' s2 ∧ RelV x u ∧ J.yld i H x H' ∧ tn (i + 1) s2.heap ∧ ∀ b ∈ fp, H' b = none) E s1) E s
  done : ∀ (X : Cx), X.prog = P → X.w = w → X.K = K → X.calm = true → ∀ (i : Nat) (pins : List (Addr × Obj)) (s : Shared) (σ : St) (H : Hp) (E : Value → Shared → Prop), Inv X pins σ H s → (∀ b ∈ fp, FpOk X pins H b) → tn i s.heap → J.stop i H →
    wpAny (model P w) X.A (pyNext (.ref it)) (fun r s1 => r = none ∧ Inv X pins σ H s1) E s
  self : ∀ (A : Around) (i : Nat) (s : Shared) (Q : Value → Shared → Prop) (E : Value → Shared → Prop), tn i s.heap → Q (.ref it) s → wpAny (model P w) A (pyIter (.ref it)) Q E s
abbrev TI := St → Hp → (It → Hp → Prop) → Prop
def PIE (X : Cx) (pins : List (Addr × Obj)) (σ : St) (tg : Expr) (R : It → Hp → Prop) (itv : Value) (s2 : Shared) : Prop :=
  ∃ (it : Addr) (fp : List Addr) (tn : Nat → Heap → Prop) (J : It) (H' : Hp), itv = .ref it ∧ Inv X pins σ H' s2 ∧ Turn X.prog X.w X.K tg J fp it tn ∧ tn 0 s2.heap ∧ (∀ b ∈ fp, FpOk X pins H' b) ∧ R J H'
def PI (X : Cx) (tg iter : Expr) (wi : TI) : Prop :=
  ∀ (pins : List (Addr × Obj)) (s : Shared) (σ : St) (H : Hp) (R : It → Hp → Prop), Inv X pins σ H s → wi σ H R →
    wpAny (model X.prog X.w) X.A (eval iter X.env) (fun v s1 => wpAny (model X.prog X.w) X.A (pyIter v) (PIE X pins σ tg R) X.xe s1) X.xe s

theorem go_of {M : Model} {A : Around} {E : Value → Shared → Prop} {s : Shared} {tg : Expr} {it : Addr} {u : Value} {o : Obj} {n : String} {vs : Array Value} {Q : Unit → Shared → Prop} (ho : s.heap.get? it = some o) (hc : o.cls = .type n) (hd : o.data = .fields vs)
    (hn : ["enumerate", "zip", "dict_itemiterator", "dict_reverseitemiterator", "odict_iterator", "itertools.zip_longest", "itertools.pairwise"].contains n = false) (hQ : Q () s) : wpAny M A (letOwnedTupleGo tg (.ref it) u) Q E s := by
  unfold letOwnedTupleGo
  cases tg <;> first
    | exact wpAny_pure hQ
    | (cases u <;> first
        | exact wpAny_pure hQ
        | (refine wpAny_bind (wpAny_load ho ?_)
           rw [hc, hd]
           show wpAny M A (if (["enumerate", "zip", "dict_itemiterator", "dict_reverseitemiterator", "odict_iterator", "itertools.zip_longest", "itertools.pairwise"].contains n && vs[0]? == some (rawInt _)) = true then _ else _) Q E s
           rw [if_neg (by intro h; rw [hn, Bool.false_and] at h; cases h)]
           exact wpAny_pure hQ))

def Itl (K : PySem.W.Frag) (a : Addr) : It :=
  ⟨fun i H => ∃ xs x, SqL K H a xs ∧ xs[i]? = some x, fun i H x H' => H' = H ∧ ∀ xs, SqL K H a xs → xs[i]? = some x, fun i H => ∃ xs, SqL K H a xs ∧ xs.length ≤ i⟩
def Itr (lo : Int) (n : Nat) : It := ⟨fun i _ => i < n, fun i H x H' => H' = H ∧ x = .int (lo + i), fun i _ => n ≤ i⟩
theorem turn_list {P : Program} {w : World} {K : PySem.W.Frag} {tg : Expr} (a it : Addr) : Turn P w K tg (Itl K a) [it] it (fun i h => h.IsListIter it a i) where
  mem := by simp
  obj := fun i h st b hb => by
    have e : b = it := by simpa using hb
    subst e
    obtain ⟨o, e, c, d⟩ := st
    exact ⟨o, e, fun v z => by rw [d] at z; cases z⟩
  keep := fun i h h' st k => st.at fun o e => k it (by simp) o e
  item := by
    intro X hP hw hK hc i pins s σ H E I hf st hg
    subst hP hw hK
    obtain ⟨xs, x, hq, hx⟩ := hg
    obtain ⟨its, rv, p, hz⟩ := I.list hq
    obtain ⟨u, hu, ru⟩ := rv.get hx
    obtain ⟨f0, f1, f2, f3, f4, f5⟩ := hf it (by simp)
    refine wpAny_pyNext_list_item st p.isList (x := u) (by simpa using hu) fun h' st' sb => ?_
    have I1 : Inv X pins σ H { s with heap := h' } := I.turned (t' := s.toks) (fun b o hb e => (sb.2 b hb).trans e) f0 f1 f3 f4 f5
    obtain ⟨o, e, c, d⟩ := id st'
    exact ⟨u, rfl, go_of (s := { s with heap := h' }) e c d (by decide) ⟨x, H, I1, ru, ⟨rfl, fun ys hy => by rw [I.list_inj hy hq]; exact hx⟩, st', fun b hb => (hf b hb).1⟩⟩
  done := by
    intro X hP hw hK hc i pins s σ H E I hf st hg
    subst hP hw hK
    obtain ⟨xs, hq, hx⟩ := hg
    obtain ⟨its, rv, p, hz⟩ := I.list hq
    obtain ⟨f0, f1, f2, f3, f4, f5⟩ := hf it (by simp)
    have hl := rv.length
    exact wpAny_pyNext_list_end (I.ok.hd hc) st p.isList (by simp; omega) fun h' eb => ⟨rfl, I.turned (t' := s.toks) (fun b o hb e => eb b o hb e) f0 f1 f3 f4 f5⟩
  self := fun _ _ _ _ _ st h => wpAny_pyIter_listiter st h
theorem turn_range {P : Program} {w : World} {K : PySem.W.Frag} {tg : Expr} (it : Addr) (lo : Int) (n : Nat) : Turn P w K tg (Itr lo n) [it] it (fun i h => IsRangeIter h it (lo + (i : Nat) * 1) ((n : Int) - (i : Nat)) 1) where
  mem := by simp
  obj := fun i h st b hb => by
    have e : b = it := by simpa using hb
    subst e
    exact ⟨_, st, fun v z => by
      have z' : Data.fields _ = Data.cell v := z
      cases z'⟩
  keep := fun i h h' st k => k it (by simp) _ st
  item := by
    intro X hP hw hK hc i pins s σ H E I hf st hg
    subst hP hw hK
    obtain ⟨f0, f1, f2, f3, f4, f5⟩ := hf it (by simp)
    have W := Walks.range (prog := X.prog) (w := X.w) (I.ok.hd hc) it lo 1 n
    refine W.item i s _ _ hg st fun v h' tk hv st' kk => ?_
    obtain ⟨t, rfl⟩ := hv
    have I1 : Inv X pins σ H { s with heap := h', toks := tk } := I.turned (fun b o hb e => kk b o (by simpa using hb) e) f0 f1 f3 f4 f5
    refine ⟨_, rfl, go_of (s := { s with heap := h', toks := tk }) (n := "range_iterator") st' rfl rfl (by decide) ⟨.int (lo + i), H, I1, ⟨t, ?_⟩, ⟨rfl, rfl⟩, st', fun b hb => (hf b hb).1⟩⟩
    rw [Int.mul_one]
  done := by
    intro X hP hw hK hc i pins s σ H E I hf st hg
    subst hP hw hK
    obtain ⟨f0, f1, f2, f3, f4, f5⟩ := hf it (by simp)
    exact wpAny_pyNext_range_end (I.ok.hd hc) st (by have : n ≤ i := hg; omega) fun h' eb => ⟨rfl, I.turned (t' := s.toks) (fun b o hb e => eb b o hb e) f0 f1 f3 f4 f5⟩
  self := fun _ _ _ _ _ st h => wpAny_pyIter_rangeiter st h
end L2

namespace L2
open PySem PySem.Spec PyProof.Rows
section
variable {X : Cx} {tg : Expr}
def iList (K : PySem.W.Frag) (tl : TE) : TI := fun σ H R => tl σ H fun x H1 => ∃ a, x = .ref a ∧ (∃ xs, SqL K H1 a xs) ∧ R (Itl K a) H1
theorem pi_list {l : Expr} {tl : TE} (hl : PE X l tl) : PI X tg l (iList X.K tl) := by
  intro pins s σ H R I h
  refine thn (hl pins s σ H _ I h) fun v s1 ⟨x, H1, I1, r1, q1⟩ => ?_
  obtain ⟨a, e, ⟨xs, hq⟩, q⟩ := q1
  subst e
  cases r1
  obtain ⟨its, rv, p, hz⟩ := I1.list hq
  refine wpAny_pyIter_list p.isList ?_
  refine ⟨s1.heap.objs.size, [s1.heap.objs.size], _, _, H1, rfl, I1.kept (t' := s1.toks) fun b o e => Heap.get?_push_of_some _ e, turn_list a _, ⟨_, Heap.get?_push_size _ rfl, rfl, rfl⟩, fun b hb => ?_, q⟩
  have e : b = s1.heap.objs.size := by simpa using hb
  subst e
  exact I1.fpOk (Nat.le_refl _) (I1.hok.fresh (Nat.le_refl _))
theorem range_it {pins : List (Addr × Obj)} {σ : St} {H : Hp} {s : Shared} {R : It → Hp → Prop} {E : Value → Shared → Prop} {lo hi : Int} {t u v : Tok} {tk : Nat} (I : Inv X pins σ H s) (h1 : -(2 ^ 62) ≤ lo) (h2 : lo < 2 ^ 62) (h3 : -(2 ^ 62) ≤ hi) (h4 : hi < 2 ^ 62)
    (q : R (Itr lo (hi - lo).toNat) H) : wpAny (model X.prog X.w) X.A (pyIter (.ref s.heap.objs.size)) (PIE X pins σ tg R) E { s with heap := s.heap.push { cls := .type "range", data := .fields #[.int lo t, .int hi u, .int 1 v] }, toks := tk } := by
  refine wpAny_pyIter_range (IsRange.new ..) (small_one h1 h2 h3 h4) ?_
  have I1 : Inv X pins σ H { s with heap := s.heap.push { cls := .type "range", data := .fields #[.int lo t, .int hi u, .int 1 v] }, toks := tk } := I.kept fun b o e => Heap.get?_push_of_some _ e
  refine ⟨(s.heap.push { cls := .type "range", data := .fields #[.int lo t, .int hi u, .int 1 v] }).objs.size, [(s.heap.push { cls := .type "range", data := .fields #[.int lo t, .int hi u, .int 1 v] }).objs.size], _, _, H, rfl,
    I1.kept (t' := tk) fun b o e => Heap.get?_push_of_some _ e, turn_range _ lo (hi - lo).toNat, ?_, fun b hb => ?_, q⟩
  · have e1 : lo + ((0 : Nat) : Int) * 1 = lo := by simp
    have e2 : (((hi - lo).toNat : Nat) : Int) - ((0 : Nat) : Int) = Builtin.Range.rangeSize lo hi 1 := by rw [rangeSize_one]; split <;> omega
    show IsRangeIter _ _ (lo + ((0 : Nat) : Int) * 1) ((((hi - lo).toNat : Nat) : Int) - ((0 : Nat) : Int)) 1
    rw [e1, e2]
    exact Heap.get?_push_size _ rfl
  · have e : b = (s.heap.push { cls := .type "range", data := .fields #[.int lo t, .int hi u, .int 1 v] }).objs.size := by simpa using hb
    subst e
    exact I1.fpOk (Nat.le_refl _) (I1.hok.fresh (Nat.le_refl _))
def iRng1 (ta : TA) : TI := fun σ H R => ta σ H fun vs H1 => ∃ j : Int, vs = [.int j] ∧ -(2 ^ 62) ≤ j ∧ j < 2 ^ 62 ∧ R (Itr 0 j.toNat) H1
theorem pi_range1 {a : Expr} {ta : TA} {p pos : Pos} (hg : Gl X "range") (hm : X.mg "range" = none) (ha : PA X [a] ta) (hs : starEach [a] X.env = [(false, eval a X.env)] := by rfl) : PI X tg (.Call (.Name "range" p) [a] [] pos) (iRng1 ta) := by
  intro pins s σ H R I h
  refine Call_ (ld_blt I hg hm boot_range (PyProof.Rows.callWith_type1 (thn (ha pos pins s σ H _ I h) fun us s1 ⟨vs, H1, I1, r1, q1⟩ => ?_) hs rfl))
  obtain ⟨j, e, q1, q2, q⟩ := q1
  subst e
  cases r1 with
  | cons r rr =>
    cases rr
    obtain ⟨t, rfl⟩ := r
    exact call_range_1 (range_it I1 (by omega) (by omega) q1 q2 (by simpa using q))

def tFor (wi : TI) (g : TG) (tb : TS) : TS := fun D σ H => wi σ H fun J H1 => ∃ W : Nat → Nat → St → Hp → Prop, (∃ m, W 0 m σ H1) ∧ ∀ i m σ H, W i m σ H →
  (J.stop i H ∧ D.nx σ H) ∨ (J.go i H ∧ ∃ N : St → Hp → Prop, (∀ σ' H', N σ' H' → ∃ m', m' < m ∧ W (i + 1) m' σ' H') ∧ ∀ x H', J.yld i H x H' → g x σ H' fun σ2 H2 => tb { D with nx := N, ct := N, bk := D.nx } σ2 H2)
def pinsAt (fp : List Addr) (h : Heap) : List (Addr × Obj) := fp.filterMap fun b => (h.get? b).map fun o => (b, o)
theorem mem_pinsAt {fp : List Addr} {h : Heap} {b : Addr} {o : Obj} (hb : b ∈ fp) (e : h.get? b = some o) : (b, o) ∈ pinsAt fp h := List.mem_filterMap.mpr ⟨b, hb, by rw [e]; rfl⟩
theorem of_pinsAt {fp : List Addr} {h : Heap} {p : Addr × Obj} (hp : p ∈ pinsAt fp h) : p.1 ∈ fp ∧ h.get? p.1 = some p.2 := by
  obtain ⟨b, hb, e⟩ := List.mem_filterMap.mp hp
  cases q : h.get? b with
  | none => rw [q] at e; cases e
  | some o =>
    rw [q] at e
    have e' : (b, o) = p := Option.some.inj e
    subst e'
    exact ⟨hb, q⟩
theorem Inv.pinned {pins : List (Addr × Obj)} {σ : St} {H : Hp} {s : Shared} {fp : List Addr} (I : Inv X pins σ H s) (hf : ∀ b ∈ fp, FpOk X pins H b) (ho : ∀ b ∈ fp, ∃ o, s.heap.get? b = some o ∧ ∀ v, o.data ≠ .cell v) : Inv X (pins ++ pinsAt fp s.heap) σ H s :=
  I.pins_of fun p hp => (List.mem_append.mp hp).elim (fun z => I.pin p (List.mem_append_right _ z)) fun z => by
    obtain ⟨hb, e⟩ := of_pinsAt z
    obtain ⟨f0, f1, f2, _⟩ := hf p.1 hb
    obtain ⟨o, e', d⟩ := ho p.1 hb
    rw [e] at e'; cases e'
    exact ⟨e, f0, f1, f2, d⟩
theorem Inv.unpinned {pins pl : List (Addr × Obj)} {σ : St} {H : Hp} {s : Shared} (I : Inv X (pins ++ pl) σ H s) : Inv X pins σ H s := I.pins_of fun p hp => I.pin p (List.mem_append_right _ (List.mem_append_left _ hp))
theorem ps_for {iter : Expr} {body : List Stmt} {wi : TI} {g : TG} {tb : TS} {pos : Pos} (hp : PassesOwn (model X.prog X.w) X.A X.env X.xe) (hc : X.calm = true) (hi : PI X tg iter wi) (hg : PG X tg g) (hb : PSs X body tb)
    (hs : ∀ x, foldedSetIterable iter X.env x = pure x := by intro _; rfl) : PS X (.For tg iter body [] pos) (tFor wi g tb) := by
  intro pins s σ H D I h
  refine wpAny_For (thn (hi pins s σ H _ I h) fun v s1 h1 => thn h1 fun itv s2 h2 => ?_) hs
  obtain ⟨it, fp, tn, J, H2, e, I2, T, st2, f2, W, ⟨m0, w0⟩, turn⟩ := h2
  subst e
  -- what stays true of the iterator's objects through the loop
  have stat : ∀ {H' : Hp}, (∀ b ∈ fp, H' b = none) → ∀ b ∈ fp, FpOk X pins H' b := fun hn b hb => ⟨hn b hb, (f2 b hb).2⟩
  refine codeAny_forLoop_any (fun n s' => ∃ i σ' H', Inv X pins σ' H' s' ∧ tn i s'.heap ∧ (∀ b ∈ fp, H' b = none) ∧ W i n σ' H') ?_ m0 ⟨0, σ, H2, I2, st2, fun b hb => (f2 b hb).1, w0⟩
  rintro n s3 ⟨i, σ3, H3, I3, st3, fr3, w3⟩
  rcases turn i n σ3 H3 w3 with ⟨stop, qn⟩ | ⟨go, N, hN, step⟩
  · refine wpAny_passesOwn hp (thn (T.done X rfl rfl rfl hc i pins s3 σ3 H3 X.xe I3 (stat fr3) st3 stop) fun r s4 ⟨hr, I4⟩ => ?_)
    subst hr
    exact wpAny_execs_nil ⟨σ3, H3, I4, qn⟩
  · refine wpAny_passesOwn hp (thn (T.item X rfl rfl rfl hc i pins s3 σ3 H3 X.xe I3 (stat fr3) st3 go) fun r s4 ⟨u, hr, h4⟩ => ?_)
    subst hr
    refine wpAny_passesOwn hp (thn h4 fun _ s5 ⟨x, H5, I5, r5, y5, st5, fr5⟩ => ?_)
    have I5' := I5.pinned (stat fr5) (T.obj _ _ st5)
    refine wpAny_passesOwn hp (thn (hg _ s5 σ3 H5 x u _ I5' r5 (step x H5 y5)) fun _ s6 ⟨σ6, H6, I6, q6⟩ => ?_)
    refine wpAny_passesOwn hp (thn (hb _ s6 σ6 H6 _ I6 q6) fun f s7 q7 => ?_)
    have again : ∀ {σ7 : St} {H7 : Hp}, Inv X (pins ++ pinsAt fp s5.heap) σ7 H7 s7 → N σ7 H7 → ∃ m, m < n ∧ ∃ i σ' H', Inv X pins σ' H' s7 ∧ tn i s7.heap ∧ (∀ b ∈ fp, H' b = none) ∧ W i m σ' H' := fun {σ7 H7} I7 n7 => by
      obtain ⟨m', hm, w7⟩ := hN σ7 H7 n7
      refine ⟨m', hm, i + 1, σ7, H7, I7.unpinned, T.keep _ _ _ st5 fun b hb o e => (I7.pin (b, o) (List.mem_append_right _ (List.mem_append_right _ (mem_pinsAt hb e)))).1, fun b hb => ?_, w7⟩
      obtain ⟨o, e, d⟩ := T.obj _ _ st5 b hb
      exact (I7.pin (b, o) (List.mem_append_right _ (List.mem_append_right _ (mem_pinsAt hb e)))).2.1
    cases f with
    | next => obtain ⟨σ7, H7, I7, n7⟩ := q7; exact again I7 n7
    | cont => obtain ⟨σ7, H7, I7, n7⟩ := q7; exact again I7 n7
    | brk => obtain ⟨σ7, H7, I7, q7⟩ := q7; exact ⟨σ7, H7, I7.unpinned, q7⟩
    | ret v => obtain ⟨x7, σ7, H7, I7, r7, q7⟩ := q7; exact ⟨x7, σ7, H7, I7.unpinned, r7, q7⟩
end


end L2

namespace L2
open PySem PySem.Spec PyProof.Rows

abbrev R2 := V → V → Hp → VK → Prop
def OpR (X : Cx) (f : Value → Value → Sem Value) (r : R2) : Prop :=
  ∀ (pins : List (Addr × Obj)) (s : Shared) (σ : St) (H : Hp) (x y : V) (v u : Value) (Q : VK), Inv X pins σ H s → RelV x v → RelV y u → r x y H Q →
    wpAny (model X.prog X.w) X.A (f v u) (EP X pins σ Q) X.xe s
def UnR (X : Cx) (f : Value → Sem Value) (r : V → Hp → VK → Prop) : Prop :=
  ∀ (pins : List (Addr × Obj)) (s : Shared) (σ : St) (H : Hp) (x : V) (v : Value) (Q : VK), Inv X pins σ H s → RelV x v → r x H Q →
    wpAny (model X.prog X.w) X.A (f v) (EP X pins σ Q) X.xe s
def CallR (X : Cx) (f : Value) (r : List V → Hp → VK → Prop) : Prop :=
  ∀ (pins : List (Addr × Obj)) (s : Shared) (σ : St) (H : Hp) (xs : List V) (us : List Value) (Q : VK), Inv X pins σ H s → Vals xs us → r xs H Q →
    wpAny (model X.prog X.w) X.A (call f us) (EP X pins σ Q) X.xe s
def TruR (X : Cx) (r : V → Hp → (Bool → Hp → Prop) → Prop) : Prop :=
  ∀ (pins : List (Addr × Obj)) (s : Shared) (σ : St) (H : Hp) (x : V) (v : Value) (Q : Bool → Hp → Prop), Inv X pins σ H s → RelV x v → r x H Q →
    wpAny (model X.prog X.w) X.A (truthy v) (TP X pins σ Q) X.xe s

def tOp (r : R2) (ta tb : TE) : TE := fun σ H Q => ta σ H fun x H1 => tb σ H1 fun y H2 => r x y H2 Q
def tUn (r : V → Hp → VK → Prop) (ta : TE) : TE := fun σ H Q => ta σ H fun x H1 => r x H1 Q
def rI (C : Int → Int → Prop) (g : Int → Int → V) : R2 := fun x y H Q => ∃ i j, x = .int i ∧ y = .int j ∧ C i j ∧ Q (g i j) H
def rI0 (g : Int → Int → V) : R2 := fun x y H Q => ∃ i j, x = .int i ∧ y = .int j ∧ Q (g i j) H
def rU (g : Int → V) : V → Hp → VK → Prop := fun x H Q => ∃ i, x = .int i ∧ Q (g i) H

section
variable {X : Cx} {a b c : Expr} {ta tb tc : TE} {pos : Pos}

theorem binT (ha : PE X a ta) (hb : PE X b tb) {pins : List (Addr × Obj)} {s : Shared} {σ : St} {H : Hp} {R : V → V → Hp → Prop} (I : Inv X pins σ H s)
    (h : ta σ H fun x H1 => tb σ H1 fun y H2 => R x y H2) {Q : Value → Shared → Prop} {f : Value → Value → Sem Value}
    (hf : ∀ v u s2 x y H2, Inv X pins σ H2 s2 → RelV x v → RelV y u → R x y H2 → wpAny (model X.prog X.w) X.A (f v u) Q X.xe s2) :
    wpAny (model X.prog X.w) X.A (eval a X.env) (fun v s₁ => wpAny (model X.prog X.w) X.A (eval b X.env) (fun u s₂ => wpAny (model X.prog X.w) X.A (f v u) Q X.xe s₂) X.xe s₁) X.xe s := by
  refine thn (ha pins s σ H _ I h) fun v s1 ⟨x, H1, I1, r1, q1⟩ => ?_
  refine thn (hb pins s1 σ H1 _ I1 q1) fun u s2 ⟨y, H2, I2, r2, q2⟩ => ?_
  exact hf v u s2 x y H2 I2 r1 r2 q2

theorem pe_op {op : Operator} {r : R2} (ho : OpR X (binaryOp op) r) (ha : PE X a ta) (hb : PE X b tb) : PE X (.BinOp a op b pos) (tOp r ta tb) := by
  intro pins s σ H Q I h
  exact wpAny_BinOp (binT ha hb I h fun v u s2 x y H2 I2 rx ry q => ho pins s2 σ H2 x y v u Q I2 rx ry q)
theorem pe_un {op : UnaryOp} {r : V → Hp → VK → Prop} (ho : UnR X (unaryOp op) r) (ha : PE X a ta) : PE X (.UnaryOp op a pos) (tUn r ta) := by
  intro pins s σ H Q I h
  exact UnaryOp_ (thn (ha pins s σ H _ I h) fun v s1 ⟨x, H1, I1, r1, q1⟩ => ho pins s1 σ H1 x v Q I1 r1 q1)

theorem opI {f : Value → Value → Sem Value} {C : Int → Int → Prop} {g : Int → Int → Int}
    (rule : ∀ (i j : Int) (t u : Tok) (s : Shared) (Q : Value → Shared → Prop) (E : Value → Shared → Prop), C i j → Q (.int (g i j) s.toks) { s with toks := s.toks + 1 } → wpAny (model X.prog X.w) X.A (f (.int i t) (.int j u)) Q E s) :
    OpR X f (rI C fun i j => .int (g i j)) := by
  intro pins s σ H x y v u Q I rx ry h
  obtain ⟨i, j, rfl, rfl, hc, q⟩ := h
  obtain ⟨t, rfl⟩ := rx
  obtain ⟨t', rfl⟩ := ry
  exact rule i j t t' s _ _ hc ⟨.int (g i j), H, I.tok _, ⟨_, rfl⟩, q⟩
theorem opI0 {f : Value → Value → Sem Value} {g : Int → Int → Int}
    (rule : ∀ (i j : Int) (t u : Tok) (s : Shared) (Q : Value → Shared → Prop) (E : Value → Shared → Prop), Q (.int (g i j) s.toks) { s with toks := s.toks + 1 } → wpAny (model X.prog X.w) X.A (f (.int i t) (.int j u)) Q E s) :
    OpR X f (rI0 fun i j => .int (g i j)) := by
  intro pins s σ H x y v u Q I rx ry h
  obtain ⟨i, j, rfl, rfl, q⟩ := h
  obtain ⟨t, rfl⟩ := rx
  obtain ⟨t', rfl⟩ := ry
  exact rule i j t t' s _ _ ⟨.int (g i j), H, I.tok _, ⟨_, rfl⟩, q⟩
theorem opB0 {f : Value → Value → Sem Value} {g : Int → Int → Bool}
    (rule : ∀ (i j : Int) (t u : Tok) (s : Shared) (Q : Value → Shared → Prop) (E : Value → Shared → Prop), Q (.bool (g i j)) s → wpAny (model X.prog X.w) X.A (f (.int i t) (.int j u)) Q E s) :
    OpR X f (rI0 fun i j => .bl (g i j)) := by
  intro pins s σ H x y v u Q I rx ry h
  obtain ⟨i, j, rfl, rfl, q⟩ := h
  obtain ⟨t, rfl⟩ := rx
  obtain ⟨t', rfl⟩ := ry
  exact rule i j t t' s _ _ ⟨.bl (g i j), H, I, rfl, q⟩

def CDiv (i j : Int) : Prop := 0 < j ∧ j < 1073741824
def CPow (i j : Int) : Prop := 0 ≤ j ∧ j ≤ 1000000 ∧ i.natAbs < 2 ^ 64
def CMul (i j : Int) : Prop := (-(2 ^ 64) < i ∧ i < 2 ^ 64) ∨ (-(2 ^ 64) < j ∧ j < 2 ^ 64)
theorem CMul.ok {i j : Int} (h : CMul i j) : IntMulOk i j := by
  rcases h with ⟨h1, h2⟩ | ⟨h1, h2⟩
  · exact .of_left (intBits_le_64 h1 h2)
  · exact .of_right (intBits_le_64 h1 h2)
theorem op_add : OpR X (binaryOp .Add) (rI0 fun i j => .int (i + j)) := opI0 fun _ _ _ _ _ _ _ q => add_int q
theorem op_sub : OpR X (binaryOp .Sub) (rI0 fun i j => .int (i - j)) := opI0 fun _ _ _ _ _ _ _ q => sub_int q
theorem op_fdiv : OpR X (binaryOp .FloorDiv) (rI CDiv fun i j => .int (i / j)) := opI fun i j _ _ _ _ _ hc q => by
  have h1 : (0 : Int) < j := hc.1
  have h2 : j < 1073741824 := hc.2
  exact floordiv_int (by omega) (by rw [Int.fdiv_eq_ediv_of_nonneg i (by omega)]; exact q) (.inl (PyProof.noPylong_small (by omega)))
theorem op_mod : OpR X (binaryOp .Mod) (rI (fun _ j => 0 < j) fun i j => .int (i % j)) := opI fun i j _ _ _ _ _ hc q => by
  have h1 : (0 : Int) < j := hc
  exact mod_int' (by omega) (by rw [Int.fmod_eq_emod_of_nonneg i (by omega)]; exact q)
theorem op_pow : OpR X (binaryOp .Pow) (rI CPow fun i j => .int (i ^ j.toNat)) := opI fun _ _ _ _ _ _ _ hc q => pow_int_small hc.1 hc.2.1 hc.2.2 q
theorem unI {f : Value → Sem Value} {g : Int → Int}
    (rule : ∀ (i : Int) (t : Tok) (s : Shared) (Q : Value → Shared → Prop) (E : Value → Shared → Prop), Q (.int (g i) s.toks) { s with toks := s.toks + 1 } → wpAny (model X.prog X.w) X.A (f (.int i t)) Q E s) :
    UnR X f (rU fun i => .int (g i)) := by
  intro pins s σ H x v Q I rx h
  obtain ⟨i, rfl, q⟩ := h
  obtain ⟨t, rfl⟩ := rx
  exact rule i t s _ _ ⟨.int (g i), H, I.tok _, ⟨_, rfl⟩, q⟩
theorem un_neg : UnR X (unaryOp .USub) (rU fun i => .int (-i)) := unI fun _ _ _ _ _ q => neg_int q

end


section
variable {X : Cx} {a b c : Expr} {ta tb tc : TE} {pos : Pos}
theorem op_lt : OpR X (compareOp .Lt) (rI0 fun i j => .bl (decide (i < j))) := opB0 fun _ _ _ _ _ _ _ q => lt_int q
theorem op_gt : OpR X (compareOp .Gt) (rI0 fun i j => .bl (decide (j < i))) := opB0 fun _ _ _ _ _ _ _ q => gt_int q
theorem op_ge : OpR X (compareOp .GtE) (rI0 fun i j => .bl (decide (j ≤ i))) := opB0 fun _ _ _ _ _ _ _ q => ge_int q
theorem nomark (b : Expr) {op : CmpOp} (h : op ≠ .In := by decide) (h2 : op ≠ .NotIn := by decide) : behindInMarks op b = false := by
  have e1 : (op == CmpOp.In) = false := by cases op <;> first | rfl | exact absurd rfl h
  have e2 : (op == CmpOp.NotIn) = false := by cases op <;> first | rfl | exact absurd rfl h2
  cases b <;> simp [behindInMarks, e1, e2]
theorem pe_cmpR {op : CmpOp} {r : R2} (ho : OpR X (compareOp op) r) (ha : PE X a ta) (hb : PE X b tb) (hm : behindInMarks op b = false) : PE X (.Compare a [op] [b] pos) (tOp r ta tb) := by
  intro pins s σ H Q I h
  exact wpAny_Compare1 (binT ha hb I h fun v u s2 x y H2 I2 rx ry q => ho pins s2 σ H2 x y v u Q I2 rx ry q) hm
def tTest (t : TE) : TT := fun σ H Q => t σ H fun x H' => ∃ k, x = .bl k ∧ Q k H'
theorem pt_cmpR {op : CmpOp} {r : R2} (ho : OpR X (compareOp op) r) (ha : PE X a ta) (hb : PE X b tb) (hm : behindInMarks op b = false) : PT X (.Compare a [op] [b] pos) (tTest (tOp r ta tb)) := by
  intro pins s σ H Q I h
  refine wpAny_isTrue_Compare1 (thn (ha pins s σ H _ I h) fun v s1 ⟨x, H1, I1, r1, q1⟩ => thn (hb pins s1 σ H1 _ I1 q1) fun u s2 ⟨y, H2, I2, r2, q2⟩ =>
    thn (ho pins s2 σ H2 x y v u _ I2 r1 r2 q2) fun c s3 ⟨z, H3, I3, r3, k, e, q3⟩ => ?_) hm
  subst e
  cases r3
  exact wpAny_truthy_bool ⟨H3, I3, q3⟩

def TruV (K : PySem.W.Frag) (x : V) (H : Hp) (k : Bool) : Prop :=
  match x with
  | .non => k = false
  | .bl b => k = b
  | .int i => k = (i != 0)
  | .str y => y.length ≤ sizeLine ∧ k = ((y.length : Int) != 0)
  | .byt y => y.size ≤ sizeLine ∧ k = ((y.size : Int) != 0)
  | .ref p => (∃ xs, SqL K H p xs ∧ k = !xs.isEmpty) ∨ (∃ xs, SqT K H p xs ∧ k = !xs.isEmpty) ∨ ∃ kvs, H p = some (.dK kvs) ∧ k = !kvs.isEmpty
  | _ => False
theorem isEmpty_kv {κ : Type} {kvs : List (κ × V)} {vs : List (κ × Value)} (r : KV kvs vs) : (!vs.isEmpty) = !kvs.isEmpty := by
  cases r <;> rfl
theorem isEmpty_of {xs : List V} {its : List Value} (r : Vals xs its) : (!its.toArray.isEmpty) = !xs.isEmpty := by
  cases r <;> simp
theorem line63 : (sizeLine : Nat) < 2 ^ 63 := by rw [sizeLine_eq]; decide
theorem tru_ok : TruR X (fun x H Q => ∃ k, TruV X.K x H k ∧ Q k H) := by
  intro pins s σ H x v Q I rx h
  obtain ⟨k, e, q⟩ := h
  have hl := line63
  have hs : sizeLine = 16777216 := sizeLine_eq
  cases x with
  | non =>
    cases rx
    have e' : k = false := e
    subst e'
    exact truthy_none ⟨H, I, q⟩
  | bl b =>
    cases rx
    have e' : k = b := e
    subst e'
    exact wpAny_truthy_bool ⟨H, I, q⟩
  | int i =>
    obtain ⟨t, rfl⟩ := rx
    have e' : k = (i != 0) := e
    subst e'
    exact PySem.P.truthy_int ⟨H, I, q⟩
  | str y =>
    obtain ⟨t, rfl⟩ := rx
    obtain ⟨hy, e'⟩ : y.length ≤ sizeLine ∧ k = ((y.length : Int) != 0) := e
    subst e'
    exact PySem.P.truthy_str (by omega) ⟨H, I.tok _, q⟩
  | byt y =>
    obtain ⟨t, rfl⟩ := rx
    obtain ⟨hy, e'⟩ : y.size ≤ sizeLine ∧ k = ((y.size : Int) != 0) := e
    subst e'
    exact PySem.W.truthy_bytes (by omega) ⟨H, I.tok _, q⟩
  | ref p =>
    cases rx
    have e' : (∃ xs, SqL X.K H p xs ∧ k = !xs.isEmpty) ∨ (∃ xs, SqT X.K H p xs ∧ k = !xs.isEmpty) ∨ ∃ kvs, H p = some (.dK kvs) ∧ k = !kvs.isEmpty := e
    rcases e' with ⟨xs, hx, e'⟩ | ⟨xs, hx, e'⟩ | ⟨kvs, hx, e'⟩
    · subst e'
      obtain ⟨its, r, pl, hz⟩ := I.list hx
      have hlen := r.length
      exact wpAny_truthy_list pl.isList (by simp only [List.size_toArray]; omega) ⟨H, I.tok _, by rw [isEmpty_of r]; exact q⟩
    · subst e'
      obtain ⟨its, r, pl, hz⟩ := I.tuple hx
      have hlen := r.length
      exact truthy_tuple pl (by simp only [List.size_toArray]; omega) ⟨H, I.tok _, by rw [isEmpty_of r]; exact q⟩
    · subst e'
      obtain ⟨hz, hS, vs, r, m⟩ : kvs.length ≤ sizeLine ∧ (p == sysModules) = false ∧ ∃ vs, KV kvs vs ∧ s.heap.DictOf (mixKind X.prog X.w) p vs := I.hok p _ hx
      have hlen : kvs.length = vs.length := Paired.length r
      exact wpAny_truthy_dict hS m (by omega) ⟨H, I.tok _, by rw [isEmpty_kv r]; exact q⟩
  | _ => exact (show False from e).elim
theorem pt_truth (ha : PE X a ta) (he : ∀ whole, isTrue a X.env whole = (do let v ← whole; standAt a.pos; holding [v] (truthy v))) :
    PT X a (fun σ H Q => ta σ H fun x H' => ∃ k, TruV X.K x H' k ∧ Q k H') := by
  intro pins s σ H Q I h
  exact isTrue_plain (thn (ha pins s σ H _ I h) fun v s1 ⟨x, H1, I1, r1, q1⟩ => tru_ok pins s1 σ H1 x v Q I1 r1 q1) (he _)


theorem op_add_str : OpR X (binaryOp .Add) (fun x y H Q => ∃ i j, x = .str i ∧ y = .str j ∧ i.length + j.length ≤ sizeLine ∧ Q (.str (i ++ j)) H) := by
  intro pins s σ H x y v u Q I rx ry h
  obtain ⟨i, j, rfl, rfl, hz, q⟩ := h
  obtain ⟨t, rfl⟩ := rx
  obtain ⟨t', rfl⟩ := ry
  exact add_str (fun t' tk => ⟨.str (i ++ j), H, I.tok _, ⟨_, rfl⟩, q⟩) hz

theorem vals1 {x : V} {us : List Value} (r : Vals [x] us) : ∃ u, us = [u] ∧ RelV x u := by
  cases r with
  | cons r1 r2 => cases r2; exact ⟨_, rfl, r1⟩
theorem vals2 {x y : V} {us : List Value} (r : Vals [x, y] us) : ∃ u w', us = [u, w'] ∧ RelV x u ∧ RelV y w' := by
  cases r with
  | cons r1 r2 =>
    cases r2 with
    | cons r3 r4 => cases r4; exact ⟨_, _, rfl, r1, r3⟩
theorem call_abs : CallR X (.builtin "abs") (fun xs H Q => ∃ i, xs = [.int i] ∧ Q (.int (if i < 0 then -i else i)) H) := by
  intro pins s σ H xs us Q I r h
  obtain ⟨i, rfl, q⟩ := h
  obtain ⟨u, rfl, t, rfl⟩ := vals1 r
  exact call_abs_int fun u tk => ⟨.int (if i < 0 then -i else i), H, I.tok _, ⟨_, rfl⟩, q⟩
theorem call_max2 (hc : X.calm = true) : CallR X (.builtin "max") (fun xs H Q => ∃ i j, xs = [.int i, .int j] ∧ Q (.int (if j > i then j else i)) H) := by
  intro pins s σ H xs us Q I r h
  obtain ⟨i, j, rfl, q⟩ := h
  obtain ⟨u, w', rfl, ⟨t, rfl⟩, ⟨t', rfl⟩⟩ := vals2 r
  refine max_two_ints (I.ok.hd hc) fun h' tk k => ⟨_, H, I.kept k, ?_, q⟩
  by_cases hj : j > i
  · rw [if_pos hj, if_pos hj]; exact ⟨_, rfl⟩
  · rw [if_neg hj, if_neg hj]; exact ⟨_, rfl⟩
theorem call_min2 (hc : X.calm = true) : CallR X (.builtin "min") (fun xs H Q => ∃ i j, xs = [.int i, .int j] ∧ Q (.int (if j < i then j else i)) H) := by
  intro pins s σ H xs us Q I r h
  obtain ⟨i, j, rfl, q⟩ := h
  obtain ⟨u, w', rfl, ⟨t, rfl⟩, ⟨t', rfl⟩⟩ := vals2 r
  refine min_two_ints (I.ok.hd hc) fun h' tk k => ⟨_, H, I.kept k, ?_, q⟩
  by_cases hj : j < i
  · rw [if_pos hj, if_pos hj]; exact ⟨_, rfl⟩
  · rw [if_neg hj, if_neg hj]; exact ⟨_, rfl⟩
end
end L2

namespace L2
open PySem PySem.Spec PyProof.Rows


structure ObjM (h : Heap) (x dx C : Addr) (mA : Str → Option Value) : Prop where
  obj : h.get? x = some (PySem.W.instObj C dx)
  ns : h.Ns1 dx mA
  ne : dx ≠ x

theorem lookIn_ns {h : Heap} {dx : Addr} {mA : Str → Option Value} (n : h.Ns1 dx mA) : ∃ od, h.get? dx = some od ∧ ∀ name, PySem.W.lookIn name od = some (mA name) := by
  obtain ⟨o, es, ep, ho, hd, hk, _, hm⟩ := n
  refine ⟨o, ho, fun name => ?_⟩
  have e := hm name
  unfold nsFind findBy at e
  rw [← Array.find?_toList] at e
  unfold PySem.W.lookIn
  rw [hd]
  dsimp only
  split
  · rename_i y q
    rw [q] at e
    exact congrArg some e
  · rename_i q
    rw [q] at e
    have a : es.toList.any (·.refKey) = false := by
      rw [List.any_eq_false]
      intro y hy
      obtain ⟨z, t, hkey⟩ := hk y (Array.mem_toList_iff.mp hy)
      simp [DictEntry.refKey, hkey]
    have a' : ¬ es.toList.any (·.refKey) = true := by rw [a]; exact Bool.false_ne_true
    rw [if_neg a']
    exact congrArg some e

theorem ObjM.look {h : Heap} {x dx C : Addr} {mA : Str → Option Value} (I : ObjM h x dx C mA) : ∃ od, PySem.W.InstAt h x (PySem.W.instObj C dx) C (some od) ∧ ∀ name, PySem.W.lookIn name od = some (mA name) :=
  let ⟨od, ho, hl⟩ := lookIn_ns I.ns
  ⟨od, ⟨I.obj, rfl, rfl, ho⟩, hl⟩

section
variable {prog : Program} {w : World} {A : Around} {E : Value → Shared → Prop} {s : Shared} {K : PySem.W.Frag} {x dx C f : Addr} {mA : Str → Option Value} {name : Str} {v : Value}

end


section
variable {P : Program} {w : World} {H H' : Hp} {h h' : Heap} {a C dx : Addr} {fs fs' : List (Str × V)}
theorem ins_get (hok : HOk P w H h) (e : H a = some (.ins C dx fs)) : ∃ mA, ObjM h a dx C mA ∧ (∀ f, RelO (fs.lookup f) (mA f)) ∧ PySem.Within mA (fs.map (·.1)) ∧ fs.length ≤ 1000 ∧ H dx = some (.own a) := by
  obtain ⟨d, z, ne, ob, mA, n, r, q⟩ := (show ObjOk P w H h a (.ins C dx fs) from hok a _ e)
  exact ⟨mA, ⟨ob, n, ne⟩, r, q, z, d⟩
end


structure Cls (K : PySem.W.Frag) (C : Addr) : Prop where
  pg : PySem.W.plainGet K C Str.empty = true
  hd : PySem.W.hasDictIn K C = true
  po : PySem.W.plainOver K C = true
  sa : PySem.W.findIn K (.ref C) "__setattr__" = some (some (.builtin "object.__setattr__"))
theorem Cls.get {K : PySem.W.Frag} {C : Addr} (c : Cls K C) (f : Str) : PySem.W.plainGet K C f = true := c.pg
section
variable {X : Cx} {pins : List (Addr × Obj)} {σ : St} {H : Hp} {s : Shared} {a C dx : Addr} {fs : List (Str × V)} {f : Str} {v : V} {A : Around} {E : Value → Shared → Prop}

end


section
variable {X : Cx} {o e value : Expr} {f : Str} {pos pos' tpos : Pos} {ta tv : TE}
end


section
variable {X : Cx} {pins : List (Addr × Obj)} {σ : St} {H : Hp} {s : Shared} {A : Around} {E : Value → Shared → Prop} {Q : Value → Shared → Prop} {c : Value} {b : Bool}
inductive TyOf (K : PySem.W.Frag) (H : Hp) : V → Value → Prop where
  | non : TyOf K H .non (.type "NoneType")
  | bl (x : Bool) : TyOf K H (.bl x) (.type "bool")
  | int (i : Int) : TyOf K H (.int i) (.type "int")
  | str (x : Str) : TyOf K H (.str x) (.type "str")
  | flt (x : UInt64) : TyOf K H (.flt x) (.type "float")
  | lst {a : Addr} {xs : List V} (e : H a = some (.lst xs)) : TyOf K H (.ref a) (.type "list")
  | frz {a : Addr} {o : Obj} {xs : List V} (e : H a = some (.frz o (.lst xs))) : TyOf K H (.ref a) (.type "list")
  | tup {a : Addr} {xs : List V} (e : H a = some (.tup xs)) : TyOf K H (.ref a) (.type "tuple")
  | dK {a : Addr} {kvs : List (Key × V)} (e : H a = some (.dK kvs)) : TyOf K H (.ref a) (.type "dict")
  | dT {a : Addr} {kvs : List (List Key × V)} (e : H a = some (.dT kvs)) : TyOf K H (.ref a) (.type "dict")
  | ins {a C dx : Addr} {fs : List (Str × V)} (e : H a = some (.ins C dx fs)) (cl : Cls K C) (ha : PySem.W.findIn K (.ref C) "__class__" = some (some (.builtin "object.__class__")))
      (hn : PySem.W.specialIn K (.builtin "object.__class__") "__get__" = some (some (.builtin "getset_descriptor.__get__"))) (htk : PySem.W.takesIn K (.builtin "object.__class__") = some true)
      (hm : PySem.W.mroIn K C (.type "object") = some true) : TyOf K H (.ref a) (.ref C)
theorem isinst_ok {x : V} {u t : Value} (I : Inv X pins σ H s) (rx : RelV x u) (ty : TyOf X.K H x t) (e : PySem.W.kitOne X.K t c = some b) (h : ∀ tk, Q (.bool b) { s with toks := tk }) :
    wpAny (model X.prog X.w) A (call (.builtin "isinstance") [u, c]) Q E s := by
  cases ty with
  | non => cases (show u = Value.none from rx); exact PySem.W.kia_one PySem.W.kitx_none I.kIn True.intro e (fun z => nomatch z) h
  | bl y => cases (show u = Value.bool y from rx); exact PySem.W.kia_one PySem.W.kitx_bool I.kIn True.intro e (fun z => nomatch z) h
  | int i => obtain ⟨t, q⟩ := (show ∃ t, u = Value.int i t from rx); cases q; exact PySem.W.kia_one PySem.W.kitx_int I.kIn True.intro e (fun z => nomatch z) h
  | str y => obtain ⟨t, q⟩ := (show ∃ t, u = Value.str y t from rx); cases q; exact PySem.W.kia_one PySem.W.kitx_str I.kIn True.intro e (fun z => nomatch z) h
  | flt y => obtain ⟨t, q⟩ := (show ∃ t, u = Value.float y t from rx); cases q; exact PySem.W.kia_one PySem.W.kitx_float I.kIn True.intro e (fun z => nomatch z) h
  | @lst a xs ea =>
    cases (show u = Value.ref a from rx)
    obtain ⟨_, _, n, _, h1⟩ := (show ObjOk X.prog X.w H s.heap a (.lst xs) from I.hok a _ ea)
    exact PySem.W.kia_one PySem.W.kitx_list I.kIn ⟨_, h1, rfl⟩ e (fun z => nomatch z) h
  | @frz a ob xs ea =>
    cases (show u = Value.ref a from rx)
    obtain ⟨_, _, _, n, _, h1⟩ := (show ObjOk X.prog X.w H s.heap a (.frz ob (.lst xs)) from I.hok a _ ea)
    exact PySem.W.kia_one PySem.W.kitx_list I.kIn ⟨_, h1, rfl⟩ e (fun z => nomatch z) h
  | @tup a xs ea =>
    cases (show u = Value.ref a from rx)
    obtain ⟨_, _, _, p⟩ := (show ObjOk X.prog X.w H s.heap a (.tup xs) from I.hok a _ ea)
    obtain ⟨o, h1, h2, _⟩ := p
    exact PySem.W.kia_one PySem.W.kitx_tuple I.kIn ⟨o, h1, h2⟩ e (fun z => nomatch z) h
  | @dK a kvs ea =>
    cases (show u = Value.ref a from rx)
    obtain ⟨_, _, vs, _, p⟩ := (show ObjOk X.prog X.w H s.heap a (.dK kvs) from I.hok a _ ea)
    obtain ⟨o, es, ep, h1, h2, _⟩ := p
    exact PySem.W.kia_one PySem.W.kitx_dict I.kIn ⟨o, h1, h2.1⟩ e (fun z => nomatch z) h
  | @dT a kvs ea =>
    cases (show u = Value.ref a from rx)
    obtain ⟨_, _, xs, _, o, es, ep, h1, h2, _⟩ := (show ObjOk X.prog X.w H s.heap a (.dT kvs) from I.hok a _ ea)
    exact PySem.W.kia_one PySem.W.kitx_dict I.kIn ⟨o, h1, h2.1⟩ e (fun z => nomatch z) h
  | @ins a C dx fs ea cl ha hn htk hm =>
    cases (show u = Value.ref a from rx)
    obtain ⟨mA, O, _⟩ := ins_get I.hok ea
    obtain ⟨od, J, _⟩ := O.look
    exact PySem.W.kia_one (PySem.W.kitx_own (cl.get _) cl.hd ha hn htk hm) I.kIn J e (fun z => nomatch z) h
end
end L2

namespace L2
open PySem PySem.Spec PyProof.Rows


structure Room (k : Nat) (A : Around) : Prop where
  hd : A.handled = none
  dp : A.depth + 3 * k + 5 < recursionLimit
  un : A.units + 16 * k + 200 < cLine
theorem Room.mono {j k : Nat} {A : Around} (r : Room k A) (h : j ≤ k) : Room j A := ⟨r.hd, by have := r.dp; omega, by have := r.un; omega⟩
theorem Room.deeper {k : Nat} {A : Around} (r : Room (k + 1) A) (env : Env) : Room k (A.deeper env) :=
  ⟨r.hd, by have := r.dp; show A.depth + 1 + 3 * k + 5 < _; omega, by have := r.un; show A.units + 3 + 16 * k + 200 < _; omega⟩
theorem Room.depth {k : Nat} {A : Around} (r : Room k A) : A.depth < recursionLimit := by have := r.dp; omega
theorem Room.units {k : Nat} {A : Around} (r : Room k A) : A.units + 64 < cLine := by have := r.un; omega

def tNil : TA := fun _ H Q => Q [] H
def tCons (ta : TE) (tr : TA) : TA := fun σ H Q => ta σ H fun x H1 => tr σ H1 fun xs H2 => Q (x :: xs) H2
section
variable {X : Cx} {e : Expr} {es : List Expr} {te : TE} {t : TA} {pos : Pos}
theorem pa_nil : PA X [] tNil := fun _ _ _ _ H Q I h => Calls.spliced_nil ⟨[], H, I, .nil, h⟩
theorem pa_cons (ha : PE X e te) (hr : PA X es t) (hs : starEach (e :: es) X.env = (false, eval e X.env) :: starEach es X.env := by rfl) : PA X (e :: es) (tCons te t) := by
  intro pos pins s σ H Q I h
  rw [hs]
  show wpAny _ _ (spliced ((false, eval e X.env) :: backTo pos (starEach es X.env))) _ _ s
  refine Calls.spliced_cons (thn (ha pins s σ H _ I h) fun u s1 ⟨x, H1, I1, r1, q1⟩ => ?_)
  exact thn (hr pos pins s1 σ H1 _ I1 q1) fun us s2 ⟨xs, H2, I2, r2, q2⟩ => ⟨x :: xs, H2, I2, .cons r1 r2, q2⟩

def tTup (t : TA) : TE := fun σ H Q => t σ H fun xs H1 => xs.length ≤ sizeLine ∧ ∀ p, H1 p = none → Q (.ref p) (upd H1 p (.tup xs))
def tLst (t : TA) : TE := fun σ H Q => t σ H fun xs H1 => xs.length ≤ sizeLine ∧ ∀ p, H1 p = none → Q (.ref p) (upd H1 p (.lst xs))
theorem pe_tup {x1} (h : PA X es t) : PE X (.Tuple es x1 pos) (tTup t) := by
  intro pins s σ H Q I hq
  refine wpAny_Tuple_spliced (thn (h pos pins s σ H _ I hq) fun us s1 ⟨xs, H1, I1, r, z, q⟩ => ⟨by rw [← r.length]; exact z, ?_⟩)
  have hf : H1 s1.heap.objs.size = none := I1.hok.fresh (Nat.le_refl _)
  refine ⟨.ref s1.heap.objs.size, upd H1 s1.heap.objs.size (.tup xs), I1.laid (t' := s1.toks) (fun b u e => Heap.get?_push_of_some _ e) (Nat.le_refl _) ?_, rfl, q _ hf⟩
  exact ⟨z, us, r, ⟨_, Heap.get?_push_size _ rfl, rfl, _, rfl⟩⟩
theorem pe_lst (h : PA X es t) : PE X (.List es pos) (tLst t) := by
  intro pins s σ H Q I hq
  refine wpAny_List_spliced (thn (h pos pins s σ H _ I hq) fun us s1 ⟨xs, H1, I1, r, z, q⟩ => ⟨by rw [← r.length]; exact z, ?_⟩)
  have hf : H1 s1.heap.objs.size = none := I1.hok.fresh (Nat.le_refl _)
  refine ⟨.ref s1.heap.objs.size, upd H1 s1.heap.objs.size (.lst xs), I1.laid (t' := s1.toks) (fun b u e => Heap.get?_push_of_some _ e) (Nat.le_refl _) ?_, rfl, q _ hf⟩
  exact ⟨z, us, 0, r, Heap.get?_push_size _ rfl⟩
end


abbrev Sp := List V → Hp → VK → XK → Prop
abbrev CXT := List Env → Hp → Shared → XK → Value → Shared → Prop

structure Env0 (P : Program) (w : World) (K : PySem.W.Frag) (mg : Str → Option Value) (base : Heap) (A : Around) (outer : List Env) (s : Shared) (H : Hp) : Prop where
  frames : A.frames = some outer
  mod : Mod K mg base
  bs : ∀ b o, base.get? b = some o → s.heap.get? b = some o ∧ H b = none
  bsz : base.objs.size ≤ s.heap.objs.size
  funs : s.heap.FunFrames base outer
  frf : ∀ b ∈ frs outer, H b = none
  hok : HOk P w H s.heap
  bare : AllBare s.gens
def CE (outer : List Env) (P : Program) (w : World) (H : Hp) (s : Shared) (Q : VK) (u : Value) (s' : Shared) : Prop :=
  ∃ v H', s'.os = s.os ∧ AllBare s'.gens ∧ Un (frs outer) [] H H' s.heap s'.heap ∧ HOk P w H' s'.heap ∧ RelV v u ∧ Q v H'
def CR (CX : CXT) (outer : List Env) (P : Program) (w : World) (H : Hp) (s : Shared) (Q : VK) (E : XK) (r : Result) (s' : Shared) : Prop :=
  match r with
  | .ok (.ret u) => CE outer P w H s Q u s'
  | .ok _ => False
  | .error e => CX outer H s E e s'
structure FnOk (P : Program) (w : World) (K : PySem.W.Frag) (mg : Str → Option Value) (base : Heap) (CX : CXT) (k : Nat) (f : Addr) (fd : FuncData) (ps : List Str) (sp : Sp) : Prop where
  len : ∀ vs H Q E, sp vs H Q E → vs.length = ps.length
  run : ∀ (A : Around) (outer : List Env) (s : Shared) (H : Hp) (args : Args) (us : List Value) (vs : List V) (Q : VK) (E : XK), Room k A → Env0 P w K mg base A outer s H → BindsTo s fd args (ps.zip us) → Vals vs us → sp vs H Q E →
    codeAny (model P w) A (.call (.ref f) args) (CR CX outer P w H s Q E) s
section
variable {X : Cx} {pins : List (Addr × Obj)} {σ : St} {H : Hp} {s s' : Shared}
theorem Inv.env0 (I : Inv X pins σ H s) : Env0 X.prog X.w X.K X.mg X.base X.A X.stack s H :=
  ⟨I.ok.frames, I.ok.mod, I.bs, Nat.le_trans I.ok.bsz I.sz, I.stack, I.stkFree, I.hok, I.bare⟩
theorem Inv.after {Q : VK} {u : Value} (I : Inv X pins σ H s) (h : CE X.stack X.prog X.w H s Q u s') : EP X pins σ Q u s' := by
  obtain ⟨v, H', os, bare, un, hok, r, q⟩ := h
  obtain ⟨hh, g, d, t, os'⟩ := s'
  obtain rfl : os' = s.os := os
  exact ⟨v, H', I.call (h' := hh) (g' := g) (d' := d) (t' := t) (ch := []) un hok bare (fun b z => absurd z (by simp)), r, q⟩
end


def tCall (sp : Sp) (dvs : List V) (E : XK) (t : TA) : TE := fun σ H Q => t σ H fun vs H1 => sp (vs ++ dvs) H1 Q E
def Binds (K : PySem.W.Frag) (fd : FuncData) (ps : List Str) (ds : List Value) : Prop :=
  ∀ (s : Shared) (us : List Value), K.In s.heap → (us ++ ds).length = ps.length → BindsTo s fd ⟨us, []⟩ (ps.zip (us ++ ds))
theorem Binds.all {K : PySem.W.Frag} {fd : FuncData} {ps : List Str} (h : ∀ us : List Value, us.length = ps.length → bindArgs fd ⟨us, []⟩ = pure (ps.zip us)) : Binds K fd ps [] := fun s us _ hl => by
  rw [List.append_nil] at hl ⊢
  exact .of_eq (h us hl)

def Passes (CX : CXT) (X : Cx) (E : XK) : Prop := ∀ (pins : List (Addr × Obj)) (σ : St) (H : Hp) (s : Shared) (e : Value) (s' : Shared), Inv X pins σ H s → CX X.stack H s E e s' → X.xe e s'

section
variable {X : Cx} {CX : CXT} {k : Nat} {f C : Addr} {fd : FuncData} {ps : List Str} {sp : Sp} {dvs : List V} {ds : List Value} {E : XK} {x m : Str} {p pos apos : Pos} {e o : Expr} {es : List Expr} {ta : TE} {t : TA}

theorem run_fn {pins : List (Addr × Obj)} {σ : St} {H : Hp} {s : Shared} {Q : VK} {us : List Value} {vs : List V} (F : FnOk X.prog X.w X.K X.mg X.base CX k f fd ps sp) (hr : Room k X.A) (hb : Binds X.K fd ps ds) (hd : Vals dvs ds) (hx : Passes CX X E)
    (I : Inv X pins σ H s) (r : Vals vs us) (h : sp (vs ++ dvs) H Q E) : wpAny (model X.prog X.w) X.A (call (.ref f) us) (EP X pins σ Q) X.xe s := by
  have r2 : Vals (vs ++ dvs) (us ++ ds) := r.append hd
  have hl : (us ++ ds).length = ps.length := by rw [← r2.length]; exact F.len _ _ _ _ h
  refine wpAny_call (codeAny_mono (F.run X.A X.stack s H ⟨us, []⟩ (us ++ ds) (vs ++ dvs) Q E hr I.env0 (hb s us I.kIn hl) r2 h) fun r s' hq => ?_)
  cases r with
  | error e => exact hx pins σ H s e s' I hq
  | ok fl =>
    cases fl with
    | ret u => exact I.after hq
    | next => exact False.elim hq
    | brk => exact False.elim hq
    | cont => exact False.elim hq

theorem pe_call (F : FnOk X.prog X.w X.K X.mg X.base CX k f fd ps sp) (hr : Room k X.A) (hg : Gl X x) (hm : X.mg x = some (.ref f)) (hk : PySem.W.keepIn X.K (.ref f) = true) (hb : Binds X.K fd ps ds) (hd : Vals dvs ds) (hx : Passes CX X E)
    (ha : PA X (e :: es) t) (hdb : (x == ("__debug__" : Str)) = false := by decide) (he : starEach (e :: es) X.env = (false, eval e X.env) :: starEach es X.env := by rfl) (hpl : (backTo pos (starEach es X.env)).any (·.1) = false := by rfl) :
    PE X (.Call (.Name x p) (e :: es) [] pos) (tCall sp dvs E t) := by
  intro pins s σ H Q I h
  refine wpAny_Call_Name_kw (ld_glob I hg hm ?_ hdb)
  refine PySem.W.callWith_K (h₀ := X.base) I.ok.mod.kin hk (thn (ha pos pins s σ H _ I h) fun us s1 ⟨vs, H1, I1, r, q⟩ => ⟨I1.kIn, ?_⟩) he hpl
  exact run_fn F hr hb hd hx I1 r q
end


section
variable {X : Cx} {CX : CXT} {k : Nat} {f C : Addr} {fd : FuncData} {ps ks : List Str} {sp : Sp} {E : XK} {x m : Str} {p pos apos kpos : Pos} {e o : Expr} {es : List Expr} {kws : List Keyword} {te ta : TE} {t tk : TA} {nm : Option Str}
variable {g : List Value → List Value → List Value} {gV : List V → List V → List V}
end


structure FnScope (N P : List Str) (sc : Scope) : Prop where
  kind : sc.kind = .function
  co : sc.isCoroutine = false
  gen : sc.isGenerator = false
  nd : N.Nodup
  pre : N.take P.length = P
  par : ∀ x ∈ P, sc.names.lookup x = some .local ∨ sc.names.lookup x = some .cell
  nofree : ∀ y ∈ sc.names, y.2 ≠ .free

theorem bindL_out {kindOf : Str → Option NameKind} {x : Str} : ∀ {binds : List (Str × Value)} {m : Str → Option Value}, (∀ v, (x, v) ∉ binds) → bindL kindOf binds m x = m x
  | [], _, _ => rfl
  | (n, v) :: r, m, h => by
    unfold bindL
    rw [bindL_out fun w hw => h w (List.mem_cons_of_mem _ hw)]
    split
    · have : x ≠ n := by rintro rfl; exact h v List.mem_cons_self
      simp [this]
    · rfl
theorem bindC_out {kindOf : Str → Option NameKind} {x : Str} : ∀ {binds : List (Str × Value)} {m : Str → Option Value}, (∀ v, (x, v) ∉ binds) → bindC kindOf binds m x = m x
  | [], _, _ => rfl
  | (n, v) :: r, m, h => by
    unfold bindC
    rw [bindC_out fun w hw => h w (List.mem_cons_of_mem _ hw)]
    split
    · rfl
    · have : x ≠ n := by rintro rfl; exact h v List.mem_cons_self
      simp [this]
theorem bindL_get {kindOf : Str → Option NameKind} {x : Str} {v : Value} : ∀ {P : List Str} {vs : List Value} {i : Nat} {m : Str → Option Value}, P.Nodup → P[i]? = some x → vs[i]? = some v → kindOf x = some .local →
    bindL kindOf (P.zip vs) m x = some v
  | [], _, _, _, _, h, _, _ => by simp at h
  | _ :: _, [], _, _, _, _, h, _ => by simp at h
  | p :: P, w :: vs, 0, m, nd, h1, h2, hk => by
    simp at h1 h2; subst h1; subst h2
    show bindL kindOf ((p, w) :: P.zip vs) m p = _
    unfold bindL
    rw [bindL_out fun v hv => (List.nodup_cons.mp nd).1 (List.of_mem_zip hv).1, if_pos hk]
    simp
  | p :: P, w :: vs, i + 1, m, nd, h1, h2, hk => by
    show bindL kindOf ((p, w) :: P.zip vs) m x = _
    unfold bindL
    exact bindL_get (i := i) (List.nodup_cons.mp nd).2 (by simpa using h1) (by simpa using h2) hk
theorem bindC_get {kindOf : Str → Option NameKind} {x : Str} {v : Value} : ∀ {P : List Str} {vs : List Value} {i : Nat} {m : Str → Option Value}, P.Nodup → P[i]? = some x → vs[i]? = some v → kindOf x ≠ some .local →
    bindC kindOf (P.zip vs) m x = some v
  | [], _, _, _, _, h, _, _ => by simp at h
  | _ :: _, [], _, _, _, _, h, _ => by simp at h
  | p :: P, w :: vs, 0, m, nd, h1, h2, hk => by
    simp at h1 h2; subst h1; subst h2
    show bindC kindOf ((p, w) :: P.zip vs) m p = _
    unfold bindC
    rw [bindC_out fun v hv => (List.nodup_cons.mp nd).1 (List.of_mem_zip hv).1, if_neg hk]
    simp
  | p :: P, w :: vs, i + 1, m, nd, h1, h2, hk => by
    show bindC kindOf ((p, w) :: P.zip vs) m x = _
    unfold bindC
    exact bindC_get (i := i) (List.nodup_cons.mp nd).2 (by simpa using h1) (by simpa using h2) hk

def start (N : List Str) (vs : List V) : St := vs.map some ++ List.replicate (N.length - vs.length) none

def cxOf (CX : CXT) (P : Program) (w : World) (K : PySem.W.Frag) (mg : Str → Option Value) (base : Heap) (N : List Str) (qual : Str) (scope : Scope) (f : Addr) (cd : Value) (A : Around) (outer : List Env) (s : Shared) (H : Hp) (E : XK) : Cx where
  prog := P
  w := w
  K := K
  mg := mg
  base := base
  A := A.deeper (envOfC qual scope s.heap.objs.size f cd)
  N := N
  s₀ := s
  H₀ := H
  env := envOfC qual scope s.heap.objs.size f cd
  outer := outer
  stack := envOfC qual scope s.heap.objs.size f cd :: outer
  ex := []
  calm := true
  fn := fun _ => true
  pn := []
  xe := fun e s' => wpAny (model P w) (A.deeper (envOfC qual scope s.heap.objs.size f cd)) (leaving (envOfC qual scope s.heap.objs.size f cd) e) (fun _ s'' => CX outer H s E e s'') (fun e' s'' => CX outer H s E e' s'') s'

theorem cell_has {sc : Scope} {n : Nat} {x : Str} (h : sc.names.lookup x = some .cell) : ∃ c, (cellsFrom n sc.names []).lookup x = some c := by
  have q := PySem.W.cellsFrom_some sc.names n [] (.inl h)
  exact Option.isSome_iff_exists.mp q

theorem inv_start {CX : CXT} {P : Program} {w : World} {K : PySem.W.Frag} {mg : Str → Option Value} {base : Heap} {N ps : List Str} {qual : Str} {scope : Scope} {f : Addr} {cd : Value} {A : Around} {outer : List Env} {s s1 : Shared} {H : Hp} {E : XK} {us : List Value} {vs : List V}
    (S : FnScope N ps scope) (hd : A.handled = none) (e0 : Env0 P w K mg base A outer s H) (hl : vs.length = ps.length) (r : Vals vs us)
    (x : InCallC s s.heap.objs.size (bindL (envOfC qual scope s.heap.objs.size f cd).kindOf (ps.zip us) fun _ => none) (cellsFrom (s.heap.objs.size + 1) scope.names []) (bindC (envOfC qual scope s.heap.objs.size f cd).kindOf (ps.zip us) fun _ => none) s1) :
    Inv (cxOf CX P w K mg base N qual scope f cd A outer s H E) [] (start N vs) H s1 := by
  have hpl : ps.length ≤ N.length := by have := congrArg List.length S.pre; rw [List.length_take] at this; omega
  obtain ⟨h1, tk, rfl, hk⟩ := x.done
  have noA : ∀ b : Addr, b ∉ (cxOf CX P w K mg base N qual scope f cd A outer s H E).ex := fun b z => absurd (show b ∈ ([] : List Addr) from z) (by simp)
  refine ⟨⟨e0.mod, S.kind, rfl, rfl, Nat.le_refl _, fun y z c h1 h2 => ?_, fun y hy => ?_, fun y c _ h => ?_, fun _ => hd, Around.frames_deeper e0.frames, .inr ⟨rfl, rfl⟩, fun b z => absurd z (noA b), e0.bs, e0.bsz, fun b _ _ => noA b, fun b z => absurd z (noA b), e0.funs, e0.frf⟩,
    rfl, e0.bare, Un.kept hk, ⟨_, x.toInCall.ns, fun i y v h1 h2 h3 => ?_⟩, fun y c h => ⟨_, x.cell y c h⟩, e0.hok.fresh (Nat.le_refl _), fun y c h => ?_, fun p hp => absurd (show p ∈ ([] : List (Addr × Obj)) from hp) (by simp), e0.hok.kept hk, ?_⟩
  · exact name_of_addr x.apart (PySem.mem_of_lookup h1) (PySem.mem_of_lookup h2)
  · have hy : scope.names.lookup y = some .cell ∨ scope.names.lookup y = some .free := hy
    rcases hy with hy | hy
    · exact cell_has hy
    · exact absurd rfl (S.nofree _ (PySem.mem_of_lookup hy))
  · exact Nat.le_of_lt (x.above y c (PySem.mem_of_lookup h))
  · have hi : i < vs.length := by
      unfold start at h2
      by_cases hi : i < vs.length
      · exact hi
      · rw [List.getElem?_append_right (by simpa using hi)] at h2
        rw [List.getElem?_replicate] at h2
        split at h2 <;> cases h2
    have ha : vs[i]? = some v := by
      unfold start at h2
      rw [List.getElem?_append_left (by simpa using hi), List.getElem?_map] at h2
      cases e : vs[i]? with
      | none => rw [e] at h2; cases h2
      | some a => rw [e] at h2; cases h2; rfl
    obtain ⟨u, hu, rv⟩ := r.get ha
    have hp : ps[i]? = some y := by
      rw [← S.pre, List.getElem?_take_of_lt (by omega)]; exact h1
    have ndP : ps.Nodup := by rw [← S.pre]; exact S.nd.sublist (List.take_sublist _ _)
    refine ⟨u, rv, ?_⟩
    rcases S.par y (List.mem_of_getElem? hp) with k | k
    · exact .inl ⟨k, bindL_get ndP hp hu k⟩
    · obtain ⟨c, e⟩ := cell_has (n := s.heap.objs.size + 1) k
      refine .inr ⟨.inl k, c, e, ?_⟩
      have q := x.cell y c e
      rw [bindC_get ndP hp hu (by show scope.names.lookup y ≠ _; rw [k]; decide)] at q
      exact q
  · exact e0.hok.fresh (Nat.le_of_lt (x.above y c (PySem.mem_of_lookup h)))
  · unfold start
    show _ = N.length
    rw [List.length_append, List.length_map, List.length_replicate]
    omega

theorem fn_of {CX : CXT} {P : Program} {w : World} {K : PySem.W.Frag} {mg : Str → Option Value} {base : Heap} {k : Nat} {f : Addr} {name qual : Str} {params : Arguments} {body : List Stmt} {scope : Scope} {dV kV doc pm cdv ct oc : Value} {an od : Option Addr}
    {osl : Array (Option Value)} {N ps : List Str} {sp : Sp} (lk : K.lookup f = some ⟨oc, od, .func (PySem.W.fnOf name qual params body scope dV kV doc pm an cdv ct), osl⟩) (hcd : PySem.W.codeIn K cdv qual = true) (S : FnScope N ps scope)
    (len : ∀ vs H Q E, sp vs H Q E → vs.length = ps.length)
    (hbody : ∀ (A : Around) (outer : List Env) (s : Shared) (H : Hp) (vs : List V) (Q : VK) (E : XK), Room k (A.deeper (envOfC qual scope s.heap.objs.size f cdv)) → sp vs H Q E →
      ∃ t, PSs (cxOf CX P w K mg base N qual scope f cdv A outer s H E) body t ∧ t { nx := fun _ H' => Q .non H', rt := Q } (start N vs) H) :
    FnOk P w K mg base CX (k + 1) f (PySem.W.fnOf name qual params body scope dV kV doc pm an cdv ct) ps sp := by
  refine ⟨len, fun A outer s H args us vs Q E hr e0 hb r hsp => ?_⟩
  have hl := len _ _ _ _ hsp
  have KX : K.In s.heap := e0.mod.kin.keeps fun b o e => (e0.bs b o e).1
  have lim : s.heap.NoLimit := e0.mod.nolimit.keeps fun b o e => (e0.bs b o e).1
  have hkind : ∀ y ∈ ps.zip us, scope.names.lookup y.1 = some .local ∨ (scope.names.lookup y.1 = some .cell ∧ ((cellsFrom (s.heap.objs.size + 1) scope.names []).lookup y.1).isSome = true) := fun ⟨n, v⟩ hy => by
    rcases S.par n (List.of_mem_zip hy).1 with q | q
    · exact .inl q
    · exact .inr ⟨q, PySem.W.cellsFrom_some _ _ _ (.inl q)⟩
  refine codeAny_call_function hr.depth (KX _ _ lk) rfl S.co S.gen rfl (PySem.W.codeRec_of KX hcd) (hb _ _ _ _ ?_)
  refine wpAny_newFunctionEnv_cells S.kind hkind fun env he s1 x => ?_
  subst he
  refine ⟨lim.keeps x.toInCall.keep, codeAny_func ?_⟩
  obtain ⟨t, ht, hq⟩ := hbody A outer s H vs Q E (hr.deeper _) hsp
  have I : Inv (cxOf CX P w K mg base N qual scope f cdv A outer s H E) [] (start N vs) H s1 := inv_start S hr.hd e0 hl r x
  refine wpAny_mono (ht [] s1 (start N vs) H _ I hq) (fun fl s' hs => ?_) fun e s' hs => hs
  have fin : ∀ {σ' : St} {H' : Hp} {v : V} {u : Value}, Inv (cxOf CX P w K mg base N qual scope f cdv A outer s H E) [] σ' H' s' → RelV v u → Q v H' → CE outer P w H s Q u s' :=
    fun {σ' H' v u} J rv q => ⟨v, H', J.os, J.bare, J.base, J.hok, rv, q⟩
  cases fl with
  | ret u =>
    obtain ⟨v, σ', H', J, rv, q⟩ := hs
    exact fin J rv q
  | next =>
    obtain ⟨σ', H', J, q⟩ := hs
    exact fin (v := V.non) (u := Value.none) J rfl q
  | brk =>
    obtain ⟨_, _, _, q⟩ := hs
    exact False.elim q
  | cont =>
    obtain ⟨_, _, _, q⟩ := hs
    exact False.elim q
end L2

namespace L2
open PySem PySem.Spec PyProof.Rows
section
variable {X : Cx} {x : Str} {p pos : Pos} {e : Expr} {es : List Expr} {t : TA} {id T : String} {r : List V → Hp → VK → Prop}

def tCB (r : List V → Hp → VK → Prop) (t : TA) : TE := fun σ H Q => t σ H fun vs H1 => r vs H1 Q
theorem pe_callB (hc : CallR X (.builtin id) r) (hg : Gl X x) (hm : X.mg x = none) (hv : bootBuiltins x = some (.builtin id)) (ha : PA X (e :: es) t) (hn : x ≠ "__name__" := by decide) (hdb : (x == ("__debug__" : Str)) = false := by decide)
    (he : starEach (e :: es) X.env = (false, eval e X.env) :: starEach es X.env := by rfl) (hpl : (backTo pos (starEach es X.env)).any (·.1) = false := by rfl) : PE X (.Call (.Name x p) (e :: es) [] pos) (tCB r t) := by
  intro pins s σ H Q I h
  refine wpAny_Call_Name_kw (ld_blt I hg hm hv ?_ hn hdb)
  exact PyProof.Rows.callWith_builtin1 (thn (ha pos pins s σ H _ I h) fun us s1 ⟨vs, H1, I1, r1, q1⟩ => hc pins s1 σ H1 vs us Q I1 r1 q1) he hpl
theorem pe_callTy (hc : CallR X (.type T) r) (hg : Gl X x) (hm : X.mg x = none) (hv : bootBuiltins x = some (.type T)) (ha : PA X (e :: es) t) (hn : x ≠ "__name__" := by decide) (hdb : (x == ("__debug__" : Str)) = false := by decide)
    (he : starEach (e :: es) X.env = (false, eval e X.env) :: starEach es X.env := by rfl) (hpl : (backTo pos (starEach es X.env)).any (·.1) = false := by rfl) : PE X (.Call (.Name x p) (e :: es) [] pos) (tCB r t) := by
  intro pins s σ H Q I h
  refine wpAny_Call_Name_kw (ld_blt I hg hm hv ?_ hn hdb)
  exact PyProof.Rows.callWith_type1 (thn (ha pos pins s σ H _ I h) fun us s1 ⟨vs, H1, I1, r1, q1⟩ => hc pins s1 σ H1 vs us Q I1 r1 q1) he hpl
end
end L2

namespace HT
open PySem PyProof.Rows

section
open PySem.SeqAt
open PySem.AutoSeq1 (wpAny_loadPart')
open PySem.MeetsSeq PySem.MeetsSeq2 PySem.MeetsSeq3

end

section
variable {prog : Program} {w : World} {A : Around} {E : Value → Shared → Prop} {s : Shared}


end
end HT

namespace L2
open PySem PySem.Spec PyProof.Rows


section
variable {X : Cx} {e : Expr} {te : TE} {lo hi : Option Expr} {tl th : TO} {pos p2 : Pos}


end
end L2

namespace L2
open PySem PySem.Spec PyProof.Rows


def ixN (n : Nat) (i : Int) : Option Nat := if 0 ≤ i then (if i < n then some i.toNat else none) else if -(n : Int) ≤ i then some (i + n).toNat else none
def atI {α : Type} (xs : List α) (i : Int) : Option α := (ixN xs.length i).bind fun j => xs[j]?
theorem ixN_seq {n : Nat} {i : Int} {j : Nat} (h : ixN n i = some j) : seqIndex? i n = some j ∧ j < n ∧ -(n : Int) ≤ i ∧ i < n := by
  unfold ixN at h
  by_cases h0 : 0 ≤ i
  · rw [if_pos h0] at h
    by_cases h1 : i < n
    · rw [if_pos h1] at h
      have e : i.toNat = j := Option.some.inj h
      exact ⟨by rw [seqIndex_of h0 h1, e], by omega, by omega, h1⟩
    · rw [if_neg h1] at h; cases h
  · rw [if_neg h0] at h
    by_cases h1 : -(n : Int) ≤ i
    · rw [if_pos h1] at h
      have e : (i + n).toNat = j := Option.some.inj h
      exact ⟨by rw [seqIndex_neg (by omega) h1, e], by omega, h1, by omega⟩
    · rw [if_neg h1] at h; cases h
theorem atI_get {α : Type} {xs : List α} {i : Int} {v : α} (h : atI xs i = some v) : ∃ j, seqIndex? i xs.length = some j ∧ xs[j]? = some v ∧ j < xs.length ∧ -(xs.length : Int) ≤ i ∧ i < xs.length := by
  unfold atI at h
  cases e : ixN xs.length i with
  | none => rw [e] at h; cases h
  | some j =>
    rw [e] at h
    obtain ⟨h1, h2, h3, h4⟩ := ixN_seq e
    exact ⟨j, h1, h, h2, h3, h4⟩
theorem atI_nat {α : Type} {xs : List α} {j : Nat} {v : α} (h : xs[j]? = some v) : atI xs (j : Int) = some v := by
  have hj : j < xs.length := (List.getElem?_eq_some_iff.mp h).1
  have e : ixN xs.length (j : Int) = some j := by
    unfold ixN
    rw [if_pos (by omega), if_pos (by omega)]; simp
  unfold atI; rw [e]; exact h

def PlainIx (b : Expr) : Prop := ∀ o i, subscripted b false o i = operate [o, i] (getItem o i)
def IxR (X : Cx) (r : R2) : Prop :=
  ∀ (value slice : Expr) (pins : List (Addr × Obj)) (s : Shared) (σ : St) (H : Hp) (x y : V) (v u : Value) (Q : VK), Inv X pins σ H s → RelV x v → RelV y u → r x y H Q →
    subscripted slice false v u = operate [v, u] (getItem v u) → wpAny (model X.prog X.w) X.A (subscriptTail value slice v u) (EP X pins σ Q) X.xe s
def MtR (X : Cx) (id : String) (r : V → List V → Hp → VK → Prop) : Prop :=
  ∀ (pins : List (Addr × Obj)) (s : Shared) (σ : St) (H : Hp) (x : V) (xs : List V) (v : Value) (us : List Value) (Q : VK), Inv X pins σ H s → RelV x v → Vals xs us → r x xs H Q →
    wpAny (model X.prog X.w) X.A (call (.builtin id) (v :: us)) (EP X pins σ Q) X.xe s
section
variable {X : Cx} {a b : Expr} {ta tb : TE} {pos : Pos}
theorem pe_ix {r : R2} (hr : IxR X r) (ha : PE X a ta) (hb : PE X b tb) (hs : PlainIx b) : PE X (.Subscript a b pos) (tOp r ta tb) := by
  intro pins s σ H Q I h
  exact Subscript_ (binT ha hb I h fun v u s2 x y H2 I2 rx ry q => hr a b pins s2 σ H2 x y v u Q I2 rx ry q (hs _ _))

def rIxL (K : PySem.W.Frag) : R2 := fun x y H Q => ∃ p xs i v, x = .ref p ∧ y = .int i ∧ SqL K H p xs ∧ atI xs i = some v ∧ Q v H
def rIxS : R2 := fun x y H Q => ∃ z i c, x = .str z ∧ y = .int i ∧ z.length ≤ sizeLine ∧ atI z.cps.toList i = some c ∧ Q (.str ⟨#[c]⟩) H
theorem ix_list : IxR X (rIxL X.K) := by
  intro value slice pins s σ H x y v u Q I rx ry h hs
  obtain ⟨p, xs, i, z, rfl, rfl, hq, he, q⟩ := h
  cases rx
  obtain ⟨t, rfl⟩ := ry
  obtain ⟨its, r, pl, hz⟩ := I.list hq
  obtain ⟨j, h1, h2, h3, h4, h5⟩ := atI_get he
  obtain ⟨w, ew, rw'⟩ := r.get h2
  have hl := r.length
  have hn := line63
  have fin : EP X pins σ Q w s := ⟨z, H, I, rw', q⟩
  by_cases h0 : 0 ≤ i
  · have hj : i.toNat = j := by
      rw [seqIndex_of h0 h5] at h1
      exact Option.some.inj h1
    exact item_listR pl.isList h0 (by omega) (by rw [hj]; simpa using ew) fin hs
  · have hj : (i + (its.toArray.size : Int)).toNat = j := by
      rw [seqIndex_neg (by omega) h4] at h1
      rw [List.size_toArray, ← hl]
      exact Option.some.inj h1
    exact subscriptTail_builtinR (x := w) pl.isList.typeIs slot_list_getitem.lookup
      (wpAny_getItem_list_neg (Q := fun r s' => r = w ∧ EP X pins σ Q r s') pl.isList (by omega) (by rw [List.size_toArray] <;> omega) (by omega) (by rw [hj]; simpa using ew) ⟨rfl, fin⟩) hs
theorem ix_str : IxR X rIxS := by
  intro value slice pins s σ H x y v u Q I rx ry h hs
  obtain ⟨z, i, c, rfl, rfl, hz, he, q⟩ := h
  obtain ⟨t, rfl⟩ := rx
  obtain ⟨t', rfl⟩ := ry
  obtain ⟨j, h1, h2, h3, h4, h5⟩ := atI_get he
  have hl : z.cps.toList.length = z.length := by simp [Str.length]
  rw [hl] at h1 h4 h5
  have hn := line63
  exact tail_any (typeIs_str s z t) slot_str_getitem.lookup (getItem_str (c := c) (by
    have e1 : decide (i < -(2 ^ 63 : Int)) = false := decide_eq_false (by omega)
    have e2 : decide (i ≥ 2 ^ 63) = false := decide_eq_false (by omega)
    rw [e1, e2, Bool.or_false]) (by rw [h1]; simpa using h2) ⟨.str ⟨#[c]⟩, H, I.tok _, ⟨_, rfl⟩, q⟩) hs

theorem mapSeq_set (its : List Value) (n j : Nat) (u : Value) : Obj.mapSeq (·.setIfInBounds j u) { cls := .type "list", data := .seq its.toArray n } = { cls := .type "list", data := .seq (its.set j u).toArray n } := by
  simp [Obj.mapSeq]
theorem Inv.lst {pins : List (Addr × Obj)} {σ : St} {H : Hp} {s : Shared} {p : Addr} {xs : List V} (I : Inv X pins σ H s) (h : H p = some (.lst xs)) :
    ∃ (its : List Value) (n : Nat), Vals xs its ∧ s.heap.get? p = some { cls := .type "list", data := .seq its.toArray n } ∧ xs.length ≤ sizeLine := by
  obtain ⟨z, its, n, r, e⟩ := I.hok p _ h
  exact ⟨its, n, r, e, z⟩
theorem Inv.lstUpd {pins : List (Addr × Obj)} {σ : St} {H : Hp} {s : Shared} {p : Addr} {xs ys : List V} {its its' : List Value} {n n' : Nat} {f : Obj → Obj} (I : Inv X pins σ H s) (h : H p = some (.lst xs))
    (ho : s.heap.get? p = some { cls := .type "list", data := .seq its.toArray n }) (hf : f { cls := .type "list", data := .seq its.toArray n } = { cls := .type "list", data := .seq its'.toArray n' }) (r : Vals ys its') (hz : ys.length ≤ sizeLine) (t : Nat) :
    Inv X pins σ (upd H p (.lst ys)) { s with heap := s.heap.update p f, toks := t } := by
  have e : (s.heap.update p f).get? p = some { cls := .type "list", data := .seq its'.toArray n' } := by
    rw [Heap.get?_update_self f ho (by rw [hf] <;> rfl), hf]
  refine I.write (x := p) (e := p) (by rw [h]; trivial) (.inl rfl) (fun b u hb q => (Heap.get?_update_other _ _ (Ne.symm hb)).trans q) ⟨_, e⟩ ?_
  exact ⟨hz, its', n', r, e⟩
def rSetL : V → V → V → Hp → (Hp → Prop) → Prop := fun o i v H Q => ∃ p xs k j, o = .ref p ∧ i = .int k ∧ H p = some (.lst xs) ∧ ixN xs.length k = some j ∧ Q (upd H p (.lst (xs.set j v)))
theorem set_list : PSet X rSetL := by
  intro pins s σ H o i v ov iv u Q I ro ri rv h
  obtain ⟨p, xs, k, j, rfl, rfl, hp, hj, q⟩ := h
  cases ro
  obtain ⟨t, rfl⟩ := ri
  obtain ⟨its, n, r, ho, hz⟩ := I.lst hp
  obtain ⟨h1, h2, h3, h4⟩ := ixN_seq hj
  have hl := r.length
  have hn := line63
  have I' : Inv X pins σ (upd H p (.lst (xs.set j v))) { s with heap := s.heap.update p (Obj.mapSeq (·.setIfInBounds j u)) } :=
    I.lstUpd hp ho (mapSeq_set its n j u) (r.set rv j) (by rw [List.length_set]; exact hz) s.toks
  by_cases h0 : 0 ≤ k
  · have hk : k.toNat = j := by
      rw [seqIndex_of h0 h4] at h1
      exact Option.some.inj h1
    exact PySem.W.ki_setAt ho h0 (by omega) (by rw [List.size_toArray, ← hl]; exact h4) (by rw [hk]; exact ⟨_, I', q⟩)
  · have hk : (k + (its.toArray.size : Int)).toNat = j := by
      rw [seqIndex_neg (by omega) h3] at h1
      rw [List.size_toArray, ← hl]
      exact Option.some.inj h1
    exact PySem.W.ki_setBack ho (by omega) (by rw [List.size_toArray, ← hl]; exact h3) (by omega) (by rw [hk]; exact ⟨_, I', q⟩)



def flatV : V → Bool
  | .non => true
  | .bl _ => true
  | .int _ => true
  | .str _ => true
  | _ => false
def eqV : V → V → Bool
  | .non, .non => true
  | .bl a, .bl b => a == b
  | .bl a, .int b => (if a then 1 else 0) == b
  | .int a, .bl b => a == (if b then 1 else 0)
  | .int a, .int b => a == b
  | .str a, .str b => a == b
  | _, _ => false
theorem eqAt_V {A : Around} {s : Shared} {y x : V} {u v : Value} (ry : RelV y u) (rx : RelV x v) (fy : flatV y = true) (fx : flatV x = true) : SeqAt.EqAt A s u v (eqV y x) := by
  cases y with
  | non =>
    cases ry
    cases x with
    | non => cases rx; exact SeqAt.EqAt.same _
    | bl b => cases rx; exact SeqAt.EqAt.none_bool b
    | int b => obtain ⟨t, rfl⟩ := rx; exact SeqAt.EqAt.none_int b t
    | str b => obtain ⟨t, rfl⟩ := rx; exact SeqAt.EqAt.none_str b t
    | _ => exact absurd (show false = true from fx) Bool.false_ne_true
  | bl a =>
    cases ry
    cases x with
    | non => cases rx; exact SeqAt.EqAt.bool_none a
    | bl b => cases rx; exact SeqAt.EqAt.bool_bool a b
    | int b => obtain ⟨t, rfl⟩ := rx; exact SeqAt.EqAt.bool_int a b t
    | str b => obtain ⟨t, rfl⟩ := rx; exact SeqAt.EqAt.bool_str a b t
    | _ => exact absurd (show false = true from fx) Bool.false_ne_true
  | int a =>
    obtain ⟨t', rfl⟩ := ry
    cases x with
    | non => cases rx; exact SeqAt.EqAt.int_none a t'
    | bl b => cases rx; exact SeqAt.EqAt.int_bool a t' b
    | int b => obtain ⟨t, rfl⟩ := rx; exact SeqAt.EqAt.int_int a t' b t
    | str b => obtain ⟨t, rfl⟩ := rx; exact SeqAt.EqAt.int_str a t' b t
    | _ => exact absurd (show false = true from fx) Bool.false_ne_true
  | str a =>
    obtain ⟨t', rfl⟩ := ry
    cases x with
    | non => cases rx; exact SeqAt.EqAt.str_none a t'
    | bl b => cases rx; exact SeqAt.EqAt.str_bool a t' b
    | int b => obtain ⟨t, rfl⟩ := rx; exact SeqAt.EqAt.str_int a t' b t
    | str b => obtain ⟨t, rfl⟩ := rx; exact SeqAt.EqAt.str_str a t' b t
    | _ => exact absurd (show false = true from fx) Bool.false_ne_true
  | _ => exact absurd (show false = true from fy) Bool.false_ne_true

theorem call_len_seq : CallR X (.builtin "len") (fun xs H Q => ∃ p ys, xs = [.ref p] ∧ (SqL X.K H p ys ∨ SqT X.K H p ys) ∧ Q (.int ys.length) H) := by
  intro pins s σ H xs us Q I r h
  obtain ⟨p, ys, rfl, hq, q⟩ := h
  obtain ⟨u, rfl, rx⟩ := vals1 r
  cases rx
  have hn := line63
  rcases hq with hq | hq
  · obtain ⟨its, r', pl, hz⟩ := I.list hq
    have hlen := r'.length
    exact Calls.call_len_list pl.isList (by simp only [List.size_toArray] <;> omega) ⟨.int ys.length, H, I.tok _, ⟨s.toks + 1, by rw [List.size_toArray, hlen]⟩, q⟩
  · obtain ⟨its, r', pl, hz⟩ := I.tuple hq
    have hlen := r'.length
    exact len_tuple pl (by simp only [List.size_toArray] <;> omega) ⟨.int ys.length, H, I.tok _, ⟨s.toks + 1, by rw [List.size_toArray, hlen]⟩, q⟩
theorem call_len_str : CallR X (.builtin "len") (fun xs H Q => ∃ z, xs = [.str z] ∧ z.length ≤ sizeLine ∧ Q (.int z.length) H) := by
  intro pins s σ H xs us Q I r h
  obtain ⟨z, rfl, hz, q⟩ := h
  obtain ⟨u, rfl, t, rfl⟩ := vals1 r
  have hn := line63
  exact len_str (by omega) ⟨.int z.length, H, I.tok _, ⟨_, rfl⟩, q⟩
theorem CallR.or {f : Value} {r r' : List V → Hp → VK → Prop} (h : CallR X f r) (h' : CallR X f r') : CallR X f (fun xs H Q => r xs H Q ∨ r' xs H Q) := by
  intro pins s σ H xs us Q I rs q
  rcases q with q | q
  · exact h pins s σ H xs us Q I rs q
  · exact h' pins s σ H xs us Q I rs q
theorem call_list_of : CallR X (.type "list") (fun xs H Q => ∃ p ys, xs = [.ref p] ∧ (SqL X.K H p ys ∨ SqT X.K H p ys) ∧ ∀ l, H l = none → Q (.ref l) (upd H l (.lst ys))) := by
  intro pins s σ H xs us Q I r h
  obtain ⟨p, ys, rfl, hq, q⟩ := h
  obtain ⟨u, rfl, rx⟩ := vals1 r
  cases rx
  have fin : ∀ (its : List Value), Vals ys its → ys.length ≤ sizeLine → ∀ (h' : Heap) (c' : Nat), (∀ b o', s.heap.get? b = some o' → h'.get? b = some o') →
      h'.get? s.heap.objs.size = some { cls := .type "list", dict := none, data := .seq its.toArray c', slots := #[] } → EP X pins σ Q (.ref s.heap.objs.size) { s with heap := h' } := fun its r' hz h' c' kp e =>
    ⟨.ref s.heap.objs.size, _, I.laid (t' := s.toks) kp (Nat.le_refl _) (show ObjOk X.prog X.w _ h' _ (.lst ys) from ⟨hz, its, c', r', e⟩), rfl, q _ (I.hok.fresh (Nat.le_refl _))⟩
  rcases hq with hq | hq
  · obtain ⟨its, r', pl, hz⟩ := I.list hq
    have hlen := r'.length
    obtain ⟨o, ho, hc, n, hd⟩ := pl.isList
    exact call_list_seq p (.inl rfl) ho hc hd (fun h' c' kp e => fin its r' hz h' c' kp e) (by simp only [List.size_toArray] <;> omega)
  · obtain ⟨its, r', pl, hz⟩ := I.tuple hq
    have hlen := r'.length
    obtain ⟨o, ho, hc, n, hd⟩ := pl
    exact call_list_seq p (.inr rfl) ho hc hd (fun h' c' kp e => fin its r' hz h' c' kp e) (by simp only [List.size_toArray] <;> omega)

def tyV (K : PySem.W.Frag) (T : String) (x : V) (H : Hp) : Prop := match x with
  | .str _ => T = "str"
  | .int _ => T = "int"
  | .ref p => (T = "list" ∧ ∃ xs, SqL K H p xs) ∨ (T = "tuple" ∧ ∃ o, K.lookup p = some o ∧ o.cls = .type "tuple" ∧ o.dict = none) ∨
      (T = "dict" ∧ ((∃ kvs, H p = some (.dK kvs)) ∨ ∃ kvs, H p = some (.dT kvs))) ∨ (T = "set" ∧ ∃ S n, H p = some (.set S n))
  | _ => False
theorem tyV_is {pins : List (Addr × Obj)} {σ : St} {H : Hp} {s : Shared} {T : String} {x : V} {v : Value} (I : Inv X pins σ H s) (r : RelV x v) (ty : tyV X.K T x H) :
    s.TypeIs v T ∧ ∀ a, v = .ref a → ∃ ob, s.heap.get? a = some ob ∧ ob.dict = none := by
  cases x with
  | str z =>
    obtain ⟨t, rfl⟩ := r
    cases (show T = "str" from ty)
    exact ⟨typeIs_str s z t, fun _ e => nomatch e⟩
  | int i =>
    obtain ⟨t, rfl⟩ := r
    cases (show T = "int" from ty)
    exact ⟨typeIs_int s i t, fun _ e => nomatch e⟩
  | ref p =>
    cases r
    rcases ty with ⟨rfl, xs, hq⟩ | ⟨rfl, o, hk, hc, hd⟩ | ⟨rfl, hk⟩ | ⟨rfl, S, n, hk⟩
    · obtain ⟨its, _, pl, _⟩ := I.list hq
      refine ⟨pl.isList.typeIs, fun a e => ?_⟩
      cases e
      obtain ⟨o, n, e, c, hd, _⟩ := pl
      exact ⟨o, e, hd⟩
    · refine ⟨⟨o, I.kIn p o hk, hc⟩, fun a e => ?_⟩
      cases e
      exact ⟨o, I.kIn _ o hk, hd⟩
    · have z : ∃ o, s.heap.get? p = some o ∧ o.ExactDict := by
        rcases hk with ⟨kvs, hk⟩ | ⟨kvs, hk⟩
        · obtain ⟨_, _, _, _, o, _, _, e, ex, _⟩ := I.hok p _ hk
          exact ⟨o, e, ex⟩
        · obtain ⟨_, _, _, _, o, _, _, e, ex, _⟩ := I.hok p _ hk
          exact ⟨o, e, ex⟩
      obtain ⟨o, e, ex⟩ := z
      refine ⟨⟨o, e, ex.1⟩, fun a e2 => ?_⟩
      cases e2
      exact ⟨o, e, ex.2.1⟩
    · obtain ⟨o, _, _, _, e, ex, _⟩ := I.hok p _ hk
      refine ⟨⟨o, e, ex.1⟩, fun a e2 => ?_⟩
      cases e2
      exact ⟨o, e, ex.2.1⟩
  | _ => exact False.elim ty
def tBM0 (K : PySem.W.Frag) (T : String) (r : V → List V → Hp → VK → Prop) (to : TE) : TE := fun σ H Q => to σ H fun x H1 => tyV K T x H1 ∧ r x [] H1 Q
def tBM (K : PySem.W.Frag) (T : String) (r : V → List V → Hp → VK → Prop) (to : TE) (t : TA) : TE := fun σ H Q => to σ H fun x H1 => tyV K T x H1 ∧ t σ H1 fun xs H2 => r x xs H2 Q
variable {o e : Expr} {es : List Expr} {to : TE} {t : TA} {name : Str} {apos cpos : Pos} {T id : String} {r : V → List V → Hp → VK → Prop}
theorem pe_bm0 (pa : PlainAttrs T) (slot : Slot T name id) (hty : typeOf (.builtin id) = pure (.type "method_descriptor")) (hm : MtR X id r) (ho : PE X o to)
    (hbase : attributeBase o name X.env (eval o X.env) = eval o X.env := by rfl) (hline : (apos.endLine == cpos.line) = true := by rfl) : PE X (.Call (.Attribute o name apos) [] [] cpos) (tBM0 X.K T r to) := by
  intro pins s σ H Q I h
  refine wpAny_Call_method0_late hbase hline (thn (ho pins s σ H _ I h) fun v s1 ⟨x, H1, I1, r1, ty, q1⟩ => ?_)
  obtain ⟨h1, h2⟩ := tyV_is I1 r1 ty
  exact ⟨T, id, pa, slot, hty, h1, h2, Calls.callWith_builtin rfl (PySem.evalArgs_none (hm pins s1 σ H1 x [] v [] Q I1 r1 .nil q1))⟩
theorem pe_bm (pa : PlainAttrs T) (slot : Slot T name id) (hty : typeOf (.builtin id) = pure (.type "method_descriptor")) (hm : MtR X id r) (ho : PE X o to) (ha : PA X (e :: es) t)
    (hbase : attributeBase o name X.env (eval o X.env) = eval o X.env := by rfl)
    (hfew : ((backTo cpos (starEach (e :: es) X.env)).all (fun x => !x.1) && (backToKw cpos (keywordEach [] X.env)).all (fun x => x.1.isSome)
      && decide ((e :: es).length + ([] : List Keyword).length + (if ([] : List Keyword).isEmpty then 0 else 1) < 30)) = true := by rfl)
    (hline : (apos.endLine == cpos.line) = true := by rfl) (hs : starEach (e :: es) X.env = (false, eval e X.env) :: starEach es X.env := by rfl) (hplain : (backTo cpos (starEach es X.env)).any (·.1) = false := by rfl) :
    PE X (.Call (.Attribute o name apos) (e :: es) [] cpos) (tBM X.K T r to t) := by
  intro pins s σ H Q I h
  refine wpAny_Call_method_late hbase hfew hline rfl (thn (ho pins s σ H _ I h) fun v s1 ⟨x, H1, I1, r1, ty, q1⟩ => ?_)
  obtain ⟨h1, h2⟩ := tyV_is I1 r1 ty
  refine ⟨T, id, pa, slot, hty, h1, h2, ?_⟩
  have hA := ha cpos pins s1 σ H1 _ I1 q1
  rw [hs] at hA ⊢
  refine Calls.callWith_builtin (by show (false || (backTo cpos (starEach es X.env)).any (·.1)) = false; rw [hplain] <;> rfl) (Calls.evalArgs_plain ?_)
  exact thn hA fun us s2 ⟨vs, H2, I2, r2, q2⟩ => hm pins s2 σ H2 x vs v us Q I2 r1 r2 q2
/- xs.append(e), list.index on a module's tuple .. are MtR facts of 06m -/
end
end L2

namespace L2
open PySem PySem.Spec PyProof.Rows

def MtM (X : Cx) (id : String) (r : V → List V → Hp → VK → Prop) : Prop :=
  ∀ (pins : List (Addr × Obj)) (s : Shared) (σ : St) (H : Hp) (x : V) (xs : List V) (v : Value) (us : List Value) (Q : VK), Inv X pins σ H s → RelV x v → Vals xs us → r x xs H Q →
    wpAny (model X.prog X.w) X.A (call (.builtin id) (v :: us)) (EP X pins σ Q) X.xe s


theorem Vals.one : ∀ {x : V} {us : List Value}, Vals [x] us → ∃ u, us = [u] ∧ RelV x u
  | _, _, .cons r .nil => ⟨_, rfl, r⟩
theorem Vals.zero : ∀ {us : List Value}, Vals [] us → us = []
  | _, .nil => rfl
section
variable {X : Cx} {pins : List (Addr × Obj)} {σ : St} {H : Hp} {s : Shared} {l b : Addr} {xs ys zs : List V}


theorem Inv.lset {its its' : List Value} {n : Nat} {f : Array Value → Array Value} {t' : Nat} (I : Inv X pins σ H s) (hH : H l = some (.lst xs))
    (e : s.heap.get? l = some { cls := .type "list", data := .seq its.toArray n }) (hf : f its.toArray = its'.toArray) (hv : Vals ys its') (hz : ys.length ≤ sizeLine) :
    Inv X pins σ (upd H l (.lst ys)) { s with heap := s.heap.update l (Obj.mapSeq f), toks := t' } := by
  have q := PySem.IsL.update e f
  rw [hf] at q
  refine I.write (x := l) (e := l) (by rw [hH]; exact trivial) (.inl rfl) (fun b' u hb hu => (Heap.get?_update_other s.heap (Obj.mapSeq f) (Ne.symm hb)).trans hu) ⟨_, q⟩ ?_
  exact ⟨hz, its', _, hv, q⟩
theorem Inv.lstM (I : Inv X pins σ H s) (hH : H l = some (.lst xs)) : xs.length ≤ sizeLine ∧ ∃ (its : List Value) (n : Nat), Vals xs its ∧ xs.length = its.length ∧ s.heap.get? l = some { cls := .type "list", data := .seq its.toArray n } := by
  obtain ⟨z, its, n, r, e⟩ := I.hok l _ hH
  exact ⟨z, its, n, r, r.length, e⟩

end

section
variable {X : Cx}


def rAppend : V → List V → Hp → VK → Prop := fun x vs H Q => ∃ l xs y, x = .ref l ∧ vs = [y] ∧ H l = some (.lst xs) ∧ xs.length < sizeLine ∧ Q .non (upd H l (.lst (xs ++ [y])))
theorem mt_append : MtM X "list.append" rAppend := by
  intro pins s σ H x vs v us Q I rx rv h
  obtain ⟨l, xs, y, rfl, rfl, hH, hz, q⟩ := h
  cases rx
  obtain ⟨u, rfl, ru⟩ := rv.one
  obtain ⟨z, its, n, r, hl, e⟩ := I.lstM hH
  refine call_meets F.slot_list_append ⟨_, e, rfl⟩ F.entry_list_append (F.args_list_append_2 _ _) (PySem.list_append l its.toArray n u (by rw [List.size_toArray]; omega)) ⟨e, ?_⟩
  refine ⟨.non, _, I.lset (its' := its ++ [u]) hH e (by simp) (r.append (.cons ru .nil)) ?_, rfl, q⟩
  rw [List.length_append, List.length_singleton]
  omega

def rClear : V → List V → Hp → VK → Prop := fun x vs H Q => ∃ l xs, x = .ref l ∧ vs = [] ∧ H l = some (.lst xs) ∧ Q .non (upd H l (.lst []))
theorem mt_clear : MtM X "list.clear" rClear := by
  intro pins s σ H x vs v us Q I rx rv h
  obtain ⟨l, xs, rfl, rfl, hH, q⟩ := h
  cases rx
  have hus := rv.zero
  subst hus
  obtain ⟨z, its, n, r, hl, e⟩ := I.lstM hH
  refine call_meets F.slot_list_clear ⟨_, e, rfl⟩ F.entry_list_clear (F.args_list_clear_1 _) (AutoSeq1.list_clear_list_0 l its.toArray n (by rw [List.size_toArray]; omega)) ⟨e, ?_⟩
  exact ⟨.non, _, I.lset (its' := []) (ys := []) hH e rfl .nil (Nat.zero_le _), rfl, q⟩



end


section
variable {prog : Program} {w : World} {A : Around} {E : Value → Shared → Prop} {s : Shared}
end

section
variable {X : Cx}
end
end L2
namespace L2
open PySem PySem.Spec PyProof.Rows


section
variable {κ : Type} [DecidableEq κ]
end



section
variable {P : Program} {w : World} {H : Hp} {h : Heap} {a : Addr}
end

section
variable {X : Cx} {pins : List (Addr × Obj)} {σ : St} {H : Hp} {s : Shared} {a : Addr} {y v : V} {u r : Value} {o : Option V} {A : Around} {E : Value → Shared → Prop}

end

section
variable {X : Cx} {pins : List (Addr × Obj)} {σ : St} {H : Hp} {s : Shared} {a : Addr} {kvs : List (Key × V)} {k : Key} {u : Value} {A : Around} {E : Value → Shared → Prop}
end



section
variable {X : Cx} {o i e value : Expr} {pos pos' tpos : Pos} {td ty tv : TE}
end



section
variable {X : Cx} {pos : Pos}
end


section
variable {X : Cx} {pins : List (Addr × Obj)} {σ : St} {H : Hp} {s : Shared} {a : Addr} {y d : V} {u r : Value} {o : Option V} {A : Around} {E : Value → Shared → Prop}
end

section
variable {X : Cx} {o e f : Expr} {apos cpos : Pos} {td ty tx : TE}
end


section
variable {X : Cx} {pins : List (Addr × Obj)} {σ : St} {H : Hp} {s : Shared} {a : Addr} {kvs : List (Key × V)} {A : Around} {E : Value → Shared → Prop}
end


section
variable {X : Cx} {pins : List (Addr × Obj)} {σ : St} {H : Hp} {s : Shared} {a : Addr} {y : V} {u : Value} {A : Around} {E : Value → Shared → Prop}
end
end L2

namespace Att
open PySem PySem.W PySem.Calls PyProof.Rows


theorem ints_of_wellAll {P : Params} {h : Heap} : ∀ (ns : List Int) (vs : List Value), WellAll P h vs (ns.map WData.int) → IntsAre vs ns := by
  intro ns
  induction ns with
  | nil =>
    intro vs w
    rw [List.map_nil] at w
    cases w
    exact .nil
  | cons n ns ih =>
    intro vs w
    rw [List.map_cons] at w
    cases w with
    | cons a b =>
      cases a
      exact .cons _ _ (ih _ b)

theorem script_of {l : OpenLaw} {n : Nat} (hn : l.most = some n) {P : Params} {h : Heap} {args : List WData} {vals : List Value}
    (hpre : l.row.toRowW.claim.pre args = true) (hwl : WellAll P h vals args) :
    ∃ a vs ns, vals = [Value.ref a] ∧ args = [WData.list (ns.map WData.int)] ∧ h.get? a = some { cls := .type "list", data := .seq vs.toArray } ∧ IntsAre vs ns ∧ ns.length ≤ n := by
  have hsh : WShape.hasAll [] args [.list .int] = true := (pre_splitW hpre).1
  have hc : l.pre.holds [] { args := args } = true := (pre_splitW hpre).2
  obtain ⟨d, r, rfl, h1, h2⟩ := hasAllW_cons hsh
  obtain rfl := hasAllW_nil h2
  obtain ⟨xs, rfl, h3⟩ := hasW_list h1
  obtain ⟨ns, rfl⟩ := items_int h3
  have hlen : ns.length ≤ n := by
    unfold OpenLaw.pre at hc
    have h4 : (WTm.not (.lt (.lit (.int (n : Int))) (.len (.arg 0)))).holds [] { args := [.list (ns.map .int)] } = true := by
      have h4 := (holds_andW hc).1
      rw [hn] at h4
      exact h4
    have h5 := condW_of h4 (w_not (w_lt w_lit (w_len_list (w_arg rfl))))
    rw [List.length_map] at h5
    refine Nat.le_of_not_lt fun q => ?_
    have q' : (n : Int) < ((ns.length : Nat) : Int) := by omega
    first
      | (rw [decide_eq_true q'] at h5; exact absurd h5 (by decide))
      | (simp at h5; omega)
  cases hwl with
  | cons w1 w2 =>
    cases w2
    cases w1 with
    | list ho hall => exact ⟨_, _, ns, rfl, rfl, ho, ints_of_wellAll ns _ hall, hlen⟩

theorem post_true (l : OpenLaw) (args : List WData) : l.row.toRowW.claim.post args (.bool true) args = true :=
  postW_of (r := l.row.toRowW) (X := (true == true))
    (show WShape.has [] (.bool true) .bool = true by first | rfl | decide | simp [WShape.has, WShape.arms, WShape.armsAll])
    (show (WTm.eq .res (.lit (.bool true))).value [] { args := args, res := some (.bool true), after := args } = some (.bool (true == true)) from w_eq_bool (w_res rfl) w_lit) rfl


theorem attach_call {l : OpenLaw} {n : Nat} {q : Program} {loose : List Str} {XP : (Str → Option Value) → Heap → Prop} {YP : World → Heap → Prop} {d : DefRec}
    (hn : l.most = some n) (hdf : d.params.defaults = [])
    (call : ∀ (w : World) (s₀ s₁ : Shared) (mg mb : Str → Option Value) (fa : Addr) (o : Obj) (pm cd doc : Value) (a : Addr) (vs : List Value) (ns : List Int),
      Ground q loose [] XP w s₀ mg mb s₁.heap → YP w s₁.heap →
      s₁.heap.get? fa = some o → o.data = .func (docDef d.name d.params d.body d.scope pm cd doc) → s₁.heap.CodeRec cd d.name → mg d.name = some (.ref fa) →
      s₁.heap.get? a = some { cls := .type "list", data := .seq vs.toArray } → IntsAre vs ns → ns.length ≤ n → s₁.gens = #[] →
      codeAny (model l.prog w) callerA (.call (.ref fa) ⟨[.ref a], []⟩) (fun r s' => r = .ok (.ret (.bool true)) ∧ OldK s₁.heap s'.heap ∧ s'.os = s₁.os ∧ AllBare s'.gens) s₁) :
    WalkO q loose XP YP l.row.toRowW d [] (fun f vs => PySem.call f vs) := by
  intro w s₀ s₁ mg mb G Y fa o pm cd doc dV kV ho hd hcd hD hmg hg args vals as hpre hlay hrd hwl hlo
  obtain rfl : dV = .none := Dflts.none hD hdf
  obtain rfl : kV = .none := Dflts.noKw hD
  obtain ⟨a, vs, ns, rfl, rfl, hobj, hints, hlen⟩ := script_of hn hpre hwl
  refine enter_call (codeAny_mono (call w s₀ s₁ mg mb fa o pm cd doc a vs ns G Y ho (fd_plain hd) hcd hmg hobj hints hlen hg) fun r s' hq => ?_)
  obtain ⟨rfl, h2, h3, h4⟩ := hq
  exact ⟨.inl ⟨.bool true, .bool true, [], rfl, fun _ => rfl, .bool true, post_true l _, fun _ => ⟨List.Pairwise.nil, fun _ hm => (nomatch hm)⟩⟩, h2, h3, h4⟩


section
variable {prog : Program} {w : World} {A : Around} {E : Value → Shared → Prop} {s : Shared} {K : Frag}


end
end Att

namespace L2
open PySem PySem.Spec PyProof.Rows

theorem vals_ints : ∀ {vs : List Value} {ns : List Int}, IntsAre vs ns → Vals (ns.map V.int) vs
  | _, _, .nil => .nil
  | _, _, .cons n t h => .cons ⟨t, rfl⟩ (vals_ints h)

def Only (H : Hp) : Prop := ∀ b, H b = none ∨ ∃ o xs, H b = some (.frz o (.lst xs))

theorem law_call {P : Program} {w : World} {K : PySem.W.Frag} {mg mb : Str → Option Value} {CX : CXT} {k : Nat} {fa a : Addr} {fd : FuncData} {x : Str} {sp : Sp} {s₁ : Shared} {vs : List Value} {ns : List Int}
    (KX : K.In s₁.heap) (hns : s₁.heap.Ns mainGlobals mg) (hb : s₁.heap.Ns builtinsNs mb) (hbb : ∀ x : Str, x ≠ "__name__" → mb x = bootBuiltins x) (hlim : s₁.heap.NoLimit) (hg : s₁.gens = #[])
    (ha : s₁.heap.get? a = some { cls := .type "list", data := .seq vs.toArray }) (hi : IntsAre vs ns) (hl : ns.length ≤ sizeLine) (hr : Room k callerA)
    (F : ∀ base : Heap, K.In base → base.Ns mainGlobals mg → FnOk P w K mg base CX k fa fd [x] sp) (hbind : ∀ (s : Shared) (u : Value), BindsTo s fd ⟨[u], []⟩ [(x, u)])
    (hsp : ∀ H : Hp, Only H → SqL K H a (ns.map V.int) → sp [.ref a] H (fun v _ => v = .bl true) fun _ _ _ => False)
    (hCX : ∀ H e s', CX [] H s₁ (fun _ _ _ => False) e s' → False) :
    codeAny (model P w) callerA (.call (.ref fa) ⟨[.ref a], []⟩) (fun r s' => r = .ok (.ret (.bool true)) ∧ OldK s₁.heap s'.heap ∧ s'.os = s₁.os ∧ AllBare s'.gens) s₁ := by
  have rv := vals_ints hi
  have lenV := hi.length
  -- from an abstract heap in which nothing but the script may be tracked
  have core : ∀ H : Hp, Only H → SqL K H a (ns.map V.int) → HOk P w H s₁.heap → (∀ b, H b ≠ none → b = a) → (H a ≠ none → K.lookup a = none) →
      codeAny (model P w) callerA (.call (.ref fa) ⟨[.ref a], []⟩) (fun r s' => r = .ok (.ret (.bool true)) ∧ OldK s₁.heap s'.heap ∧ s'.os = s₁.os ∧ AllBare s'.gens) s₁ := by
    intro H hO hS hok hA hK
    have base_of : ∀ {b : Addr} {o : Obj}, s₁.heap.get? b = some o → H b = none → (hidT s₁.heap H).get? b = some o := fun e n => hidT_get e n
    have noA : ∀ {b : Addr} {o : Obj} {es : Array DictEntry} {ep : Nat}, s₁.heap.get? b = some o → o.data = .dict es ep → H b = none := fun {b o es ep} e d => by
      cases q : H b with
      | none => rfl
      | some u =>
        have e' : b = a := hA b (by rw [q]; simp)
        subst e'
        rw [ha] at e; cases e
        have d' : Data.seq vs.toArray _ = Data.dict es ep := d
        cases d'
    have nsK : ∀ {b : Addr} {m : Str → Option Value}, s₁.heap.Ns b m → (hidT s₁.heap H).Ns b m := fun {b m} ⟨o, es, ep, e, d, r⟩ => ⟨o, es, ep, base_of e (noA e d), d, r⟩
    have hKb : K.In (hidT s₁.heap H) := fun b o e => base_of (KX b o e) (by
      cases q : H b with
      | none => rfl
      | some u =>
        have e' : b = a := hA b (by rw [q]; simp)
        subst e'
        rw [hK (by rw [q]; simp)] at e; cases e)
    have hM : Mod K mg (hidT s₁.heap H) := ⟨hKb, nsK hns, ⟨mb, nsK hb, hbb⟩, let ⟨mc, h1, h2⟩ := hlim; ⟨mc, nsK h1, h2⟩⟩
    have e0 : Env0 P w K mg (hidT s₁.heap H) callerA [] s₁ H := ⟨rfl, hM, fun b o e => of_hidT e, Nat.le_of_eq (hidT_size _ _), trivial, fun b hb => absurd (show b ∈ ([] : List Addr) from hb) (by simp), hok, .of_eq hg⟩
    refine codeAny_mono ((F _ hKb (nsK hns)).run callerA [] s₁ H ⟨[.ref a], []⟩ [.ref a] [.ref a] _ _ hr e0 (hbind s₁ (.ref a)) (.cons rfl .nil) (hsp H hO hS)) fun r s' h => ?_
    cases r with
    | error e => exact (hCX H e s' h).elim
    | ok fl =>
      cases fl with
      | next => exact False.elim h
      | brk => exact False.elim h
      | cont => exact False.elim h
      | ret u =>
        obtain ⟨v, H', os, bare, un, hok', r', q⟩ := h
        have q' : v = .bl true := q
        subst q'
        obtain rfl : u = Value.bool true := r'
        refine ⟨rfl, OldK.of_keep fun b o e => ?_, os, bare⟩
        cases q : H b with
        | none => exact un.keep b o e q (by intro z; exact absurd (show b ∈ ([] : List Addr) from z) (by simp)) (by simp)
        | some u =>
          rcases hO b with z | ⟨ob, xs, z⟩
          · rw [q] at z; cases z
          · have z2 := un.frzs b ob _ z
            obtain ⟨e1, _⟩ := hok b _ z
            obtain ⟨e2, _⟩ := hok' b _ z2
            rw [e] at e1; cases e1
            exact e2
  cases hk : K.lookup a with
  | some o =>
    -- the script is one of the module's own objects
    have e := KX a o hk
    rw [ha] at e
    cases e
    refine core (fun _ => none) (fun _ => .inl rfl) (.inr ⟨_, vs.toArray, _, hk, rfl, rfl, rfl, by rw [List.size_toArray, lenV]; exact hl, by simpa using rv⟩) (fun b u z => by have z' : (none : Option HO) = some u := z; cases z') (fun b z => absurd rfl z) fun z => absurd rfl z
  | none =>
    refine core (fun b => if b = a then some (.frz { cls := .type "list", data := .seq vs.toArray } (.lst (ns.map V.int))) else none) (fun b => ?_) (.inl (.inr ⟨{ cls := .type "list", data := .seq vs.toArray }, if_pos rfl⟩)) (fun b u z => ?_) (fun b z => ?_) fun _ => hk
    · by_cases hb : b = a
      · exact .inr ⟨_, _, if_pos hb⟩
      · exact .inl (if_neg hb)
    · by_cases hb : b = a
      · have z' := (if_pos hb).symm.trans z
        cases z'
        subst hb
        exact ⟨ha, by rw [List.length_map]; exact hl, vs, _, rv, ha⟩
      · have z' := (if_neg hb).symm.trans z
        cases z'
    · by_cases hb : b = a
      · exact hb
      · exact absurd (if_neg hb) z
end L2

namespace L2
open PySem PySem.Spec PyProof.Rows

abbrev KOf {K : PySem.W.Frag} {h : Heap} (_ : K.In h) : PySem.W.Frag := K

theorem walk_of {l : PySem.W.OpenLaw} {n k : Nat} {q : Program} {loose : List Str} {XP : (Str → Option Value) → Heap → Prop} {YP : World → Heap → Prop} {d : DefRec} {K : Params → PySem.W.Frag} {CX : World → CXT} {sp : World → Sp} {x : Str}
    (hn : l.most = some n) (hn2 : n ≤ sizeLine) (hdf : d.params.defaults = []) (hr : Room k callerA)
    (hY : ∀ (w : World) (h : Heap), YP w h → (K w.params).In h)
    (F : ∀ (w : World) (mg : Str → Option Value) (fa : Addr) (h : Heap), (K w.params).In h → h.Ns mainGlobals mg → mg d.name = some (.ref fa) →
      ∃ fd : FuncData, (∀ (s : Shared) (u : Value), BindsTo s fd ⟨[u], []⟩ [(x, u)]) ∧
        ∀ base : Heap, (K w.params).In base → base.Ns mainGlobals mg → FnOk l.prog w (K w.params) mg base (CX w) k fa fd [x] (sp w))
    (hsp : ∀ (w : World) (H : Hp) (a : Addr) (ns : List Int), ns.length ≤ n → Only H → SqL (K w.params) H a (ns.map V.int) → sp w [.ref a] H (fun v _ => v = .bl true) fun _ _ _ => False)
    (hCX : ∀ (w : World) (H : Hp) (s : Shared) (e : Value) (s' : Shared), CX w [] H s (fun _ _ _ => False) e s' → False) :
    PySem.W.WalkO q loose XP YP l.row.toRowW d [] (fun f vs => PySem.call f vs) := by
  refine Att.attach_call hn hdf fun w s₀ s₁ mg mb fa o pm cd doc a vs ns G Y ho hd hcd hmg hobj hints hlen hg => ?_
  have KX := hY w _ Y
  obtain ⟨fd, hb, hF⟩ := F w mg fa _ KX G.T.g hmg
  exact law_call KX G.T.g G.T.b G.T.builtins G.T.nolimit hg hobj hints (Nat.le_trans hlen hn2) hr hF hb (fun H hO hS => hsp w H a ns hlen hO hS) fun H e s' => hCX w H s₁ e s'
end L2

namespace L2
open PySem PySem.Spec PyProof.Rows


def defArgs (s : Stmt) : Arguments := match s with
  | .FunctionDef _ a _ _ _ _ _ _ _ _ => a
  | _ => { posonlyargs := [], args := [], vararg := none, kwonlyargs := [], kw_defaults := [], kwarg := none, defaults := [] }
def defBody (s : Stmt) : List Stmt := match s with
  | .FunctionDef _ _ b _ _ _ _ _ _ _ => b
  | _ => []
def defScope (s : Stmt) : Scope := match s with
  | .FunctionDef _ _ _ _ _ _ sc _ _ _ => sc
  | _ => { kind := .function, names := [], isGenerator := false, isCoroutine := false }


abbrev CX0 : CXT := fun _ _ _ _ _ _ => False
abbrev E0 : XK := fun _ _ _ => False
theorem pass0 {X : Cx} : Passes CX0 X E0 := fun _ _ _ _ _ _ _ h => h.elim


structure Fun (K : PySem.W.Frag) (x qual : Str) (st : Stmt) (f : Addr) (fd : FuncData) : Prop where
  ex : ∃ (oc : Value) (od : Option Addr) (kV doc pm : Value) (an : Option Addr) (cdv ct : Value) (osl : Array (Option Value)),
    fd = PySem.W.fnOf x qual (defArgs st) (defBody st) (defScope st) .none kV doc pm an cdv ct ∧ K.lookup f = some ⟨oc, od, .func fd, osl⟩ ∧ PySem.W.codeIn K cdv qual = true
  kp : PySem.W.keepIn K (.ref f) = true
section
variable {P : Program} {w : World} {K : PySem.W.Frag} {mg : Str → Option Value} {base : Heap}
theorem Fun.ok {x qual : Str} {st : Stmt} {f : Addr} {fd : FuncData} {N ps : List Str} {k : Nat} {sp : Sp} (F : Fun K x qual st f fd) (S : FnScope N ps (defScope st)) (len : ∀ vs H Q E, sp vs H Q E → vs.length = ps.length)
    (hbody : ∀ (cdv : Value) (A : Around) (outer : List Env) (s : Shared) (H : Hp) (vs : List V) (Q : VK) (E : XK), Room k (A.deeper (envOfC qual (defScope st) s.heap.objs.size f cdv)) → sp vs H Q E →
      ∃ t, PSs (cxOf CX0 P w K mg base N qual (defScope st) f cdv A outer s H E).nox (defBody st) t ∧ t { nx := fun _ H' => Q .non H', rt := Q } (start N vs) H) : FnOk P w K mg base CX0 (k + 1) f fd ps sp := by
  obtain ⟨oc, od, kV, doc, pm, an, cdv, ct, osl, rfl, lk, hcd⟩ := F.ex
  refine fn_of lk hcd S len fun A outer s H vs Q E hr hsp => ?_
  obtain ⟨t, h, q⟩ := hbody cdv A outer s H vs Q E hr hsp
  exact ⟨t, h.nox, q⟩
theorem Fun.binds {x qual : Str} {st : Stmt} {f : Addr} {fd : FuncData} {ps : List Str} (F : Fun K x qual st f fd)
    (h : ∀ (kV doc pm : Value) (an : Option Addr) (cdv ct : Value) (us : List Value), us.length = ps.length → bindArgs (PySem.W.fnOf x qual (defArgs st) (defBody st) (defScope st) .none kV doc pm an cdv ct) ⟨us, []⟩ = pure (ps.zip us)) : Binds K fd ps [] := by
  obtain ⟨oc, od, kV, doc, pm, an, cdv, ct, osl, rfl, lk, hcd⟩ := F.ex
  exact .all (h kV doc pm an cdv ct)
theorem fun_mk {x qual : Str} {st : Stmt} {f : Addr} {oc : Value} {od an : Option Addr} {osl : Array (Option Value)} {kV doc pm cdv ct : Value} (l : K.lookup f = some ⟨oc, od, .func (PySem.W.fnOf x qual (defArgs st) (defBody st) (defScope st) .none kV doc pm an cdv ct), osl⟩)
    (c : PySem.W.codeIn K cdv qual = true) (k : PySem.W.keepIn K (.ref f) = true) : Fun K x qual st f (PySem.W.fnOf x qual (defArgs st) (defBody st) (defScope st) .none kV doc pm an cdv ct) := ⟨⟨oc, od, kV, doc, pm, an, cdv, ct, osl, rfl, l, c⟩, k⟩
end
theorem small1000 {n : Nat} (h : n ≤ 1000) : n < sizeLine := Nat.lt_of_le_of_lt h (by decide)


section
variable {X : Cx}
end


theorem iteF {A B : Prop} (h : B) : if false = true then A else B := by
  rw [if_neg Bool.false_ne_true]
  exact h
theorem iteT {A B : Prop} (h : A) : if true = true then A else B := by
  rw [if_pos rfl]
  exact h
theorem ite2 {c A B : Prop} [Decidable c] (h1 : c → A) (h2 : ¬ c → B) : if c then A else B := by
  by_cases h : c
  · rw [if_pos h]
    exact h1 h
  · rw [if_neg h]
    exact h2 h

def Same (H H' : Hp) : Prop := ∀ b o, H b = some o → H' b = some o
theorem Same.refl (H : Hp) : Same H H := fun _ _ h => h
theorem Same.trans {H H1 H2 : Hp} (a : Same H H1) (b : Same H1 H2) : Same H H2 := fun c o h => b c o (a c o h)
end L2

set_option maxRecDepth 100000
namespace L2
open PySem PySem.Spec PyProof.Rows


def clGo : List (Str × NameKind) → List (Str × Addr) → List (Str × Addr) → List (Str × Addr)
  | [], _, cs => cs
  | (n, k) :: r, cells, cs => clGo r cells (if k == .free then (match cells.lookup n with | some c => (n, c) :: cs | none => cs) else cs)
def clOf (scope : Scope) (env : Env) : List (Str × Addr) := clGo scope.names env.cells []

theorem closure_go {env : Env} : ∀ (names : List (Str × NameKind)) (cs : List (Str × Addr)), (∀ y ∈ names, y.2 = .free → ∃ c, env.cells.lookup y.1 = some c) →
    (forIn names cs (fun (x : Str × NameKind) (r : List (Str × Addr)) => (match x with | (name, kind) => if kind == .free then do let c ← cellOf env name; pure (ForInStep.yield ((name, c) :: r)) else pure (ForInStep.yield r) : Sem (ForInStep (List (Str × Addr)))))) = (pure (clGo names env.cells cs) : Sem (List (Str × Addr)))
  | [], cs, _ => rfl
  | (n, k) :: r, cs, h => by
    rw [List.forIn_cons]
    cases e : (k == NameKind.free) with
    | true =>
      obtain ⟨c, hc⟩ := h (n, k) List.mem_cons_self (by simpa using e)
      have hco : cellOf env n = pure c := by unfold cellOf; rw [show env.cells.lookup n = some c from hc]
      have ih := closure_go r ((n, c) :: cs) fun y hy => h y (List.mem_cons_of_mem _ hy)
      show (if k == NameKind.free then (do let c ← cellOf env n; pure (ForInStep.yield ((n, c) :: cs))) else pure (ForInStep.yield cs)) >>= _ = _
      rw [if_pos e, hco]
      unfold clGo
      rw [if_pos e]
      have hc' : List.lookup n env.cells = some c := hc
      rw [hc']
      exact ih
    | false =>
      have ih := closure_go r cs fun y hy => h y (List.mem_cons_of_mem _ hy)
      show (if k == NameKind.free then (do let c ← cellOf env n; pure (ForInStep.yield ((n, c) :: cs))) else pure (ForInStep.yield cs)) >>= _ = _
      rw [if_neg (by rw [e]; exact Bool.false_ne_true)]
      unfold clGo
      rw [if_neg (by rw [e]; exact Bool.false_ne_true)]
      exact ih
theorem closure_of {scope : Scope} {env : Env} (h : ∀ y ∈ scope.names, y.2 = .free → ∃ c, env.cells.lookup y.1 = some c) : closureFor scope env = pure (clOf scope env) := by
  have e := closure_go scope.names [] h
  unfold closureFor clOf
  show (forIn scope.names ([] : List (Str × Addr)) (fun (x : Str × NameKind) (r : List (Str × Addr)) => (match x with | (name, kind) => if kind == .free then do let c ← cellOf env name; pure (ForInStep.yield ((name, c) :: r)) else pure (ForInStep.yield r) : Sem (ForInStep (List (Str × Addr))))) >>= fun r => pure r) = _
  rw [e]
  rfl

theorem clGo_of {cells : List (Str × Addr)} : ∀ (names : List (Str × NameKind)) (cs : List (Str × Addr)) (x : Str) (c : Addr), (clGo names cells cs).lookup x = some c → cells.lookup x = some c ∨ cs.lookup x = some c
  | [], cs, x, c, h => .inr h
  | (n, k) :: r, cs, x, c, h => by
    unfold clGo at h
    rcases clGo_of r _ x c h with q | q
    · exact .inl q
    · split at q
      · cases e : cells.lookup n with
        | none => rw [e] at q; exact .inr q
        | some d =>
          rw [e] at q
          dsimp only at q
          rw [List.lookup_cons] at q
          cases ex : (x == n) with
          | true =>
            rw [ex] at q
            have : x = n := by simpa using ex
            subst this
            exact .inl (e.trans q)
          | false => rw [ex] at q; exact .inr q
      · exact .inr q
theorem clOf_of {scope : Scope} {env : Env} {x : Str} {c : Addr} (h : (clOf scope env).lookup x = some c) : env.cells.lookup x = some c := by
  rcases clGo_of _ _ _ _ h with q | q
  · exact q
  · cases q
theorem clGo_has {cells : List (Str × Addr)} : ∀ (names : List (Str × NameKind)) (cs : List (Str × Addr)) (x : Str) (c : Addr), cells.lookup x = some c → ((x, NameKind.free) ∈ names ∨ cs.lookup x = some c) → (clGo names cells cs).lookup x = some c
  | [], cs, x, c, _, h => by
    rcases h with h | h
    · cases h
    · exact h
  | (n, k) :: r, cs, x, c, hc, h => by
    unfold clGo
    refine clGo_has r _ x c hc ?_
    by_cases hx : (x, NameKind.free) ∈ r
    · exact .inl hx
    · refine .inr ?_
      rcases h with h | h
      · have e : (x, NameKind.free) = (n, k) := (List.mem_cons.mp h).resolve_right hx
        cases e
        rw [if_pos (by rfl), hc]
        dsimp only
        rw [List.lookup_cons]
        simp
      · split
        · cases e : cells.lookup n with
          | none => exact h
          | some d =>
            dsimp only
            rw [List.lookup_cons]
            cases ex : (x == n) with
            | true =>
              have : x = n := by simpa using ex
              subst this
              rw [hc] at e; cases e; rfl
            | false => exact h
        · exact h
theorem clOf_has {scope : Scope} {env : Env} {x : Str} {c : Addr} (hc : env.cells.lookup x = some c) (h : (x, NameKind.free) ∈ scope.names) : (clOf scope env).lookup x = some c :=
  clGo_has _ _ _ _ hc (.inl h)
theorem relabel_of {env : Env} : ∀ {names : List (Str × NameKind)} {x : Str} {k : NameKind},
    (names.map fun (n, k) => if (k == NameKind.free && env.scope.kind == .function && env.kindOf n == some .cell) then (n, NameKind.cell) else (n, k)).lookup x = some k →
    names.lookup x = some k ∨ (names.lookup x = some .free ∧ k = .cell)
  | [], _, _, h => by simp at h
  | (n, j) :: r, x, k, h => by
    have ih := @relabel_of env r x k
    rw [List.map_cons] at h
    dsimp only at h
    cases hx : x == n with
    | true =>
      rw [List.lookup_cons, hx]
      by_cases hc : (j == NameKind.free && env.scope.kind == .function && env.kindOf n == some .cell) = true
      · rw [if_pos hc, List.lookup_cons, hx] at h
        cases h
        have hj : j = .free := by
          rw [Bool.and_eq_true, Bool.and_eq_true] at hc
          simpa using hc.1.1
        exact .inr ⟨by rw [hj], rfl⟩
      · rw [if_neg hc, List.lookup_cons, hx] at h
        exact .inl h
    | false =>
      rw [List.lookup_cons, hx]
      apply ih
      by_cases hc : (j == NameKind.free && env.scope.kind == .function && env.kindOf n == some .cell) = true
      · rw [if_pos hc, List.lookup_cons, hx] at h
        exact h
      · rw [if_neg hc, List.lookup_cons, hx] at h
        exact h
theorem kind_block {scope : Scope} {cl : List (Str × Addr)} {C : Addr} {env : Env} {x : Str} {k : NameKind} (h : (compEnvC scope cl C env).kindOf x = some k) : scope.names.lookup x = some k ∨ (scope.names.lookup x = some .free ∧ k = .cell) :=
  relabel_of h

structure CompSc (X : Cx) (Nc : List Str) (js : List (Option Nat)) (scope : Scope) : Prop where
  kind : scope.kind = .function
  nocell : ∀ y ∈ scope.names, y.2 ≠ .cell
  names : ∀ y ∈ scope.names, y.2 = .local → scope.names.lookup y.1 = some .local
  free : ∀ y ∈ scope.names, y.2 = .free → X.env.kindOf y.1 = some .cell ∨ X.env.kindOf y.1 = some .free
  out : ∀ (i : Nat) (x : Str) (j : Nat), Nc[i]? = some x → js[i]? = some (some j) → X.N[j]? = some x ∧ scope.names.lookup x = some .free
  len : js.length = Nc.length

def inSt (js : List (Option Nat)) (σ : St) : St := js.map fun j => match j with | some j => (match σ[j]? with | some v => v | none => none) | none => none

def cxComp (X : Cx) (Nc : List Str) (scope : Scope) (pins : List (Addr × Obj)) (fp : List Addr) (H : Hp) (s : Shared) (C : Addr) : Cx where
  prog := X.prog
  w := X.w
  K := X.K
  mg := X.mg
  base := X.base
  A := X.A
  N := Nc
  s₀ := s
  H₀ := H
  env := compEnvC scope (clOf scope X.env) C X.env
  outer := X.stack
  stack := X.stack
  ex := fp
  fn := fun _ => false
  calm := true
  pn := X.pn ++ pins
  xe := fun _ _ => False

section
variable {X : Cx} {pins : List (Addr × Obj)} {σ : St} {H : Hp} {s : Shared} {Nc : List Str} {js : List (Option Nat)} {scope : Scope} {fp : List Addr}

theorem mem_names_of {names : List (Str × NameKind)} {x : Str} {k : NameKind} (h : names.lookup x = some k) : (x, k) ∈ names := PySem.mem_of_lookup h

theorem inv_comp (I : Inv X pins σ H s) (hc : X.calm = true) (S : CompSc X Nc js scope) (hf : ∀ b ∈ fp, FpOk X pins H b) (hfo : ∀ b ∈ fp, b < s.heap.objs.size) {h1 : Heap} {tk : Nat} {C : Addr} (hC : s.heap.objs.size < C)
    (hk : ∀ b o, s.heap.get? b = some o → h1.get? b = some o) (hn : h1.Ns C (fun _ => none)) (hd : h1.get? s.heap.objs.size = some { cls := .type "list", data := .seq ([] : List Value).toArray 0 }) :
    Inv (cxComp X Nc scope pins fp H s C) [] (inSt js σ) (upd H s.heap.objs.size (.lst [])) { s with heap := h1, toks := tk } := by
  have fr0 : H s.heap.objs.size = none := I.hok.fresh (Nat.le_refl _)
  have frC : H C = none := I.hok.fresh (Nat.le_of_lt hC)
  have ltc : ∀ x c, X.env.cells.lookup x = some c → c < s.heap.objs.size := fun x c e => by
    obtain ⟨v, q⟩ := I.cell x c e
    exact q.lt
  have cells : ∀ x c, (cxComp X Nc scope pins fp H s C).env.cells.lookup x = some c → X.env.cells.lookup x = some c := fun x c e => clOf_of e
  have hasO : ∀ x, X.env.kindOf x = some .cell ∨ X.env.kindOf x = some .free → ∃ c, X.env.cells.lookup x = some c := I.ok.has
  refine ⟨⟨I.ok.mod, S.kind, I.ok.glob, I.ok.blt, Nat.le_of_lt hC, fun x y c e1 e2 => I.ok.inj x y c (cells x c e1) (cells y c e2), fun x hx => ?_, fun x c z => (nomatch z), fun _ => I.ok.hd hc, I.ok.frames, .inl rfl, fun b hb => ?_,
    I.bs, Nat.le_trans I.ok.bsz I.sz, fun b o e hb => ?_, fun b hb z => ?_, I.stack, I.stkFree⟩, rfl, I.bare, ?_, ⟨_, hn, fun i x v e1 e2 e3 => ?_⟩, fun x c e => ?_, ?_, fun x c e => ?_, fun p hp => ?_, ?_, ?_⟩
  · -- has
    have hfree : scope.names.lookup x = some .free := by
      rcases hx with hx | hx
      · rcases kind_block hx with q | q
        · exact absurd rfl (S.nocell _ (mem_names_of q))
        · exact q.1
      · rcases kind_block hx with q | q
        · exact q
        · exact q.1
    obtain ⟨c, hcx⟩ := hasO x (S.free _ (mem_names_of hfree) rfl)
    exact ⟨c, clOf_has hcx (mem_names_of hfree)⟩
  · -- exf
    obtain ⟨f0, f1, f2, f3, f4, f5⟩ := hf b hb
    exact ⟨Nat.ne_of_lt (Nat.lt_trans (hfo b hb) hC), fun x c e => f4 x c (cells x c e)⟩
  · -- noex
    obtain ⟨f0, f1, f2, f3, f4, f5⟩ := hf b hb
    rcases f3 with z | z
    · exact I.ok.noex b o e z
    · exact absurd (Nat.lt_of_lt_of_le (Heap.lt_size e) (Nat.le_trans I.ok.bsz z)) (Nat.lt_irrefl _)
  · -- exfs
    obtain ⟨f0, f1, f2, f3, f4, f5⟩ := hf b hb
    rcases List.mem_cons.mp (I.stkSub b z) with e | e
    · exact f1 e
    · exact f2 e
  · -- base
    exact Un.laid hk (Nat.le_refl _) fr0
  · -- loc
    have e2' : (inSt js σ)[i]? = some (some v) := e2
    unfold inSt at e2'
    rw [List.getElem?_map] at e2'
    cases ej : js[i]? with
    | none => rw [ej] at e2'; cases e2'
    | some oj =>
      rw [ej] at e2'
      cases oj with
      | none => cases e2'
      | some j =>
        obtain ⟨hNj, hfr⟩ := S.out i x j e1 ej
        have hσ : σ[j]? = some (some v) := by
          cases q : σ[j]? with
          | none => simp [q] at e2'
          | some w =>
            simp only [q, Option.map_some, Option.some.injEq] at e2'
            rw [e2']
        have hkO := S.free _ (mem_names_of hfr) rfl
        have hVis : Vis X.env.scope x := by
          rcases hkO with q | q
          · exact .inr (.inl q)
          · exact .inr (.inr q)
        obtain ⟨m, _, hl⟩ := I.loc
        obtain ⟨u, r, l⟩ := hl j x v hNj hσ hVis
        refine ⟨u, r, ?_⟩
        rcases l with ⟨hk', _⟩ | ⟨_, c, hcx, hcell⟩
        · rcases hkO with q | q
          · rw [show X.env.kindOf x = some .cell from q] at hk'; cases hk'
          · rw [show X.env.kindOf x = some .free from q] at hk'; cases hk'
        · refine .inr ⟨?_, c, clOf_has hcx (mem_names_of hfr), ?_⟩
          · rcases e3 with q | q
            · rcases kind_block (C := C) (cl := clOf scope X.env) (env := X.env) (show (compEnvC scope (clOf scope X.env) C X.env).kindOf x = some .local from q) with z | z
              · rw [hfr] at z; cases z
              · cases z.2
            · exact q
          · obtain ⟨o, ho, hdd⟩ := hcell
            exact ⟨o, hk _ _ ho, hdd⟩
  · -- cell
    obtain ⟨v, o, ho, hdd⟩ := I.cell x c (cells x c e)
    exact ⟨v, o, hk _ _ ho, hdd⟩
  · -- free
    show upd H s.heap.objs.size (.lst []) C = none
    rw [upd_ne (Nat.ne_of_gt hC)]
    exact frC
  · -- freeC
    have e' := cells x c e
    rw [upd_ne (Nat.ne_of_lt (ltc x c e'))]
    exact I.freeC x c e'
  · -- pin
    have hp' : p ∈ X.pn ++ pins := by
      have q : p ∈ (X.pn ++ pins) ++ [] := hp
      simpa using q
    obtain ⟨q1, q2, q3, q4, q5⟩ := I.pin p hp'
    have lt1 := Heap.lt_size q1
    refine ⟨hk _ _ q1, ?_, Nat.ne_of_lt (Nat.lt_trans lt1 hC), fun z => ?_, q5⟩
    · rw [upd_ne (Nat.ne_of_lt lt1)]; exact q2
    · rcases List.mem_cons.mp (I.stkSub _ z) with e | e
      · exact q3 e
      · exact q4 e
  · -- hok
    exact I.hok.laid hk (Nat.le_refl _) ⟨Nat.zero_le _, [], 0, .nil, hd⟩
  · show (inSt js σ).length = Nc.length
    unfold inSt
    rw [List.length_map]
    exact S.len

theorem inv_out {H' : Hp} {s' : Shared} {h' : Heap} {C : Addr} {σ' : St} {pins' : List (Addr × Obj)} (I : Inv X pins σ H s) (hf : ∀ b ∈ fp, FpOk X pins H b) (hC : s.heap.objs.size < C)
    (J : Inv (cxComp X Nc scope pins fp H s C) pins' σ' H' s') (hs : Heap.SameBut C s'.heap h') : Inv X pins σ H' { s' with heap := h' } := by
  have hCn : H' C = none := J.free
  have ne : ∀ b o, s.heap.get? b = some o → b ≠ C := fun b o e => Nat.ne_of_lt (Nat.lt_trans (Heap.lt_size e) hC)
  have U : Un (frs X.stack) fp H H' s.heap s'.heap := J.base
  have hok : HOk X.prog X.w H' h' := fun b ob e => by
    refine (J.hok b ob e).stay (fun c w' hc q => (hs.2 c ?_).trans q) (fun _ q => q) fun _ _ q => q
    rintro rfl
    rcases hc with rfl | hc
    · rw [hCn] at e; cases e
    · rw [hCn] at hc; cases hc
  refine I.call' (s' := { s' with heap := h' }) (ch := fp) J.os ⟨fun b o e n hb hx => ?_, fun b o e n hb hx => ?_, U.free, fun b o e hx => ?_, U.tups, U.frzs, U.tbls⟩ hok J.bare fun b hb => ?_
  · exact (hs.2 b (ne b o e)).trans (U.keep b o e n hb hx)
  · obtain ⟨sl, q⟩ := U.slot b o e n hb hx
    exact ⟨sl, (hs.2 b (ne b o e)).trans q⟩
  · obtain ⟨o', q⟩ := U.there b o e hx
    exact ⟨o', (hs.2 b (ne b o e)).trans q⟩
  · obtain ⟨f0, f1, f2, f3, f4, f5⟩ := hf b hb
    exact ⟨f3, f1, f4, f5⟩
end


section
variable {prog : Program} {w : World} {A : Around} {R : Result → Shared → Prop} {s : Shared}
abbrev testsOf (ifs : List Expr) (env : Env) : Sem Bool := forIn ifs true fun c r => if r = true then do let ok ← isTrue c env (eval c env); pure (ForInStep.yield ok) else pure (ForInStep.yield r)
theorem comp_turns {elt target iter : Expr} {ifs : List Expr} {scope : Scope} {pos : Pos} {it acc : Value} {env : Env} (J : Nat → Shared → Prop)
    (turn : ∀ n s, J n s → wpAny (model prog w) A (pyNext it) (fun r s1 => match r with
      | none => R (.ok .next) s1
      | some v => wpAny (model prog w) A (letOwnedTupleGo target it v) (fun _ s1' => wpAny (model prog w) A (assign target env v) (fun _ s2 =>
          wpAny (model prog w) A (testsOf ifs env) (fun ok s3 =>
            if ok = true then wpAny (model prog w) A (eval elt env) (fun x s4 =>
              wpAny (model prog w) A (call (.builtin "list.append") [acc, x]) (fun _ s5 => ∃ m, m < n ∧ J m s5) (fun _ _ => False) s4) (fun _ _ => False) s3
            else ∃ m, m < n ∧ J m s3) (fun _ _ => False) s2) (fun _ _ => False) s1') (fun _ _ => False) s1) (fun _ _ => False) s)
    (n : Nat) (h : J n s) :
    codeAny (model prog w) A (.compLoop (.ListComp elt [⟨target, iter, ifs, 0⟩] scope pos) 0 it acc env) R s := by
  have no : ∀ {E : Value → Shared → Prop} (x : Value) (s' : Shared), False → E x s' := fun _ _ f => f.elim
  refine codeAny_loop rfl J (fun n s hJ => ?_) n h
  show wpAny _ A ((compTurn (.ListComp elt [⟨target, iter, ifs, 0⟩] scope pos) 0 it acc env).onRaise (fun x => do noteFrame x env; theTreesLotGoes x)) _ _ s
  refine wpAny_noted ?_
  rw [compTurn_list]
  refine wpAny_bind (wpAny_standAt (wpAny_bind (wpAny_mono (turn n s hJ) (fun r s1 h1 => ?_) no)))
  cases r with
  | none => exact wpAny_pure h1
  | some v =>
    refine wpAny_bind (wpAny_mono h1 (fun _ s1' h1' => ?_) no)
    refine wpAny_bind (wpAny_mono h1' (fun _ s2 h2 => wpAny_bind (wpAny_mono h2 (fun ok s3 h3 => ?_) no)) no)
    cases ok with
    | false => exact wpAny_pure ⟨rfl, h3⟩
    | true =>
      exact wpAny_bind (wpAny_bind (wpAny_mono h3 (fun x s4 h4 => wpAny_bind (wpAny_mono h4 (fun _ s5 h5 => wpAny_pure (wpAny_pure ⟨rfl, h5⟩)) no)) no))
end

def PIfs (X : Cx) (ifs : List Expr) (t : TT) : Prop :=
  ∀ (pins : List (Addr × Obj)) (s : Shared) (σ : St) (H : Hp) (Q : Bool → Hp → Prop), Inv X pins σ H s → t σ H Q → wpAny (model X.prog X.w) X.A (testsOf ifs X.env) (TP X pins σ Q) X.xe s
def tYes : TT := fun _ H Q => Q true H
theorem pif0 {X : Cx} : PIfs X [] tYes := fun _ _ σ H _ I h => wpAny_tests_nil ⟨H, I, h⟩
def tComp (js : List (Option Nat)) (wi : TI) (g : TG) (tc : TT) (te : TE) : TE := fun σ H Q => wi σ H fun J H1 => ∀ D, H1 D = none →
  ∃ W : Nat → Nat → St → Hp → Prop, (∃ m, W 0 m (inSt js σ) (upd H1 D (.lst []))) ∧ ∀ i m σ' H', W i m σ' H' →
    (J.stop i H' ∧ Q (.ref D) H') ∨ (J.go i H' ∧ ∃ N : St → Hp → Prop, (∀ σ2 H2, N σ2 H2 → ∃ m', m' < m ∧ W (i + 1) m' σ2 H2) ∧
      ∀ x H2, J.yld i H' x H2 → g x σ' H2 fun σ3 H3 => tc σ3 H3 fun b H4 => if b = true then te σ3 H4 (fun v H5 => ∃ xs, H5 D = some (.lst xs) ∧ xs.length < sizeLine ∧ N σ3 (upd H5 D (.lst (xs ++ [v])))) else N σ3 H4)

section
variable {X : Cx} {tg elt iter : Expr} {ifs : List Expr} {scope : Scope} {pos : Pos} {Nc : List Str} {js : List (Option Nat)} {wi : TI} {g : TG} {tc : TT} {te : TE}
theorem comp_block {pins : List (Addr × Obj)} {σ : St} {H2 : Hp} {s2 : Shared} {it : Addr} {fp : List Addr} {tn : Nat → Heap → Prop} {J : It} {Qd : Hp → Prop} {RR : Value → Addr → Result → Shared → Prop}
    (hc : X.calm = true) (S : CompSc X Nc js scope)
    (hb : ∀ pins fp H s C, PG (cxComp X Nc scope pins fp H s C) tg g ∧ PIfs (cxComp X Nc scope pins fp H s C) ifs tc ∧ PE (cxComp X Nc scope pins fp H s C) elt te)
    (I2 : Inv X pins σ H2 s2) (T : Turn X.prog X.w X.K tg J fp it tn) (st2 : tn 0 s2.heap) (f2 : ∀ b ∈ fp, FpOk X pins H2 b)
    (h2 : ∃ W : Nat → Nat → St → Hp → Prop, (∃ m, W 0 m (inSt js σ) (upd H2 s2.heap.objs.size (.lst []))) ∧ ∀ i m σ' H', W i m σ' H' →
      (J.stop i H' ∧ Qd H') ∨ (J.go i H' ∧ ∃ N : St → Hp → Prop, (∀ σ2 H2, N σ2 H2 → ∃ m', m' < m ∧ W (i + 1) m' σ2 H2) ∧
        ∀ x H2, J.yld i H' x H2 → g x σ' H2 fun σ3 H3 => tc σ3 H3 fun b H4 => if b = true then te σ3 H4 (fun v H5 => ∃ xs, H5 s2.heap.objs.size = some (.lst xs) ∧ xs.length < sizeLine ∧ N σ3 (upd H5 s2.heap.objs.size (.lst (xs ++ [v])))) else N σ3 H4))
    (hRR : ∀ C σ' H' s', s2.heap.objs.size < C → Inv (cxComp X Nc scope pins fp H2 s2 C) [] σ' H' s' → Qd H' → RR (.ref s2.heap.objs.size) C (.ok .next) s') :
    wpAny (model X.prog X.w) X.A (newList []) (fun acc s3 => wpAny (model X.prog X.w) X.A (newFunctionEnv scope X.env.globals (clOf scope X.env) [] X.env.qual none .none (some X.env)) (fun cenv s4 =>
      codeAny (model X.prog X.w) X.A (.compStart (.ListComp elt [⟨tg, iter, ifs, 0⟩] scope pos) 0 (.ref it) acc { cenv with scope := relabel scope X.env }) (RR acc cenv.locals) s4) X.xe s3) X.xe s2 := by
  have fpo : ∀ b ∈ fp, b < s2.heap.objs.size := fun b hb => by
    obtain ⟨o, ho, _⟩ := T.obj 0 _ st2 b hb
    exact Heap.lt_size ho
  refine wpAny_newObj_type (wpAny_newFunctionEnv S.nocell (by intro y hy; simp at hy) (fun h₁ hns hsb => ?_) S.kind)
  dsimp only at hns hsb ⊢
  generalize hH2 : s2.heap.push { cls := .type "list", dict := none, data := .seq ([] : List Value).toArray } = hp at hns hsb ⊢
  have hCs : hp.objs.size = s2.heap.objs.size + 1 := by rw [← hH2, Heap.size_push]
  have hC : s2.heap.objs.size < hp.objs.size := by rw [hCs]; exact Nat.lt_succ_self _
  have old : ∀ b o, s2.heap.get? b = some o → h₁.get? b = some o := fun b o e =>
    hsb.extBut b o (Nat.ne_of_lt (Nat.lt_trans (Heap.lt_size e) hC)) (Heap.get?_push_of_some _ (hH2 ▸ Heap.get?_push_of_some _ e))
  have hD : h₁.get? s2.heap.objs.size = some { cls := .type "list", data := .seq ([] : List Value).toArray 0 } :=
    hsb.extBut _ _ (Nat.ne_of_lt hC) (Heap.get?_push_of_some _ (hH2 ▸ Heap.get?_push_size _ rfl))
  obtain ⟨W, ⟨m0, w0⟩, turn⟩ := h2
  generalize hXc : cxComp X Nc scope pins fp H2 s2 hp.objs.size = Xc
  obtain ⟨hg, hifs, helt⟩ := hb pins fp H2 s2 hp.objs.size
  have e1 : Xc.prog = X.prog := by rw [← hXc]; rfl
  have I3 : ∀ tk, Inv Xc [] (inSt js σ) (upd H2 s2.heap.objs.size (.lst [])) { s2 with heap := h₁, toks := tk } := fun tk => by
    rw [← hXc]
    exact inv_comp I2 hc S f2 fpo hC old hns hD
  have st3 : tn 0 h₁ := T.keep 0 _ _ st2 fun b hb o e => old b o e
  have fpx : ∀ {H' : Hp}, (∀ b ∈ fp, H' b = none) → ∀ b ∈ fp, FpOk Xc [] H' b := fun {H'} hn b hb => by
    obtain ⟨f0, f1, f2', f3, f4, f5⟩ := f2 b hb
    rw [← hXc]
    refine ⟨hn b hb, Nat.ne_of_lt (Nat.lt_trans (fpo b hb) hC), fun z => ?_, .inl hb, fun x c e => f4 x c (clOf_of e), fun p hp => ?_⟩
    · rcases List.mem_cons.mp (I2.stkSub b z) with e | e
      · exact f1 e
      · exact f2' e
    · have hp' : p ∈ (X.pn ++ pins) ++ [] := hp
      exact f5 p (by simpa using hp')
  rw [hXc] at hg hifs helt
  have ea : Xc.A = X.A := by rw [← hXc]; rfl
  have ew : Xc.w = X.w := by rw [← hXc]; rfl
  have eK : Xc.K = X.K := by rw [← hXc]; rfl
  have ec : Xc.calm = true := by rw [← hXc]; rfl
  have ex : Xc.xe = fun _ _ => False := by rw [← hXc]; rfl
  have ee : Xc.env = compEnvC scope (clOf scope X.env) hp.objs.size X.env := by rw [← hXc]; rfl
  have loop : ∀ s3 : Shared, Inv Xc [] (inSt js σ) (upd H2 s2.heap.objs.size (.lst [])) s3 → tn 0 s3.heap →
      codeAny (model X.prog X.w) X.A (.compLoop (.ListComp elt [⟨tg, iter, ifs, 0⟩] scope pos) 0 (.ref it) (.ref s2.heap.objs.size) (compEnvC scope (clOf scope X.env) hp.objs.size X.env))
        (RR (.ref s2.heap.objs.size) hp.objs.size) s3 := by
    intro s3 J3 tn3
    refine comp_turns (fun n s' => ∃ i σ' H', Inv Xc [] σ' H' s' ∧ tn i s'.heap ∧ (∀ b ∈ fp, H' b = none) ∧ W i n σ' H') ?_ m0 ⟨0, _, _, J3, tn3, fun b hb => ?_, w0⟩
    · rintro n s4 ⟨i, σ4, H4, I4, st4, fr4, w4⟩
      rcases turn i n σ4 H4 w4 with ⟨stop, qn⟩ | ⟨go, N, hN, step⟩
      · have q0 := T.done Xc e1 ew eK ec i [] s4 σ4 H4 (fun _ _ => False) I4 (fpx fr4) st4 stop
        rw [ea] at q0
        refine thn q0 fun r s5 ⟨hr, I5⟩ => ?_
        subst hr
        have I5' : Inv (cxComp X Nc scope pins fp H2 s2 hp.objs.size) [] σ4 H4 s5 := by rw [hXc]; exact I5
        exact hRR _ _ _ _ hC I5' qn
      · have q0 := T.item Xc e1 ew eK ec i [] s4 σ4 H4 (fun _ _ => False) I4 (fpx fr4) st4 go
        rw [ea] at q0
        refine thn q0 fun r s5 ⟨u, hr, h5⟩ => ?_
        subst hr
        dsimp only
        refine thn h5 fun _ s6 ⟨x, H6, I6, r6, y6, st6, fr6⟩ => ?_
        have I6' := I6.pinned (fpx fr6) (T.obj _ _ st6)
        have q1 := hg _ s6 σ4 H6 x u _ I6' r6 (step x H6 y6)
        rw [e1, ew, ea, ex, ee] at q1
        refine thn q1 fun _ s7 ⟨σ7, H7, I7, q7⟩ => ?_
        have q2 := hifs _ s7 σ7 H7 _ I7 q7
        rw [e1, ew, ea, ex, ee] at q2
        refine thn q2 fun ok s8 ⟨H8, I8, q8⟩ => ?_
        have fin : ∀ {s9 : Shared} {σ9 : St} {H9 : Hp}, Inv Xc ([] ++ pinsAt fp s6.heap) σ9 H9 s9 → N σ9 H9 → ∃ m, m < n ∧ ∃ i σ' H', Inv Xc [] σ' H' s9 ∧ tn i s9.heap ∧ (∀ b ∈ fp, H' b = none) ∧ W i m σ' H' := fun {s9 σ9 H9} I9 n9 => by
          obtain ⟨m', hm, w9⟩ := hN σ9 H9 n9
          refine ⟨m', hm, i + 1, σ9, H9, I9.unpinned, T.keep _ _ _ st6 fun b hb o e => (I9.pin (b, o) (List.mem_append_right _ (List.mem_append_right _ (mem_pinsAt hb e)))).1, fun b hb => ?_, w9⟩
          obtain ⟨o, e, d⟩ := T.obj _ _ st6 b hb
          exact (I9.pin (b, o) (List.mem_append_right _ (List.mem_append_right _ (mem_pinsAt hb e)))).2.1
        cases ok with
        | false =>
          rw [if_neg Bool.false_ne_true] at q8 ⊢
          exact fin I8 q8
        | true =>
          rw [if_pos rfl] at q8 ⊢
          have q3 := helt _ s8 σ7 H8 _ I8 q8
          rw [e1, ew, ea, ex, ee] at q3
          refine thn q3 fun y s9 ⟨v9, H9, I9, r9, xs, hxs, hlen, q9⟩ => ?_
          have q4 := mt_append _ s9 σ7 H9 (.ref s2.heap.objs.size) [v9] (.ref s2.heap.objs.size) [y] (fun _ H10 => H10 = upd H9 s2.heap.objs.size (.lst (xs ++ [v9]))) I9 rfl (.cons r9 .nil) ⟨_, xs, v9, rfl, rfl, hxs, hlen, rfl⟩
          rw [e1, ew, ea, ex] at q4
          refine thn q4 fun _ s10 ⟨_, H10, I10, _, e10⟩ => ?_
          subst e10
          exact fin I10 q9
    · by_cases hbd : b = s2.heap.objs.size
      · exact absurd (fpo b hb) (by rw [hbd]; exact Nat.lt_irrefl _)
      · rw [upd_ne hbd]
        exact (f2 b hb).1
  exact codeAny_compStart_list (loop _ (I3 _) st3) (T.self _ 0 _ _ _ st3 (loop _ (I3 _) st3))

theorem pe_comp (hc : X.calm = true) (hi : PI X tg iter wi) (S : CompSc X Nc js scope)
    (hb : ∀ pins fp H s C, PG (cxComp X Nc scope pins fp H s C) tg g ∧ PIfs (cxComp X Nc scope pins fp H s C) ifs tc ∧ PE (cxComp X Nc scope pins fp H s C) elt te)
    (hs : ∀ x, foldedSetIterable iter X.env x = pure x := by intro _; rfl) :
    PE X (.ListComp elt [⟨tg, iter, ifs, 0⟩] scope pos) (tComp js wi g tc te) := by
  intro pins s σ H Q I h
  rw [eval_ListComp]
  have hcl : ∀ y ∈ scope.names, y.2 = .free → ∃ c, X.env.cells.lookup y.1 = some c := fun y hy e => I.ok.has y.1 (S.free y hy e)
  refine wpAny_comprehension_free (use := none) rfl hs (closure_of hcl) S.kind S.names (thn (hi pins s σ H _ I h) fun v s1 h1 => thn h1 fun itv s2 h2 => ?_)
  obtain ⟨it, fp, tn, J, H2, e, I2, T, st2, f2, h2⟩ := h2
  subst e
  have hDn : H2 s2.heap.objs.size = none := I2.hok.fresh (Nat.le_refl _)
  refine comp_block (RR := fun acc C => compPost (model X.prog X.w) X.A X.xe none (EP X pins σ Q) acc C) (Qd := fun H' => Q (.ref s2.heap.objs.size) H') hc S hb I2 T st2 f2 (h2 s2.heap.objs.size hDn) fun C σ' H' s' hC J' q => ?_
  obtain ⟨mm, hm, _⟩ := J'.loc
  exact ⟨mm, hm, fun h' hs' => ⟨.ref s2.heap.objs.size, H', inv_out I2 f2 hC J' hs', rfl, q⟩⟩

theorem ps_setC {i : Nat} {y : Str} {py spos : Pos} (hc : X.calm = true) (hN : X.N.Nodup) (hiN : X.N[i]? = some y) (hy : X.env.scope.names.lookup y = some .local) (hi : PI X tg iter wi) (S : CompSc X Nc js scope)
    (hb : ∀ pins fp H s C, PG (cxComp X Nc scope pins fp H s C) tg g ∧ PIfs (cxComp X Nc scope pins fp H s C) ifs tc ∧ PE (cxComp X Nc scope pins fp H s C) elt te)
    (hsw : swapsWith (.ListComp elt [⟨tg, iter, ifs, 0⟩] scope pos) (some (.Name y py)) spos.line X.env = pure true := by rfl)
    (hs : ∀ x, foldedSetIterable iter X.env x = pure x := by intro _; rfl) :
    PS X (.Assign [.Name y py] (.ListComp elt [⟨tg, iter, ifs, 0⟩] scope pos) spos) (tAsg (tComp js wi g tc te) (gName i)) := by
  intro pins s σ H D I h
  rw [exec_Assign_Name_used _ _ _ _ hsw]
  have hcl : ∀ y ∈ scope.names, y.2 = .free → ∃ c, X.env.cells.lookup y.1 = some c := fun y hy e => I.ok.has y.1 (S.free y hy e)
  refine wpAny_bind (wpAny_standAt (wpAny_bind ?_))
  show wpAny _ X.A (do let _ ← comprehension (.ListComp elt [⟨tg, iter, ifs, 0⟩] scope pos) scope X.env _ (newList []) false (eval iter X.env) (some (assign (.Name y py) X.env))) _ _ s
  refine wpAny_bind (wpAny_mono (wpAny_comprehension_free (use := some (assign (.Name y py) X.env)) (Q := fun _ s' => SP X pins D .next s') rfl hs (closure_of hcl) S.kind S.names
    (thn (hi pins s σ H _ I h) fun v s1 h1 => thn h1 fun itv s2 h2 => ?_)) (fun _ s' hq => wpAny_pure (wpAny_pure hq)) fun _ _ e => e)
  obtain ⟨it, fp, tn, J, H2, e, I2, T, st2, f2, h2⟩ := h2
  subst e
  have hDn : H2 s2.heap.objs.size = none := I2.hok.fresh (Nat.le_refl _)
  refine comp_block (RR := fun acc C => compPost (model X.prog X.w) X.A X.xe (some (assign (.Name y py) X.env)) (fun _ s' => SP X pins D .next s') acc C) (Qd := fun H' => D.nx (σ.set i (some (.ref s2.heap.objs.size))) H') hc S hb I2 T st2 f2 (h2 s2.heap.objs.size hDn) fun C σ' H' s' hC J' q => ?_
  have Iy : Inv X pins σ H' s' := inv_out (h' := s'.heap) I2 f2 hC J' (Heap.SameBut.refl _ _)
  obtain ⟨mm, hm, _⟩ := J'.loc
  have hm : s'.heap.Ns C mm := hm
  show wpAny _ X.A (assign (.Name y py) X.env (.ref s2.heap.objs.size)) _ _ s'
  have sz : X.s₀.heap.objs.size ≤ C := Nat.le_of_lt (Nat.lt_of_le_of_lt I2.sz hC)
  have neL : C ≠ X.env.locals := Nat.ne_of_gt (Nat.lt_trans I2.lt hC)
  have neC : ∀ x c, X.env.cells.lookup x = some c → c ≠ C := fun x c e => by
    obtain ⟨v, z⟩ := I2.cell x c e
    exact Nat.ne_of_lt (Nat.lt_trans z.lt hC)
  refine wpAny_assign_Name (store_ok2 Iy hN hiN (.inl hy) (v := .ref s2.heap.objs.size) rfl (fun s'' I'' ⟨a, hsb, ha⟩ => ?_) (.inr hy))
  have neA : C ≠ a := by
    rcases ha with z | z
    · rw [z]; exact neL
    · exact Ne.symm (neC _ _ z)
  refine ⟨mm, hm.sameBut hsb neA, fun h' hs' => ?_⟩
  have hCn : H' C = none := J'.free
  refine ⟨σ.set i (some (.ref s2.heap.objs.size)), H', ?_, q⟩
  refine I''.turned (it := C) (t' := s''.toks) (fun b o hb e => (hs'.2 b hb).trans e) hCn neL (.inr sz) neC fun p hp => ?_
  exact Nat.ne_of_lt (Nat.lt_trans (Heap.lt_size (I2.pin p hp).1) hC)
end


def compChk (N : List Str) (sc : Scope) (Nc : List Str) (js : List (Option Nat)) (scope : Scope) : Bool :=
  decide (js.length = Nc.length) && (scope.kind == .function) && scope.names.all (fun y => y.2 != .cell) && scope.names.all (fun y => y.2 != .local || scope.names.lookup y.1 == some .local) &&
  scope.names.all (fun y => y.2 != .free || sc.names.lookup y.1 == some .cell || sc.names.lookup y.1 == some .free) &&
  (List.range Nc.length).all (fun i => match js[i]?, Nc[i]? with | some (some j), some x => N[j]? == some x && scope.names.lookup x == some .free | _, _ => true)
theorem compSc_of {X : Cx} {Nc : List Str} {js : List (Option Nat)} {scope : Scope} {N : List Str} {sc : Scope} (hN : X.N = N) (hs : X.env.scope = sc) (h : compChk N sc Nc js scope = true) : CompSc X Nc js scope := by
  unfold compChk at h
  simp only [Bool.and_eq_true, decide_eq_true_eq, List.all_eq_true, Bool.or_eq_true, bne_iff_ne, ne_eq, beq_iff_eq] at h
  obtain ⟨⟨⟨⟨⟨h1, h2⟩, h3⟩, h4⟩, h5⟩, h6⟩ := h
  refine ⟨h2, fun y hy => h3 y hy, fun y hy e => ?_, fun y hy e => ?_, fun i x j e1 e2 => ?_, h1⟩
  · rcases h4 y hy with z | z
    · exact absurd e z
    · exact z
  · rcases h5 y hy with (z | z) | z
    · exact absurd e z
    · exact .inl (by show X.env.scope.names.lookup y.1 = _; rw [hs]; exact z)
    · exact .inr (by show X.env.scope.names.lookup y.1 = _; rw [hs]; exact z)
  · have hi : i < Nc.length := (List.getElem?_eq_some_iff.mp e1).1
    have q := h6 i (List.mem_range.mpr hi)
    rw [e1, e2] at q
    simp only [Bool.and_eq_true, beq_iff_eq] at q
    rw [hN]
    exact q
end L2

set_option maxRecDepth 100000
namespace L2
open PySem PySem.Spec PyProof.Rows


section
variable {K : PySem.W.Frag} {a : Addr} {xs : List V} {σ : St} {H : Hp} {lo : Int} {n : Nat}
end


def isB (T c : String) : Bool := T == c || (T == "bool" && c == "int")
theorem kit_isB (K : PySem.W.Frag) : ∀ T ∈ ["NoneType", "bool", "int", "str", "list", "tuple"], ∀ c ∈ ["bool", "int", "str", "list", "tuple"], PySem.W.kitOne K (.type T) (.type c) = some (isB T c) := by
  intro T hT c hc
  simp only [List.mem_cons, List.not_mem_nil, or_false] at hT hc
  rcases hT with rfl | rfl | rfl | rfl | rfl | rfl <;> rcases hc with rfl | rfl | rfl | rfl | rfl <;> rfl
section
variable {X : Cx}


theorem op_mulB : OpR X (binaryOp .Mult) (rI IntMulOk fun i j => .int (i * j)) := opI fun _ _ _ _ _ _ _ hc q => mul_int q hc
end

theorem bt_str : bootBuiltins "str" = some (.type "str") := by decide +kernel
theorem bt_list : bootBuiltins "list" = some (.type "list") := by decide +kernel
theorem bt_len : bootBuiltins "len" = some (.builtin "len") := by decide +kernel
theorem bt_isinstance : bootBuiltins "isinstance" = some (.builtin "isinstance") := by decide +kernel
theorem bt_abs : bootBuiltins "abs" = some (.builtin "abs") := by decide +kernel
theorem bt_min : bootBuiltins "min" = some (.builtin "min") := by decide +kernel
theorem bt_max : bootBuiltins "max" = some (.builtin "max") := by decide +kernel
section
variable {X : Cx} {pos : Pos}
theorem pty_str (hg : Gl X "str") (hm : X.mg "str" = none) : PE X (.Name "str" pos) (tC (.ty "str")) := pe_bltn (v := .ty "str") hg hm bt_str rfl
end

def plainE : Expr → Bool
  | .Starred .. => false
  | _ => true
theorem star_plain {e : Expr} {es : List Expr} {env : Env} (h : plainE e = true) : starEach (e :: es) env = (false, eval e env) :: starEach es env := by
  cases e <;> first | (cases h; done) | rfl
theorem star_any {pos : Pos} {env : Env} : ∀ {es : List Expr}, es.all plainE = true → (backTo pos (starEach es env)).any (·.1) = false
  | [], _ => rfl
  | e :: es, h => by
    rw [List.all_cons, Bool.and_eq_true] at h
    have ih := star_any (pos := pos) (env := env) (es := es) h.2
    rw [star_plain h.1]
    exact ih
section
variable {X : Cx} {e : Expr} {es : List Expr} {te : TE} {t : TA} {pos p : Pos} {x : Str} {id T : String} {r : List V → Hp → VK → Prop}
theorem pac (hs : plainE e = true) (ha : PE X e te) (hr : PA X es t) : PA X (e :: es) (tCons te t) := pa_cons ha hr (star_plain hs)
theorem pcb (hp : (e :: es).all plainE = true) (hn : x ≠ "__name__") (hdb : (x == ("__debug__" : Str)) = false) (hc : CallR X (.builtin id) r) (hg : Gl X x) (hm : X.mg x = none) (hv : bootBuiltins x = some (.builtin id)) (ha : PA X (e :: es) t) :
    PE X (.Call (.Name x p) (e :: es) [] pos) (tCB r t) := by
  rw [List.all_cons, Bool.and_eq_true] at hp
  exact pe_callB hc hg hm hv ha hn hdb (star_plain hp.1) (star_any hp.2)
theorem pct (hp : (e :: es).all plainE = true) (hn : x ≠ "__name__") (hdb : (x == ("__debug__" : Str)) = false) (hc : CallR X (.type T) r) (hg : Gl X x) (hm : X.mg x = none) (hv : bootBuiltins x = some (.type T)) (ha : PA X (e :: es) t) :
    PE X (.Call (.Name x p) (e :: es) [] pos) (tCB r t) := by
  rw [List.all_cons, Bool.and_eq_true] at hp
  exact pe_callTy hc hg hm hv ha hn hdb (star_plain hp.1) (star_any hp.2)
variable {CX : CXT} {k : Nat} {f : Addr} {fd : FuncData} {ps : List Str} {sp : Sp} {ds : List Value} {dvs : List V} {E : XK}
theorem pcl (hp : (e :: es).all plainE = true) (hdb : (x == ("__debug__" : Str)) = false) (F : FnOk X.prog X.w X.K X.mg X.base CX k f fd ps sp) (hr : Room k X.A) (hg : Gl X x) (hm : X.mg x = some (.ref f)) (hk : PySem.W.keepIn X.K (.ref f) = true) (hb : Binds X.K fd ps ds) (hd : Vals dvs ds) (hx : Passes CX X E)
    (ha : PA X (e :: es) t) : PE X (.Call (.Name x p) (e :: es) [] pos) (tCall sp dvs E t) := by
  rw [List.all_cons, Bool.and_eq_true] at hp
  exact pe_call F hr hg hm hk hb hd hx ha hdb (star_plain hp.1) (star_any hp.2)
end
section
variable {X : Cx} {e : Expr} {es : List Expr} {te : TE} {pos p pos' : Pos} {x : Str} {i : Nat}
theorem xrange1 {tg a : Expr} {ta : TA} (hp : plainE a = true) (hg : Gl X "range") (hm : X.mg "range" = none) (ha : PA X [a] ta) : PI X tg (.Call (.Name "range" p) [a] [] pos) (iRng1 ta) := pi_range1 hg hm ha (star_plain hp)
end
section
variable {X : Cx} {tg elt iter : Expr} {ifs : List Expr} {scope : Scope} {pos : Pos} {Nc : List Str} {js : List (Option Nat)} {wi : TI} {g : TG} {tc : TT} {te : TE}
end
theorem Same.new {H : Hp} {a : Addr} {o : HO} (h : H a = none) : Same H (upd H a o) := fun b u e => by rw [upd_ne (ne_of_none e h)]; exact e
theorem small_line {n : Nat} (h : n ≤ 1000) : n ≤ sizeLine := Nat.le_of_lt (small1000 h)
end L2

set_option maxRecDepth 100000

namespace L2
open PySem PySem.Spec PyProof.Rows
structure WE (X : Cx) (e : Expr) (t : TE) : Prop where
  h : PE X e t
structure WA (X : Cx) (es : List Expr) (t : TA) : Prop where
  h : PA X es t
section
variable {X : Cx} {a b c e o i f : Expr} {es rest : List Expr} {ta tb tc te to ti tx : TE} {t u : TA} {tt uu : TT} {pos p pos' apos cpos : Pos} {x : Str} {ts us : TS} {sts : List Stmt} {st : Stmt} {id T : String} {r : List V → Hp → VK → Prop}
end
section
variable {X : Cx} {tg elt iter : Expr} {ifs : List Expr} {scope : Scope} {pos : Pos} {Nc : List Str} {js : List (Option Nat)} {wi : TI} {g : TG} {tc : TT} {te : TE}
end
end L2

set_option maxRecDepth 100000

namespace L2
open PySem PySem.Spec PyProof.Rows
theorem range_min (m n : Nat) (p : Nat → Bool) : ((List.range (min (m + 1) (n + 1))).all p) = (p 0 && (List.range (min m n)).all fun j => p (j + 1)) := by
  rw [Nat.add_min_add_right, List.range_succ_eq_map, List.all_cons, List.all_map]
  rfl
section
variable {X : Cx} {pins : List (Addr × Obj)} {σ : St} {H : Hp} {s : Shared}
theorem Vals.get2 {xs : List V} {us : List Value} {j : Nat} {u : Value} (r : Vals xs us) (e : us[j]? = some u) : ∃ x, xs[j]? = some x ∧ RelV x u := by
  have hl := r.length
  have hj : j < us.length := (List.getElem?_eq_some_iff.mp e).1
  have hx : xs[j]? = some (xs[j]'(by omega)) := List.getElem?_eq_getElem (by omega)
  obtain ⟨u', e', q⟩ := r.get hx
  rw [e] at e'; cases e'
  exact ⟨_, hx, q⟩
theorem arr_get {its : List Value} {j : Nat} (h : j < its.toArray.size) : its[j]? = some its.toArray[j] := by
  have h' : j < its.length := by simpa using h
  rw [List.getElem?_eq_getElem h']
  simp
end
end L2

set_option maxRecDepth 100000

namespace L2
open PySem PySem.Spec PyProof.Rows
section
variable {X : Cx}
end
end L2

set_option maxRecDepth 100000
namespace L2
open PySem PySem.Spec PyProof.Rows
section
variable {X : Cx}
theorem star_all {pos : Pos} {env : Env} : ∀ {es : List Expr}, es.all plainE = true → (backTo pos (starEach es env)).all (fun x => !x.1) = true
  | [], _ => rfl
  | e :: es, h => by
    rw [List.all_cons, Bool.and_eq_true] at h
    have ih := star_all (pos := pos) (env := env) (es := es) h.2
    rw [star_plain h.1]
    exact ih
variable {o e : Expr} {es : List Expr} {to : TE} {t : TA} {name : Str} {apos cpos : Pos} {T id : String} {r : V → List V → Hp → VK → Prop}
theorem wbm (hp : (e :: es).all plainE = true) (hlen : (e :: es).length < 29) (hline : (apos.endLine == cpos.line) = true) (hbase : attributeBase o name X.env (eval o X.env) = eval o X.env)
    (pa : PlainAttrs T) (slot : Slot T name id) (hty : typeOf (.builtin id) = pure (.type "method_descriptor")) (hm : MtR X id r) (ho : WE X o to) (ha : WA X (e :: es) t) : WE X (.Call (.Attribute o name apos) (e :: es) [] cpos) (tBM X.K T r to t) := by
  have hp' := hp
  rw [List.all_cons, Bool.and_eq_true] at hp'
  refine ⟨pe_bm pa slot hty hm ho.h ha.h hbase ?_ hline (star_plain hp'.1) (star_any hp'.2)⟩
  rw [star_all hp]
  simp only [keywordEach, backToKw, List.all_nil, Bool.true_and, decide_eq_true_eq, List.length_nil, List.isEmpty_nil, if_true]
  first
    | (simp only [List.map_nil, List.all_nil, Bool.true_and, decide_eq_true_eq]; omega)
    | omega
end
end L2

set_option maxRecDepth 100000

namespace L2
open PySem PySem.Spec PyProof.Rows
inductive D where
  | non | bl (b : Bool) | int (i : Int) | str (x : Str) | ty (n : String)
  | tup (l : List D) | lst (l : List D) | scr (ns : List Int) | dK (ks : List Key) (l : List D) | dT (ks : List (List Key)) (l : List D) | fz (o : Obj) (u : HO) | t2 (l m : List D) (a b : Addr)
def ScrAt (K : PySem.W.Frag) (H : Hp) (a : Addr) (ns : List Int) : Prop := (∃ o, H a = some (.frz o (.lst (ns.map V.int)))) ∨
  ∃ (o : Obj) (its : Array Value) (n : Nat), K.lookup a = some o ∧ o.cls = .type "list" ∧ o.dict = none ∧ o.data = .seq its n ∧ its.size ≤ sizeLine ∧ Vals (ns.map V.int) its.toList
theorem ScrAt.sq {K : PySem.W.Frag} {H : Hp} {a : Addr} {ns : List Int} (h : ScrAt K H a ns) : SqL K H a (ns.map V.int) := by
  rcases h with ⟨o, h⟩ | h
  · exact .inl (.inr ⟨o, h⟩)
  · exact .inr h
section
variable (K : PySem.W.Frag) (S : Addr → Prop) (H : Hp)
mutual
def Rep : D → V → Prop
  | .non, v => v = .non
  | .bl b, v => v = .bl b
  | .int i, v => v = .int i
  | .str x, v => v = .str x
  | .ty n, v => v = .ty n
  | .tup l, v => ∃ a vs, v = .ref a ∧ SqT K H a vs ∧ Reps l vs
  | .lst l, v => ∃ a vs, v = .ref a ∧ ¬ S a ∧ Rd H a (.lst vs) ∧ Reps l vs
  | .scr ns, v => ∃ a, v = .ref a ∧ ScrAt K H a ns
  | .fz o u, v => ∃ a, v = .ref a ∧ H a = some (.frz o u)
  | .t2 l m a b, v => ∃ a0 vs, v = .ref a0 ∧ a0 = a ∧ SqT K H a vs ∧ Reps l vs ∧ ∃ ws, SqT K H b ws ∧ Reps m ws
  | .dK ks l, v => ∃ a kvs, v = .ref a ∧ ¬ S a ∧ Rd H a (.dK kvs) ∧ kvs.map (·.1) = ks ∧ Reps l (kvs.map (·.2))
  | .dT ks l, v => ∃ a kvs, v = .ref a ∧ ¬ S a ∧ Rd H a (.dU kvs) ∧ kvs.map (·.1) = ks ∧ (∀ e ∈ kvs, SqT K H e.2.1 (e.1.map kV)) ∧ Reps l (kvs.map (·.2.2))
def Reps : List D → List V → Prop
  | [], vs => vs = []
  | d :: ds, vs => ∃ v r, vs = v :: r ∧ Rep d v ∧ Reps ds r
end
def Own : Nat → List Addr → D → V → Prop
  | 0, fp, d, v => fp = [] ∧ Rep K S H d v
  | n + 1, fp, d, v => ∃ (a : Addr) (fps : List (List Addr)), v = .ref a ∧ fp = a :: fps.flatten ∧ (
      (∃ l vs, d = .lst l ∧ H a = some (.lst vs) ∧ fps.length = l.length ∧ vs.length = l.length ∧ ∀ (i : Nat) (f : List Addr) (x : D) (u : V), fps[i]? = some f → l[i]? = some x → vs[i]? = some u → Own n f x u) ∨
      (∃ ks l kvs, d = .dK ks l ∧ H a = some (.dK kvs) ∧ kvs.map (·.1) = ks ∧ fps.length = l.length ∧ kvs.length = l.length ∧ ∀ (i : Nat) (f : List Addr) (x : D) (u : V), fps[i]? = some f → l[i]? = some x → (kvs.map (·.2))[i]? = some u → Own n f x u) ∨
      (∃ ks l kvs, d = .dT ks l ∧ H a = some (.dU kvs) ∧ (kvs.map (·.1) = ks ∧ ∀ e ∈ kvs, SqT K H e.2.1 (e.1.map kV)) ∧ fps.length = l.length ∧ kvs.length = l.length ∧ ∀ (i : Nat) (f : List Addr) (x : D) (u : V), fps[i]? = some f → l[i]? = some x → (kvs.map (·.2.2))[i]? = some u → Own n f x u))
end
def isM : HO → Prop
  | .lst _ => True
  | .dK _ => True
  | .dU _ => True
  | _ => False
def uni (S O : Addr → Prop) : Addr → Prop := fun a => S a ∨ O a
structure Step (O O' : Addr → Prop) (H H' : Hp) : Prop where
  keep : ∀ b o, ¬ O b → H b = some o → H' b = some o
  own : ∀ a, O' a → O a ∨ H a = none
  dom : ∀ b, H b ≠ none → H' b ≠ none
theorem Step.refl (O : Addr → Prop) (H : Hp) : Step O O H H := ⟨fun _ _ _ h => h, fun _ h => .inl h, fun _ h => h⟩
theorem Step.trans {O O1 O2 : Addr → Prop} {H H1 H2 : Hp} (a : Step O O1 H H1) (b : Step O1 O2 H1 H2) : Step O O2 H H2 := by
  refine ⟨fun c o n h => b.keep c o (fun z => ?_) (a.keep c o n h), fun c z => ?_, fun c h => b.dom c (a.dom c h)⟩
  · rcases a.own c z with q | q
    · exact n q
    · rw [q] at h; cases h
  · rcases b.own c z with q | q
    · exact a.own c q
    · right
      cases e : H c with
      | none => rfl
      | some o => exact absurd q (a.dom c (by rw [e]; simp))
theorem Step.of_same {O : Addr → Prop} {H H' : Hp} (h : Same H H') : Step O O H H' := ⟨fun b o _ e => h b o e, fun _ z => .inl z, fun b e => by
  cases q : H b with
  | none => exact absurd q e
  | some o => rw [h b o q]; simp⟩
theorem Rd.some {H : Hp} {a : Addr} {u : HO} (h : Rd H a u) : ∃ o, H a = some o := by
  rcases h with h | ⟨o, h⟩ <;> exact ⟨_, h⟩
section
variable {K : PySem.W.Frag} {S S' : Addr → Prop} {H H' : Hp}
structure Goes (S S' : Addr → Prop) (H H' : Hp) : Prop where
  tup : ∀ a xs, Rd H a (.tup xs) → Rd H' a (.tup xs)
  obj : ∀ a u, ¬ S a → Rd H a u → Rd H' a u ∧ ¬ S' a
  frz : ∀ a o u, H a = some (.frz o u) → H' a = some (.frz o u)
mutual
theorem Rep.go (g : Goes S S' H H') : ∀ (d : D) (v : V), Rep K S H d v → Rep K S' H' d v
  | .non, v, h => by simpa only [Rep] using h
  | .bl b, v, h => by simpa only [Rep] using h
  | .int i, v, h => by simpa only [Rep] using h
  | .str x, v, h => by simpa only [Rep] using h
  | .ty n, v, h => by simpa only [Rep] using h
  | .tup l, v, h => by
    simp only [Rep] at h ⊢
    obtain ⟨a, vs, e, q, r⟩ := h
    refine ⟨a, vs, e, ?_, Reps.go g l vs r⟩
    rcases q with q | q
    · exact .inl (g.tup _ _ q)
    · exact .inr q
  | .lst l, v, h => by
    simp only [Rep] at h ⊢
    obtain ⟨a, vs, e, n, q, r⟩ := h
    obtain ⟨q1, q2⟩ := g.obj _ _ n q
    exact ⟨a, vs, e, q2, q1, Reps.go g l vs r⟩
  | .t2 l m a b, v, h => by
    simp only [Rep] at h ⊢
    obtain ⟨a0, vs, e1, e2, q1, r1, ws, q2, r2⟩ := h
    refine ⟨a0, vs, e1, e2, ?_, Reps.go g l vs r1, ws, ?_, Reps.go g m ws r2⟩
    · rcases q1 with q | q
      · exact .inl (g.tup _ _ q)
      · exact .inr q
    · rcases q2 with q | q
      · exact .inl (g.tup _ _ q)
      · exact .inr q
  | .fz o u, v, h => by
    simp only [Rep] at h ⊢
    obtain ⟨a, e, q⟩ := h
    exact ⟨a, e, g.frz _ _ _ q⟩
  | .scr ns, v, h => by
    simp only [Rep] at h ⊢
    obtain ⟨a, e, q⟩ := h
    refine ⟨a, e, ?_⟩
    rcases q with ⟨o, q⟩ | q
    · exact .inl ⟨o, g.frz _ _ _ q⟩
    · exact .inr q
  | .dK ks l, v, h => by
    simp only [Rep] at h ⊢
    obtain ⟨a, vs, e, n, q, k, r⟩ := h
    obtain ⟨q1, q2⟩ := g.obj _ _ n q
    exact ⟨a, vs, e, q2, q1, k, Reps.go g l _ r⟩
  | .dT ks l, v, h => by
    simp only [Rep] at h ⊢
    obtain ⟨a, vs, e, n, q, k, z, r⟩ := h
    obtain ⟨q1, q2⟩ := g.obj _ _ n q
    refine ⟨a, vs, e, q2, q1, k, fun e he => ?_, Reps.go g l _ r⟩
    rcases z e he with w | w
    · exact .inl (g.tup _ _ w)
    · exact .inr w
theorem Reps.go (g : Goes S S' H H') : ∀ (l : List D) (vs : List V), Reps K S H l vs → Reps K S' H' l vs
  | [], vs, h => by simpa only [Reps] using h
  | d :: l, vs, h => by
    simp only [Reps] at h ⊢
    obtain ⟨v, r, e, h1, h2⟩ := h
    exact ⟨v, r, e, Rep.go g d v h1, Reps.go g l r h2⟩
end
theorem Goes.same (h : Same H H') : Goes S S H H' := by
  refine ⟨fun a xs q => ?_, fun a u n q => ⟨?_, n⟩, fun a o u q => h _ _ q⟩ <;>
  · rcases q with q | ⟨o, q⟩
    · exact .inl (h _ _ q)
    · exact .inr ⟨o, h _ _ q⟩
theorem Goes.less (h : ∀ a, S' a → S a) : Goes S S' H H := ⟨fun _ _ q => q, fun a _ n q => ⟨q, fun z => n (h a z)⟩, fun _ _ _ q => q⟩
theorem Goes.step {S0 O O' : Addr → Prop} (hm : ∀ a, O a → ∃ o, H a = some o ∧ isM o) (s : Step O O' H H') : Goes (uni S0 O) (uni S0 O') H H' := by
  refine ⟨fun a xs q => ?_, fun a u n q => ?_, fun a o u q => s.keep _ _ (fun z => by obtain ⟨o', e, m⟩ := hm a z; rw [q] at e; cases e; exact m) q⟩
  · have nO : ¬ O a := fun z => by
      obtain ⟨o, e, m⟩ := hm a z
      rcases q with q | ⟨o', q⟩ <;> (rw [q] at e; cases e; exact m)
    rcases q with q | ⟨o, q⟩
    · exact .inl (s.keep _ _ nO q)
    · exact .inr ⟨o, s.keep _ _ nO q⟩
  · have nO : ¬ O a := fun z => n (.inr z)
    refine ⟨?_, fun z => ?_⟩
    · rcases q with q | ⟨o, q⟩
      · exact .inl (s.keep _ _ nO q)
      · exact .inr ⟨o, s.keep _ _ nO q⟩
    · rcases z with z | z
      · exact n (.inl z)
      · rcases s.own a z with w | w
        · exact nO w
        · obtain ⟨o, e⟩ := q.some; rw [w] at e; cases e
theorem Goes.fresh {p : Addr} {o : HO} (hp : H p = none) : Goes S (uni S (· = p)) H (upd H p o) := by
  refine ⟨fun a xs q => ?_, fun a u n q => ?_, fun a o u q => by rw [upd_ne (ne_of_none q hp)]; exact q⟩
  · obtain ⟨_, e⟩ := q.some
    have ne : a ≠ p := by rintro rfl; rw [hp] at e; cases e
    rcases q with q | ⟨o, q⟩
    · exact .inl (by rw [upd_ne ne]; exact q)
    · exact .inr ⟨o, by rw [upd_ne ne]; exact q⟩
  · obtain ⟨_, e⟩ := q.some
    have ne : a ≠ p := by rintro rfl; rw [hp] at e; cases e
    refine ⟨?_, fun z => z.elim n ne⟩
    rcases q with q | ⟨o, q⟩
    · exact .inl (by rw [upd_ne ne]; exact q)
    · exact .inr ⟨o, by rw [upd_ne ne]; exact q⟩
theorem Goes.upd {p : Addr} {o o' : HO} (hp : H p = some o') (m : isM o') (hS : S p) : Goes S S H (upd H p o) := by
  refine ⟨fun a xs q => ?_, fun a u n q => ⟨?_, n⟩, fun a o u q => by rw [upd_ne (by rintro rfl; rw [hp] at q; cases q; exact m)]; exact q⟩
  · have ne : a ≠ p := by rintro rfl; rcases q with q | ⟨_, q⟩ <;> (rw [hp] at q; cases q; exact m)
    rcases q with q | ⟨o, q⟩
    · exact .inl (by rw [upd_ne ne]; exact q)
    · exact .inr ⟨o, by rw [upd_ne ne]; exact q⟩
  · have ne : a ≠ p := by rintro rfl; exact n hS
    rcases q with q | ⟨o, q⟩
    · exact .inl (by rw [upd_ne ne]; exact q)
    · exact .inr ⟨o, by rw [upd_ne ne]; exact q⟩
theorem Own.go (g : Goes S S' H H') : ∀ (n : Nat) (fp : List Addr) (d : D) (v : V), (∀ a ∈ fp, ∀ o, H a = some o → H' a = some o) → Own K S H n fp d v → Own K S' H' n fp d v
  | 0, fp, d, v, _, h => by
    simp only [Own] at h ⊢
    exact ⟨h.1, Rep.go g d v h.2⟩
  | n + 1, fp, d, v, hk, h => by
    simp only [Own] at h ⊢
    obtain ⟨a, fps, rfl, rfl, h⟩ := h
    have sub : ∀ (i : Nat) (f : List Addr), fps[i]? = some f → ∀ b ∈ f, ∀ o, H b = some o → H' b = some o := fun i f e b hb => hk b (List.mem_cons_of_mem _ (List.mem_flatten.mpr ⟨f, List.mem_of_getElem? e, hb⟩))
    refine ⟨a, fps, rfl, rfl, ?_⟩
    rcases h with ⟨l, vs, rfl, e, h1, h2, h3⟩ | ⟨ks, l, kvs, rfl, e, h0, h1, h2, h3⟩ | ⟨ks, l, kvs, rfl, e, h0, h1, h2, h3⟩
    · exact .inl ⟨l, vs, rfl, hk a (by simp) _ e, h1, h2, fun i f x u e1 e2 e3 => Own.go g n f x u (sub i f e1) (h3 i f x u e1 e2 e3)⟩
    · exact .inr (.inl ⟨ks, l, kvs, rfl, hk a (by simp) _ e, h0, h1, h2, fun i f x u e1 e2 e3 => Own.go g n f x u (sub i f e1) (h3 i f x u e1 e2 e3)⟩)
    · exact .inr (.inr ⟨ks, l, kvs, rfl, hk a (by simp) _ e, ⟨h0.1, fun e he => (h0.2 e he).imp (g.tup _ _) id⟩, h1, h2, fun i f x u e1 e2 e3 => Own.go g n f x u (sub i f e1) (h3 i f x u e1 e2 e3)⟩)
theorem Reps.of_all : ∀ (l : List D) (vs : List V), vs.length = l.length → (∀ (i : Nat) (x : D) (u : V), l[i]? = some x → vs[i]? = some u → Rep K S H x u) → Reps K S H l vs
  | [], vs, h, _ => by simp only [Reps]; exact List.length_eq_zero_iff.mp (by simpa using h)
  | d :: l, [], h, _ => by simp at h
  | d :: l, v :: r, h, q => by
    simp only [Reps]
    exact ⟨v, r, rfl, q 0 d v rfl rfl, Reps.of_all l r (by simpa using h) fun i x u e1 e2 => q (i + 1) x u (by simpa using e1) (by simpa using e2)⟩
theorem Reps.len : ∀ {l : List D} {vs : List V}, Reps K S H l vs → vs.length = l.length
  | [], vs, h => by simp only [Reps] at h; rw [h]; rfl
  | d :: l, vs, h => by
    simp only [Reps] at h
    obtain ⟨v, r, rfl, _, h⟩ := h
    simp [Reps.len h]
theorem Reps.get : ∀ {l : List D} {vs : List V} {i : Nat} {x : D}, Reps K S H l vs → l[i]? = some x → ∃ u, vs[i]? = some u ∧ Rep K S H x u
  | [], vs, i, x, h, e => by simp at e
  | d :: l, vs, 0, x, h, e => by
    simp only [Reps] at h
    obtain ⟨v, r, rfl, h1, _⟩ := h
    simp at e; subst e
    exact ⟨v, rfl, h1⟩
  | d :: l, vs, i + 1, x, h, e => by
    simp only [Reps] at h
    obtain ⟨v, r, rfl, _, h⟩ := h
    obtain ⟨u, e1, e2⟩ := Reps.get (i := i) h (by simpa using e)
    exact ⟨u, by simpa using e1, e2⟩
theorem Reps.get' {l : List D} {vs : List V} {i : Nat} {u : V} (h : Reps K S H l vs) (e : vs[i]? = some u) : ∃ x, l[i]? = some x ∧ Rep K S H x u := by
  have hi : i < l.length := by rw [← h.len]; exact (List.getElem?_eq_some_iff.mp e).1
  obtain ⟨u', e1, e2⟩ := h.get (List.getElem?_eq_getElem hi)
  rw [e] at e1; cases e1
  exact ⟨_, List.getElem?_eq_getElem hi, e2⟩
theorem Own.rep : ∀ (n : Nat) (fp : List Addr) (d : D) (v : V), (∀ a ∈ fp, ¬ S' a) → (∀ a, S' a → S a) → Own K S H n fp d v → Rep K S' H d v
  | 0, fp, d, v, _, hs, h => by
    simp only [Own] at h
    exact Rep.go (.less hs) d v h.2
  | n + 1, fp, d, v, hk, hs, h => by
    simp only [Own] at h
    obtain ⟨a, fps, rfl, rfl, h⟩ := h
    have sub : ∀ (i : Nat) (f : List Addr), fps[i]? = some f → ∀ b ∈ f, ¬ S' b := fun i f e b hb => hk b (List.mem_cons_of_mem _ (List.mem_flatten.mpr ⟨f, List.mem_of_getElem? e, hb⟩))
    have fget : ∀ {m : Nat} {i : Nat}, fps.length = m → i < m → ∃ f, fps[i]? = some f := fun e hi => ⟨_, List.getElem?_eq_getElem (by omega)⟩
    rcases h with ⟨l, vs, rfl, e, h1, h2, h3⟩ | ⟨ks, l, kvs, rfl, e, h0, h1, h2, h3⟩ | ⟨ks, l, kvs, rfl, e, h0, h1, h2, h3⟩
    · simp only [Rep]
      refine ⟨a, vs, rfl, hk a (by simp), .inl e, Reps.of_all l vs h2 fun i x u e2 e3 => ?_⟩
      obtain ⟨f, e1⟩ := fget h1 (List.getElem?_eq_some_iff.mp e2).1
      exact Own.rep n f x u (sub i f e1) hs (h3 i f x u e1 e2 e3)
    · simp only [Rep]
      refine ⟨a, kvs, rfl, hk a (by simp), .inl e, h0, Reps.of_all l _ (by simpa using h2) fun i x u e2 e3 => ?_⟩
      obtain ⟨f, e1⟩ := fget h1 (List.getElem?_eq_some_iff.mp e2).1
      exact Own.rep n f x u (sub i f e1) hs (h3 i f x u e1 e2 e3)
    · simp only [Rep]
      refine ⟨a, kvs, rfl, hk a (by simp), .inl e, h0.1, h0.2, Reps.of_all l _ (by simpa using h2) fun i x u e2 e3 => ?_⟩
      obtain ⟨f, e1⟩ := fget h1 (List.getElem?_eq_some_iff.mp e2).1
      exact Own.rep n f x u (sub i f e1) hs (h3 i f x u e1 e2 e3)
end
end L2

set_option maxRecDepth 100000
namespace L2
open PySem PySem.Spec PyProof.Rows
inductive SK where
  | cl | ow (n : Nat) | lo | io (n : Nat)
  deriving DecidableEq
def dep : SK → Option Nat
  | .ow n => some n
  | .io n => some n
  | _ => none
def kd (κ : List SK) (i : Nat) : SK := κ.getD i .cl
structure G0 where
  S0 : Addr → Prop
  O0 : Addr → Prop
  H0 : Hp
  ps : St
  gh : List (D × V)
abbrev EnvD := List (Option D)
def fpS (fp : List Addr) : Addr → Prop := fun a => a ∈ fp
def G0.plus (G : G0) (fp : List Addr) : G0 := { G with S0 := uni G.S0 (fpS fp) }
section
variable (K : PySem.W.Frag)
def SlotOk (S0 O : Addr → Prop) (H : Hp) (f : List Addr) : SK → D → V → Prop
  | .cl, d, v => Rep K (uni S0 O) H d v
  | .ow n, d, v => Own K (uni S0 O) H n f d v
  | .lo, d, v => Rep K S0 H d v
  | .io n, d, v => Own K (uni S0 O) H n f d v
structure EnvF (κ : List SK) (G : G0) (O : Addr → Prop) (ρ : EnvD) (σ : St) (H : Hp) (F : Nat → List Addr) : Prop where
  len : ρ.length = σ.length
  own : ∀ a, O a ↔ ∃ i, a ∈ F i
  non : ∀ i, dep (kd κ i) = none → F i = []
  dis : ∀ i j a, a ∈ F i → a ∈ F j → i = j
  nd : ∀ i, (F i).Nodup
  mu : ∀ i a, a ∈ F i → ¬ G.S0 a ∧ ∃ o, H a = some o ∧ isM o
  new : ∀ i a, a ∈ F i → ((∃ n, kd κ i = .io n) ∧ G.O0 a) ∨ G.H0 a = none
  par : ∀ i n, kd κ i = .io n → σ[i]? = G.ps[i]?
  gh : ∀ p ∈ G.gh, Rep K (uni G.S0 O) H p.1 p.2
  s0 : ∀ a, G.S0 a → H a ≠ none
  keep : ∀ b o, ¬ G.O0 b → G.H0 b = some o → H b = some o
  dom : ∀ b, G.H0 b ≠ none → H b ≠ none
  slot : ∀ i d, ρ[i]? = some (some d) → ∃ v, σ[i]? = some (some v) ∧ SlotOk K G.S0 O H (F i) (kd κ i) d v
def EnvOk (κ : List SK) (G : G0) (O : Addr → Prop) (ρ : EnvD) (σ : St) (H : Hp) : Prop := ∃ F, EnvF K κ G O ρ σ H F
def VOk (S0 O' : Addr → Prop) (H H' : Hp) (fp : List Addr) : SK → D → V → Prop
  | .cl, d, v => fp = [] ∧ Rep K (uni S0 O') H' d v
  | .lo, d, v => fp = [] ∧ Rep K S0 H' d v
  | .ow n, d, v => fp.Nodup ∧ (∀ a ∈ fp, H a = none ∧ ¬ O' a ∧ ∃ o, H' a = some o ∧ isM o) ∧ Own K (uni (uni S0 (fpS fp)) O') H' n fp d v
  | .io _, _, _ => False
abbrev DTE := EnvD → (D → EnvD → Prop) → Prop
abbrev DTT := EnvD → (Bool → EnvD → Prop) → Prop
abbrev DTA := EnvD → (List D → EnvD → Prop) → Prop
def Pu (pu : Bool) (ρ ρ' : EnvD) (O O' : Addr → Prop) (H H' : Hp) : Prop := pu = true → Same H H' ∧ ρ' = ρ ∧ O' = O
def tD (κ : List SK) (pu : Bool) (md : SK) (E : DTE) : TE := fun σ H Q => ∃ G O ρ q, EnvOk K κ G O ρ σ H ∧ E ρ q ∧
  ∀ v H' d ρ' O' fp, Step O O' H H' → EnvOk K κ (G.plus fp) O' ρ' σ H' → VOk K G.S0 O' H H' fp md d v → Pu pu ρ ρ' O O' H H' → q d ρ' → Q v H'
def tDT (κ : List SK) (pu : Bool) (E : DTT) : TT := fun σ H Q => ∃ G O ρ q, EnvOk K κ G O ρ σ H ∧ E ρ q ∧
  ∀ b H' ρ' O', Step O O' H H' → EnvOk K κ G O' ρ' σ H' → Pu pu ρ ρ' O O' H H' → q b ρ' → Q b H'
end
structure DE (X : Cx) (κ : List SK) (pu : Bool) (md : SK) (e : Expr) (E : DTE) : Prop where
  h : PE X e (tD X.K κ pu md E)
structure DT (X : Cx) (κ : List SK) (pu : Bool) (e : Expr) (E : DTT) : Prop where
  h : PT X e (tDT X.K κ pu E)
structure DW (X : Cx) (κ : List SK) (pu : Bool) (e : Expr) (E : DTT) : Prop where
  h : PW X e (tDT X.K κ pu E)
theorem PE.weak {X : Cx} {e : Expr} {t t' : TE} (h : PE X e t) (w : ∀ σ H Q, t' σ H Q → t σ H Q) : PE X e t' := fun pins s σ H Q I q => h pins s σ H Q I (w σ H Q q)
theorem PT.weak {X : Cx} {e : Expr} {t t' : TT} (h : PT X e t) (w : ∀ σ H Q, t' σ H Q → t σ H Q) : PT X e t' := fun pins s σ H Q I q => h pins s σ H Q I (w σ H Q q)
theorem PW.weak {X : Cx} {e : Expr} {t t' : TT} (h : PW X e t) (w : ∀ σ H Q, t' σ H Q → t σ H Q) : PW X e t' := fun wh pins s σ H Q I q => h wh pins s σ H Q I (w σ H Q q)
section
variable {K : PySem.W.Frag} {κ : List SK} {G : G0} {O O' : Addr → Prop} {ρ ρ' : EnvD} {σ : St} {H H' : Hp} {S0 : Addr → Prop}
theorem plus_nil (G : G0) : G.plus [] = G := by
  have e : uni G.S0 (fpS []) = G.S0 := by
    funext a
    simp [uni, fpS]
  unfold G0.plus
  rw [e]
theorem EnvOk.mutO (h : EnvOk K κ G O ρ σ H) : ∀ a, O a → ∃ o, H a = some o ∧ isM o := fun a z => by
  obtain ⟨F, f⟩ := h
  obtain ⟨i, hi⟩ := (f.own a).mp z
  exact (f.mu i a hi).2
theorem EnvOk.noS (h : EnvOk K κ G O ρ σ H) : ∀ a, O a → ¬ G.S0 a := fun a z => by
  obtain ⟨F, f⟩ := h
  obtain ⟨i, hi⟩ := (f.own a).mp z
  exact (f.mu i a hi).1
theorem EnvOk.s0 (h : EnvOk K κ G O ρ σ H) : ∀ a, G.S0 a → H a ≠ none := let ⟨_, f⟩ := h; f.s0
theorem EnvOk.drop {fp : List Addr} (h : EnvOk K κ (G.plus fp) O ρ σ H) : EnvOk K κ G O ρ σ H := by
  obtain ⟨F, f⟩ := h
  refine ⟨F, f.len, f.own, f.non, f.dis, f.nd, fun i a hi => ⟨fun z => (f.mu i a hi).1 (.inl z), (f.mu i a hi).2⟩, f.new, f.par, fun p hp => Rep.go (.less fun a z => z.elim (fun z => .inl (.inl z)) .inr) _ _ (f.gh p hp), fun a z => f.s0 a (.inl z), f.keep, f.dom, fun i d e => ?_⟩
  obtain ⟨v, e1, e2⟩ := f.slot i d e
  refine ⟨v, e1, ?_⟩
  have le : ∀ a, uni G.S0 O a → uni (uni G.S0 (fpS fp)) O a := fun a z => z.elim (fun z => .inl (.inl z)) .inr
  cases q : kd κ i with
  | cl => rw [q] at e2; exact Rep.go (.less le) d v e2
  | ow n => rw [q] at e2; exact Own.go (.less le) n _ d v (fun _ _ _ h => h) e2
  | io n => rw [q] at e2; exact Own.go (.less le) n _ d v (fun _ _ _ h => h) e2
  | lo => rw [q] at e2; exact Rep.go (.less fun a z => .inl z) d v e2
theorem EnvOk.same {fp : List Addr} (h : EnvOk K κ G O ρ σ H) (s : Same H H') (hf : ∀ a ∈ fp, H a = none ∧ H' a ≠ none) : EnvOk K κ (G.plus fp) O ρ σ H' := by
  obtain ⟨F, f⟩ := h
  have sn : ∀ b, H b ≠ none → H' b ≠ none := fun b hb => (Step.of_same (O := O) s).dom b hb
  have g : ∀ (S : Addr → Prop), Goes S (uni S (fpS fp)) H H' := fun S => by
    refine ⟨fun a xs q => (Goes.same (S := S) s).tup a xs q, fun a u n q => ⟨((Goes.same (S := S) s).obj a u n q).1, fun z => z.elim n fun z => ?_⟩, fun a o u q => s _ _ q⟩
    obtain ⟨o, e⟩ := q.some
    rw [(hf a z).1] at e; cases e
  have eq2 : ∀ a, uni (uni G.S0 O) (fpS fp) a ↔ uni (uni G.S0 (fpS fp)) O a := fun a => by simp only [uni]; constructor <;> (rintro ((h | h) | h) <;> simp [h])
  refine ⟨F, f.len, f.own, f.non, f.dis, f.nd, fun i a hi => ?_, f.new, f.par, fun p hp => Rep.go (.less fun a => (eq2 a).mpr) _ _ (Rep.go (g _) _ _ (f.gh p hp)), fun a z => ?_, fun b o n e => s b o (f.keep b o n e), fun b e => sn b (f.dom b e), fun i d e => ?_⟩
  · obtain ⟨n, o, e, m⟩ := f.mu i a hi
    refine ⟨fun z => z.elim n fun z => ?_, o, s a o e, m⟩
    rw [(hf a z).1] at e; cases e
  · rcases z with z | z
    · exact sn a (f.s0 a z)
    · exact (hf a z).2
  · obtain ⟨v, e1, e2⟩ := f.slot i d e
    refine ⟨v, e1, ?_⟩
    cases q : kd κ i with
    | cl => rw [q] at e2; exact Rep.go (.less fun a => (eq2 a).mpr) d v (Rep.go (g _) d v e2)
    | ow n => rw [q] at e2; exact Own.go (.less fun a => (eq2 a).mpr) n _ d v (fun _ _ _ h => h) (Own.go (g _) n _ d v (fun a _ o e => s a o e) e2)
    | io n => rw [q] at e2; exact Own.go (.less fun a => (eq2 a).mpr) n _ d v (fun _ _ _ h => h) (Own.go (g _) n _ d v (fun a _ o e => s a o e) e2)
    | lo => rw [q] at e2; exact Rep.go (g _) d v e2
theorem EnvOk.same0 (h : EnvOk K κ G O ρ σ H) (s : Same H H') : EnvOk K κ G O ρ σ H' := by
  have q := h.same (fp := []) s (fun a z => absurd z (by simp))
  rw [plus_nil] at q
  exact q
theorem VOk.clean {fp : List Addr} {n : Nat} {d : D} {v : V} (hs : ∀ a, S0 a → H a ≠ none) (h : VOk K S0 O' H H' fp (.ow n) d v) : VOk K S0 O' H H' [] .cl d v := by
  obtain ⟨_, h2, h3⟩ := h
  refine ⟨rfl, Own.rep n fp d v (fun a ha z => ?_) (fun a z => ?_) h3⟩
  · obtain ⟨e, nO, _⟩ := h2 a ha
    exact z.elim (fun z => hs a z e) nO
  · exact z.elim (fun z => .inl (.inl z)) .inr
theorem VOk.loose {fp : List Addr} {d : D} {v : V} (h : VOk K S0 O' H H' fp .cl d v) : VOk K S0 O' H H' [] .lo d v := ⟨rfl, Rep.go (.less fun _ z => .inl z) d v h.2⟩
end
section
variable {X : Cx} {κ : List SK} {pu : Bool} {md : SK} {e : Expr} {E : DTE} {n : Nat}
theorem DE.clean (h : DE X κ pu (.ow n) e E) : DE X κ pu .cl e E := ⟨h.h.weak fun σ H Q ⟨G, O, ρ, q, hE, hq, k⟩ => ⟨G, O, ρ, q, hE, hq, fun v H' d ρ' O' fp s e' vo p z => k v H' d ρ' O' [] s (by rw [plus_nil]; exact e'.drop) (vo.clean hE.s0) p z⟩⟩
theorem DE.loose (h : DE X κ pu .cl e E) : DE X κ pu .lo e E := ⟨h.h.weak fun σ H Q ⟨G, O, ρ, q, hE, hq, k⟩ => ⟨G, O, ρ, q, hE, hq, fun v H' d ρ' O' fp s e' vo p z => k v H' d ρ' O' [] s (by rw [plus_nil]; exact e'.drop) vo.loose p z⟩⟩
theorem DE.dirty (h : DE X κ true md e E) : DE X κ false md e E := ⟨h.h.weak fun σ H Q ⟨G, O, ρ, q, hE, hq, k⟩ => ⟨G, O, ρ, q, hE, hq, fun v H' d ρ' O' fp s e' vo p z => k v H' d ρ' O' fp s e' vo (fun z => absurd z Bool.false_ne_true) z⟩⟩
mutual
def noL : D → Bool
  | .tup l => noLs l
  | .lst _ => false
  | .dK _ _ => false
  | .dT _ _ => false
  | .t2 _ _ _ _ => false
  | _ => true
def noLs : List D → Bool
  | [] => true
  | d :: l => noL d && noLs l
end
mutual
theorem Rep.noL {K : PySem.W.Frag} {S S' : Addr → Prop} {H : Hp} : ∀ (d : D) (v : V), noL d = true → Rep K S H d v → Rep K S' H d v
  | .non, v, _, h => by simpa only [Rep] using h
  | .bl b, v, _, h => by simpa only [Rep] using h
  | .int i, v, _, h => by simpa only [Rep] using h
  | .str x, v, _, h => by simpa only [Rep] using h
  | .ty n, v, _, h => by simpa only [Rep] using h
  | .tup l, v, n, h => by
    simp only [L2.noL] at n
    simp only [Rep] at h ⊢
    obtain ⟨a, vs, e, q, r⟩ := h
    exact ⟨a, vs, e, q, Reps.noLs l vs n r⟩
  | .scr l, v, n, h => by simpa only [Rep] using h
  | .fz o u, v, n, h => by simpa only [Rep] using h
  | .t2 l m a b, v, n, h => by simp [L2.noL] at n
  | .lst l, v, n, h => by simp [L2.noL] at n
  | .dK ks l, v, n, h => by simp [L2.noL] at n
  | .dT ks l, v, n, h => by simp [L2.noL] at n
theorem Reps.noLs {K : PySem.W.Frag} {S S' : Addr → Prop} {H : Hp} : ∀ (l : List D) (vs : List V), noLs l = true → Reps K S H l vs → Reps K S' H l vs
  | [], vs, _, h => by simpa only [Reps] using h
  | d :: l, vs, n, h => by
    simp only [L2.noLs, Bool.and_eq_true] at n
    simp only [Reps] at h ⊢
    obtain ⟨v, r, e, h1, h2⟩ := h
    exact ⟨v, r, e, Rep.noL d v n.1 h1, Reps.noLs l r n.2 h2⟩
end
def eNoL (E : DTE) : DTE := fun ρ q => E ρ fun d ρ' => noL d = true ∧ q d ρ'
theorem DE.nol (h : DE X κ pu .lo e E) : DE X κ pu .cl e (eNoL E) := ⟨h.h.weak fun σ H Q ⟨G, O, ρ, q, hE, hq, k⟩ => ⟨G, O, ρ, _, hE, hq, fun v H' d ρ' O' fp s e' vo p ⟨z1, z2⟩ => k v H' d ρ' O' [] s (by rw [plus_nil]; exact e'.drop) ⟨rfl, Rep.noL d v z1 vo.2⟩ p z2⟩⟩
end

def eVar (i : Nat) : DTE := fun ρ q => ∃ d, ρ[i]? = some (some d) ∧ q d ρ
def eC (d : D) : DTE := fun ρ q => q d ρ
section
variable {X : Cx} {κ : List SK} {x : Str} {pos : Pos}
theorem VOk.plain {K : PySem.W.Frag} {S0 O : Addr → Prop} {H : Hp} {d : D} {v : V} (h : ∀ S, Rep K S H d v) : VOk K S0 O H H [] .cl d v := ⟨rfl, h _⟩
theorem de_c {t : TE} {d : D} {v : V} {e : Expr} (h : PE X e (tC v)) (r : ∀ S H, Rep X.K S H d v) : DE X κ true .cl e (eC d) :=
  ⟨h.weak fun σ H Q ⟨G, O, ρ, q, hE, hq, k⟩ => k v H d ρ O [] (.refl _ _) (by rw [plus_nil]; exact hE) (.plain fun S => r S H) (fun _ => ⟨.refl _, rfl, rfl⟩) hq⟩
theorem dv (i : Nat) (hk : kd κ i = .cl := by rfl) (hN : X.N[i]? = some x := by rfl) (hv : Vis X.env.scope x := by first | exact Or.inl rfl | exact Or.inr (Or.inl rfl) | exact Or.inr (Or.inr rfl)) (hd : (x == ("__debug__" : Str)) = false := by decide)
    (hcd : (x == ("__classdict__" : Str)) = false := by decide) : DE X κ true .cl (.Name x pos) (eVar i) :=
  ⟨(pe_var hN hv hd hcd).weak fun σ H Q ⟨G, O, ρ, q, hE, ⟨d, e1, e2⟩, k⟩ => by
    obtain ⟨F, f⟩ := id hE
    obtain ⟨v, h1, h2⟩ := f.slot i d e1
    rw [hk] at h2
    exact ⟨v, h1, k v H d ρ O [] (.refl _ _) (by rw [plus_nil]; exact hE) ⟨rfl, h2⟩ (fun _ => ⟨.refl _, rfl, rfl⟩) e2⟩⟩
theorem dvl (i : Nat) (hN : X.N[i]? = some x := by rfl) (hv : Vis X.env.scope x := by first | exact Or.inl rfl | exact Or.inr (Or.inl rfl) | exact Or.inr (Or.inr rfl)) (hd : (x == ("__debug__" : Str)) = false := by decide)
    (hcd : (x == ("__classdict__" : Str)) = false := by decide) : DE X κ true .lo (.Name x pos) (eVar i) :=
  ⟨(pe_var hN hv hd hcd).weak fun σ H Q ⟨G, O, ρ, q, hE, ⟨d, e1, e2⟩, k⟩ => by
    obtain ⟨F, f⟩ := id hE
    obtain ⟨v, h1, h2⟩ := f.slot i d e1
    have r : Rep X.K G.S0 H d v := by
      cases e : kd κ i with
      | cl => rw [e] at h2; exact Rep.go (.less fun _ z => .inl z) d v h2
      | lo => rw [e] at h2; exact h2
      | ow n => rw [e] at h2; exact Own.rep n (F i) d v (fun a ha => (f.mu i a ha).1) (fun _ z => .inl z) h2
      | io n => rw [e] at h2; exact Own.rep n (F i) d v (fun a ha => (f.mu i a ha).1) (fun _ z => .inl z) h2
    exact ⟨v, h1, k v H d ρ O [] (.refl _ _) (by rw [plus_nil]; exact hE) ⟨rfl, r⟩ (fun _ => ⟨.refl _, rfl, rfl⟩) e2⟩⟩
theorem dint {i j} : DE X κ true .cl (.Constant (.int i) j pos) (eC (.int i)) := de_c (t := tC .non) pe_int fun _ _ => by simp only [Rep]
theorem dbl {i j} : DE X κ true .cl (.Constant (.bool i) j pos) (eC (.bl i)) := de_c (t := tC .non) pe_bl fun _ _ => by simp only [Rep]
theorem dstr {i j} : DE X κ true .cl (.Constant (.str i) j pos) (eC (.str i)) := de_c (t := tC .non) pe_str fun _ _ => by simp only [Rep]
theorem dglob {d : D} (hd : (x == ("__debug__" : Str)) = false) (hg : Gl X x) (hm : ∃ v w, X.mg x = some w ∧ RelV v w ∧ ∀ S H, Rep X.K S H d v) : DE X κ true .cl (.Name x pos) (eC d) := by
  obtain ⟨v, w, h1, h2, h3⟩ := hm
  exact de_c (t := tC .non) (pe_glob hg h1 h2 hd) h3
theorem dty {n : String} (h : PE X (.Name x pos) (tC (.ty n))) : DE X κ true .cl (.Name x pos) (eC (.ty n)) := de_c (t := tC .non) h fun _ _ => by simp only [Rep]
end

def VRes (K : PySem.W.Frag) (S : Addr → Prop) (H H' : Hp) (fp : List Addr) : SK → D → V → Prop
  | .ow n, d, v => fp.Nodup ∧ (∀ a ∈ fp, H a = none ∧ ∃ o, H' a = some o ∧ isM o) ∧ Own K (uni S (fpS fp)) H' n fp d v
  | .io _, _, _ => False
  | _, d, v => fp = [] ∧ Rep K S H' d v
structure DOp (X : Cx) (md : SK) (f : Value → Value → Sem Value) (r : D → D → (D → Prop) → Prop) : Prop where
  h : ∃ r', OpR X f r' ∧ ∀ S H dx dy vx vy q Q, Rep X.K S H dx vx → Rep X.K S H dy vy → r dx dy q → (∀ v H' z fp, Same H H' → VRes X.K S H H' fp md z v → q z → Q v H') → r' vx vy H Q
structure DCall (X : Cx) (md : SK) (f : Value) (r : List D → (D → Prop) → Prop) : Prop where
  h : ∃ r', CallR X f r' ∧ ∀ S H ds vs q Q, Reps X.K S H ds vs → r ds q → (∀ v H' z fp, Same H H' → VRes X.K S H H' fp md z v → q z → Q v H') → r' vs H Q
def outM (lo : Bool) (md : SK) : SK := if lo then .lo else md
def isV (m : SK) : Prop := m = .cl ∨ m = .lo
section
variable {K : PySem.W.Frag} {κ : List SK} {G : G0} {O : Addr → Prop} {ρ : EnvD} {σ : St} {H H' : Hp}
theorem VRes.up {md : SK} {fp : List Addr} {d : D} {v : V} (hE : EnvOk K κ G O ρ σ H) (s : Same H H') (h : VRes K (uni G.S0 O) H H' fp md d v) (hm : md ≠ .lo) : EnvOk K κ (G.plus fp) O ρ σ H' ∧ VOk K G.S0 O H H' fp md d v := by
  cases md with
  | lo => exact absurd rfl hm
  | io n => exact h.elim
  | cl =>
    obtain ⟨rfl, h⟩ := h
    exact ⟨by rw [plus_nil]; exact hE.same0 s, rfl, h⟩
  | ow n =>
    obtain ⟨nd, h2, h3⟩ := h
    refine ⟨hE.same s fun a ha => ⟨(h2 a ha).1, ?_⟩, nd, fun a ha => ⟨(h2 a ha).1, fun z => ?_, (h2 a ha).2⟩, ?_⟩
    · obtain ⟨_, o, e, _⟩ := h2 a ha; rw [e]; simp
    · obtain ⟨o, e, _⟩ := hE.mutO a z
      rw [(h2 a ha).1] at e; cases e
    · have eq2 : ∀ a, uni (uni G.S0 (fpS fp)) O a → uni (uni G.S0 O) (fpS fp) a := fun a => by simp only [uni]; rintro ((h | h) | h) <;> simp [h]
      exact Own.go (.less eq2) n fp d v (fun _ _ _ h => h) h3
theorem VRes.upL {md : SK} {fp : List Addr} {d : D} {v : V} (hE : EnvOk K κ G O ρ σ H) (s : Same H H') (h : VRes K G.S0 H H' fp md d v) : EnvOk K κ (G.plus []) O ρ σ H' ∧ VOk K G.S0 O H H' [] .lo d v := by
  refine ⟨by rw [plus_nil]; exact hE.same0 s, rfl, ?_⟩
  cases md with
  | lo => exact h.2
  | cl => exact h.2
  | io n => exact h.elim
  | ow n =>
    obtain ⟨nd, h2, h3⟩ := h
    refine Own.rep n fp d v (fun a ha z => ?_) (fun a z => .inl z) h3
    exact hE.s0 a z (h2 a ha).1
end
end L2

set_option maxRecDepth 100000
namespace L2
open PySem PySem.Spec PyProof.Rows
mutual
def pyEq : D → D → Bool
  | .non, .non => true
  | .bl a, .bl b => a == b
  | .bl a, .int b => (if a then 1 else 0) == b
  | .int a, .bl b => a == (if b then 1 else 0)
  | .int a, .int b => a == b
  | .str a, .str b => a == b
  | .tup a, .tup b => pyEqs a b
  | .lst a, .lst b => pyEqs a b
  | _, _ => false
def pyEqs : List D → List D → Bool
  | [], [] => true
  | x :: xs, y :: ys => pyEq x y && pyEqs xs ys
  | _, _ => false
end
def okE : Nat → D → Bool
  | _, .non => true
  | _, .bl _ => true
  | _, .int _ => true
  | _, .str _ => true
  | n + 1, .tup l => l.all (okE n)
  | n + 1, .lst l => l.all (okE n)
  | _, _ => false
structure EqAll (A : Around) (s : Shared) (u v : Value) (b : Bool) : Prop where
  e : SeqAt.EqAt A s u v b
  r : SeqAt.RcAt A s u v b
  n : SeqAt.RcNeAt A s u v (!b)
section
variable {A : Around} {s : Shared}
open SeqAt
theorem flatAll {x y : V} {u v : Value} (rx : RelV x u) (ry : RelV y v) (fx : flatV x = true) (fy : flatV y = true) : EqAll A s u v (eqV x y) := by
  refine ⟨eqAt_V rx ry fx fy, ?_, ?_⟩
  · cases x with
    | non =>
      cases rx
      cases y with
      | non => cases ry; exact .none_none
      | bl b => cases ry; exact .none_bool b
      | int b => obtain ⟨t, rfl⟩ := ry; exact .none_int b t
      | str b => obtain ⟨t, rfl⟩ := ry; exact .none_str b t
      | _ => cases fy
    | bl a =>
      cases rx
      cases y with
      | non => cases ry; exact .bool_none a
      | bl b => cases ry; exact .bool_bool a b
      | int b => obtain ⟨t, rfl⟩ := ry; exact .bool_int a b t
      | str b => obtain ⟨t, rfl⟩ := ry; exact .bool_str a b t
      | _ => cases fy
    | int a =>
      obtain ⟨t', rfl⟩ := rx
      cases y with
      | non => cases ry; exact .int_none a t'
      | bl b => cases ry; exact .int_bool a t' b
      | int b => obtain ⟨t, rfl⟩ := ry; exact .int_int a t' b t
      | str b => obtain ⟨t, rfl⟩ := ry; exact .int_str a t' b t
      | _ => cases fy
    | str a =>
      obtain ⟨t', rfl⟩ := rx
      cases y with
      | non => cases ry; exact .str_none a t'
      | bl b => cases ry; exact .str_bool a t' b
      | int b => obtain ⟨t, rfl⟩ := ry; exact .str_int a t' b t
      | str b => obtain ⟨t, rfl⟩ := ry; exact .str_str a t' b t
      | _ => cases fy
    | _ => cases fx
  · cases x with
    | non =>
      cases rx
      cases y with
      | non => cases ry; exact .none_none
      | bl b => cases ry; exact .none_bool b
      | int b => obtain ⟨t, rfl⟩ := ry; exact .none_int b t
      | str b => obtain ⟨t, rfl⟩ := ry; exact .none_str b t
      | _ => cases fy
    | bl a =>
      cases rx
      cases y with
      | non => cases ry; exact .bool_none a
      | bl b => cases ry; exact .bool_bool a b
      | int b => obtain ⟨t, rfl⟩ := ry; exact .bool_int a b t
      | str b => obtain ⟨t, rfl⟩ := ry; exact .bool_str a b t
      | _ => cases fy
    | int a =>
      obtain ⟨t', rfl⟩ := rx
      cases y with
      | non => cases ry; exact .int_none a t'
      | bl b => cases ry; exact .int_bool a t' b
      | int b => obtain ⟨t, rfl⟩ := ry; exact .int_int a t' b t
      | str b => obtain ⟨t, rfl⟩ := ry; exact .int_str a t' b t
      | _ => cases fy
    | str a =>
      obtain ⟨t', rfl⟩ := rx
      cases y with
      | non => cases ry; exact .str_none a t'
      | bl b => cases ry; exact .str_bool a t' b
      | int b => obtain ⟨t, rfl⟩ := ry; exact .str_int a t' b t
      | str b => obtain ⟨t, rfl⟩ := ry; exact .str_str a t' b t
      | _ => cases fy
    | _ => cases fx
theorem flatList {x : V} {u : Value} {l : Addr} {items : Array Value} (rx : RelV x u) (fx : flatV x = true) (hl : s.heap.IsList l items) (hu : A.units < cLine) : EqAll A s u (.ref l) false ∧ EqAll A s (.ref l) u false := by
  cases x with
  | non => cases rx; exact ⟨⟨.none_list hl hu, .none_list hl hu, .none_list hl hu⟩, .list_none hl hu, .list_none hl hu, .list_none hl hu⟩
  | bl c => cases rx; exact ⟨⟨.bool_list c hl hu, .bool_list c hl hu, .bool_list c hl hu⟩, .list_bool c hl hu, .list_bool c hl hu, .list_bool c hl hu⟩
  | int c => obtain ⟨t, rfl⟩ := rx; exact ⟨⟨.int_list c t hl hu, .int_list c t hl hu, .int_list c t hl hu⟩, .list_int c t hl hu, .list_int c t hl hu, .list_int c t hl hu⟩
  | str c => obtain ⟨t, rfl⟩ := rx; exact ⟨⟨.str_list c t hl hu, .str_list c t hl hu, .str_list c t hl hu⟩, .list_str c t hl hu, .list_str c t hl hu, .list_str c t hl hu⟩
  | _ => cases fx
theorem flatTup {x : V} {u : Value} {l : Addr} {items : Array Value} (rx : RelV x u) (fx : flatV x = true) (hl : s.heap.IsTuple l items) (hu : A.units < cLine) : EqAll A s u (.ref l) false ∧ EqAll A s (.ref l) u false := by
  cases x with
  | non => cases rx; exact ⟨⟨.none_tuple hl hu, .none_tuple hl hu, .none_tuple hl hu⟩, .tuple_none hl hu, .tuple_none hl hu, .tuple_none hl hu⟩
  | bl c => cases rx; exact ⟨⟨.bool_tuple c hl hu, .bool_tuple c hl hu, .bool_tuple c hl hu⟩, .tuple_bool c hl hu, .tuple_bool c hl hu, .tuple_bool c hl hu⟩
  | int c => obtain ⟨t, rfl⟩ := rx; exact ⟨⟨.int_tuple c t hl hu, .int_tuple c t hl hu, .int_tuple c t hl hu⟩, .tuple_int c t hl hu, .tuple_int c t hl hu, .tuple_int c t hl hu⟩
  | str c => obtain ⟨t, rfl⟩ := rx; exact ⟨⟨.str_tuple c t hl hu, .str_tuple c t hl hu, .str_tuple c t hl hu⟩, .tuple_str c t hl hu, .tuple_str c t hl hu, .tuple_str c t hl hu⟩
  | _ => cases fx
end
def flD : D → Option V
  | .non => some .non
  | .bl b => some (.bl b)
  | .int i => some (.int i)
  | .str x => some (.str x)
  | _ => none
theorem flD_flat {d : D} {v : V} (h : flD d = some v) : flatV v = true := by
  cases d <;> simp [flD] at h <;> subst h <;> rfl
theorem flD_rep {K : PySem.W.Frag} {S : Addr → Prop} {H : Hp} {d : D} {v w : V} (h : flD d = some v) (r : Rep K S H d w) : w = v := by
  cases d <;> simp [flD] at h <;> subst h <;> simpa only [Rep] using r
theorem pyEq_flat {d e : D} {v w : V} (h : flD d = some v) (h' : flD e = some w) : pyEq d e = eqV v w := by
  cases d <;> simp [flD] at h <;> subst h <;> cases e <;> simp [flD] at h' <;> subst h' <;> simp only [pyEq, eqV]
theorem okE_kind {n : Nat} {d : D} (h : okE n d = true) : (∃ v, flD d = some v) ∨ (∃ l, d = .tup l ∧ ∃ m, n = m + 1 ∧ l.all (okE m) = true) ∨ ∃ l, d = .lst l ∧ ∃ m, n = m + 1 ∧ l.all (okE m) = true := by
  cases d with
  | non => exact .inl ⟨_, rfl⟩
  | bl b => exact .inl ⟨_, rfl⟩
  | int i => exact .inl ⟨_, rfl⟩
  | str x => exact .inl ⟨_, rfl⟩
  | tup l => cases n with
    | zero => simp [okE] at h
    | succ m => simp only [okE] at h; exact .inr (.inl ⟨l, rfl, m, rfl, h⟩)
  | lst l => cases n with
    | zero => simp [okE] at h
    | succ m => simp only [okE] at h; exact .inr (.inr ⟨l, rfl, m, rfl, h⟩)
  | ty n => simp [okE] at h
  | scr n => simp [okE] at h
  | fz o u => simp [okE] at h
  | t2 l m a b => simp [okE] at h
  | dK ks l => simp [okE] at h
  | dT ks l => simp [okE] at h
theorem pyEqs_len : ∀ {a b : List D}, pyEqs a b = true → a.length = b.length
  | [], [], _ => rfl
  | _ :: _, [], h => by simp [pyEqs] at h
  | [], _ :: _, h => by simp [pyEqs] at h
  | x :: xs, y :: ys, h => by
    simp only [pyEqs, Bool.and_eq_true] at h
    simp [pyEqs_len h.2]
theorem pyEqs_range (f : Nat → Bool) : ∀ (a b : List D), (∀ (j : Nat) (x y : D), a[j]? = some x → b[j]? = some y → f j = pyEq x y) → ((List.range (min a.length b.length)).all f && a.length == b.length) = pyEqs a b
  | [], [], _ => rfl
  | _ :: _, [], h => by simp [pyEqs]
  | [], _ :: _, h => by simp [pyEqs]
  | x :: xs, y :: ys, h => by
    have ih := pyEqs_range (fun j => f (j + 1)) xs ys fun j x' y' e1 e2 => h (j + 1) x' y' (by simpa using e1) (by simpa using e2)
    rw [List.length_cons, List.length_cons, range_min]
    simp only [pyEqs]
    rw [← ih, h 0 x y rfl rfl, Bool.and_assoc]
    congr 2
    simp
mutual
theorem pyEq_self : ∀ (n : Nat) (d : D), okE n d = true → pyEq d d = true
  | _, .non, _ => rfl
  | _, .bl b, _ => by simp [pyEq]
  | _, .int b, _ => by simp [pyEq]
  | _, .str b, _ => by simp [pyEq]
  | n, .ty b, h => by simp [okE] at h
  | n, .scr b, h => by simp [okE] at h
  | n, .fz b _, h => by simp [okE] at h
  | n, .t2 _ _ _ _, h => by simp [okE] at h
  | n, .dK b _, h => by simp [okE] at h
  | n, .dT b _, h => by simp [okE] at h
  | 0, .tup l, h => by simp [okE] at h
  | 0, .lst l, h => by simp [okE] at h
  | n + 1, .tup l, h => by simp only [okE] at h; simp only [pyEq]; exact pyEqs_self n l h
  | n + 1, .lst l, h => by simp only [okE] at h; simp only [pyEq]; exact pyEqs_self n l h
theorem pyEqs_self : ∀ (n : Nat) (l : List D), l.all (okE n) = true → pyEqs l l = true
  | n, [], _ => rfl
  | n, d :: l, h => by
    rw [List.all_cons, Bool.and_eq_true] at h
    simp only [pyEqs]
    rw [pyEq_self n d h.1, pyEqs_self n l h.2]
    rfl
end
section
variable {X : Cx} {pins : List (Addr × Obj)} {σ : St} {H : Hp} {s : Shared} {S1 S2 : Addr → Prop}
theorem reps_same (I : Inv X pins σ H s) {n : Nat} (ih : ∀ (d e : D) (v : V), okE n d = true → okE n e = true → Rep X.K S1 H d v → Rep X.K S2 H e v → d = e) : ∀ (a b : List D) (vs : List V), a.all (okE n) = true → b.all (okE n) = true → Reps X.K S1 H a vs → Reps X.K S2 H b vs → a = b
  | [], [], _, _, _, _, _ => rfl
  | [], y :: ys, vs, _, _, h1, h2 => by
    simp only [Reps] at h1 h2
    obtain ⟨v, r, e, _⟩ := h2
    rw [h1] at e; cases e
  | x :: xs, [], vs, _, _, h1, h2 => by
    simp only [Reps] at h1 h2
    obtain ⟨v, r, e, _⟩ := h1
    rw [h2] at e; cases e
  | x :: xs, y :: ys, vs, o1, o2, h1, h2 => by
    rw [List.all_cons, Bool.and_eq_true] at o1 o2
    simp only [Reps] at h1 h2
    obtain ⟨v, r, rfl, h1, h1'⟩ := h1
    obtain ⟨v', r', e, h2, h2'⟩ := h2
    cases e
    rw [ih x y v o1.1 o2.1 h1 h2, reps_same I ih xs ys r o1.2 o2.2 h1' h2']
theorem rep_same (I : Inv X pins σ H s) : ∀ (n : Nat) (d e : D) (v : V), okE n d = true → okE n e = true → Rep X.K S1 H d v → Rep X.K S2 H e v → d = e := by
  intro n
  induction n with
  | zero =>
    intro d e v h1 h2 r1 r2
    rcases okE_kind h1 with ⟨v1, e1⟩ | ⟨l, rfl, m, e, _⟩ | ⟨l, rfl, m, e, _⟩
    · rcases okE_kind h2 with ⟨v2, e2⟩ | ⟨l, rfl, m, e, _⟩ | ⟨l, rfl, m, e, _⟩
      · have := flD_rep e1 r1; have := flD_rep e2 r2
        subst_vars
        cases d <;> simp [flD] at e1 <;> subst e1 <;> cases e <;> simp [flD] at e2 <;> subst_vars <;> rfl
      · cases e
      · cases e
    · cases e
    · cases e
  | succ n ih =>
    intro d e v h1 h2 r1 r2
    have fref : ∀ {d : D} {v1 : V} {a : Addr}, flD d = some v1 → Rep X.K S1 H d (.ref a) → False := fun h r => by
      have q := flD_rep h r; have f := flD_flat h; rw [← q] at f; cases f
    have fref2 : ∀ {d : D} {v1 : V} {a : Addr}, flD d = some v1 → Rep X.K S2 H d (.ref a) → False := fun h r => by
      have q := flD_rep h r; have f := flD_flat h; rw [← q] at f; cases f
    have kinds : ∀ {a : Addr} {xs ys : List V}, SqL X.K H a xs → SqT X.K H a ys → False := fun h h' => by
      obtain ⟨_, _, ⟨o, _, e, c, _⟩, _⟩ := I.list h
      obtain ⟨_, _, ⟨o', e', c', _⟩, _⟩ := I.tuple h'
      rw [e] at e'; cases e'; rw [c] at c'; simp at c'
    rcases okE_kind h1 with ⟨v1, e1⟩ | ⟨l, rfl, m, e', o1⟩ | ⟨l, rfl, m, e', o1⟩
    · rcases okE_kind h2 with ⟨v2, e2⟩ | ⟨l, rfl, m, e, _⟩ | ⟨l, rfl, m, e, _⟩
      · have := flD_rep e1 r1; have := flD_rep e2 r2
        subst_vars
        cases d <;> simp [flD] at e1 <;> subst e1 <;> cases e <;> simp [flD] at e2 <;> subst_vars <;> rfl
      · simp only [Rep] at r2; obtain ⟨a, vs, rfl, _⟩ := r2; exact (fref e1 r1).elim
      · simp only [Rep] at r2; obtain ⟨a, vs, rfl, _⟩ := r2; exact (fref e1 r1).elim
    · cases e'
      simp only [Rep] at r1
      obtain ⟨a, vs, rfl, q1, r1⟩ := r1
      rcases okE_kind h2 with ⟨v2, e2⟩ | ⟨l2, rfl, m, e, o2⟩ | ⟨l2, rfl, m, e, o2⟩
      · exact (fref2 e2 r2).elim
      · cases e
        simp only [Rep] at r2
        obtain ⟨a', vs', e, q2, r2⟩ := r2
        cases e
        cases I.tuple_inj q1 q2
        rw [reps_same I ih l l2 vs o1 o2 r1 r2]
      · simp only [Rep] at r2
        obtain ⟨a', vs', e, _, q2, r2⟩ := r2
        cases e
        exact (kinds (.inl q2) q1).elim
    · cases e'
      simp only [Rep] at r1
      obtain ⟨a, vs, rfl, _, q1, r1⟩ := r1
      rcases okE_kind h2 with ⟨v2, e2⟩ | ⟨l2, rfl, m, e, o2⟩ | ⟨l2, rfl, m, e, o2⟩
      · exact (fref2 e2 r2).elim
      · simp only [Rep] at r2
        obtain ⟨a', vs', e, q2, r2⟩ := r2
        cases e
        exact (kinds (.inl q1) q2).elim
      · cases e
        simp only [Rep] at r2
        obtain ⟨a', vs', e, _, q2, r2⟩ := r2
        cases e
        cases I.list_inj (.inl q1) (.inl q2)
        rw [reps_same I ih l l2 vs o1 o2 r1 r2]
open SeqAt in
theorem eqD_ok (I : Inv X pins σ H s) : ∀ (n : Nat) (A : Around) (d e : D) (x y : V) (u v : Value), okE n d = true → okE n e = true → A.units + n < cLine → Rep X.K S1 H d x → Rep X.K S2 H e y → RelV x u → RelV y v → EqAll A s u v (pyEq d e) := by
  intro n
  induction n with
  | zero =>
    intro A d e x y u v h1 h2 hu r1 r2 rx ry
    rcases okE_kind h1 with ⟨v1, e1⟩ | ⟨l, rfl, m, e, _⟩ | ⟨l, rfl, m, e, _⟩
    · rcases okE_kind h2 with ⟨v2, e2⟩ | ⟨l, rfl, m, e, _⟩ | ⟨l, rfl, m, e, _⟩
      · cases flD_rep e1 r1; cases flD_rep e2 r2
        rw [pyEq_flat e1 e2]
        exact flatAll rx ry (flD_flat e1) (flD_flat e2)
      · cases e
      · cases e
    · cases e
    · cases e
  | succ n ih =>
    intro A d e x y u v h1 h2 hu r1 r2 rx ry
    have hu0 : A.units < cLine := by omega
    have tl : ∀ {d e : D} {a b : Addr}, EqAll A s (.ref a) (.ref b) (pyEq d e) → True := fun _ => trivial
    rcases okE_kind h1 with ⟨v1, e1⟩ | ⟨l, rfl, m, em, o1⟩ | ⟨l, rfl, m, em, o1⟩
    · cases flD_rep e1 r1
      rcases okE_kind h2 with ⟨v2, e2⟩ | ⟨l, rfl, m, em, _⟩ | ⟨l, rfl, m, em, _⟩
      · cases flD_rep e2 r2
        rw [pyEq_flat e1 e2]
        exact flatAll rx ry (flD_flat e1) (flD_flat e2)
      · simp only [Rep] at r2
        obtain ⟨a, vs, rfl, q, _⟩ := r2
        cases ry
        obtain ⟨its, _, pl, _⟩ := I.tuple q
        have e : pyEq d (.tup l) = false := by cases d <;> simp [flD] at e1 <;> rfl
        rw [e]
        exact (flatTup rx (flD_flat e1) (show s.heap.IsTuple a its.toArray from pl) hu0).1
      · simp only [Rep] at r2
        obtain ⟨a, vs, rfl, _, q, _⟩ := r2
        cases ry
        obtain ⟨its, _, pl, _⟩ := I.list (.inl q)
        have e : pyEq d (.lst l) = false := by cases d <;> simp [flD] at e1 <;> rfl
        rw [e]
        exact (flatList rx (flD_flat e1) pl.isList hu0).1
    · cases em
      have k1 := r1
      simp only [Rep] at r1
      obtain ⟨a, vs, rfl, q, r1⟩ := r1
      cases rx
      obtain ⟨its, rv, pl, _⟩ := I.tuple q
      have pl : s.heap.IsTuple a its.toArray := pl
      rcases okE_kind h2 with ⟨v2, e2⟩ | ⟨l2, rfl, m, em, o2⟩ | ⟨l2, rfl, m, em, o2⟩
      · cases flD_rep e2 r2
        have e : pyEq (.tup l) e = false := by cases e <;> simp [flD] at e2 <;> rfl
        rw [e]
        exact (flatTup ry (flD_flat e2) pl hu0).2
      · cases em
        have k2 := r2
        simp only [Rep] at r2
        obtain ⟨b, ws, rfl, q2, r2⟩ := r2
        cases ry
        obtain ⟨its2, rw2, pl2, _⟩ := I.tuple q2
        have pl2 : s.heap.IsTuple b its2.toArray := pl2
        have l1 : l.length = its.toArray.size := by rw [List.size_toArray, ← rv.length, r1.len]
        have l2' : l2.length = its2.toArray.size := by rw [List.size_toArray, ← rw2.length, r2.len]
        have he : ∀ j (h1 : j < its.toArray.size) (h2 : j < its2.toArray.size), EqAt A.in1 s its.toArray[j] its2.toArray[j] ((l[j]?.bind fun x => l2[j]?.bind fun y => some (pyEq x y)).getD false) := fun j j1 j2 => by
          obtain ⟨x', ex', rx'⟩ := rv.get2 (j := j) (u := its.toArray[j]) (arr_get j1)
          obtain ⟨y', ey', ry'⟩ := rw2.get2 (j := j) (u := its2.toArray[j]) (arr_get j2)
          obtain ⟨d1, ed1, rd1⟩ := r1.get' ex'
          obtain ⟨d2, ed2, rd2⟩ := r2.get' ey'
          simp only [ed1, ed2, Option.bind_some, Option.getD_some]
          exact (ih A.in1 d1 d2 x' y' _ _ (List.all_eq_true.mp o1 d1 (List.mem_of_getElem? ed1)) (List.all_eq_true.mp o2 d2 (List.mem_of_getElem? ed2)) (by show A.units + 1 + n < cLine; omega) rd1 rd2 rx' ry').e
        have ev : pyEq (.tup l) (.tup l2) = ((List.range (min its.toArray.size its2.toArray.size)).all (fun j => (l[j]?.bind fun x => l2[j]?.bind fun y => some (pyEq x y)).getD false) && its.toArray.size == its2.toArray.size) := by
          simp only [pyEq]
          rw [← l1, ← l2', pyEqs_range _ l l2 fun j x y e1 e2 => by simp [e1, e2]]
        have q1 := RcAt.tuples pl pl2 hu0 he
        have q2 := RcNeAt.tuples pl pl2 hu0 he
        rw [← ev] at q1 q2
        refine ⟨?_, q1, q2⟩
        by_cases hab : a = b
        · subst hab
          have z := rep_same I (n + 1) _ _ _ h1 h2 k1 k2
          rw [← z, pyEq_self (n + 1) _ h1]
          exact .same _
        · exact .of_refs hab q1
      · simp only [Rep] at r2
        obtain ⟨b, ws, rfl, _, q2, r2⟩ := r2
        cases ry
        obtain ⟨its2, rw2, pl2, _⟩ := I.list (.inl q2)
        have e : pyEq (.tup l) (.lst l2) = false := rfl
        rw [e]
        exact ⟨.tuple_list pl pl2.isList hu0, .tuple_list pl pl2.isList hu0, .tuple_list pl pl2.isList hu0⟩
    · cases em
      have k1 := r1
      simp only [Rep] at r1
      obtain ⟨a, vs, rfl, _, q, r1⟩ := r1
      cases rx
      obtain ⟨its, rv, pl, _⟩ := I.list (.inl q)
      rcases okE_kind h2 with ⟨v2, e2⟩ | ⟨l2, rfl, m, em, o2⟩ | ⟨l2, rfl, m, em, o2⟩
      · cases flD_rep e2 r2
        have e : pyEq (.lst l) e = false := by cases e <;> simp [flD] at e2 <;> rfl
        rw [e]
        exact (flatList ry (flD_flat e2) pl.isList hu0).2
      · simp only [Rep] at r2
        obtain ⟨b, ws, rfl, q2, r2⟩ := r2
        cases ry
        obtain ⟨its2, rw2, pl2, _⟩ := I.tuple q2
        have pl2 : s.heap.IsTuple b its2.toArray := pl2
        have e : pyEq (.lst l) (.tup l2) = false := rfl
        rw [e]
        exact ⟨.list_tuple pl.isList pl2 hu0, .list_tuple pl.isList pl2 hu0, .list_tuple pl.isList pl2 hu0⟩
      · cases em
        have k2 := r2
        simp only [Rep] at r2
        obtain ⟨b, ws, rfl, _, q2, r2⟩ := r2
        cases ry
        obtain ⟨its2, rw2, pl2, _⟩ := I.list (.inl q2)
        have l1 : l.length = its.toArray.size := by rw [List.size_toArray, ← rv.length, r1.len]
        have l2' : l2.length = its2.toArray.size := by rw [List.size_toArray, ← rw2.length, r2.len]
        have he : ∀ j (h1 : j < its.toArray.size) (h2 : j < its2.toArray.size), EqAt A.in1 s its.toArray[j] its2.toArray[j] ((l[j]?.bind fun x => l2[j]?.bind fun y => some (pyEq x y)).getD false) := fun j j1 j2 => by
          obtain ⟨x', ex', rx'⟩ := rv.get2 (j := j) (u := its.toArray[j]) (arr_get j1)
          obtain ⟨y', ey', ry'⟩ := rw2.get2 (j := j) (u := its2.toArray[j]) (arr_get j2)
          obtain ⟨d1, ed1, rd1⟩ := r1.get' ex'
          obtain ⟨d2, ed2, rd2⟩ := r2.get' ey'
          simp only [ed1, ed2, Option.bind_some, Option.getD_some]
          exact (ih A.in1 d1 d2 x' y' _ _ (List.all_eq_true.mp o1 d1 (List.mem_of_getElem? ed1)) (List.all_eq_true.mp o2 d2 (List.mem_of_getElem? ed2)) (by show A.units + 1 + n < cLine; omega) rd1 rd2 rx' ry').e
        have fin : RcAt A s (.ref a) (.ref b) (pyEq (.lst l) (.lst l2)) ∧ RcNeAt A s (.ref a) (.ref b) (!pyEq (.lst l) (.lst l2)) := by
          by_cases hl : its.toArray.size = its2.toArray.size
          · have ev : pyEq (.lst l) (.lst l2) = (List.range its.toArray.size).all (fun j => (l[j]?.bind fun x => l2[j]?.bind fun y => some (pyEq x y)).getD false) := by
              simp only [pyEq]
              rw [← pyEqs_range (fun j => (l[j]?.bind fun x => l2[j]?.bind fun y => some (pyEq x y)).getD false) l l2 fun j x y e1 e2 => by simp [e1, e2], l1, l2', ← hl, Nat.min_self, beq_self_eq_true, Bool.and_true]
            have q1 := RcAt.lists pl.isList pl2.isList hl hu0 he
            have q2 := RcNeAt.lists pl.isList pl2.isList hl hu0 he
            rw [← ev] at q1 q2
            exact ⟨q1, q2⟩
          · have ev : pyEq (.lst l) (.lst l2) = false := by
              simp only [pyEq]
              cases z : pyEqs l l2 with
              | false => rfl
              | true => exact absurd (by rw [← l1, ← l2', pyEqs_len z]) hl
            rw [ev]
            exact ⟨RcAt.lists_lengths pl.isList pl2.isList (by simpa using hl) hu0, RcNeAt.lists_lengths pl.isList pl2.isList (by simpa using hl) hu0⟩
        refine ⟨?_, fin.1, fin.2⟩
        by_cases hab : a = b
        · subst hab
          have z := rep_same I (n + 1) _ _ _ h1 h2 k1 k2
          rw [← z, pyEq_self (n + 1) _ h1]
          exact .same _
        · exact .of_refs hab fin.1
end
end L2

set_option maxRecDepth 100000
namespace L2
open PySem PySem.Spec PyProof.Rows
def Sx (lo : Bool) (S0 O : Addr → Prop) : Addr → Prop := if lo then S0 else uni S0 O
section
variable {K : PySem.W.Frag} {κ : List SK} {G : G0} {O O1 O2 : Addr → Prop} {ρ ρ1 ρ2 : EnvD} {σ : St} {H H1 H2 H' : Hp} {S0 : Addr → Prop}
theorem VOk.base {fp : List Addr} {md : SK} {d : D} {v : V} (s : Step O O1 H H1) (h : VOk K S0 O2 H1 H' fp md d v) : VOk K S0 O2 H H' fp md d v := by
  cases md with
  | cl => exact h
  | lo => exact h
  | io n => exact h
  | ow n =>
    obtain ⟨nd, h2, h3⟩ := h
    refine ⟨nd, fun a ha => ⟨?_, (h2 a ha).2⟩, h3⟩
    cases e : H a with
    | none => rfl
    | some o => exact absurd (h2 a ha).1 (s.dom a (by rw [e]; simp))
theorem VOk.after {fp : List Addr} {m : SK} {d : D} {v : V} {lo : Bool} (hm : isV m) (hlo : m = .lo → lo = true ∧ Same H1 H2) (hmu : ∀ a, O1 a → ∃ o, H1 a = some o ∧ isM o) (s : Step O1 O2 H1 H2) (vo : VOk K S0 O1 H H1 fp m d v) : Rep K (Sx lo S0 O2) H2 d v := by
  rcases hm with rfl | rfl
  · have r := Rep.go (Goes.step hmu s) d v vo.2
    cases lo with
    | false => exact r
    | true => exact Rep.go (.less fun _ z => .inl z) d v r
  · obtain ⟨rfl, sm⟩ := hlo rfl
    exact Rep.go (Goes.same sm) d v vo.2
theorem VOk.now {fp : List Addr} {m : SK} {d : D} {v : V} {lo : Bool} (hm : isV m) (hlo : m = .lo → lo = true) (vo : VOk K S0 O1 H H1 fp m d v) : Rep K (Sx lo S0 O1) H1 d v := by
  rcases hm with rfl | rfl
  · cases lo with
    | false => exact vo.2
    | true => exact Rep.go (.less fun _ z => .inl z) d v vo.2
  · cases hlo rfl
    exact vo.2
theorem VRes.fin {md : SK} {fp : List Addr} {d : D} {v : V} {lo : Bool} (hE : EnvOk K κ G O2 ρ2 σ H2) (st : Step O O2 H H2) (s : Same H2 H') (h : VRes K (Sx lo G.S0 O2) H2 H' fp md d v) (hm : md ≠ .lo) : ∃ fp', Step O O2 H H' ∧ EnvOk K κ (G.plus fp') O2 ρ2 σ H' ∧ VOk K G.S0 O2 H H' fp' (outM lo md) d v := by
  cases lo with
  | false =>
    obtain ⟨h1, h2⟩ := VRes.up hE s h hm
    exact ⟨fp, st.trans (.of_same s), h1, h2.base st⟩
  | true =>
    obtain ⟨h1, h2⟩ := VRes.upL hE s h
    exact ⟨[], st.trans (.of_same s), h1, h2.base st⟩
theorem Pu.and {p1 p2 : Bool} (h1 : Pu p1 ρ ρ1 O O1 H H1) (h2 : Pu p2 ρ1 ρ2 O1 O2 H1 H2) : Pu (p1 && p2) ρ ρ2 O O2 H H2 := fun h => by
  rw [Bool.and_eq_true] at h
  obtain ⟨a, b, c⟩ := h1 h.1
  obtain ⟨a', b', c'⟩ := h2 h.2
  exact ⟨a.trans a', b'.trans b, c'.trans c⟩
theorem Pu.same {p : Bool} (h1 : Pu p ρ ρ1 O O1 H H1) (s : Same H1 H') : Pu p ρ ρ1 O O1 H H' := fun h => let ⟨a, b, c⟩ := h1 h; ⟨a.trans s, b, c⟩
theorem Pu.refl {p : Bool} : Pu p ρ ρ O O H H := fun _ => ⟨.refl _, rfl, rfl⟩
end

def eOp (r : D → D → (D → Prop) → Prop) (Ea Eb : DTE) : DTE := fun ρ q => Ea ρ fun x ρ1 => Eb ρ1 fun y ρ2 => r x y fun z => q z ρ2
def eTest (E : DTE) : DTT := fun ρ q => E ρ fun x ρ' => ∃ b, x = .bl b ∧ q b ρ'
def loB : SK → Bool
  | .lo => true
  | _ => false
section
variable {X : Cx} {κ : List SK} {pu1 pu2 pu3 : Bool} {m1 m2 md : SK} {a b c e : Expr} {pos : Pos} {Ea Eb Ec E : DTE} {r r2 : D → D → (D → Prop) → Prop}
theorem op_go {f : Value → Value → Sem Value} {r' : R2} (hr : ∀ S H dx dy vx vy q Q, Rep X.K S H dx vx → Rep X.K S H dy vy → r dx dy q → (∀ v H' z fp, Same H H' → VRes X.K S H H' fp md z v → q z → Q v H') → r' vx vy H Q) (v1 : isV m1) (v2 : isV m2) (hp : m1 = .lo → pu2 = true) (hm : md ≠ .lo)
    {σ : St} {H : Hp} {Q : VK} (h : tD X.K κ (pu1 && pu2) (outM (loB m1 || loB m2) md) (eOp r Ea Eb) σ H Q) : tOp r' (tD X.K κ pu1 m1 Ea) (tD X.K κ pu2 m2 Eb) σ H Q := by
  obtain ⟨G, O, ρ, q, hE, hq, k⟩ := h
  refine ⟨G, O, ρ, _, hE, hq, fun vx H1 dx ρ1 O1 fp s1 e1 vo1 p1 hq1 => ⟨G, O1, ρ1, _, e1.drop, hq1, fun vy H2 dy ρ2 O2 fp2 s2 e2 vo2 p2 hq2 => ?_⟩⟩
  have e2 := e2.drop
  have rx : Rep X.K (Sx (loB m1 || loB m2) G.S0 O2) H2 dx vx := vo1.after v1 (fun z => ⟨by rw [z]; rfl, (p2 (hp z)).1⟩) e1.drop.mutO s2
  have ry : Rep X.K (Sx (loB m1 || loB m2) G.S0 O2) H2 dy vy := vo2.now v2 (fun z => by rw [z]; simp [loB])
  refine hr _ H2 dx dy vx vy _ Q rx ry hq2 fun v H' z fp3 sm vr hz => ?_
  obtain ⟨fp', st, en, vo⟩ := VRes.fin e2 (s1.trans s2) sm vr hm
  exact k v H' z ρ2 O2 fp' st en vo ((p1.and p2).same sm) hz
theorem dop {op : Operator} (ho : DOp X md (binaryOp op) r) (v1 : isV m1) (v2 : isV m2) (hp : m1 = .lo → pu2 = true) (hm : md ≠ .lo) (ha : DE X κ pu1 m1 a Ea) (hb : DE X κ pu2 m2 b Eb) : DE X κ (pu1 && pu2) (outM (loB m1 || loB m2) md) (.BinOp a op b pos) (eOp r Ea Eb) := by
  obtain ⟨r', h1, h2⟩ := ho.h
  exact ⟨(pe_op h1 ha.h hb.h).weak fun σ H Q h => op_go (f := binaryOp op) h2 v1 v2 hp hm h⟩
theorem dcmp {op : CmpOp} (hmk : behindInMarks op b = false) (ho : DOp X .cl (compareOp op) r) (v1 : isV m1) (v2 : isV m2) (hp : m1 = .lo → pu2 = true) (ha : DE X κ pu1 m1 a Ea) (hb : DE X κ pu2 m2 b Eb) : DE X κ (pu1 && pu2) (outM (loB m1 || loB m2) .cl) (.Compare a [op] [b] pos) (eOp r Ea Eb) := by
  obtain ⟨r', h1, h2⟩ := ho.h
  exact ⟨(pe_cmpR h1 ha.h hb.h hmk).weak fun σ H Q h => op_go (f := compareOp op) h2 v1 v2 hp (by simp) h⟩
theorem tdt_test {E : DTE} {pu : Bool} {md : SK} {σ : St} {H : Hp} {Q : Bool → Hp → Prop} (h : tDT X.K κ pu (eTest E) σ H Q) : tTest (tD X.K κ pu md E) σ H Q := by
  obtain ⟨G, O, ρ, q, hE, hq, k⟩ := h
  refine ⟨G, O, ρ, _, hE, hq, fun v H' d ρ' O' fp s e vo p ⟨b, e1, hb⟩ => ?_⟩
  subst e1
  have ev : v = .bl b := by
    cases md with
    | cl => simpa only [Rep] using vo.2
    | lo => simpa only [Rep] using vo.2
    | io n => exact vo.elim
    | ow n =>
      cases n with
      | zero => have := vo.2.2; simp only [Own, Rep] at this; exact this.2
      | succ n =>
        have := vo.2.2
        simp only [Own] at this
        obtain ⟨_, _, _, _, h⟩ := this
        rcases h with ⟨_, _, z, _⟩ | ⟨_, _, _, z, _⟩ | ⟨_, _, _, z, _⟩ <;> cases z
  exact ⟨b, ev, k b H' ρ' O' s e.drop p hb⟩
theorem dtcmp {op : CmpOp} (hmk : behindInMarks op b = false) (ho : DOp X .cl (compareOp op) r) (v1 : isV m1) (v2 : isV m2) (hp : m1 = .lo → pu2 = true) (ha : DE X κ pu1 m1 a Ea) (hb : DE X κ pu2 m2 b Eb) : DT X κ (pu1 && pu2) (.Compare a [op] [b] pos) (eTest (eOp r Ea Eb)) := by
  obtain ⟨r', h1, h2⟩ := ho.h
  exact ⟨(pt_cmpR h1 ha.h hb.h hmk).weak fun σ H Q h => op_go (f := compareOp op) h2 v1 v2 hp (by simp) (tdt_test (md := outM (loB m1 || loB m2) .cl) h)⟩
theorem dtval {E : DTE} {pu : Bool} (he : ∀ whole, isTrue e X.env whole = (do let v ← whole; standAt e.pos; holding [v] (truthy v))) (h : DE X κ pu md e E) : DT X κ pu e (eTest E) := ⟨(pt_val h.h he).weak fun σ H Q h => tdt_test h⟩

theorem rep_bl {K : PySem.W.Frag} {S : Addr → Prop} {H : Hp} {b : Bool} {v : V} (h : Rep K S H (.bl b) v) : v = .bl b := by simpa only [Rep] using h
end

def eOrT (T U : DTT) : DTT := fun ρ q => T ρ fun c ρ1 => if c = true then q true ρ1 else U ρ1 q
def eNotT (T : DTT) : DTT := fun ρ q => T ρ fun c ρ1 => q (!c) ρ1
def eAndV (Ea Eb : DTE) : DTE := fun ρ q => Ea ρ fun x ρ1 => ∃ c, x = .bl c ∧ if c = true then Eb ρ1 q else q (.bl false) ρ1
def eIf (T : DTT) (Ea Eb : DTE) : DTE := fun ρ q => T ρ fun c ρ1 => if c = true then Ea ρ1 q else Eb ρ1 q
section
variable {X : Cx} {κ : List SK} {pu pu1 pu2 pu3 : Bool} {m1 m2 md : SK} {a b c e : Expr} {rest : List Expr} {pos : Pos} {Ea Eb Ec E : DTE} {T U : DTT}
theorem done {op} (h : DE X κ pu md a E) : DE X κ pu md (.BoolOp op [a] pos) E := ⟨pe_one h.h⟩
theorem dand (ha : DE X κ pu1 .cl a Ea) (hb : DE X κ pu2 .cl (.BoolOp .And (b :: rest) pos) Eb) : DE X κ (pu1 && pu2) .cl (.BoolOp .And (a :: b :: rest) pos) (eAndV Ea Eb) := by
  refine ⟨(pe_and ha.h hb.h).weak fun σ H Q ⟨G, O, ρ, q, hE, hq, k⟩ => ⟨G, O, ρ, _, hE, hq, fun vx H1 dx ρ1 O1 fp s1 e1 vo1 p1 ⟨c, ec, hc⟩ => ?_⟩⟩
  subst ec
  refine ⟨c, rep_bl vo1.2, ?_⟩
  cases c with
  | false =>
    rw [if_neg Bool.false_ne_true] at hc ⊢
    exact k (.bl false) H1 _ ρ1 O1 [] s1 (by rw [plus_nil]; exact e1.drop) ⟨rfl, by simp only [Rep]⟩ (fun h => p1 (by rw [Bool.and_eq_true] at h; exact h.1)) hc
  | true =>
    rw [if_pos rfl] at hc ⊢
    exact ⟨G, O1, ρ1, _, e1.drop, hc, fun vy H2 dy ρ2 O2 fp2 s2 e2 vo2 p2 hq2 => k vy H2 dy ρ2 O2 fp2 (s1.trans s2) e2 vo2 (p1.and p2) hq2⟩
theorem dneg (ha : DE X κ pu1 .cl a Ea) : DE X κ pu1 .cl (.UnaryOp .USub a pos) (fun ρ q => Ea ρ fun x ρ1 => ∃ i, x = .int i ∧ q (.int (-i)) ρ1) := by
  refine ⟨(pe_un un_neg ha.h).weak fun σ H Q ⟨G, O, ρ, q, hE, hq, k⟩ => ⟨G, O, ρ, _, hE, hq, fun vx H1 dx ρ1 O1 fp s1 e1 vo1 p1 ⟨c, ec, hc⟩ => ?_⟩⟩
  subst ec
  exact ⟨c, by simpa only [Rep] using vo1.2, k _ H1 _ ρ1 O1 [] s1 (by rw [plus_nil]; exact e1.drop) ⟨rfl, by simp only [Rep]⟩ p1 hc⟩
theorem difx (hc : DT X κ pu1 c T) (ha : DE X κ pu2 md a Ea) (hb : DE X κ pu3 md b Eb) : DE X κ (pu1 && (pu2 && pu3)) md (.IfExp c a b pos) (eIf T Ea Eb) := by
  refine ⟨(pe_ifExp hc.h ha.h hb.h).weak fun σ H Q ⟨G, O, ρ, q, hE, hq, k⟩ => ⟨G, O, ρ, _, hE, hq, fun cb H1 ρ1 O1 s1 e1 p1 hc => ?_⟩⟩
  cases cb with
  | true =>
    rw [if_pos rfl] at hc ⊢
    exact ⟨G, O1, ρ1, _, e1, hc, fun vy H2 dy ρ2 O2 fp2 s2 e2 vo2 p2 hq2 => k vy H2 dy ρ2 O2 fp2 (s1.trans s2) e2 (vo2.base s1) (fun h => by rw [Bool.and_eq_true, Bool.and_eq_true] at h; exact (p1.and p2) (by rw [h.1, h.2.1]; rfl)) hq2⟩
  | false =>
    rw [if_neg Bool.false_ne_true] at hc ⊢
    exact ⟨G, O1, ρ1, _, e1, hc, fun vy H2 dy ρ2 O2 fp2 s2 e2 vo2 p2 hq2 => k vy H2 dy ρ2 O2 fp2 (s1.trans s2) e2 (vo2.base s1) (fun h => by rw [Bool.and_eq_true, Bool.and_eq_true] at h; exact (p1.and p2) (by rw [h.1, h.2.2]; rfl)) hq2⟩
theorem dwor1 (ha : DT X κ pu a T) : DW X κ pu (.BoolOp .Or [a] pos) T := ⟨pw_or1 ha.h⟩
theorem dwor (ha : DT X κ pu1 a T) (hb : DW X κ pu2 (.BoolOp .Or (b :: rest) pos) U) : DW X κ (pu1 && pu2) (.BoolOp .Or (a :: b :: rest) pos) (eOrT T U) := by
  refine ⟨(pw_or ha.h hb.h).weak fun σ H Q ⟨G, O, ρ, q, hE, hq, k⟩ => ⟨G, O, ρ, _, hE, hq, fun cb H1 ρ1 O1 s1 e1 p1 hc => ?_⟩⟩
  cases cb with
  | false =>
    rw [if_neg Bool.false_ne_true] at hc ⊢
    exact ⟨G, O1, ρ1, _, e1, hc, fun b H2 ρ2 O2 s2 e2 p2 hq2 => k b H2 ρ2 O2 (s1.trans s2) e2 (p1.and p2) hq2⟩
  | true =>
    rw [if_pos rfl] at hc ⊢
    exact k _ H1 ρ1 O1 s1 e1 (fun h => p1 (by rw [Bool.and_eq_true] at h; exact h.1)) hc
theorem dtw (h : DW X κ pu e T) : DT X κ pu e T := ⟨h.h.pt⟩
theorem dtnot (ha : DT X κ pu a T) : DT X κ pu (.UnaryOp .Not a pos) (eNotT T) := ⟨(pt_not ha.h).weak fun σ H Q ⟨G, O, ρ, q, hE, hq, k⟩ => ⟨G, O, ρ, _, hE, hq, fun b H1 ρ1 O1 s1 e1 p1 hc => k _ H1 ρ1 O1 s1 e1 p1 hc⟩⟩
end

section
variable (K : PySem.W.Frag)
def tDA (κ : List SK) (pu lo : Bool) (E : DTA) : TA := fun σ H Q => ∃ G O ρ q, EnvOk K κ G O ρ σ H ∧ E ρ q ∧
  ∀ vs H' ds ρ' O', Step O O' H H' → EnvOk K κ G O' ρ' σ H' → Reps K (Sx lo G.S0 O') H' ds vs → Pu pu ρ ρ' O O' H H' → q ds ρ' → Q vs H'
end
structure DA (X : Cx) (κ : List SK) (pu lo : Bool) (es : List Expr) (E : DTA) : Prop where
  h : PA X es (tDA X.K κ pu lo E)
theorem PA.weak {X : Cx} {es : List Expr} {t t' : TA} (h : PA X es t) (w : ∀ σ H Q, t' σ H Q → t σ H Q) : PA X es t' := fun pos pins s σ H Q I q => h pos pins s σ H Q I (w σ H Q q)
def eNil : DTA := fun ρ q => q [] ρ
def eCons (E : DTE) (A : DTA) : DTA := fun ρ q => E ρ fun x ρ1 => A ρ1 fun xs ρ2 => q (x :: xs) ρ2
def eTup (A : DTA) : DTE := fun ρ q => A ρ fun ds ρ' => ds.length ≤ sizeLine ∧ q (.tup ds) ρ'
def eLst (A : DTA) : DTE := fun ρ q => A ρ fun ds ρ' => ds.length ≤ sizeLine ∧ q (.lst ds) ρ'
def eCallB (r : List D → (D → Prop) → Prop) (A : DTA) : DTE := fun ρ q => A ρ fun ds ρ' => r ds fun z => q z ρ'
section
variable {X : Cx} {κ : List SK} {pu pu1 pu2 lo : Bool} {m md : SK} {e : Expr} {es : List Expr} {pos p : Pos} {E : DTE} {A : DTA} {x : Str} {id T : String} {r : List D → (D → Prop) → Prop}
theorem danil : DA X κ true false [] eNil := ⟨pa_nil.weak fun σ H Q ⟨G, O, ρ, q, hE, hq, k⟩ => k [] H [] ρ O (.refl _ _) hE (by simp only [Reps]) .refl hq⟩
theorem dac (hs : plainE e = true) (vm : isV m) (hp : m = .lo → pu2 = true) (ha : DE X κ pu1 m e E) (hr : DA X κ pu2 lo es A) : DA X κ (pu1 && pu2) (loB m || lo) (e :: es) (eCons E A) := by
  refine ⟨(pac hs ha.h hr.h).weak fun σ H Q ⟨G, O, ρ, q, hE, hq, k⟩ => ⟨G, O, ρ, _, hE, hq, fun vx H1 dx ρ1 O1 fp s1 e1 vo1 p1 hq1 => ⟨G, O1, ρ1, _, e1.drop, hq1, fun vs H2 ds ρ2 O2 s2 e2 r2 p2 hq2 => ?_⟩⟩⟩
  refine k (vx :: vs) H2 (dx :: ds) ρ2 O2 (s1.trans s2) e2 ?_ (p1.and p2) hq2
  simp only [Reps]
  refine ⟨vx, vs, rfl, vo1.after vm (fun z => ⟨by rw [z]; rfl, (p2 (hp z)).1⟩) e1.drop.mutO s2, ?_⟩
  cases lo with
  | true => rw [Bool.or_true]; exact r2
  | false =>
    cases m with
    | lo => exact Reps.go (.less fun _ z => .inl z) ds vs r2
    | cl => exact r2
    | ow n => exact r2
    | io n => exact r2
theorem vres_tup {K : PySem.W.Frag} {S : Addr → Prop} {H : Hp} {ds : List D} {vs : List V} {p : Addr} (h : Reps K S H ds vs) (hp : H p = none) : VRes K S H (upd H p (.tup vs)) [] .cl (.tup ds) (.ref p) := by
  refine ⟨rfl, ?_⟩
  simp only [Rep]
  exact ⟨p, vs, rfl, SqT.of upd_same, Reps.go (Goes.same (.new hp)) ds vs h⟩
theorem vres_lst {K : PySem.W.Frag} {S : Addr → Prop} {H : Hp} {ds : List D} {vs : List V} {p : Addr} (h : Reps K S H ds vs) (hp : H p = none) : VRes K S H (upd H p (.lst vs)) [p] (.ow 1) (.lst ds) (.ref p) := by
  refine ⟨by simp, fun a ha => ?_, ?_⟩
  · obtain rfl : a = p := by simpa using ha
    exact ⟨hp, _, upd_same, trivial⟩
  · simp only [Own]
    refine ⟨p, ds.map fun _ => [], rfl, by simp, .inl ⟨ds, vs, rfl, upd_same, by simp, h.len, fun i f x u e1 e2 e3 => ⟨?_, ?_⟩⟩⟩
    · rw [List.getElem?_map, e2] at e1; simpa using e1.symm
    · obtain ⟨u', e4, r⟩ := h.get e2
      rw [e3] at e4; cases e4
      have eq : uni S (fpS [p]) = uni S (· = p) := by funext a; simp [uni, fpS]
      rw [eq]
      exact Rep.go (Goes.fresh hp) x u r
theorem dtup {k} (h : DA X κ pu lo es A) : DE X κ pu (outM lo .cl) (.Tuple es k pos) (eTup A) := by
  refine ⟨(pe_tup h.h).weak fun σ H Q ⟨G, O, ρ, q, hE, hq, k⟩ => ⟨G, O, ρ, _, hE, hq, fun vs H1 ds ρ1 O1 s1 e1 r1 p1 ⟨hl, hq1⟩ => ⟨by rw [r1.len]; exact hl, fun p hp => ?_⟩⟩⟩
  obtain ⟨fp', st, en, vo⟩ := VRes.fin e1 s1 (.new hp) (vres_tup r1 hp) (by simp)
  exact k _ _ _ ρ1 O1 fp' st en vo (p1.same (.new hp)) hq1
theorem dlst (h : DA X κ pu lo es A) : DE X κ pu (outM lo (.ow 1)) (.List es pos) (eLst A) := by
  refine ⟨(pe_lst h.h).weak fun σ H Q ⟨G, O, ρ, q, hE, hq, k⟩ => ⟨G, O, ρ, _, hE, hq, fun vs H1 ds ρ1 O1 s1 e1 r1 p1 ⟨hl, hq1⟩ => ⟨by rw [r1.len]; exact hl, fun p hp => ?_⟩⟩⟩
  obtain ⟨fp', st, en, vo⟩ := VRes.fin e1 s1 (.new hp) (vres_lst r1 hp) (by simp)
  exact k _ _ _ ρ1 O1 fp' st en vo (p1.same (.new hp)) hq1
theorem callB_go {r' : List V → Hp → VK → Prop} (hr : ∀ S H ds vs q Q, Reps X.K S H ds vs → r ds q → (∀ v H' z fp, Same H H' → VRes X.K S H H' fp md z v → q z → Q v H') → r' vs H Q) (hm : md ≠ .lo) {σ : St} {H : Hp} {Q : VK}
    (h : tD X.K κ pu (outM lo md) (eCallB r A) σ H Q) : tCB r' (tDA X.K κ pu lo A) σ H Q := by
  obtain ⟨G, O, ρ, q, hE, hq, k⟩ := h
  refine ⟨G, O, ρ, _, hE, hq, fun vs H1 ds ρ1 O1 s1 e1 r1 p1 hq1 => hr _ H1 ds vs _ Q r1 hq1 fun v H' z fp sm vr hz => ?_⟩
  obtain ⟨fp', st, en, vo⟩ := VRes.fin e1 s1 sm vr hm
  exact k _ _ _ ρ1 O1 fp' st en vo (p1.same sm) hz
theorem dcb (hp : (e :: es).all plainE = true) (hn : x ≠ "__name__") (hdb : (x == ("__debug__" : Str)) = false) (hc : DCall X md (.builtin id) r) (hm : md ≠ .lo) (hg : Gl X x) (hmg : X.mg x = none) (hv : bootBuiltins x = some (.builtin id)) (ha : DA X κ pu lo (e :: es) A) : DE X κ pu (outM lo md) (.Call (.Name x p) (e :: es) [] pos) (eCallB r A) := by
  obtain ⟨r', h1, h2⟩ := hc.h
  exact ⟨(pcb hp hn hdb h1 hg hmg hv ha.h).weak fun σ H Q h => callB_go h2 hm h⟩
theorem dct (hp : (e :: es).all plainE = true) (hn : x ≠ "__name__") (hdb : (x == ("__debug__" : Str)) = false) (hc : DCall X md (.type T) r) (hm : md ≠ .lo) (hg : Gl X x) (hmg : X.mg x = none) (hv : bootBuiltins x = some (.type T)) (ha : DA X κ pu lo (e :: es) A) : DE X κ pu (outM lo md) (.Call (.Name x p) (e :: es) [] pos) (eCallB r A) := by
  obtain ⟨r', h1, h2⟩ := hc.h
  exact ⟨(pct hp hn hdb h1 hg hmg hv ha.h).weak fun σ H Q h => callB_go h2 hm h⟩
end
end L2

set_option maxRecDepth 100000
namespace L2
open PySem PySem.Spec PyProof.Rows
def setF (F : Nat → List Addr) (i : Nat) (f : List Addr) : Nat → List Addr := fun k => if k = i then f else F k
def OF (F : Nat → List Addr) : Addr → Prop := fun a => ∃ k, a ∈ F k
theorem setF_at {F : Nat → List Addr} {i : Nat} {f : List Addr} : setF F i f i = f := by simp [setF]
theorem setF_ne {F : Nat → List Addr} {i k : Nat} {f : List Addr} (h : k ≠ i) : setF F i f k = F k := by simp [setF, h]
def kl (κ : List SK) (ρ : EnvD) : EnvD := if κ.contains .lo then ρ.mapIdx fun i d => if kd κ i = .lo then none else d else ρ
theorem kl_len (κ : List SK) (ρ : EnvD) : (kl κ ρ).length = ρ.length := by unfold kl; split <;> simp
theorem kl_get {κ : List SK} {ρ : EnvD} {i : Nat} {d : D} (h : (kl κ ρ)[i]? = some (some d)) : ρ[i]? = some (some d) ∧ kd κ i ≠ .lo := by
  unfold kl at h
  split at h
  · rename_i hc
    rw [List.getElem?_mapIdx] at h
    cases e : ρ[i]? with
    | none => rw [e] at h; cases h
    | some o =>
      rw [e] at h
      simp only [Option.map_some, Option.some.injEq] at h
      split at h
      · cases h
      · rename_i hn; subst h; exact ⟨rfl, hn⟩
  · rename_i hc
    refine ⟨h, fun z => hc ?_⟩
    unfold kd at z
    rw [List.getD_eq_getElem?_getD] at z
    cases e : κ[i]? with
    | none => rw [e] at z; cases z
    | some k =>
      rw [e] at z
      have z : k = .lo := z
      subst z
      exact List.contains_iff_mem.mpr (List.mem_of_getElem? e)
section
variable {K : PySem.W.Frag} {κ : List SK} {G : G0} {O O' : Addr → Prop} {ρ : EnvD} {σ : St} {H H' : Hp} {F : Nat → List Addr}
theorem VOk.based {S0 : Addr → Prop} {H0 : Hp} {fp : List Addr} {md : SK} {d : D} {v : V} (hd : ∀ b, H0 b ≠ none → H b ≠ none) (h : VOk K S0 O' H H' fp md d v) : VOk K S0 O' H0 H' fp md d v := by
  cases md with
  | cl => exact h
  | lo => exact h
  | io n => exact h
  | ow n =>
    obtain ⟨nd, h2, h3⟩ := h
    refine ⟨nd, fun a ha => ⟨?_, (h2 a ha).2⟩, h3⟩
    cases e : H0 a with
    | none => rfl
    | some o => exact absurd (h2 a ha).1 (hd a (by rw [e]; simp))
theorem EnvF.chg {i n : Nat} {f' fp : List Addr} {d' : D} {v : V} (f : EnvF K κ G O ρ σ H F) (hk : dep (kd κ i) = some n) (keep : ∀ b o, b ∉ F i → H b = some o → H' b = some o) (dom : ∀ b, H b ≠ none → H' b ≠ none)
    (nd : f'.Nodup) (hf : ∀ a ∈ f', (a ∈ F i ∨ H a = none) ∧ ∃ o, H' a = some o ∧ isM o) (hfp : ∀ a ∈ fp, H a = none ∧ H' a ≠ none ∧ a ∉ f') (hv : σ[i]? = some (some v))
    (ho : Own K (uni (uni G.S0 (fpS fp)) (OF (setF F i f'))) H' n f' d' v) :
    EnvF K κ (G.plus fp) (OF (setF F i f')) (kl κ (ρ.set i (some d'))) σ H' (setF F i f') ∧ Step O (OF (setF F i f')) H H' := by
  have old : ∀ k a, k ≠ i → a ∈ F k → a ∉ F i := fun k a hki ha z => hki (f.dis k i a ha z)
  have inO : ∀ k a, a ∈ F k → O a := fun k a ha => (f.own a).mpr ⟨k, ha⟩
  have domF : ∀ k a, a ∈ F k → H a ≠ none := fun k a ha => by obtain ⟨_, o, e, _⟩ := f.mu k a ha; rw [e]; simp
  have g : Goes (uni G.S0 O) (uni (uni G.S0 (fpS fp)) (OF (setF F i f'))) H H' := by
    refine ⟨fun a xs q => ?_, fun a u nS q => ⟨?_, fun z => ?_⟩, fun a o u q => keep _ _ (fun z => by obtain ⟨_, o', e, m⟩ := f.mu i a z; rw [q] at e; cases e; exact m) q⟩
    · have nF : a ∉ F i := fun z => by
        obtain ⟨_, o, e, m⟩ := f.mu i a z
        rcases q with q | ⟨o', q⟩ <;> (rw [q] at e; cases e; exact m)
      rcases q with q | ⟨o, q⟩
      · exact .inl (keep _ _ nF q)
      · exact .inr ⟨o, keep _ _ nF q⟩
    · have nF : a ∉ F i := fun z => nS (.inr (inO i a z))
      rcases q with q | ⟨o, q⟩
      · exact .inl (keep _ _ nF q)
      · exact .inr ⟨o, keep _ _ nF q⟩
    · obtain ⟨o, e⟩ := q.some
      rcases z with (z | z) | ⟨k, z⟩
      · exact nS (.inl z)
      · rw [(hfp a z).1] at e; cases e
      · by_cases hki : k = i
        · subst hki
          rw [setF_at] at z
          rcases (hf a z).1 with w | w
          · exact nS (.inr (inO _ a w))
          · rw [w] at e; cases e
        · rw [setF_ne hki] at z
          exact nS (.inr (inO k a z))
  have mu' : ∀ k a, a ∈ setF F i f' k → ¬ (G.plus fp).S0 a ∧ ∃ o, H' a = some o ∧ isM o := fun k a ha => by
    by_cases hki : k = i
    · subst hki
      rw [setF_at] at ha
      refine ⟨fun z => ?_, (hf a ha).2⟩
      rcases z with z | z
      · rcases (hf a ha).1 with w | w
        · exact (f.mu _ a w).1 z
        · exact f.s0 a z w
      · exact (hfp a z).2.2 ha
    · rw [setF_ne hki] at ha
      obtain ⟨n1, o, e, m⟩ := f.mu k a ha
      refine ⟨fun z => ?_, o, keep a o (old k a hki ha) e, m⟩
      rcases z with z | z
      · exact n1 z
      · exact domF k a ha (hfp a z).1
  refine ⟨⟨?_, fun a => Iff.rfl, fun k hn => ?_, fun k j a h1 h2 => ?_, fun k => ?_, mu', fun k a ha => ?_, f.par, fun p hp => Rep.go g _ _ (f.gh p hp), fun a z => ?_, fun b o n1 e => ?_, fun b e => dom b (f.dom b e), fun k d e => ?_⟩, ?_⟩
  · rw [kl_len, List.length_set]; exact f.len
  · have hki : k ≠ i := by rintro rfl; rw [hk] at hn; cases hn
    rw [setF_ne hki]; exact f.non k hn
  · by_cases hki : k = i
    · by_cases hji : j = i
      · rw [hki, hji]
      · rw [hki, setF_at] at h1
        rw [setF_ne hji] at h2
        rcases (hf a h1).1 with w | w
        · exact absurd w (old j a hji h2)
        · exact absurd w (domF j a h2)
    · rw [setF_ne hki] at h1
      by_cases hji : j = i
      · rw [hji, setF_at] at h2
        rcases (hf a h2).1 with w | w
        · exact absurd w (old k a hki h1)
        · exact absurd w (domF k a h1)
      · rw [setF_ne hji] at h2
        exact f.dis k j a h1 h2
  · by_cases hki : k = i
    · rw [hki, setF_at]; exact nd
    · rw [setF_ne hki]; exact f.nd k
  · by_cases hki : k = i
    · subst hki
      rw [setF_at] at ha
      rcases (hf a ha).1 with w | w
      · exact f.new _ a w
      · right
        show G.H0 a = none
        cases e : G.H0 a with
        | none => rfl
        | some o => exact absurd w (f.dom a (by rw [e]; simp))
    · rw [setF_ne hki] at ha
      exact f.new k a ha
  · rcases z with z | z
    · exact dom a (f.s0 a z)
    · exact (hfp a z).2.1
  · refine keep b o (fun z => ?_) (f.keep b o n1 e)
    rcases f.new i b z with w | w
    · exact n1 w.2
    · rw [show G.H0 b = some o from e] at w; cases w
  · obtain ⟨e, hlo⟩ := kl_get e
    by_cases hki : k = i
    · subst hki
      have hl : k < ρ.length := by rw [f.len]; exact (List.getElem?_eq_some_iff.mp hv).1
      rw [List.getElem?_set_self hl] at e
      cases e
      refine ⟨v, hv, ?_⟩
      rw [setF_at]
      cases q : kd κ k with
      | cl => rw [q] at hk; cases hk
      | lo => rw [q] at hk; cases hk
      | ow m => rw [q] at hk; cases hk; exact ho
      | io m => rw [q] at hk; cases hk; exact ho
    · rw [List.getElem?_set_ne (Ne.symm hki)] at e
      obtain ⟨w, e1, e2⟩ := f.slot k d e
      refine ⟨w, e1, ?_⟩
      rw [setF_ne hki]
      have ko : ∀ a ∈ F k, ∀ o, H a = some o → H' a = some o := fun a ha o eo => keep a o (old k a hki ha) eo
      cases q : kd κ k with
      | cl => rw [q] at e2; exact Rep.go g d w e2
      | ow n => rw [q] at e2; exact Own.go g n _ d w ko e2
      | io n => rw [q] at e2; exact Own.go g n _ d w ko e2
      | lo => exact absurd q hlo
  · refine ⟨fun b o n1 e => keep b o (fun z => n1 (inO i b z)) e, fun a ⟨k, z⟩ => ?_, dom⟩
    by_cases hki : k = i
    · subst hki
      rw [setF_at] at z
      rcases (hf a z).1 with w | w
      · exact .inl (inO _ a w)
      · exact .inr w
    · rw [setF_ne hki] at z
      exact .inl (inO k a z)
theorem setSt {σ : St} {i k : Nat} {v : V} (h : k ≠ i) : (σ.set i (some v))[k]? = σ[k]? := by rw [List.getElem?_set_ne (Ne.symm h)]
theorem EnvOk.put {i : Nat} {d : D} {v : V} (h : EnvOk K κ G O ρ σ H) (hk : (kd κ i = .cl ∧ Rep K (uni G.S0 O) H d v) ∨ (kd κ i = .lo ∧ Rep K G.S0 H d v)) : EnvOk K κ G O (ρ.set i (some d)) (σ.set i (some v)) H := by
  obtain ⟨F, f⟩ := h
  refine ⟨F, by simp [f.len], f.own, f.non, f.dis, f.nd, f.mu, f.new, fun k n e => ?_, f.gh, f.s0, f.keep, f.dom, fun k d' e => ?_⟩
  · have hki : k ≠ i := by rintro rfl; rcases hk with ⟨z, _⟩ | ⟨z, _⟩ <;> (rw [z] at e; cases e)
    rw [setSt hki]; exact f.par k n e
  · by_cases hki : k = i
    · subst hki
      have hl : k < ρ.length := by
        have := (List.getElem?_eq_some_iff.mp e).1
        simpa using this
      rw [List.getElem?_set_self hl] at e
      cases e
      refine ⟨v, List.getElem?_set_self (by rw [← f.len]; exact hl), ?_⟩
      rcases hk with ⟨z, r⟩ | ⟨z, r⟩ <;> (rw [z]; exact r)
    · rw [List.getElem?_set_ne (Ne.symm hki)] at e
      obtain ⟨w, e1, e2⟩ := f.slot k d' e
      exact ⟨w, by rw [setSt hki]; exact e1, e2⟩
theorem EnvOk.putO {i n : Nat} {d : D} {v : V} {fp : List Addr} {Hb : Hp} (hk : kd κ i = .ow n) (h : EnvOk K κ (G.plus fp) O ρ σ H) (hd : ∀ b, G.H0 b ≠ none → Hb b ≠ none) (hs : ∀ a, G.S0 a → Hb a ≠ none) (vo : VOk K G.S0 O Hb H fp (.ow n) d v) :
    ∃ O', EnvOk K κ G O' (ρ.set i (some d)) (σ.set i (some v)) H := by
  obtain ⟨F, f⟩ := h
  obtain ⟨nd, h2, h3⟩ := vo
  have fne : ∀ k a, a ∈ F k → a ∉ fp := fun k a ha z => (f.mu k a ha).1 (.inr z)
  have le : ∀ a, uni G.S0 (OF (setF F i fp)) a → uni (uni G.S0 (fpS fp)) O a := fun a z => by
    rcases z with z | ⟨k, z⟩
    · exact .inl (.inl z)
    · by_cases hki : k = i
      · rw [hki, setF_at] at z; exact .inl (.inr z)
      · rw [setF_ne hki] at z; exact .inr ((f.own a).mpr ⟨k, z⟩)
  refine ⟨OF (setF F i fp), setF F i fp, by simp [f.len], fun a => Iff.rfl, fun k hn => ?_, fun k j a h1 h2' => ?_, fun k => ?_, fun k a ha => ?_, fun k a ha => ?_, fun k m e => ?_, fun p hp => ?_, fun a z => f.s0 a (.inl z), f.keep, f.dom, fun k d' e => ?_⟩
  · have hki : k ≠ i := by rintro rfl; rw [hk] at hn; cases hn
    rw [setF_ne hki]; exact f.non k hn
  · by_cases hki : k = i
    · by_cases hji : j = i
      · rw [hki, hji]
      · rw [hki, setF_at] at h1
        rw [setF_ne hji] at h2'
        exact absurd h1 (fne j a h2')
    · rw [setF_ne hki] at h1
      by_cases hji : j = i
      · rw [hji, setF_at] at h2'
        exact absurd h2' (fne k a h1)
      · rw [setF_ne hji] at h2'
        exact f.dis k j a h1 h2'
  · by_cases hki : k = i
    · rw [hki, setF_at]; exact nd
    · rw [setF_ne hki]; exact f.nd k
  · by_cases hki : k = i
    · rw [hki, setF_at] at ha
      exact ⟨fun z => hs a z (h2 a ha).1, (h2 a ha).2.2⟩
    · rw [setF_ne hki] at ha
      exact ⟨fun z => (f.mu k a ha).1 (.inl z), (f.mu k a ha).2⟩
  · by_cases hki : k = i
    · rw [hki, setF_at] at ha
      right
      cases e : G.H0 a with
      | none => rfl
      | some o => exact absurd (h2 a ha).1 (hd a (by rw [e]; simp))
    · rw [setF_ne hki] at ha
      exact f.new k a ha
  · have hki : k ≠ i := by rintro rfl; rw [hk] at e; cases e
    rw [setSt hki]; exact f.par k m e
  · exact Rep.go (.less le) _ _ (f.gh p hp)
  · by_cases hki : k = i
    · subst hki
      have hl : k < ρ.length := by
        have := (List.getElem?_eq_some_iff.mp e).1
        simpa using this
      rw [List.getElem?_set_self hl] at e
      cases e
      refine ⟨v, List.getElem?_set_self (by rw [← f.len]; exact hl), ?_⟩
      rw [hk, setF_at]
      exact Own.go (.less le) n _ _ v (fun _ _ _ h => h) h3
    · rw [List.getElem?_set_ne (Ne.symm hki)] at e
      obtain ⟨w, e1, e2⟩ := f.slot k d' e
      refine ⟨w, by rw [setSt hki]; exact e1, ?_⟩
      rw [setF_ne hki]
      cases q : kd κ k with
      | cl => rw [q] at e2; exact Rep.go (.less le) d' w e2
      | ow n => rw [q] at e2; exact Own.go (.less le) n _ d' w (fun _ _ _ h => h) e2
      | io n => rw [q] at e2; exact Own.go (.less le) n _ d' w (fun _ _ _ h => h) e2
      | lo => rw [q] at e2; exact Rep.go (.less fun a z => .inl z) d' w e2
end
end L2

set_option maxRecDepth 100000
namespace L2
open PySem PySem.Spec PyProof.Rows
structure DEnds where
  nx : EnvD → Prop
  rt : D → EnvD → Prop
  bk : EnvD → Prop := fun _ => False
  ct : EnvD → Prop := fun _ => False
abbrev DTS := DEnds → EnvD → Prop
def tDS (K : PySem.W.Frag) (κ : List SK) (md : SK) (T : DTS) : TS := fun D σ H => ∃ G O ρ De, EnvOk K κ G O ρ σ H ∧ T De ρ ∧
  (∀ σ' H' ρ' O', EnvOk K κ G O' ρ' σ' H' → De.nx ρ' → D.nx σ' H') ∧ (∀ σ' H' ρ' O', EnvOk K κ G O' ρ' σ' H' → De.bk ρ' → D.bk σ' H') ∧ (∀ σ' H' ρ' O', EnvOk K κ G O' ρ' σ' H' → De.ct ρ' → D.ct σ' H') ∧
  ∀ v H' d ρ' O' fp σ', EnvOk K κ (G.plus fp) O' ρ' σ' H' → VOk K G.S0 O' G.H0 H' fp md d v → De.rt d ρ' → D.rt v H'
structure DS (X : Cx) (κ : List SK) (md : SK) (s : Stmt) (T : DTS) : Prop where
  h : PS X s (tDS X.K κ md T)
structure DSs (X : Cx) (κ : List SK) (md : SK) (s : List Stmt) (T : DTS) : Prop where
  h : PSs X s (tDS X.K κ md T)
theorem PS.weak {X : Cx} {s : Stmt} {t t' : TS} (h : PS X s t) (w : ∀ D σ H, t' D σ H → t D σ H) : PS X s t' := fun pins s σ H D I q => h pins s σ H D I (w D σ H q)
theorem PSs.weak {X : Cx} {s : List Stmt} {t t' : TS} (h : PSs X s t) (w : ∀ D σ H, t' D σ H → t D σ H) : PSs X s t' := fun pins s σ H D I q => h pins s σ H D I (w D σ H q)
theorem EnvOk.dom {K : PySem.W.Frag} {κ : List SK} {G : G0} {O : Addr → Prop} {ρ : EnvD} {σ : St} {H : Hp} (h : EnvOk K κ G O ρ σ H) : ∀ b, G.H0 b ≠ none → H b ≠ none := let ⟨_, f⟩ := h; f.dom
def sNext : DTS := fun De ρ => De.nx ρ
def sSeq (T U : DTS) : DTS := fun De ρ => T { De with nx := U De } ρ
def sIf (c : DTT) (T U : DTS) : DTS := fun De ρ => c ρ fun b ρ1 => if b = true then T De ρ1 else U De ρ1
def sRet (E : DTE) : DTS := fun De ρ => E ρ De.rt
def sSet (i : Nat) (E : DTE) : DTS := fun De ρ => E ρ fun d ρ' => De.nx (ρ'.set i (some d))
section
variable {X : Cx} {κ : List SK} {md m : SK} {pu : Bool} {st : Stmt} {sts l r : List Stmt} {T U : DTS} {c e : Expr} {E : DTE} {C : DTT} {pos pos' : Pos} {x : Str}
theorem dsnil : DSs X κ md [] sNext := ⟨pss_nil.weak fun D σ H ⟨G, O, ρ, De, hE, hT, nx, _⟩ => nx σ H ρ O hE hT⟩
theorem dscons (h1 : DS X κ md st T) (h2 : DSs X κ md sts U) : DSs X κ md (st :: sts) (sSeq T U) :=
  ⟨(pss_cons h1.h h2.h).weak fun D σ H ⟨G, O, ρ, De, hE, hT, nx, bk, ct, rt⟩ => ⟨G, O, ρ, { De with nx := U De }, hE, hT, fun σ' H' ρ' O' e' hU => ⟨G, O', ρ', De, e', hU, nx, bk, ct, rt⟩, bk, ct, rt⟩⟩
theorem dsone (h1 : DS X κ md st T) : DSs X κ md [st] T := ⟨pss_one h1.h⟩
theorem dif (hc : DT X κ pu c C) (ha : DSs X κ md l T) (hb : DSs X κ md r U) : DS X κ md (.If c l r pos) (sIf C T U) := by
  refine ⟨(ps_if hc.h ha.h hb.h).weak fun D σ H ⟨G, O, ρ, De, hE, hT, nx, bk, ct, rt⟩ => ⟨G, O, ρ, _, hE, hT, fun b H1 ρ1 O1 s1 e1 p1 hq => ?_⟩⟩
  cases b with
  | true => rw [if_pos rfl] at hq ⊢; exact ⟨G, O1, ρ1, De, e1, hq, nx, bk, ct, rt⟩
  | false => rw [if_neg Bool.false_ne_true] at hq ⊢; exact ⟨G, O1, ρ1, De, e1, hq, nx, bk, ct, rt⟩
theorem dret (h : DE X κ pu md e E) : DS X κ md (.Return (some e) pos) (sRet E) :=
  ⟨(ps_ret h.h).weak fun D σ H ⟨G, O, ρ, De, hE, hT, nx, bk, ct, rt⟩ => ⟨G, O, ρ, De.rt, hE, hT, fun v H' d ρ' O' fp s1 e1 vo p1 hq => rt v H' d ρ' O' fp σ e1 (vo.based hE.dom) hq⟩⟩
theorem dset {i : Nat} (hs : swapsWith e (some (.Name x pos')) pos.line X.env = pure false) (hf : X.fn x = true ∨ X.env.scope.names.lookup x = some .local) (hN : X.N.Nodup) (hi : X.N[i]? = some x) (hx : Loc X.env.scope x) (hk : kd κ i = .cl) (h : DE X κ pu .cl e E) : DS X κ md (.Assign [.Name x pos'] e pos) (sSet i E) :=
  ⟨(ps_set hN hi hx h.h hs hf).weak fun D σ H ⟨G, O, ρ, De, hE, hT, nx, bk, ct, rt⟩ => ⟨G, O, ρ, _, hE, hT, fun v H' d ρ' O' fp s1 e1 vo p1 hq => nx _ H' _ O' (e1.drop.put (.inl ⟨hk, vo.2⟩)) hq⟩⟩
theorem dsetO {i n : Nat} (hs : swapsWith e (some (.Name x pos')) pos.line X.env = pure false) (hf : X.fn x = true ∨ X.env.scope.names.lookup x = some .local) (hN : X.N.Nodup) (hi : X.N[i]? = some x) (hx : Loc X.env.scope x) (hk : kd κ i = .ow n) (h : DE X κ pu (.ow n) e E) : DS X κ md (.Assign [.Name x pos'] e pos) (sSet i E) :=
  ⟨(ps_set hN hi hx h.h hs hf).weak fun D σ H ⟨G, O, ρ, De, hE, hT, nx, bk, ct, rt⟩ => ⟨G, O, ρ, _, hE, hT, fun v H' d ρ' O' fp s1 e1 vo p1 hq => by
    obtain ⟨O2, e2⟩ := EnvOk.putO hk e1 hE.dom hE.s0 vo
    exact nx _ H' _ O2 e2 hq⟩⟩
end

abbrev DTG := D → EnvD → (EnvD → Prop) → Prop
def tDG (K : PySem.W.Frag) (κ : List SK) (md : SK) (g : DTG) : TG := fun v σ H Q => ∃ G O ρ q d, EnvOk K κ G O ρ σ H ∧ Rep K (Sx (loB md) G.S0 O) H d v ∧ g d ρ q ∧ ∀ σ' ρ', EnvOk K κ G O ρ' σ' H → q ρ' → Q σ' H
structure DG (X : Cx) (κ : List SK) (md : SK) (e : Expr) (g : DTG) : Prop where
  h : PG X e (tDG X.K κ md g)
def tDGs (K : PySem.W.Frag) (κ : List SK) (md : SK) (g : List D → EnvD → (EnvD → Prop) → Prop) : TGs := fun vs σ H Q => ∃ G O ρ q ds, EnvOk K κ G O ρ σ H ∧ Reps K (Sx (loB md) G.S0 O) H ds vs ∧ g ds ρ q ∧ ∀ σ' ρ', EnvOk K κ G O ρ' σ' H → q ρ' → Q σ' H
structure DGs (X : Cx) (κ : List SK) (md : SK) (es : List Expr) (g : List D → EnvD → (EnvD → Prop) → Prop) : Prop where
  h : PGs X es (tDGs X.K κ md g)
theorem PG.weak {X : Cx} {e : Expr} {t t' : TG} (h : PG X e t) (w : ∀ v σ H Q, t' v σ H Q → t v σ H Q) : PG X e t' := fun pins s σ H v u Q I r q => h pins s σ H v u Q I r (w v σ H Q q)
theorem PGs.weak {X : Cx} {e : List Expr} {t t' : TGs} (h : PGs X e t) (w : ∀ v σ H Q, t' v σ H Q → t v σ H Q) : PGs X e t' := fun pins s σ H v u Q I r q => h pins s σ H v u Q I r (w v σ H Q q)
def gdName (i : Nat) : DTG := fun d ρ q => q (ρ.set i (some d))
def gdNil : List D → EnvD → (EnvD → Prop) → Prop := fun ds ρ q => ds = [] ∧ q ρ
def gdCons (g : DTG) (gs : List D → EnvD → (EnvD → Prop) → Prop) : List D → EnvD → (EnvD → Prop) → Prop := fun ds ρ q => ∃ d r, ds = d :: r ∧ g d ρ fun ρ' => gs r ρ' q
def gdTup (n : Nat) (gs : List D → EnvD → (EnvD → Prop) → Prop) : DTG := fun d ρ q => ∃ ds, d = .tup ds ∧ ds.length = n ∧ gs ds ρ q
def sAsg (E : DTE) (g : DTG) : DTS := fun De ρ => E ρ fun d ρ' => g d ρ' De.nx
section
variable {X : Cx} {κ : List SK} {md : SK} {pu : Bool} {e tg : Expr} {es : List Expr} {E : DTE} {pos : Pos} {x : Str} {g : DTG} {gs : List D → EnvD → (EnvD → Prop) → Prop}
theorem dgname {i : Nat} (hf : X.fn x = true ∨ X.env.scope.names.lookup x = some .local) (hN : X.N.Nodup) (hi : X.N[i]? = some x) (hx : Loc X.env.scope x) (hk : (md = .cl ∧ kd κ i = .cl) ∨ (md = .lo ∧ kd κ i = .lo)) : DG X κ md (.Name x pos) (gdName i) := by
  refine ⟨(pg_name hN hi hx hf).weak fun v σ H Q ⟨G, O, ρ, q, d, hE, hr, hg, k⟩ => k _ _ (hE.put ?_) hg⟩
  rcases hk with ⟨rfl, h⟩ | ⟨rfl, h⟩
  · exact .inl ⟨h, hr⟩
  · exact .inr ⟨h, hr⟩
theorem dgnil : DGs X κ md [] gdNil := ⟨pgs_nil.weak fun vs σ H Q ⟨G, O, ρ, q, ds, hE, hr, ⟨h1, h2⟩, k⟩ => ⟨by subst h1; simpa only [Reps] using hr, k _ _ hE h2⟩⟩
theorem dgcons (hs : (assignEach (e :: es) X.env).map (·.2) = assign e X.env :: (assignEach es X.env).map (·.2)) (h1 : DG X κ md e g) (h2 : DGs X κ md es gs) : DGs X κ md (e :: es) (gdCons g gs) := by
  refine ⟨(pgs_cons h1.h h2.h hs).weak fun vs σ H Q ⟨G, O, ρ, q, ds, hE, hr, ⟨d, r, ed, hg⟩, k⟩ => ?_⟩
  subst ed
  simp only [Reps] at hr
  obtain ⟨v, vr, rfl, r1, r2⟩ := hr
  exact ⟨v, vr, rfl, G, O, ρ, _, d, hE, r1, hg, fun σ' ρ' e' hq => ⟨G, O, ρ', q, r, e', r2, hq, k⟩⟩
theorem dgtup {k n : Nat} (hn : (assignEach es X.env).length = n) (hst : (assignEach es X.env).findIdx? (·.1) = none) (hc : X.calm = true) (h : DGs X κ md es gs) : DG X κ md (.Tuple es k pos) (gdTup n gs) := by
  refine ⟨(pg_tup hc h.h hn hst).weak fun v σ H Q ⟨G, O, ρ, q, d, hE, hr, ⟨ds, ed, hl, hg⟩, k⟩ => ?_⟩
  subst ed
  simp only [Rep] at hr
  obtain ⟨a, vs, rfl, hq, r⟩ := hr
  exact ⟨a, vs, rfl, hq, by rw [r.len]; exact hl, G, O, ρ, q, ds, hE, r, hg, k⟩
theorem dasg (hs : swapsWithSole [tg] e pos.line X.env = pure false) (hw : swappedStores [tg] e X.env = pure none) (h1 : (assignEach [tg] X.env).map (·.2) = [assign tg X.env]) (hm : md = .cl ∨ md = .lo) (he : DE X κ pu md e E) (hg : DG X κ md tg g) {mr : SK} : DS X κ mr (.Assign [tg] e pos) (sAsg E g) := by
  refine ⟨(ps_asg he.h hg.h hs hw h1).weak fun D σ H ⟨G, O, ρ, De, hE, hT, nx, bk, ct, rt⟩ => ⟨G, O, ρ, _, hE, hT, fun v H' d ρ' O' fp s1 e1 vo p1 hq => ⟨G, O', ρ', De.nx, d, e1.drop, ?_, hq, fun σ' ρ2 e2 h2 => nx σ' H' ρ2 O' e2 h2⟩⟩⟩
  rcases hm with rfl | rfl
  · exact vo.2
  · exact vo.2
end

def spP (K : PySem.W.Frag) (np : Nat) (md : SK) (sd : List D → (D → Prop) → Prop) : Sp := fun vs H Q _ => ∃ S0 ds q, vs.length = np ∧ (∀ a, S0 a → H a ≠ none) ∧ Reps K S0 H ds vs ∧ sd ds q ∧ ∀ v H' d fp, Same H H' → VRes K S0 H H' fp md d v → q d → Q v H'
def spX (K : PySem.W.Frag) (np j n : Nat) (md : SK) (sd : List D → (D → D → Prop) → Prop) : Sp := fun vs H Q _ => ∃ S0 ds q f vj dj, vs.length = np ∧ ds.length = np ∧ vs[j]? = some vj ∧ ds[j]? = some dj ∧ (∀ a, S0 a → H a ≠ none) ∧ f.Nodup ∧ (∀ a ∈ f, ¬ S0 a ∧ ∃ o, H a = some o ∧ isM o) ∧
  (∀ k x d, k ≠ j → vs[k]? = some x → ds[k]? = some d → Rep K (uni S0 (fpS f)) H d x) ∧ Own K (uni S0 (fpS f)) H n f dj vj ∧ sd ds q ∧
  ∀ v H' d d' fp f', Step (fpS f) (fpS f') H H' → f'.Nodup → (∀ a ∈ f', ¬ S0 a ∧ a ∉ fp ∧ ∃ o, H' a = some o ∧ isM o) → Own K (uni (uni S0 (fpS fp)) (fpS f')) H' n f' d' vj → VOk K S0 (fpS f') H H' fp md d v → (∀ a ∈ fp, H' a ≠ none) → q d d' → Q v H'
def startD (n : Nat) (ds : List D) : EnvD := ds.map some ++ List.replicate (n - ds.length) none
theorem start_get {N : List Str} {vs : List V} {ds : List D} {i : Nat} {d : D} (hl : ds.length = vs.length) (h : (startD N.length ds)[i]? = some (some d)) : ds[i]? = some d ∧ ∃ v, vs[i]? = some v ∧ (start N vs)[i]? = some (some v) := by
  unfold startD at h
  by_cases hi : i < ds.length
  · rw [List.getElem?_append_left (by simpa using hi), List.getElem?_map] at h
    have hd : ds[i]? = some d := by
      cases e : ds[i]? with
      | none => rw [e] at h; cases h
      | some a => rw [e] at h; cases h; rfl
    refine ⟨hd, vs[i]'(by omega), List.getElem?_eq_getElem _, ?_⟩
    unfold start
    rw [List.getElem?_append_left (by simp; omega), List.getElem?_map, List.getElem?_eq_getElem (by omega)]
    rfl
  · rw [List.getElem?_append_right (by simpa using hi), List.getElem?_replicate] at h
    split at h <;> cases h
theorem start_len {N : List Str} {vs : List V} (h : vs.length ≤ N.length) : (start N vs).length = N.length := by
  unfold start; simp; omega
theorem startD_len {n : Nat} {ds : List D} (h : ds.length ≤ n) : (startD n ds).length = n := by
  unfold startD; simp; omega
section
variable {P : Program} {w : World} {K : PySem.W.Frag} {mg : Str → Option Value} {base : Heap} {x qual : Str} {st : Stmt} {f : Addr} {fd : FuncData} {N ps : List Str} {k : Nat} {κ : List SK} {md : SK}
theorem fnP {T : DTS} {sd : List D → (D → Prop) → Prop} (F : Fun K x qual st f fd) (S : FnScope N ps (defScope st)) (hκ : ∀ i n, kd κ i ≠ .io n) (hp : ∀ i, i < ps.length → kd κ i = .cl) (hmd : md = .cl ∨ ∃ n, md = .ow n)
    (hb : ∀ (cdv : Value) (A : Around) (outer : List Env) (s : Shared) (H : Hp) (E : XK), Room k (A.deeper (envOfC qual (defScope st) s.heap.objs.size f cdv)) → DSs (cxOf CX0 P w K mg base N qual (defScope st) f cdv A outer s H E).nox κ md (defBody st) T)
    (hs : ∀ ds q, ds.length = ps.length → sd ds q → T { nx := fun _ => md = .cl ∧ q .non, rt := fun d _ => q d } (startD N.length ds)) : FnOk P w K mg base CX0 (k + 1) f fd ps (spP K ps.length md sd) := by
  have hpl : ps.length ≤ N.length := by have := congrArg List.length S.pre; rw [List.length_take] at this; omega
  refine F.ok S (fun vs H Q E h => h.choose_spec.choose_spec.choose_spec.1) fun cdv A outer s H vs Q E hr h => ⟨_, (hb cdv A outer s H E hr).h, ?_⟩
  obtain ⟨S0, ds, q, hl, hS, hR, hsd, hQ⟩ := h
  have hdl : ds.length = vs.length := hR.len.symm
  have e0 : uni S0 (fun _ => False) = S0 := by funext a; simp [uni]
  have hE : EnvOk K κ ⟨S0, fun _ => False, H, start N vs, []⟩ (fun _ => False) (startD N.length ds) (start N vs) H := by
    refine ⟨fun _ => [], ?_, fun a => by simp, fun _ _ => rfl, fun i j a h => absurd h (by simp), fun _ => by simp, fun i a h => absurd h (by simp), fun i a h => absurd h (by simp), fun i n e => rfl, fun p hp => absurd hp (by simp), hS, fun b o _ e => e, fun b e => e, fun i d e => ?_⟩
    · rw [startD_len (by omega), start_len (by omega)]
    · obtain ⟨h1, v, h2, h3⟩ := start_get (N := N) hdl e
      refine ⟨v, h3, ?_⟩
      rw [hp i (by rw [← hl]; exact (List.getElem?_eq_some_iff.mp h2).1)]
      show Rep K (uni S0 fun _ => False) H d v
      rw [e0]
      obtain ⟨u, e1, e2⟩ := hR.get h1
      rw [h2] at e1; cases e1
      exact e2
  have sm : ∀ {fp : List Addr} {O' : Addr → Prop} {ρ' : EnvD} {σ' : St} {H' : Hp}, EnvOk K κ (G0.plus ⟨S0, fun _ => False, H, start N vs, []⟩ fp) O' ρ' σ' H' → Same H H' := fun h => by
    obtain ⟨F', f'⟩ := h
    exact fun b o e => f'.keep b o (fun z => z) e
  have fin : ∀ v H' d ρ' O' fp σ', EnvOk K κ (G0.plus ⟨S0, fun _ => False, H, start N vs, []⟩ fp) O' ρ' σ' H' → VOk K S0 O' H H' fp md d v → q d → Q v H' := fun v H' d ρ' O' fp σ' e vo hq => by
    refine hQ v H' d fp (sm e) ?_ hq
    rcases hmd with rfl | ⟨n, rfl⟩
    · exact ⟨vo.1, Rep.go (.less fun a z => .inl z) d v vo.2⟩
    · exact ⟨vo.1, fun a ha => ⟨(vo.2.1 a ha).1, (vo.2.1 a ha).2.2⟩, Own.go (.less fun a z => .inl z) n fp d v (fun _ _ _ h => h) vo.2.2⟩
  refine ⟨_, _, _, _, hE, hs ds q (by omega) hsd, fun σ' H' ρ' O' e ⟨hm, hq⟩ => ?_, fun _ _ _ _ _ h => h.elim, fun _ _ _ _ _ h => h.elim, fun v H' d ρ' O' fp σ' e vo hq => fin v H' d ρ' O' fp σ' e vo hq⟩
  subst hm
  exact fin .non H' .non ρ' O' [] σ' (by rw [plus_nil]; exact e) ⟨rfl, by simp only [Rep]⟩ hq
end

def eCall (sd : List D → (D → Prop) → Prop) (A : DTA) : DTE := fun ρ q => A ρ fun ds ρ' => sd ds fun d => q d ρ'
section
variable {X : Cx} {κ : List SK} {pu lo : Bool} {md : SK} {e : Expr} {es : List Expr} {pos p : Pos} {A : DTA} {x : Str} {sd : List D → (D → Prop) → Prop} {CX : CXT} {k : Nat} {g : Addr} {fd : FuncData} {ps : List Str} {E : XK}
theorem Sx_dom {K : PySem.W.Frag} {G : G0} {O : Addr → Prop} {ρ : EnvD} {σ : St} {H : Hp} (h : EnvOk K κ G O ρ σ H) : ∀ a, Sx lo G.S0 O a → H a ≠ none := fun a z => by
  cases lo with
  | true => exact h.s0 a z
  | false =>
    rcases z with z | z
    · exact h.s0 a z
    · obtain ⟨o, e, _⟩ := h.mutO a z; rw [e]; simp
theorem dcl (hp : (e :: es).all plainE = true) (hdb : (x == ("__debug__" : Str)) = false) (F : FnOk X.prog X.w X.K X.mg X.base CX k g fd ps (spP X.K ps.length md sd)) (hr : Room k X.A) (hg : Gl X x) (hm : X.mg x = some (.ref g)) (hk : PySem.W.keepIn X.K (.ref g) = true) (hb : Binds X.K fd ps []) (hx : Passes CX X E)
    (hlen : (e :: es).length = ps.length) (hmd : md ≠ .lo) (ha : DA X κ pu lo (e :: es) A) : DE X κ pu (outM lo md) (.Call (.Name x p) (e :: es) [] pos) (eCall sd (fun ρ q => A ρ fun ds ρ' => ds.length = ps.length ∧ q ds ρ')) := by
  refine ⟨(pcl hp hdb F hr hg hm hk hb .nil hx ha.h).weak fun σ H Q ⟨G, O, ρ, q, hE, hq, k⟩ => ⟨G, O, ρ, _, hE, hq, fun vs H1 ds ρ1 O1 s1 e1 r1 p1 ⟨hl, hq1⟩ => ?_⟩⟩
  refine ⟨Sx lo G.S0 O1, ds, _, by rw [List.append_nil, r1.len]; exact hl, Sx_dom e1, by rw [List.append_nil]; exact r1, hq1, fun v H' d fp sm vr hz => ?_⟩
  obtain ⟨fp', st, en, vo⟩ := VRes.fin e1 s1 sm vr hmd
  exact k _ _ _ ρ1 O1 fp' st en vo (p1.same sm) hz
end
end L2

set_option maxRecDepth 100000
namespace L2
open PySem PySem.Spec PyProof.Rows
section
variable {P : Program} {w : World} {K : PySem.W.Frag} {mg : Str → Option Value} {base : Heap} {x qual : Str} {st : Stmt} {f : Addr} {fd : FuncData} {N ps : List Str} {k j n : Nat} {κ : List SK} {md : SK}
theorem fnX {T : DTS} {sd : List D → (D → D → Prop) → Prop} (F : Fun K x qual st f fd) (S : FnScope N ps (defScope st)) (hj : kd κ j = .io n) (hjp : j < ps.length) (hκ : ∀ i m, i ≠ j → kd κ i ≠ .io m) (hp : ∀ i, i < ps.length → i ≠ j → kd κ i = .cl) (hmd : md = .cl ∨ ∃ n, md = .ow n)
    (hb : ∀ (cdv : Value) (A : Around) (outer : List Env) (s : Shared) (H : Hp) (E : XK), Room k (A.deeper (envOfC qual (defScope st) s.heap.objs.size f cdv)) → DSs (cxOf CX0 P w K mg base N qual (defScope st) f cdv A outer s H E).nox κ md (defBody st) T)
    (hs : ∀ ds q, ds.length = ps.length → sd ds q → T { nx := fun ρ => md = .cl ∧ ∃ d', ρ[j]? = some (some d') ∧ q .non d', rt := fun d ρ => ∃ d', ρ[j]? = some (some d') ∧ q d d' } (startD N.length ds)) : FnOk P w K mg base CX0 (k + 1) f fd ps (spX K ps.length j n md sd) := by
  have hpl : ps.length ≤ N.length := by have := congrArg List.length S.pre; rw [List.length_take] at this; omega
  refine F.ok S (fun vs H Q E h => by obtain ⟨_, _, _, _, _, _, h, _⟩ := h; exact h) fun cdv A outer s H vs Q E hr h => ⟨_, (hb cdv A outer s H E hr).h, ?_⟩
  obtain ⟨S0, ds, q, fj, vj, dj, hl, hl2, hvj, hdj, hS, hnd, hmu, hR, hO, hsd, hQ⟩ := h
  have hdl : ds.length = vs.length := by omega
  have hsv : (start N vs)[j]? = some (some vj) := by
    unfold start
    rw [List.getElem?_append_left (by simp; omega), List.getElem?_map, hvj]; rfl
  have hE : EnvOk K κ ⟨S0, fpS fj, H, start N vs, []⟩ (fpS fj) (startD N.length ds) (start N vs) H := by
    refine ⟨setF (fun _ => []) j fj, ?_, fun a => ?_, fun i hn => ?_, fun i i' a h1 h2 => ?_, fun i => ?_, fun i a ha => ?_, fun i a ha => ?_, fun i n e => rfl, fun p hp => absurd hp (by simp), hS, fun b o _ e => e, fun b e => e, fun i d e => ?_⟩
    · rw [startD_len (by omega), start_len (by omega)]
    · constructor
      · intro h; exact ⟨j, by rw [setF_at]; exact h⟩
      · rintro ⟨i, h⟩
        by_cases hi : i = j
        · rw [hi, setF_at] at h; exact h
        · rw [setF_ne hi] at h; exact absurd h (by simp)
    · have hi : i ≠ j := by rintro rfl; rw [hj] at hn; cases hn
      rw [setF_ne hi]
    · by_cases hi : i = j
      · by_cases hi' : i' = j
        · rw [hi, hi']
        · rw [setF_ne hi'] at h2; exact absurd h2 (by simp)
      · rw [setF_ne hi] at h1; exact absurd h1 (by simp)
    · by_cases hi : i = j
      · rw [hi, setF_at]; exact hnd
      · rw [setF_ne hi]; simp
    · by_cases hi : i = j
      · rw [hi, setF_at] at ha; exact hmu a ha
      · rw [setF_ne hi] at ha; exact absurd ha (by simp)
    · by_cases hi : i = j
      · rw [hi, setF_at] at ha; exact .inl ⟨⟨n, by rw [hi]; exact hj⟩, ha⟩
      · rw [setF_ne hi] at ha; exact absurd ha (by simp)
    · obtain ⟨h1, v, h2, h3⟩ := start_get (N := N) hdl e
      refine ⟨v, h3, ?_⟩
      by_cases hi : i = j
      · subst hi
        rw [hj, setF_at]
        rw [hvj] at h2; cases h2
        rw [hdj] at h1; cases h1
        exact hO
      · rw [hp i (by rw [← hl]; exact (List.getElem?_eq_some_iff.mp h2).1) hi]
        exact hR i v d hi h2 h1
  have fin : ∀ v H' d d' ρ' O' fp σ', EnvOk K κ (G0.plus ⟨S0, fpS fj, H, start N vs, []⟩ fp) O' ρ' σ' H' → VOk K S0 O' H H' fp md d v → ρ'[j]? = some (some d') → q d d' → Q v H' := fun v H' d d' ρ' O' fp σ' e vo hd' hq => by
    obtain ⟨F', f'⟩ := e
    obtain ⟨u, e1, e2⟩ := f'.slot j d' hd'
    have e3 := f'.par j n hj
    rw [e1, show (G0.plus ⟨S0, fpS fj, H, start N vs, []⟩ fp).ps[j]? = (start N vs)[j]? from rfl, hsv] at e3
    have e3 : u = vj := by simpa using e3
    subst e3
    rw [hj] at e2
    have sub : ∀ a, fpS (F' j) a → O' a := fun a ha => (f'.own a).mpr ⟨j, ha⟩
    refine hQ v H' d d' fp (F' j) ⟨fun b o nb e => f'.keep b o nb e, fun a ha => ?_, f'.dom⟩ (f'.nd j) (fun a ha => ?_) (Own.go (.less fun a z => z.elim .inl fun z => .inr (sub a z)) n _ d' u (fun _ _ _ h => h) e2) ?_ (fun a ha => f'.s0 a (.inr ha)) hq
    · rcases f'.new j a ha with z | z
      · exact .inl z.2
      · exact .inr z
    · obtain ⟨z1, z2⟩ := f'.mu j a ha
      exact ⟨fun z => z1 (.inl z), fun z => z1 (.inr z), z2⟩
    · rcases hmd with rfl | ⟨m, rfl⟩
      · exact ⟨vo.1, Rep.go (.less fun a z => z.elim .inl fun z => .inr (sub a z)) d v vo.2⟩
      · exact ⟨vo.1, fun a ha => ⟨(vo.2.1 a ha).1, fun z => (vo.2.1 a ha).2.1 (sub a z), (vo.2.1 a ha).2.2⟩, Own.go (.less fun a z => z.elim .inl fun z => .inr (sub a z)) m fp d v (fun _ _ _ h => h) vo.2.2⟩
  refine ⟨_, _, _, _, hE, hs ds q (by omega) hsd, fun σ' H' ρ' O' e ⟨hm, d', hd', hq⟩ => ?_, fun _ _ _ _ _ h => h.elim, fun _ _ _ _ _ h => h.elim, fun v H' d ρ' O' fp σ' e vo ⟨d', hd', hq⟩ => fin v H' d d' ρ' O' fp σ' e vo hd' hq⟩
  subst hm
  exact fin .non H' .non d' ρ' O' [] σ' (by rw [plus_nil]; exact e) ⟨rfl, by simp only [Rep]⟩ hd' hq
end

def tDAx (K : PySem.W.Frag) (κ : List SK) (i j : Nat) (A : DTA) : TA := fun σ H Q => ∃ G O ρ q, EnvOk K κ G O ρ σ H ∧ A ρ q ∧ ∀ vs H' ds ρ' O', Step O O' H H' → EnvOk K κ G O' ρ' σ H' → vs.length = ds.length →
  (∃ v d, vs[j]? = some v ∧ ds[j]? = some d ∧ σ[i]? = some (some v) ∧ ρ'[i]? = some (some d)) → (∀ k x d, k ≠ j → vs[k]? = some x → ds[k]? = some d → Rep K (uni G.S0 O') H' d x) → q ds ρ' → Q vs H'
structure DAx (X : Cx) (κ : List SK) (i j : Nat) (es : List Expr) (A : DTA) : Prop where
  h : PA X es (tDAx X.K κ i j A)
def eHere (i : Nat) (A : DTA) : DTA := fun ρ q => ∃ d0, ρ[i]? = some (some d0) ∧ A ρ fun ds ρ' => ∃ d, ρ'[i]? = some (some d) ∧ q (d :: ds) ρ'
def eCallX (κ : List SK) (i np : Nat) (sd : List D → (D → D → Prop) → Prop) (A : DTA) : DTE := fun ρ q => A ρ fun ds ρ' => ds.length = np ∧ sd ds fun d d' => q d (kl κ (ρ'.set i (some d')))
section
variable {X : Cx} {κ : List SK} {pu : Bool} {i j n : Nat} {e : Expr} {es : List Expr} {pos p : Pos} {E : DTE} {A : DTA} {x : Str}
theorem dax_here (hN : X.N[i]? = some x) (hv : Vis X.env.scope x) (hd : (x == ("__debug__" : Str)) = false) (hcd : (x == ("__classdict__" : Str)) = false) (hr : DA X κ pu false es A) : DAx X κ i 0 (.Name x pos :: es) (eHere i A) := by
  refine ⟨(pac rfl (pe_var hN hv hd hcd) hr.h).weak fun σ H Q ⟨G, O, ρ, q, hE, ⟨d0, e0, hq⟩, k⟩ => ?_⟩
  obtain ⟨v, hv, _⟩ : ∃ v, σ[i]? = some (some v) ∧ True := by
    obtain ⟨F, f⟩ := id hE
    obtain ⟨v, h1, _⟩ := f.slot i d0 e0
    exact ⟨v, h1, trivial⟩
  refine ⟨v, hv, G, O, ρ, _, hE, hq, fun vs H1 ds ρ1 O1 s1 e1 r1 p1 ⟨d, hd, hq1⟩ => ?_⟩
  refine k (v :: vs) H1 (d :: ds) ρ1 O1 s1 e1 (by simp [r1.len]) ⟨v, d, rfl, rfl, hv, hd⟩ (fun m x' d' hm h1 h2 => ?_) hq1
  cases m with
  | zero => exact absurd rfl hm
  | succ m =>
    obtain ⟨u, e3, e4⟩ := r1.get (i := m) (x := d') (by simpa using h2)
    have : vs[m]? = some x' := by simpa using h1
    rw [this] at e3; cases e3
    exact e4
variable {sd : List D → (D → D → Prop) → Prop} {CX : CXT} {k : Nat} {g : Addr} {fd : FuncData} {ps : List Str} {Ex : XK} {md : SK}
theorem dclx (hp : (e :: es).all plainE = true) (hdb : (x == ("__debug__" : Str)) = false) (F : FnOk X.prog X.w X.K X.mg X.base CX k g fd ps (spX X.K ps.length j n md sd)) (hr : Room k X.A) (hg : Gl X x) (hm : X.mg x = some (.ref g)) (hk : PySem.W.keepIn X.K (.ref g) = true) (hb : Binds X.K fd ps []) (hx : Passes CX X Ex)
    (hdep : dep (kd κ i) = some n) (hmd : md = .cl ∨ ∃ m, md = .ow m) (ha : DAx X κ i j (e :: es) A) : DE X κ false md (.Call (.Name x p) (e :: es) [] pos) (eCallX κ i ps.length sd A) := by
  refine ⟨(pcl hp hdb F hr hg hm hk hb .nil hx ha.h).weak fun σ H Q ⟨G, O, ρ, q, hE, hq, k⟩ => ⟨G, O, ρ, _, hE, hq, fun vs H1 ds ρ1 O1 s1 e1 hl ⟨vj, dj, h1, h2, h3, h4⟩ hR ⟨hlen, hq1⟩ => ?_⟩⟩
  obtain ⟨F1, f1⟩ := id e1
  obtain ⟨u, h5, h6⟩ := f1.slot i dj h4
  rw [h3] at h5; cases h5
  have ho : Own X.K (uni G.S0 O1) H1 n (F1 i) dj vj := by
    cases q : kd κ i with
    | cl => rw [q] at hdep; cases hdep
    | lo => rw [q] at hdep; cases hdep
    | ow m => rw [q] at hdep h6; cases hdep; exact h6
    | io m => rw [q] at hdep h6; cases hdep; exact h6
  have le : ∀ a, uni (uni G.S0 fun a => O1 a ∧ a ∉ F1 i) (fpS (F1 i)) a → uni G.S0 O1 a := fun a z => by
    rcases z with (z | z) | z
    · exact .inl z
    · exact .inr z.1
    · exact .inr ((f1.own a).mpr ⟨i, z⟩)
  refine ⟨uni G.S0 fun a => O1 a ∧ a ∉ F1 i, ds, _, F1 i, vj, dj, by rw [List.append_nil, hl]; exact hlen, hlen, by rw [List.append_nil]; exact h1, h2, fun a z => ?_, f1.nd i, fun a ha => ⟨fun z => ?_, (f1.mu i a ha).2⟩, fun m x' d' hm e3 e4 => ?_, Own.go (.less le) n _ dj vj (fun _ _ _ h => h) ho, hq1, fun v H' d d' fp f' st nd hf own vo hfp hz => ?_⟩
  · rcases z with z | z
    · exact f1.s0 a z
    · obtain ⟨o, e, _⟩ := e1.mutO a z.1; rw [e]; simp
  · rcases z with z | z
    · exact (f1.mu i a ha).1 z
    · exact z.2 ha
  · rw [List.append_nil] at e3
    exact Rep.go (.less le) d' x' (hR m x' d' hm e3 e4)
  · have fpn : ∀ a ∈ fp, H1 a = none := fun a ha => by
      rcases hmd with rfl | ⟨m, rfl⟩
      · rw [vo.1] at ha; exact absurd ha (by simp)
      · exact (vo.2.1 a ha).1
    have le2 : ∀ a, uni (uni G.S0 (fpS fp)) (OF (setF F1 i f')) a → uni (uni (uni G.S0 fun a => O1 a ∧ a ∉ F1 i) (fpS fp)) (fpS f') a := fun a z => by
      rcases z with (z | z) | ⟨m, z⟩
      · exact .inl (.inl (.inl z))
      · exact .inl (.inr z)
      · by_cases hmi : m = i
        · rw [hmi, setF_at] at z; exact .inr z
        · rw [setF_ne hmi] at z
          exact .inl (.inl (.inr ⟨(f1.own a).mpr ⟨m, z⟩, fun w => hmi (f1.dis m i a z w)⟩))
    have le3 : ∀ a, uni G.S0 (OF (setF F1 i f')) a → uni (uni G.S0 fun a => O1 a ∧ a ∉ F1 i) (fpS f') a := fun a z => by
      rcases z with z | ⟨m, z⟩
      · exact .inl (.inl z)
      · by_cases hmi : m = i
        · rw [hmi, setF_at] at z; exact .inr z
        · rw [setF_ne hmi] at z
          exact .inl (.inr ⟨(f1.own a).mpr ⟨m, z⟩, fun w => hmi (f1.dis m i a z w)⟩)
    obtain ⟨g1, g2⟩ := EnvF.chg (H' := H') (f' := f') (fp := fp) (d' := d') (v := vj) f1 hdep (fun b o nb e => st.keep b o nb e) st.dom nd (fun a ha => ⟨st.own a ha, (hf a ha).2.2⟩) (fun a ha => ⟨fpn a ha, hfp a ha, fun z => (hf a z).2.1 ha⟩) h3 (Own.go (.less le2) n _ d' vj (fun _ _ _ h => h) own)
    refine k v H' d _ _ fp (s1.trans g2) ⟨_, g1⟩ ?_ (fun h => absurd h Bool.false_ne_true) hz
    rcases hmd with rfl | ⟨m, rfl⟩
    · exact ⟨vo.1, Rep.go (.less le3) d v vo.2⟩
    · refine VOk.base s1 ⟨vo.1, fun a ha => ⟨fpn a ha, fun ⟨m', z⟩ => ?_, (vo.2.1 a ha).2.2⟩, Own.go (.less le2) m fp d v (fun _ _ _ h => h) vo.2.2⟩
      by_cases hmi : m' = i
      · rw [hmi, setF_at] at z; exact (vo.2.1 a ha).2.1 z
      · rw [setF_ne hmi] at z
        obtain ⟨_, o, e, _⟩ := f1.mu m' a z
        rw [fpn a ha] at e; cases e
end

abbrev DTI := EnvD → (List D → EnvD → Prop) → Prop
def forGo (g : DTG) (T : DTS) (De : DEnds) : List D → EnvD → Prop
  | [], ρ => De.nx ρ
  | d :: ds, ρ => ∃ N : EnvD → Prop, (∀ ρ', N ρ' → forGo g T De ds ρ') ∧ g d ρ fun ρ2 => T { De with nx := N, ct := N, bk := De.nx } ρ2
def sFor (I : DTI) (g : DTG) (T : DTS) : DTS := fun De ρ => I ρ fun ds ρ1 => forGo g T De ds ρ1
def iL (E : DTE) : DTI := fun ρ q => E ρ fun d ρ' => ∃ ds, d = .lst ds ∧ q ds ρ'
def iR1 (A : DTA) : DTI := fun ρ q => A ρ fun ds ρ' => ∃ j : Int, ds = [.int j] ∧ -(2 ^ 62) ≤ j ∧ j < 2 ^ 62 ∧ q ((List.range j.toNat).map fun (k : Nat) => D.int (k : Int)) ρ'
def G0.with (G : G0) (p : D × V) : G0 := { G with gh := p :: G.gh }
section
variable {K : PySem.W.Frag} {κ : List SK} {G : G0} {O : Addr → Prop} {ρ : EnvD} {σ : St} {H : Hp}
theorem EnvOk.ghost {d : D} {v : V} (h : EnvOk K κ G O ρ σ H) (r : Rep K (uni G.S0 O) H d v) : EnvOk K κ (G.with (d, v)) O ρ σ H := by
  obtain ⟨F, f⟩ := h
  refine ⟨F, f.len, f.own, f.non, f.dis, f.nd, f.mu, f.new, f.par, fun p hp => ?_, f.s0, f.keep, f.dom, f.slot⟩
  rcases List.mem_cons.mp hp with rfl | hp
  · exact r
  · exact f.gh p hp
theorem EnvOk.unghost {p : D × V} {fp : List Addr} (h : EnvOk K κ ((G.with p).plus fp) O ρ σ H) : EnvOk K κ (G.plus fp) O ρ σ H := by
  obtain ⟨F, f⟩ := h
  exact ⟨F, f.len, f.own, f.non, f.dis, f.nd, f.mu, f.new, f.par, fun q hq => f.gh q (List.mem_cons_of_mem _ hq), f.s0, f.keep, f.dom, f.slot⟩
theorem EnvOk.unghost0 {p : D × V} (h : EnvOk K κ (G.with p) O ρ σ H) : EnvOk K κ G O ρ σ H := by
  have q : EnvOk K κ ((G.with p).plus []) O ρ σ H := by rw [plus_nil]; exact h
  have z := q.unghost
  rw [plus_nil] at z
  exact z
theorem EnvOk.ghostOf {p : D × V} (h : EnvOk K κ (G.with p) O ρ σ H) : Rep K (uni G.S0 O) H p.1 p.2 := by
  obtain ⟨F, f⟩ := h
  exact f.gh p (by simp [G0.with])
end
section
variable {X : Cx} {κ : List SK} {md : SK} {pu : Bool} {tg iter c : Expr} {body : List Stmt} {E : DTE} {A : DTA} {C : DTT} {g : DTG} {T : DTS} {pos p : Pos}
theorem reps_args {K : PySem.W.Frag} {S : Addr → Prop} {H : Hp} {ns : List Int} {vs : List V} (h : Reps K S H (ns.map D.int) vs) : vs = ns.map V.int := by
  induction ns generalizing vs with
  | nil => simpa only [List.map_nil, Reps] using h
  | cons n ns ih =>
    simp only [List.map_cons, Reps] at h
    obtain ⟨v, r, rfl, h1, h2⟩ := h
    rw [ih h2]
    simp only [Rep] at h1
    rw [h1]; rfl
def sWhile (C : DTT) (T : DTS) : DTS := fun De ρ => ∃ W : Nat → EnvD → Prop, (∃ m, W m ρ) ∧ ∀ m ρ, W m ρ → C ρ fun b ρ1 => if b = true then ∃ N : EnvD → Prop, (∀ ρ', N ρ' → ∃ m', m' < m ∧ W m' ρ') ∧ T { De with nx := N, ct := N, bk := De.nx } ρ1 else De.nx ρ1
theorem dwhile (hp : PassesOwn (model X.prog X.w) X.A X.env X.xe) (hc : DT X κ pu c C) (hb : DSs X κ md body T) : DS X κ md (.While c body [] pos) (sWhile C T) := by
  refine ⟨(ps_while hp hc.h hb.h).weak fun Dn σ H ⟨G, O, ρ, De, hE, ⟨W, ⟨m0, w0⟩, turn⟩, nx, bk, ct, rt⟩ => ⟨fun m σ H => ∃ ρ O, EnvOk X.K κ G O ρ σ H ∧ W m ρ, ⟨m0, ρ, O, hE, w0⟩, fun m σ H ⟨ρ, O, hE, hw⟩ => ⟨G, O, ρ, _, hE, turn m ρ hw, fun b H1 ρ1 O1 s1 e1 p1 hq => ?_⟩⟩⟩
  cases b with
  | true =>
    rw [if_pos rfl] at hq ⊢
    obtain ⟨N, hN, hT⟩ := hq
    exact ⟨fun σ' H' => ∃ ρ' O', EnvOk X.K κ G O' ρ' σ' H' ∧ N ρ', fun σ' H' ⟨ρ', O', e', n'⟩ => let ⟨m', h1, h2⟩ := hN ρ' n'; ⟨m', h1, ρ', O', e', h2⟩, G, O1, ρ1, _, e1, hT, fun σ' H' ρ' O' e' h => ⟨ρ', O', e', h⟩, fun σ' H' ρ' O' e' h => nx σ' H' ρ' O' e' h, fun σ' H' ρ' O' e' h => ⟨ρ', O', e', h⟩, rt⟩
  | false =>
    rw [if_neg Bool.false_ne_true] at hq ⊢
    exact nx σ H1 ρ1 O1 e1 hq
end
end L2

set_option maxRecDepth 100000
namespace L2
open PySem PySem.Spec PyProof.Rows

def ItOk (K : PySem.W.Frag) (S : Addr → Prop) (H : Hp) (J : It) (ds : List D) : Prop := ∃ d v, Rep K S H d v ∧ ∀ S H', Rep K S H' d v → ∀ i, (∀ d', ds[i]? = some d' → J.go i H' ∧ ∀ x H'', J.yld i H' x H'' → Same H' H'' ∧ Rep K S H'' d' x) ∧ (ds[i]? = none → J.stop i H')
def tDI (K : PySem.W.Frag) (κ : List SK) (pu lo : Bool) (I : DTI) : TI := fun σ H R => ∃ G O ρ q, EnvOk K κ G O ρ σ H ∧ I ρ q ∧ ∀ J H1 ds ρ1 O1, Step O O1 H H1 → EnvOk K κ G O1 ρ1 σ H1 → Pu pu ρ ρ1 O O1 H H1 → ItOk K (Sx lo G.S0 O1) H1 J ds → q ds ρ1 → R J H1
structure DI (X : Cx) (κ : List SK) (pu lo : Bool) (tg iter : Expr) (I : DTI) : Prop where
  h : PI X tg iter (tDI X.K κ pu lo I)
theorem PI.weak {X : Cx} {tg iter : Expr} {t t' : TI} (h : PI X tg iter t) (w : ∀ σ H R, t' σ H R → t σ H R) : PI X tg iter t' := fun pins s σ H R I q => h pins s σ H R I (w σ H R q)
section
variable {X : Cx} {κ : List SK} {md m : SK} {pu lo : Bool} {tg iter c a b : Expr} {body : List Stmt} {E : DTE} {A : DTA} {C : DTT} {g : DTG} {T : DTS} {I : DTI} {pos p : Pos}
theorem itok_l {K : PySem.W.Frag} {S : Addr → Prop} {H : Hp} {a : Addr} {ds : List D} (r : Rep K S H (.lst ds) (.ref a)) : ItOk K S H (Itl K a) ds := by
  refine ⟨_, _, r, fun S H' q i => ?_⟩
  simp only [Rep] at q
  obtain ⟨b, ws, eb, _, hrd, hr⟩ := q
  cases eb
  refine ⟨fun d e => ?_, fun e => ⟨ws, .inl hrd, by rw [hr.len]; exact List.getElem?_eq_none_iff.mp e⟩⟩
  obtain ⟨u, e2, ru⟩ := hr.get e
  refine ⟨⟨ws, u, .inl hrd, e2⟩, fun x H'' ⟨eH, y⟩ => ?_⟩
  subst eH
  refine ⟨.refl _, ?_⟩
  have := y ws (.inl hrd)
  rw [e2] at this; cases this
  exact ru
theorem itok_r {K : PySem.W.Frag} {S : Addr → Prop} {H : Hp} {lo : Int} {n : Nat} {ds : List D} (hd : ds = (List.range n).map fun (k : Nat) => D.int (lo + (k : Int))) : ItOk K S H (Itr lo n) ds := by
  refine ⟨.non, .non, by simp only [Rep], fun S H' _ i => ?_⟩
  subst hd
  refine ⟨fun d e => ?_, fun e => ?_⟩
  · rw [List.getElem?_map] at e
    by_cases hi : i < n
    · rw [List.getElem?_range hi] at e
      simp only [Option.map_some, Option.some.injEq] at e
      subst e
      refine ⟨hi, fun x H'' ⟨eH, ex⟩ => ?_⟩
      subst eH
      refine ⟨.refl _, ?_⟩
      simp only [Rep]
      exact ex
    · rw [List.getElem?_eq_none_iff.mpr (by simpa using hi)] at e
      cases e
  · have := List.getElem?_eq_none_iff.mp e
    show n ≤ i
    simpa using this
theorem diL (hm : isV m) (h : DE X κ pu m iter E) : DI X κ pu (loB m) tg iter (iL E) := by
  refine ⟨(pi_list h.h).weak fun σ H R ⟨G, O, ρ, q, hE, hq, k⟩ => ⟨G, O, ρ, _, hE, hq, fun v H1 d ρ1 O1 fp s1 e1 vo p1 ⟨ds, ed, hq1⟩ => ?_⟩⟩
  subst ed
  have r := vo.now (lo := loB m) hm (fun z => by rw [z]; rfl)
  have r0 := r
  simp only [Rep] at r
  obtain ⟨a, vs, rfl, nS, hrd, hr⟩ := r
  exact ⟨a, rfl, ⟨vs, .inl hrd⟩, k _ H1 ds ρ1 O1 s1 e1.drop p1 (itok_l r0) hq1⟩
theorem diR1 (hpl : plainE a = true) (hgl : Gl X "range") (hm : X.mg "range" = none) (hi : DA X κ pu lo [a] A) : DI X κ pu false tg (.Call (.Name "range" p) [a] [] pos) (iR1 A) := by
  refine ⟨(xrange1 hpl hgl hm hi.h).weak fun σ H R ⟨G, O, ρ, q, hE, hq, k⟩ => ⟨G, O, ρ, _, hE, hq, fun vs H1 ds ρ1 O1 s1 e1 r1 p1 ⟨j, ed, b1, b2, hq1⟩ => ?_⟩⟩
  subst ed
  exact ⟨j, reps_args (ns := [j]) r1, b1, b2, k _ H1 _ ρ1 O1 s1 e1 p1 (itok_r (by simp)) hq1⟩
theorem for_go2 {K : PySem.W.Frag} {J : It} {G : G0} {O : Addr → Prop} {ρ : EnvD} {σ : St} {H : Hp} {De : DEnds} {Dn : Ends} {ds : List D} (hE : EnvOk K κ G O ρ σ H) (hgo : forGo g T De ds ρ)
    (hJ : ∀ (i : Nat) (O : Addr → Prop) (ρ : EnvD) (σ : St) (H : Hp), EnvOk K κ G O ρ σ H → (∀ d, ds[i]? = some d → J.go i H ∧ ∀ x H', J.yld i H x H' → Same H H' ∧ Rep K (uni G.S0 O) H' d x) ∧ (ds[i]? = none → J.stop i H))
    (nx : ∀ σ' H' ρ' O', EnvOk K κ G O' ρ' σ' H' → De.nx ρ' → Dn.nx σ' H') (bk : ∀ σ' H' ρ' O', EnvOk K κ G O' ρ' σ' H' → De.bk ρ' → Dn.bk σ' H') (ct : ∀ σ' H' ρ' O', EnvOk K κ G O' ρ' σ' H' → De.ct ρ' → Dn.ct σ' H')
    (rt : ∀ v H' d ρ' O' fp σ', EnvOk K κ (G.plus fp) O' ρ' σ' H' → VOk K G.S0 O' G.H0 H' fp md d v → De.rt d ρ' → Dn.rt v H') :
    ∃ W : Nat → Nat → St → Hp → Prop, (∃ m, W 0 m σ H) ∧ ∀ i m σ H, W i m σ H →
      (J.stop i H ∧ Dn.nx σ H) ∨ (J.go i H ∧ ∃ N : St → Hp → Prop, (∀ σ' H', N σ' H' → ∃ m', m' < m ∧ W (i + 1) m' σ' H') ∧ ∀ x H', J.yld i H x H' → tDG K κ .cl g x σ H' fun σ2 H2 => tDS K κ md T { Dn with nx := N, ct := N, bk := Dn.nx } σ2 H2) := by
  refine ⟨fun i m σ H => m + i = ds.length ∧ ∃ ρ O, EnvOk K κ G O ρ σ H ∧ forGo g T De (ds.drop i) ρ, ⟨ds.length, rfl, ρ, O, hE, hgo⟩, ?_⟩
  rintro i m σ H ⟨hm, ρ, O, hE, hg⟩
  obtain ⟨h1, h2⟩ := hJ i O ρ σ H hE
  cases e : ds[i]? with
  | none =>
    left
    have hi : ds.length ≤ i := List.getElem?_eq_none_iff.mp e
    rw [List.drop_eq_nil_of_le hi] at hg
    exact ⟨h2 e, nx σ H ρ O hE hg⟩
  | some d =>
    right
    obtain ⟨g1, g2⟩ := h1 d e
    have hi : i < ds.length := (List.getElem?_eq_some_iff.mp e).1
    have ed : ds.drop i = d :: ds.drop (i + 1) := by
      rw [List.drop_eq_getElem_cons hi]
      congr 1
      exact (List.getElem?_eq_some_iff.mp e).2
    rw [ed] at hg
    obtain ⟨Nd, hNd, hg⟩ := hg
    refine ⟨g1, fun σ' H' => ∃ ρ' O', EnvOk K κ G O' ρ' σ' H' ∧ Nd ρ', fun σ' H' ⟨ρ', O', e', hg'⟩ => ⟨ds.length - (i + 1), by omega, by omega, ρ', O', e', hNd _ hg'⟩, fun x H' y => ?_⟩
    obtain ⟨sm, r⟩ := g2 x H' y
    exact ⟨G, O, ρ, _, d, hE.same0 sm, r, hg, fun σ' ρ' e' hT => ⟨G, O, ρ', _, e', hT, fun σ2 H2 ρ2 O2 e2 hg2 => ⟨ρ2, O2, e2, hg2⟩, fun σ2 H2 ρ2 O2 e2 hg2 => nx σ2 H2 ρ2 O2 e2 hg2, fun σ2 H2 ρ2 O2 e2 hg2 => ⟨ρ2, O2, e2, hg2⟩, rt⟩⟩
theorem dfor (hs : ∀ x, foldedSetIterable iter X.env x = pure x) (hp : PassesOwn (model X.prog X.w) X.A X.env X.xe) (hc : X.calm = true) (hi : DI X κ pu false tg iter I) (hg : DG X κ .cl tg g) (hb : DSs X κ md body T) : DS X κ md (.For tg iter body [] pos) (sFor I g T) := by
  refine ⟨(ps_for hp hc hi.h hg.h hb.h hs).weak fun Dn σ H ⟨G, O, ρ, De, hE, hT, nx, bk, ct, rt⟩ => ⟨G, O, ρ, _, hE, hT, fun J H1 ds ρ1 O1 s1 e1 p1 ⟨d, v, r, hJ⟩ hq => ?_⟩⟩
  exact for_go2 (G := G.with (d, v)) (e1.ghost r) hq (fun i O ρ σ H hE => hJ _ H hE.ghostOf i) (fun σ' H' ρ' O' e => nx σ' H' ρ' O' e.unghost0) (fun σ' H' ρ' O' e => bk σ' H' ρ' O' e.unghost0) (fun σ' H' ρ' O' e => ct σ' H' ρ' O' e.unghost0) fun v H' d ρ' O' fp σ' e vo => rt v H' d ρ' O' fp σ' e.unghost vo
end

def inD (js : List (Option Nat)) (ρ : EnvD) : EnvD := js.map fun j => match j with | some j => (match ρ[j]? with | some v => v | none => none) | none => none
def compGo (g : DTG) (C : DTT) (E : DTE) : List D → List D → EnvD → (List D → EnvD → Prop) → Prop
  | [], acc, ρ, q => q acc ρ
  | d :: ds, acc, ρ, q => ∃ N : List D → EnvD → Prop, (∀ acc' ρ', N acc' ρ' → compGo g C E ds acc' ρ' q) ∧ g d ρ fun ρ1 => C ρ1 fun b ρ2 => if b = true then E ρ2 fun z ρ3 => acc.length < sizeLine ∧ N (acc ++ [z]) ρ3 else N acc ρ2
def eComp (js : List (Option Nat)) (I : DTI) (g : DTG) (C : DTT) (E : DTE) : DTE := fun ρ q => I ρ fun ds ρ1 => compGo g C E ds [] (inD js ρ1) fun acc _ => q (.lst acc) ρ1
structure DIf (X : Cx) (κ : List SK) (ifs : List Expr) (C : DTT) : Prop where
  h : PIfs X ifs (tDT X.K κ false C)
def eYes : DTT := fun ρ q => q true ρ
theorem PIfs.weak {X : Cx} {e : List Expr} {t t' : TT} (h : PIfs X e t) (w : ∀ σ H Q, t' σ H Q → t σ H Q) : PIfs X e t' := fun pins s σ H Q I q => h pins s σ H Q I (w σ H Q q)
theorem dif0 {X : Cx} {κ : List SK} : DIf X κ [] eYes := ⟨pif0.weak fun σ H Q ⟨G, O, ρ, q, hE, hq, k⟩ => k true H ρ O (.refl _ _) hE (fun h => absurd h Bool.false_ne_true) hq⟩
section
variable {K : PySem.W.Frag} {κ : List SK} {G : G0} {O : Addr → Prop} {ρ : EnvD} {σ : St} {H : Hp}
theorem EnvOk.updS {p : Addr} {o o' : HO} (h : EnvOk K κ G O ρ σ H) (hS : G.S0 p) (hp : H p = some o') (m : isM o') (h0 : G.H0 p = none) : EnvOk K κ G O ρ σ (upd H p o) := by
  obtain ⟨F, f⟩ := h
  have ne : ∀ k a, a ∈ F k → a ≠ p := fun k a ha z => (f.mu k a ha).1 (by rw [z]; exact hS)
  have gU : Goes (uni G.S0 O) (uni G.S0 O) H (upd H p o) := Goes.upd hp m (.inl hS)
  refine ⟨F, f.len, f.own, f.non, f.dis, f.nd, fun k a ha => ?_, f.new, f.par, fun q hq => Rep.go gU _ _ (f.gh q hq), fun a z => ?_, fun b ob n e => ?_, fun b e => ?_, fun k d e => ?_⟩
  · obtain ⟨z1, ob, z2, z3⟩ := f.mu k a ha
    exact ⟨z1, ob, by rw [upd_ne (ne k a ha)]; exact z2, z3⟩
  · by_cases hap : a = p
    · rw [hap, upd_same]; simp
    · rw [upd_ne hap]; exact f.s0 a z
  · have hbp : b ≠ p := by rintro rfl; rw [h0] at e; cases e
    rw [upd_ne hbp]; exact f.keep b ob n e
  · by_cases hap : b = p
    · rw [hap, upd_same]; simp
    · rw [upd_ne hap]; exact f.dom b e
  · obtain ⟨v, e1, e2⟩ := f.slot k d e
    refine ⟨v, e1, ?_⟩
    cases q : kd κ k with
    | cl => rw [q] at e2; exact Rep.go gU d v e2
    | ow n => rw [q] at e2; exact Own.go gU n _ d v (fun a ha ob eo => by rw [upd_ne (ne k a ha)]; exact eo) e2
    | io n => rw [q] at e2; exact Own.go gU n _ d v (fun a ha ob eo => by rw [upd_ne (ne k a ha)]; exact eo) e2
    | lo => rw [q] at e2; exact Rep.go (Goes.upd hp m hS) d v e2
theorem EnvOk.read {i : Nat} {d : D} (h : EnvOk K κ G O ρ σ H) (e : ρ[i]? = some (some d)) : ∃ v, σ[i]? = some (some v) ∧ Rep K G.S0 H d v ∧ (kd κ i = .cl → Rep K (uni G.S0 O) H d v) := by
  obtain ⟨F, f⟩ := h
  obtain ⟨v, h1, h2⟩ := f.slot i d e
  refine ⟨v, h1, ?_, fun z => by rw [z] at h2; exact h2⟩
  cases e : kd κ i with
  | cl => rw [e] at h2; exact Rep.go (.less fun _ z => .inl z) d v h2
  | lo => rw [e] at h2; exact h2
  | ow n => rw [e] at h2; exact Own.rep n (F i) d v (fun a ha => (f.mu i a ha).1) (fun _ z => .inl z) h2
  | io n => rw [e] at h2; exact Own.rep n (F i) d v (fun a ha => (f.mu i a ha).1) (fun _ z => .inl z) h2
theorem inD_get {js : List (Option Nat)} {p : Nat} {d : D} (h : (inD js ρ)[p]? = some (some d)) : ∃ j, js[p]? = some (some j) ∧ ρ[j]? = some (some d) := by
  unfold inD at h
  rw [List.getElem?_map] at h
  cases e : js[p]? with
  | none => rw [e] at h; cases h
  | some oj =>
    rw [e] at h
    cases oj with
    | none => cases h
    | some j =>
      simp only [Option.map_some, Option.some.injEq] at h
      refine ⟨j, rfl, ?_⟩
      cases e2 : ρ[j]? with
      | none => rw [e2] at h; cases h
      | some v => rw [e2] at h; rw [show v = some d from h]
theorem inSt_get {js : List (Option Nat)} {p j : Nat} {v : V} (h : js[p]? = some (some j)) (e : σ[j]? = some (some v)) : (inSt js σ)[p]? = some (some v) := by
  unfold inSt
  rw [List.getElem?_map, h]
  simp only [Option.map_some]
  rw [e]
end
theorem drop_at {α : Type} {ds : List α} {i : Nat} {d : α} (e : ds[i]? = some d) : ds.drop i = d :: ds.drop (i + 1) := by
  have hi : i < ds.length := (List.getElem?_eq_some_iff.mp e).1
  rw [List.drop_eq_getElem_cons hi]
  congr 1
  exact (List.getElem?_eq_some_iff.mp e).2
theorem Reps.snoc {K : PySem.W.Frag} {S : Addr → Prop} {H : Hp} : ∀ {l : List D} {vs : List V} {d : D} {v : V}, Reps K S H l vs → Rep K S H d v → Reps K S H (l ++ [d]) (vs ++ [v])
  | [], vs, d, v, h, r => by
    simp only [Reps] at h; subst h
    simp only [List.nil_append, Reps]
    exact ⟨v, [], rfl, r, rfl⟩
  | x :: l, vs, d, v, h, r => by
    simp only [Reps] at h
    obtain ⟨u, t, rfl, h1, h2⟩ := h
    simp only [List.cons_append, Reps]
    exact ⟨u, t ++ [v], rfl, h1, h2.snoc r⟩
section
variable {X : Cx} {κ : List SK} {pu lo : Bool} {I : DTI} {g : DTG} {C : DTT} {E : DTE} {js : List (Option Nat)} {K : PySem.W.Frag}
theorem comp_go (hcap : lo = false → ∀ j ∈ js, ∀ i, j = some i → kd κ i = .cl) {pe : Bool} {lo0 : Bool} (hlo : lo0 = true → lo = true) {σ : St} {H : Hp} {Q : VK} (h : tD K κ pu (outM lo (.ow 1)) (eComp js I g C E) σ H Q) :
    tComp js (tDI K κ pu lo0 I) (tDG K [] .cl g) (tDT K [] false C) (tD K [] pe .cl E) σ H Q := by
  obtain ⟨G, O, ρ, q, hE, hq, k⟩ := h
  refine ⟨G, O, ρ, _, hE, hq, fun J H1 ds ρ1 O1 s1 e1 p1 ⟨di, vi, ri, hJ⟩ hgo Dl hD => ?_⟩
  let S := uni (Sx lo G.S0 O1) (· = Dl)
  let Gi : G0 := ⟨S, fun _ => False, H1, inSt js σ, []⟩
  have ri' : Rep K (Sx lo G.S0 O1) H1 di vi := by
    cases lo with
    | false =>
      cases lo0 with
      | false => exact ri
      | true => exact absurd (hlo rfl) Bool.false_ne_true
    | true =>
      cases lo0 with
      | false => exact Rep.go (.less fun _ z => .inl z) di vi ri
      | true => exact ri
  have u0 : uni S (fun _ => False) = S := by funext a; simp [uni]
  have start : EnvOk K [] Gi (fun _ => False) (inD js ρ1) (inSt js σ) (upd H1 Dl (.lst [])) := by
    refine ⟨fun _ => [], ?_, fun a => by simp, fun _ _ => rfl, fun i j a h => absurd h (by simp), fun _ => by simp, fun i a h => absurd h (by simp), fun i a h => absurd h (by simp), fun i n e => rfl, fun p hp => absurd hp (by simp [Gi]), fun a z => ?_, fun b o _ e => ?_, fun b e => ?_, fun p d e => ?_⟩
    · simp [inD, inSt]
    · rcases z with z | z
      · have := Sx_dom (lo := lo) e1 a z
        by_cases hab : a = Dl
        · rw [hab, upd_same]; simp
        · rw [upd_ne hab]; exact this
      · rw [z, upd_same]; simp
    · rw [upd_ne (ne_of_none e hD)]; exact e
    · by_cases hab : b = Dl
      · rw [hab, upd_same]; simp
      · rw [upd_ne hab]; exact e
    · obtain ⟨j, hj, e2⟩ := inD_get e
      obtain ⟨v, h1, h2, h3⟩ := e1.read e2
      refine ⟨v, inSt_get hj h1, ?_⟩
      show Rep K (uni S fun _ => False) _ d v
      rw [u0]
      refine Rep.go (Goes.fresh hD) d v ?_
      cases lo with
      | true => exact h2
      | false => exact h3 (hcap rfl (some j) (List.mem_of_getElem? hj) j rfl)
  have empty : ∀ {O' : Addr → Prop} {ρ' : EnvD} {σ' : St} {H' : Hp}, EnvOk K [] Gi O' ρ' σ' H' → O' = fun _ => False := fun {O' ρ' σ' H'} h => by
    obtain ⟨F, f⟩ := h
    funext a
    have : ¬ O' a := fun z => by
      obtain ⟨i, hi⟩ := (f.own a).mp z
      rw [f.non i (by simp [kd, dep])] at hi
      exact absurd hi (by simp)
    simp [this]
  have sameIn : ∀ {O' : Addr → Prop} {ρ' : EnvD} {σ' : St} {H' : Hp}, EnvOk K [] Gi O' ρ' σ' H' → Same H1 H' := fun h => by
    obtain ⟨F, f⟩ := h
    exact fun b o e => f.keep b o (fun z => z) e
  refine ⟨fun i m σ' H' => m + i = ds.length ∧ ∃ ρi acc vs, EnvOk K [] Gi (fun _ => False) ρi σ' H' ∧ H' Dl = some (.lst vs) ∧ Reps K S H' acc vs ∧ compGo g C E (ds.drop i) acc ρi (fun acc _ => q (.lst acc) ρ1), ⟨ds.length, rfl, _, [], [], start, upd_same, by simp only [Reps], hgo⟩, ?_⟩
  rintro i m σ' H' ⟨hm, ρi, acc, vs, en, hDl, hacc, hg⟩
  have sm := sameIn en
  have hit := hJ _ H' (Rep.go (Goes.same sm) di vi ri') i
  cases e : ds[i]? with
  | none =>
    left
    have hi : ds.length ≤ i := List.getElem?_eq_none_iff.mp e
    rw [List.drop_eq_nil_of_le hi] at hg
    refine ⟨hit.2 e, ?_⟩
    have vr : VRes K (Sx lo G.S0 O1) H1 H' [Dl] (.ow 1) (.lst acc) (.ref Dl) := by
      refine ⟨by simp, fun a ha => ?_, ?_⟩
      · obtain rfl : a = Dl := by simpa using ha
        exact ⟨hD, _, hDl, trivial⟩
      · simp only [Own]
        have eq : uni (Sx lo G.S0 O1) (fpS [Dl]) = S := by funext a; simp [uni, fpS, S]
        refine ⟨Dl, acc.map fun _ => [], rfl, by simp, .inl ⟨acc, vs, rfl, hDl, by simp, hacc.len, fun i f x u e1 e2 e3 => ⟨?_, ?_⟩⟩⟩
        · rw [List.getElem?_map, e2] at e1; simpa using e1.symm
        · obtain ⟨u', e4, r⟩ := hacc.get e2
          rw [e3] at e4; cases e4
          rw [eq]; exact r
    obtain ⟨fp', st, en', vo⟩ := VRes.fin e1 s1 sm vr (by simp)
    exact k _ H' _ ρ1 O1 fp' st en' vo (p1.same sm) hg
  | some d =>
    right
    rw [drop_at e] at hg
    obtain ⟨Nd, hNd, hg⟩ := hg
    obtain ⟨g1, g2⟩ := hit.1 d e
    have hi : i < ds.length := (List.getElem?_eq_some_iff.mp e).1
    refine ⟨g1, fun σ2 H2 => ∃ ρi acc vs, EnvOk K [] Gi (fun _ => False) ρi σ2 H2 ∧ H2 Dl = some (.lst vs) ∧ Reps K S H2 acc vs ∧ compGo g C E (ds.drop (i + 1)) acc ρi (fun acc _ => q (.lst acc) ρ1), fun σ2 H2 ⟨ρi, acc, vs, z⟩ => ⟨ds.length - (i + 1), by omega, by omega, ρi, acc, vs, z⟩, fun x H2 y => ?_⟩
    -- the item: it keeps from the list too
    have hit2 := hJ S H' (by
      have q1 := Rep.go (Goes.fresh (o := .lst []) hD) di vi ri'
      have g3 : Goes S S (upd H1 Dl (.lst [])) H' := by
        refine ⟨fun a xs z => ?_, fun a u nS z => ⟨?_, nS⟩, fun a o u z => by
          have hab : a ≠ Dl := by rintro rfl; rw [upd_same] at z; cases z
          rw [upd_ne hab] at z; exact sm _ _ z⟩
        · obtain ⟨_, ez⟩ := z.some
          by_cases hab : a = Dl
          · subst hab
            rcases z with z | ⟨_, z⟩ <;> (rw [upd_same] at z; cases z)
          · rcases z with z | ⟨o, z⟩
            · rw [upd_ne hab] at z; exact .inl (sm _ _ z)
            · rw [upd_ne hab] at z; exact .inr ⟨o, sm _ _ z⟩
        · have hab : a ≠ Dl := fun z => nS (.inr z)
          rcases z with z | ⟨o, z⟩
          · rw [upd_ne hab] at z; exact .inl (sm _ _ z)
          · rw [upd_ne hab] at z; exact .inr ⟨o, sm _ _ z⟩
      exact Rep.go g3 di vi q1) i
    obtain ⟨sm2, rx⟩ := (hit2.1 d e).2 x H2 y
    have en2 := en.same0 sm2
    have hDl2 := sm2 _ _ hDl
    have hacc2 := Reps.go (Goes.same sm2) acc vs hacc
    refine ⟨Gi, _, ρi, _, d, en2, (by rw [show Sx (loB .cl) Gi.S0 (fun _ => False) = uni S fun _ => False from rfl, u0]; exact rx), hg, fun σ3 ρ3 e3 hc => ⟨Gi, _, ρ3, _, e3, hc, fun b H4 ρ4 O4 s4 e4 p4 hb => ?_⟩⟩
    have o4 := empty e4
    subst o4
    have sm4 : Same H2 H4 := fun b o e => s4.keep b o (fun z => z) e
    have hDl4 := sm4 _ _ hDl2
    have hacc4 := Reps.go (Goes.same sm4) acc vs hacc2
    cases b with
    | false =>
      rw [if_neg Bool.false_ne_true] at hb
      exact iteF ⟨ρ4, acc, vs, e4, hDl4, hacc4, hNd _ _ hb⟩
    | true =>
      rw [if_pos rfl] at hb
      refine iteT ⟨Gi, _, ρ4, _, e4, hb, fun v H5 z ρ5 O5 fp s5 e5 vo p5 ⟨hlen, hz⟩ => ?_⟩
      have e5' := e5.drop
      have o5 := empty e5'
      subst o5
      have sm5 : Same H4 H5 := fun b o e => s5.keep b o (fun z => z) e
      have hDl5 := sm5 _ _ hDl4
      have hacc5 := Reps.go (Goes.same sm5) acc vs hacc4
      refine ⟨vs, hDl5, by rw [hacc.len]; exact hlen, ρ5, acc ++ [z], vs ++ [v], e5'.updS (.inr rfl) hDl5 trivial hD, upd_same, ?_, hNd _ _ hz⟩
      have gU : Goes S S H5 (upd H5 Dl (.lst (vs ++ [v]))) := Goes.upd hDl5 trivial (.inr rfl)
      have rv := vo.2
      rw [show uni Gi.S0 (fun _ => False) = S from u0] at rv
      exact Reps.snoc (Reps.go gU acc vs hacc5) (Rep.go gU z v rv)
variable {tg elt iter : Expr} {ifs : List Expr} {scope : Scope} {pos : Pos} {Nc : List Str} {lo0 pe md : Bool}
theorem dcomp (hs : ∀ x, foldedSetIterable iter X.env x = pure x) (hc : X.calm = true) (hcap : lo = false → ∀ j ∈ js, ∀ i, j = some i → kd κ i = .cl) (hlo : lo0 = true → lo = true) (hi : DI X κ pu lo0 tg iter I) (S : CompSc X Nc js scope)
    (hb : ∀ pins fp H s C', DG (cxComp X Nc scope pins fp H s C') [] .cl tg g ∧ DIf (cxComp X Nc scope pins fp H s C') [] ifs C ∧ DE (cxComp X Nc scope pins fp H s C') [] pe .cl elt E) :
    DE X κ pu (outM lo (.ow 1)) (.ListComp elt [⟨tg, iter, ifs, 0⟩] scope pos) (eComp js I g C E) :=
  ⟨(pe_comp hc hi.h S (fun p f H s C' => let ⟨x, y, z⟩ := hb p f H s C'; ⟨x.h, y.h, z.h⟩) hs).weak fun σ H Q h => comp_go (K := X.K) hcap hlo h⟩
theorem dsetC {i : Nat} {y : Str} {py spos : Pos} {mr : SK} (hk : (lo = false ∧ (kd κ i = .cl ∨ kd κ i = .ow 1)) ∨ (lo = true ∧ kd κ i = .lo)) (hsw : swapsWith (.ListComp elt [⟨tg, iter, ifs, 0⟩] scope pos) (some (.Name y py)) spos.line X.env = pure true) (hs : ∀ x, foldedSetIterable iter X.env x = pure x)
    (hc : X.calm = true) (hN : X.N.Nodup) (hiN : X.N[i]? = some y) (hy : X.env.scope.names.lookup y = some .local) (hcap : lo = false → ∀ j ∈ js, ∀ i, j = some i → kd κ i = .cl) (hlo : lo0 = true → lo = true) (hi : DI X κ pu lo0 tg iter I) (S : CompSc X Nc js scope)
    (hb : ∀ pins fp H s C', DG (cxComp X Nc scope pins fp H s C') [] .cl tg g ∧ DIf (cxComp X Nc scope pins fp H s C') [] ifs C ∧ DE (cxComp X Nc scope pins fp H s C') [] pe .cl elt E) :
    DS X κ mr (.Assign [.Name y py] (.ListComp elt [⟨tg, iter, ifs, 0⟩] scope pos) spos) (sSet i (eComp js I g C E)) := by
  refine ⟨(ps_setC hc hN hiN hy hi.h S (fun p f H s C' => let ⟨x, y, z⟩ := hb p f H s C'; ⟨x.h, y.h, z.h⟩) hsw hs).weak fun D σ H ⟨G, O, ρ, De, hE, hT, nx, bk, ct, rt⟩ => comp_go (K := X.K) hcap hlo ⟨G, O, ρ, _, hE, hT, fun v H' d ρ' O' fp s1 e1 vo p1 hq => ?_⟩⟩
  rcases hk with ⟨rfl, hk⟩ | ⟨rfl, hk⟩
  · rcases hk with hk | hk
    · exact nx _ H' _ O' (e1.drop.put (.inl ⟨hk, (VOk.clean hE.s0 vo).2⟩)) hq
    · obtain ⟨O2, e2⟩ := EnvOk.putO hk e1 hE.dom hE.s0 vo
      exact nx _ H' _ O2 e2 hq
  · exact nx _ H' _ O' (e1.drop.put (.inr ⟨hk, vo.2⟩)) hq
end
end L2

set_option maxRecDepth 100000
namespace L2
open PySem PySem.Spec PyProof.Rows
section
variable {X : Cx} {κ κc : List SK} {pu : Bool} {I : DTI} {g : DTG} {C : DTT} {E : DTE} {js : List (Option Nat)} {K : PySem.W.Frag} {i0 pI n : Nat}
variable {tg elt iter : Expr} {ifs : List Expr} {scope : Scope} {pos : Pos} {Nc : List Str} {pe : Bool}
end
end L2

set_option maxRecDepth 100000
namespace L2
open PySem PySem.Spec PyProof.Rows
section
variable {X : Cx} {f : Value → Value → Sem Value}
abbrev DR2 := D → D → (D → Prop) → Prop
abbrev DRn := List D → (D → Prop) → Prop
def oI (C : Int → Int → Prop) (g : Int → Int → D) : DR2 := fun x y q => ∃ i j, x = .int i ∧ y = .int j ∧ C i j ∧ q (g i j)
def oI0 (g : Int → Int → D) : DR2 := fun x y q => ∃ i j, x = .int i ∧ y = .int j ∧ q (g i j)
theorem dopI {C : Int → Int → Prop} {g : Int → Int → V} {gd : Int → Int → D} (h : OpR X f (rI C g)) (hg : ∀ i j S H, Rep X.K S H (gd i j) (g i j)) : DOp X .cl f (oI C gd) :=
  ⟨⟨_, h, fun S H dx dy vx vy q Q rx ry ⟨i, j, ex, ey, c, hq⟩ k => by
    subst ex ey
    simp only [Rep] at rx ry
    exact ⟨i, j, rx, ry, c, k _ H _ [] (.refl _) ⟨rfl, hg i j S H⟩ hq⟩⟩⟩
theorem dopI0 {g : Int → Int → V} {gd : Int → Int → D} (h : OpR X f (rI0 g)) (hg : ∀ i j S H, Rep X.K S H (gd i j) (g i j)) : DOp X .cl f (oI0 gd) :=
  ⟨⟨_, h, fun S H dx dy vx vy q Q rx ry ⟨i, j, ex, ey, hq⟩ k => by
    subst ex ey
    simp only [Rep] at rx ry
    exact ⟨i, j, rx, ry, k _ H _ [] (.refl _) ⟨rfl, hg i j S H⟩ hq⟩⟩⟩
theorem do_add : DOp X .cl (binaryOp .Add) (oI0 fun i j => .int (i + j)) := dopI0 op_add fun _ _ _ _ => by simp only [Rep]
theorem do_sub : DOp X .cl (binaryOp .Sub) (oI0 fun i j => .int (i - j)) := dopI0 op_sub fun _ _ _ _ => by simp only [Rep]
theorem do_mul : DOp X .cl (binaryOp .Mult) (oI IntMulOk fun i j => .int (i * j)) := dopI op_mulB fun _ _ _ _ => by simp only [Rep]
theorem do_mod : DOp X .cl (binaryOp .Mod) (oI (fun _ j => 0 < j) fun i j => .int (i % j)) := dopI op_mod fun _ _ _ _ => by simp only [Rep]
theorem do_fdiv : DOp X .cl (binaryOp .FloorDiv) (oI CDiv fun i j => .int (i / j)) := dopI op_fdiv fun _ _ _ _ => by simp only [Rep]
theorem do_pow : DOp X .cl (binaryOp .Pow) (oI CPow fun i j => .int (i ^ j.toNat)) := dopI op_pow fun _ _ _ _ => by simp only [Rep]
theorem do_lt : DOp X .cl (compareOp .Lt) (oI0 fun i j => .bl (decide (i < j))) := dopI0 op_lt fun _ _ _ _ => by simp only [Rep]
theorem do_gt : DOp X .cl (compareOp .Gt) (oI0 fun i j => .bl (decide (j < i))) := dopI0 op_gt fun _ _ _ _ => by simp only [Rep]
theorem do_ge : DOp X .cl (compareOp .GtE) (oI0 fun i j => .bl (decide (j ≤ i))) := dopI0 op_ge fun _ _ _ _ => by simp only [Rep]

def oEq : DR2 := fun x y q => okE 12 x = true ∧ okE 12 y = true ∧ q (.bl (pyEq x y))
def oNe : DR2 := fun x y q => okE 12 x = true ∧ okE 12 y = true ∧ q (.bl (!pyEq x y))
theorem do_eq (hu : X.A.units + 12 < cLine) : DOp X .cl (compareOp .Eq) oEq := by
  refine ⟨fun x y H Q => ∃ S dx dy, okE 12 dx = true ∧ okE 12 dy = true ∧ Rep X.K S H dx x ∧ Rep X.K S H dy y ∧ Q (.bl (pyEq dx dy)) H, ?_, fun S H dx dy vx vy q Q rx ry ⟨h1, h2, hq⟩ k => ⟨S, dx, dy, h1, h2, rx, ry, k _ H _ [] (.refl _) ⟨rfl, by simp only [Rep]⟩ hq⟩⟩
  intro pins s σ H x y v u Q I rx ry h
  obtain ⟨S, dx, dy, h1, h2, r1, r2, q⟩ := h
  exact (eqD_ok I 12 X.A dx dy x y v u h1 h2 hu r1 r2 rx ry).r _ _ _ _ ⟨.bl _, H, I, rfl, q⟩
theorem do_ne (hu : X.A.units + 12 < cLine) : DOp X .cl (compareOp .NotEq) oNe := by
  refine ⟨fun x y H Q => ∃ S dx dy, okE 12 dx = true ∧ okE 12 dy = true ∧ Rep X.K S H dx x ∧ Rep X.K S H dy y ∧ Q (.bl (!pyEq dx dy)) H, ?_, fun S H dx dy vx vy q Q rx ry ⟨h1, h2, hq⟩ k => ⟨S, dx, dy, h1, h2, rx, ry, k _ H _ [] (.refl _) ⟨rfl, by simp only [Rep]⟩ hq⟩⟩
  intro pins s σ H x y v u Q I rx ry h
  obtain ⟨S, dx, dy, h1, h2, r1, r2, q⟩ := h
  exact (eqD_ok I 12 X.A dx dy x y v u h1 h2 hu r1 r2 rx ry).n _ _ _ _ ⟨.bl _, H, I, rfl, q⟩


theorem do_adds : DOp X .cl (binaryOp .Add) (fun x y q => ∃ i j, x = .str i ∧ y = .str j ∧ i.length + j.length ≤ sizeLine ∧ q (.str (i ++ j))) :=
  ⟨⟨_, op_add_str, fun S H dx dy vx vy q Q rx ry ⟨i, j, ex, ey, hl, hq⟩ k => by
    subst ex ey
    simp only [Rep] at rx ry
    exact ⟨i, j, rx, ry, hl, k _ H _ [] (.refl _) ⟨rfl, by simp only [Rep]⟩ hq⟩⟩⟩

structure DIx (X : Cx) (r : DR2) : Prop where
  h : ∃ r', IxR X r' ∧ ∀ S H dx dy vx vy q Q, Rep X.K S H dx vx → Rep X.K S H dy vy → r dx dy q → (∀ v H' z fp, Same H H' → VRes X.K S H H' fp .cl z v → q z → Q v H') → r' vx vy H Q
theorem atI_map {l : List D} {vs : List V} {K : PySem.W.Frag} {S : Addr → Prop} {H : Hp} {i : Int} {d : D} (h : Reps K S H l vs) (e : atI l i = some d) : ∃ v, atI vs i = some v ∧ Rep K S H d v := by
  unfold atI at e ⊢
  rw [h.len]
  cases z : ixN l.length i with
  | none => rw [z] at e; cases e
  | some j =>
    rw [z] at e
    simp only [Option.bind_some] at e ⊢
    obtain ⟨u, h1, h2⟩ := h.get e
    exact ⟨u, h1, h2⟩
theorem dix_l : DIx X (fun x y q => ∃ l i d, x = .lst l ∧ y = .int i ∧ atI l i = some d ∧ q d) :=
  ⟨⟨_, ix_list, fun S H dx dy vx vy q Q rx ry ⟨l, i, d, ex, ey, he, hq⟩ k => by
    subst ex ey
    simp only [Rep] at rx ry
    obtain ⟨a, xs, rfl, _, h1, r1⟩ := rx
    obtain ⟨v, h2, h3⟩ := atI_map r1 he
    exact ⟨a, xs, i, v, rfl, ry, .inl h1, h2, k _ H _ [] (.refl _) ⟨rfl, h3⟩ hq⟩⟩⟩
theorem dix_scr : DIx X (fun x y q => ∃ ns i n, x = .scr ns ∧ y = .int i ∧ atI ns i = some n ∧ q (.int n)) :=
  ⟨⟨_, ix_list, fun S H dx dy vx vy q Q rx ry ⟨ns, i, n, ex, ey, he, hq⟩ k => by
    subst ex ey
    simp only [Rep] at rx ry
    obtain ⟨a, rfl, h1⟩ := rx
    refine ⟨a, _, i, .int n, rfl, ry, h1.sq, ?_, k _ H _ [] (.refl _) ⟨rfl, by simp only [Rep]⟩ hq⟩
    unfold atI at he ⊢
    rw [List.length_map]
    cases z : ixN ns.length i with
    | none => rw [z] at he; cases he
    | some j => rw [z] at he; simp only [Option.bind_some] at he ⊢; rw [List.getElem?_map, he]; rfl⟩⟩
theorem dix_s : DIx X (fun x y q => ∃ z i c, x = .str z ∧ y = .int i ∧ z.length ≤ sizeLine ∧ atI z.cps.toList i = some c ∧ q (.str ⟨#[c]⟩)) :=
  ⟨⟨_, ix_str, fun S H dx dy vx vy q Q rx ry ⟨z, i, c, ex, ey, hl, he, hq⟩ k => by
    subst ex ey
    simp only [Rep] at rx ry
    exact ⟨z, i, c, rx, ry, hl, he, k _ H _ [] (.refl _) ⟨rfl, by simp only [Rep]⟩ hq⟩⟩⟩
variable {κ : List SK} {pu1 pu2 : Bool} {m1 m2 : SK} {a b : Expr} {Ea Eb : DTE} {r : DR2} {pos : Pos}
theorem dix (hs : PlainIx b) (ho : DIx X r) (v1 : isV m1) (v2 : isV m2) (hp : m1 = .lo → pu2 = true) (ha : DE X κ pu1 m1 a Ea) (hb : DE X κ pu2 m2 b Eb) : DE X κ (pu1 && pu2) (outM (loB m1 || loB m2) .cl) (.Subscript a b pos) (eOp r Ea Eb) := by
  obtain ⟨r', h1, h2⟩ := ho.h
  exact ⟨(pe_ix h1 ha.h hb.h hs).weak fun σ H Q h => op_go (f := binaryOp .Add) h2 v1 v2 hp (by simp) h⟩

def cLen : DRn := fun ds q => (∃ l, ds = [.scr l] ∧ q (.int l.length)) ∨ (∃ l, ds = [.lst l] ∧ q (.int l.length)) ∨ (∃ l, ds = [.tup l] ∧ q (.int l.length)) ∨ (∃ z, ds = [.str z] ∧ z.length ≤ sizeLine ∧ q (.int z.length))
theorem reps1 {K : PySem.W.Frag} {S : Addr → Prop} {H : Hp} {d : D} {vs : List V} (h : Reps K S H [d] vs) : ∃ v, vs = [v] ∧ Rep K S H d v := by
  simp only [Reps] at h
  obtain ⟨v, r, rfl, h1, rfl⟩ := h
  exact ⟨v, rfl, h1⟩
theorem reps2 {K : PySem.W.Frag} {S : Addr → Prop} {H : Hp} {d e : D} {vs : List V} (h : Reps K S H [d, e] vs) : ∃ v u, vs = [v, u] ∧ Rep K S H d v ∧ Rep K S H e u := by
  simp only [Reps] at h
  obtain ⟨v, r, rfl, h1, u, r', rfl, h2, rfl⟩ := h
  exact ⟨v, u, rfl, h1, h2⟩
theorem dc_len : DCall X .cl (.builtin "len") cLen := by
  refine ⟨_, call_len_seq.or call_len_str, fun S H ds vs q Q rv h k => ?_⟩
  have fin : ∀ n : Int, q (.int n) → Q (.int n) H := fun n hq => k _ H _ [] (.refl _) ⟨rfl, by simp only [Rep]⟩ hq
  rcases h with ⟨l, rfl, hq⟩ | ⟨l, rfl, hq⟩ | ⟨l, rfl, hq⟩ | ⟨z, rfl, hz, hq⟩
  · obtain ⟨v, rfl, r⟩ := reps1 rv
    simp only [Rep] at r
    obtain ⟨a, rfl, h1⟩ := r
    exact .inl ⟨a, _, rfl, .inl h1.sq, by rw [List.length_map]; exact fin _ hq⟩
  · obtain ⟨v, rfl, r⟩ := reps1 rv
    simp only [Rep] at r
    obtain ⟨a, xs, rfl, _, h1, r1⟩ := r
    exact .inl ⟨a, xs, rfl, .inl (.inl h1), by rw [r1.len]; exact fin _ hq⟩
  · obtain ⟨v, rfl, r⟩ := reps1 rv
    simp only [Rep] at r
    obtain ⟨a, xs, rfl, h1, r1⟩ := r
    exact .inl ⟨a, xs, rfl, .inr h1, by rw [r1.len]; exact fin _ hq⟩
  · obtain ⟨v, rfl, r⟩ := reps1 rv
    simp only [Rep] at r
    exact .inr ⟨z, by rw [r], hz, fin _ hq⟩
theorem dc_abs : DCall X .cl (.builtin "abs") (fun ds q => ∃ i, ds = [.int i] ∧ q (.int (if i < 0 then -i else i))) :=
  ⟨⟨_, call_abs, fun S H ds vs q Q rv ⟨i, e, hq⟩ k => by
    subst e
    obtain ⟨v, rfl, r⟩ := reps1 rv
    simp only [Rep] at r
    exact ⟨i, by rw [r], k _ H _ [] (.refl _) ⟨rfl, by simp only [Rep]⟩ hq⟩⟩⟩
theorem dc_min2 (hc : X.calm = true) : DCall X .cl (.builtin "min") (fun ds q => ∃ i j, ds = [.int i, .int j] ∧ q (.int (if j < i then j else i))) :=
  ⟨⟨_, call_min2 hc, fun S H ds vs q Q rv ⟨i, j, e, hq⟩ k => by
    subst e
    obtain ⟨v, u, rfl, r, r2⟩ := reps2 rv
    simp only [Rep] at r r2
    exact ⟨i, j, by rw [r, r2], k _ H _ [] (.refl _) ⟨rfl, by simp only [Rep]⟩ hq⟩⟩⟩
theorem dc_max2 (hc : X.calm = true) : DCall X .cl (.builtin "max") (fun ds q => ∃ i j, ds = [.int i, .int j] ∧ q (.int (if j > i then j else i))) :=
  ⟨⟨_, call_max2 hc, fun S H ds vs q Q rv ⟨i, j, e, hq⟩ k => by
    subst e
    obtain ⟨v, u, rfl, r, r2⟩ := reps2 rv
    simp only [Rep] at r r2
    exact ⟨i, j, by rw [r, r2], k _ H _ [] (.refl _) ⟨rfl, by simp only [Rep]⟩ hq⟩⟩⟩

def tyD : D → String
  | .non => "NoneType"
  | .bl _ => "bool"
  | .int _ => "int"
  | .str _ => "str"
  | .tup _ => "tuple"
  | .lst _ => "list"
  | .scr _ => "list"
  | _ => "dict"
def noDct : D → Bool
  | .fz _ _ => false
  | .t2 _ _ _ _ => false
  | .dK _ _ => false
  | .dT _ _ => false
  | .ty _ => false
  | _ => true
theorem call_isiD : CallR X (.builtin "isinstance") (fun xs H Q => ∃ S d x c, xs = [x, .ty c] ∧ Rep X.K S H d x ∧ noDct d = true ∧ c ∈ ["bool", "int", "str", "list", "tuple"] ∧ Q (.bl (isB (tyD d) c)) H) := by
  intro pins s σ H xs us Q I r h
  obtain ⟨S, d, x, c, rfl, rp, nd, hc, q⟩ := h
  obtain ⟨u, w', rfl, ru, rw'⟩ := vals2 r
  cases (show w' = Value.type c from rw')
  have fin : ∀ tk, EP X pins σ Q (.bool (isB (tyD d) c)) { s with toks := tk } := fun tk => ⟨.bl _, H, I.tok tk, rfl, q⟩
  have kit : ∀ T ∈ ["NoneType", "bool", "int", "str", "list", "tuple"], PySem.W.kitOne X.K (.type T) (.type c) = some (isB T c) := fun T hT => kit_isB X.K T hT c hc
  cases d with
  | non => simp only [Rep] at rp; subst rp; exact isinst_ok I ru (.non) (kit _ (by decide)) fun tk => ⟨.bl _, H, I.tok tk, rfl, q⟩
  | bl b => simp only [Rep] at rp; subst rp; exact isinst_ok I ru (.bl b) (kit _ (by decide)) fun tk => ⟨.bl _, H, I.tok tk, rfl, q⟩
  | int b => simp only [Rep] at rp; subst rp; exact isinst_ok I ru (.int b) (kit _ (by decide)) fun tk => ⟨.bl _, H, I.tok tk, rfl, q⟩
  | str b => simp only [Rep] at rp; subst rp; exact isinst_ok I ru (.str b) (kit _ (by decide)) fun tk => ⟨.bl _, H, I.tok tk, rfl, q⟩
  | tup l =>
    simp only [Rep] at rp
    obtain ⟨a, vs, rfl, h1, _⟩ := rp
    cases (show u = Value.ref a from ru)
    obtain ⟨its, _, ⟨o, e, c', _⟩, _⟩ := I.tuple h1
    exact PySem.W.kia_one PySem.W.kitx_tuple I.kIn ⟨o, e, c'⟩ (kit _ (by decide)) (fun z => nomatch z) fin
  | lst l =>
    simp only [Rep] at rp
    obtain ⟨a, vs, rfl, _, h1, _⟩ := rp
    cases (show u = Value.ref a from ru)
    obtain ⟨its, _, ⟨o, _, e, c', _⟩, _⟩ := I.list (.inl h1)
    exact PySem.W.kia_one PySem.W.kitx_list I.kIn ⟨o, e, c'⟩ (kit _ (by decide)) (fun z => nomatch z) fin
  | scr l =>
    simp only [Rep] at rp
    obtain ⟨a, rfl, h1⟩ := rp
    cases (show u = Value.ref a from ru)
    obtain ⟨its, _, ⟨o, _, e, c', _⟩, _⟩ := I.list h1.sq
    exact PySem.W.kia_one PySem.W.kitx_list I.kIn ⟨o, e, c'⟩ (kit _ (by decide)) (fun z => nomatch z) fin
  | ty n => cases nd
  | fz o u => simp [noDct] at nd
  | t2 l m a b => simp [noDct] at nd
  | dK ks l => cases nd
  | dT ks l => cases nd
theorem dc_isi : DCall X .cl (.builtin "isinstance") (fun ds q => ∃ d c, ds = [d, .ty c] ∧ noDct d = true ∧ c ∈ ["bool", "int", "str", "list", "tuple"] ∧ q (.bl (isB (tyD d) c))) :=
  ⟨⟨_, call_isiD, fun S H ds vs q Q rv ⟨d, c, e, nd, hc, hq⟩ k => by
    subst e
    obtain ⟨v, u, rfl, r, r2⟩ := reps2 rv
    simp only [Rep] at r2
    exact ⟨S, d, v, c, by rw [r2], r, nd, hc, k _ H _ [] (.refl _) ⟨rfl, by simp only [Rep]⟩ hq⟩⟩⟩

theorem dc_list : DCall X (.ow 1) (.type "list") (fun ds q => ∃ l, (ds = [.lst l] ∨ ds = [.tup l]) ∧ q (.lst l)) := by
  refine ⟨_, call_list_of, fun S H ds vs q Q rv ⟨l, e, hq⟩ k => ?_⟩
  rcases e with rfl | rfl
  · obtain ⟨v, rfl, r⟩ := reps1 rv
    simp only [Rep] at r
    obtain ⟨a, xs, rfl, _, h1, r1⟩ := r
    exact ⟨a, xs, rfl, .inl (.inl h1), fun p hp => k _ _ _ [p] (.new hp) (vres_lst r1 hp) hq⟩
  · obtain ⟨v, rfl, r⟩ := reps1 rv
    simp only [Rep] at r
    obtain ⟨a, xs, rfl, h1, r1⟩ := r
    exact ⟨a, xs, rfl, .inr h1, fun p hp => k _ _ _ [p] (.new hp) (vres_lst r1 hp) hq⟩


end
end L2

set_option maxRecDepth 100000
namespace L2
open PySem PySem.Spec PyProof.Rows
section
variable {K : PySem.W.Frag} {κ : List SK} {G : G0} {O : Addr → Prop} {ρ : EnvD} {σ : St} {H : Hp}
theorem own0s {K : PySem.W.Frag} {S : Addr → Prop} {H : Hp} {fps : List (List Addr)} {l : List D} {vs : List V} (h1 : fps.length = l.length) (h2 : vs.length = l.length) (h3 : ∀ (i : Nat) (f : List Addr) (x : D) (u : V), fps[i]? = some f → l[i]? = some x → vs[i]? = some u → Own K S H 0 f x u) : fps.flatten = [] ∧ Reps K S H l vs := by
  constructor
  · rw [List.flatten_eq_nil_iff]
    intro f hf
    obtain ⟨i, hi, e⟩ := List.getElem_of_mem hf
    have := h3 i f (l[i]'(by omega)) (vs[i]'(by omega)) (by rw [List.getElem?_eq_getElem hi, e]) (List.getElem?_eq_getElem _) (List.getElem?_eq_getElem _)
    simp only [Own] at this
    exact this.1
  · refine Reps.of_all l vs h2 fun i x u e1 e2 => ?_
    have hi : i < fps.length := by rw [h1]; exact (List.getElem?_eq_some_iff.mp e1).1
    have := h3 i _ x u (List.getElem?_eq_getElem hi) e1 e2
    simp only [Own] at this
    exact this.2
theorem own1_lst {K : PySem.W.Frag} {S : Addr → Prop} {H : Hp} {fp : List Addr} {l : List D} {v : V} (h : Own K S H 1 fp (.lst l) v) : ∃ a vs, v = .ref a ∧ fp = [a] ∧ H a = some (.lst vs) ∧ Reps K S H l vs := by
  simp only [Own] at h
  obtain ⟨a, fps, rfl, rfl, h⟩ := h
  rcases h with ⟨l', vs, e, hH, h1, h2, h3⟩ | ⟨_, _, _, e, _⟩ | ⟨_, _, _, e, _⟩
  · cases e
    obtain ⟨z, r⟩ := own0s h1 h2 (fun i f x u e1 e2 e3 => by simp only [Own]; exact h3 i f x u e1 e2 e3)
    exact ⟨a, vs, rfl, by rw [z], hH, r⟩
  · cases e
  · cases e
theorem own1_mk {K : PySem.W.Frag} {S : Addr → Prop} {H : Hp} {a : Addr} {l : List D} {vs : List V} (hH : H a = some (.lst vs)) (r : Reps K S H l vs) : Own K S H 1 [a] (.lst l) (.ref a) := by
  simp only [Own]
  refine ⟨a, l.map fun _ => [], rfl, by simp, .inl ⟨l, vs, rfl, hH, by simp, r.len, fun i f x u e1 e2 e3 => ⟨?_, ?_⟩⟩⟩
  · rw [List.getElem?_map, e2] at e1; simpa using e1.symm
  · obtain ⟨u', e4, z⟩ := r.get e2
    rw [e3] at e4; cases e4
    exact z
theorem slot_own {i n : Nat} {d : D} {F : Nat → List Addr} (f : EnvF K κ G O ρ σ H F) (hd : dep (kd κ i) = some n) (e : ρ[i]? = some (some d)) : ∃ v, σ[i]? = some (some v) ∧ Own K (uni G.S0 O) H n (F i) d v := by
  obtain ⟨v, h1, h2⟩ := f.slot i d e
  refine ⟨v, h1, ?_⟩
  cases q : kd κ i with
  | cl => rw [q] at hd; cases hd
  | lo => rw [q] at hd; cases hd
  | ow m => rw [q] at hd h2; cases hd; exact h2
  | io m => rw [q] at hd h2; cases hd; exact h2
theorem OF_self {F : Nat → List Addr} {i : Nat} (f : EnvF K κ G O ρ σ H F) : OF (setF F i (F i)) = O := by
  have e : setF F i (F i) = F := by funext k; unfold setF; split <;> simp_all
  rw [e]
  funext a
  exact propext (f.own a).symm
theorem EnvOk.chg1 {i : Nat} {l : List D} (h : EnvOk K κ G O ρ σ H) (hd : dep (kd κ i) = some 1) (e : ρ[i]? = some (some (.lst l))) : ∃ a vs, σ[i]? = some (some (.ref a)) ∧ H a = some (.lst vs) ∧ Reps K (uni G.S0 O) H l vs ∧ O a ∧
    ∀ l' vs', Reps K (uni G.S0 O) H l' vs' → EnvOk K κ G O (kl κ (ρ.set i (some (.lst l')))) σ (upd H a (.lst vs')) ∧ Step O O H (upd H a (.lst vs')) := by
  obtain ⟨F, f⟩ := id h
  obtain ⟨v, h1, h2⟩ := slot_own f hd e
  obtain ⟨a, vs, rfl, hF, hH, r⟩ := own1_lst h2
  have ha : O a := (f.own a).mpr ⟨i, by rw [hF]; simp⟩
  refine ⟨a, vs, h1, hH, r, ha, fun l' vs' r' => ?_⟩
  have gU : Goes (uni G.S0 O) (uni G.S0 O) H (upd H a (.lst vs')) := Goes.upd hH trivial (.inr ha)
  have q := EnvF.chg (H' := upd H a (.lst vs')) (f' := F i) (fp := []) (d' := .lst l') (v := .ref a) f hd (fun b o nb eb => by
      have hne : b ≠ a := by rintro rfl; exact nb (by rw [hF]; simp)
      rw [upd_ne hne]; exact eb) (fun b eb => by
      by_cases hb : b = a
      · rw [hb, upd_same]; simp
      · rw [upd_ne hb]; exact eb) (f.nd i) (fun b hb => ⟨.inl hb, by
        have : b = a := by rw [hF] at hb; simpa using hb
        rw [this]; exact ⟨_, upd_same, trivial⟩⟩) (fun b hb => absurd hb (by simp)) h1 (by
        rw [OF_self f, hF]
        have e0 : uni G.S0 (fpS []) = G.S0 := by funext b; simp [uni, fpS]
        rw [e0]
        exact own1_mk upd_same (Reps.go gU l' vs' r'))
  rw [OF_self f, plus_nil] at q
  exact ⟨⟨_, q.1⟩, q.2⟩
end

def sMut (κ : List SK) (i : Nat) (E : DTE) (f : List D → D → (List D → Prop) → Prop) : DTS := fun De ρ => (∃ l0, ρ[i]? = some (some (.lst l0))) ∧ E ρ fun d ρ1 => ∃ l, ρ1[i]? = some (some (.lst l)) ∧ f l d fun l' => De.nx (kl κ (ρ1.set i (some (.lst l'))))
section
variable {X : Cx} {κ : List SK} {md : SK} {pu : Bool} {i : Nat} {e : Expr} {E : DTE} {x : Str} {p apos cpos pos : Pos}
theorem PE.bm {T id : String} {name : Str} {o : Expr} {es : List Expr} {to : TE} {t : TA} {r : V → List V → Hp → VK → Prop} (hp : (e :: es).all plainE = true) (hlen : (e :: es).length < 29) (hline : (apos.endLine == cpos.line) = true) (hbase : attributeBase o name X.env (eval o X.env) = eval o X.env)
    (pa : PlainAttrs T) (slot : Slot T name id) (hty : typeOf (.builtin id) = pure (.type "method_descriptor")) (hm : MtR X id r) (ho : PE X o to) (ha : PA X (e :: es) t) : PE X (.Call (.Attribute o name apos) (e :: es) [] cpos) (tBM X.K T r to t) := (wbm hp hlen hline hbase pa slot hty hm ⟨ho⟩ ⟨ha⟩).h
theorem dmut {id : String} {name : Str} {r : V → List V → Hp → VK → Prop} {f : List D → D → (List D → Prop) → Prop} (hs : swapsWith (.Call (.Attribute (.Name x p) name apos) [e] [] cpos) none pos.line X.env = pure false) (hp : plainE e = true) (hline : (apos.endLine == cpos.line) = true) (hbase : attributeBase (.Name x p) name X.env (eval (.Name x p) X.env) = eval (.Name x p) X.env)
    (slot : Slot "list" name id) (hty : typeOf (.builtin id) = pure (.type "method_descriptor")) (hm : MtR X id r)
    (hN : X.N[i]? = some x) (hv : Vis X.env.scope x) (hd : (x == ("__debug__" : Str)) = false) (hcd : (x == ("__classdict__" : Str)) = false) (hk : dep (kd κ i) = some 1)
    (hf : ∀ (S : Addr → Prop) (H : Hp) (a : Addr) (l : List D) (vs : List V) (d : D) (v : V) (q : List D → Prop) (Q : VK), H a = some (.lst vs) → Reps X.K S H l vs → Rep X.K S H d v → S a → f l d q → (∀ l' vs', Reps X.K S H l' vs' → q l' → Q .non (upd H a (.lst vs'))) → r (.ref a) [v] H Q)
    (he : DE X κ pu .cl e E) : DS X κ md (.Expr (.Call (.Attribute (.Name x p) name apos) [e] [] cpos) pos) (sMut κ i E f) := by
  refine ⟨(ps_expr (PE.bm (by simp [hp]) (by simp) hline hbase PySem.F.plainAttrs_list slot hty hm (pe_var hN hv hd hcd) (pac hp he.h pa_nil)) hs).weak fun Dn σ H ⟨G, O, ρ, De, hE, ⟨⟨l0, e0⟩, hT⟩, nx, bk, ct, rt⟩ => ?_⟩
  obtain ⟨a, vs, h1, h2, h3, ha, h4⟩ := hE.chg1 hk e0
  refine ⟨.ref a, h1, .inl ⟨rfl, vs, .inl (.inl h2)⟩, G, O, ρ, _, hE, hT, fun v H1 d ρ1 O1 fp s1 e1 vo p1 ⟨l, el, hq⟩ => ?_⟩
  obtain ⟨a', ws, g1, g2, g3, ga, g4⟩ := e1.drop.chg1 hk el
  rw [h1] at g1; cases g1
  exact hf (uni G.S0 O1) H1 a l ws d v _ _ g2 g3 vo.2 (.inr ga) hq fun l' vs' r' hq' => nx σ _ _ O1 (g4 l' vs' r').1 hq'
def fAppend : List D → D → (List D → Prop) → Prop := fun l d q => l.length < sizeLine ∧ q (l ++ [d])
theorem dappend (hs : swapsWith (.Call (.Attribute (.Name x p) "append" apos) [e] [] cpos) none pos.line X.env = pure false) (hp : plainE e = true) (hline : (apos.endLine == cpos.line) = true) (hbase : attributeBase (.Name x p) "append" X.env (eval (.Name x p) X.env) = eval (.Name x p) X.env)
    (hN : X.N[i]? = some x) (hv : Vis X.env.scope x) (hd : (x == ("__debug__" : Str)) = false) (hcd : (x == ("__classdict__" : Str)) = false) (hk : dep (kd κ i) = some 1) (he : DE X κ pu .cl e E) : DS X κ md (.Expr (.Call (.Attribute (.Name x p) "append" apos) [e] [] cpos) pos) (sMut κ i E fAppend) :=
  dmut hs hp hline hbase PySem.F.slot_list_append PySem.F.type_list_append mt_append hN hv hd hcd hk (fun S H a l vs d v q Q h1 h2 h3 _ ⟨h4, h5⟩ k => ⟨a, vs, v, rfl, rfl, h1, by rw [h2.len]; exact h4, k _ _ (h2.snoc h3) h5⟩) he

def sStore (κ : List SK) (i : Nat) (Ei E : DTE) : DTS := fun De ρ => (∃ l0, ρ[i]? = some (some (.lst l0))) ∧ E ρ fun d ρ1 => Ei ρ1 fun k ρ2 => ∃ l n j, ρ2[i]? = some (some (.lst l)) ∧ k = .int n ∧ ixN l.length n = some j ∧ De.nx (kl κ (ρ2.set i (some (.lst (l.set j d)))))
theorem Reps.set {K : PySem.W.Frag} {S : Addr → Prop} {H : Hp} : ∀ {l : List D} {vs : List V} {d : D} {v : V} (j : Nat), Reps K S H l vs → Rep K S H d v → Reps K S H (l.set j d) (vs.set j v)
  | [], vs, d, v, j, h, r => by simp only [Reps] at h; subst h; simp only [List.set_nil, Reps]
  | x :: l, vs, d, v, 0, h, r => by
    simp only [Reps] at h
    obtain ⟨u, t, rfl, h1, h2⟩ := h
    simp only [List.set_cons_zero, Reps]
    exact ⟨v, t, rfl, r, h2⟩
  | x :: l, vs, d, v, j + 1, h, r => by
    simp only [Reps] at h
    obtain ⟨u, t, rfl, h1, h2⟩ := h
    simp only [List.set_cons_succ, Reps]
    exact ⟨u, t.set j v, rfl, h1, h2.set j r⟩
theorem dstore {j : Expr} {Ei : DTE} {pui : Bool} {spos : Pos} (hs : swapsWithSole [.Subscript (.Name x p) j spos] e pos.line X.env = pure false) (hw : swappedStores [.Subscript (.Name x p) j spos] e X.env = pure none) (h1 : (assignEach [.Subscript (.Name x p) j spos] X.env).map (·.2) = [assign (.Subscript (.Name x p) j spos) X.env])
    (ha : ∀ v, assign (.Subscript (.Name x p) j spos) X.env v = (do
      let ov ← holding [v] (eval (.Name x p) X.env)
      let iv ← holding [v, ov] (eval j X.env)
      standAt spos
      holding [v, ov, iv] (setItem ov iv v)
      release [v, ov, iv] []))
    (hN : X.N[i]? = some x) (hv : Vis X.env.scope x) (hd : (x == ("__debug__" : Str)) = false) (hcd : (x == ("__classdict__" : Str)) = false) (hk : dep (kd κ i) = some 1) (he : DE X κ pu .cl e E) (hi : DE X κ pui .cl j Ei) :
    DS X κ md (.Assign [.Subscript (.Name x p) j spos] e pos) (sStore κ i Ei E) := by
  refine ⟨(ps_asg he.h (pg_sub (pe_var hN hv hd hcd) hi.h set_list ha) hs hw h1).weak fun Dn σ H ⟨G, O, ρ, De, hE, ⟨⟨l0, e0⟩, hT⟩, nx, bk, ct, rt⟩ => ⟨G, O, ρ, _, hE, hT, fun v H1 d ρ1 O1 fp s1 e1 vo p1 hq1 => ?_⟩⟩
  obtain ⟨a, vs, g1, _⟩ := hE.chg1 hk e0
  refine ⟨.ref a, g1, G, O1, ρ1, _, e1.drop, hq1, fun vi H2 di ρ2 O2 fp2 s2 e2 vo2 p2 ⟨l, n, jj, el, ek, hj, hq2⟩ => ?_⟩
  subst ek
  obtain ⟨a', ws, g2, g3, g4, ga, g5⟩ := e2.drop.chg1 hk el
  rw [g1] at g2; cases g2
  have rv : Rep X.K (uni G.S0 O2) H2 d v := Rep.go (Goes.step e1.drop.mutO s2) d v vo.2
  have ri := vo2.2
  simp only [Rep] at ri
  exact ⟨a, ws, n, jj, rfl, ri, g3, by rw [g4.len]; exact hj, nx σ _ _ O2 (g5 _ _ (g4.set jj rv)).1 hq2⟩
end

section
variable {X : Cx} {pins : List (Addr × Obj)} {σ : St} {H : Hp} {s : Shared} {S : Addr → Prop}
open Classical in
noncomputable def inU (K : PySem.W.Frag) (S : Addr → Prop) (H : Hp) (x : D) (u : Value) : Bool := match absV u with
  | some v => decide (∃ d, okE 11 d = true ∧ Rep K S H d v ∧ pyEq d x = true)
  | none => false
end
section
variable {X : Cx}
theorem rSeq {K : PySem.W.Frag} {S : Addr → Prop} {H : Hp} {y : D} {l : List D} {v : V} (e : y = .lst l ∨ y = .tup l) (r : Rep K S H y v) : ∃ a vs, v = .ref a ∧ (SqL K H a vs ∨ SqT K H a vs) ∧ Reps K S H l vs := by
  rcases e with rfl | rfl
  · simp only [Rep] at r
    obtain ⟨a, vs, rfl, _, h, r⟩ := r
    exact ⟨a, vs, rfl, .inl (.inl h), r⟩
  · simp only [Rep] at r
    obtain ⟨a, vs, rfl, h, r⟩ := r
    exact ⟨a, vs, rfl, .inr h, r⟩

variable {κ : List SK} {pu pu1 pu2 pu3 : Bool} {m1 md : SK} {e : Expr} {lo hi : Option Expr} {E : DTE} {El Eh : DTO} {r : D → Option Int → Option Int → (D → Prop) → Prop} {p pos : Pos}
end
end L2

set_option maxRecDepth 100000
namespace L2
open PySem PySem.Spec PyProof.Rows
theorem flat_apart {b : Addr} : ∀ {fps : List (List Addr)} {i k : Nat} {f g : List Addr}, fps.flatten.Nodup → fps[i]? = some f → fps[k]? = some g → i ≠ k → b ∈ f → b ∈ g → False
  | [], i, k, f, g, _, h, _, _, _, _ => by simp at h
  | h :: t, i, k, f, g, nd, e1, e2, ne, b1, b2 => by
    rw [List.flatten_cons, List.nodup_append] at nd
    obtain ⟨_, nd2, dj⟩ := nd
    have tin : ∀ {j : Nat} {f : List Addr}, t[j]? = some f → b ∈ f → b ∈ t.flatten := fun e hb => List.mem_flatten.mpr ⟨_, List.mem_of_getElem? e, hb⟩
    cases i with
    | zero =>
      cases k with
      | zero => exact ne rfl
      | succ k =>
        simp at e1 e2; subst e1
        exact dj b b1 b (tin e2 b2) rfl
    | succ i =>
      cases k with
      | zero =>
        simp at e1 e2; subst e2
        exact dj b b2 b (tin e1 b1) rfl
      | succ k => exact flat_apart nd2 (by simpa using e1) (by simpa using e2) (by omega) b1 b2
theorem plus_plus (G : G0) (a b : List Addr) : (G.plus a).plus b = G.plus (a ++ b) := by
  have e : uni (uni G.S0 (fpS a)) (fpS b) = uni G.S0 (fpS (a ++ b)) := by
    funext x
    simp only [uni, fpS, List.mem_append, or_assoc]
  show (⟨uni (uni G.S0 (fpS a)) (fpS b), G.O0, G.H0, G.ps, G.gh⟩ : G0) = ⟨uni G.S0 (fpS (a ++ b)), G.O0, G.H0, G.ps, G.gh⟩
  rw [e]
theorem goes_new {S : Addr → Prop} {H H' : Hp} {fp : List Addr} (s : Same H H') (hf : ∀ a ∈ fp, H a = none) : Goes S (uni S (fpS fp)) H H' := by
  refine ⟨fun a xs q => (Goes.same (S := S) s).tup a xs q, fun a u n q => ⟨((Goes.same (S := S) s).obj a u n q).1, fun z => z.elim n fun z => ?_⟩, fun a o u q => s _ _ q⟩
  obtain ⟨o, e⟩ := q.some
  rw [hf a z] at e; cases e
section
variable {X : Cx} {κ : List SK} {pu lo : Bool} {I : DTI} {g : DTG} {C : DTT} {E : DTE} {js : List (Option Nat)} {K : PySem.W.Frag}
theorem comp2_go (hcap : lo = false → ∀ j ∈ js, ∀ i, j = some i → kd κ i = .cl) {pe : Bool} {lo0 : Bool} (hlo : lo0 = true → lo = true) {σ : St} {H : Hp} {Q : VK} (h : tD K κ pu (outM lo (.ow 2)) (eComp js I g C E) σ H Q) :
    tComp js (tDI K κ pu lo0 I) (tDG K [] .cl g) (tDT K [] false C) (tD K [] pe (.ow 1) E) σ H Q := by
  obtain ⟨G, O, ρ, q, hE, hq, k⟩ := h
  refine ⟨G, O, ρ, _, hE, hq, fun J H1 ds ρ1 O1 s1 e1 p1 ⟨di, vi, ri, hJ⟩ hgo Dl hD => ?_⟩
  let S := uni (Sx lo G.S0 O1) (· = Dl)
  let Gi : G0 := ⟨S, fun _ => False, H1, inSt js σ, []⟩
  have ri' : Rep K (Sx lo G.S0 O1) H1 di vi := by
    cases lo with
    | false =>
      cases lo0 with
      | false => exact ri
      | true => exact absurd (hlo rfl) Bool.false_ne_true
    | true =>
      cases lo0 with
      | false => exact Rep.go (.less fun _ z => .inl z) di vi ri
      | true => exact ri
  have u0 : ∀ S : Addr → Prop, uni S (fun _ => False) = S := fun S => by funext a; simp [uni]
  have start : EnvOk K [] Gi (fun _ => False) (inD js ρ1) (inSt js σ) (upd H1 Dl (.lst [])) := by
    refine ⟨fun _ => [], ?_, fun a => by simp, fun _ _ => rfl, fun i j a h => absurd h (by simp), fun _ => by simp, fun i a h => absurd h (by simp), fun i a h => absurd h (by simp), fun i n e => rfl, fun p hp => absurd hp (by simp [Gi]), fun a z => ?_, fun b o _ e => ?_, fun b e => ?_, fun p d e => ?_⟩
    · simp [inD, inSt]
    · rcases z with z | z
      · have := Sx_dom (lo := lo) e1 a z
        by_cases hab : a = Dl
        · rw [hab, upd_same]; simp
        · rw [upd_ne hab]; exact this
      · rw [z, upd_same]; simp
    · rw [upd_ne (ne_of_none e hD)]; exact e
    · by_cases hab : b = Dl
      · rw [hab, upd_same]; simp
      · rw [upd_ne hab]; exact e
    · obtain ⟨j, hj, e2⟩ := inD_get e
      obtain ⟨v, h1, h2, h3⟩ := e1.read e2
      refine ⟨v, inSt_get hj h1, ?_⟩
      show Rep K (uni S fun _ => False) _ d v
      rw [u0]
      refine Rep.go (Goes.fresh hD) d v ?_
      cases lo with
      | true => exact h2
      | false => exact h3 (hcap rfl (some j) (List.mem_of_getElem? hj) j rfl)
  have empty : ∀ {Fp : List Addr} {O' : Addr → Prop} {ρ' : EnvD} {σ' : St} {H' : Hp}, EnvOk K [] (Gi.plus Fp) O' ρ' σ' H' → O' = fun _ => False := fun {Fp O' ρ' σ' H'} h => by
    obtain ⟨F, f⟩ := h
    funext a
    have : ¬ O' a := fun z => by
      obtain ⟨i, hi⟩ := (f.own a).mp z
      rw [f.non i (by simp [kd, dep])] at hi
      exact absurd hi (by simp)
    simp [this]
  have sameIn : ∀ {Fp : List Addr} {O' : Addr → Prop} {ρ' : EnvD} {σ' : St} {H' : Hp}, EnvOk K [] (Gi.plus Fp) O' ρ' σ' H' → Same H1 H' := fun h => by
    obtain ⟨F, f⟩ := h
    exact fun b o e => f.keep b o (fun z => z) e
  let Acc : List D → List V → List (List Addr) → Hp → Prop := fun acc vs fps H' => fps.length = acc.length ∧ vs.length = acc.length ∧ (∀ (i : Nat) (f : List Addr) (x : D) (u : V), fps[i]? = some f → acc[i]? = some x → vs[i]? = some u → Own K (uni S (fpS fps.flatten)) H' 1 f x u) ∧ fps.flatten.Nodup ∧ ∀ a ∈ fps.flatten, H1 a = none ∧ a ≠ Dl ∧ ∃ o, H' a = some o ∧ isM o
  have accSame : ∀ {acc vs fps H' H''}, Acc acc vs fps H' → Same H' H'' → Acc acc vs fps H'' := fun {acc vs fps H' H''} ⟨a1, a2, a3, a4, a5⟩ sm => ⟨a1, a2, fun i f x u e1 e2 e3 => Own.go (Goes.same sm) 1 f x u (fun a _ o e => sm a o e) (a3 i f x u e1 e2 e3), a4, fun a ha => let ⟨b1, b2, o, b3, b4⟩ := a5 a ha; ⟨b1, b2, o, sm _ _ b3, b4⟩⟩
  refine ⟨fun i m σ' H' => m + i = ds.length ∧ ∃ ρi acc vs fps, EnvOk K [] (Gi.plus fps.flatten) (fun _ => False) ρi σ' H' ∧ H' Dl = some (.lst vs) ∧ Acc acc vs fps H' ∧ compGo g C E (ds.drop i) acc ρi (fun acc _ => q (.lst acc) ρ1), ⟨ds.length, rfl, _, [], [], [], (by show EnvOk K [] (Gi.plus []) _ _ _ _; rw [plus_nil]; exact start), upd_same, ⟨rfl, rfl, fun i f x u e => by simp at e, by simp, fun a ha => absurd ha (by simp)⟩, hgo⟩, ?_⟩
  rintro i m σ' H' ⟨hm, ρi, acc, vs, fps, en, hDl, hacc, hg⟩
  have sm := sameIn en
  have hit := hJ _ H' (Rep.go (Goes.same sm) di vi ri') i
  cases e : ds[i]? with
  | none =>
    left
    have hi : ds.length ≤ i := List.getElem?_eq_none_iff.mp e
    rw [List.drop_eq_nil_of_le hi] at hg
    refine ⟨hit.2 e, ?_⟩
    obtain ⟨a1, a2, a3, a4, a5⟩ := hacc
    have vr : VRes K (Sx lo G.S0 O1) H1 H' (Dl :: fps.flatten) (.ow 2) (.lst acc) (.ref Dl) := by
      refine ⟨List.nodup_cons.mpr ⟨fun z => (a5 Dl z).2.1 rfl, a4⟩, fun a ha => ?_, ?_⟩
      · rcases List.mem_cons.mp ha with rfl | ha
        · exact ⟨hD, _, hDl, trivial⟩
        · exact ⟨(a5 a ha).1, (a5 a ha).2.2⟩
      · have eq : uni (Sx lo G.S0 O1) (fpS (Dl :: fps.flatten)) = uni S (fpS fps.flatten) := by funext a; simp only [uni, fpS, S, List.mem_cons, or_assoc]
        rw [eq]
        have h2 : ∀ (i : Nat) (f : List Addr) (x : D) (u : V), fps[i]? = some f → acc[i]? = some x → vs[i]? = some u → Own K (uni S (fpS fps.flatten)) H' 1 f x u := a3
        unfold Own
        exact ⟨Dl, fps, rfl, rfl, .inl ⟨acc, vs, rfl, hDl, a1, a2, h2⟩⟩
    obtain ⟨fp', st, en', vo⟩ := VRes.fin e1 s1 sm vr (by simp)
    exact k _ H' _ ρ1 O1 fp' st en' vo (p1.same sm) hg
  | some d =>
    right
    rw [drop_at e] at hg
    obtain ⟨Nd, hNd, hg⟩ := hg
    obtain ⟨g1, g2⟩ := hit.1 d e
    have hi : i < ds.length := (List.getElem?_eq_some_iff.mp e).1
    refine ⟨g1, fun σ2 H2 => ∃ ρi acc vs fps, EnvOk K [] (Gi.plus fps.flatten) (fun _ => False) ρi σ2 H2 ∧ H2 Dl = some (.lst vs) ∧ Acc acc vs fps H2 ∧ compGo g C E (ds.drop (i + 1)) acc ρi (fun acc _ => q (.lst acc) ρ1), fun σ2 H2 ⟨ρi, acc, vs, fps, z⟩ => ⟨ds.length - (i + 1), by omega, by omega, ρi, acc, vs, fps, z⟩, fun x H2 y => ?_⟩
    have hit2 := hJ (uni S (fpS fps.flatten)) H' (by
      have q1 := Rep.go (goes_new (S := Sx lo G.S0 O1) (fp := Dl :: fps.flatten) sm (fun a ha => by
        rcases List.mem_cons.mp ha with rfl | ha
        · exact hD
        · exact (hacc.2.2.2.2 a ha).1)) di vi ri'
      have eq : uni (Sx lo G.S0 O1) (fpS (Dl :: fps.flatten)) = uni S (fpS fps.flatten) := by funext a; simp only [uni, fpS, S, List.mem_cons, or_assoc]
      rw [eq] at q1
      exact q1) i
    obtain ⟨sm2, rx⟩ := (hit2.1 d e).2 x H2 y
    have en2 := en.same0 sm2
    have hDl2 := sm2 _ _ hDl
    have hacc2 := accSame hacc sm2
    refine ⟨Gi.plus fps.flatten, _, ρi, _, d, en2, (by rw [show Sx (loB .cl) (Gi.plus fps.flatten).S0 (fun _ => False) = uni (uni S (fpS fps.flatten)) fun _ => False from rfl, u0]; exact rx), hg, fun σ3 ρ3 e3 hc => ⟨Gi.plus fps.flatten, _, ρ3, _, e3, hc, fun b H4 ρ4 O4 s4 e4 p4 hb => ?_⟩⟩
    have o4 := empty e4
    subst o4
    have sm4 : Same H2 H4 := fun b o e => s4.keep b o (fun z => z) e
    have hDl4 := sm4 _ _ hDl2
    have hacc4 := accSame hacc2 sm4
    cases b with
    | false =>
      rw [if_neg Bool.false_ne_true] at hb
      exact iteF ⟨ρ4, acc, vs, fps, e4, hDl4, hacc4, hNd _ _ hb⟩
    | true =>
      rw [if_pos rfl] at hb
      refine iteT ⟨Gi.plus fps.flatten, _, ρ4, _, e4, hb, fun v H5 z ρ5 O5 fp s5 e5 vo p5 ⟨hlen, hz⟩ => ?_⟩
      rw [plus_plus] at e5
      have o5 := empty e5
      subst o5
      have sm5 : Same H4 H5 := fun b o e => s5.keep b o (fun z => z) e
      have hDl5 := sm5 _ _ hDl4
      obtain ⟨nd, v2, v3⟩ := vo
      obtain ⟨a1, a2, a3, a4, a5⟩ := hacc4
      have eflat : (fps ++ [fp]).flatten = fps.flatten ++ fp := by simp
      have fpD : ∀ a ∈ fp, a ≠ Dl := fun a ha z => by
        have := (v2 a ha).1
        rw [z, hDl4] at this; cases this
      have fpnew : ∀ a ∈ fp, H1 a = none := fun a ha => by
        cases e0 : H1 a with
        | none => rfl
        | some o =>
          have := (sm.trans (sm2.trans sm4)) a o e0
          rw [(v2 a ha).1] at this; cases this
      refine ⟨vs, hDl5, by rw [a2]; exact hlen, ρ5, acc ++ [z], vs ++ [v], fps ++ [fp], ?_, upd_same, ⟨by simp [a1], by simp [a2], fun i f x u e1 e2 e3 => ?_, ?_, fun a ha => ?_⟩, hNd _ _ hz⟩
      · rw [eflat]
        exact e5.updS (.inl (.inr rfl)) hDl5 trivial hD
      · rw [eflat]
        have gU : Goes (uni S (fpS (fps.flatten ++ fp))) (uni S (fpS (fps.flatten ++ fp))) H5 (upd H5 Dl (.lst (vs ++ [v]))) := Goes.upd hDl5 trivial (.inl (.inr rfl))
        by_cases hi' : i < acc.length
        · rw [List.getElem?_append_left (by omega)] at e1
          rw [List.getElem?_append_left (by omega)] at e2
          rw [List.getElem?_append_left (by omega)] at e3
          have inF : ∀ a ∈ f, a ∈ fps.flatten := fun a ha => List.mem_flatten.mpr ⟨f, List.mem_of_getElem? e1, ha⟩
          have old := a3 i f x u e1 e2 e3
          have step1 : Own K (uni (uni S (fpS fps.flatten)) (fpS fp)) H5 1 f x u := Own.go (goes_new sm5 (fun a ha => (v2 a ha).1)) 1 f x u (fun a _ o e => sm5 a o e) old
          have eq : uni (uni S (fpS fps.flatten)) (fpS fp) = uni S (fpS (fps.flatten ++ fp)) := by funext a; simp only [uni, fpS, List.mem_append, or_assoc]
          rw [eq] at step1
          exact Own.go gU 1 f x u (fun a ha o e => by rw [upd_ne (a5 a (inF a ha)).2.1]; exact e) step1
        · have hie : i = acc.length := by
            have := (List.getElem?_eq_some_iff.mp e2).1
            simp at this; omega
          subst hie
          rw [List.getElem?_append_right (by omega)] at e1
          rw [List.getElem?_append_right (by omega)] at e2
          rw [List.getElem?_append_right (by omega)] at e3
          simp only [a1, a2, Nat.sub_self, List.getElem?_cons_zero, Option.some.injEq] at e1 e2 e3
          subst e1 e2 e3
          have v3' : Own K (uni S (fpS (fps.flatten ++ fp))) H5 1 fp z v := by
            have eq : uni (uni (Gi.plus fps.flatten).S0 (fpS fp)) (fun _ => False) = uni S (fpS (fps.flatten ++ fp)) := by rw [u0]; funext a; simp only [G0.plus, Gi, uni, fpS, List.mem_append, or_assoc]
            rw [eq] at v3
            exact v3
          exact Own.go gU 1 fp z v (fun a ha o e => by rw [upd_ne (fpD a ha)]; exact e) v3'
      · rw [eflat, List.nodup_append]
        refine ⟨a4, nd, fun a ha b hb hab => ?_⟩
        subst hab
        obtain ⟨_, _, o, eo, _⟩ := a5 a ha
        rw [(v2 a hb).1] at eo; cases eo
      · rw [eflat, List.mem_append] at ha
        rcases ha with ha | ha
        · obtain ⟨b1, b2, o, b3, b4⟩ := a5 a ha
          exact ⟨b1, b2, o, by rw [upd_ne b2]; exact sm5 _ _ b3, b4⟩
        · obtain ⟨_, _, o, b3, b4⟩ := v2 a ha
          exact ⟨fpnew a ha, fpD a ha, o, by rw [upd_ne (fpD a ha)]; exact b3, b4⟩
variable {tg elt iter : Expr} {ifs : List Expr} {scope : Scope} {pos : Pos} {Nc : List Str} {lo0 pe : Bool}
theorem dsetC2 {i : Nat} {y : Str} {py spos : Pos} {mr : SK} (hk : kd κ i = .ow 2) (hsw : swapsWith (.ListComp elt [⟨tg, iter, ifs, 0⟩] scope pos) (some (.Name y py)) spos.line X.env = pure true) (hs : ∀ x, foldedSetIterable iter X.env x = pure x)
    (hc : X.calm = true) (hN : X.N.Nodup) (hiN : X.N[i]? = some y) (hy : X.env.scope.names.lookup y = some .local) (hcap : ∀ j ∈ js, ∀ i, j = some i → kd κ i = .cl) (hi : DI X κ pu false tg iter I) (S : CompSc X Nc js scope)
    (hb : ∀ pins fp H s C', DG (cxComp X Nc scope pins fp H s C') [] .cl tg g ∧ DIf (cxComp X Nc scope pins fp H s C') [] ifs C ∧ DE (cxComp X Nc scope pins fp H s C') [] pe (.ow 1) elt E) :
    DS X κ mr (.Assign [.Name y py] (.ListComp elt [⟨tg, iter, ifs, 0⟩] scope pos) spos) (sSet i (eComp js I g C E)) := by
  refine ⟨(ps_setC hc hN hiN hy hi.h S (fun p f H s C' => let ⟨x, y, z⟩ := hb p f H s C'; ⟨x.h, y.h, z.h⟩) hsw hs).weak fun D σ H ⟨G, O, ρ, De, hE, hT, nx, bk, ct, rt⟩ => comp2_go (K := X.K) (lo := false) (fun _ => hcap) (fun z => absurd z Bool.false_ne_true) ⟨G, O, ρ, _, hE, hT, fun v H' d ρ' O' fp s1 e1 vo p1 hq => ?_⟩⟩
  obtain ⟨O2, e2⟩ := EnvOk.putO hk e1 hE.dom hE.s0 vo
  exact nx _ H' _ O2 e2 hq
end

section
variable {K : PySem.W.Frag} {κ : List SK} {G : G0} {O : Addr → Prop} {ρ : EnvD} {σ : St} {H : Hp}
theorem EnvOk.chg2 {i : Nat} {l : List D} (h : EnvOk K κ G O ρ σ H) (hd : dep (kd κ i) = some 2) (e : ρ[i]? = some (some (.lst l))) : ∃ a vs, σ[i]? = some (some (.ref a)) ∧ H a = some (.lst vs) ∧ vs.length = l.length ∧
    ∀ k l2, l[k]? = some (.lst l2) → ∃ b ws, vs[k]? = some (.ref b) ∧ H b = some (.lst ws) ∧ Reps K (uni G.S0 O) H l2 ws ∧ O b ∧
      ∀ l' ws', Reps K (uni G.S0 O) H l' ws' → EnvOk K κ G O (kl κ (ρ.set i (some (.lst (l.set k (.lst l')))))) σ (upd H b (.lst ws')) ∧ Step O O H (upd H b (.lst ws')) := by
  obtain ⟨F, f⟩ := id h
  obtain ⟨v, h1, h2⟩ := slot_own f hd e
  unfold Own at h2
  obtain ⟨a, fps, rfl, hF, h2⟩ := h2
  rcases h2 with ⟨l', vs, ee, hH, n1, n2, n3⟩ | ⟨_, _, _, ee, _⟩ | ⟨_, _, _, ee, _⟩
  · cases ee
    refine ⟨a, vs, h1, hH, n2, fun k l2 ek => ?_⟩
    have hk : k < l.length := (List.getElem?_eq_some_iff.mp ek).1
    have ef : fps[k]? = some (fps[k]'(by omega)) := List.getElem?_eq_getElem _
    have ev : vs[k]? = some (vs[k]'(by omega)) := List.getElem?_eq_getElem _
    obtain ⟨b, ws, eb, efb, hb, rb⟩ := own1_lst (n3 k _ _ _ ef ek ev)
    rw [eb] at ev
    rw [efb] at ef
    have inF : b ∈ F i := by rw [hF]; exact List.mem_cons_of_mem _ (List.mem_flatten.mpr ⟨[b], List.mem_of_getElem? ef, by simp⟩)
    have hO : O b := (f.own b).mpr ⟨i, inF⟩
    have ndF := f.nd i
    rw [hF] at ndF
    have nab : a ≠ b := by
      rintro rfl
      exact (List.nodup_cons.mp ndF).1 (List.mem_flatten.mpr ⟨[a], List.mem_of_getElem? ef, by simp⟩)
    refine ⟨b, ws, ev, hb, rb, hO, fun l' ws' r' => ?_⟩
    have gU : Goes (uni G.S0 O) (uni G.S0 O) H (upd H b (.lst ws')) := Goes.upd hb trivial (.inr hO)
    have q := EnvF.chg (H' := upd H b (.lst ws')) (f' := F i) (fp := []) (d' := .lst (l.set k (.lst l'))) (v := .ref a) f hd (fun c o nc ec => by
        have hne : c ≠ b := by rintro rfl; exact nc inF
        rw [upd_ne hne]; exact ec) (fun c ec => by
        by_cases hc : c = b
        · rw [hc, upd_same]; simp
        · rw [upd_ne hc]; exact ec) (f.nd i) (fun c hc => ⟨.inl hc, by
          by_cases hcb : c = b
          · rw [hcb]; exact ⟨_, upd_same, trivial⟩
          · obtain ⟨_, o, eo, m⟩ := f.mu i c hc
            exact ⟨o, by rw [upd_ne hcb]; exact eo, m⟩⟩) (fun c hc => absurd hc (by simp)) h1 (by
          rw [OF_self f]
          have e0 : uni G.S0 (fpS []) = G.S0 := by funext c; simp [uni, fpS]
          rw [e0]
          unfold Own
          refine ⟨a, fps, rfl, hF, .inl ⟨_, vs, rfl, by rw [upd_ne nab]; exact hH, by rw [List.length_set]; exact n1, by rw [List.length_set]; exact n2, fun j fj x u e1 e2 e3 => ?_⟩⟩
          by_cases hjk : j = k
          · subst hjk
            rw [List.getElem?_set_self hk] at e2
            cases e2
            rw [ef] at e1; cases e1
            rw [ev] at e3; cases e3
            exact own1_mk upd_same (Reps.go gU l' ws' r')
          · rw [List.getElem?_set_ne (Ne.symm hjk)] at e2
            refine Own.go gU 1 fj x u (fun c hc o ec => ?_) (n3 j fj x u e1 e2 e3)
            have hne : c ≠ b := by rintro rfl; exact flat_apart (List.nodup_cons.mp ndF).2 e1 ef hjk hc (by simp)
            rw [upd_ne hne]; exact ec)
    rw [OF_self f, plus_nil] at q
    exact ⟨⟨_, q.1⟩, q.2⟩
  · cases ee
  · cases ee
end
section
variable {X : Cx} {κ : List SK} {md : SK} {pu : Bool} {i : Nat} {e : Expr} {E : DTE} {x : Str} {p apos cpos pos : Pos}
end
end L2

set_option maxRecDepth 100000

namespace L2
open PySem PySem.Spec PyProof.Rows
open AutoSeq1 (wpAny_loadPart')
section
variable {prog : Program} {w : World} {A : Around} {E : Value → Shared → Prop} {s : Shared}
end
section
variable {X : Cx} {elts : List Expr} {kk : Nat} {tpos p pos : Pos}
variable {κ : List SK} {pu lo : Bool} {A : DTA} {a : Expr}
end
end L2

set_option maxRecDepth 100000

namespace L2
open PySem PySem.Spec PyProof.Rows
section
variable {prog : Program} {w : World} {A : Around} {R : Result → Shared → Prop} {s : Shared} {elt tg iter tg2 iter2 : Expr} {ifs ifs2 : List Expr} {scope : Scope} {pos : Pos} {it acc : Value} {env : Env}
end
section
variable {X : Cx} {tg elt iter tg2 iter2 : Expr} {ifs ifs2 : List Expr} {scope : Scope} {pos : Pos} {Nc : List Str} {js : List (Option Nat)} {wi wi2 : TI} {g g2 : TG} {tc tc2 : TT} {te : TE}
end
end L2

set_option maxRecDepth 100000
namespace L2
open PySem PySem.Spec PyProof.Rows
section
variable {X : Cx} {κ : List SK} {pu lo : Bool} {I I2 : DTI} {g g2 : DTG} {C C2 : DTT} {E : DTE} {js : List (Option Nat)} {K : PySem.W.Frag}
variable {tg elt iter tg2 iter2 : Expr} {ifs ifs2 : List Expr} {scope : Scope} {pos : Pos} {Nc : List Str} {lo0 pe pu2 lo2 : Bool}
end
end L2

set_option maxRecDepth 100000

namespace L2
open PySem PySem.Spec PyProof.Rows
section
variable {X : Cx} {κ : List SK} {pu : Bool} {md : SK} {a b c e : Expr} {es rest : List Expr} {pos p apos cpos : Pos} {Ea Eb Ec E : DTE} {A : DTA} {r r2 : DR2} {rn : DRn} {x : Str} {id T : String} {C U : DTT}
theorem vcl : isV .cl := .inl rfl
theorem vlo : isV .lo := .inr rfl
theorem and2 {p : Bool} {P : Bool → Prop} (h : P (p && p)) : P p := by rwa [Bool.and_self] at h
theorem and3' {p : Bool} {P : Bool → Prop} (h : P (p && (p && p))) : P p := by rwa [Bool.and_self, Bool.and_self] at h
theorem fopC {op : Operator} (hm : md ≠ .lo) (ho : DOp X md (binaryOp op) r) (ha : DE X κ pu .cl a Ea) (hb : DE X κ pu .cl b Eb) : DE X κ pu md (.BinOp a op b pos) (eOp r Ea Eb) := and2 (P := fun p => DE X κ p md _ _) (dop ho vcl vcl (fun h => by cases h) hm ha hb)
theorem fopL {op : Operator} (hm : md ≠ .lo) (ho : DOp X md (binaryOp op) r) (ha : DE X κ true .lo a Ea) (hb : DE X κ true .lo b Eb) : DE X κ true .lo (.BinOp a op b pos) (eOp r Ea Eb) := dop ho vlo vlo (fun h => rfl) hm ha hb
theorem fcmpC {op : CmpOp} (hmk : behindInMarks op b = false) (ho : DOp X .cl (compareOp op) r) (ha : DE X κ pu .cl a Ea) (hb : DE X κ pu .cl b Eb) : DE X κ pu .cl (.Compare a [op] [b] pos) (eOp r Ea Eb) := and2 (P := fun p => DE X κ p .cl _ _) (dcmp hmk ho vcl vcl (fun h => by cases h) ha hb)
theorem ftcmpC {op : CmpOp} (hmk : behindInMarks op b = false) (ho : DOp X .cl (compareOp op) r) (ha : DE X κ pu .cl a Ea) (hb : DE X κ pu .cl b Eb) : DT X κ pu (.Compare a [op] [b] pos) (eTest (eOp r Ea Eb)) := and2 (P := fun p => DT X κ p _ _) (dtcmp hmk ho vcl vcl (fun h => by cases h) ha hb)
theorem ftcmpL {op : CmpOp} (hmk : behindInMarks op b = false) (ho : DOp X .cl (compareOp op) r) (ha : DE X κ true .lo a Ea) (hb : DE X κ true .lo b Eb) : DT X κ true (.Compare a [op] [b] pos) (eTest (eOp r Ea Eb)) := dtcmp hmk ho vlo vlo (fun h => rfl) ha hb
theorem fand (ha : DE X κ pu .cl a Ea) (hb : DE X κ pu .cl (.BoolOp .And (b :: rest) pos) Eb) : DE X κ pu .cl (.BoolOp .And (a :: b :: rest) pos) (eAndV Ea Eb) := and2 (P := fun p => DE X κ p .cl _ _) (dand ha hb)
theorem fwor (ha : DT X κ pu a C) (hb : DW X κ pu (.BoolOp .Or (b :: rest) pos) U) : DW X κ pu (.BoolOp .Or (a :: b :: rest) pos) (eOrT C U) := and2 (P := fun p => DW X κ p _ _) (dwor ha hb)
theorem fifx (hc : DT X κ pu c C) (ha : DE X κ pu md a Ea) (hb : DE X κ pu md b Eb) : DE X κ pu md (.IfExp c a b pos) (eIf C Ea Eb) := and3' (P := fun p => DE X κ p md _ _) (difx hc ha hb)
theorem DA.dirty {lo : Bool} (h : DA X κ true lo es A) : DA X κ false lo es A := ⟨h.h.weak fun σ H Q ⟨G, O, ρ, q, hE, hq, k⟩ => ⟨G, O, ρ, q, hE, hq, fun vs H' ds ρ' O' s e' r p z => k vs H' ds ρ' O' s e' r (fun z => absurd z Bool.false_ne_true) z⟩⟩
theorem fanil : DA X κ pu false [] eNil := by
  cases pu with
  | true => exact danil
  | false => exact danil.dirty
theorem fanilL : DA X κ true true [] eNil := ⟨pa_nil.weak fun σ H Q ⟨G, O, ρ, q, hE, hq, k⟩ => k [] H [] ρ O (.refl _ _) hE (by simp only [Reps]) .refl hq⟩
theorem facC (hs : plainE e = true) (ha : DE X κ pu .cl e E) (hr : DA X κ pu false es A) : DA X κ pu false (e :: es) (eCons E A) := and2 (P := fun p => DA X κ p false _ _) (dac hs vcl (fun h => by cases h) ha hr)
theorem facL (hs : plainE e = true) (ha : DE X κ true .lo e E) (hr : DA X κ true true es A) : DA X κ true true (e :: es) (eCons E A) := dac hs vlo (fun h => rfl) ha hr
theorem ftupC {k} (h : DA X κ pu false es A) : DE X κ pu .cl (.Tuple es k pos) (eTup A) := dtup h
theorem flstC (h : DA X κ pu false es A) : DE X κ pu (.ow 1) (.List es pos) (eLst A) := dlst h
theorem fixC (hs : PlainIx b) (ho : DIx X r) (ha : DE X κ pu .cl a Ea) (hb : DE X κ pu .cl b Eb) : DE X κ pu .cl (.Subscript a b pos) (eOp r Ea Eb) := and2 (P := fun p => DE X κ p .cl _ _) (dix hs ho vcl vcl (fun h => by cases h) ha hb)
theorem fixL (hs : PlainIx b) (ho : DIx X r) (ha : DE X κ true .lo a Ea) (hb : DE X κ true .lo b Eb) : DE X κ true .lo (.Subscript a b pos) (eOp r Ea Eb) := dix hs ho vlo vlo (fun h => rfl) ha hb
theorem fcbC (hp : (e :: es).all plainE = true) (hn : x ≠ "__name__") (hdb : (x == ("__debug__" : Str)) = false) (hm : md ≠ .lo) (hc : DCall X md (.builtin id) rn) (hg : Gl X x) (hmg : X.mg x = none) (hv : bootBuiltins x = some (.builtin id)) (ha : DA X κ pu false (e :: es) A) : DE X κ pu md (.Call (.Name x p) (e :: es) [] pos) (eCallB rn A) := dcb hp hn hdb hc hm hg hmg hv ha
theorem fcbL (hp : (e :: es).all plainE = true) (hn : x ≠ "__name__") (hdb : (x == ("__debug__" : Str)) = false) (hm : md ≠ .lo) (hc : DCall X md (.builtin id) rn) (hg : Gl X x) (hmg : X.mg x = none) (hv : bootBuiltins x = some (.builtin id)) (ha : DA X κ true true (e :: es) A) : DE X κ true .lo (.Call (.Name x p) (e :: es) [] pos) (eCallB rn A) := dcb hp hn hdb hc hm hg hmg hv ha
theorem fctC (hp : (e :: es).all plainE = true) (hn : x ≠ "__name__") (hdb : (x == ("__debug__" : Str)) = false) (hm : md ≠ .lo) (hc : DCall X md (.type T) rn) (hg : Gl X x) (hmg : X.mg x = none) (hv : bootBuiltins x = some (.type T)) (ha : DA X κ pu false (e :: es) A) : DE X κ pu md (.Call (.Name x p) (e :: es) [] pos) (eCallB rn A) := dct hp hn hdb hc hm hg hmg hv ha
variable {sd : List D → (D → Prop) → Prop} {CX : CXT} {k : Nat} {g : Addr} {fd : FuncData} {ps : List Str} {Ex : XK}
def eLen (n : Nat) (A : DTA) : DTA := fun ρ q => A ρ fun ds ρ' => ds.length = n ∧ q ds ρ'
theorem fclC {np : Nat} (hp : (e :: es).all plainE = true) (hdb : (x == ("__debug__" : Str)) = false) (hmd : md ≠ .lo) (F : FnOk X.prog X.w X.K X.mg X.base CX k g fd ps (spP X.K np md sd)) (hn : np = ps.length) (hlen : (e :: es).length = ps.length) (hr : Room k X.A) (hg : Gl X x) (hm : X.mg x = some (.ref g)) (hk : PySem.W.keepIn X.K (.ref g) = true) (hb : Binds X.K fd ps []) (hx : Passes CX X Ex)
    (ha : DA X κ pu false (e :: es) A) : DE X κ pu md (.Call (.Name x p) (e :: es) [] pos) (eCall sd (eLen np A)) := by
  subst hn
  exact dcl hp hdb F hr hg hm hk hb hx hlen hmd ha
theorem fclL {np : Nat} (hp : (e :: es).all plainE = true) (hdb : (x == ("__debug__" : Str)) = false) (hmd : md ≠ .lo) (F : FnOk X.prog X.w X.K X.mg X.base CX k g fd ps (spP X.K np md sd)) (hn : np = ps.length) (hlen : (e :: es).length = ps.length) (hr : Room k X.A) (hg : Gl X x) (hm : X.mg x = some (.ref g)) (hk : PySem.W.keepIn X.K (.ref g) = true) (hb : Binds X.K fd ps []) (hx : Passes CX X Ex)
    (ha : DA X κ true true (e :: es) A) : DE X κ true .lo (.Call (.Name x p) (e :: es) [] pos) (eCall sd (eLen np A)) := by
  subst hn
  exact dcl hp hdb F hr hg hm hk hb hx hlen hmd ha
theorem fclx {np i j n : Nat} {sx : List D → (D → D → Prop) → Prop} (hp : (e :: es).all plainE = true) (hdb : (x == ("__debug__" : Str)) = false) (F : FnOk X.prog X.w X.K X.mg X.base CX k g fd ps (spX X.K np j n md sx)) (hn : np = ps.length) (hr : Room k X.A) (hg : Gl X x) (hm : X.mg x = some (.ref g)) (hk : PySem.W.keepIn X.K (.ref g) = true) (hb : Binds X.K fd ps []) (hx : Passes CX X Ex)
    (hdep : dep (kd κ i) = some n) (hmd : md = .cl ∨ ∃ m, md = .ow m) (ha : DAx X κ i j (e :: es) A) : DE X κ false md (.Call (.Name x p) (e :: es) [] pos) (eCallX κ i np sx A) := by
  subst hn
  exact dclx hp hdb F hr hg hm hk hb hx hdep hmd ha
variable {lo hi : Option Expr} {El Eh : DTO} {rs : D → Option Int → Option Int → (D → Prop) → Prop}
def sRetO (i : Nat) : DTS := fun De ρ => ∃ d, ρ[i]? = some (some d) ∧ De.rt d (ρ.set i none)
theorem dretO {i n : Nat} (hlo : ∀ j, kd κ j ≠ .lo) (hk : kd κ i = .ow n) (hN : X.N[i]? = some x) (hv : Vis X.env.scope x) (hd : (x == ("__debug__" : Str)) = false) (hcd : (x == ("__classdict__" : Str)) = false) : DS X κ (.ow n) (.Return (some (.Name x p)) pos) (sRetO i) := by
  refine ⟨(ps_ret (pe_var hN hv hd hcd)).weak fun Dn σ H ⟨G, O, ρ, De, hE, ⟨d, e1, hq⟩, nx, bk, ct, rt⟩ => ?_⟩
  obtain ⟨F, f⟩ := id hE
  obtain ⟨v, h1, h2⟩ := f.slot i d e1
  rw [hk] at h2
  refine ⟨v, h1, rt v H d (ρ.set i none) (OF (setF F i [])) (F i) σ ⟨setF F i [], by simp [f.len], fun a => Iff.rfl, fun j hn => ?_, fun j k a ha hb => ?_, fun j => ?_, fun j a ha => ?_, fun j a ha => ?_, f.par, fun p hp => ?_, fun a z => ?_, f.keep, f.dom, fun j dj ej => ?_⟩ ⟨f.nd i, fun a ha => ⟨?_, fun ⟨j, z⟩ => ?_, (f.mu i a ha).2⟩, ?_⟩ hq⟩
  · by_cases hj : j = i
    · rw [hj, setF_at]
    · rw [setF_ne hj]; exact f.non j hn
  · by_cases hj : j = i
    · rw [hj, setF_at] at ha; exact absurd ha (by simp)
    · rw [setF_ne hj] at ha
      by_cases hk' : k = i
      · rw [hk', setF_at] at hb; exact absurd hb (by simp)
      · rw [setF_ne hk'] at hb; exact f.dis j k a ha hb
  · by_cases hj : j = i
    · rw [hj, setF_at]; simp
    · rw [setF_ne hj]; exact f.nd j
  · by_cases hj : j = i
    · rw [hj, setF_at] at ha; exact absurd ha (by simp)
    · rw [setF_ne hj] at ha
      exact ⟨fun z => z.elim (f.mu j a ha).1 fun z => hj (f.dis j i a ha z), (f.mu j a ha).2⟩
  · by_cases hj : j = i
    · rw [hj, setF_at] at ha; exact absurd ha (by simp)
    · rw [setF_ne hj] at ha; exact f.new j a ha
  · refine Rep.go (.less fun a z => ?_) _ _ (f.gh p hp)
    rcases z with (z | z) | ⟨j, z⟩
    · exact .inl z
    · exact .inr ((f.own a).mpr ⟨i, z⟩)
    · by_cases hj : j = i
      · rw [hj, setF_at] at z; exact absurd z (by simp)
      · rw [setF_ne hj] at z; exact .inr ((f.own a).mpr ⟨j, z⟩)
  · rcases z with z | z
    · exact f.s0 a z
    · obtain ⟨_, o, eo, _⟩ := f.mu i a z; rw [eo]; simp
  · have hj : j ≠ i := by
      rintro rfl
      have hl : j < ρ.length := by
        have := (List.getElem?_eq_some_iff.mp ej).1
        simpa using this
      rw [List.getElem?_set_self hl] at ej; cases ej
    rw [List.getElem?_set_ne (Ne.symm hj)] at ej
    obtain ⟨u, e3, e4⟩ := f.slot j dj ej
    refine ⟨u, e3, ?_⟩
    rw [setF_ne hj]
    have le : ∀ a, uni (uni G.S0 (fpS (F i))) (OF (setF F i [])) a → uni G.S0 O a := fun a z => by
      rcases z with (z | z) | ⟨j, z⟩
      · exact .inl z
      · exact .inr ((f.own a).mpr ⟨i, z⟩)
      · by_cases hj : j = i
        · rw [hj, setF_at] at z; exact absurd z (by simp)
        · rw [setF_ne hj] at z; exact .inr ((f.own a).mpr ⟨j, z⟩)
    cases q : kd κ j with
    | cl => rw [q] at e4; exact Rep.go (.less le) dj u e4
    | ow m => rw [q] at e4; exact Own.go (.less le) m _ dj u (fun _ _ _ h => h) e4
    | io m => rw [q] at e4; exact Own.go (.less le) m _ dj u (fun _ _ _ h => h) e4
    | lo =>
      -- a loose place beside: forgotten
      exact (hlo j q).elim
  · rcases f.new i a ha with ⟨⟨m, z⟩, _⟩ | z
    · rw [hk] at z; cases z
    · exact z
  · by_cases hj : j = i
    · rw [hj, setF_at] at z; exact absurd z (by simp)
    · rw [setF_ne hj] at z; exact hj (f.dis j i a z ha)
  · refine Own.go (.less fun a z => ?_) n _ d v (fun _ _ _ h => h) h2
    rcases z with (z | z) | ⟨j, z⟩
    · exact .inl z
    · exact .inr ((f.own a).mpr ⟨i, z⟩)
    · by_cases hj : j = i
      · rw [hj, setF_at] at z; exact absurd z (by simp)
      · rw [setF_ne hj] at z; exact .inr ((f.own a).mpr ⟨j, z⟩)
end

def noIoB (κ : List SK) : Bool := κ.all fun k => match k with | .io _ => false | _ => true
def noLoB (κ : List SK) : Bool := κ.all fun k => decide (k ≠ .lo)
theorem kd_mem {κ : List SK} {i : Nat} {s : SK} (h : kd κ i = s) (hs : s ≠ .cl) : s ∈ κ := by
  unfold kd at h
  rw [List.getD_eq_getElem?_getD] at h
  cases e : κ[i]? with
  | none => rw [e] at h; exact absurd h.symm hs
  | some k => rw [e] at h; rw [← (show k = s from h)]; exact List.mem_of_getElem? e
theorem noIo_of {κ : List SK} (h : noIoB κ = true) : ∀ i n, kd κ i ≠ .io n := fun i n e => by
  have := List.all_eq_true.mp h _ (kd_mem e (by simp))
  cases this
theorem noLo_of {κ : List SK} (h : noLoB κ = true) : ∀ j, kd κ j ≠ .lo := fun j e => by
  have := List.all_eq_true.mp h _ (kd_mem e (by simp))
  simp at this
def clB (κ : List SK) (n : Nat) (j : Option Nat) : Bool := (List.range n).all fun i => decide (some i = j) || decide (kd κ i = .cl)
theorem cl_of {κ : List SK} {n : Nat} (h : clB κ n none = true) : ∀ i, i < n → kd κ i = .cl := fun i hi => by
  have := List.all_eq_true.mp h i (List.mem_range.mpr hi)
  simpa using this
theorem clx_of {κ : List SK} {n j : Nat} (h : clB κ n (some j) = true) : ∀ i, i < n → i ≠ j → kd κ i = .cl := fun i hi hj => by
  have := List.all_eq_true.mp h i (List.mem_range.mpr hi)
  simpa [hj] using this
def ioB (κ : List SK) (j : Nat) : Bool := (List.range κ.length).all fun i => decide (i = j) || match kd κ i with | .io _ => false | _ => true
theorem io_of {κ : List SK} {j : Nat} (h : ioB κ j = true) : ∀ i m, i ≠ j → kd κ i ≠ .io m := fun i m hj e => by
  have hi : i < κ.length := by
    apply Decidable.byContradiction
    intro hn
    unfold kd at e
    rw [List.getD_eq_getElem?_getD, List.getElem?_eq_none_iff.mpr (by omega)] at e
    cases e
  have := List.all_eq_true.mp h i (List.mem_range.mpr hi)
  rw [e] at this
  simp [hj] at this
def capB (κ : List SK) (js : List (Option Nat)) : Bool := js.all fun j => match j with | some i => decide (kd κ i = .cl) | none => true
theorem cap_of {κ : List SK} {js : List (Option Nat)} (h : capB κ js = true) : ∀ j ∈ js, ∀ i, j = some i → kd κ i = .cl := fun j hj i e => by
  have := List.all_eq_true.mp h j hj
  subst e
  simpa using this
def eNeg (E : DTE) : DTE := fun ρ q => E ρ fun x ρ1 => ∃ i, x = .int i ∧ q (.int (-i)) ρ1
theorem fneg {X : Cx} {κ : List SK} {pu : Bool} {a : Expr} {pos : Pos} {Ea : DTE} (ha : DE X κ pu .cl a Ea) : DE X κ pu .cl (.UnaryOp .USub a pos) (eNeg Ea) := dneg ha

def BodyP (B : DTS) (n np : Nat) (md : SK) (sd : List D → (D → Prop) → Prop) : Prop := ∀ ds q, ds.length = np → sd ds q → B { nx := fun _ => md = .cl ∧ q .non, rt := fun d _ => q d } (startD n ds)
def BodyX (B : DTS) (n np j : Nat) (md : SK) (sd : List D → (D → D → Prop) → Prop) : Prop := ∀ ds q, ds.length = np → sd ds q → B { nx := fun ρ => md = .cl ∧ ∃ d', ρ[j]? = some (some d') ∧ q .non d', rt := fun d ρ => ∃ d', ρ[j]? = some (some d') ∧ q d d' } (startD n ds)
end L2

set_option maxRecDepth 100000

namespace L2
open PySem PySem.Spec PyProof.Rows
abbrev oAdd : DR2 := oI0 fun i j => .int (i + j)
abbrev oSub : DR2 := oI0 fun i j => .int (i - j)
abbrev oMul : DR2 := oI IntMulOk fun i j => .int (i * j)
abbrev oMod : DR2 := oI (fun _ j => 0 < j) fun i j => .int (i % j)
abbrev oFdiv : DR2 := oI CDiv fun i j => .int (i / j)
abbrev oPow : DR2 := oI CPow fun i j => .int (i ^ j.toNat)
abbrev oLt : DR2 := oI0 fun i j => .bl (decide (i < j))
abbrev oGt : DR2 := oI0 fun i j => .bl (decide (j < i))
abbrev oGe : DR2 := oI0 fun i j => .bl (decide (j ≤ i))
abbrev oAdds : DR2 := fun x y q => ∃ i j, x = .str i ∧ y = .str j ∧ i.length + j.length ≤ sizeLine ∧ q (.str (i ++ j))
abbrev xL : DR2 := fun x y q => ∃ l i d, x = .lst l ∧ y = .int i ∧ atI l i = some d ∧ q d
abbrev xS : DR2 := fun x y q => ∃ z i c, x = .str z ∧ y = .int i ∧ z.length ≤ sizeLine ∧ atI z.cps.toList i = some c ∧ q (.str ⟨#[c]⟩)
abbrev xScr : DR2 := fun x y q => ∃ ns i n, x = .scr ns ∧ y = .int i ∧ atI ns i = some n ∧ q (.int n)
abbrev cAbs : DRn := fun ds q => ∃ i, ds = [.int i] ∧ q (.int (if i < 0 then -i else i))
abbrev cMin2 : DRn := fun ds q => ∃ i j, ds = [.int i, .int j] ∧ q (.int (if j < i then j else i))
abbrev cMax2 : DRn := fun ds q => ∃ i j, ds = [.int i, .int j] ∧ q (.int (if j > i then j else i))
abbrev cIsi : DRn := fun ds q => ∃ d c, ds = [d, .ty c] ∧ noDct d = true ∧ c ∈ ["bool", "int", "str", "list", "tuple"] ∧ q (.bl (isB (tyD d) c))
abbrev cList : DRn := fun ds q => ∃ l, (ds = [.lst l] ∨ ds = [.tup l]) ∧ q (.lst l)
theorem room12 {k : Nat} {A : Around} (hr : Room k A) : A.units + 12 < cLine := Nat.lt_of_le_of_lt (Nat.add_le_add_left (by decide : 12 ≤ 64) _) hr.units
theorem dgstr {X : Cx} {κ : List SK} {x z : Str} {pos : Pos} (hd : (x == ("__debug__" : Str)) = false) (hg : Gl X x) (hm : ∃ tk, X.mg x = some (.str z tk)) : DE X κ true .cl (.Name x pos) (eC (.str z)) := by
  obtain ⟨tk, hm⟩ := hm
  exact dglob hd hg ⟨.str z, _, hm, ⟨tk, rfl⟩, fun _ _ => by simp only [Rep]⟩
theorem forGo_inv {g : DTG} {T : DTS} {De : DEnds} (Pv : Nat → EnvD → Prop) : ∀ (ds : List D) (ρ : EnvD) (k : Nat), Pv k ρ →
    (∀ i d ρ, ds[i]? = some d → Pv (k + i) ρ → g d ρ fun ρ2 => T { De with nx := Pv (k + i + 1), ct := Pv (k + i + 1), bk := De.nx } ρ2) → (∀ ρ, Pv (k + ds.length) ρ → De.nx ρ) → forGo g T De ds ρ
  | [], ρ, k, h0, _, hd => hd ρ (by simpa using h0)
  | d :: ds, ρ, k, h0, hs, hd => by
    refine ⟨Pv (k + 1), fun ρ' hp => forGo_inv Pv ds ρ' (k + 1) hp (fun i d' ρ2 e p => ?_) (fun ρ2 p => hd ρ2 ?_), hs 0 d ρ rfl h0⟩
    · have := hs (i + 1) d' ρ2 (by simpa using e) (by rw [← Nat.add_assoc, Nat.add_right_comm]; exact p)
      rw [← Nat.add_assoc, Nat.add_right_comm k i 1] at this
      exact this
    · rw [List.length_cons, ← Nat.add_assoc, Nat.add_right_comm]
      exact p
theorem forI {g : DTG} {T : DTS} {De : DEnds} {ds : List D} {ρ : EnvD} (Pv : Nat → EnvD → Prop) (h0 : Pv 0 ρ) (hs : ∀ i d ρ, ds[i]? = some d → Pv i ρ → g d ρ fun ρ2 => T { De with nx := Pv (i + 1), ct := Pv (i + 1), bk := De.nx } ρ2) (hd : ∀ ρ, Pv ds.length ρ → De.nx ρ) : forGo g T De ds ρ :=
  forGo_inv Pv ds ρ 0 h0 (fun i d ρ e p => by rw [Nat.zero_add] at p ⊢; exact hs i d ρ e p) (fun ρ p => hd ρ (by rw [Nat.zero_add] at p; exact p))
theorem compGo_inv {g : DTG} {C : DTT} {E : DTE} {q : List D → EnvD → Prop} (Pv : Nat → List D → EnvD → Prop) : ∀ (ds acc : List D) (ρ : EnvD) (k : Nat), Pv k acc ρ →
    (∀ i d acc ρ, ds[i]? = some d → Pv (k + i) acc ρ → g d ρ fun ρ1 => C ρ1 fun b ρ2 => if b = true then E ρ2 fun z ρ3 => acc.length < sizeLine ∧ Pv (k + i + 1) (acc ++ [z]) ρ3 else Pv (k + i + 1) acc ρ2) → (∀ acc ρ, Pv (k + ds.length) acc ρ → q acc ρ) → compGo g C E ds acc ρ q
  | [], acc, ρ, k, h0, _, hd => hd acc ρ (by simpa using h0)
  | d :: ds, acc, ρ, k, h0, hs, hd => by
    refine ⟨Pv (k + 1), fun acc' ρ' hp => compGo_inv Pv ds acc' ρ' (k + 1) hp (fun i d' acc2 ρ2 e p => ?_) (fun acc2 ρ2 p => hd acc2 ρ2 ?_), hs 0 d acc ρ rfl h0⟩
    · have := hs (i + 1) d' acc2 ρ2 (by simpa using e) (by rw [← Nat.add_assoc, Nat.add_right_comm]; exact p)
      rw [← Nat.add_assoc, Nat.add_right_comm k i 1] at this
      exact this
    · rw [List.length_cons, ← Nat.add_assoc, Nat.add_right_comm]
      exact p
theorem compI {g : DTG} {C : DTT} {E : DTE} {q : List D → EnvD → Prop} {ds acc : List D} {ρ : EnvD} (Pv : Nat → List D → EnvD → Prop) (h0 : Pv 0 acc ρ)
    (hs : ∀ i d acc ρ, ds[i]? = some d → Pv i acc ρ → g d ρ fun ρ1 => C ρ1 fun b ρ2 => if b = true then E ρ2 fun z ρ3 => acc.length < sizeLine ∧ Pv (i + 1) (acc ++ [z]) ρ3 else Pv (i + 1) acc ρ2) (hd : ∀ acc ρ, Pv ds.length acc ρ → q acc ρ) : compGo g C E ds acc ρ q :=
  compGo_inv Pv ds acc ρ 0 h0 (fun i d acc ρ e p => by rw [Nat.zero_add] at p ⊢; exact hs i d acc ρ e p) (fun acc ρ p => hd acc ρ (by rw [Nat.zero_add] at p; exact p))
def sd_law : List D → (D → Prop) → Prop := fun ds q => ∃ ns, ds = [.scr ns] ∧ ns.length ≤ 63 ∧ q (.bl true)
theorem spLaw {K : PySem.W.Frag} {H : Hp} {a : Addr} {ns : List Int} (hl : ns.length ≤ 63) (hO : Only H) (hS : SqL K H a (ns.map V.int)) : spP K 1 .cl sd_law [.ref a] H (fun v _ => v = .bl true) fun _ _ _ => False := by
  refine ⟨fun _ => False, [.scr ns], fun d => d = .bl true, rfl, fun _ z => z.elim, ?_, ⟨ns, rfl, hl, rfl⟩, fun v H' d fp sm vr hq => ?_⟩
  · simp only [Reps, Rep]
    refine ⟨_, [], rfl, ⟨a, rfl, ?_⟩, rfl⟩
    rcases hS with (h | ⟨o, h⟩) | h
    · rcases hO a with z | ⟨o, xs, z⟩ <;> (rw [z] at h; cases h)
    · exact .inl ⟨o, h⟩
    · exact .inr h
  · subst hq
    exact rep_bl vr.2
end L2

set_option maxRecDepth 100000
namespace L2
open PySem PySem.Spec PyProof.Rows PySem.Builtin.Str
theorem str_app_cps (x y : Str) : (x ++ y).cps.toList = x.cps.toList ++ y.cps.toList := by
  show (x.cps ++ y.cps).toList = _
  simp
theorem compY {g : DTG} {E : DTE} {q : List D → EnvD → Prop} {ds acc : List D} {ρ : EnvD} (Pv : Nat → List D → EnvD → Prop) (h0 : Pv 0 acc ρ)
    (hs : ∀ i d acc ρ, ds[i]? = some d → Pv i acc ρ → g d ρ fun ρ1 => E ρ1 fun z ρ3 => acc.length < sizeLine ∧ Pv (i + 1) (acc ++ [z]) ρ3) (hd : ∀ acc ρ, Pv ds.length acc ρ → q acc ρ) : compGo g eYes E ds acc ρ q :=
  compI (g := g) (C := eYes) (E := E) (ds := ds) Pv h0 (fun i d acc ρ e p => by
    have e2 : (fun ρ1 => eYes ρ1 fun b ρ2 => if b = true then E ρ2 fun z ρ3 => acc.length < sizeLine ∧ Pv (i + 1) (acc ++ [z]) ρ3 else Pv (i + 1) acc ρ2) = fun ρ1 => E ρ1 fun z ρ3 => acc.length < sizeLine ∧ Pv (i + 1) (acc ++ [z]) ρ3 := by
      funext ρ1
      simp only [eYes, if_true]
    rw [e2]
    exact hs i d acc ρ e p) hd
end L2

set_option maxRecDepth 100000

namespace L2
open PySem PySem.Spec PyProof.Rows
section
variable {X : Cx} {pins : List (Addr × Obj)} {σ : List (Option V)} {H : Hp} {s : Shared}
end

section
variable {X : Cx} {κ : List SK} {md : SK} {pu : Bool} {tg iter : Expr} {E Ek : DTE} {pos : Pos}


section
variable {K : PySem.W.Frag} {G : G0} {O : Addr → Prop} {ρ : EnvD} {σ : St} {H : Hp}
end

end

theorem reps_strs {K : PySem.W.Frag} {S : Addr → Prop} {H : Hp} : ∀ {ss : List Str} {vs : List V}, Reps K S H (ss.map D.str) vs ↔ vs = ss.map V.str
  | [], vs => by simp only [List.map_nil, Reps]
  | x :: t, vs => by
    simp only [List.map_cons, Reps, Rep]
    constructor
    · rintro ⟨v, r, rfl, rfl, h⟩
      rw [reps_strs.mp h]
    · rintro rfl
      exact ⟨_, _, rfl, rfl, reps_strs.mpr rfl⟩
end L2

set_option maxRecDepth 100000

namespace L2
open PySem PySem.Spec PyProof.Rows
section
variable {X : Cx}


variable {κ : List SK} {md m : SK} {pu puo : Bool} {o e : Expr} {Eo E : DTE} {apos cpos pos : Pos}

def sClr (κ : List SK) (i : Nat) : DTS := fun De ρ => (∃ l, ρ[i]? = some (some (.lst l))) ∧ De.nx (kl κ (ρ.set i (some (.lst []))))
end
end L2

set_option maxRecDepth 100000

namespace L2
open PySem PySem.Spec PyProof.Rows
section
variable {prog : Program} {w : World} {A : Around} {E : Value → Shared → Prop} {s : Shared} {z ti to a1 a2 t1 t2 : Addr} {k : Nat} {xs ys : Array Value}
end

section
variable {X : Cx} {elts : List Expr} {kk : Nat} {tpos p pos : Pos}
variable {κ : List SK} {pu lo : Bool} {A : DTA} {a b : Expr}
end
end L2

set_option maxRecDepth 100000

namespace L2
open PySem PySem.Spec PyProof.Rows
end L2

set_option maxRecDepth 100000

namespace L2
open PySem PySem.Spec PyProof.Rows
section
variable {X : Cx} {pins : List (Addr × Obj)} {σ : St} {H : Hp} {s : Shared} {Nc : List Str} {js : List (Option Nat)} {scope : Scope} {fp : List Addr}
end
section
variable {prog : Program} {w : World} {A : Around} {R : Result → Shared → Prop} {s : Shared}
end
section
variable {X : Cx} {tg kx vx iter : Expr} {ifs : List Expr} {scope : Scope} {pos : Pos} {Nc : List Str} {js : List (Option Nat)} {wi : TI} {g : TG} {tc : TT} {tk tv : TE}
end
end L2

set_option maxRecDepth 100000

namespace L2
open PySem PySem.Spec PyProof.Rows
section
variable {X : Cx} {κ : List SK} {pu lo : Bool} {I : DTI} {g : DTG} {C : DTT} {Ek E : DTE} {js : List (Option Nat)} {K : PySem.W.Frag}
variable {tg kx vx iter : Expr} {ifs : List Expr} {scope : Scope} {pos : Pos} {Nc : List Str} {lo0 pk pe md : Bool}
end
end L2

set_option maxRecDepth 100000

namespace L2
open PySem PySem.Spec PyProof.Rows

section
variable {X : Cx} {tg a : Expr} {p pos : Pos}
end

theorem strsAre_of : ∀ {ss : List Str} {its : List Value}, Vals (ss.map V.str) its → StrsAre its ss := by
  intro ss
  induction ss with
  | nil => intro its r; rw [List.map_nil] at r; cases r; exact .nil
  | cons x t ih =>
    intro its r
    rw [List.map_cons] at r
    cases r with
    | cons h r => obtain ⟨tk, rfl⟩ := h; exact .cons _ _ (ih r)
def joinB (sep : Str) (ss : List Str) : Prop := (ss.map (·.length)).sum + ss.length * sep.length ≤ 16777216
section
variable {X : Cx} {κ : List SK} {md m : SK} {pu puo : Bool} {o e e2 : Expr} {Eo E E2 : DTE} {apos cpos pos p : Pos} {x : Str} {i : Nat}
theorem mt_join : MtR X "str.join" (fun x vs H Q => ∃ sep a ss, x = .str sep ∧ vs = [.ref a] ∧ SqL X.K H a (ss.map V.str) ∧ joinB sep ss ∧ Q (.str (Txt.join sep ss)) H) := by
  intro pins s σ H x vs v us Q I rx rv h
  obtain ⟨sep, a, ss, rfl, rfl, hq, hj, q⟩ := h
  obtain ⟨t, rfl⟩ := rx
  obtain ⟨u, rfl, ru⟩ := vals1 rv
  cases (show u = Value.ref a from ru)
  obtain ⟨its, r, pl, hz⟩ := I.list hq
  exact join_list pl.isList (by simpa using strsAre_of r) hj fun t' k => ⟨.str _, H, I.tok _, ⟨_, rfl⟩, q⟩
def eJoin (Eo E : DTE) : DTE := fun ρ q => Eo ρ fun x ρ1 => ∃ sep, x = .str sep ∧ E ρ1 fun y ρ2 => ∃ ss : List Str, y = .lst (ss.map D.str) ∧ joinB sep ss ∧ q (.str (Txt.join sep ss)) ρ2
theorem djoin (hp : plainE e = true) (hline : (apos.endLine == cpos.line) = true) (hbase : attributeBase o "join" X.env (eval o X.env) = eval o X.env) (hm : isV m)
    (ho : DE X κ puo .cl o Eo) (he : DE X κ pu m e E) : DE X κ (puo && pu) .cl (.Call (.Attribute o "join" apos) [e] [] cpos) (eJoin Eo E) := by
  refine ⟨(PE.bm (by simp [hp]) (by simp) hline hbase PySem.F.plainAttrs_str PySem.F.slot_str_join PySem.F.type_str_join mt_join ho.h (pac hp he.h pa_nil)).weak fun σ H Q ⟨G, O, ρ, q, hE, hq, k⟩ => ⟨G, O, ρ, _, hE, hq, fun v H1 d ρ1 O1 fp s1 e1 vo p1 ⟨sep, el, hq1⟩ => ?_⟩⟩
  subst el
  have rv : v = .str sep := by simpa only [Rep] using vo.2
  subst rv
  refine ⟨(show tyV X.K "str" (V.str sep) H1 from rfl), G, O1, ρ1, _, e1.drop, hq1, fun v2 H2 y ρ2 O2 fp2 s2 e2 vo2 p2 ⟨ss, ey, hj, hq2⟩ => ?_⟩
  subst ey
  have r2 := vo2.now (lo := loB m) hm (fun z => by rw [z]; rfl)
  simp only [Rep] at r2
  obtain ⟨a, ws, rfl, _, hrd, hr⟩ := r2
  rw [reps_strs] at hr
  subst hr
  exact ⟨sep, a, ss, rfl, rfl, .inl hrd, hj, k _ H2 _ ρ2 O2 [] (s1.trans s2) (by rw [plus_nil]; exact e2.drop) ⟨rfl, by simp only [Rep]⟩ (p1.and p2) hq2⟩



end

section
variable {X : Cx} {κ : List SK} {pu : Bool} {e : Expr} {es : List Expr} {pos p : Pos} {A : DTA} {x : Str}
variable {sd : List D → (D → Prop) → Prop} {CX : CXT} {k : Nat} {g : Addr} {fd : FuncData} {ps : List Str} {Ex : XK}

def eCallT (np : Nat) (sd : List D → (D → D → Prop) → Prop) (E : DTE) (A : DTA) : DTE := fun ρ q => E ρ fun d ρ1 => A ρ1 fun ds ρ2 => (d :: ds).length = np ∧ sd (d :: ds) fun z _ => q z ρ2
theorem EnvOk.tmp {K : PySem.W.Frag} {G : G0} {O : Addr → Prop} {ρ : EnvD} {σ : St} {H H' : Hp} {fp fp2 : List Addr} (h : EnvOk K κ (G.plus fp) O ρ σ H) (hm : ∀ a ∈ fp, ∃ o, H a = some o ∧ isM o) (h0 : ∀ a ∈ fp, G.H0 a = none)
    (keep : ∀ b o, b ∉ fp → H b = some o → H' b = some o) (dom : ∀ b, H b ≠ none → H' b ≠ none) (hf : ∀ a ∈ fp2, H a = none ∧ H' a ≠ none) : EnvOk K κ (G.plus fp2) O ρ σ H' := by
  obtain ⟨F, f⟩ := h
  have nf2 : ∀ {a : Addr} {o : HO}, H a = some o → a ∉ fp2 := fun e z => by rw [(hf _ z).1] at e; cases e
  have g : ∀ (U : Addr → Prop), Goes (uni (uni G.S0 (fpS fp)) U) (uni (uni G.S0 (fpS fp2)) U) H H' := fun U => by
    refine ⟨fun a xs q => ?_, fun a u n q => ⟨?_, fun z => ?_⟩, fun a o u q => keep _ _ (fun z => by obtain ⟨o', e, m⟩ := hm a z; rw [q] at e; cases e; exact m) q⟩
    · have nO : a ∉ fp := fun z => by
        obtain ⟨o, e, m⟩ := hm a z
        rcases q with q | ⟨o', q⟩ <;> (rw [q] at e; cases e; exact m)
      rcases q with q | ⟨o, q⟩
      · exact .inl (keep _ _ nO q)
      · exact .inr ⟨o, keep _ _ nO q⟩
    · have nO : a ∉ fp := fun z => n (.inl (.inr z))
      rcases q with q | ⟨o, q⟩
      · exact .inl (keep _ _ nO q)
      · exact .inr ⟨o, keep _ _ nO q⟩
    · obtain ⟨o, e⟩ := q.some
      rcases z with (z | z) | z
      · exact n (.inl (.inl z))
      · exact nf2 e z
      · exact n (.inr z)
  have g0 : Goes (uni G.S0 (fpS fp)) (uni G.S0 (fpS fp2)) H H' := by
    have q := g fun _ => False
    have e : ∀ (S : Addr → Prop), uni S (fun _ => False) = S := fun S => by funext a; simp [uni]
    rw [e, e] at q
    exact q
  have nfp : ∀ i a, a ∈ F i → a ∉ fp := fun i a ha z => (f.mu i a ha).1 (.inr z)
  refine ⟨F, f.len, f.own, f.non, f.dis, f.nd, fun i a hi => ?_, f.new, f.par, fun p hp => Rep.go (g O) _ _ (f.gh p hp), fun a z => ?_, fun b o n e => ?_, fun b e => dom b (f.dom b e), fun i d e => ?_⟩
  · obtain ⟨n, o, e, m⟩ := f.mu i a hi
    exact ⟨fun z => z.elim (fun z => n (.inl z)) (nf2 e), o, keep a o (nfp i a hi) e, m⟩
  · rcases z with z | z
    · exact dom a (f.s0 a (.inl z))
    · exact (hf a z).2
  · refine keep b o (fun z => ?_) (f.keep b o n e)
    have e' : G.H0 b = some o := e
    rw [h0 b z] at e'; cases e'
  · obtain ⟨v, e1, e2⟩ := f.slot i d e
    refine ⟨v, e1, ?_⟩
    cases q : kd κ i with
    | cl => rw [q] at e2; exact Rep.go (g O) d v e2
    | ow n => rw [q] at e2; exact Own.go (g O) n _ d v (fun a ha o eo => keep a o (nfp i a ha) eo) e2
    | io n => rw [q] at e2; exact Own.go (g O) n _ d v (fun a ha o eo => keep a o (nfp i a ha) eo) e2
    | lo => rw [q] at e2; exact Rep.go g0 d v e2
theorem fclT {np n : Nat} {pu1 pu2 : Bool} {md : SK} {E : DTE} {sx : List D → (D → D → Prop) → Prop} (hp : (e :: es).all plainE = true) (hpe : plainE e = true) (hdb : (x == ("__debug__" : Str)) = false) (F : FnOk X.prog X.w X.K X.mg X.base CX k g fd ps (spX X.K np 0 n md sx)) (hn : np = ps.length) (hr : Room k X.A) (hg : Gl X x) (hm : X.mg x = some (.ref g)) (hk : PySem.W.keepIn X.K (.ref g) = true) (hb : Binds X.K fd ps []) (hx : Passes CX X Ex)
    (hmd : md = .cl ∨ ∃ m, md = .ow m) (he : DE X κ pu1 (.ow n) e E) (ha : DA X κ pu2 false es A) : DE X κ (pu1 && pu2) md (.Call (.Name x p) (e :: es) [] pos) (eCallT np sx E A) := by
  subst hn
  refine ⟨(pcl hp hdb F hr hg hm hk hb .nil hx (pac hpe he.h ha.h)).weak fun σ H Q ⟨G, O, ρ, q, hE, hq, k⟩ => ⟨G, O, ρ, _, hE, hq, fun v H1 d ρ1 O1 fp s1 e1 vo p1 hq1 => ⟨G.plus fp, O1, ρ1, _, e1, hq1, fun vs H2 ds ρ2 O2 s2 e2 r2 p2 ⟨hl, hq2⟩ => ?_⟩⟩⟩
  obtain ⟨nd, hf, how⟩ := vo
  have nO1 : ∀ a ∈ fp, ¬ O1 a := fun a ha => (hf a ha).2.1
  have ow2 : Own X.K (uni (uni G.S0 (fpS fp)) O2) H2 n fp d v := Own.go (Goes.step (S0 := uni G.S0 (fpS fp)) e1.mutO s2) n fp d v (fun a ha o eo => s2.keep a o (nO1 a ha) eo) how
  have mu2 : ∀ a ∈ fp, ∃ o, H2 a = some o ∧ isM o := fun a ha => by
    obtain ⟨_, _, o, eo, m⟩ := hf a ha
    exact ⟨o, s2.keep a o (nO1 a ha) eo, m⟩
  have h0 : ∀ a ∈ fp, G.H0 a = none := fun a ha => by
    cases z : G.H0 a with
    | none => rfl
    | some o => exact absurd (hf a ha).1 (hE.dom a (by rw [z]; simp))
  have perm : ∀ a, uni (uni G.S0 O2) (fpS fp) a → uni (uni G.S0 (fpS fp)) O2 a := fun a z => by
    rcases z with (z | z) | z
    · exact .inl (.inl z)
    · exact .inr z
    · exact .inl (.inr z)
  refine ⟨uni G.S0 O2, d :: ds, _, fp, v, d, by rw [List.append_nil, List.length_cons, r2.len]; exact hl, hl, rfl, rfl, fun a z => ?_, nd, fun a ha => ⟨fun z => ?_, mu2 a ha⟩, fun j y dy hj ev ed => ?_, Own.go (.less perm) n fp d v (fun _ _ _ h => h) ow2, hq2, fun v' H' d1 d' fp2 f' st nd' hf' own' vo' hfp hz => ?_⟩
  · rcases z with z | z
    · exact e2.s0 a (.inl z)
    · obtain ⟨o, eo, _⟩ := e2.mutO a z; rw [eo]; simp
  · rcases z with z | z
    · exact hE.s0 a z (hf a ha).1
    · exact e2.noS a z (.inr ha)
  · cases j with
    | zero => exact absurd rfl hj
    | succ j =>
      rw [List.append_nil] at ev
      obtain ⟨u, eu, ru⟩ := r2.get (i := j) (x := dy) (by simpa using ed)
      have : vs[j]? = some y := by simpa using ev
      rw [this] at eu; cases eu
      exact Rep.go (.less perm) dy y ru
  · have fpn : ∀ a ∈ fp2, H2 a = none := fun a ha => by
      rcases hmd with rfl | ⟨m, rfl⟩
      · rw [vo'.1] at ha; exact absurd ha (by simp)
      · exact (vo'.2.1 a ha).1
    have out : ∀ b o, H b = some o → b ∉ fp := fun b o eb z => by rw [(hf b z).1] at eb; cases eb
    have en : EnvOk X.K κ (G.plus fp2) O2 ρ2 σ H' := e2.tmp mu2 h0 (fun b o nb eb => st.keep b o nb eb) st.dom fun a ha => ⟨fpn a ha, hfp a ha⟩
    have s12 := s1.trans s2
    have stp : Step O O2 H H' := ⟨fun b o nb eb => st.keep b o (out b o eb) (s12.keep b o nb eb), s12.own, fun b eb => st.dom b (s12.dom b eb)⟩
    refine k v' H' d1 ρ2 O2 fp2 stp en ?_ (fun z => ?_) hz
    · have le : ∀ a, uni G.S0 O2 a → uni (uni G.S0 O2) (fpS f') a := fun a z => .inl z
      rcases hmd with rfl | ⟨m, rfl⟩
      · exact ⟨vo'.1, Rep.go (.less le) d1 v' vo'.2⟩
      · refine ⟨vo'.1, fun a ha => ⟨?_, fun z => ?_, (vo'.2.1 a ha).2.2⟩, Own.go (.less fun a z => ?_) m fp2 d1 v' (fun _ _ _ h => h) vo'.2.2⟩
        · cases eh : H a with
          | none => rfl
          | some o => exact absurd (fpn a ha) (s12.dom a (by rw [eh]; simp))
        · obtain ⟨o, eo, _⟩ := e2.mutO a z
          rw [fpn a ha] at eo; cases eo
        · rcases z with (z | z) | z
          · exact .inl (.inl (.inl z))
          · exact .inl (.inr z)
          · exact .inl (.inl (.inr z))
    · obtain ⟨z1, z2, z3⟩ := (p1.and p2) z
      exact ⟨fun b o eb => st.keep b o (out b o eb) (z1 b o eb), z2, z3⟩
end
end L2
namespace L2
open PySem PySem.Spec PyProof.Rows
end L2
namespace L2
open PySem PySem.Spec PyProof.Rows

def eMv (j : Nat) : DTE := fun ρ q => ∃ d, ρ[j]? = some (some d) ∧ q d (ρ.set j none)
theorem EnvOk.giveUp {K : PySem.W.Frag} {κ : List SK} {G : G0} {O : Addr → Prop} {ρ : EnvD} {σ : St} {H : Hp} {j n : Nat} {d : D} (h : EnvOk K κ G O ρ σ H) (hk : kd κ j = .ow n) (e : ρ[j]? = some (some d)) :
    ∃ v O', σ[j]? = some (some v) ∧ (∀ a, O' a → O a) ∧ EnvOk K κ G O' (ρ.set j none) σ H ∧ Rep K (uni G.S0 O') H d v := by
  obtain ⟨F, f⟩ := h
  obtain ⟨v, h1, h2⟩ := f.slot j d e
  rw [hk] at h2
  have le : ∀ a, OF (setF F j []) a → O a := fun a ⟨i, z⟩ => by
    by_cases hi : i = j
    · rw [hi, setF_at] at z; exact absurd z (by simp)
    · rw [setF_ne hi] at z; exact (f.own a).mpr ⟨i, z⟩
  have le2 : ∀ a, uni G.S0 (OF (setF F j [])) a → uni G.S0 O a := fun a z => z.elim .inl fun z => .inr (le a z)
  refine ⟨v, OF (setF F j []), h1, le, ⟨setF F j [], by simp [f.len], fun a => Iff.rfl, fun i hn => ?_, fun i k a ha hb => ?_, fun i => ?_, fun i a ha => ?_, fun i a ha => ?_, f.par, fun p hp => Rep.go (.less le2) _ _ (f.gh p hp), f.s0, f.keep, f.dom, fun i di ei => ?_⟩, Own.rep n (F j) d v (fun a ha z => ?_) le2 h2⟩
  · by_cases hi : i = j
    · rw [hi, setF_at]
    · rw [setF_ne hi]; exact f.non i hn
  · by_cases hi : i = j
    · rw [hi, setF_at] at ha; exact absurd ha (by simp)
    · rw [setF_ne hi] at ha
      by_cases hk' : k = j
      · rw [hk', setF_at] at hb; exact absurd hb (by simp)
      · rw [setF_ne hk'] at hb; exact f.dis i k a ha hb
  · by_cases hi : i = j
    · rw [hi, setF_at]; simp
    · rw [setF_ne hi]; exact f.nd i
  · by_cases hi : i = j
    · rw [hi, setF_at] at ha; exact absurd ha (by simp)
    · rw [setF_ne hi] at ha; exact f.mu i a ha
  · by_cases hi : i = j
    · rw [hi, setF_at] at ha; exact absurd ha (by simp)
    · rw [setF_ne hi] at ha; exact f.new i a ha
  · have hi : i ≠ j := by
      rintro rfl
      have hl : i < ρ.length := by
        have := (List.getElem?_eq_some_iff.mp ei).1
        simpa using this
      rw [List.getElem?_set_self hl] at ei; cases ei
    rw [List.getElem?_set_ne (Ne.symm hi)] at ei
    obtain ⟨u, e3, e4⟩ := f.slot i di ei
    refine ⟨u, e3, ?_⟩
    rw [setF_ne hi]
    cases q : kd κ i with
    | cl => rw [q] at e4; exact Rep.go (.less le2) di u e4
    | ow m => rw [q] at e4; exact Own.go (.less le2) m _ di u (fun _ _ _ h => h) e4
    | io m => rw [q] at e4; exact Own.go (.less le2) m _ di u (fun _ _ _ h => h) e4
    | lo => rw [q] at e4; exact e4
  · rcases z with z | ⟨i, z⟩
    · exact (f.mu j a ha).1 z
    · by_cases hi : i = j
      · rw [hi, setF_at] at z; exact absurd z (by simp)
      · rw [setF_ne hi] at z; exact hi (f.dis i j a z ha)
theorem dmv {X : Cx} {κ : List SK} {x : Str} {pos : Pos} (j : Nat) {n : Nat} (hk : kd κ j = .ow n := by rfl) (hN : X.N[j]? = some x := by rfl) (hv : Vis X.env.scope x := by first | exact Or.inl rfl | exact Or.inr (Or.inl rfl) | exact Or.inr (Or.inr rfl)) (hd : (x == ("__debug__" : Str)) = false := by decide)
    (hcd : (x == ("__classdict__" : Str)) = false := by decide) : DE X κ false .cl (.Name x pos) (eMv j) :=
  ⟨(pe_var hN hv hd hcd).weak fun σ H Q ⟨G, O, ρ, q, hE, ⟨d, e1, e2⟩, k⟩ => by
    obtain ⟨v, O', h1, h2, h3, h4⟩ := hE.giveUp hk e1
    exact ⟨v, h1, k v H d _ O' [] ⟨fun _ _ _ h => h, fun a z => .inl (h2 a z), fun _ h => h⟩ (by rw [plus_nil]; exact h3) ⟨rfl, h4⟩ (fun h => absurd h Bool.false_ne_true) e2⟩⟩
end L2

set_option maxRecDepth 100000

namespace L2
open PySem PySem.Spec PyProof.Rows

section
variable {X : Cx}


end

section
variable {X : Cx} {pins : List (Addr × Obj)} {σ : St} {H : Hp} {s : Shared} {a b : Addr} {k : List Key} {kvs : List (List Key × Addr × V)} {v : V} {r : Value} {A : Around} {E : Value → Shared → Prop}
end

section
variable {X : Cx} {κ : List SK} {md : SK} {pu : Bool} {pos : Pos} {E Ek : DTE}


section
variable {K : PySem.W.Frag} {G : G0} {O : Addr → Prop} {ρ : EnvD} {σ : St} {H : Hp}
end
end
theorem fasg {X : Cx} {κ : List SK} {md mr : SK} {pu : Bool} {e tg : Expr} {E : DTE} {pos : Pos} {g : DTG} (hs : swapsWithSole [tg] e pos.line X.env = pure false) (hw : swappedStores [tg] e X.env = pure none) (h1 : (assignEach [tg] X.env).map (·.2) = [assign tg X.env]) (hm : md = .cl ∨ md = .lo) (he : DE X κ pu md e E) (hg : DG X κ md tg g) : DS X κ mr (.Assign [tg] e pos) (sAsg E g) := dasg hs hw h1 hm he hg
end L2

set_option maxRecDepth 100000

namespace L2
open PySem PySem.Spec PyProof.Rows
section
variable {X : Cx}


variable {κ : List SK} {pu pu1 pu2 pu3 pu4 : Bool} {e st : Expr} {lo hi : Option Expr} {E : DTE} {El Eh Es : DTO} {p pos : Pos}
end


end L2

set_option maxRecDepth 100000

namespace L2
open PySem PySem.Spec PyProof.Rows
section
variable {X : Cx} {κ : List SK} {md m : SK} {pu pu1 pu2 : Bool} {e a b : Expr} {E Ea Eb : DTE} {pos : Pos}
def eTru (E : DTE) : DTT := fun ρ q => E ρ fun d ρ' => ∃ l, (d = .lst l ∨ d = .tup l) ∧ q (!l.isEmpty) ρ'
theorem emp_len {α β : Type} {a : List α} {b : List β} (h : a.length = b.length) : a.isEmpty = b.isEmpty := by
  cases a <;> cases b <;> simp_all
theorem dtru (hm : isV m) (he : ∀ whole, isTrue e X.env whole = (do let v ← whole; standAt e.pos; holding [v] (truthy v))) (h : DE X κ pu m e E) : DT X κ pu e (eTru E) := by
  refine ⟨(pt_truth h.h he).weak fun σ H Q ⟨G, O, ρ, q, hE, hq, k⟩ => ⟨G, O, ρ, _, hE, hq, fun v H1 d ρ1 O1 fp s1 e1 vo p1 ⟨l, hd, hq1⟩ => ?_⟩⟩
  have r := vo.now (lo := loB m) hm (fun z => by rw [z]; rfl)
  obtain ⟨a, vs, rfl, hsq, hr⟩ := rSeq hd r
  have el : (!l.isEmpty) = !vs.isEmpty := by rw [emp_len hr.len]
  refine ⟨!l.isEmpty, ?_, k _ H1 ρ1 O1 s1 e1.drop p1 hq1⟩
  rcases hsq with h | h
  · exact Or.inl ⟨vs, h, el⟩
  · exact Or.inr (Or.inl ⟨vs, h, el⟩)
def CDivB (_ j : Int) : Prop := 0 < j ∧ j.natAbs.log2 < 9000
theorem op_fdivB : OpR X (binaryOp .FloorDiv) (rI CDivB fun i j => .int (i / j)) := opI fun i j _ _ _ _ _ hc q => by
  have h1 : (0 : Int) < j := hc.1
  exact floordiv_int (by omega) (by rw [Int.fdiv_eq_ediv_of_nonneg i (by omega)]; exact q) (.inl (PyProof.noPylong_of_log2 hc.2))
theorem do_fdivB : DOp X .cl (binaryOp .FloorDiv) (oI CDivB fun i j => .int (i / j)) := dopI op_fdivB fun _ _ _ _ => by simp only [Rep]
abbrev oFdivB : DR2 := oI CDivB fun i j => .int (i / j)

def timesS (z : Str) (n : Nat) : Str := ⟨(List.replicate n z.cps).foldl (· ++ ·) #[]⟩
abbrev oMulS : DR2 := fun x y q => ∃ z n, x = .str z ∧ y = .int n ∧ 2 ≤ n ∧ n ≤ 1000 ∧ 1 ≤ z.length ∧ z.length ≤ 1000 ∧ (timesS z n.toNat).length ≤ sizeLine ∧ q (.str (timesS z n.toNat))
theorem op_mulS : OpR X (binaryOp .Mult) (fun x y H Q => ∃ z n, x = .str z ∧ y = .int n ∧ 2 ≤ n ∧ n ≤ 1000 ∧ 1 ≤ z.length ∧ z.length ≤ 1000 ∧ (timesS z n.toNat).length ≤ sizeLine ∧ Q (.str (timesS z n.toNat)) H) := by
  intro pins s σ H x y v u Q I rx ry h
  obtain ⟨z, n, rfl, rfl, h2, h3, h4, h5, h6, q⟩ := h
  obtain ⟨t, rfl⟩ := rx
  obtain ⟨t', rfl⟩ := ry
  have e1 : (n == 1 || z.length == 0) = false := by
    rw [Bool.or_eq_false_iff]; exact ⟨by simp; omega, by simp; omega⟩
  refine PySem.P.mul_str (by rw [Bool.or_eq_false_iff]; exact ⟨by simp; omega, by simp; omega⟩) (fun _ _ => ?_) (fun _ _ => ?_) ?_
  · have : (9223372036854775807 : Int) / 1000 ≤ (2 ^ 63 - 1) / n := by
      apply Int.le_ediv_of_mul_le (by omega)
      have : (9223372036854775807 : Int) / 1000 * n ≤ 9223372036854775807 / 1000 * 1000 := Int.mul_le_mul_of_nonneg_left h3 (by decide)
      omega
    omega
  · have h7 : z.length * n.toNat ≤ 1000 * 1000 := Nat.mul_le_mul h5 (by omega)
    unfold Builtin.Str.tooLong
    simp only [decide_eq_false_iff_not]
    rw [sizeLine_eq]; omega
  · rw [if_neg (by omega), e1, if_neg Bool.false_ne_true]
    exact ⟨h6, .str _, H, I.tok _, ⟨_, rfl⟩, q⟩
theorem do_mulS : DOp X .cl (binaryOp .Mult) oMulS :=
  ⟨⟨_, op_mulS, fun S H dx dy vx vy q Q rx ry ⟨z, n, ex, ey, h2, h3, h4, h5, h6, hq⟩ k => by
    subst ex ey
    simp only [Rep] at rx ry
    exact ⟨z, n, rx, ry, h2, h3, h4, h5, h6, k _ H _ [] (.refl _) ⟨rfl, by simp only [Rep]⟩ hq⟩⟩⟩

def fText (i : Int) (c z : Str) : Str := ((Str.empty ++ Str.ofString (toString i)) ++ c) ++ z
def tF3 (c : Str) (ta tb : TE) : TE := fun σ H Q => ta σ H fun x H1 => ∃ i : Int, x = .int i ∧ i.natAbs.log2 < 1920 ∧ ((Str.empty ++ Str.ofString (toString i)) ++ c).length ≤ sizeLine ∧ tb σ H1 fun y H2 => ∃ z : Str, y = .str z ∧ (fText i c z).length ≤ sizeLine ∧ Q (.str (fText i c z)) H2
theorem pe_f3 {ta tb : TE} {c : Str} {k : Nat} {p1 p2 p3 : Pos} (ha : PE X a ta) (hb : PE X b tb) : PE X (.JoinedStr [.FormattedValue a (-1) none p1, .Constant (.str c) k p2, .FormattedValue b (-1) none p3] pos) (tF3 c ta tb) := by
  intro pins s σ H Q I h
  have le : ∀ (x y : Str), x.length ≤ (x ++ y).length := fun x y => by rw [strLen_append]; omega
  have le2 : ∀ (x y : Str), y.length ≤ (x ++ y).length := fun x y => by rw [strLen_append]; omega
  refine JoinedStr_many (joinParts_cons (FormattedValue_plain (thn (ha pins s σ H _ I h) fun u s1 ⟨x, H1, I1, r1, i, ex, hi, hc, q1⟩ => ?_)))
  subst ex
  obtain ⟨t, rfl⟩ := r1
  refine formatField_int_small hi (And.intro (Nat.le_trans (le _ _) hc) ?_)
  refine joinParts_cons (Calls.Constant_str (And.intro hc ?_))
  refine joinParts_consE (joinParts_cons (FormattedValue_plain (thn (hb pins _ σ H1 _ (I1.tok _) q1) fun u2 s2 ⟨y, H2, I2, r2, z, ey, hz, q2⟩ => ?_)))
  subst ey
  obtain ⟨t2, rfl⟩ := r2
  refine formatField_str (fun t' tk => And.intro hz ?_) (Nat.le_trans (le2 _ _) hz)
  exact joinParts_nilE (joinParts_nil ⟨.str _, H2, I2.tok _, ⟨_, rfl⟩, q2⟩ hz)
def eF3 (c : Str) (Ea Eb : DTE) : DTE := fun ρ q => Ea ρ fun x ρ1 => ∃ i : Int, x = .int i ∧ i.natAbs.log2 < 1920 ∧ ((Str.empty ++ Str.ofString (toString i)) ++ c).length ≤ sizeLine ∧ Eb ρ1 fun y ρ2 => ∃ z : Str, y = .str z ∧ (fText i c z).length ≤ sizeLine ∧ q (.str (fText i c z)) ρ2
theorem dF3 {c : Str} {k : Nat} {p1 p2 p3 : Pos} (ha : DE X κ pu .cl a Ea) (hb : DE X κ pu .cl b Eb) : DE X κ pu .cl (.JoinedStr [.FormattedValue a (-1) none p1, .Constant (.str c) k p2, .FormattedValue b (-1) none p3] pos) (eF3 c Ea Eb) := by
  refine and2 (P := fun p => DE X κ p .cl _ _) ⟨(pe_f3 ha.h hb.h).weak fun σ H Q ⟨G, O, ρ, q, hE, hq, k⟩ => ⟨G, O, ρ, _, hE, hq, fun v H1 d ρ1 O1 fp s1 e1 vo w1 ⟨i, ed, h1, h2, hq1⟩ => ?_⟩⟩
  subst ed
  refine ⟨i, by simpa only [Rep] using vo.2, h1, h2, G, O1, ρ1, _, e1.drop, hq1, fun v2 H2 d2 ρ2 O2 fp2 s2 e2 vo2 w2 ⟨z, ed2, h3, hq2⟩ => ?_⟩
  subst ed2
  exact ⟨z, by simpa only [Rep] using vo2.2, h3, k _ H2 _ ρ2 O2 [] (s1.trans s2) (by rw [plus_nil]; exact e2.drop) ⟨rfl, by simp only [Rep]⟩ (w1.and w2) hq2⟩
end

section
variable {K : PySem.W.Frag} {κ : List SK} {G : G0} {O : Addr → Prop} {ρ : EnvD} {σ : St} {H : Hp}
theorem EnvOk.clr2 {i : Nat} {l : List D} (h : EnvOk K κ G O ρ σ H) (hd : dep (kd κ i) = some 2) (e : ρ[i]? = some (some (.lst l))) : ∃ a vs O', σ[i]? = some (some (.ref a)) ∧ H a = some (.lst vs) ∧ EnvOk K κ G O' (kl κ (ρ.set i (some (.lst [])))) σ (upd H a (.lst [])) := by
  obtain ⟨F, f⟩ := id h
  obtain ⟨v, h1, h2⟩ := slot_own f hd e
  unfold Own at h2
  obtain ⟨a, fps, rfl, hF, h2⟩ := h2
  rcases h2 with ⟨l', vs, ee, hH, n1, n2, n3⟩ | ⟨_, _, _, ee, _⟩ | ⟨_, _, _, ee, _⟩
  · cases ee
    have ina : a ∈ F i := by rw [hF]; simp
    have q := EnvF.chg (H' := upd H a (.lst [])) (f' := [a]) (fp := []) (d' := .lst []) (v := .ref a) f hd (fun c o nc ec => by
        have hne : c ≠ a := by rintro rfl; exact nc ina
        rw [upd_ne hne]; exact ec) (fun c ec => by
        by_cases hc : c = a
        · rw [hc, upd_same]; simp
        · rw [upd_ne hc]; exact ec) (by simp) (fun c hc => by
        obtain rfl : c = a := by simpa using hc
        exact ⟨.inl ina, _, upd_same, trivial⟩) (fun c hc => absurd hc (by simp)) h1 (by
        unfold Own
        exact ⟨a, [], rfl, rfl, .inl ⟨[], [], rfl, upd_same, rfl, rfl, fun j fj x u e1 => by simp at e1⟩⟩)
    have q1 := q.1
    rw [plus_nil] at q1
    exact ⟨a, vs, _, h1, hH, _, q1⟩
  · cases ee
  · cases ee
theorem EnvOk.off {j : Nat} {v : V} (h : EnvOk K κ G O ρ σ H) (hk : kd κ j = .cl) (hn : ∀ d, ρ[j]? ≠ some (some d)) : EnvOk K κ G O ρ (σ.set j (some v)) H := by
  obtain ⟨F, f⟩ := h
  refine ⟨F, by simp [f.len], f.own, f.non, f.dis, f.nd, f.mu, f.new, fun k n e => ?_, f.gh, f.s0, f.keep, f.dom, fun k d' e => ?_⟩
  · have hki : k ≠ j := by rintro rfl; rw [hk] at e; cases e
    rw [setSt hki]; exact f.par k n e
  · have hki : k ≠ j := by rintro rfl; exact hn _ e
    obtain ⟨w, e1, e2⟩ := f.slot k d' e
    exact ⟨w, by rw [setSt hki]; exact e1, e2⟩
theorem EnvOk.forget {j : Nat} (h : EnvOk K κ G O ρ σ H) : EnvOk K κ G O (ρ.set j none) σ H := by
  obtain ⟨F, f⟩ := h
  refine ⟨F, by simp [f.len], f.own, f.non, f.dis, f.nd, f.mu, f.new, f.par, f.gh, f.s0, f.keep, f.dom, fun k d' e => ?_⟩
  by_cases hki : k = j
  · subst hki
    have hl : k < ρ.length := by
      have := (List.getElem?_eq_some_iff.mp e).1
      simpa using this
    rw [List.getElem?_set_self hl] at e
    cases e
  · rw [List.getElem?_set_ne (Ne.symm hki)] at e
    exact f.slot k d' e
end
section
variable {X : Cx} {κ : List SK} {md : SK} {apos cpos pos epos p px pl : Pos} {x y : Str} {i j : Nat}
theorem kl_none (hlo : κ.contains .lo = false) (ρ : EnvD) : kl κ ρ = ρ := by unfold kl; rw [hlo, if_neg Bool.false_ne_true]
theorem dclear2 (hs : swapsWith (.Call (.Attribute (.Name x p) "clear" apos) [] [] cpos) none pos.line X.env = pure false) (hline : (apos.endLine == cpos.line) = true) (hbase : attributeBase (.Name x p) "clear" X.env (eval (.Name x p) X.env) = eval (.Name x p) X.env)
    (hN : X.N[i]? = some x) (hv : Vis X.env.scope x) (hd : (x == ("__debug__" : Str)) = false) (hcd : (x == ("__classdict__" : Str)) = false) (hk : dep (kd κ i) = some 2) : DS X κ md (.Expr (.Call (.Attribute (.Name x p) "clear" apos) [] [] cpos) pos) (sClr κ i) := by
  refine ⟨(ps_expr (pe_bm0 PySem.F.plainAttrs_list PySem.F.slot_list_clear PySem.F.type_list_clear mt_clear (pe_var hN hv hd hcd) hbase hline) hs).weak fun Dn σ H ⟨G, O, ρ, De, hE, ⟨⟨l, e0⟩, hT⟩, nx, bk, ct, rt⟩ => ?_⟩
  obtain ⟨a, vs, O', h1, h2, h4⟩ := hE.clr2 hk e0
  exact ⟨.ref a, h1, .inl ⟨rfl, vs, .inl (.inl h2)⟩, a, vs, rfl, rfl, h2, nx σ _ _ O' h4 hT⟩
def sClrA (i j : Nat) : DTS := fun De ρ => ∃ ls : List (List D), j < ρ.length ∧ ρ[i]? = some (some (.lst (ls.map D.lst))) ∧ De.nx ((ρ.set j none).set i (some (.lst ((List.replicate ls.length ([] : List D)).map D.lst))))
theorem set_same {α : Type} {l : List α} {k : Nat} {z : α} (h : l[k]? = some z) : l.set k z = l := by
  apply List.ext_getElem?
  intro n
  by_cases e : k = n
  · subst e; rw [List.getElem?_set_self (List.getElem?_eq_some_iff.mp h).1, h]
  · rw [List.getElem?_set_ne e]
theorem dclrA (hij : i ≠ j) (hlo : κ.contains .lo = false) (hfs : ∀ z, foldedSetIterable (.Name x px) X.env z = pure z) (hp : PassesOwn (model X.prog X.w) X.A X.env X.xe) (hc : X.calm = true)
    (hs : swapsWith (.Call (.Attribute (.Name y p) "clear" apos) [] [] cpos) none epos.line X.env = pure false) (hline : (apos.endLine == cpos.line) = true) (hbase : attributeBase (.Name y p) "clear" X.env (eval (.Name y p) X.env) = eval (.Name y p) X.env)
    (hN : X.N.Nodup) (hNi : X.N[i]? = some x) (hvi : Vis X.env.scope x) (hdi : (x == ("__debug__" : Str)) = false) (hci : (x == ("__classdict__" : Str)) = false)
    (hNj : X.N[j]? = some y) (hvj : Vis X.env.scope y) (hdj : (y == ("__debug__" : Str)) = false) (hcj : (y == ("__classdict__" : Str)) = false) (hx : Loc X.env.scope y) (hf : X.fn y = true ∨ X.env.scope.names.lookup y = some .local)
    (hk : dep (kd κ i) = some 2) (hkj : kd κ j = .cl) :
    DS X κ md (.For (.Name y pl) (.Name x px) [.Expr (.Call (.Attribute (.Name y p) "clear" apos) [] [] cpos) epos] [] pos) (sClrA i j) := by
  refine ⟨(ps_for hp hc (pi_list (pe_var hNi hvi hdi hci)) (pg_name hN hNj hx hf) (pss_one (ps_expr (pe_bm0 PySem.F.plainAttrs_list PySem.F.slot_list_clear PySem.F.type_list_clear mt_clear (pe_var hNj hvj hdj hcj) hbase hline) hs)) hfs).weak fun Dn σ H ⟨G, O, ρ, De, hE, ⟨ls, hjr, e0, hq⟩, nx, bk, ct, rt⟩ => ?_⟩
  obtain ⟨a, vs, h1, h2, hn, _⟩ := hE.chg2 hk e0
  rw [List.length_map] at hn
  have e1 : (ρ.set j none)[i]? = some (some (.lst (ls.map D.lst))) := by rw [List.getElem?_set_ne (Ne.symm hij)]; exact e0
  refine ⟨.ref a, h1, a, rfl, ⟨vs, .inl (.inl h2)⟩, fun t m σ' H' => ∃ (O' : Addr → Prop) (l : List (List D)), EnvOk X.K κ G O' ((ρ.set j none).set i (some (.lst (l.map D.lst)))) σ' H' ∧ l.length = ls.length ∧ (∀ k, k < t → l[k]? = some []) ∧ t + m = ls.length ∧ σ'[i]? = some (some (.ref a)),
    ⟨ls.length, O, ls, by rw [set_same e1]; exact hE.forget, rfl, fun k z => absurd z (Nat.not_lt_zero k), by omega, h1⟩, ?_⟩
  rintro t m σ' H' ⟨O', l, hE', hl, hz, htm, hsi⟩
  have hil : i < (ρ.set j none).length := (List.getElem?_eq_some_iff.mp e1).1
  have e2 : ((ρ.set j none).set i (some (.lst (l.map D.lst))))[i]? = some (some (.lst (l.map D.lst))) := List.getElem?_set_self hil
  obtain ⟨a', vs', g1, g2, g3, g4⟩ := hE'.chg2 hk e2
  rw [hsi] at g1
  cases g1
  rw [List.length_map] at g3
  by_cases hm : m = 0
  · subst hm
    refine .inl ⟨⟨vs', .inl (.inl g2), by omega⟩, nx σ' H' _ O' hE' ?_⟩
    have el : l = List.replicate ls.length [] := by
      apply List.ext_getElem?
      intro k
      by_cases hk' : k < ls.length
      · rw [hz k (by omega), List.getElem?_replicate, if_pos hk']
      · rw [List.getElem?_eq_none (by omega), List.getElem?_eq_none (by simp; omega)]
    rw [el]; exact hq
  · have ht : t < l.length := by omega
    have elt : (l.map D.lst)[t]? = some (.lst l[t]) := by rw [List.getElem?_map, List.getElem?_eq_getElem ht]; rfl
    obtain ⟨b0, ws0, k1, k2, _⟩ := g4 t _ elt
    refine .inr ⟨⟨vs', _, .inl (.inl g2), k1⟩, fun σ2 H2 => ∃ (O' : Addr → Prop) (l : List (List D)), EnvOk X.K κ G O' ((ρ.set j none).set i (some (.lst (l.map D.lst)))) σ2 H2 ∧ l.length = ls.length ∧ (∀ k, k < t + 1 → l[k]? = some []) ∧ t + 1 + (m - 1) = ls.length ∧ σ2[i]? = some (some (.ref a)), fun σ2 H2 h => ⟨m - 1, by omega, h⟩, ?_⟩
    rintro z H2 ⟨rfl, hy⟩
    have ez : z = .ref b0 := by
      have := hy vs' (.inl (.inl g2))
      rw [k1] at this
      exact (Option.some.inj this).symm
    subst ez
    have hE2 : EnvOk X.K κ G O' ((ρ.set j none).set i (some (.lst (l.map D.lst)))) (σ'.set j (some (.ref b0))) H2 := hE'.off hkj fun d e => by
      rw [List.getElem?_set_ne hij] at e
      by_cases hj : j < ρ.length
      · rw [List.getElem?_set_self hj] at e; cases e
      · rw [List.getElem?_eq_none (by simp; omega)] at e; cases e
    obtain ⟨a2, vs2, c1, c2, c3, c4⟩ := hE2.chg2 hk e2
    have c1' : (σ'.set j (some (V.ref b0)))[i]? = some (some (.ref a)) := by rw [List.getElem?_set_ne (Ne.symm hij)]; exact hsi
    rw [c1'] at c1
    cases c1
    rw [g2] at c2
    cases c2
    obtain ⟨b, ws, d1, d2, d3, d4, d5⟩ := c4 t _ elt
    rw [k1] at d1
    cases d1
    obtain ⟨d6, _⟩ := d5 [] [] (by simp only [Reps])
    rw [kl_none hlo, List.set_set] at d6
    have hjl : j < σ'.length := by
      obtain ⟨F, f⟩ := id hE'
      have := f.len
      simp only [List.length_set] at this
      omega
    refine ⟨.ref b0, List.getElem?_set_self hjl, .inl ⟨rfl, ws, .inl (.inl d2)⟩, b0, ws, rfl, rfl, d2, O', l.set t [], ?_, by rw [List.length_set]; exact hl, fun k hk' => ?_, by omega, c1'⟩
    · rw [List.map_set]; exact d6
    · by_cases hkt : k = t
      · subst hkt; exact List.getElem?_set_self ht
      · rw [List.getElem?_set_ne (Ne.symm hkt)]; exact hz k (by omega)
end
end L2

set_option maxHeartbeats 4000000
namespace Rc
open PySem L2
def top (i : Nat) : Stmt := PySem.Challenge.pw_ribboncast_k74_galleys_written.main.body.getD i (.Pass ⟨0, 0, 0, 0⟩)
abbrev s_slashed : Stmt := top 5
abbrev s_piece_shown : Stmt := top 6
abbrev s_line_shown : Stmt := top 7
abbrev s_galley_shown : Stmt := top 8
abbrev s_d_law_cell : Stmt := top 10
abbrev s_d_law_bag : Stmt := top 11
abbrev s_d_law_take : Stmt := top 12
abbrev s_d_law_figures : Stmt := top 13
abbrev s_d_law_written : Stmt := top 14
abbrev s_d_law_galley : Stmt := top 15
abbrev s_law : Stmt := top 16
structure Adr where
  f_slashed : Addr
  d_slashed : FuncData
  f_piece_shown : Addr
  d_piece_shown : FuncData
  f_line_shown : Addr
  d_line_shown : FuncData
  f_galley_shown : Addr
  d_galley_shown : FuncData
  f_d_law_cell : Addr
  d_d_law_cell : FuncData
  f_d_law_bag : Addr
  d_d_law_bag : FuncData
  f_d_law_take : Addr
  d_d_law_take : FuncData
  f_d_law_figures : Addr
  d_d_law_figures : FuncData
  f_d_law_written : Addr
  d_d_law_written : FuncData
  f_d_law_galley : Addr
  d_d_law_galley : FuncData
  f_law : Addr
  d_law : FuncData
structure Txt (K : PySem.W.Frag) (mg : Str → Option Value) (t : Adr) : Prop where
  F_slashed : Fun K "slashed" "slashed" s_slashed t.f_slashed t.d_slashed
  m_slashed : mg "slashed" = some (.ref t.f_slashed)
  k_slashed : PySem.W.keepIn K (.ref t.f_slashed) = true
  b_slashed : Binds K t.d_slashed ["texts"] []
  F_piece_shown : Fun K "piece_shown" "piece_shown" s_piece_shown t.f_piece_shown t.d_piece_shown
  m_piece_shown : mg "piece_shown" = some (.ref t.f_piece_shown)
  k_piece_shown : PySem.W.keepIn K (.ref t.f_piece_shown) = true
  b_piece_shown : Binds K t.d_piece_shown ["piece"] []
  F_line_shown : Fun K "line_shown" "line_shown" s_line_shown t.f_line_shown t.d_line_shown
  m_line_shown : mg "line_shown" = some (.ref t.f_line_shown)
  k_line_shown : PySem.W.keepIn K (.ref t.f_line_shown) = true
  b_line_shown : Binds K t.d_line_shown ["line"] []
  F_galley_shown : Fun K "galley_shown" "galley_shown" s_galley_shown t.f_galley_shown t.d_galley_shown
  m_galley_shown : mg "galley_shown" = some (.ref t.f_galley_shown)
  k_galley_shown : PySem.W.keepIn K (.ref t.f_galley_shown) = true
  b_galley_shown : Binds K t.d_galley_shown ["galley"] []
  F_d_law_cell : Fun K "_law_cell" "_law_cell" s_d_law_cell t.f_d_law_cell t.d_d_law_cell
  m_d_law_cell : mg "_law_cell" = some (.ref t.f_d_law_cell)
  k_d_law_cell : PySem.W.keepIn K (.ref t.f_d_law_cell) = true
  b_d_law_cell : Binds K t.d_d_law_cell ["_law_script", "_law_k"] []
  F_d_law_bag : Fun K "_law_bag" "_law_bag" s_d_law_bag t.f_d_law_bag t.d_d_law_bag
  m_d_law_bag : mg "_law_bag" = some (.ref t.f_d_law_bag)
  k_d_law_bag : PySem.W.keepIn K (.ref t.f_d_law_bag) = true
  b_d_law_bag : Binds K t.d_d_law_bag ["_law_script", "_law_at"] []
  F_d_law_take : Fun K "_law_take" "_law_take" s_d_law_take t.f_d_law_take t.d_d_law_take
  m_d_law_take : mg "_law_take" = some (.ref t.f_d_law_take)
  k_d_law_take : PySem.W.keepIn K (.ref t.f_d_law_take) = true
  b_d_law_take : Binds K t.d_d_law_take ["_law_bag_here", "_law_many"] []
  F_d_law_figures : Fun K "_law_figures" "_law_figures" s_d_law_figures t.f_d_law_figures t.d_d_law_figures
  m_d_law_figures : mg "_law_figures" = some (.ref t.f_d_law_figures)
  k_d_law_figures : PySem.W.keepIn K (.ref t.f_d_law_figures) = true
  b_d_law_figures : Binds K t.d_d_law_figures ["_law_number"] []
  F_d_law_written : Fun K "_law_written" "_law_written" s_d_law_written t.f_d_law_written t.d_d_law_written
  m_d_law_written : mg "_law_written" = some (.ref t.f_d_law_written)
  k_d_law_written : PySem.W.keepIn K (.ref t.f_d_law_written) = true
  b_d_law_written : Binds K t.d_d_law_written ["_law_galley_here"] []
  F_d_law_galley : Fun K "_law_galley" "_law_galley" s_d_law_galley t.f_d_law_galley t.d_d_law_galley
  m_d_law_galley : mg "_law_galley" = some (.ref t.f_d_law_galley)
  k_d_law_galley : PySem.W.keepIn K (.ref t.f_d_law_galley) = true
  b_d_law_galley : Binds K t.d_d_law_galley ["_law_bag_here"] []
  F_law : Fun K "law" "law" s_law t.f_law t.d_law
  m_law : mg "law" = some (.ref t.f_law)
  k_law : PySem.W.keepIn K (.ref t.f_law) = true
  b_law : Binds K t.d_law ["_law_script"] []
  n_abs : mg "abs" = none
  n_isinstance : mg "isinstance" = none
  n_len : mg "len" = none
  n_list : mg "list" = none
  n_max : mg "max" = none
  n_min : mg "min" = none
  n_range : mg "range" = none
  n_str : mg "str" = none
  c_BLANK : ∃ tk, mg "BLANK" = some (.str " " tk)
  c_EMPTY : ∃ tk, mg "EMPTY" = some (.str "-" tk)
  c_NOTHING : ∃ tk, mg "NOTHING" = some (.str "none" tk)
  c_SHOWN_BLANK : ∃ tk, mg "SHOWN_BLANK" = some (.str "_" tk)
theorem sc_slashed : FnScope ["texts"] ["texts"] (defScope s_slashed) := ⟨rfl, rfl, rfl, by decide +kernel, rfl, by decide +kernel, by decide +kernel⟩
def κ_slashed : List SK := [SK.cl]
theorem kl_slashed (ρ : EnvD) : kl κ_slashed ρ = ρ := rfl
theorem sc_piece_shown : FnScope ["piece", "name", "width", "shown"] ["piece"] (defScope s_piece_shown) := ⟨rfl, rfl, rfl, by decide +kernel, rfl, by decide +kernel, by decide +kernel⟩
def κ_piece_shown : List SK := [SK.cl, SK.cl, SK.cl, SK.cl]
theorem kl_piece_shown (ρ : EnvD) : kl κ_piece_shown ρ = ρ := rfl
theorem sc_line_shown : FnScope ["line"] ["line"] (defScope s_line_shown) := ⟨rfl, rfl, rfl, by decide +kernel, rfl, by decide +kernel, by decide +kernel⟩
def κ_line_shown : List SK := [SK.cl]
theorem kl_line_shown (ρ : EnvD) : kl κ_line_shown ρ = ρ := rfl
theorem sc_galley_shown : FnScope ["galley"] ["galley"] (defScope s_galley_shown) := ⟨rfl, rfl, rfl, by decide +kernel, rfl, by decide +kernel, by decide +kernel⟩
def κ_galley_shown : List SK := [SK.cl]
theorem kl_galley_shown (ρ : EnvD) : kl κ_galley_shown ρ = ρ := rfl
theorem sc_d_law_cell : FnScope ["_law_script", "_law_k"] ["_law_script", "_law_k"] (defScope s_d_law_cell) := ⟨rfl, rfl, rfl, by decide +kernel, rfl, by decide +kernel, by decide +kernel⟩
def κ_d_law_cell : List SK := [SK.cl, SK.cl]
theorem kl_d_law_cell (ρ : EnvD) : kl κ_d_law_cell ρ = ρ := rfl
theorem sc_d_law_bag : FnScope ["_law_script", "_law_at", "_law_cell_here", "_law_mix", "_law_k"] ["_law_script", "_law_at"] (defScope s_d_law_bag) := ⟨rfl, rfl, rfl, by decide +kernel, rfl, by decide +kernel, by decide +kernel⟩
def κ_d_law_bag : List SK := [SK.cl, SK.cl, SK.cl, SK.cl, SK.cl]
theorem kl_d_law_bag (ρ : EnvD) : kl κ_d_law_bag ρ = ρ := rfl
theorem sc_d_law_take : FnScope ["_law_bag_here", "_law_many", "_law_digit"] ["_law_bag_here", "_law_many"] (defScope s_d_law_take) := ⟨rfl, rfl, rfl, by decide +kernel, rfl, by decide +kernel, by decide +kernel⟩
def κ_d_law_take : List SK := [SK.io 1, SK.cl, SK.cl]
theorem kl_d_law_take (ρ : EnvD) : kl κ_d_law_take ρ = ρ := rfl
theorem sc_d_law_figures : FnScope ["_law_number", "_law_text"] ["_law_number"] (defScope s_d_law_figures) := ⟨rfl, rfl, rfl, by decide +kernel, rfl, by decide +kernel, by decide +kernel⟩
def κ_d_law_figures : List SK := [SK.cl, SK.cl]
theorem kl_d_law_figures (ρ : EnvD) : kl κ_d_law_figures ρ = ρ := rfl
theorem sc_d_law_written : FnScope ["_law_galley_here", "_law_rows", "_law_line", "_law_words"] ["_law_galley_here"] (defScope s_d_law_written) := ⟨rfl, rfl, rfl, by decide +kernel, rfl, by decide +kernel, by decide +kernel⟩
def κ_d_law_written : List SK := [SK.cl, SK.ow 1, SK.cl, SK.cl]
theorem kl_d_law_written (ρ : EnvD) : kl κ_d_law_written ρ = ρ := rfl
theorem sc_d_law_galley : FnScope ["_law_bag_here", "_law_letters", "_law_wide", "_law_found", "_law_k", "_law_line", "_law_turn", "_law_first", "_law_size", "_law_name"] ["_law_bag_here"] (defScope s_d_law_galley) := ⟨rfl, rfl, rfl, by decide +kernel, rfl, by decide +kernel, by decide +kernel⟩
def κ_d_law_galley : List SK := [SK.io 1, SK.cl, SK.cl, SK.ow 1, SK.cl, SK.ow 1, SK.cl, SK.cl, SK.cl, SK.cl]
theorem kl_d_law_galley (ρ : EnvD) : kl κ_d_law_galley ρ = ρ := rfl
theorem sc_law : FnScope ["_law_script", "_law_k", "_law_galley_here", "_law_handed", "_law_text", "_law_line"] ["_law_script"] (defScope s_law) := ⟨rfl, rfl, rfl, by decide +kernel, rfl, by decide +kernel, by decide +kernel⟩
def κ_law : List SK := [SK.cl, SK.cl, SK.cl, SK.ow 2, SK.cl, SK.cl]
theorem kl_law (ρ : EnvD) : kl κ_law ρ = ρ := rfl
def BagOk (m c : Int) : Prop := 0 ≤ m ∧ 0 ≤ c ∧ (c = 0 ∨ m < 2147483647)
def sd_d_law_cell : List D → (D → Prop) → Prop := fun ds q => ∃ ns k, ds = [.scr ns, .int k] ∧ 0 ≤ k ∧ ∀ n, q (.int n)
def sd_d_law_bag : List D → (D → Prop) → Prop := fun ds q => ∃ ns k, ds = [.scr ns, .int k] ∧ 0 ≤ k ∧ k ≤ 1000 ∧ ∀ m c, BagOk m c → q (.lst [.int m, .int c])
def sd_d_law_take : List D → (D → D → Prop) → Prop := fun ds q => ∃ m c n, ds = [.lst [.int m, .int c], .int n] ∧ BagOk m c ∧ 0 < n ∧ n.natAbs.log2 < 9000 ∧ ∀ r m' c', 0 ≤ r → r < n → BagOk m' c' → q (.int r) (.lst [.int m', .int c'])
/-! galleys -/
abbrev Piece := Str × Int
def pieceD (p : Piece) : D := .tup [.str p.1, .int p.2]
def lineD (l : List Piece) : D := .lst (l.map pieceD)
def galD (g : List (List Piece)) : D := .lst (g.map lineD)
def PieceOk (p : Piece) : Prop := p.1.length ≤ 3 ∧ 0 ≤ p.2 ∧ p.2 < 1000000000000
def LineOk (l : List Piece) : Prop := l.length ≤ 12 ∧ ∀ p ∈ l, PieceOk p
def GalOk (g : List (List Piece)) : Prop := g.length ≤ 8 ∧ ∀ l ∈ g, LineOk l
def figT (n : Int) : Str := Str.ofString (toString n)
def nameT (z : Str) : Str := if z = " " then "_" else z
def shownP (p : Piece) : Str := figT p.2 ++ ":" ++ nameT p.1
def lineT (l : List Piece) : Str := if l.isEmpty then "-" else Txt.join " " (l.map shownP)
def galT (g : List (List Piece)) : Str := if g.isEmpty then "none" else Txt.join "/" (g.map lineT)
def sd_slashed : List D → (D → Prop) → Prop := fun ds q => ∃ g, ds = [.lst ((g.map lineT).map D.str)] ∧ GalOk g ∧ q (.str (galT g))
def sd_piece_shown : List D → (D → Prop) → Prop := fun ds q => ∃ p, ds = [pieceD p] ∧ PieceOk p ∧ q (.str (shownP p))
def sd_line_shown : List D → (D → Prop) → Prop := fun ds q => ∃ l, ds = [lineD l] ∧ LineOk l ∧ q (.str (lineT l))
def sd_galley_shown : List D → (D → Prop) → Prop := fun ds q => ∃ g, ds = [galD g] ∧ GalOk g ∧ q (.str (galT g))
def sd_d_law_figures : List D → (D → Prop) → Prop := fun ds q => ∃ n, ds = [.int n] ∧ 0 ≤ n ∧ n < 1000000000000 ∧ q (.str (figT n))
def sd_d_law_written : List D → (D → Prop) → Prop := fun ds q => ∃ g, ds = [galD g] ∧ GalOk g ∧ q (.str (galT g))
def sd_d_law_galley : List D → (D → D → Prop) → Prop := fun ds q => ∃ m c, ds = [.lst [.int m, .int c]] ∧ BagOk m c ∧ ∀ g m' c', GalOk g → BagOk m' c' → q (galD g) (.lst [.int m', .int c'])
def B_slashed : DTS := (sSeq (sIf (eNotT (eTru (eVar 0))) (sRet (eC (.str "none"))) sNext)
  (sRet (eJoin (eC (.str "/")) (eVar 0))))
def B_piece_shown : DTS := (sSeq (sAsg (eVar 0) (gdTup 2 (gdCons (gdName 1) (gdCons (gdName 2) gdNil))))
  (sSeq (sSet 3 (eIf (eTest (eOp oEq (eVar 1) (eC (.str " ")))) (eC (.str "_")) (eVar 1)))
  (sRet (eF3 ":" (eVar 2) (eVar 3)))))
def B_line_shown : DTS := (sSeq (sIf (eNotT (eTru (eVar 0))) (sRet (eC (.str "-"))) sNext)
  (sRet (eJoin (eC (.str " ")) (eComp [none] (iL (eVar 0)) (gdName 0) eYes (eCall sd_piece_shown (eLen 1 (eCons (eVar 0) eNil)))))))
def B_galley_shown : DTS := (sRet (eCall sd_slashed (eLen 1 (eCons (eComp [none] (iL (eVar 0)) (gdName 0) eYes (eCall sd_line_shown (eLen 1 (eCons (eVar 0) eNil)))) eNil))))
def B_d_law_cell : DTS := (sSeq (sIf (eTest (eOp oLt (eVar 1) (eCallB cLen (eCons (eVar 0) eNil)))) (sRet (eOp xScr (eVar 0) (eVar 1))) sNext)
  (sRet (eC (.int 0))))
def B_d_law_bag : DTS := (sSeq (sSet 2 (eOp oMod (eCallB cAbs (eCons (eCall sd_d_law_cell (eLen 2 (eCons (eVar 0) (eCons (eVar 1) eNil)))) eNil)) (eOp oMul (eOp oMul (eOp oPow (eC (.int 10)) (eC (.int 60))) (eOp oPow (eC (.int 10)) (eC (.int 60)))) (eOp oPow (eC (.int 10)) (eC (.int 60))))))
  (sSeq (sIf (eTest (eOp oGe (eVar 2) (eOp oPow (eC (.int 10)) (eC (.int 18))))) (sRet (eLst (eCons (eVar 2) (eCons (eC (.int 0)) eNil)))) sNext)
  (sSeq (sSet 3 (eOp oMod (eOp oAdd (eOp oAdd (eVar 2) (eOp oMul (eC (.int 7919)) (eVar 1))) (eC (.int 17))) (eC (.int 2147483647))))
  (sSeq (sFor (iR1 (eCons (eCallB cMin2 (eCons (eCallB cLen (eCons (eVar 0) eNil)) (eCons (eC (.int 9)) eNil))) eNil)) (gdName 4) (sSet 3 (eOp oMod (eOp oAdd (eOp oAdd (eOp oPow (eVar 3) (eC (.int 5))) (eOp oMod (eOp xScr (eVar 0) (eVar 4)) (eC (.int 2147483629)))) (eOp oMul (eC (.int 31)) (eVar 4))) (eC (.int 2147483647)))))
  (sRet (eLst (eCons (eVar 3) (eCons (eC (.int 1)) eNil))))))))
def B_d_law_take : DTS := (sSeq (sIf (eTest (eOp oEq (eOp xL (eVar 0) (eC (.int 1))) (eC (.int 0)))) (sSeq (sSet 2 (eNoL (eOp oMod (eOp xL (eVar 0) (eC (.int 0))) (eVar 1))))
  (sSeq (sStore κ_d_law_take 0 (eC (.int 0)) (eNoL (eOp oFdivB (eOp xL (eVar 0) (eC (.int 0))) (eVar 1))))
  (sRet (eVar 2)))) sNext)
  (sSeq (sStore κ_d_law_take 0 (eC (.int 0)) (eNoL (eOp oMod (eOp oAdd (eOp oAdd (eOp oPow (eOp xL (eVar 0) (eC (.int 0))) (eC (.int 5))) (eOp oMul (eC (.int 48271)) (eOp xL (eVar 0) (eC (.int 1))))) (eC (.int 11))) (eC (.int 2147483647)))))
  (sSeq (sStore κ_d_law_take 0 (eC (.int 1)) (eNoL (eOp oAdd (eOp xL (eVar 0) (eC (.int 1))) (eC (.int 1)))))
  (sRet (eNoL (eOp oMod (eOp oFdiv (eOp oMod (eOp oMul (eOp xL (eVar 0) (eC (.int 0))) (eC (.int 69621))) (eC (.int 2147483629))) (eC (.int 8))) (eVar 1)))))))
def B_d_law_figures : DTS := (sSeq (sSet 1 (eOp xS (eC (.str "0123456789")) (eOp oMod (eVar 0) (eC (.int 10)))))
  (sSeq (sWhile (eTest (eOp oGt (eVar 0) (eC (.int 9)))) (sSeq (sSet 0 (eOp oFdiv (eVar 0) (eC (.int 10))))
  (sSet 1 (eOp oAdds (eOp xS (eC (.str "0123456789")) (eOp oMod (eVar 0) (eC (.int 10)))) (eVar 1)))))
  (sRet (eVar 1))))
def B_d_law_written : DTS := (sSeq (sSet 1 (eLst eNil))
  (sSeq (sFor (iL (eVar 0)) (gdName 2) (sSeq (sSet 3 (eComp [none, none] (iL (eVar 2)) (gdTup 2 (gdCons (gdName 0) (gdCons (gdName 1) gdNil))) eYes (eOp oAdds (eOp oAdds (eCall sd_d_law_figures (eLen 1 (eCons (eVar 1) eNil))) (eC (.str ":"))) (eIf (eTest (eOp oNe (eVar 0) (eC (.str " ")))) (eVar 0) (eC (.str "_"))))))
  (sMut κ_d_law_written 1 (eIf (eTest (eOp oGt (eCallB cLen (eCons (eVar 3) eNil)) (eC (.int 0)))) (eJoin (eC (.str " ")) (eVar 3)) (eC (.str "-"))) fAppend)))
  (sRet (eIf (eTest (eOp oGt (eCallB cLen (eCons (eVar 1) eNil)) (eC (.int 0)))) (eJoin (eC (.str "/")) (eVar 1)) (eC (.str "none"))))))
def B_d_law_galley : DTS := (sSeq (sSet 1 (eC (.str "abcdefghijklmnopqrstuvwxyz")))
  (sSeq (sSet 2 (eOp xL (eLst (eCons (eC (.int 10)) (eCons (eC (.int 1000)) (eCons (eOp oPow (eC (.int 10)) (eC (.int 12))) eNil)))) (eCallX κ_d_law_galley 0 2 sd_d_law_take (eHere 0 (eCons (eC (.int 3)) eNil)))))
  (sSeq (sSet 3 (eLst eNil))
  (sSeq (sFor (iR1 (eCons (eCallX κ_d_law_galley 0 2 sd_d_law_take (eHere 0 (eCons (eC (.int 9)) eNil))) eNil)) (gdName 4) (sSeq (sSet 5 (eLst eNil))
  (sSeq (sFor (iR1 (eCons (eCallX κ_d_law_galley 0 2 sd_d_law_take (eHere 0 (eCons (eC (.int 13)) eNil))) eNil)) (gdName 6) (sSeq (sSet 7 (eCallX κ_d_law_galley 0 2 sd_d_law_take (eHere 0 (eCons (eC (.int 26)) eNil))))
  (sSeq (sSet 8 (eCallX κ_d_law_galley 0 2 sd_d_law_take (eHere 0 (eCons (eC (.int 4)) eNil))))
  (sSeq (sSet 9 (eOp xL (eLst (eCons (eC (.str " ")) (eCons (eOp xS (eVar 1) (eVar 7)) (eCons (eOp oAdds (eOp xS (eVar 1) (eVar 7)) (eOp xS (eVar 1) (eOp oSub (eNeg (eC (.int 1))) (eVar 7)))) (eCons (eOp oMulS (eOp xS (eVar 1) (eVar 7)) (eC (.int 3))) eNil))))) (eVar 8)))
  (sMut κ_d_law_galley 5 (eTup (eCons (eVar 9) (eCons (eCallX κ_d_law_galley 0 2 sd_d_law_take (eHere 0 (eCons (eVar 2) eNil))) eNil))) fAppend)))))
  (sMut κ_d_law_galley 3 (eMv 5) fAppend))))
  (sRetO 3)))))
def B_law : DTS := (sSeq (sFor (iR1 (eCons (eCallB cMax2 (eCons (eC (.int 1)) (eCons (eCallB cMin2 (eCons (eC (.int 6)) (eCons (eCallB cLen (eCons (eVar 0) eNil)) eNil))) eNil))) eNil)) (gdName 1) (sSeq (sSet 2 (eCallT 1 sd_d_law_galley (eCall sd_d_law_bag (eLen 2 (eCons (eVar 0) (eCons (eVar 1) eNil)))) eNil))
  (sSeq (sSet 3 (eComp [none] (iL (eVar 2)) (gdName 0) eYes (eCallB cList (eCons (eVar 0) eNil))))
  (sSeq (sSet 4 (eNoL (eCall sd_galley_shown (eLen 1 (eCons (eVar 3) eNil)))))
  (sSeq (sIf (eOrT (eNotT (eTest (eCallB cIsi (eCons (eVar 4) (eCons (eC (.ty "str")) eNil))))) (eOrT (eTest (eOp oNe (eVar 4) (eCall sd_d_law_written (eLen 1 (eCons (eVar 2) eNil))))) (eTest (eOp oNe (eVar 3) (eVar 2))))) (sRet (eC (.bl false))) sNext)
  (sSeq (sClrA 3 5)
  (sSeq (sIf (eTest (eOp oNe (eCall sd_galley_shown (eLen 1 (eCons (eVar 3) eNil))) (eCall sd_d_law_written (eLen 1 (eCons (eComp [none] (iL (eVar 2)) (gdName 0) eYes (eLst eNil)) eNil))))) (sRet (eC (.bl false))) sNext)
  (sSeq (sClr κ_law 3)
  (sIf (eOrT (eTest (eOp oNe (eCall sd_galley_shown (eLen 1 (eCons (eVar 3) eNil))) (eC (.str "none")))) (eTest (eOp oNe (eCall sd_galley_shown (eLen 1 (eCons (eComp [none] (iL (eVar 2)) (gdName 0) eYes (eCallB cList (eCons (eVar 0) eNil))) eNil))) (eVar 4)))) (sRet (eC (.bl false))) sNext)))))))))
  (sRet (eAndV (eOp oEq (eCall sd_galley_shown (eLen 1 (eCons (eLst eNil) eNil))) (eC (.str "none"))) (eOp oEq (eCall sd_galley_shown (eLen 1 (eCons (eLst (eCons (eLst eNil) (eCons (eLst (eCons (eTup (eCons (eC (.str "a")) (eCons (eC (.int 0)) eNil))) (eCons (eTup (eCons (eC (.str " ")) (eCons (eC (.int 12)) eNil))) eNil))) eNil))) eNil))) (eC (.str "-/0:a 12:_"))))))
end Rc

namespace Rc
open PySem L2
section
variable {P : Program} {w : World} {K : PySem.W.Frag} {mg : Str → Option Value} {base : Heap} {t : Adr}
theorem at_scr {ns : List Int} {k : Int} (h0 : 0 ≤ k) (h1 : k < ns.length) : ∃ n, atI ns k = some n := by
  obtain ⟨j, rfl⟩ := Int.eq_ofNat_of_zero_le h0
  have hj : j < ns.length := by omega
  exact ⟨ns[j], atI_nat (List.getElem?_eq_getElem hj)⟩
theorem body_d_law_cell : BodyP B_d_law_cell 2 2 .cl sd_d_law_cell := by
  rintro ds q hl ⟨ns, k, rfl, h0, hq⟩
  refine ⟨_, rfl, _, rfl, .inl ⟨ns, rfl, _, _, rfl, rfl, _, rfl, ?_⟩⟩
  refine ite2 (fun hlt => ?_) (fun _ => hq 0)
  obtain ⟨n, hn⟩ := at_scr h0 (by simpa using hlt)
  exact ⟨_, rfl, _, rfl, _, _, n, rfl, rfl, hn, hq n⟩
theorem ok_d_law_cell (T : Txt K mg t) : FnOk P w K mg base CX0 1 t.f_d_law_cell t.d_d_law_cell ["_law_script", "_law_k"] (spP K 2 .cl sd_d_law_cell) := by
  exact fnP (κ := κ_d_law_cell) (T := B_d_law_cell) T.F_d_law_cell sc_d_law_cell (noIo_of rfl) (cl_of rfl) (.inl rfl)
    (fun cdv A outer s H E hr =>
      (dscons (dif (ftcmpC (nomark _) do_lt (dv 1) (fcbC (by rfl) (by decide) (by decide) (by decide) dc_len (by rfl) T.n_len bt_len (facC rfl (dv 0) fanil))) (dsone (dret (fixC (fun _ _ => rfl) dix_scr (dv 0) (dv 1)))) dsnil)
      (dsone (dret dint)))) body_d_law_cell
theorem mod_mix (x : Int) : 0 ≤ x % 2147483647 ∧ x % 2147483647 < 2147483647 := ⟨Int.emod_nonneg _ (by decide), Int.emod_lt_of_pos _ (by decide)⟩
theorem mod_big (x : Int) : 0 ≤ x % (10 ^ (60 : Int).toNat * 10 ^ (60 : Int).toNat * 10 ^ (60 : Int).toNat) := Int.emod_nonneg _ (by decide +kernel)
theorem mok1 : IntMulOk (10 ^ (60 : Int).toNat) (10 ^ (60 : Int).toNat) := by unfold IntMulOk; decide +kernel
theorem mok2 : IntMulOk (10 ^ (60 : Int).toNat * 10 ^ (60 : Int).toNat) (10 ^ (60 : Int).toNat) := by unfold IntMulOk; decide +kernel
theorem mokL {i j : Int} (h1 : -(2 ^ 64) < i) (h2 : i < 2 ^ 64) : IntMulOk i j := (show CMul i j from .inl ⟨h1, h2⟩).ok
theorem mokR {i j : Int} (h1 : -(2 ^ 64) < j) (h2 : j < 2 ^ 64) : IntMulOk i j := (show CMul i j from .inr ⟨h1, h2⟩).ok
theorem pow10 {i j : Int} (h0 : 0 ≤ j) (h1 : j ≤ 1000000) (h2 : i.natAbs < 2 ^ 64) : CPow i j := ⟨h0, h1, h2⟩
theorem body_d_law_bag : BodyP B_d_law_bag 5 2 (.ow 1) sd_d_law_bag := by
  rintro ds q hl ⟨ns, k, rfl, h0, h1, hq⟩
  refine ⟨_, rfl, _, rfl, rfl, ns, k, rfl, h0, fun n => ⟨n, rfl, ?_⟩⟩
  refine ⟨_, _, rfl, rfl, pow10 (by decide) (by decide) (by decide), _, _, rfl, rfl, pow10 (by decide) (by decide) (by decide), _, _, rfl, rfl, mok1, _, _, rfl, rfl, pow10 (by decide) (by decide) (by decide), _, _, rfl, rfl, mok2, _, _, rfl, rfl, (by show (0 : Int) < _; decide +kernel), ?_⟩
  have hb := mod_big (if n < 0 then -n else n)
  dsimp only
  generalize (if n < 0 then -n else n) % (10 ^ (60 : Int).toNat * 10 ^ (60 : Int).toNat * 10 ^ (60 : Int).toNat) = cell at hb ⊢
  refine ⟨_, rfl, _, _, rfl, rfl, pow10 (by decide) (by decide) (by decide), _, _, rfl, rfl, _, rfl, ite2 (fun hge => ?_) (fun hlt => ?_)⟩
  · exact ⟨_, rfl, small_line (by show 2 ≤ 1000; decide), hq cell 0 ⟨hb, by decide, .inl rfl⟩⟩
  · refine ⟨_, rfl, _, rfl, _, _, rfl, rfl, mokL (by decide) (by decide), _, _, rfl, rfl, _, _, rfl, rfl, _, _, rfl, rfl, (by show (0 : Int) < 2147483647; decide), ?_⟩
    have hm := mod_mix (cell + 7919 * k + 17)
    dsimp only
    generalize (cell + 7919 * k + 17) % 2147483647 = mix at hm ⊢
    refine ⟨_, rfl, .inl ⟨ns, rfl, _, _, rfl, ?_⟩⟩
    have hle : (if (9 : Int) < (ns.length : Int) then (9 : Int) else (ns.length : Int)) ≤ ns.length ∧ 0 ≤ (if (9 : Int) < (ns.length : Int) then (9 : Int) else (ns.length : Int)) ∧ (if (9 : Int) < (ns.length : Int) then (9 : Int) else (ns.length : Int)) ≤ 9 := by
      split <;> omega
    generalize (if (9 : Int) < (ns.length : Int) then (9 : Int) else (ns.length : Int)) = z at hle ⊢
    refine ⟨z, rfl, by omega, by omega, ?_⟩
    refine forI (fun j ρ => ∃ (m : Int) (o : Option D), 0 ≤ m ∧ m < 2147483647 ∧ ρ = [some (.scr ns), some (.int k), some (.int cell), some (.int m), o]) ⟨mix, none, hm.1, hm.2, rfl⟩ ?_ ?_
    · rintro j d ρ hd ⟨m, o, h3, h4, rfl⟩
      have hj : j < z.toNat := by
        have := (List.getElem?_eq_some_iff.mp hd).1
        simpa using this
      rw [List.getElem?_map, List.getElem?_range hj] at hd
      simp only [Option.map_some, Option.some.injEq] at hd
      subst hd
      obtain ⟨y, hy⟩ := at_scr (ns := ns) (k := (j : Int)) (by omega) (by omega)
      refine ⟨_, rfl, _, _, rfl, rfl, pow10 (by decide) (by decide) (by omega), _, rfl, _, rfl, _, _, y, rfl, rfl, hy, _, _, rfl, rfl, (by show (0 : Int) < 2147483629; decide), _, _, rfl, rfl, _, rfl, _, _, rfl, rfl, mokL (by decide) (by decide), _, _, rfl, rfl, _, _, rfl, rfl, (by show (0 : Int) < 2147483647; decide), ?_⟩
      exact ⟨_, _, (mod_mix _).1, (mod_mix _).2, rfl⟩
    · rintro ρ ⟨m, o, h3, h4, rfl⟩
      exact ⟨_, rfl, small_line (by show 2 ≤ 1000; decide), hq m 1 ⟨h3, by decide, .inr h4⟩⟩
theorem ok_d_law_bag (T : Txt K mg t) : FnOk P w K mg base CX0 2 t.f_d_law_bag t.d_d_law_bag ["_law_script", "_law_at"] (spP K 2 (.ow 1) sd_d_law_bag) := by
  have G_d_law_cell := ok_d_law_cell (P := P) (w := w) (base := base) T
  exact fnP (κ := κ_d_law_bag) (T := B_d_law_bag) T.F_d_law_bag sc_d_law_bag (noIo_of rfl) (cl_of rfl) (.inr ⟨_, rfl⟩)
    (fun cdv A outer s H E hr =>
      (dscons (dset (i := 2) (by rfl) (.inl rfl) sc_d_law_bag.nd rfl (Or.inl rfl) rfl (fopC (by decide) do_mod (fcbC (by rfl) (by decide) (by decide) (by decide) dc_abs (by rfl) T.n_abs bt_abs (facC rfl (fclC (by rfl) (by decide) (by decide) G_d_law_cell rfl rfl (hr.mono (by decide)) (by rfl) T.m_d_law_cell T.k_d_law_cell T.b_d_law_cell pass0 (facC rfl (dv 0) (facC rfl (dv 1) fanil))) fanil)) (fopC (by decide) do_mul (fopC (by decide) do_mul (fopC (by decide) do_pow dint dint) (fopC (by decide) do_pow dint dint)) (fopC (by decide) do_pow dint dint))))
      (dscons (dif (ftcmpC (nomark _) do_ge (dv 2) (fopC (by decide) do_pow dint dint)) (dsone (dret (flstC (facC rfl (dv 2) (facC rfl dint fanil))))) dsnil)
      (dscons (dset (i := 3) (by rfl) (.inl rfl) sc_d_law_bag.nd rfl (Or.inl rfl) rfl (fopC (by decide) do_mod (fopC (by decide) do_add (fopC (by decide) do_add (dv 2) (fopC (by decide) do_mul dint (dv 1))) dint) dint))
      (dscons (dfor (by intro _; rfl) PassesOwn.never rfl (diR1 rfl (by rfl) T.n_range (facC rfl (fcbC (by rfl) (by decide) (by decide) (by decide) (dc_min2 rfl) (by rfl) T.n_min bt_min (facC rfl (fcbC (by rfl) (by decide) (by decide) (by decide) dc_len (by rfl) T.n_len bt_len (facC rfl (dv 0) fanil)) (facC rfl dint fanil))) fanil)) (dgname (i := 4) (.inl rfl) sc_d_law_bag.nd rfl (Or.inl rfl) (.inl ⟨rfl, rfl⟩)) (dsone (dset (i := 3) (by rfl) (.inl rfl) sc_d_law_bag.nd rfl (Or.inl rfl) rfl (fopC (by decide) do_mod (fopC (by decide) do_add (fopC (by decide) do_add (fopC (by decide) do_pow (dv 3) dint) (fopC (by decide) do_mod (fixC (fun _ _ => rfl) dix_scr (dv 0) (dv 4)) dint)) (fopC (by decide) do_mul dint (dv 4))) dint))))
      (dsone (dret (flstC (facC rfl (dv 3) (facC rfl dint fanil)))))))))) body_d_law_bag
end
end Rc

namespace Rc
open PySem L2
section
variable {P : Program} {w : World} {K : PySem.W.Frag} {mg : Str → Option Value} {base : Heap} {t : Adr}
theorem at0 {k : D} {r : List D} : atI (k :: r) (0 : Int) = some k := atI_nat (j := 0) rfl
theorem at1 {k k1 : D} {r : List D} : atI (k :: k1 :: r) (1 : Int) = some k1 := atI_nat (j := 1) rfl
theorem body_d_law_take : BodyX B_d_law_take 3 2 0 .cl sd_d_law_take := by
  rintro ds q hl ⟨m, c, n, rfl, ⟨hm, hc, hmc⟩, hn, hn2, hq⟩
  have hn0 : n ≠ 0 := by omega
  refine ⟨_, rfl, _, _, _, rfl, rfl, at1, rfl, rfl, _, rfl, ?_⟩
  refine ite2 (fun h => ?_) (fun h => ?_)
  · have hc0 : c = 0 := by simpa [pyEq] using h
    subst hc0
    refine ⟨_, rfl, _, _, _, rfl, rfl, at0, _, rfl, _, _, rfl, rfl, hn, rfl, ?_⟩
    refine ⟨⟨_, rfl⟩, _, rfl, _, _, _, rfl, rfl, at0, _, rfl, _, _, rfl, rfl, ⟨hn, hn2⟩, rfl, _, _, _, rfl, rfl, rfl, ?_⟩
    refine ⟨_, rfl, _, rfl, hq _ _ _ (Int.emod_nonneg _ hn0) (Int.emod_lt_of_pos _ hn) ⟨Int.ediv_nonneg hm (by omega), Int.le_refl _, .inl rfl⟩⟩
  · have hc0 : c ≠ 0 := by simpa [pyEq] using h
    have hm2 : m < 2147483647 := by omega
    refine ⟨⟨_, rfl⟩, _, rfl, _, _, _, rfl, rfl, at0, _, _, rfl, rfl, pow10 (by decide) (by decide) (by omega), _, rfl, _, _, _, rfl, rfl, at1, _, _, rfl, rfl, mokL (by decide) (by decide), _, _, rfl, rfl, _, _, rfl, rfl, _, _, rfl, rfl, (by show (0 : Int) < 2147483647; decide), rfl, _, _, _, rfl, rfl, rfl, ?_⟩
    have hx := mod_mix (m ^ (5 : Int).toNat + 48271 * c + 11)
    dsimp only
    generalize (m ^ (5 : Int).toNat + 48271 * c + 11) % 2147483647 = x at hx ⊢
    refine ⟨⟨_, rfl⟩, _, rfl, _, _, _, rfl, rfl, at1, _, _, rfl, rfl, rfl, _, _, _, rfl, rfl, rfl, ?_⟩
    refine ⟨_, rfl, _, _, _, rfl, rfl, at0, _, _, rfl, rfl, mokR (by decide) (by decide), _, _, rfl, rfl, (by show (0 : Int) < 2147483629; decide), _, _, rfl, rfl, ⟨by decide, by decide⟩, _, rfl, _, _, rfl, rfl, hn, rfl, ?_⟩
    exact ⟨_, rfl, hq _ _ _ (Int.emod_nonneg _ hn0) (Int.emod_lt_of_pos _ hn) ⟨hx.1, by omega, .inr hx.2⟩⟩
theorem ok_d_law_take (T : Txt K mg t) : FnOk P w K mg base CX0 1 t.f_d_law_take t.d_d_law_take ["_law_bag_here", "_law_many"] (spX K 2 0 1 .cl sd_d_law_take) := by
  exact fnX (κ := κ_d_law_take) (T := B_d_law_take) T.F_d_law_take sc_d_law_take rfl (by decide) (io_of rfl) (clx_of rfl) (.inl rfl)
    (fun cdv A outer s H E hr =>
      (dscons (dif (ftcmpL (nomark _) (do_eq (room12 hr)) (fixL (fun _ _ => rfl) dix_l (dvl 0) (DE.loose dint)) (DE.loose dint)) (dscons (dset (i := 2) (by rfl) (.inl rfl) sc_d_law_take.nd rfl (Or.inl rfl) rfl (DE.nol (fopL (by decide) do_mod (fixL (fun _ _ => rfl) dix_l (dvl 0) (DE.loose dint)) (DE.loose (dv 1)))))
      (dscons (dstore (i := 0) (by rfl) (by rfl) (by rfl) (by intro _; rfl) rfl (by first | exact Or.inl rfl | exact Or.inr (Or.inl rfl) | exact Or.inr (Or.inr rfl)) (by decide) (by decide) rfl (DE.nol (fopL (by decide) do_fdivB (fixL (fun _ _ => rfl) dix_l (dvl 0) (DE.loose dint)) (DE.loose (dv 1)))) dint)
      (dsone (dret (dv 2))))) dsnil)
      (dscons (dstore (i := 0) (by rfl) (by rfl) (by rfl) (by intro _; rfl) rfl (by first | exact Or.inl rfl | exact Or.inr (Or.inl rfl) | exact Or.inr (Or.inr rfl)) (by decide) (by decide) rfl (DE.nol (fopL (by decide) do_mod (fopL (by decide) do_add (fopL (by decide) do_add (fopL (by decide) do_pow (fixL (fun _ _ => rfl) dix_l (dvl 0) (DE.loose dint)) (DE.loose dint)) (fopL (by decide) do_mul (DE.loose dint) (fixL (fun _ _ => rfl) dix_l (dvl 0) (DE.loose dint)))) (DE.loose dint)) (DE.loose dint))) dint)
      (dscons (dstore (i := 0) (by rfl) (by rfl) (by rfl) (by intro _; rfl) rfl (by first | exact Or.inl rfl | exact Or.inr (Or.inl rfl) | exact Or.inr (Or.inr rfl)) (by decide) (by decide) rfl (DE.nol (fopL (by decide) do_add (fixL (fun _ _ => rfl) dix_l (dvl 0) (DE.loose dint)) (DE.loose dint))) dint)
      (dsone (dret (DE.nol (fopL (by decide) do_mod (fopL (by decide) do_fdiv (fopL (by decide) do_mod (fopL (by decide) do_mul (fixL (fun _ _ => rfl) dix_l (dvl 0) (DE.loose dint)) (DE.loose dint)) (DE.loose dint)) (DE.loose dint)) (DE.loose (dv 1)))))))))) body_d_law_take
end
end Rc

namespace Rc
open PySem L2
section
variable {P : Program} {w : World} {K : PySem.W.Frag} {mg : Str → Option Value} {base : Heap} {t : Adr}
theorem sl1 {n : Nat} (h : n ≤ 1000) : n ≤ sizeLine := small_line h
theorem str_ext {a b : Str} (h : a.cps.toList = b.cps.toList) : a = b := by
  cases a; cases b
  simp only [Str.mk.injEq]
  exact Array.toList_inj.mp h
theorem emp_app (a : Str) : Str.empty ++ a = a := str_ext (by rw [str_app_cps]; rfl)
theorem app_as (a b c : Str) : a ++ b ++ c = a ++ (b ++ c) := str_ext (by simp only [str_app_cps, List.append_assoc])
theorem slen (a b : Str) : (a ++ b).length = a.length + b.length := strLen_append a b
/-! figures -/
def dig (n : Nat) : Str := ⟨#[48 + n]⟩
theorem fig_nat (m : Nat) : figT (m : Int) = ⟨((Nat.toDigits 10 m).map Char.toNat).toArray⟩ := PyProof.Rows.text_ofNat m
theorem digit_char {n : Nat} (h : n < 10) : (Nat.digitChar n).toNat = 48 + n := by
  match n, h with
  | 0, _ => rfl
  | 1, _ => rfl
  | 2, _ => rfl
  | 3, _ => rfl
  | 4, _ => rfl
  | 5, _ => rfl
  | 6, _ => rfl
  | 7, _ => rfl
  | 8, _ => rfl
  | 9, _ => rfl
theorem fig_one {n : Nat} (h : n < 10) : figT (n : Int) = dig n := by
  rw [fig_nat, Nat.toDigits_of_lt_base h]
  show (⟨([Nat.digitChar n].map Char.toNat).toArray⟩ : Str) = _
  rw [List.map_cons, List.map_nil, digit_char h]; rfl
theorem fig_more {n : Nat} (h : 10 ≤ n) : figT (n : Int) = figT ((n / 10 : Nat) : Int) ++ dig (n % 10) := by
  rw [← fig_one (Nat.mod_lt n (by decide)), fig_nat, fig_nat, fig_nat]
  refine str_ext ?_
  rw [str_app_cps]
  show (Nat.toDigits 10 n).map Char.toNat = (Nat.toDigits 10 (n / 10)).map Char.toNat ++ (Nat.toDigits 10 (n % 10)).map Char.toNat
  rw [← List.map_append, Nat.toDigits_append_toDigits (by decide) (by omega) (Nat.mod_lt n (by decide)), Nat.div_add_mod]
theorem fig_len {n : Nat} (h : n < 1000000000000) : (figT (n : Int)).length ≤ 12 := by
  rw [fig_nat]
  show ((Nat.toDigits 10 n).map Char.toNat).toArray.size ≤ 12
  rw [List.size_toArray, List.length_map]
  exact PyProof.Rows.digits10_le (by decide) (by omega)
theorem log_small {n : Nat} (h : n < 1000000000000) : n.log2 < 1920 := by
  by_cases e : n = 0
  · subst e; decide
  · exact (Nat.log2_lt e).mpr (Nat.lt_of_lt_of_le (show n < 2 ^ 40 by omega) (Nat.pow_le_pow_right (by decide) (by decide)))
theorem name_len {z : Str} (h : z.length ≤ 3) : (nameT z).length ≤ 3 := by
  unfold nameT; split
  · decide +kernel
  · exact h
theorem c_len : (":" : Str).length = 1 := by decide +kernel
theorem shown_len {p : Piece} (h : PieceOk p) : (shownP p).length ≤ 16 := by
  obtain ⟨h1, h2, h3⟩ := h
  obtain ⟨n, hn⟩ := Int.eq_ofNat_of_zero_le h2
  unfold shownP
  rw [slen, slen, c_len, hn]
  have := fig_len (n := n) (by omega)
  have := name_len h1
  omega
theorem join_len (sep : Str) : ∀ ss : List Str, (Txt.join sep ss).length ≤ (ss.map fun x => x.length).sum + ss.length * sep.length
  | [] => by
    show (Builtin.Str.glued sep []).length ≤ _
    rw [StrLaws.glued_eq_join]
    exact Nat.zero_le _
  | [x] => by
    show (Builtin.Str.glued sep [x]).length ≤ _
    rw [StrLaws.glued_eq_join]
    show x.length ≤ _
    simp
  | x :: y :: r => by
    have ih := join_len sep (y :: r)
    have e : Txt.join sep (x :: y :: r) = x ++ sep ++ Txt.join sep (y :: r) := by
      show Builtin.Str.glued sep (x :: y :: r) = x ++ sep ++ Builtin.Str.glued sep (y :: r)
      rw [StrLaws.glued_eq_join, StrLaws.glued_eq_join]; rfl
    rw [e, slen, slen, List.map_cons, List.sum_cons, List.length_cons, Nat.succ_mul]
    omega
theorem sum_le' {c : Nat} : ∀ (l : List Nat), (∀ n ∈ l, n ≤ c) → l.sum ≤ c * l.length
  | [], _ => by simp
  | x :: l, h => by
    have h1 := h x (by simp)
    have h2 := sum_le' l fun n hn => h n (by simp [hn])
    rw [List.sum_cons, List.length_cons, Nat.mul_succ]; omega
theorem sums {ss : List Str} {c : Nat} (h : ∀ s ∈ ss, s.length ≤ c) : (ss.map fun x => x.length).sum ≤ c * ss.length := by
  have := sum_le' (c := c) (ss.map fun x => x.length) fun n hn => by obtain ⟨s, hs, rfl⟩ := List.mem_map.mp hn; exact h s hs
  rwa [List.length_map] at this
theorem sp_len : (" " : Str).length = 1 := by decide +kernel
theorem sl_len : ("/" : Str).length = 1 := by decide +kernel
theorem mi_len : ("-" : Str).length = 1 := by decide +kernel
theorem line_sum {l : List Piece} (h : LineOk l) : ((l.map shownP).map fun x => x.length).sum ≤ 192 := by
  have := sums (ss := l.map shownP) (c := 16) fun s hs => by obtain ⟨p, hp, rfl⟩ := List.mem_map.mp hs; exact shown_len (h.2 p hp)
  rw [List.length_map] at this
  have := h.1
  omega
theorem line_len {l : List Piece} (h : LineOk l) : (lineT l).length ≤ 300 := by
  unfold lineT; split
  · rw [mi_len]; decide
  · have h1 := join_len " " (l.map shownP)
    have h2 := line_sum h
    rw [sp_len, List.length_map] at h1
    have := h.1
    omega
theorem line_jb {l : List Piece} (h : LineOk l) : joinB " " (l.map shownP) := by
  unfold joinB
  have h2 := line_sum h
  rw [sp_len, List.length_map]
  have := h.1
  omega
theorem gal_jb {g : List (List Piece)} (h : GalOk g) : joinB "/" (g.map lineT) := by
  unfold joinB
  have := sums (ss := g.map lineT) (c := 300) fun s hs => by obtain ⟨l, hl, rfl⟩ := List.mem_map.mp hs; exact line_len (h.2 l hl)
  rw [sl_len]
  rw [List.length_map] at this ⊢
  have := h.1
  omega
end
end Rc

namespace Rc
open PySem L2
section
variable {P : Program} {w : World} {K : PySem.W.Frag} {mg : Str → Option Value} {base : Heap} {t : Adr}
theorem body_slashed : BodyP B_slashed 1 1 .cl sd_slashed := by
  rintro ds q hl ⟨g, rfl, G, hq⟩
  cases g with
  | nil => exact ⟨_, rfl, _, .inl rfl, iteT hq⟩
  | cons l g => exact ⟨_, rfl, _, .inl rfl, iteF ⟨_, rfl, _, rfl, (l :: g).map lineT, rfl, gal_jb G, hq⟩⟩
theorem ok_slashed (T : Txt K mg t) : FnOk P w K mg base CX0 1 t.f_slashed t.d_slashed ["texts"] (spP K 1 .cl sd_slashed) := by
  exact fnP (κ := κ_slashed) (T := B_slashed) T.F_slashed sc_slashed (noIo_of rfl) (cl_of rfl) (.inl rfl)
    (fun cdv A outer s H E hr =>
      (dscons (dif (dtnot (dtru vcl (by intro _; rfl) (dv 0))) (dsone (dret (dgstr (by decide) (by rfl) T.c_NOTHING))) dsnil)
      (dsone (dret (djoin (by rfl) (by rfl) (by rfl) vcl dstr (dv 0)))))) body_slashed
theorem body_piece_shown : BodyP B_piece_shown 4 1 .cl sd_piece_shown := by
  rintro ds q hl ⟨p, rfl, P, hq⟩
  obtain ⟨h1, h2, h3⟩ := id P
  obtain ⟨n, hn⟩ := Int.eq_ofNat_of_zero_le h2
  have f1 := fig_len (n := n) (by omega)
  have eT : ∀ z, fText p.2 ":" z = figT p.2 ++ ":" ++ z := fun z => by unfold fText figT; rw [emp_app]
  have eL : ((Str.empty ++ Str.ofString (toString p.2)) ++ (":" : Str)).length ≤ sizeLine := by
    rw [emp_app, slen, c_len]
    show (figT p.2).length + 1 ≤ _
    rw [hn]; exact sl1 (by omega)
  have eZ : ∀ z : Str, z.length ≤ 3 → (fText p.2 ":" z).length ≤ sizeLine := fun z hz => by
    rw [eT, slen, slen, c_len, hn]; exact sl1 (by omega)
  have lg : p.2.natAbs.log2 < 1920 := by rw [hn]; exact log_small (by simpa using (show n < 1000000000000 by omega))
  refine ⟨_, rfl, _, rfl, rfl, _, _, rfl, _, _, rfl, rfl, ?_⟩
  dsimp only [kl_piece_shown, startD, List.map_cons, List.map_nil, List.length_cons, List.length_nil, Nat.reduceAdd, Nat.reduceSub, List.replicate_succ, List.replicate_zero, List.cons_append, List.nil_append, List.set_cons_zero, List.set_cons_succ]
  by_cases e : p.1 = (" " : Str)
  · have e2 : pyEq (.str p.1) (.str (Str.ofString " ")) = true := by rw [e]; rfl
    have e3 : shownP p = figT p.2 ++ ":" ++ ("_" : Str) := by unfold shownP nameT; rw [if_pos e]
    refine ⟨_, rfl, rfl, rfl, _, rfl, ?_⟩
    rw [e2]
    refine iteT ⟨_, rfl, p.2, rfl, lg, eL, _, rfl, _, rfl, eZ _ (by decide +kernel), ?_⟩
    rw [eT, ← e3]; exact hq
  · have e2 : pyEq (.str p.1) (.str (Str.ofString " ")) = false := by simp only [pyEq]; simpa using e
    have e3 : shownP p = figT p.2 ++ ":" ++ p.1 := by unfold shownP nameT; rw [if_neg e]
    refine ⟨_, rfl, rfl, rfl, _, rfl, ?_⟩
    rw [e2]
    refine iteF ⟨_, rfl, _, rfl, p.2, rfl, lg, eL, _, rfl, _, rfl, eZ _ h1, ?_⟩
    rw [eT, ← e3]; exact hq
theorem ok_piece_shown (T : Txt K mg t) : FnOk P w K mg base CX0 1 t.f_piece_shown t.d_piece_shown ["piece"] (spP K 1 .cl sd_piece_shown) := by
  exact fnP (κ := κ_piece_shown) (T := B_piece_shown) T.F_piece_shown sc_piece_shown (noIo_of rfl) (cl_of rfl) (.inl rfl)
    (fun cdv A outer s H E hr =>
      (dscons (fasg (by rfl) (by rfl) (by rfl) (.inl rfl) (dv 0) (dgtup (by rfl) (by rfl) rfl (dgcons (by rfl) (dgname (i := 1) (.inl rfl) sc_piece_shown.nd rfl (Or.inl rfl) (.inl ⟨rfl, rfl⟩)) (dgcons (by rfl) (dgname (i := 2) (.inl rfl) sc_piece_shown.nd rfl (Or.inl rfl) (.inl ⟨rfl, rfl⟩)) dgnil))))
      (dscons (dset (i := 3) (by rfl) (.inl rfl) sc_piece_shown.nd rfl (Or.inl rfl) rfl (fifx (ftcmpC (nomark _) (do_eq (room12 hr)) (dv 1) (dgstr (by decide) (by rfl) T.c_BLANK)) (dgstr (by decide) (by rfl) T.c_SHOWN_BLANK) (dv 1)))
      (dsone (dret (dF3 (dv 2) (dv 3))))))) body_piece_shown
theorem body_line_shown : BodyP B_line_shown 1 1 .cl sd_line_shown := by
  rintro ds q hl ⟨l, rfl, L, hq⟩
  cases l with
  | nil => exact ⟨_, rfl, _, .inl rfl, iteT hq⟩
  | cons p l =>
    refine ⟨_, rfl, _, .inl rfl, iteF ⟨_, rfl, _, rfl, _, rfl, ?_⟩⟩
    generalize hL : p :: l = ps at L
    refine compY (fun j acc ρ => ∃ o, acc = ((ps.take j).map shownP).map D.str ∧ ρ = [o]) ⟨none, rfl, rfl⟩ ?_ ?_
    · rintro j d acc ρ hd ⟨o, rfl, rfl⟩
      rw [List.getElem?_map] at hd
      obtain ⟨x, hx, rfl⟩ := Option.map_eq_some_iff.mp hd
      have hj : j < ps.length := (List.getElem?_eq_some_iff.mp hx).1
      refine ⟨_, rfl, rfl, x, rfl, L.2 x (List.mem_of_getElem? hx), ?_, some (pieceD x), ?_, rfl⟩
      · rw [List.length_map, List.length_map, List.length_take]
        have := L.1
        exact small1000 (by omega)
      · rw [List.take_succ, hx, List.map_append, List.map_append]; rfl
    · rintro acc ρ ⟨o, rfl, rfl⟩
      refine ⟨ps.map shownP, ?_, line_jb L, ?_⟩
      · rw [List.length_map, List.take_length]
      · rw [hL] at hq
        have e : lineT ps = Txt.join " " (ps.map shownP) := by rw [← hL]; rfl
        rw [e] at hq; exact hq
theorem ok_line_shown (T : Txt K mg t) : FnOk P w K mg base CX0 2 t.f_line_shown t.d_line_shown ["line"] (spP K 1 .cl sd_line_shown) := by
  have G_piece_shown := ok_piece_shown (P := P) (w := w) (base := base) T
  exact fnP (κ := κ_line_shown) (T := B_line_shown) T.F_line_shown sc_line_shown (noIo_of rfl) (cl_of rfl) (.inl rfl)
    (fun cdv A outer s H E hr =>
      (dscons (dif (dtnot (dtru vcl (by intro _; rfl) (dv 0))) (dsone (dret (dgstr (by decide) (by rfl) T.c_EMPTY))) dsnil)
      (dsone (dret (djoin (by rfl) (by rfl) (by rfl) vcl dstr (DE.clean (dcomp (lo := false) (by intro _; rfl) rfl (fun _ => cap_of rfl) (fun h => by cases h) (diL vcl (dv 0)) (compSc_of (N := ["line"]) (sc := defScope s_line_shown) (Nc := ["piece"]) (js := [none]) rfl rfl (by decide +kernel)) (fun pins_ fp_ H_ s_ C_ => ⟨(dgname (i := 0) (.inr rfl) (show (["piece"] : List Str).Nodup by decide +kernel) rfl (Or.inl rfl) (.inl ⟨rfl, rfl⟩)), dif0, (fclC (by rfl) (by decide) (by decide) G_piece_shown rfl rfl (hr.mono (by decide)) (by rfl) T.m_piece_shown T.k_piece_shown T.b_piece_shown pass0 (facC rfl (dv 0) fanil))⟩)))))))) body_line_shown
theorem body_galley_shown : BodyP B_galley_shown 1 1 .cl sd_galley_shown := by
  rintro ds q hl ⟨g, rfl, G, hq⟩
  refine ⟨_, rfl, _, rfl, ?_⟩
  refine compY (fun j acc ρ => ∃ o, acc = ((g.take j).map lineT).map D.str ∧ ρ = [o]) ⟨none, rfl, rfl⟩ ?_ ?_
  · rintro j d acc ρ hd ⟨o, rfl, rfl⟩
    rw [List.getElem?_map] at hd
    obtain ⟨x, hx, rfl⟩ := Option.map_eq_some_iff.mp hd
    have hj : j < g.length := (List.getElem?_eq_some_iff.mp hx).1
    refine ⟨_, rfl, rfl, x, rfl, G.2 x (List.mem_of_getElem? hx), ?_, some (lineD x), ?_, rfl⟩
    · rw [List.length_map, List.length_map, List.length_take]
      have := G.1
      exact small1000 (by omega)
    · rw [List.take_succ, hx, List.map_append, List.map_append]; rfl
  · rintro acc ρ ⟨o, rfl, rfl⟩
    refine ⟨rfl, g, ?_, G, hq⟩
    rw [List.length_map, List.take_length]
theorem ok_galley_shown (T : Txt K mg t) : FnOk P w K mg base CX0 3 t.f_galley_shown t.d_galley_shown ["galley"] (spP K 1 .cl sd_galley_shown) := by
  have G_slashed := ok_slashed (P := P) (w := w) (base := base) T
  have G_line_shown := ok_line_shown (P := P) (w := w) (base := base) T
  exact fnP (κ := κ_galley_shown) (T := B_galley_shown) T.F_galley_shown sc_galley_shown (noIo_of rfl) (cl_of rfl) (.inl rfl)
    (fun cdv A outer s H E hr =>
      (dsone (dret (fclC (by rfl) (by decide) (by decide) G_slashed rfl rfl (hr.mono (by decide)) (by rfl) T.m_slashed T.k_slashed T.b_slashed pass0 (facC rfl (DE.clean (dcomp (lo := false) (by intro _; rfl) rfl (fun _ => cap_of rfl) (fun h => by cases h) (diL vcl (dv 0)) (compSc_of (N := ["galley"]) (sc := defScope s_galley_shown) (Nc := ["line"]) (js := [none]) rfl rfl (by decide +kernel)) (fun pins_ fp_ H_ s_ C_ => ⟨(dgname (i := 0) (.inr rfl) (show (["line"] : List Str).Nodup by decide +kernel) rfl (Or.inl rfl) (.inl ⟨rfl, rfl⟩)), dif0, (fclC (by rfl) (by decide) (by decide) G_line_shown rfl rfl (hr.mono (by decide)) (by rfl) T.m_line_shown T.k_line_shown T.b_line_shown pass0 (facC rfl (dv 0) fanil))⟩))) fanil))))) body_galley_shown
end
end Rc

namespace Rc
open PySem L2
section
variable {P : Program} {w : World} {K : PySem.W.Frag} {mg : Str → Option Value} {base : Heap} {t : Adr}
theorem dig_all : ∀ r, r < 10 → ("0123456789" : Str).cps.toList[r]? = some (48 + r) := by decide +kernel
theorem dig_at {r : Nat} (h : r < 10) : atI ("0123456789" : Str).cps.toList (r : Int) = some (48 + r) := atI_nat (dig_all r h)
theorem ten_len : ("0123456789" : Str).length ≤ sizeLine := sl1 (by decide +kernel)
theorem body_d_law_figures : BodyP B_d_law_figures 2 1 .cl sd_d_law_figures := by
  rintro ds q hl ⟨n, rfl, h0, h1, hq⟩
  obtain ⟨n, rfl⟩ := Int.eq_ofNat_of_zero_le h0
  have hn : n < 1000000000000 := by omega
  have em : ∀ c : Nat, ((c : Int) % 10) = ((c % 10 : Nat) : Int) := fun c => by omega
  have ed : ∀ c : Nat, ((c : Int) / 10) = ((c / 10 : Nat) : Int) := fun c => by omega
  refine ⟨_, rfl, _, _, rfl, rfl, (by show (0 : Int) < 10; decide), _, _, _, rfl, rfl, ten_len, by rw [em]; exact dig_at (Nat.mod_lt n (by decide)), ?_⟩
  dsimp only [kl_d_law_figures, startD, List.map_cons, List.map_nil, List.length_cons, List.length_nil, Nat.reduceAdd, Nat.reduceSub, List.replicate_succ, List.replicate_zero, List.cons_append, List.nil_append, List.set_cons_zero, List.set_cons_succ]
  refine ⟨fun m ρ => ∃ (c : Nat) (t : Str), m = c ∧ ρ = [some (.int c), some (.str t)] ∧ t.length ≤ 12 ∧ (c < 10 → figT n = t) ∧ (10 ≤ c → figT n = figT ((c / 10 : Nat) : Int) ++ t), ⟨n, n, dig (n % 10), rfl, rfl, by show 1 ≤ 12; decide, fun h => by rw [Nat.mod_eq_of_lt h]; exact fig_one h, fun h => fig_more h⟩, ?_⟩
  rintro m ρ ⟨c, t, rfl, rfl, ht, i1, i2⟩
  refine ⟨_, rfl, _, _, rfl, rfl, _, rfl, ite2 (fun h => ?_) (fun h => ?_)⟩
  · have h : (m : Int) > 9 := of_decide_eq_true h
    refine ⟨fun ρ => ∃ (c' : Nat) (t : Str), c' < m ∧ ρ = [some (.int c'), some (.str t)] ∧ t.length ≤ 12 ∧ (c' < 10 → figT n = t) ∧ (10 ≤ c' → figT n = figT ((c' / 10 : Nat) : Int) ++ t), fun ρ' ⟨c', t', hlt, e, r⟩ => ⟨c', hlt, c', t', rfl, e, r⟩, ?_⟩
    refine ⟨_, rfl, _, _, rfl, rfl, ⟨by decide, by decide⟩, ?_⟩
    dsimp only [kl_d_law_figures, startD, List.map_cons, List.map_nil, List.length_cons, List.length_nil, Nat.reduceAdd, Nat.reduceSub, List.replicate_succ, List.replicate_zero, List.cons_append, List.nil_append, List.set_cons_zero, List.set_cons_succ]
    rw [ed]
    have f := i2 (by omega)
    have hf := fig_len hn
    refine ⟨_, rfl, _, _, rfl, rfl, (by show (0 : Int) < 10; decide), _, _, _, rfl, rfl, ten_len, by rw [em]; exact dig_at (Nat.mod_lt _ (by decide)), _, rfl, _, _, rfl, rfl, sl1 (by show 1 + _ ≤ 1000; omega), m / 10, dig (m / 10 % 10) ++ t, by omega, rfl, ?_, fun hc => ?_, fun hc => ?_⟩
    · by_cases hc : m / 10 < 10
      · rw [fig_one hc] at f
        rw [Nat.mod_eq_of_lt hc, ← f]; exact hf
      · rw [fig_more (n := m / 10) (by omega), app_as] at f
        rw [f, slen] at hf
        omega
    · rw [f, fig_one hc, Nat.mod_eq_of_lt hc]
    · rw [f, fig_more hc, app_as]
  · have h : ¬ ((m : Int) > 9) := by simpa using h
    refine ⟨_, rfl, ?_⟩
    rw [i1 (by omega)] at hq
    exact hq
theorem ok_d_law_figures (T : Txt K mg t) : FnOk P w K mg base CX0 1 t.f_d_law_figures t.d_d_law_figures ["_law_number"] (spP K 1 .cl sd_d_law_figures) := by
  exact fnP (κ := κ_d_law_figures) (T := B_d_law_figures) T.F_d_law_figures sc_d_law_figures (noIo_of rfl) (cl_of rfl) (.inl rfl)
    (fun cdv A outer s H E hr =>
      (dscons (dset (i := 1) (by rfl) (.inl rfl) sc_d_law_figures.nd rfl (Or.inl rfl) rfl (fixC (fun _ _ => rfl) dix_s dstr (fopC (by decide) do_mod (dv 0) dint)))
      (dscons (dwhile PassesOwn.never (ftcmpC (nomark _) do_gt (dv 0) dint) (dscons (dset (i := 0) (by rfl) (.inl rfl) sc_d_law_figures.nd rfl (Or.inl rfl) rfl (fopC (by decide) do_fdiv (dv 0) dint))
      (dsone (dset (i := 1) (by rfl) (.inl rfl) sc_d_law_figures.nd rfl (Or.inl rfl) rfl (fopC (by decide) do_adds (fixC (fun _ _ => rfl) dix_s dstr (fopC (by decide) do_mod (dv 0) dint)) (dv 1))))))
      (dsone (dret (dv 1)))))) body_d_law_figures
end
end Rc

namespace Rc
open PySem L2
section
variable {P : Program} {w : World} {K : PySem.W.Frag} {mg : Str → Option Value} {base : Heap} {t : Adr}
theorem acc_len {α : Type} (f : α → D) (l : List α) (j : Nat) (h : l.length ≤ 12) : ((l.take j).map f).length ≤ 12 := by
  rw [List.length_map, List.length_take]; omega
theorem body_d_law_written : BodyP B_d_law_written 4 1 .cl sd_d_law_written := by
  rintro ds q hl ⟨g, rfl, G, hq⟩
  refine ⟨sl1 (by show 0 ≤ 1000; decide), ?_⟩
  dsimp only [kl_d_law_written, startD, List.map_cons, List.map_nil, List.length_cons, List.length_nil, Nat.reduceAdd, Nat.reduceSub, List.replicate_succ, List.replicate_zero, List.cons_append, List.nil_append, List.set_cons_zero, List.set_cons_succ]
  refine ⟨_, rfl, _, rfl, ?_⟩
  refine forI (fun j ρ => ∃ o2 o3, ρ = [some (galD g), some (.lst (((g.take j).map lineT).map D.str)), o2, o3]) ⟨_, _, rfl⟩ ?_ ?_
  · rintro j d ρ hd ⟨o2, o3, rfl⟩
    rw [List.getElem?_map] at hd
    obtain ⟨l, hx, rfl⟩ := Option.map_eq_some_iff.mp hd
    have L := G.2 l (List.mem_of_getElem? hx)
    have G1 := G.1
    have hlen : (((g.take j).map lineT).map D.str).length ≤ 8 := by rw [List.length_map, List.length_map, List.length_take]; omega
    have fin : ((g.take j).map lineT).map D.str ++ [D.str (lineT l)] = ((g.take (j + 1)).map lineT).map D.str := by
      rw [List.take_succ, hx, List.map_append, List.map_append]; rfl
    refine ⟨_, rfl, _, rfl, ?_⟩
    refine compY (fun i acc ρ => ∃ o o', acc = ((l.take i).map shownP).map D.str ∧ ρ = [o, o']) ⟨none, none, rfl, rfl⟩ ?_ ?_
    · rintro i d acc ρ hd ⟨o, o', rfl, rfl⟩
      rw [List.getElem?_map] at hd
      obtain ⟨p, hp, rfl⟩ := Option.map_eq_some_iff.mp hd
      have P := L.2 p (List.mem_of_getElem? hp)
      obtain ⟨h1, h2, h3⟩ := id P
      obtain ⟨n, hn⟩ := Int.eq_ofNat_of_zero_le h2
      have f1 : (figT p.2).length ≤ 12 := by rw [hn]; exact fig_len (by omega)
      have sm : (((l.take i).map shownP).map D.str).length < sizeLine := small1000 (by
        rw [List.length_map, List.length_map, List.length_take]
        have := L.1
        omega)
      have nx : ((l.take i).map shownP).map D.str ++ [D.str (shownP p)] = ((l.take (i + 1)).map shownP).map D.str := by
        rw [List.take_succ, hp, List.map_append, List.map_append]; rfl
      have a1 : (figT p.2).length + (":" : Str).length ≤ sizeLine := by rw [c_len]; exact sl1 (by omega)
      by_cases e : p.1 = (" " : Str)
      · have e2 : (!pyEq (.str p.1) (.str (Str.ofString " "))) = false := by rw [e]; rfl
        have e3 : shownP p = figT p.2 ++ ":" ++ ("_" : Str) := by unfold shownP nameT; rw [if_pos e]
        refine ⟨_, rfl, rfl, _, _, rfl, _, _, rfl, rfl, _, rfl, rfl, p.2, rfl, h2, h3, _, _, rfl, rfl, a1, _, rfl, rfl, rfl, _, rfl, ?_⟩
        rw [e2]
        refine iteF ⟨_, _, rfl, rfl, ?_, sm, some (.str p.1), some (.int p.2), ?_, rfl⟩
        · rw [slen, c_len]; exact sl1 (by show _ + 1 + 1 ≤ 1000; omega)
        · rw [← nx, e3]
      · have e2 : (!pyEq (.str p.1) (.str (Str.ofString " "))) = true := by simp only [pyEq]; simpa using e
        have e3 : shownP p = figT p.2 ++ ":" ++ p.1 := by unfold shownP nameT; rw [if_neg e]
        refine ⟨_, rfl, rfl, _, _, rfl, _, _, rfl, rfl, _, rfl, rfl, p.2, rfl, h2, h3, _, _, rfl, rfl, a1, _, rfl, rfl, rfl, _, rfl, ?_⟩
        rw [e2]
        refine iteT ⟨_, rfl, _, _, rfl, rfl, ?_, sm, some (.str p.1), some (.int p.2), ?_, rfl⟩
        · rw [slen, c_len]; exact sl1 (by omega)
        · rw [← nx, e3]
    · rintro acc ρ ⟨o, o', rfl, rfl⟩
      rw [List.length_map, List.take_length]
      dsimp only [kl_d_law_written, startD, List.map_cons, List.map_nil, List.length_cons, List.length_nil, Nat.reduceAdd, Nat.reduceSub, List.replicate_succ, List.replicate_zero, List.cons_append, List.nil_append, List.set_cons_zero, List.set_cons_succ]
      refine ⟨⟨_, rfl⟩, _, rfl, .inr (.inl ⟨_, rfl, _, _, rfl, rfl, _, rfl, ite2 (fun h => ?_) (fun h => ?_)⟩)⟩
      · have h : (0 : Int) < (((l.map shownP).map D.str).length : Nat) := of_decide_eq_true h
        have e : lineT l = Txt.join " " (l.map shownP) := by
          cases l with
          | nil => simp at h
          | cons p l => rfl
        refine ⟨_, rfl, _, rfl, l.map shownP, rfl, line_jb L, _, rfl, small1000 (by omega), some (lineD l), some (.lst ((l.map shownP).map D.str)), ?_⟩
        dsimp only [kl_d_law_written, startD, List.map_cons, List.map_nil, List.length_cons, List.length_nil, Nat.reduceAdd, Nat.reduceSub, List.replicate_succ, List.replicate_zero, List.cons_append, List.nil_append, List.set_cons_zero, List.set_cons_succ]
        rw [← fin, e]
      · have h : ¬ ((0 : Int) < (((l.map shownP).map D.str).length : Nat)) := by simpa using h
        have e : lineT l = "-" := by
          cases l with
          | nil => rfl
          | cons p l => simp at h
        refine ⟨_, rfl, small1000 (by omega), some (lineD l), some (.lst ((l.map shownP).map D.str)), ?_⟩
        dsimp only [kl_d_law_written, startD, List.map_cons, List.map_nil, List.length_cons, List.length_nil, Nat.reduceAdd, Nat.reduceSub, List.replicate_succ, List.replicate_zero, List.cons_append, List.nil_append, List.set_cons_zero, List.set_cons_succ]
        rw [← fin, e]
  · rintro ρ ⟨o2, o3, rfl⟩
    rw [List.length_map, List.take_length]
    refine ⟨_, rfl, .inr (.inl ⟨_, rfl, _, _, rfl, rfl, _, rfl, ite2 (fun h => ?_) (fun h => ?_)⟩)⟩
    · have h : (0 : Int) < (((g.map lineT).map D.str).length : Nat) := of_decide_eq_true h
      have e : galT g = Txt.join "/" (g.map lineT) := by
        cases g with
        | nil => simp at h
        | cons p l => rfl
      rw [e] at hq
      exact ⟨_, rfl, _, rfl, g.map lineT, rfl, gal_jb G, hq⟩
    · have h : ¬ ((0 : Int) < (((g.map lineT).map D.str).length : Nat)) := by simpa using h
      have e : galT g = "none" := by
        cases g with
        | nil => rfl
        | cons p l => simp at h
      rw [e] at hq
      exact hq
theorem ok_d_law_written (T : Txt K mg t) : FnOk P w K mg base CX0 2 t.f_d_law_written t.d_d_law_written ["_law_galley_here"] (spP K 1 .cl sd_d_law_written) := by
  have G_d_law_figures := ok_d_law_figures (P := P) (w := w) (base := base) T
  exact fnP (κ := κ_d_law_written) (T := B_d_law_written) T.F_d_law_written sc_d_law_written (noIo_of rfl) (cl_of rfl) (.inl rfl)
    (fun cdv A outer s H E hr =>
      (dscons (dsetO (i := 1) (by rfl) (.inl rfl) sc_d_law_written.nd rfl (Or.inl rfl) rfl (flstC (fanil (pu := true))))
      (dscons (dfor (by intro _; rfl) PassesOwn.never rfl (diL vcl (dv 0)) (dgname (i := 2) (.inl rfl) sc_d_law_written.nd rfl (Or.inl rfl) (.inl ⟨rfl, rfl⟩)) (dscons (dsetC (i := 3) (lo := false) (.inl ⟨rfl, .inl rfl⟩) (by rfl) (by intro _; rfl) rfl sc_d_law_written.nd rfl rfl (fun _ => cap_of rfl) (fun h => by cases h) (diL vcl (dv 2)) (compSc_of (N := ["_law_galley_here", "_law_rows", "_law_line", "_law_words"]) (sc := defScope s_d_law_written) (Nc := ["_law_name", "_law_width"]) (js := [none, none]) rfl rfl (by decide +kernel)) (fun pins_ fp_ H_ s_ C_ => ⟨(dgtup (by rfl) (by rfl) rfl (dgcons (by rfl) (dgname (i := 0) (.inr rfl) (show (["_law_name", "_law_width"] : List Str).Nodup by decide +kernel) rfl (Or.inl rfl) (.inl ⟨rfl, rfl⟩)) (dgcons (by rfl) (dgname (i := 1) (.inr rfl) (show (["_law_name", "_law_width"] : List Str).Nodup by decide +kernel) rfl (Or.inl rfl) (.inl ⟨rfl, rfl⟩)) dgnil))), dif0, (fopC (by decide) do_adds (fopC (by decide) do_adds (fclC (by rfl) (by decide) (by decide) G_d_law_figures rfl rfl (hr.mono (by decide)) (by rfl) T.m_d_law_figures T.k_d_law_figures T.b_d_law_figures pass0 (facC rfl (dv 1) fanil)) dstr) (fifx (ftcmpC (nomark _) (do_ne (room12 hr)) (dv 0) dstr) (dv 0) dstr))⟩))
      (dsone (dappend (i := 1) (by rfl) rfl (by rfl) (by rfl) rfl (by first | exact Or.inl rfl | exact Or.inr (Or.inl rfl) | exact Or.inr (Or.inr rfl)) (by decide) (by decide) rfl (fifx (ftcmpC (nomark _) do_gt (fcbC (by rfl) (by decide) (by decide) (by decide) dc_len (by rfl) T.n_len bt_len (facC rfl (dv 3) fanil)) dint) (djoin (by rfl) (by rfl) (by rfl) vcl dstr (dv 3)) dstr)))))
      (dsone (dret (fifx (ftcmpL (nomark _) do_gt (fcbL (by rfl) (by decide) (by decide) (by decide) dc_len (by rfl) T.n_len bt_len (facL rfl (dvl 1) fanilL)) (DE.loose dint)) (djoin (by rfl) (by rfl) (by rfl) vlo dstr (dvl 1)) dstr)))))) body_d_law_written
end
end Rc

namespace Rc
open PySem L2
section
variable {P : Program} {w : World} {K : PySem.W.Frag} {mg : Str → Option Value} {base : Heap} {t : Adr}
abbrev abc : Str := "abcdefghijklmnopqrstuvwxyz"
theorem abc_all : ∀ r : Nat, r < 26 → (atI abc.cps.toList (r : Int)).isSome ∧ (atI abc.cps.toList (-1 - (r : Int))).isSome := by decide +kernel
theorem abc_len : abc.length ≤ sizeLine := sl1 (by decide +kernel)
theorem one_len (c : Nat) : (⟨#[c]⟩ : Str).length = 1 := rfl
theorem three_len (c : Nat) : (timesS ⟨#[c]⟩ (3 : Int).toNat).length = 3 := rfl
def GalN (g : List (List Piece)) (n : Nat) : Prop := g.length = n ∧ ∀ l ∈ g, LineOk l
def LineN (l : List Piece) (n : Nat) : Prop := l.length = n ∧ ∀ p ∈ l, PieceOk p
theorem lg9 {n : Int} (h0 : 0 < n) (h : n ≤ 1000000000000) : n.natAbs.log2 < 9000 := (Nat.log2_lt (by omega)).mpr (Nat.lt_of_lt_of_le (show n.natAbs < 2 ^ 40 by omega) (Nat.pow_le_pow_right (by decide) (by decide)))
theorem body_d_law_galley : BodyX B_d_law_galley 10 1 0 (.ow 1) sd_d_law_galley := by
  rintro ds q hl ⟨m, c, rfl, hb, hq⟩
  refine ⟨_, _, rfl, rfl, pow10 (by decide) (by decide) (by decide), sl1 (by show 3 ≤ 1000; decide), _, rfl, _, rfl, rfl, m, c, 3, rfl, hb, by decide, lg9 (by decide) (by decide), fun r m1 c1 r0 r1 hb1 => ?_⟩
  obtain ⟨W, w0, w1, hat⟩ : ∃ W : Int, 0 < W ∧ W ≤ 1000000000000 ∧ atI [D.int 10, D.int 1000, D.int (10 ^ (12 : Int).toNat)] r = some (.int W) := by
    obtain rfl | rfl | rfl : r = 0 ∨ r = 1 ∨ r = 2 := by omega
    · exact ⟨10, by decide, by decide, rfl⟩
    · exact ⟨1000, by decide, by decide, rfl⟩
    · exact ⟨10 ^ (12 : Int).toNat, by decide, by decide, rfl⟩
  dsimp only [kl_d_law_galley, startD, List.map_cons, List.map_nil, List.length_cons, List.length_nil, Nat.reduceAdd, Nat.reduceSub, List.replicate_succ, List.replicate_zero, List.cons_append, List.nil_append, List.set_cons_zero, List.set_cons_succ]
  refine ⟨_, _, _, rfl, rfl, hat, sl1 (by show 0 ≤ 1000; decide), ?_⟩
  dsimp only [kl_d_law_galley, startD, List.map_cons, List.map_nil, List.length_cons, List.length_nil, Nat.reduceAdd, Nat.reduceSub, List.replicate_succ, List.replicate_zero, List.cons_append, List.nil_append, List.set_cons_zero, List.set_cons_succ]
  refine ⟨_, rfl, _, rfl, rfl, m1, c1, 9, rfl, hb1, by decide, lg9 (by decide) (by decide), fun a m2 c2 a0 a1 hb2 => ⟨a, rfl, by omega, by omega, ?_⟩⟩
  dsimp only [kl_d_law_galley, startD, List.map_cons, List.map_nil, List.length_cons, List.length_nil, Nat.reduceAdd, Nat.reduceSub, List.replicate_succ, List.replicate_zero, List.cons_append, List.nil_append, List.set_cons_zero, List.set_cons_succ]
  refine forI (fun j ρ => ∃ g m c o4 o5 o6 o7 o8 o9, GalN g j ∧ BagOk m c ∧ ρ = [some (.lst [.int m, .int c]), some (.str abc), some (.int W), some (galD g), o4, o5, o6, o7, o8, o9]) ⟨[], m2, c2, none, none, none, none, none, none, ⟨rfl, fun l hl => absurd hl (by simp)⟩, hb2, rfl⟩ ?_ ?_
  · rintro j d ρ hd ⟨g, m, c, o4, o5, o6, o7, o8, o9, G, hb, rfl⟩
    have hj : j < a.toNat := by
      have := (List.getElem?_eq_some_iff.mp hd).1
      simpa using this
    refine ⟨sl1 (by show 0 ≤ 1000; decide), ?_⟩
    dsimp only [kl_d_law_galley, startD, List.map_cons, List.map_nil, List.length_cons, List.length_nil, Nat.reduceAdd, Nat.reduceSub, List.replicate_succ, List.replicate_zero, List.cons_append, List.nil_append, List.set_cons_zero, List.set_cons_succ]
    refine ⟨_, rfl, _, rfl, rfl, m, c, 13, rfl, hb, by decide, lg9 (by decide) (by decide), fun b m3 c3 b0 b1 hb3 => ⟨b, rfl, by omega, by omega, ?_⟩⟩
    dsimp only [kl_d_law_galley, startD, List.map_cons, List.map_nil, List.length_cons, List.length_nil, Nat.reduceAdd, Nat.reduceSub, List.replicate_succ, List.replicate_zero, List.cons_append, List.nil_append, List.set_cons_zero, List.set_cons_succ]
    refine forI (fun t ρ => ∃ l m c o6 o7 o8 o9, LineN l t ∧ BagOk m c ∧ ρ = [some (.lst [.int m, .int c]), some (.str abc), some (.int W), some (galD g), some d, some (lineD l), o6, o7, o8, o9]) ⟨[], m3, c3, o6, o7, o8, o9, ⟨rfl, fun l hl => absurd hl (by simp)⟩, hb3, rfl⟩ ?_ ?_
    · rintro t d2 ρ hd2 ⟨l, m, c, o6, o7, o8, o9, L, hb, rfl⟩
      have ht : t < b.toNat := by
        have := (List.getElem?_eq_some_iff.mp hd2).1
        simpa using this
      refine ⟨_, rfl, _, rfl, rfl, m, c, 26, rfl, hb, by decide, lg9 (by decide) (by decide), fun f m4 c4 f0 f1 hb4 => ?_⟩
      dsimp only [kl_d_law_galley, startD, List.map_cons, List.map_nil, List.length_cons, List.length_nil, Nat.reduceAdd, Nat.reduceSub, List.replicate_succ, List.replicate_zero, List.cons_append, List.nil_append, List.set_cons_zero, List.set_cons_succ]
      refine ⟨_, rfl, _, rfl, rfl, m4, c4, 4, rfl, hb4, by decide, lg9 (by decide) (by decide), fun s m5 c5 s0 s1 hb5 => ?_⟩
      dsimp only [kl_d_law_galley, startD, List.map_cons, List.map_nil, List.length_cons, List.length_nil, Nat.reduceAdd, Nat.reduceSub, List.replicate_succ, List.replicate_zero, List.cons_append, List.nil_append, List.set_cons_zero, List.set_cons_succ]
      obtain ⟨f, rfl⟩ := Int.eq_ofNat_of_zero_le f0
      obtain ⟨k1, k2⟩ := abc_all f (by omega)
      obtain ⟨x, hx⟩ := Option.isSome_iff_exists.mp k1
      obtain ⟨y, hy⟩ := Option.isSome_iff_exists.mp k2
      refine ⟨_, rfl, _, rfl, _, _, x, rfl, rfl, abc_len, hx, _, rfl, _, rfl, _, _, x, rfl, rfl, abc_len, hx, _, rfl, 1, rfl, _, rfl, _, _, rfl, rfl, _, _, y, rfl, rfl, abc_len, hy, _, _, rfl, rfl, sl1 (by show 1 + 1 ≤ 1000; decide), _, rfl, _, rfl, _, _, x, rfl, rfl, abc_len, hx, _, _, rfl, rfl, by decide, by decide, by rw [one_len]; decide, by rw [one_len]; decide, sl1 (by rw [three_len]; decide), sl1 (by show 4 ≤ 1000; decide), _, rfl, ?_⟩
      obtain ⟨z, hz, hatz⟩ : ∃ z : Str, z.length ≤ 3 ∧ atI [D.str " ", D.str ⟨#[x]⟩, D.str (⟨#[x]⟩ ++ ⟨#[y]⟩), D.str (timesS ⟨#[x]⟩ (3 : Int).toNat)] s = some (.str z) := by
        obtain rfl | rfl | rfl | rfl : s = 0 ∨ s = 1 ∨ s = 2 ∨ s = 3 := by omega
        · exact ⟨_, by rw [sp_len]; decide, rfl⟩
        · exact ⟨_, by rw [one_len]; decide, rfl⟩
        · exact ⟨_, by rw [slen, one_len, one_len]; decide, rfl⟩
        · exact ⟨_, by rw [three_len]; exact Nat.le_refl _, rfl⟩
      refine ⟨_, _, _, rfl, rfl, hatz, ?_⟩
      dsimp only [kl_d_law_galley, startD, List.map_cons, List.map_nil, List.length_cons, List.length_nil, Nat.reduceAdd, Nat.reduceSub, List.replicate_succ, List.replicate_zero, List.cons_append, List.nil_append, List.set_cons_zero, List.set_cons_succ]
      refine ⟨⟨_, rfl⟩, _, rfl, _, rfl, _, rfl, _, rfl, rfl, m5, c5, W, rfl, hb5, w0, lg9 w0 w1, fun v m6 c6 v0 v1 hb6 => ?_⟩
      dsimp only [kl_d_law_galley, startD, List.map_cons, List.map_nil, List.length_cons, List.length_nil, Nat.reduceAdd, Nat.reduceSub, List.replicate_succ, List.replicate_zero, List.cons_append, List.nil_append, List.set_cons_zero, List.set_cons_succ]
      refine ⟨sl1 (by show 2 ≤ 1000; decide), _, rfl, ?_, l ++ [(z, v)], m6, c6, some d2, some (.int (f : Nat)), some (.int s), some (.str z), ⟨?_, fun p hp => ?_⟩, hb6, ?_⟩
      · rw [List.length_map, L.1]; exact small1000 (by omega)
      · rw [List.length_append, L.1]; rfl
      · rcases List.mem_append.mp hp with h | h
        · exact L.2 p h
        · obtain rfl : p = (z, v) := by simpa using h
          exact ⟨hz, v0, by show v < _; omega⟩
      · unfold lineD
        rw [List.map_append]
        rfl
    · rintro ρ ⟨l, m, c, o6, o7, o8, o9, L, hb, rfl⟩
      rw [List.length_map, List.length_range] at L
      refine ⟨⟨_, rfl⟩, _, rfl, _, rfl, ?_, g ++ [l], m, c, some d, none, o6, o7, o8, o9, ⟨?_, fun x hx => ?_⟩, hb, ?_⟩
      · rw [List.length_map, G.1]; exact small1000 (by omega)
      · rw [List.length_append, G.1]; rfl
      · rcases List.mem_append.mp hx with h | h
        · exact G.2 x h
        · obtain rfl : x = l := by simpa using h
          exact ⟨by rw [L.1]; omega, L.2⟩
      · unfold galD
        rw [List.map_append]
        rfl
  · rintro ρ ⟨g, m, c, o4, o5, o6, o7, o8, o9, G, hb, rfl⟩
    rw [List.length_map, List.length_range] at G
    exact ⟨_, rfl, _, rfl, hq g m c ⟨by rw [G.1]; omega, G.2⟩ hb⟩
theorem ok_d_law_galley (T : Txt K mg t) : FnOk P w K mg base CX0 2 t.f_d_law_galley t.d_d_law_galley ["_law_bag_here"] (spX K 1 0 1 (.ow 1) sd_d_law_galley) := by
  have G_d_law_take := ok_d_law_take (P := P) (w := w) (base := base) T
  exact fnX (κ := κ_d_law_galley) (T := B_d_law_galley) T.F_d_law_galley sc_d_law_galley rfl (by decide) (io_of rfl) (clx_of rfl) (.inr ⟨_, rfl⟩)
    (fun cdv A outer s H E hr =>
      (dscons (dset (i := 1) (by rfl) (.inl rfl) sc_d_law_galley.nd rfl (Or.inl rfl) rfl dstr)
      (dscons (dset (i := 2) (by rfl) (.inl rfl) sc_d_law_galley.nd rfl (Or.inl rfl) rfl (fixC (fun _ _ => rfl) dix_l (DE.clean (DE.dirty (flstC (facC rfl dint (facC rfl dint (facC rfl (fopC (by decide) do_pow dint dint) fanil)))))) (fclx (by rfl) (by decide) G_d_law_take rfl (hr.mono (by decide)) (by rfl) T.m_d_law_take T.k_d_law_take T.b_d_law_take pass0 rfl (.inl rfl) (dax_here (i := 0) rfl (by first | exact Or.inl rfl | exact Or.inr (Or.inl rfl) | exact Or.inr (Or.inr rfl)) (by decide) (by decide) (facC rfl dint fanil)))))
      (dscons (dsetO (i := 3) (by rfl) (.inl rfl) sc_d_law_galley.nd rfl (Or.inl rfl) rfl (flstC (fanil (pu := true))))
      (dscons (dfor (by intro _; rfl) PassesOwn.never rfl (diR1 rfl (by rfl) T.n_range (facC rfl (fclx (by rfl) (by decide) G_d_law_take rfl (hr.mono (by decide)) (by rfl) T.m_d_law_take T.k_d_law_take T.b_d_law_take pass0 rfl (.inl rfl) (dax_here (i := 0) rfl (by first | exact Or.inl rfl | exact Or.inr (Or.inl rfl) | exact Or.inr (Or.inr rfl)) (by decide) (by decide) (facC rfl dint fanil))) fanil)) (dgname (i := 4) (.inl rfl) sc_d_law_galley.nd rfl (Or.inl rfl) (.inl ⟨rfl, rfl⟩)) (dscons (dsetO (i := 5) (by rfl) (.inl rfl) sc_d_law_galley.nd rfl (Or.inl rfl) rfl (flstC (fanil (pu := true))))
      (dscons (dfor (by intro _; rfl) PassesOwn.never rfl (diR1 rfl (by rfl) T.n_range (facC rfl (fclx (by rfl) (by decide) G_d_law_take rfl (hr.mono (by decide)) (by rfl) T.m_d_law_take T.k_d_law_take T.b_d_law_take pass0 rfl (.inl rfl) (dax_here (i := 0) rfl (by first | exact Or.inl rfl | exact Or.inr (Or.inl rfl) | exact Or.inr (Or.inr rfl)) (by decide) (by decide) (facC rfl dint fanil))) fanil)) (dgname (i := 6) (.inl rfl) sc_d_law_galley.nd rfl (Or.inl rfl) (.inl ⟨rfl, rfl⟩)) (dscons (dset (i := 7) (by rfl) (.inl rfl) sc_d_law_galley.nd rfl (Or.inl rfl) rfl (fclx (by rfl) (by decide) G_d_law_take rfl (hr.mono (by decide)) (by rfl) T.m_d_law_take T.k_d_law_take T.b_d_law_take pass0 rfl (.inl rfl) (dax_here (i := 0) rfl (by first | exact Or.inl rfl | exact Or.inr (Or.inl rfl) | exact Or.inr (Or.inr rfl)) (by decide) (by decide) (facC rfl dint fanil))))
      (dscons (dset (i := 8) (by rfl) (.inl rfl) sc_d_law_galley.nd rfl (Or.inl rfl) rfl (fclx (by rfl) (by decide) G_d_law_take rfl (hr.mono (by decide)) (by rfl) T.m_d_law_take T.k_d_law_take T.b_d_law_take pass0 rfl (.inl rfl) (dax_here (i := 0) rfl (by first | exact Or.inl rfl | exact Or.inr (Or.inl rfl) | exact Or.inr (Or.inr rfl)) (by decide) (by decide) (facC rfl dint fanil))))
      (dscons (dset (i := 9) (by rfl) (.inl rfl) sc_d_law_galley.nd rfl (Or.inl rfl) rfl (fixC (fun _ _ => rfl) dix_l (DE.clean (flstC (facC rfl dstr (facC rfl (fixC (fun _ _ => rfl) dix_s (dv 1) (dv 7)) (facC rfl (fopC (by decide) do_adds (fixC (fun _ _ => rfl) dix_s (dv 1) (dv 7)) (fixC (fun _ _ => rfl) dix_s (dv 1) (fopC (by decide) do_sub (fneg dint) (dv 7)))) (facC rfl (fopC (by decide) do_mulS (fixC (fun _ _ => rfl) dix_s (dv 1) (dv 7)) dint) fanil)))))) (dv 8)))
      (dsone (dappend (i := 5) (by rfl) rfl (by rfl) (by rfl) rfl (by first | exact Or.inl rfl | exact Or.inr (Or.inl rfl) | exact Or.inr (Or.inr rfl)) (by decide) (by decide) rfl (ftupC (facC rfl (DE.dirty (dv 9)) (facC rfl (fclx (by rfl) (by decide) G_d_law_take rfl (hr.mono (by decide)) (by rfl) T.m_d_law_take T.k_d_law_take T.b_d_law_take pass0 rfl (.inl rfl) (dax_here (i := 0) rfl (by first | exact Or.inl rfl | exact Or.inr (Or.inl rfl) | exact Or.inr (Or.inr rfl)) (by decide) (by decide) (facC rfl (dv 2) fanil))) fanil)))))))))
      (dsone (dappend (i := 3) (by rfl) rfl (by rfl) (by rfl) rfl (by first | exact Or.inl rfl | exact Or.inr (Or.inl rfl) | exact Or.inr (Or.inr rfl)) (by decide) (by decide) rfl (dmv 5))))))
      (dsone (dretO (i := 3) (noLo_of rfl) rfl rfl (by first | exact Or.inl rfl | exact Or.inr (Or.inl rfl) | exact Or.inr (Or.inr rfl)) (by decide) (by decide)))))))) body_d_law_galley
end
end Rc

namespace Rc
open PySem L2
section
variable {P : Program} {w : World} {K : PySem.W.Frag} {mg : Str → Option Value} {base : Heap} {t : Adr}
theorem ok_line (l : List Piece) : okE 11 (lineD l) = true := by
  unfold lineD
  rw [okE]
  exact List.all_eq_true.mpr fun x hx => by obtain ⟨p, _, rfl⟩ := List.mem_map.mp hx; rfl
theorem ok_gal (g : List (List Piece)) : okE 12 (galD g) = true := by
  unfold galD
  rw [okE]
  exact List.all_eq_true.mpr fun x hx => by obtain ⟨p, _, rfl⟩ := List.mem_map.mp hx; exact ok_line p
theorem no_str (z : Str) : (!pyEq (.str z) (.str z)) = false := by rw [pyEq_self 12 _ rfl]; rfl
theorem no_gal (g : List (List Piece)) : (!pyEq (galD g) (galD g)) = false := by rw [pyEq_self 12 _ (ok_gal g)]; rfl
theorem gal0 (n : Nat) : D.lst ((List.replicate n ([] : List D)).map D.lst) = galD (List.replicate n []) := by
  unfold galD; rw [List.map_replicate, List.map_replicate]; rfl
theorem gal0_ok {n : Nat} (h : n ≤ 8) : GalOk (List.replicate n []) := ⟨by simpa using h, fun l hl => by rw [List.eq_of_mem_replicate hl]; exact ⟨by simp, fun p hp => absurd hp (by simp)⟩⟩
theorem gal_lists (g : List (List Piece)) : galD g = D.lst ((g.map fun l => l.map pieceD).map D.lst) := by
  unfold galD; rw [List.map_map]; rfl
theorem body_law : BodyP B_law 6 1 .cl sd_law := by
  rintro ds q hl ⟨ns, rfl, hn, hq⟩
  refine ⟨_, rfl, .inl ⟨ns, rfl, _, _, rfl, _, _, rfl, ?_⟩⟩
  generalize ez : (if (if (ns.length : Int) < 6 then (ns.length : Int) else 6) > (1 : Int) then (if (ns.length : Int) < 6 then (ns.length : Int) else 6) else (1 : Int)) = z
  have hz : 0 ≤ z ∧ z ≤ 6 := by
    rw [← ez]
    split <;> (try split) <;> omega
  refine ⟨z, rfl, by omega, by omega, ?_⟩
  refine forI (fun j ρ => ∃ o1 o2 o3 o4 o5, ρ = [some (.scr ns), o1, o2, o3, o4, o5]) ⟨_, _, _, _, _, rfl⟩ ?_ ?_
  · rintro j d ρ hd ⟨o1, o2, o3, o4, o5, rfl⟩
    have hj : j < z.toNat := by
      have := (List.getElem?_eq_some_iff.mp hd).1
      simpa using this
    rw [List.getElem?_map, List.getElem?_range (by simpa using hj)] at hd
    simp only [Option.map_some, Option.some.injEq] at hd
    subst hd
    refine ⟨_, rfl, _, rfl, rfl, ns, j, rfl, by omega, by omega, fun m c hb => ⟨rfl, m, c, rfl, hb, fun g m1 c1 G hb1 => ?_⟩⟩
    dsimp only [kl_law, startD, List.map_cons, List.map_nil, List.length_cons, List.length_nil, Nat.reduceAdd, Nat.reduceSub, List.replicate_succ, List.replicate_zero, List.cons_append, List.nil_append, List.set_cons_zero, List.set_cons_succ]
    have G1 := G.1
    have cp : ∀ i, (((g.take i).map lineD)).length < sizeLine := fun i => small1000 (by rw [List.length_map, List.length_take]; omega)
    refine ⟨_, rfl, _, rfl, ?_⟩
    refine compY (fun i acc ρ => ∃ o, acc = (g.take i).map lineD ∧ ρ = [o]) ⟨none, rfl, rfl⟩ ?_ ?_
    · rintro i d acc ρ hd ⟨o, rfl, rfl⟩
      rw [List.getElem?_map] at hd
      obtain ⟨l, hx, rfl⟩ := Option.map_eq_some_iff.mp hd
      exact ⟨_, rfl, _, .inl rfl, cp i, some (lineD l), by rw [List.take_succ, hx, List.map_append]; rfl, rfl⟩
    · rintro acc ρ ⟨o, rfl, rfl⟩
      rw [List.length_map, List.take_length]
      dsimp only [kl_law, startD, List.map_cons, List.map_nil, List.length_cons, List.length_nil, Nat.reduceAdd, Nat.reduceSub, List.replicate_succ, List.replicate_zero, List.cons_append, List.nil_append, List.set_cons_zero, List.set_cons_succ]
      refine ⟨_, rfl, rfl, g, rfl, G, rfl, ?_⟩
      dsimp only [kl_law, startD, List.map_cons, List.map_nil, List.length_cons, List.length_nil, Nat.reduceAdd, Nat.reduceSub, List.replicate_succ, List.replicate_zero, List.cons_append, List.nil_append, List.set_cons_zero, List.set_cons_succ]
      refine ⟨_, rfl, _, _, rfl, rfl, by decide, _, rfl, iteF ⟨_, rfl, _, rfl, rfl, g, rfl, G, rfl, rfl, _, rfl, ?_⟩⟩
      rw [no_str]
      refine iteF ⟨_, rfl, _, rfl, ok_gal g, ok_gal g, _, rfl, ?_⟩
      rw [show (!pyEq (D.lst (g.map lineD)) (galD g)) = false from no_gal g]
      refine iteF ⟨g.map fun (l : List Piece) => (l.map pieceD : List D), by show 5 < 6; decide, (by show some (some (galD g)) = _; rw [gal_lists]), ?_⟩
      rw [gal0, List.length_map]
      dsimp only [kl_law, startD, List.map_cons, List.map_nil, List.length_cons, List.length_nil, Nat.reduceAdd, Nat.reduceSub, List.replicate_succ, List.replicate_zero, List.cons_append, List.nil_append, List.set_cons_zero, List.set_cons_succ]
      refine ⟨_, rfl, rfl, List.replicate g.length [], rfl, gal0_ok G1, _, rfl, _, rfl, ?_⟩
      refine compY (fun i acc ρ => ∃ o, acc = List.replicate i (D.lst []) ∧ ρ = [o]) ⟨none, rfl, rfl⟩ ?_ ?_
      · rintro i d acc ρ hd ⟨o, rfl, rfl⟩
        have hi : i < g.length := by
          have := (List.getElem?_eq_some_iff.mp hd).1
          simpa using this
        exact ⟨sl1 (by show 0 ≤ 1000; decide), small1000 (by rw [List.length_replicate]; omega), some d, by rw [List.replicate_succ'], rfl⟩
      · rintro acc ρ ⟨o, rfl, rfl⟩
        rw [List.length_map]
        refine ⟨rfl, List.replicate g.length [], by unfold galD; rw [List.map_replicate]; rfl, gal0_ok G1, rfl, rfl, _, rfl, ?_⟩
        rw [no_str]
        refine iteF ⟨⟨_, rfl⟩, ?_⟩
        dsimp only [kl_law, startD, List.map_cons, List.map_nil, List.length_cons, List.length_nil, Nat.reduceAdd, Nat.reduceSub, List.replicate_succ, List.replicate_zero, List.cons_append, List.nil_append, List.set_cons_zero, List.set_cons_succ]
        refine ⟨_, rfl, rfl, [], rfl, ⟨by decide, fun l hl => absurd hl (by simp)⟩, rfl, rfl, _, rfl, iteF ⟨_, rfl, _, rfl, ?_⟩⟩
        refine compY (fun i acc ρ => ∃ o, acc = (g.take i).map lineD ∧ ρ = [o]) ⟨none, rfl, rfl⟩ ?_ ?_
        · rintro i d acc ρ hd ⟨o, rfl, rfl⟩
          rw [List.getElem?_map] at hd
          obtain ⟨l, hx, rfl⟩ := Option.map_eq_some_iff.mp hd
          exact ⟨_, rfl, _, .inl rfl, cp i, some (lineD l), by rw [List.take_succ, hx, List.map_append]; rfl, rfl⟩
        · rintro acc ρ ⟨o, rfl, rfl⟩
          rw [List.length_map, List.take_length]
          refine ⟨rfl, g, rfl, G, _, rfl, rfl, rfl, _, rfl, ?_⟩
          rw [no_str]
          exact iteF ⟨_, _, _, _, _, rfl⟩
  · rintro ρ ⟨o1, o2, o3, o4, o5, rfl⟩
    refine ⟨sl1 (by show 0 ≤ 1000; decide), rfl, [], rfl, ⟨by decide, fun l hl => absurd hl (by simp)⟩, rfl, rfl, _, rfl, iteT ⟨sl1 (by show 0 ≤ 1000; decide), sl1 (by show 2 ≤ 1000; decide), sl1 (by show 2 ≤ 1000; decide), sl1 (by show 2 ≤ 1000; decide), sl1 (by show 2 ≤ 1000; decide), rfl, [[], [("a", 0), (" ", 12)]], rfl, ⟨by decide, fun l hl => ?_⟩, rfl, rfl, ?_⟩⟩
    · simp only [List.mem_cons, List.not_mem_nil, or_false] at hl
      rcases hl with rfl | rfl
      · exact ⟨by decide, fun p hp => absurd hp (by simp)⟩
      · refine ⟨by decide, fun p hp => ?_⟩
        simp only [List.mem_cons, List.not_mem_nil, or_false] at hp
        rcases hp with rfl | rfl <;> exact ⟨by decide +kernel, by decide, by decide⟩
    · have e : galT [[], [("a", 0), (" ", 12)]] = ("-/0:a 12:_" : Str) := by decide +kernel
      rw [e, pyEq_self 12 _ rfl]; exact hq
theorem ok_law (T : Txt K mg t) : FnOk P w K mg base CX0 4 t.f_law t.d_law ["_law_script"] (spP K 1 .cl sd_law) := by
  have G_d_law_galley := ok_d_law_galley (P := P) (w := w) (base := base) T
  have G_galley_shown := ok_galley_shown (P := P) (w := w) (base := base) T
  have G_d_law_bag := ok_d_law_bag (P := P) (w := w) (base := base) T
  have G_d_law_written := ok_d_law_written (P := P) (w := w) (base := base) T
  exact fnP (κ := κ_law) (T := B_law) T.F_law sc_law (noIo_of rfl) (cl_of rfl) (.inl rfl)
    (fun cdv A outer s H E hr =>
      (dscons (dfor (by intro _; rfl) PassesOwn.never rfl (diR1 rfl (by rfl) T.n_range (facC rfl (fcbC (by rfl) (by decide) (by decide) (by decide) (dc_max2 rfl) (by rfl) T.n_max bt_max (facC rfl dint (facC rfl (fcbC (by rfl) (by decide) (by decide) (by decide) (dc_min2 rfl) (by rfl) T.n_min bt_min (facC rfl dint (facC rfl (fcbC (by rfl) (by decide) (by decide) (by decide) dc_len (by rfl) T.n_len bt_len (facC rfl (dv 0) fanil)) fanil))) fanil))) fanil)) (dgname (i := 1) (.inl rfl) sc_law.nd rfl (Or.inl rfl) (.inl ⟨rfl, rfl⟩)) (dscons (dset (i := 2) (by rfl) (.inl rfl) sc_law.nd rfl (Or.inl rfl) rfl (DE.clean (fclT (by rfl) rfl (by decide) G_d_law_galley rfl (hr.mono (by decide)) (by rfl) T.m_d_law_galley T.k_d_law_galley T.b_d_law_galley pass0 (.inr ⟨_, rfl⟩) (fclC (by rfl) (by decide) (by decide) G_d_law_bag rfl rfl (hr.mono (by decide)) (by rfl) T.m_d_law_bag T.k_d_law_bag T.b_d_law_bag pass0 (facC rfl (dv 0) (facC rfl (dv 1) fanil))) (fanil (pu := true)))))
      (dscons (dsetC2 (i := 3) rfl (by rfl) (by intro _; rfl) rfl sc_law.nd rfl rfl (cap_of rfl) (diL vcl (dv 2)) (compSc_of (N := ["_law_script", "_law_k", "_law_galley_here", "_law_handed", "_law_text", "_law_line"]) (sc := defScope s_law) (Nc := ["_law_line"]) (js := [none]) rfl rfl (by decide +kernel)) (fun pins_ fp_ H_ s_ C_ => ⟨(dgname (i := 0) (.inr rfl) (show (["_law_line"] : List Str).Nodup by decide +kernel) rfl (Or.inl rfl) (.inl ⟨rfl, rfl⟩)), dif0, (fctC (by rfl) (by decide) (by decide) (by decide) dc_list (by rfl) T.n_list bt_list (facC rfl (dv 0) fanil))⟩))
      (dscons (dset (i := 4) (by rfl) (.inl rfl) sc_law.nd rfl (Or.inl rfl) rfl (DE.nol (fclL (by rfl) (by decide) (by decide) G_galley_shown rfl rfl (hr.mono (by decide)) (by rfl) T.m_galley_shown T.k_galley_shown T.b_galley_shown pass0 (facL rfl (dvl 3) fanilL))))
      (dscons (dif (dtw (fwor (dtnot (dtval (by intro _; rfl) (fcbC (by rfl) (by decide) (by decide) (by decide) dc_isi (by rfl) T.n_isinstance bt_isinstance (facC rfl (dv 4) (facC rfl (dty (pty_str (by rfl) T.n_str)) fanil))))) (fwor (ftcmpC (nomark _) (do_ne (room12 hr)) (dv 4) (fclC (by rfl) (by decide) (by decide) G_d_law_written rfl rfl (hr.mono (by decide)) (by rfl) T.m_d_law_written T.k_d_law_written T.b_d_law_written pass0 (facC rfl (dv 2) fanil))) (dwor1 (ftcmpL (nomark _) (do_ne (room12 hr)) (dvl 3) (DE.loose (dv 2))))))) (dsone (dret dbl)) dsnil)
      (dscons (dclrA (i := 3) (j := 5) (by decide) rfl (by intro _; rfl) PassesOwn.never rfl (by rfl) (by rfl) (by rfl) sc_law.nd rfl (by first | exact Or.inl rfl | exact Or.inr (Or.inl rfl) | exact Or.inr (Or.inr rfl)) (by decide) (by decide) rfl (by first | exact Or.inl rfl | exact Or.inr (Or.inl rfl) | exact Or.inr (Or.inr rfl)) (by decide) (by decide) (Or.inl rfl) (.inl rfl) rfl rfl)
      (dscons (dif (ftcmpL (nomark _) (do_ne (room12 hr)) (fclL (by rfl) (by decide) (by decide) G_galley_shown rfl rfl (hr.mono (by decide)) (by rfl) T.m_galley_shown T.k_galley_shown T.b_galley_shown pass0 (facL rfl (dvl 3) fanilL)) (DE.loose (fclC (by rfl) (by decide) (by decide) G_d_law_written rfl rfl (hr.mono (by decide)) (by rfl) T.m_d_law_written T.k_d_law_written T.b_d_law_written pass0 (facC rfl (DE.clean (dcomp (lo := false) (by intro _; rfl) rfl (fun _ => cap_of rfl) (fun h => by cases h) (diL vcl (dv 2)) (compSc_of (N := ["_law_script", "_law_k", "_law_galley_here", "_law_handed", "_law_text", "_law_line"]) (sc := defScope s_law) (Nc := ["_law_line"]) (js := [none]) rfl rfl (by decide +kernel)) (fun pins_ fp_ H_ s_ C_ => ⟨(dgname (i := 0) (.inr rfl) (show (["_law_line"] : List Str).Nodup by decide +kernel) rfl (Or.inl rfl) (.inl ⟨rfl, rfl⟩)), dif0, (DE.clean (flstC (fanil (pu := true))))⟩))) fanil)))) (dsone (dret dbl)) dsnil)
      (dscons (dclear2 (i := 3) (by rfl) (by rfl) (by rfl) rfl (by first | exact Or.inl rfl | exact Or.inr (Or.inl rfl) | exact Or.inr (Or.inr rfl)) (by decide) (by decide) rfl)
      (dsone (dif (dtw (fwor (ftcmpL (nomark _) (do_ne (room12 hr)) (fclL (by rfl) (by decide) (by decide) G_galley_shown rfl rfl (hr.mono (by decide)) (by rfl) T.m_galley_shown T.k_galley_shown T.b_galley_shown pass0 (facL rfl (dvl 3) fanilL)) (DE.loose dstr)) (dwor1 (ftcmpC (nomark _) (do_ne (room12 hr)) (fclC (by rfl) (by decide) (by decide) G_galley_shown rfl rfl (hr.mono (by decide)) (by rfl) T.m_galley_shown T.k_galley_shown T.b_galley_shown pass0 (facC rfl (DE.clean (dcomp (lo := false) (by intro _; rfl) rfl (fun _ => cap_of rfl) (fun h => by cases h) (diL vcl (dv 2)) (compSc_of (N := ["_law_script", "_law_k", "_law_galley_here", "_law_handed", "_law_text", "_law_line"]) (sc := defScope s_law) (Nc := ["_law_line"]) (js := [none]) rfl rfl (by decide +kernel)) (fun pins_ fp_ H_ s_ C_ => ⟨(dgname (i := 0) (.inr rfl) (show (["_law_line"] : List Str).Nodup by decide +kernel) rfl (Or.inl rfl) (.inl ⟨rfl, rfl⟩)), dif0, (DE.clean (fctC (by rfl) (by decide) (by decide) (by decide) dc_list (by rfl) T.n_list bt_list (facC rfl (dv 0) fanil)))⟩))) fanil)) (dv 4))))) (dsone (dret dbl)) dsnil))))))))))
      (dsone (dret (fand (fcmpC (nomark _) (do_eq (room12 hr)) (fclC (by rfl) (by decide) (by decide) G_galley_shown rfl rfl (hr.mono (by decide)) (by rfl) T.m_galley_shown T.k_galley_shown T.b_galley_shown pass0 (facC rfl (DE.clean (flstC (fanil (pu := true)))) fanil)) dstr) (done (fcmpC (nomark _) (do_eq (room12 hr)) (fclC (by rfl) (by decide) (by decide) G_galley_shown rfl rfl (hr.mono (by decide)) (by rfl) T.m_galley_shown T.k_galley_shown T.b_galley_shown pass0 (facC rfl (DE.clean (flstC (facC rfl (DE.clean (flstC (fanil (pu := true)))) (facC rfl (DE.clean (flstC (facC rfl (ftupC (facC rfl dstr (facC rfl dint fanil))) (facC rfl (ftupC (facC rfl dstr (facC rfl dint fanil))) fanil)))) fanil)))) fanil)) dstr))))))) body_law
end
end Rc

namespace Rc
open PySem L2
def LawD (t : Adr) : Prop := ∃ (kV dc pm : Value) (an : Option Addr) (cd ct : Value), t.d_law = PySem.W.fnOf "law" "law" (defArgs s_law) (defBody s_law) (defScope s_law) .none kV dc pm an cd ct
theorem txt_mk {w : World} {K : PySem.W.Frag} {h : Heap} {mg : Str → Option Value} {f0 f1 f2 f3 f4 f5 f6 f7 f8 f9 f10 : Addr} (X : K.In h) (G : h.Ns mainGlobals mg)
    {od0 an0 : Option Addr} {sl0 : Array (Option Value)} {oc0 kV0 dc0 pm0 cd0 ct0 : Value}
    {od1 an1 : Option Addr} {sl1 : Array (Option Value)} {oc1 kV1 dc1 pm1 cd1 ct1 : Value}
    {od2 an2 : Option Addr} {sl2 : Array (Option Value)} {oc2 kV2 dc2 pm2 cd2 ct2 : Value}
    {od3 an3 : Option Addr} {sl3 : Array (Option Value)} {oc3 kV3 dc3 pm3 cd3 ct3 : Value}
    {od4 an4 : Option Addr} {sl4 : Array (Option Value)} {oc4 kV4 dc4 pm4 cd4 ct4 : Value}
    {od5 an5 : Option Addr} {sl5 : Array (Option Value)} {oc5 kV5 dc5 pm5 cd5 ct5 : Value}
    {od6 an6 : Option Addr} {sl6 : Array (Option Value)} {oc6 kV6 dc6 pm6 cd6 ct6 : Value}
    {od7 an7 : Option Addr} {sl7 : Array (Option Value)} {oc7 kV7 dc7 pm7 cd7 ct7 : Value}
    {od8 an8 : Option Addr} {sl8 : Array (Option Value)} {oc8 kV8 dc8 pm8 cd8 ct8 : Value}
    {od9 an9 : Option Addr} {sl9 : Array (Option Value)} {oc9 kV9 dc9 pm9 cd9 ct9 : Value}
    {od10 an10 : Option Addr} {sl10 : Array (Option Value)} {oc10 kV10 dc10 pm10 cd10 ct10 : Value}
    {tk0 : Tok}
    {tk1 : Tok}
    {tk2 : Tok}
    {tk3 : Tok}
    (a0 : PySem.W.nsIn K mainGlobals "slashed" = some (some (.ref f0))) (l0 : K.lookup f0 = some ⟨oc0, od0, .func (PySem.W.fnOf "slashed" "slashed" (defArgs s_slashed) (defBody s_slashed) (defScope s_slashed) .none kV0 dc0 pm0 an0 cd0 ct0), sl0⟩) (c0 : PySem.W.codeIn K cd0 "slashed" = true) (k0 : PySem.W.keepIn K (.ref f0) = true)
    (a1 : PySem.W.nsIn K mainGlobals "piece_shown" = some (some (.ref f1))) (l1 : K.lookup f1 = some ⟨oc1, od1, .func (PySem.W.fnOf "piece_shown" "piece_shown" (defArgs s_piece_shown) (defBody s_piece_shown) (defScope s_piece_shown) .none kV1 dc1 pm1 an1 cd1 ct1), sl1⟩) (c1 : PySem.W.codeIn K cd1 "piece_shown" = true) (k1 : PySem.W.keepIn K (.ref f1) = true)
    (a2 : PySem.W.nsIn K mainGlobals "line_shown" = some (some (.ref f2))) (l2 : K.lookup f2 = some ⟨oc2, od2, .func (PySem.W.fnOf "line_shown" "line_shown" (defArgs s_line_shown) (defBody s_line_shown) (defScope s_line_shown) .none kV2 dc2 pm2 an2 cd2 ct2), sl2⟩) (c2 : PySem.W.codeIn K cd2 "line_shown" = true) (k2 : PySem.W.keepIn K (.ref f2) = true)
    (a3 : PySem.W.nsIn K mainGlobals "galley_shown" = some (some (.ref f3))) (l3 : K.lookup f3 = some ⟨oc3, od3, .func (PySem.W.fnOf "galley_shown" "galley_shown" (defArgs s_galley_shown) (defBody s_galley_shown) (defScope s_galley_shown) .none kV3 dc3 pm3 an3 cd3 ct3), sl3⟩) (c3 : PySem.W.codeIn K cd3 "galley_shown" = true) (k3 : PySem.W.keepIn K (.ref f3) = true)
    (a4 : PySem.W.nsIn K mainGlobals "_law_cell" = some (some (.ref f4))) (l4 : K.lookup f4 = some ⟨oc4, od4, .func (PySem.W.fnOf "_law_cell" "_law_cell" (defArgs s_d_law_cell) (defBody s_d_law_cell) (defScope s_d_law_cell) .none kV4 dc4 pm4 an4 cd4 ct4), sl4⟩) (c4 : PySem.W.codeIn K cd4 "_law_cell" = true) (k4 : PySem.W.keepIn K (.ref f4) = true)
    (a5 : PySem.W.nsIn K mainGlobals "_law_bag" = some (some (.ref f5))) (l5 : K.lookup f5 = some ⟨oc5, od5, .func (PySem.W.fnOf "_law_bag" "_law_bag" (defArgs s_d_law_bag) (defBody s_d_law_bag) (defScope s_d_law_bag) .none kV5 dc5 pm5 an5 cd5 ct5), sl5⟩) (c5 : PySem.W.codeIn K cd5 "_law_bag" = true) (k5 : PySem.W.keepIn K (.ref f5) = true)
    (a6 : PySem.W.nsIn K mainGlobals "_law_take" = some (some (.ref f6))) (l6 : K.lookup f6 = some ⟨oc6, od6, .func (PySem.W.fnOf "_law_take" "_law_take" (defArgs s_d_law_take) (defBody s_d_law_take) (defScope s_d_law_take) .none kV6 dc6 pm6 an6 cd6 ct6), sl6⟩) (c6 : PySem.W.codeIn K cd6 "_law_take" = true) (k6 : PySem.W.keepIn K (.ref f6) = true)
    (a7 : PySem.W.nsIn K mainGlobals "_law_figures" = some (some (.ref f7))) (l7 : K.lookup f7 = some ⟨oc7, od7, .func (PySem.W.fnOf "_law_figures" "_law_figures" (defArgs s_d_law_figures) (defBody s_d_law_figures) (defScope s_d_law_figures) .none kV7 dc7 pm7 an7 cd7 ct7), sl7⟩) (c7 : PySem.W.codeIn K cd7 "_law_figures" = true) (k7 : PySem.W.keepIn K (.ref f7) = true)
    (a8 : PySem.W.nsIn K mainGlobals "_law_written" = some (some (.ref f8))) (l8 : K.lookup f8 = some ⟨oc8, od8, .func (PySem.W.fnOf "_law_written" "_law_written" (defArgs s_d_law_written) (defBody s_d_law_written) (defScope s_d_law_written) .none kV8 dc8 pm8 an8 cd8 ct8), sl8⟩) (c8 : PySem.W.codeIn K cd8 "_law_written" = true) (k8 : PySem.W.keepIn K (.ref f8) = true)
    (a9 : PySem.W.nsIn K mainGlobals "_law_galley" = some (some (.ref f9))) (l9 : K.lookup f9 = some ⟨oc9, od9, .func (PySem.W.fnOf "_law_galley" "_law_galley" (defArgs s_d_law_galley) (defBody s_d_law_galley) (defScope s_d_law_galley) .none kV9 dc9 pm9 an9 cd9 ct9), sl9⟩) (c9 : PySem.W.codeIn K cd9 "_law_galley" = true) (k9 : PySem.W.keepIn K (.ref f9) = true)
    (a10 : PySem.W.nsIn K mainGlobals "law" = some (some (.ref f10))) (l10 : K.lookup f10 = some ⟨oc10, od10, .func (PySem.W.fnOf "law" "law" (defArgs s_law) (defBody s_law) (defScope s_law) .none kV10 dc10 pm10 an10 cd10 ct10), sl10⟩) (c10 : PySem.W.codeIn K cd10 "law" = true) (k10 : PySem.W.keepIn K (.ref f10) = true)
    (z_abs : PySem.W.nsIn K mainGlobals "abs" = some none)
    (z_isinstance : PySem.W.nsIn K mainGlobals "isinstance" = some none)
    (z_len : PySem.W.nsIn K mainGlobals "len" = some none)
    (z_list : PySem.W.nsIn K mainGlobals "list" = some none)
    (z_max : PySem.W.nsIn K mainGlobals "max" = some none)
    (z_min : PySem.W.nsIn K mainGlobals "min" = some none)
    (z_range : PySem.W.nsIn K mainGlobals "range" = some none)
    (z_str : PySem.W.nsIn K mainGlobals "str" = some none)
    (q_BLANK : PySem.W.nsIn K mainGlobals "BLANK" = some (some (.str " " tk0)))
    (q_EMPTY : PySem.W.nsIn K mainGlobals "EMPTY" = some (some (.str "-" tk1)))
    (q_NOTHING : PySem.W.nsIn K mainGlobals "NOTHING" = some (some (.str "none" tk2)))
    (q_SHOWN_BLANK : PySem.W.nsIn K mainGlobals "SHOWN_BLANK" = some (some (.str "_" tk3))) :
    ∃ t : Adr, Txt K mg t ∧ LawD t := by
  have F0 := fun_mk (st := s_slashed) l0 c0 k0
  have F1 := fun_mk (st := s_piece_shown) l1 c1 k1
  have F2 := fun_mk (st := s_line_shown) l2 c2 k2
  have F3 := fun_mk (st := s_galley_shown) l3 c3 k3
  have F4 := fun_mk (st := s_d_law_cell) l4 c4 k4
  have F5 := fun_mk (st := s_d_law_bag) l5 c5 k5
  have F6 := fun_mk (st := s_d_law_take) l6 c6 k6
  have F7 := fun_mk (st := s_d_law_figures) l7 c7 k7
  have F8 := fun_mk (st := s_d_law_written) l8 c8 k8
  have F9 := fun_mk (st := s_d_law_galley) l9 c9 k9
  have F10 := fun_mk (st := s_law) l10 c10 k10
  refine ⟨⟨f0, _, f1, _, f2, _, f3, _, f4, _, f5, _, f6, _, f7, _, f8, _, f9, _, f10, _⟩, ⟨
    F0, PySem.W.mg_of X G a0, k0, F0.binds (ps := ["texts"]) fun _ _ _ _ _ _ us hl => match us, hl with | [_], _ => rfl,
    F1, PySem.W.mg_of X G a1, k1, F1.binds (ps := ["piece"]) fun _ _ _ _ _ _ us hl => match us, hl with | [_], _ => rfl,
    F2, PySem.W.mg_of X G a2, k2, F2.binds (ps := ["line"]) fun _ _ _ _ _ _ us hl => match us, hl with | [_], _ => rfl,
    F3, PySem.W.mg_of X G a3, k3, F3.binds (ps := ["galley"]) fun _ _ _ _ _ _ us hl => match us, hl with | [_], _ => rfl,
    F4, PySem.W.mg_of X G a4, k4, F4.binds (ps := ["_law_script", "_law_k"]) fun _ _ _ _ _ _ us hl => match us, hl with | [_, _], _ => rfl,
    F5, PySem.W.mg_of X G a5, k5, F5.binds (ps := ["_law_script", "_law_at"]) fun _ _ _ _ _ _ us hl => match us, hl with | [_, _], _ => rfl,
    F6, PySem.W.mg_of X G a6, k6, F6.binds (ps := ["_law_bag_here", "_law_many"]) fun _ _ _ _ _ _ us hl => match us, hl with | [_, _], _ => rfl,
    F7, PySem.W.mg_of X G a7, k7, F7.binds (ps := ["_law_number"]) fun _ _ _ _ _ _ us hl => match us, hl with | [_], _ => rfl,
    F8, PySem.W.mg_of X G a8, k8, F8.binds (ps := ["_law_galley_here"]) fun _ _ _ _ _ _ us hl => match us, hl with | [_], _ => rfl,
    F9, PySem.W.mg_of X G a9, k9, F9.binds (ps := ["_law_bag_here"]) fun _ _ _ _ _ _ us hl => match us, hl with | [_], _ => rfl,
    F10, PySem.W.mg_of X G a10, k10, F10.binds (ps := ["_law_script"]) fun _ _ _ _ _ _ us hl => match us, hl with | [_], _ => rfl,
    PySem.W.mg_none_of X G z_abs,
    PySem.W.mg_none_of X G z_isinstance,
    PySem.W.mg_none_of X G z_len,
    PySem.W.mg_none_of X G z_list,
    PySem.W.mg_none_of X G z_max,
    PySem.W.mg_none_of X G z_min,
    PySem.W.mg_none_of X G z_range,
    PySem.W.mg_none_of X G z_str,
    ⟨_, PySem.W.mg_of X G q_BLANK⟩,
    ⟨_, PySem.W.mg_of X G q_EMPTY⟩,
    ⟨_, PySem.W.mg_of X G q_NOTHING⟩,
    ⟨_, PySem.W.mg_of X G q_SHOWN_BLANK⟩⟩, _, _, _, _, _, _, rfl⟩
theorem walk {l : PySem.W.OpenLaw} {q : Program} {loose : List Str} {XP : (Str → Option Value) → Heap → Prop} {YP : World → Heap → Prop} {d : DefRec} {K : Params → PySem.W.Frag} (hn : l.most = some 63) (hdf : d.params.defaults = [])
    (hY : ∀ (w : World) (h : Heap), YP w h → (K w.params).In h)
    (F : ∀ (w : World) (mg : Str → Option Value) (fa : Addr) (h : Heap), (K w.params).In h → h.Ns mainGlobals mg → mg d.name = some (.ref fa) →
      ∃ fd : FuncData, (∀ (s : Shared) (u : Value), BindsTo s fd ⟨[u], []⟩ [("_law_script", u)]) ∧ ∀ base : Heap, (K w.params).In base → base.Ns mainGlobals mg → FnOk l.prog w (K w.params) mg base CX0 4 fa fd ["_law_script"] (spP (K w.params) 1 .cl sd_law)) :
    PySem.W.WalkO q loose XP YP l.row.toRowW d [] (fun f vs => PySem.call f vs) :=
  L2.walk_of (n := 63) (k := 4) (x := "_law_script") (CX := fun _ => CX0) (sp := fun w => spP (K w.params) 1 .cl sd_law) hn (by decide) hdf ⟨rfl, by decide, by decide⟩ hY F (fun _ _ a ns hl hO hS => spLaw hl hO hS) fun _ _ _ _ _ z => z
end Rc
open PySem PySem.W PyProof.Rows
set_option maxRecDepth 100000 in
set_option maxHeartbeats 0 in
theorem PySem.Challenge.cw_ribboncast_k74_galleys_written_holds : PySem.Challenge.rw_ribboncast_k74_galleys_written.Holds := by
  w_on; o_law; k_head; (case hw => w_witness2)
  k_fill
  refine Rc.walk (l := PySem.Challenge.rw_ribboncast_k74_galleys_written) rfl rfl (fun w h Y => PySem.W.kIn_of Y) ?F
  case F =>
    intro w mg fa h KX G hmg
    have T : ∃ t : Rc.Adr, Rc.Txt (L2.KOf KX) mg t ∧ Rc.LawD t := by
      dsimp only [L2.KOf]
      refine' Rc.txt_mk (w := w) KX G ?a0 ?l0 ?c0 ?k0 ?a1 ?l1 ?c1 ?k1 ?a2 ?l2 ?c2 ?k2 ?a3 ?l3 ?c3 ?k3 ?a4 ?l4 ?c4 ?k4 ?a5 ?l5 ?c5 ?k5 ?a6 ?l6 ?c6 ?k6 ?a7 ?l7 ?c7 ?k7 ?a8 ?l8 ?c8 ?k8 ?a9 ?l9 ?c9 ?k9 ?a10 ?l10 ?c10 ?k10 ?z_abs ?z_isinstance ?z_len ?z_list ?z_max ?z_min ?z_range ?z_str ?q_BLANK ?q_EMPTY ?q_NOTHING ?q_SHOWN_BLANK
      (case a0 => k_is)
      (case l0 => k_is)
      (case c0 => k_is)
      (case k0 => k_is)
      (case a1 => k_is)
      (case l1 => k_is)
      (case c1 => k_is)
      (case k1 => k_is)
      (case a2 => k_is)
      (case l2 => k_is)
      (case c2 => k_is)
      (case k2 => k_is)
      (case a3 => k_is)
      (case l3 => k_is)
      (case c3 => k_is)
      (case k3 => k_is)
      (case a4 => k_is)
      (case l4 => k_is)
      (case c4 => k_is)
      (case k4 => k_is)
      (case a5 => k_is)
      (case l5 => k_is)
      (case c5 => k_is)
      (case k5 => k_is)
      (case a6 => k_is)
      (case l6 => k_is)
      (case c6 => k_is)
      (case k6 => k_is)
      (case a7 => k_is)
      (case l7 => k_is)
      (case c7 => k_is)
      (case k7 => k_is)
      (case a8 => k_is)
      (case l8 => k_is)
      (case c8 => k_is)
      (case k8 => k_is)
      (case a9 => k_is)
      (case l9 => k_is)
      (case c9 => k_is)
      (case k9 => k_is)
      (case a10 => k_is)
      (case l10 => k_is)
      (case c10 => k_is)
      (case k10 => k_is)
      (case z_abs => k_is)
      (case z_isinstance => k_is)
      (case z_len => k_is)
      (case z_list => k_is)
      (case z_max => k_is)
      (case z_min => k_is)
      (case z_range => k_is)
      (case z_str => k_is)
      (case q_BLANK => k_is)
      (case q_EMPTY => k_is)
      (case q_NOTHING => k_is)
      (case q_SHOWN_BLANK => k_is)
    obtain ⟨t, T, _, _, _, _, _, _, e2⟩ := T
    dsimp only [L2.KOf] at T
    have e0 := hmg.symm.trans T.m_law
    cases e0
    refine ⟨t.d_law, fun s u => ?_, fun base _ _ => Rc.ok_law T⟩
    rw [e2]; exact .of_eq rfl
#print axioms PySem.Challenge.cw_ribboncast_k74_galleys_written_holds
