import PyProof.Rows.All
import Wide.All
import OpenK.AllK
import Wide.FinOn
import Lean
import PyProof.EqAt
import PyProof.EqKinds
import PyProof.TupleCall
import PyProof.NeKinds
import PyProof.Draws
import PyProof.EnumMake
import PyProof.DictWalks
import PyProof.Rows.SortStr
import PyProof.SumWalk
import PyProof.ZipIter
import PyProof.Rows.ZipGen
import KE.KDictSum
import PyProof.DictCompW
import PyProof.Rows.FStr
import PyProof.Rows.FStrParts
import PyProof.Rows.StrIntSpec
import PyProof.StrOps2
import PyProof.StrWalks
import PyProof.FString5
import PyProof.Rows.SetFrom
import PyProof.StrCalls2
import PyProof.StrLawsTight
import PyProof.StrLawsChain
import KE.KIntText
import PyProof.DictItems
import KE.KPairComp
import KE.KDictLaws
import PyProof.MinMaxWalk
import PyProof.WalkInts
import PySem.Challenge.RW_ribboncast_k21_laid_out_by_all_ways
set_option Elab.async false
set_option linter.all false
set_option maxRecDepth 100000
namespace L2
open PySem PySem.Spec PyProof.Rows
abbrev Key := Sum Int Str
def keyIs : Key → Value → Bool
  | .inl k, v => Value.isInt k v
  | .inr x, v => Value.isStrOf x v
def keyH (w : World) : Key → Int
  | .inl k => hashInt k
  | .inr x => hashStr w x
theorem keyIs_shape : ∀ {k : Key} {v : Value}, keyIs k v = true → (∃ i t, k = Sum.inl i ∧ v = Value.int i t) ∨ (∃ x t, k = Sum.inr x ∧ v = Value.str x t)
  | .inl i, v, h => by
    obtain ⟨t, e⟩ := Value.isInt_shape (k := i) (v := v) h
    exact .inl ⟨i, t, rfl, e⟩
  | .inr x, v, h => by
    obtain ⟨t, e⟩ := Value.isStrOf_shape (x := x) (v := v) h
    exact .inr ⟨x, t, rfl, e⟩
theorem keyIs_int (i : Int) (t : Tok) : keyIs (.inl i) (.int i t) = true := by simp [keyIs, Value.isInt]
theorem keyIs_str (x : Str) (t : Tok) : keyIs (.inr x) (.str x t) = true := by simp [keyIs, Value.isStrOf]
theorem key_ll (a b : Int) : decide ((Sum.inl a : Key) = Sum.inl b) = (a == b) := by
  by_cases e : a = b
  · subst e; simp
  · have h : ¬ (Sum.inl a : Key) = Sum.inl b := fun q => e (Sum.inl.inj q)
    rw [decide_eq_false h]
    exact (beq_eq_false_iff_ne.mpr e).symm
theorem key_rr (a b : Str) : decide ((Sum.inr a : Key) = Sum.inr b) = decide (a = b) := by
  by_cases e : a = b
  · subst e; simp
  · have h : ¬ (Sum.inr a : Key) = Sum.inr b := fun q => e (Sum.inr.inj q)
    rw [decide_eq_false h, decide_eq_false e]
theorem key_lr (a : Int) (b : Str) : decide ((Sum.inl a : Key) = Sum.inr b) = false := decide_eq_false (fun q => nomatch q)
theorem key_rl (a : Str) (b : Int) : decide ((Sum.inr a : Key) = Sum.inl b) = false := decide_eq_false (fun q => nomatch q)
def mixKind (prog : Program) (w : World) : PySem.KeyKind prog w Key where
  is := keyIs
  hash := keyH w
  inj := fun v a b ha hb => by
    rcases keyIs_shape ha with ⟨i, t, rfl, rfl⟩ | ⟨x, t, rfl, rfl⟩
    · rcases keyIs_shape hb with ⟨j, u, rfl, e⟩ | ⟨y, u, rfl, e⟩
      · injection e with e1 _; rw [e1]
      · exact nomatch e
    · rcases keyIs_shape hb with ⟨j, u, rfl, e⟩ | ⟨y, u, rfl, e⟩
      · exact nomatch e
      · injection e with e1 _; rw [e1]
  byValue := fun k v h => by
    rcases keyIs_shape h with ⟨i, t, rfl, rfl⟩ | ⟨x, t, rfl, rfl⟩ <;> rfl
  pyHash := fun hv h => by
    rcases keyIs_shape hv with ⟨i, t, rfl, rfl⟩ | ⟨x, t, rfl, rfl⟩
    · exact wpAny_pyHash_int h
    · exact wpAny_pyHash_str h
  eqBool := fun hu hv h => by
    rcases keyIs_shape hu with ⟨i, t, rfl, rfl⟩ | ⟨x, t, rfl, rfl⟩
    · rcases keyIs_shape hv with ⟨j, u, rfl, rfl⟩ | ⟨y, u, rfl, rfl⟩
      · rw [key_ll] at h; exact wpAny_eqBool_int h
      · rw [key_lr] at h; exact SeqAt.EqAt.int_str i t y u _ _ _ _ h
    · rcases keyIs_shape hv with ⟨j, u, rfl, rfl⟩ | ⟨y, u, rfl, rfl⟩
      · rw [key_rl] at h; exact SeqAt.EqAt.str_int x t j u _ _ _ _ h
      · rw [key_rr] at h; exact wpAny_eqBool_str h
  «strs» := fun k x t v h => by
    rcases keyIs_shape h with ⟨i, u, rfl, e⟩ | ⟨y, u, rfl, e⟩
    · exact nomatch e
    · injection e with e1 _
      subst e1
      cases v <;> rfl
theorem mixKind_int (prog : Program) (w : World) (i : Int) (t : Tok) : (mixKind prog w).is (.inl i) (.int i t) = true := keyIs_int i t
theorem mixKind_str (prog : Program) (w : World) (x : Str) (t : Tok) : (mixKind prog w).is (.inr x) (.str x t) = true := keyIs_str x t
inductive V where
  | non | bl (b : Bool) | int (i : Int) | str (x : Str) | byt (b : Array UInt8) | flt (b : UInt64) | ref (a : Addr) | ty (n : String)
  deriving DecidableEq
def RelV : V → Value → Prop
  | .non, u => u = Value.none
  | .bl b, u => u = Value.bool b
  | .int i, u => ∃ t, u = Value.int i t
  | .str x, u => ∃ t, u = Value.str x t
  | .byt b, u => ∃ t, u = Value.bytes b t
  | .flt b, u => ∃ t, u = Value.float b t
  | .ref a, u => u = Value.ref a
  | .ty n, u => u = Value.type n
abbrev Vals : List V → List Value → Prop := Paired RelV
theorem Vals.length {xs : List V} {us : List Value} (r : Vals xs us) : xs.length = us.length := Paired.length r
theorem Vals.get : ∀ {xs : List V} {us : List Value} {i : Nat} {x : V}, Vals xs us → xs[i]? = some x → ∃ u, us[i]? = some u ∧ RelV x u
  | _, _, _, _, .nil, e => by simp at e
  | _, _, 0, _, .cons r _, e => by simp at e; subst e; exact ⟨_, rfl, r⟩
  | _, _, i + 1, x, .cons _ t, e => by
    obtain ⟨u, h1, h2⟩ := Vals.get (i := i) (x := x) t (by simpa using e)
    exact ⟨u, by simpa using h1, h2⟩
theorem Vals.set {x : V} {u : Value} (r : RelV x u) : ∀ {xs : List V} {us : List Value} (i : Nat), Vals xs us → Vals (xs.set i x) (us.set i u)
  | _, _, _, .nil => .nil
  | _, _, 0, .cons _ t => .cons r t
  | _, _, i + 1, .cons q t => .cons q (Vals.set r i t)
theorem Vals.append : ∀ {xs ys : List V} {us ws : List Value}, Vals xs us → Vals ys ws → Vals (xs ++ ys) (us ++ ws)
  | _, _, _, _, .nil, s => s
  | _, _, _, _, .cons r t, s => .cons r (Vals.append t s)
theorem Vals.take : ∀ {xs : List V} {us : List Value} (n : Nat), Vals xs us → Vals (xs.take n) (us.take n)
  | _, _, 0, _ => .nil
  | _, _, _ + 1, .nil => .nil
  | _, _, n + 1, .cons r t => .cons r (Vals.take n t)
theorem Vals.drop : ∀ {xs : List V} {us : List Value} (n : Nat), Vals xs us → Vals (xs.drop n) (us.drop n)
  | _, _, 0, r => r
  | _, _, _ + 1, .nil => .nil
  | _, _, n + 1, .cons _ t => Vals.drop n t
def RelO : Option V → Option Value → Prop
  | some v, some u => RelV v u
  | none, none => True
  | _, _ => False
def KV {κ : Type} : List (κ × V) → List (κ × Value) → Prop := Paired fun (p : κ × V) (q : κ × Value) => p.1 = q.1 ∧ RelV p.2 q.2
def kV : Key → V
  | .inl i => .int i
  | .inr x => .str x
inductive HO where
  | lst (xs : List V)
  | tup (xs : List V)
  | dK (kvs : List (Key × V)) | dT (kvs : List (List Key × V))
  | set (S : Int → Bool) (n : Nat)
  | ins (C dx : Addr) (fs : List (Str × V))
  | own (x : Addr)
  | xd (fs : List (Str × V))
  | met (f x : Addr)
  | rng (lo hi : Int)
  | frz (o : Obj) (u : HO)
  | tbl (ps : Array Value)
  | ext (φ : Heap → Prop)
  | dU (kvs : List (List Key × Addr × V))
abbrev Hp := Addr → Option HO
def upd (H : Hp) (a : Addr) (o : HO) : Hp := fun b => if b = a then some o else H b
theorem upd_same {H : Hp} {a : Addr} {o : HO} : upd H a o a = some o := by unfold upd; rw [if_pos rfl]
theorem upd_ne {H : Hp} {a b : Addr} {o : HO} (h : b ≠ a) : upd H a o b = H b := by unfold upd; rw [if_neg h]
theorem ne_of_none {H : Hp} {a b : Addr} {o : HO} (h : H a = some o) (h' : H b = none) : a ≠ b := by
  intro e; subst e; rw [h] at h'; cases h'
section
variable (P : Program) (w : World)
def ObjOk (H : Hp) (h : Heap) (a : Addr) : HO → Prop
  | .lst xs => xs.length ≤ sizeLine ∧ ∃ (its : List Value) (n : Nat), Vals xs its ∧ h.get? a = some { cls := .type "list", data := .seq its.toArray n }
  | .tup xs => xs.length ≤ sizeLine ∧ ∃ its : List Value, Vals xs its ∧ IsTup h a its.toArray
  | .dK kvs => kvs.length ≤ sizeLine ∧ (a == sysModules) = false ∧ ∃ vs, KV kvs vs ∧ h.DictOf (mixKind P w) a vs
  | .dT kvs => kvs.length ≤ sizeLine ∧ (a == sysModules) = false ∧ ∃ xs : List (List Key × Addr × Value),
      Paired (fun (p : List Key × V) (q : List Key × Addr × Value) => p.1 = q.1 ∧ H q.2.1 = some (.tup (p.1.map kV)) ∧ RelV p.2 q.2.2) kvs xs ∧
      ∃ o es ep, h.get? a = some o ∧ o.ExactDict ∧ o.data = .dict es ep ∧ es.toList = xs.map (entryOfKey (tupleKind (mixKind P w))) ∧ (xs.map (·.1)).Nodup
  | .set S n => h.SetOf (intKind P w) a S n
  | .ins C dx fs => H dx = some (.own a) ∧ fs.length ≤ 1000 ∧ dx ≠ a ∧ h.get? a = some (PySem.W.instObj C dx) ∧
      ∃ mA, h.Ns1 dx mA ∧ (∀ f, RelO (fs.lookup f) (mA f)) ∧ PySem.Within mA (fs.map (·.1))
  | .own _ => ∃ o, h.get? a = some o
  | .xd fs => ∃ mA, h.Ns1 a mA ∧ ∀ f, RelO (fs.lookup f) (mA f)
  | .rng lo hi => ∃ t u v, h.get? a = some { cls := .type "range", data := .fields #[.int lo t, .int hi u, .int 1 v] }
  | .frz o u => h.get? a = some o ∧ ObjOk H h a u
  | .tbl ps => h.get? a = some { cls := .none, data := .fields ps }
  | .met f x => h.get? a = some (PySem.W.methodObj (.ref f) (.ref x))
  | .ext φ => φ h ∧ (∃ o, h.get? a = some o) ∧ ∀ h1 h2 : Heap, φ h1 → (∀ o, h1.get? a = some o → h2.get? a = some o) → φ h2
  | .dU kvs => kvs.length ≤ sizeLine ∧ (a == sysModules) = false ∧ ∃ xs : List (List Key × Addr × Value), Paired (fun (p : List Key × Addr × V) (q : List Key × Addr × Value) => p.1 = q.1 ∧ p.2.1 = q.2.1 ∧ RelV p.2.2 q.2.2) kvs xs ∧
      ∃ o es ep, h.get? a = some o ∧ o.ExactDict ∧ o.data = .dict es ep ∧ es.toList = xs.map (entryOfKey (tupleKind (mixKind P w))) ∧ (xs.map (·.1)).Nodup
def HOk (H : Hp) (h : Heap) : Prop := ∀ a o, H a = some o → ObjOk P w H h a o
end
section
variable {P : Program} {w : World} {H H' : Hp} {h h' : Heap} {a : Addr} {o : HO}
theorem ObjOk.lt (x : ObjOk P w H h a o) : a < h.objs.size := by
  cases o with
  | lst xs => obtain ⟨_, _, _, _, e⟩ := x; exact Heap.lt_size e
  | tup xs => obtain ⟨_, _, _, p⟩ := x; exact p.lt
  | dK kvs => obtain ⟨_, _, _, _, o, _, _, e, _⟩ := x; exact Heap.lt_size e
  | dT kvs => obtain ⟨_, _, _, _, o, _, _, e, _⟩ := x; exact Heap.lt_size e
  | set S n => obtain ⟨o, _, _, _, e, _⟩ := x; exact Heap.lt_size e
  | ins C dx fs => obtain ⟨_, _, _, e, _⟩ := x; exact Heap.lt_size e
  | own y => obtain ⟨_, e⟩ := x; exact Heap.lt_size e
  | xd fs => obtain ⟨_, ⟨_, _, _, e, _⟩, _⟩ := x; exact Heap.lt_size e
  | rng lo hi => obtain ⟨_, _, _, e⟩ := x; exact Heap.lt_size e
  | frz ob u => obtain ⟨e, _⟩ := x; exact Heap.lt_size e
  | tbl ps => exact Heap.lt_size (show h.get? a = some _ from x)
  | met f y => exact Heap.lt_size (show h.get? a = some _ from x)
  | ext φ => obtain ⟨_, ⟨_, e⟩, _⟩ := x; exact Heap.lt_size e
  | dU kvs => obtain ⟨_, _, _, _, o, _, _, e, _⟩ := x; exact Heap.lt_size e
theorem Paired.mapP {α β : Type} {F G : α → β → Prop} : ∀ {l₁ : List α} {l₂ : List β}, Paired F l₁ l₂ → (∀ a b, F a b → G a b) → Paired G l₁ l₂
  | _, _, .nil, _ => .nil
  | _, _, .cons r t, f => .cons (f _ _ r) (Paired.mapP t f)
theorem ObjOk.stay (x : ObjOk P w H h a o) (k : ∀ b u, (b = a ∨ H b = some (.own a)) → h.get? b = some u → h'.get? b = some u)
    (ho : ∀ b, H b = some (.own a) → H' b = some (.own a)) (ht : ∀ b xs, H b = some (.tup xs) → H' b = some (.tup xs)) : ObjOk P w H' h' a o := by
  induction o with
  | lst xs => obtain ⟨z, its, n, r, e⟩ := x; exact ⟨z, its, n, r, k _ _ (.inl rfl) e⟩
  | tup xs => obtain ⟨z, its, r, ob, e, c⟩ := x; exact ⟨z, its, r, ob, k _ _ (.inl rfl) e, c⟩
  | dK kvs => obtain ⟨z, y, vs, r, ob, es, ep, e, c⟩ := x; exact ⟨z, y, vs, r, ob, es, ep, k _ _ (.inl rfl) e, c⟩
  | dT kvs =>
    obtain ⟨z, y, xs, r, ob, es, ep, e, c⟩ := x
    exact ⟨z, y, xs, Paired.mapP r fun p q z => ⟨z.1, ht _ _ z.2.1, z.2.2⟩, ob, es, ep, k _ _ (.inl rfl) e, c⟩
  | set S n => obtain ⟨ob, es, ep, t, e, c⟩ := x; exact ⟨ob, es, ep, t, k _ _ (.inl rfl) e, c⟩
  | ins C dx fs =>
    obtain ⟨d, z, ne, e, mA, ⟨od, es, ep, e2, c⟩, r⟩ := x
    exact ⟨ho _ d, z, ne, k _ _ (.inl rfl) e, mA, ⟨od, es, ep, k _ _ (.inr d) e2, c⟩, r⟩
  | own y => obtain ⟨ob, e⟩ := x; exact ⟨ob, k _ _ (.inl rfl) e⟩
  | xd fs => obtain ⟨mA, ⟨od, es, ep, e, c⟩, r⟩ := x; exact ⟨mA, ⟨od, es, ep, k _ _ (.inl rfl) e, c⟩, r⟩
  | rng lo hi => obtain ⟨t, u, v, e⟩ := x; exact ⟨t, u, v, k _ _ (.inl rfl) e⟩
  | frz ob u ih => obtain ⟨e, q⟩ := x; exact ⟨k _ _ (.inl rfl) e, ih q⟩
  | tbl ps =>
    have e : h.get? a = some { cls := .none, data := .fields ps } := x
    show h'.get? a = some { cls := .none, data := .fields ps }
    exact k a _ (.inl rfl) e
  | met f y =>
    have e : h.get? a = some (PySem.W.methodObj (.ref f) (.ref y)) := x
    show h'.get? a = some (PySem.W.methodObj (.ref f) (.ref y))
    exact k a _ (.inl rfl) e
  | ext φ => obtain ⟨p, ⟨o, e⟩, st⟩ := x; exact ⟨st _ _ p fun o q => k _ _ (.inl rfl) q, ⟨o, k _ _ (.inl rfl) e⟩, st⟩
  | dU kvs => obtain ⟨z, y, xs, r, ob, es, ep, e, c⟩ := x; exact ⟨z, y, xs, r, ob, es, ep, k _ _ (.inl rfl) e, c⟩
theorem HOk.lt (x : HOk P w H h) (e : H a = some o) : a < h.objs.size := (x a o e).lt
theorem HOk.fresh (x : HOk P w H h) (e : h.objs.size ≤ a) : H a = none := by
  cases q : H a with
  | none => rfl
  | some u => exact absurd (Nat.lt_of_lt_of_le (x.lt q) e) (Nat.lt_irrefl _)
theorem HOk.kept (x : HOk P w H h) (k : ∀ b u, h.get? b = some u → h'.get? b = some u) : HOk P w H h' := fun a o e =>
  (x a o e).stay (fun b u _ q => k b u q) (fun _ q => q) fun _ _ q => q
theorem HOk.laid (x : HOk P w H h) (k : ∀ b u, h.get? b = some u → h'.get? b = some u) (hp : h.objs.size ≤ a) (new : ObjOk P w (upd H a o) h' a o) : HOk P w (upd H a o) h' := fun b u e => by
  have hn := x.fresh hp
  by_cases hb : b = a
  · subst hb; rw [upd_same] at e; cases e; exact new
  · rw [upd_ne hb] at e
    exact (x b u e).stay (fun c v _ q => k c v q) (fun c q => by rw [upd_ne (ne_of_none q hn)]; exact q) fun c xs q => by rw [upd_ne (ne_of_none q hn)]; exact q
end
def Rd (H : Hp) (a : Addr) (u : HO) : Prop := H a = some u ∨ ∃ o, H a = some (.frz o u)
theorem Rd.ok {P : Program} {w : World} {H : Hp} {h : Heap} {a : Addr} {u : HO} (r : Rd H a u) (x : HOk P w H h) : ObjOk P w H h a u := by
  rcases r with r | ⟨o, r⟩
  · exact x a u r
  · obtain ⟨_, q⟩ := x a _ r
    exact q
def Mut : Option HO → Prop
  | some (.lst _) => True
  | some (.dK _) => True
  | some (.dT _) => True
  | some (.set _ _) => True
  | some (.ins _ _ _) => True
  | some (.ext _) => True
  | some (.dU _) => True
  | _ => False
section
variable {P : Program} {w : World} {H : Hp} {h h' : Heap} {x e : Addr} {o' : HO}
theorem HOk.write (ok : HOk P w H h) (mu : Mut (H x)) (he : e = x ∨ H e = some (.own x)) (k : ∀ b u, b ≠ e → h.get? b = some u → h'.get? b = some u) (heo : ∃ u, h'.get? e = some u)
    (new : ObjOk P w (upd H x o') h' x o') : HOk P w (upd H x o') h' := fun b u q => by
  have nown : ∀ c y, H c = some (.own y) → c ≠ x := fun c y r z => by subst z; rw [r] at mu; exact mu
  have ntup : ∀ c xs, H c = some (.tup xs) → c ≠ x := fun c xs r z => by subst z; rw [r] at mu; exact mu
  by_cases hb : b = x
  · subst hb; rw [upd_same] at q; cases q; exact new
  · rw [upd_ne hb] at q
    by_cases hbe : b = e
    · have q' : H b = some (.own x) := by
        rcases he with z | z
        · exact absurd (hbe.trans z) hb
        · rw [hbe]; exact z
      rw [q] at q'; cases q'
      obtain ⟨v, hv⟩ := heo
      exact ⟨v, by rw [hbe]; exact hv⟩
    · refine (ok b u q).stay (fun c v hc r => k c v ?_ r) (fun c r => by rw [upd_ne (nown c b r)]; exact r) fun c xs r => by rw [upd_ne (ntup c xs r)]; exact r
      rcases hc with rfl | hc
      · exact hbe
      · rintro rfl
        rcases he with z | z
        · exact nown c b hc z
        · rw [hc] at z; cases z; exact hb rfl
end
structure Un (fs ex : List Addr) (H H' : Hp) (h h' : Heap) : Prop where
  keep : ∀ b o, h.get? b = some o → H b = none → b ∉ fs → b ∉ ex → h'.get? b = some o
  slot : ∀ b o, h.get? b = some o → H b = none → b ∈ fs → b ∉ ex → ∃ sl, h'.get? b = some { o with slots := sl }
  free : ∀ b o, h.get? b = some o → H b = none → b ∉ ex → H' b = none
  there : ∀ b o, h.get? b = some o → b ∉ ex → ∃ o', h'.get? b = some o'
  tups : ∀ b xs, H b = some (.tup xs) → H' b = some (.tup xs)
  frzs : ∀ b o u, H b = some (.frz o u) → H' b = some (.frz o u)
  tbls : ∀ b ps, H b = some (.tbl ps) → ∃ more, H' b = some (.tbl (ps ++ more))
section
variable {fs fs' ex ex' : List Addr} {H H1 H2 : Hp} {h h1 h2 h' : Heap} {a x e : Addr} {o : HO}
theorem Un.any (u : Un fs ex H H1 h h1) {b : Addr} {ob : Obj} (q : h.get? b = some ob) (n : H b = none) (hx : b ∉ ex) : ∃ sl, h1.get? b = some { ob with slots := sl } := by
  by_cases hb : b ∈ fs
  · exact u.slot b ob q n hb hx
  · exact ⟨ob.slots, u.keep b ob q n hb hx⟩
theorem Un.trans (a : Un fs ex H H1 h h1) (b : Un fs ex H1 H2 h1 h2) : Un fs ex H H2 h h2 where
  keep := fun c ob q n hc hx => b.keep c ob (a.keep c ob q n hc hx) (a.free c ob q n hx) hc hx
  slot := fun c ob q n hc hx => by
    obtain ⟨sl, e1⟩ := a.slot c ob q n hc hx
    obtain ⟨sl', e2⟩ := b.slot c _ e1 (a.free c ob q n hx) hc hx
    exact ⟨sl', e2⟩
  free := fun c ob q n hx => by
    obtain ⟨o', e1⟩ := a.there c ob q hx
    exact b.free c o' e1 (a.free c ob q n hx) hx
  there := fun c ob q hx => by
    obtain ⟨o', e1⟩ := a.there c ob q hx
    exact b.there c o' e1 hx
  tups := fun c xs q => b.tups c xs (a.tups c xs q)
  frzs := fun c ob xs q => b.frzs c ob xs (a.frzs c ob xs q)
  tbls := fun c ps q => by
    obtain ⟨m1, e1⟩ := a.tbls c ps q
    obtain ⟨m2, e2⟩ := b.tbls c _ e1
    exact ⟨m1 ++ m2, by rw [e2, Array.append_assoc]⟩
theorem Un.kept (k : ∀ b u, h.get? b = some u → h'.get? b = some u) : Un fs ex H H h h' :=
  ⟨fun b ob q _ _ _ => k b ob q, fun b ob q _ _ _ => ⟨ob.slots, k b ob q⟩, fun _ _ _ n _ => n, fun b ob q _ => ⟨ob, k b ob q⟩, fun _ _ q => q, fun _ _ _ q => q, fun _ ps q => ⟨#[], by rw [q]; simp⟩⟩
theorem Un.refl : Un fs ex H H h h := Un.kept fun _ _ q => q
theorem Un.laid (k : ∀ b u, h.get? b = some u → h'.get? b = some u) (hp : h.objs.size ≤ a) (hn : H a = none) : Un fs ex H (upd H a o) h h' where
  keep := fun b u q _ _ _ => k b u q
  slot := fun b u q _ _ _ => ⟨u.slots, k b u q⟩
  free := fun b u q n _ => by rw [upd_ne (Nat.ne_of_lt (Nat.lt_of_lt_of_le (Heap.lt_size q) hp))]; exact n
  there := fun b u q _ => ⟨u, k b u q⟩
  tups := fun b xs q => by rw [upd_ne (ne_of_none q hn)]; exact q
  frzs := fun b u xs q => by rw [upd_ne (ne_of_none q hn)]; exact q
  tbls := fun b ps q => ⟨#[], by rw [upd_ne (ne_of_none q hn), q]; simp⟩
theorem Un.write (mu : Mut (H x)) (he : e = x ∨ H e = some (.own x)) (k : ∀ b u, b ≠ e → h.get? b = some u → h'.get? b = some u) (heo : ∃ u, h'.get? e = some u) : Un fs ex H (upd H x o) h h' := by
  have hx : ∀ b, H b = none → b ≠ x := fun b n z => by subst z; rw [n] at mu; exact mu
  have hb : ∀ b, H b = none → b ≠ e := fun b n z => by
    subst z
    rcases he with r | r
    · exact hx b n r
    · rw [n] at r; cases r
  have hm : ∀ b u, H b = some u → ¬ Mut (some u) → b ≠ x := fun b u q nm z => by subst z; rw [q] at mu; exact nm mu
  refine ⟨fun b u q n _ _ => k b u (hb b n) q, fun b u q n _ _ => ⟨u.slots, k b u (hb b n) q⟩, fun b u q n _ => by rw [upd_ne (hx b n)]; exact n, fun b u q _ => ?_,
    fun b xs q => by rw [upd_ne (hm b _ q fun z => z)]; exact q, fun b u xs q => by rw [upd_ne (hm b _ q fun z => z)]; exact q, fun b ps q => ⟨#[], by rw [upd_ne (hm b _ q fun z => z), q]; simp⟩⟩
  by_cases hbe : b = e
  · subst hbe; exact heo
  · exact ⟨u, k b u hbe q⟩
theorem Un.mono (u : Un fs ex H H1 h h1) (hs : ∀ b ∈ fs, b ∈ fs') (hx : ∀ b ∈ ex, b ∈ ex') : Un fs' ex' H H1 h h1 :=
  ⟨fun b ob q n hb he => u.keep b ob q n (fun z => hb (hs b z)) fun z => he (hx b z), fun _ _ q n _ he => u.any q n fun z => he (hx _ z), fun b ob q n he => u.free b ob q n fun z => he (hx b z), fun b ob q he => u.there b ob q fun z => he (hx b z), u.tups, u.frzs, u.tbls⟩
end
def trk (h : Heap) (H : Hp) : List Addr := (List.range h.objs.size).filter fun a => (H a).isSome
def hidT (h : Heap) (H : Hp) : Heap := PySem.W.hideAll h (trk h H)
theorem hidT_size (h : Heap) (H : Hp) : (hidT h H).objs.size = h.objs.size := PySem.W.hideAll_size _ _
theorem hidT_get {h : Heap} {H : Hp} {b : Addr} {o : Obj} (e : h.get? b = some o) (n : H b = none) : (hidT h H).get? b = some o :=
  PySem.W.hideAll_get _ e fun hm => by
    have q : (H b).isSome = true := (List.mem_filter.mp hm).2
    rw [n] at q; simp at q
theorem of_hidT {h : Heap} {H : Hp} {b : Addr} {o : Obj} (e : (hidT h H).get? b = some o) : h.get? b = some o ∧ H b = none := by
  have e' : h.get? b = some o := PySem.W.of_hideAll (trk h H) e
  refine ⟨e', ?_⟩
  cases q : H b with
  | none => rfl
  | some x =>
    have hm : b ∈ trk h H := List.mem_filter.mpr ⟨List.mem_range.mpr (Heap.lt_size e'), by simp [q]⟩
    have z : (hidT h H).get? b = none := PySem.W.hideAll_none (trk h H) hm
    rw [z] at e; cases e
structure Mod (K : PySem.W.Frag) (mg : Str → Option Value) (base : Heap) : Prop where
  kin : K.In base
  glob : base.Ns mainGlobals mg
  blt : ∃ mb, base.Ns builtinsNs mb ∧ ∀ x : Str, x ≠ "__name__" → mb x = bootBuiltins x
  nolimit : base.NoLimit
structure Cx where
  prog : Program
  w : World
  K : PySem.W.Frag
  mg : Str → Option Value
  base : Heap
  A : Around
  N : List Str
  s₀ : Shared
  H₀ : Hp
  env : Env
  outer : List Env
  stack : List Env
  ex : List Addr
  fn : Str → Bool
  calm : Bool
  pn : List (Addr × Obj)
  xe : Value → Shared → Prop
def frs (l : List Env) : List Addr := l.filterMap (·.frame)
abbrev Cx.fs (X : Cx) : List Addr := frs X.outer
def Vis (sc : Scope) (x : Str) : Prop := sc.names.lookup x = some .local ∨ sc.names.lookup x = some .cell ∨ sc.names.lookup x = some .free
def Loc (sc : Scope) (x : Str) : Prop := sc.names.lookup x = some .local ∨ sc.names.lookup x = some .cell
def Look (env : Env) (h : Heap) (m : Str → Option Value) (x : Str) (u : Value) : Prop :=
  (env.kindOf x = some .local ∧ m x = some u) ∨ ((env.kindOf x = some .cell ∨ env.kindOf x = some .free) ∧ ∃ c, env.cells.lookup x = some c ∧ h.IsCell c (some u))
structure Cx.Ok (X : Cx) : Prop where
  mod : Mod X.K X.mg X.base
  kind : X.env.scope.kind = .function
  glob : X.env.globals = mainGlobals
  blt : X.env.builtins = builtinsNs
  above : X.s₀.heap.objs.size ≤ X.env.locals
  inj : ∀ x y c, X.env.cells.lookup x = some c → X.env.cells.lookup y = some c → x = y
  has : ∀ x, (X.env.kindOf x = some .cell ∨ X.env.kindOf x = some .free) → ∃ c, X.env.cells.lookup x = some c
  cab : ∀ x c, X.fn x = true → X.env.cells.lookup x = some c → X.s₀.heap.objs.size ≤ c
  hd : X.calm = true → X.A.handled = none
  frames : X.A.frames = some X.stack
  stk : X.stack = X.outer ∨ (X.stack = X.env :: X.outer ∧ X.env.frame = some X.env.locals)
  exf : ∀ b ∈ X.ex, b ≠ X.env.locals ∧ ∀ x c, X.env.cells.lookup x = some c → c ≠ b
  bs : ∀ b o, X.base.get? b = some o → X.s₀.heap.get? b = some o ∧ X.H₀ b = none
  bsz : X.base.objs.size ≤ X.s₀.heap.objs.size
  noex : ∀ b o, X.base.get? b = some o → b ∉ X.ex
  exfs : ∀ b ∈ X.ex, b ∉ X.fs
  funs : X.s₀.heap.FunFrames X.base X.outer
  frf : ∀ b ∈ X.fs, X.H₀ b = none
structure Inv (X : Cx) (pins : List (Addr × Obj)) (σ : List (Option V)) (H : Hp) (s : Shared) : Prop where
  ok : X.Ok
  os : s.os = X.s₀.os
  bare : AllBare s.gens
  base : Un X.fs X.ex X.H₀ H X.s₀.heap s.heap
  loc : ∃ m, s.heap.Ns X.env.locals m ∧ ∀ (i : Nat) (x : Str) (v : V), X.N[i]? = some x → σ[i]? = some (some v) → Vis X.env.scope x → ∃ u, RelV v u ∧ Look X.env s.heap m x u
  cell : ∀ x c, X.env.cells.lookup x = some c → ∃ v, s.heap.IsCell c v
  free : H X.env.locals = none
  freeC : ∀ x c, X.env.cells.lookup x = some c → H c = none
  pin : ∀ p ∈ X.pn ++ pins, s.heap.get? p.1 = some p.2 ∧ H p.1 = none ∧ p.1 ≠ X.env.locals ∧ p.1 ∉ X.fs ∧ ∀ v, p.2.data ≠ .cell v
  hok : HOk X.prog X.w H s.heap
  len : σ.length = X.N.length
section
variable {X : Cx} {pins : List (Addr × Obj)} {σ : List (Option V)} {H H' : Hp} {s : Shared} {h' : Heap}
theorem Cx.Ok.nofr (ok : X.Ok) {b : Addr} {o : Obj} (e : X.base.get? b = some o) : b ∉ X.fs := fun hb => by
  have := (ok.funs.mem hb).1
  rw [e] at this; cases this
theorem Inv.bs (I : Inv X pins σ H s) : ∀ b o, X.base.get? b = some o → s.heap.get? b = some o ∧ H b = none := fun b o e =>
  ⟨I.base.keep b o (I.ok.bs b o e).1 (I.ok.bs b o e).2 (I.ok.nofr e) (I.ok.noex b o e), I.base.free b o (I.ok.bs b o e).1 (I.ok.bs b o e).2 (I.ok.noex b o e)⟩
theorem Inv.bk (I : Inv X pins σ H s) : ∀ b o, X.base.get? b = some o → s.heap.get? b = some o := fun b o e => (I.bs b o e).1
theorem Inv.mod (I : Inv X pins σ H s) : Mod X.K X.mg X.base := I.ok.mod
theorem Inv.kIn (I : Inv X pins σ H s) : X.K.In s.heap := I.ok.mod.kin.keeps I.bk
theorem Inv.lt (I : Inv X pins σ H s) : X.env.locals < s.heap.objs.size := let ⟨_, hn, _⟩ := I.loc; hn.lt
theorem Inv.sz (I : Inv X pins σ H s) : X.s₀.heap.objs.size ≤ s.heap.objs.size := Nat.le_trans I.ok.above (Nat.le_of_lt I.lt)
theorem Inv.nofs (I : Inv X pins σ H s) {a : Addr} (h : s.heap.objs.size ≤ a) : a ∉ X.fs := fun hb => by
  obtain ⟨_, o, ho, _⟩ := I.ok.funs.mem hb
  exact absurd (Nat.lt_of_lt_of_le (Heap.lt_size ho) (Nat.le_trans I.sz h)) (Nat.lt_irrefl _)
theorem Inv.cne (I : Inv X pins σ H s) : ∀ x c, X.env.cells.lookup x = some c → c ≠ X.env.locals := fun x c e z => by
  obtain ⟨v, o, ho, hd⟩ := I.cell x c e
  obtain ⟨m, ⟨o', es, ep, ho', hd', _⟩, _⟩ := I.loc
  rw [z, ho'] at ho; cases ho; rw [hd'] at hd; cases hd
theorem Inv.funs (I : Inv X pins σ H s) : s.heap.FunFrames X.base X.outer := by
  have all : ∀ (l : List Env), (∀ b ∈ frs l, b ∈ X.fs) → X.s₀.heap.FunFrames X.base l → s.heap.FunFrames X.base l := by
    intro l
    induction l with
    | nil => intro _ _; trivial
    | cons env r ih =>
      intro hs hl
      obtain ⟨hk, ⟨L, o, hf, hn, ho, hd⟩, hr⟩ := hl
      have hL : L ∈ X.fs := hs L (by unfold frs; rw [List.filterMap_cons, hf]; exact List.mem_cons_self)
      obtain ⟨sl, e⟩ := I.base.slot L o ho (I.ok.frf L hL) hL fun z => I.ok.exfs L z hL
      exact ⟨hk, ⟨L, _, hf, hn, e, hd⟩, ih (fun b hb => hs b (by unfold frs; rw [List.filterMap_cons, hf]; exact List.mem_cons_of_mem _ hb)) hr⟩
  exact all X.outer (fun _ hb => hb) I.ok.funs
theorem Inv.stack (I : Inv X pins σ H s) : s.heap.FunFrames X.base X.stack := by
  rcases I.ok.stk with e | ⟨e, hf⟩
  · rw [e]; exact I.funs
  · rw [e]
    obtain ⟨m, hn, _⟩ := I.loc
    refine .cons (by rw [I.ok.kind]; decide) hf hn ?_ I.funs
    exact Heap.get?_none_of_le (Nat.le_trans I.ok.bsz I.ok.above)
theorem Inv.stkSub (I : Inv X pins σ H s) : ∀ b ∈ frs X.stack, b ∈ X.env.locals :: X.fs := fun b hb => by
  rcases I.ok.stk with e | ⟨e, hf⟩
  · rw [e] at hb; exact List.mem_cons_of_mem _ hb
  · rw [e] at hb
    unfold frs at hb
    rw [List.filterMap_cons, hf] at hb
    exact hb
theorem Inv.stkFree (I : Inv X pins σ H s) : ∀ b ∈ frs X.stack, H b = none := fun b hb => by
  rcases List.mem_cons.mp (I.stkSub b hb) with e | hb
  · rw [e]; exact I.free
  · obtain ⟨_, o, ho, _⟩ := I.ok.funs.mem hb
    exact I.base.free b o ho (I.ok.frf b hb) fun z => I.ok.exfs b z hb
theorem Inv.step {g' : Array GenState} {t' : Nat} {d' : Drawn} {ch : List Addr} (I : Inv X pins σ H s)
    (hch : ∀ b ∈ ch, (b ∈ X.ex ∨ X.s₀.heap.objs.size ≤ b) ∧ b ≠ X.env.locals ∧ (∀ x c, X.env.cells.lookup x = some c → c ≠ b) ∧ ∀ p ∈ X.pn ++ pins, p.1 ≠ b)
    (keep : ∀ b o, b ≠ X.env.locals → b ∉ X.fs → b ∉ ch → s.heap.get? b = some o → H b = none → h'.get? b = some o)
    (slot : ∀ b o, b ≠ X.env.locals → b ∈ X.fs → b ∉ ch → s.heap.get? b = some o → H b = none → ∃ sl, h'.get? b = some { o with slots := sl }) (free : ∀ b o, b ∉ ch → s.heap.get? b = some o → H b = none → H' b = none)
    (there : ∀ b o, b ∉ ch → s.heap.get? b = some o → ∃ o', h'.get? b = some o')
    (tups : ∀ b xs, H b = some (.tup xs) → H' b = some (.tup xs)) (frzs : ∀ b o u, H b = some (.frz o u) → H' b = some (.frz o u)) (tbls : ∀ b ps, H b = some (.tbl ps) → ∃ more, H' b = some (.tbl (ps ++ more)))
    (ns : ∀ m, s.heap.Ns X.env.locals m → h'.Ns X.env.locals m) (hok : HOk X.prog X.w H' h') (hg : AllBare g') :
    Inv X pins σ H' { s with heap := h', gens := g', drawn := d', toks := t' } := by
  have neL : ∀ b o, X.s₀.heap.get? b = some o → b ≠ X.env.locals := fun b o e => Nat.ne_of_lt (Nat.lt_of_lt_of_le (Heap.lt_size e) I.ok.above)
  have neC : ∀ b o, X.s₀.heap.get? b = some o → b ∉ X.ex → b ∉ ch := fun b o e hx hb => by
    rcases (hch b hb).1 with z | z
    · exact hx z
    · exact absurd (Nat.lt_of_lt_of_le (Heap.lt_size e) z) (Nat.lt_irrefl _)
  have cellK : ∀ x c, X.env.cells.lookup x = some c → ∀ v, s.heap.IsCell c v → h'.IsCell c v := fun x c e v ⟨o, ho, hd⟩ => by
    have nch : c ∉ ch := fun z => (hch c z).2.2.1 x c e rfl
    by_cases hc : c ∈ X.fs
    · obtain ⟨sl, q⟩ := slot c o (I.cne x c e) hc nch ho (I.freeC x c e)
      exact ⟨_, q, hd⟩
    · exact ⟨o, keep c o (I.cne x c e) hc nch ho (I.freeC x c e), hd⟩
  refine ⟨I.ok, I.os, hg, ⟨fun b o e n hb hx => ?_, fun b o e n hb hx => ?_, fun b o e n hx => ?_, fun b o e hx => ?_, fun b xs e => tups b xs (I.base.tups b xs e), fun b o xs e => frzs b o xs (I.base.frzs b o xs e), fun b ps e => ?_⟩, ?_, fun x c e => ?_, ?_, fun x c e => ?_, fun p hp => ?_, hok, I.len⟩
  · exact keep b o (neL b o e) hb (neC b o e hx) (I.base.keep b o e n hb hx) (I.base.free b o e n hx)
  · obtain ⟨sl, e1⟩ := I.base.slot b o e n hb hx
    obtain ⟨sl', e2⟩ := slot b _ (neL b o e) hb (neC b o e hx) e1 (I.base.free b o e n hx)
    exact ⟨sl', e2⟩
  · obtain ⟨o', e1⟩ := I.base.there b o e hx
    exact free b o' (neC b o e hx) e1 (I.base.free b o e n hx)
  · obtain ⟨o', e1⟩ := I.base.there b o e hx
    exact there b o' (neC b o e hx) e1
  · obtain ⟨m1, e1⟩ := I.base.tbls b ps e
    obtain ⟨m2, e2⟩ := tbls b _ e1
    exact ⟨m1 ++ m2, by rw [e2, Array.append_assoc]⟩
  · obtain ⟨m, hn, hl⟩ := I.loc
    refine ⟨m, ns m hn, fun i x v e1 e2 e3 => ?_⟩
    obtain ⟨u, r, l⟩ := hl i x v e1 e2 e3
    refine ⟨u, r, ?_⟩
    rcases l with l | ⟨k, c, e, z⟩
    · exact .inl l
    · exact .inr ⟨k, c, e, cellK x c e _ z⟩
  · obtain ⟨v, z⟩ := I.cell x c e
    exact ⟨v, cellK x c e v z⟩
  · obtain ⟨m, ⟨o, _, _, ho, _⟩, _⟩ := I.loc
    exact free _ o (fun z => (hch _ z).2.1 rfl) ho I.free
  · obtain ⟨v, o, ho, hd⟩ := I.cell x c e
    exact free c o (fun z => (hch c z).2.2.1 x c e rfl) ho (I.freeC x c e)
  · obtain ⟨e, n, ne, nf, d⟩ := I.pin p hp
    have nch : p.1 ∉ ch := fun z => (hch p.1 z).2.2.2 p hp rfl
    exact ⟨keep p.1 p.2 ne nf nch e n, free p.1 p.2 nch e n, ne, nf, d⟩
theorem Inv.un {t' : Nat} (I : Inv X pins σ H s) (u : Un X.fs [] H H' s.heap h') (hok : HOk X.prog X.w H' h') : Inv X pins σ H' { s with heap := h', toks := t' } := by
  obtain ⟨m, ⟨o, es, ep, ho, r⟩, _⟩ := id I.loc
  obtain ⟨sl, hL⟩ := u.any ho I.free (by simp)
  exact I.step (g' := s.gens) (d' := s.drawn) (ch := []) (fun _ z => nomatch z) (fun b o _ hb _ e n => u.keep b o e n hb (by simp)) (fun b o _ hb _ e n => u.slot b o e n hb (by simp)) (fun b o _ e n => u.free b o e n (by simp)) (fun b o _ e => u.there b o e (by simp)) u.tups u.frzs u.tbls (fun m' hm => by
    obtain ⟨o', es', ep', ho', r'⟩ := hm
    rw [ho] at ho'; cases ho'
    exact ⟨_, es', ep', hL, r'⟩) hok I.bare
theorem Inv.call {g' : Array GenState} {t' : Nat} {d' : Drawn} {ch : List Addr} (I : Inv X pins σ H s) (u : Un (frs X.stack) ch H H' s.heap h') (hok : HOk X.prog X.w H' h') (hg : AllBare g')
    (hch : ∀ b ∈ ch, (b ∈ X.ex ∨ X.s₀.heap.objs.size ≤ b) ∧ b ≠ X.env.locals ∧ (∀ x c, X.env.cells.lookup x = some c → c ≠ b) ∧ ∀ p ∈ X.pn ++ pins, p.1 ≠ b) :
    Inv X pins σ H' { s with heap := h', gens := g', drawn := d', toks := t' } := by
  obtain ⟨m, ⟨o, es, ep, ho, r⟩, _⟩ := id I.loc
  obtain ⟨sl, hL⟩ := u.any ho I.free fun z => (hch _ z).2.1 rfl
  exact I.step (ch := ch) hch (fun b o hL hb hc e n => u.keep b o e n (fun z => (List.mem_cons.mp (I.stkSub b z)).elim hL hb) hc) (fun b o _ _ hc e n => u.any e n hc) (fun b o hc e n => u.free b o e n hc) (fun b o hc e => u.there b o e hc) u.tups u.frzs u.tbls (fun m' hm => by
    obtain ⟨o', es', ep', ho', r'⟩ := hm
    rw [ho] at ho'; cases ho'
    exact ⟨_, es', ep', hL, r'⟩) hok hg
theorem Inv.turned {t' : Nat} {it : Addr} (I : Inv X pins σ H s) (k : ∀ b o, b ≠ it → s.heap.get? b = some o → h'.get? b = some o) (hn : H it = none) (hL : it ≠ X.env.locals)
    (h1 : it ∈ X.ex ∨ X.s₀.heap.objs.size ≤ it) (h2 : ∀ x c, X.env.cells.lookup x = some c → c ≠ it) (h3 : ∀ p ∈ X.pn ++ pins, p.1 ≠ it) : Inv X pins σ H { s with heap := h', toks := t' } := by
  have nit : ∀ b u, H b = some u → b ≠ it := fun b u e z => by rw [z, hn] at e; cases e
  refine I.step (g' := s.gens) (d' := s.drawn) (ch := [it]) (fun b hb => ?_) (fun b o _ _ hc e _ => k b o (fun z => hc (by simp [z])) e) (fun b o _ _ hc e _ => ⟨o.slots, k b o (fun z => hc (by simp [z])) e⟩) (fun _ _ _ _ n => n)
    (fun b o hc e => ⟨o, k b o (fun z => hc (by simp [z])) e⟩) (fun _ _ e => e) (fun _ _ _ e => e) (fun b ps e => ⟨#[], by rw [e]; simp⟩) (fun m hm => ?_) (fun b u e => ?_) I.bare
  · have e : b = it := by simpa using hb
    subst e
    exact ⟨h1, hL, h2, h3⟩
  · obtain ⟨o, es, ep, ho, r⟩ := hm
    exact ⟨o, es, ep, k _ o (Ne.symm hL) ho, r⟩
  · refine (I.hok b u e).stay (fun c v hc q => k c v ?_ q) (fun _ q => q) fun _ _ q => q
    rcases hc with z | z
    · rw [z]; exact nit b u e
    · exact nit c _ z
theorem Inv.tok (I : Inv X pins σ H s) (t : Nat) : Inv X pins σ H { s with toks := t } := I.un (h' := s.heap) (t' := t) Un.refl I.hok
theorem Inv.kept {t' : Nat} (I : Inv X pins σ H s) (k : ∀ b u, s.heap.get? b = some u → h'.get? b = some u) : Inv X pins σ H { s with heap := h', toks := t' } := I.un (Un.kept k) (I.hok.kept k)
theorem Inv.laid {a : Addr} {o : HO} {t' : Nat} (I : Inv X pins σ H s) (k : ∀ b u, s.heap.get? b = some u → h'.get? b = some u) (hp : s.heap.objs.size ≤ a) (new : ObjOk X.prog X.w (upd H a o) h' a o) :
    Inv X pins σ (upd H a o) { s with heap := h', toks := t' } := I.un (Un.laid k hp (I.hok.fresh hp)) (I.hok.laid k hp new)
theorem Inv.write {x e : Addr} {o : HO} {t' : Nat} (I : Inv X pins σ H s) (mu : Mut (H x)) (he : e = x ∨ H e = some (.own x)) (k : ∀ b u, b ≠ e → s.heap.get? b = some u → h'.get? b = some u) (heo : ∃ u, h'.get? e = some u)
    (new : ObjOk X.prog X.w (upd H x o) h' x o) : Inv X pins σ (upd H x o) { s with heap := h', toks := t' } := I.un (Un.write mu he k heo) (I.hok.write mu he k heo new)
theorem Inv.pins_of {pins' : List (Addr × Obj)} (I : Inv X pins σ H s) (h : ∀ p ∈ pins', s.heap.get? p.1 = some p.2 ∧ H p.1 = none ∧ p.1 ≠ X.env.locals ∧ p.1 ∉ X.fs ∧ ∀ v, p.2.data ≠ .cell v) : Inv X pins' σ H s :=
  ⟨I.ok, I.os, I.bare, I.base, I.loc, I.cell, I.free, I.freeC, fun p hp => (List.mem_append.mp hp).elim (fun z => I.pin p (List.mem_append_left _ z)) (h p), I.hok, I.len⟩
theorem nodup_ix {N : List Str} (hN : N.Nodup) {i j : Nat} {x : Str} (a : N[i]? = some x) (b : N[j]? = some x) : i = j := by
  obtain ⟨h1, e1⟩ := List.getElem?_eq_some_iff.mp a
  obtain ⟨h2, e2⟩ := List.getElem?_eq_some_iff.mp b
  exact (List.getElem_inj hN).mp (e1.trans e2.symm)
theorem store_ok2 {M : Model} {A : Around} {E : Value → Shared → Prop} {i : Nat} {x : Str} {v : V} {u : Value} {Q : Unit → Shared → Prop} (I : Inv X pins σ H s) (hN : X.N.Nodup) (hi : X.N[i]? = some x) (hx : Loc X.env.scope x) (r : RelV v u)
    (h : ∀ s', Inv X pins (σ.set i (some v)) H s' → (∃ a, Heap.SameBut a s.heap s'.heap ∧ (a = X.env.locals ∨ X.env.cells.lookup x = some a)) → Q () s') (hf : X.fn x = true ∨ X.env.scope.names.lookup x = some .local := by first | exact .inl rfl | exact .inr rfl | assumption) : wpAny M A (storeName X.env x u) Q E s := by
  obtain ⟨m, hn, hl⟩ := id I.loc
  have hcls : (X.env.scope.kind == .class || (X.env.scope.kind == .module && X.env.locals != X.env.globals)) = false := by rw [I.ok.kind]; rfl
  have hiσ : i < σ.length := by rw [I.len]; exact (List.getElem?_eq_some_iff.mp hi).1
  have cne := I.cne
  have tracked : ∀ {a : Addr} {h' : Heap}, (∃ o, s.heap.get? a = some o ∧ H a = none) → Heap.SameBut a s.heap h' → HOk X.prog X.w H h' := fun {a h'} ha hs b ob e => by
    obtain ⟨_, _, hfree⟩ := ha
    refine (I.hok b ob e).stay (fun c w' hc q => (hs.2 c ?_).trans q) (fun _ q => q) fun _ _ q => q
    rintro rfl
    rcases hc with rfl | hc
    · rw [hfree] at e; cases e
    · rw [hfree] at hc; cases hc
  rcases hx with hk | hk
  · refine wpAny_storeName_local hk hn (fun h' hn' hs => ?_) hcls
    obtain ⟨oL, _, _, hoL, _⟩ := id hn
    refine h _ ⟨I.ok, I.os, I.bare, ⟨fun b o e n hb hx => ?_, fun b o e n hb hx => ?_, I.base.free, fun b o e hx => ?_, I.base.tups, I.base.frzs, I.base.tbls⟩, ⟨_, hn', fun j y v' e1 e2 e3 => ?_⟩, fun y c e => ?_, I.free, I.freeC, fun p hp => ?_, tracked ⟨oL, hoL, I.free⟩ hs, by simpa using I.len⟩ ⟨_, hs, .inl rfl⟩
    · exact (hs.2 b (Nat.ne_of_lt (Nat.lt_of_lt_of_le (Heap.lt_size e) I.ok.above))).trans (I.base.keep b o e n hb hx)
    · obtain ⟨sl, e1⟩ := I.base.slot b o e n hb hx
      exact ⟨sl, (hs.2 b (Nat.ne_of_lt (Nat.lt_of_lt_of_le (Heap.lt_size e) I.ok.above))).trans e1⟩
    · obtain ⟨o', e1⟩ := I.base.there b o e hx
      exact ⟨o', (hs.2 b (Nat.ne_of_lt (Nat.lt_of_lt_of_le (Heap.lt_size e) I.ok.above))).trans e1⟩
    · by_cases hj : j = i
      · subst hj
        rw [hi] at e1; cases e1
        rw [List.getElem?_set_self hiσ] at e2
        cases e2
        exact ⟨u, r, .inl ⟨hk, by simp⟩⟩
      · rw [List.getElem?_set_ne (Ne.symm hj)] at e2
        obtain ⟨u', r', q⟩ := hl j y v' e1 e2 e3
        refine ⟨u', r', ?_⟩
        rcases q with ⟨k, e⟩ | ⟨k, c, e, z⟩
        · refine .inl ⟨k, ?_⟩
          have : y ≠ x := fun e => hj (nodup_ix hN e1 (e ▸ hi))
          simp [this, e]
        · exact .inr ⟨k, c, e, z.sameBut hs (cne y c e)⟩
    · obtain ⟨w', z⟩ := I.cell y c e
      exact ⟨w', z.sameBut hs (cne y c e)⟩
    · obtain ⟨e, n, ne, nf, d⟩ := I.pin p hp
      exact ⟨(hs.2 p.1 ne).trans e, n, ne, nf, d⟩
  · have hfn : X.fn x = true := by
      rcases hf with z | z
      · exact z
      · rw [z] at hk; cases hk
    obtain ⟨c, hc⟩ := I.ok.has x (.inl hk)
    obtain ⟨w', z⟩ := I.cell x c hc
    refine wpAny_storeName_cell I.ok.kind hk hc z (fun h' hc' hs => ?_)
    obtain ⟨oc, hoc, hocd⟩ := id z
    refine h { s with heap := h' } ⟨I.ok, I.os, I.bare, ⟨fun b o e n hb hx => ?_, fun b o e n hb hx => ?_, I.base.free, fun b o e hx => ?_, I.base.tups, I.base.frzs, I.base.tbls⟩, ⟨m, hn.sameBut hs (Ne.symm (cne x c hc)), fun j y v' e1 e2 e3 => ?_⟩, fun y c' e => ?_, I.free, I.freeC, fun p hp => ?_, tracked ⟨oc, hoc, I.freeC x c hc⟩ hs, by simpa using I.len⟩ ⟨c, hs, .inr hc⟩
    · exact (hs.2 b (Nat.ne_of_lt (Nat.lt_of_lt_of_le (Heap.lt_size e) (I.ok.cab x c hfn hc)))).trans (I.base.keep b o e n hb hx)
    · obtain ⟨sl, e1⟩ := I.base.slot b o e n hb hx
      exact ⟨sl, (hs.2 b (Nat.ne_of_lt (Nat.lt_of_lt_of_le (Heap.lt_size e) (I.ok.cab x c hfn hc)))).trans e1⟩
    · obtain ⟨o', e1⟩ := I.base.there b o e hx
      exact ⟨o', (hs.2 b (Nat.ne_of_lt (Nat.lt_of_lt_of_le (Heap.lt_size e) (I.ok.cab x c hfn hc)))).trans e1⟩
    · by_cases hj : j = i
      · subst hj
        rw [hi] at e1; cases e1
        rw [List.getElem?_set_self hiσ] at e2
        cases e2
        exact ⟨u, r, .inr ⟨.inl hk, c, hc, hc'⟩⟩
      · rw [List.getElem?_set_ne (Ne.symm hj)] at e2
        obtain ⟨u', r', q⟩ := hl j y v' e1 e2 e3
        refine ⟨u', r', ?_⟩
        rcases q with q | ⟨k, c', e, z'⟩
        · exact .inl q
        · refine .inr ⟨k, c', e, z'.sameBut hs ?_⟩
          rintro rfl
          exact hj (nodup_ix hN e1 (I.ok.inj _ _ _ e hc ▸ hi))
    · by_cases hcc : c' = c
      · subst hcc; exact ⟨_, hc'⟩
      · obtain ⟨w2, z2⟩ := I.cell y c' e
        exact ⟨w2, z2.sameBut hs hcc⟩
    · obtain ⟨e, n, ne, nf, d⟩ := I.pin p hp
      refine ⟨(hs.2 p.1 ?_).trans e, n, ne, nf, d⟩
      intro q
      rw [q, hoc] at e
      have q' : oc = p.2 := Option.some.inj e
      exact d w' (by rw [← q']; exact hocd)
theorem store_ok {M : Model} {A : Around} {E : Value → Shared → Prop} {i : Nat} {x : Str} {v : V} {u : Value} {Q : Unit → Shared → Prop} (I : Inv X pins σ H s) (hN : X.N.Nodup) (hi : X.N[i]? = some x) (hx : Loc X.env.scope x) (r : RelV v u)
    (h : ∀ s', Inv X pins (σ.set i (some v)) H s' → Q () s') (hf : X.fn x = true ∨ X.env.scope.names.lookup x = some .local := by first | exact .inl rfl | exact .inr rfl | assumption) : wpAny M A (storeName X.env x u) Q E s :=
  store_ok2 I hN hi hx r (fun s' I' _ => h s' I') hf
theorem Inv.call' {s' : Shared} {ch : List Addr} (I : Inv X pins σ H s) (ho : s'.os = s.os) (u : Un (frs X.stack) ch H H' s.heap s'.heap) (hok : HOk X.prog X.w H' s'.heap) (hg : AllBare s'.gens)
    (hch : ∀ b ∈ ch, (b ∈ X.ex ∨ X.s₀.heap.objs.size ≤ b) ∧ b ≠ X.env.locals ∧ (∀ x c, X.env.cells.lookup x = some c → c ≠ b) ∧ ∀ p ∈ X.pn ++ pins, p.1 ≠ b) : Inv X pins σ H' s' := by
  obtain ⟨h', g', d', t', o'⟩ := s'
  have e : o' = s.os := ho
  subst e
  exact I.call (g' := g') (t' := t') (d' := d') u hok hg hch
end
abbrev XK := Value → Option Addr → Hp → Prop
abbrev St := List (Option V)
abbrev VK := V → Hp → Prop
abbrev TE := St → Hp → VK → Prop
abbrev TT := St → Hp → (Bool → Hp → Prop) → Prop
abbrev TA := St → Hp → (List V → Hp → Prop) → Prop
structure Ends where
  nx : St → Hp → Prop
  rt : VK
  bk : St → Hp → Prop := fun _ _ => False
  ct : St → Hp → Prop := fun _ _ => False
abbrev TS := Ends → St → Hp → Prop
def EP (X : Cx) (pins : List (Addr × Obj)) (σ : St) (Q : VK) (u : Value) (s' : Shared) : Prop := ∃ v H', Inv X pins σ H' s' ∧ RelV v u ∧ Q v H'
def TP (X : Cx) (pins : List (Addr × Obj)) (σ : St) (Q : Bool → Hp → Prop) (b : Bool) (s' : Shared) : Prop := ∃ H', Inv X pins σ H' s' ∧ Q b H'
def AP (X : Cx) (pins : List (Addr × Obj)) (σ : St) (Q : List V → Hp → Prop) (us : List Value) (s' : Shared) : Prop := ∃ vs H', Inv X pins σ H' s' ∧ Vals vs us ∧ Q vs H'
def SP (X : Cx) (pins : List (Addr × Obj)) (D : Ends) (f : Flow) (s' : Shared) : Prop :=
  match f with
  | .next => ∃ σ' H', Inv X pins σ' H' s' ∧ D.nx σ' H'
  | .brk => ∃ σ' H', Inv X pins σ' H' s' ∧ D.bk σ' H'
  | .cont => ∃ σ' H', Inv X pins σ' H' s' ∧ D.ct σ' H'
  | .ret u => ∃ v σ' H', Inv X pins σ' H' s' ∧ RelV v u ∧ D.rt v H'
def PE (X : Cx) (e : Expr) (t : TE) : Prop :=
  ∀ (pins : List (Addr × Obj)) (s : Shared) (σ : St) (H : Hp) (Q : VK), Inv X pins σ H s → t σ H Q → wpAny (model X.prog X.w) X.A (eval e X.env) (EP X pins σ Q) X.xe s
def PT (X : Cx) (e : Expr) (t : TT) : Prop :=
  ∀ (pins : List (Addr × Obj)) (s : Shared) (σ : St) (H : Hp) (Q : Bool → Hp → Prop), Inv X pins σ H s → t σ H Q → wpAny (model X.prog X.w) X.A (isTrue e X.env (eval e X.env)) (TP X pins σ Q) X.xe s
def PW (X : Cx) (e : Expr) (t : TT) : Prop :=
  ∀ (whole : Sem Value) (pins : List (Addr × Obj)) (s : Shared) (σ : St) (H : Hp) (Q : Bool → Hp → Prop), Inv X pins σ H s → t σ H Q → wpAny (model X.prog X.w) X.A (isTrue e X.env whole) (TP X pins σ Q) X.xe s
theorem PW.pt {X : Cx} {e : Expr} {t : TT} (h : PW X e t) : PT X e t := h _
def PA (X : Cx) (es : List Expr) (t : TA) : Prop :=
  ∀ (pos : Pos) (pins : List (Addr × Obj)) (s : Shared) (σ : St) (H : Hp) (Q : List V → Hp → Prop), Inv X pins σ H s → t σ H Q → wpAny (model X.prog X.w) X.A (spliced (backTo pos (starEach es X.env))) (AP X pins σ Q) X.xe s
def PS (X : Cx) (st : Stmt) (t : TS) : Prop :=
  ∀ (pins : List (Addr × Obj)) (s : Shared) (σ : St) (H : Hp) (D : Ends), Inv X pins σ H s → t D σ H → wpAny (model X.prog X.w) X.A (exec st X.env) (SP X pins D) X.xe s
def PSs (X : Cx) (st : List Stmt) (t : TS) : Prop :=
  ∀ (pins : List (Addr × Obj)) (s : Shared) (σ : St) (H : Hp) (D : Ends), Inv X pins σ H s → t D σ H → wpAny (model X.prog X.w) X.A (execs st X.env) (SP X pins D) X.xe s
theorem thn {α : Type} {t : Sem α} {Q Q' : α → Shared → Prop} {M : Model} {A : Around} {E : Value → Shared → Prop} {s : Shared} (h : wpAny M A t Q E s) (hQ : ∀ a s, Q a s → Q' a s) : wpAny M A t Q' E s := wpAny_mono h hQ fun _ _ x => x
section
variable {X : Cx}
def tVar (i : Nat) : TE := fun σ H Q => ∃ v, σ[i]? = some (some v) ∧ Q v H
def tC (v : V) : TE := fun _ H Q => Q v H
theorem pe_var {i : Nat} {x : Str} {pos : Pos} (hN : X.N[i]? = some x) (hv : Vis X.env.scope x) (hd : (x == ("__debug__" : Str)) = false := by decide) (hcd : (x == ("__classdict__" : Str)) = false := by decide) : PE X (.Name x pos) (tVar i) := by
  intro pins s σ H Q I h
  obtain ⟨v, e, h⟩ := h
  obtain ⟨m, hn, hl⟩ := I.loc
  obtain ⟨u, r, l⟩ := hl i x v hN e hv
  have fin : EP X pins σ Q u s := ⟨v, H, I, r, h⟩
  rcases l with ⟨hk, hm⟩ | ⟨hk, c, hc, hcell⟩
  · exact wpAny_Name (wpAny_loadName_local I.ok.kind hk hn hm fin) hd
  · rcases hk with hk | hk
    · exact wpAny_Name (wpAny_loadName_cell I.ok.kind hk hc hcell fin) hd
    · exact wpAny_Name (wpAny_loadName_free I.ok.kind hk hc hcell fin hcd) hd
theorem pe_int {i j pos} : PE X (.Constant (.int i) j pos) (tC (.int i)) := fun _ _ _ H _ I h => wpAny_Constant_int ⟨.int i, H, I.tok _, ⟨_, rfl⟩, h⟩
theorem pe_bl {b j pos} : PE X (.Constant (.bool b) j pos) (tC (.bl b)) := fun _ _ _ H _ I h => Constant_bool ⟨.bl b, H, I, rfl, h⟩
theorem pe_non {j pos} : PE X (.Constant .none j pos) (tC .non) := fun _ _ _ H _ I h => Constant_none ⟨.non, H, I, rfl, h⟩
theorem pe_str {x j pos} : PE X (.Constant (.str x) j pos) (tC (.str x)) := fun _ _ _ H _ I h => Calls.Constant_str ⟨.str x, H, I.tok _, ⟨_, rfl⟩, h⟩
def Gl (X : Cx) (x : Str) : Prop := X.env.kindOf x = some .globalImplicit
theorem ld_glob {E : Value → Shared → Prop} {pins : List (Addr × Obj)} {s : Shared} {σ : St} {H : Hp} {x : Str} {u : Value} {pos : Pos} {Q : Value → Shared → Prop} (I : Inv X pins σ H s) (hg : Gl X x) (hm : X.mg x = some u) (h : Q u s)
    (hd : (x == ("__debug__" : Str)) = false := by decide) : wpAny (model X.prog X.w) X.A (eval (.Name x pos) X.env) Q E s :=
  Calls.Name_function_global I.ok.kind hg (Calls.loadGlobal_global (by rw [I.ok.glob]; exact I.mod.glob.keeps I.bk) hm h) hd
theorem ld_blt {E : Value → Shared → Prop} {pins : List (Addr × Obj)} {s : Shared} {σ : St} {H : Hp} {x : Str} {u : Value} {pos : Pos} {Q : Value → Shared → Prop} (I : Inv X pins σ H s) (hg : Gl X x) (hm : X.mg x = none) (hv : bootBuiltins x = some u) (h : Q u s)
    (hn : x ≠ "__name__" := by decide) (hd : (x == ("__debug__" : Str)) = false := by decide) : wpAny (model X.prog X.w) X.A (eval (.Name x pos) X.env) Q E s := by
  obtain ⟨mb, h1, h2⟩ := I.mod.blt
  exact Calls.Name_function_global I.ok.kind hg (Calls.loadGlobal_builtin (by rw [I.ok.glob]; exact I.mod.glob.keeps I.bk) hm (by rw [I.ok.blt]; exact h1.keeps I.bk) ((h2 x hn).trans hv) h) hd
theorem pe_glob {x : Str} {v : V} {u : Value} {pos : Pos} (hg : Gl X x) (hm : X.mg x = some u) (r : RelV v u) (hd : (x == ("__debug__" : Str)) = false := by decide) : PE X (.Name x pos) (tC v) :=
  fun _ _ _ H _ I h => ld_glob I hg hm ⟨v, H, I, r, h⟩ hd
theorem pe_bltn {x : Str} {v : V} {u : Value} {pos : Pos} (hg : Gl X x) (hm : X.mg x = none) (hv : bootBuiltins x = some u) (r : RelV v u) (hn : x ≠ "__name__" := by decide) (hd : (x == ("__debug__" : Str)) = false := by decide) : PE X (.Name x pos) (tC v) :=
  fun _ _ _ H _ I h => ld_blt I hg hm hv ⟨v, H, I, r, h⟩ hn hd
variable {a b : Expr} {ta tb : TE} {pos : Pos}
def tB (t : TE) : TT := fun σ H Q => t σ H fun x H1 => ∃ c, x = .bl c ∧ Q c H1
theorem pt_val {e : Expr} {t : TE} (h : PE X e t) (he : ∀ whole, isTrue e X.env whole = (do let v ← whole; standAt e.pos; holding [v] (truthy v)) := by intro _; rfl) : PT X e (tB t) := by
  intro pins s σ H Q I hw
  refine isTrue_plain (thn (h pins s σ H _ I hw) fun v s1 ⟨x, H1, I1, r1, q1⟩ => ?_) (he _)
  obtain ⟨d, rfl, q⟩ := q1
  cases r1
  exact wpAny_truthy_bool ⟨H1, I1, q⟩
variable {tA tB' : TT} {rest : List Expr}
def tAnd (t u : TT) : TT := fun σ H Q => t σ H fun c H1 => if c = true then u σ H1 Q else Q false H1
def tOr (t u : TT) : TT := fun σ H Q => t σ H fun c H1 => if c = true then Q true H1 else u σ H1 Q
def tNot (t : TT) : TT := fun σ H Q => t σ H fun c H1 => Q (!c) H1
theorem pw_and1 (ha : PT X a tA) : PW X (.BoolOp .And [a] pos) tA := by
  intro wh pins s σ H Q I h
  refine isTrue_and (thn (ha pins s σ H Q I h) fun c s1 e => ?_)
  cases c with
  | true => exact isTrue_and_nil e
  | false => exact e
theorem pw_or1 (ha : PT X a tA) : PW X (.BoolOp .Or [a] pos) tA := by
  intro wh pins s σ H Q I h
  refine isTrue_or (thn (ha pins s σ H Q I h) fun c s1 e => ?_)
  cases c with
  | false => exact isTrue_or_nil e
  | true => exact e
theorem pw_and (ha : PT X a tA) (hb : PW X (.BoolOp .And (b :: rest) pos) tB') : PW X (.BoolOp .And (a :: b :: rest) pos) (tAnd tA tB') := by
  intro wh pins s σ H Q I h
  refine isTrue_and (thn (ha pins s σ H _ I h) fun c s1 ⟨H1, I1, q1⟩ => ?_)
  cases c with
  | true => exact hb wh pins s1 σ H1 Q I1 q1
  | false => exact ⟨H1, I1, q1⟩
theorem pw_or (ha : PT X a tA) (hb : PW X (.BoolOp .Or (b :: rest) pos) tB') : PW X (.BoolOp .Or (a :: b :: rest) pos) (tOr tA tB') := by
  intro wh pins s σ H Q I h
  refine isTrue_or (thn (ha pins s σ H _ I h) fun c s1 ⟨H1, I1, q1⟩ => ?_)
  cases c with
  | true => exact ⟨H1, I1, q1⟩
  | false => exact hb wh pins s1 σ H1 Q I1 q1
theorem pt_not (ha : PT X a tA) : PT X (.UnaryOp .Not a pos) (tNot tA) := by
  intro pins s σ H Q I h
  exact isTrue_not (ha pins s σ H (fun c H1 => Q (!c) H1) I h)
end
def SqL (K : PySem.W.Frag) (H : Hp) (a : Addr) (xs : List V) : Prop :=
  Rd H a (.lst xs) ∨
    ∃ (o : Obj) (its : Array Value) (n : Nat), K.lookup a = some o ∧ o.cls = .type "list" ∧ o.dict = none ∧ o.data = .seq its n ∧ its.size ≤ sizeLine ∧ Vals xs its.toList
def SqT (K : PySem.W.Frag) (H : Hp) (a : Addr) (xs : List V) : Prop :=
  Rd H a (.tup xs) ∨
    ∃ (o : Obj) (its : Array Value) (n : Nat), K.lookup a = some o ∧ o.cls = .type "tuple" ∧ o.data = .seq its n ∧ its.size ≤ sizeLine ∧ Vals xs its.toList
def absV : Value → Option V
  | .none => some .non
  | .bool b => some (.bl b)
  | .int i _ => some (.int i)
  | .str x _ => some (.str x)
  | .bytes b _ => some (.byt b)
  | .float b _ => some (.flt b)
  | .ref a => some (.ref a)
  | .type n => some (.ty n)
  | _ => none
theorem RelV.abs {x : V} {u : Value} (r : RelV x u) : absV u = some x := by
  cases x with
  | non => cases r; rfl
  | bl _ => cases r; rfl
  | int _ => obtain ⟨t, rfl⟩ := r; rfl
  | str _ => obtain ⟨t, rfl⟩ := r; rfl
  | byt _ => obtain ⟨t, rfl⟩ := r; rfl
  | flt _ => obtain ⟨t, rfl⟩ := r; rfl
  | ref _ => cases r; rfl
  | ty _ => cases r; rfl
theorem RelV.inj {x y : V} {u : Value} (r : RelV x u) (q : RelV y u) : x = y := Option.some.inj (r.abs.symm.trans q.abs)
theorem Vals.inj : ∀ {xs ys : List V} {us : List Value}, Vals xs us → Vals ys us → xs = ys
  | _, _, _, .nil, .nil => rfl
  | _, _, _, .cons r t, .cons r' t' => by rw [r.inj r', Vals.inj t t']
section
variable {X : Cx} {pins : List (Addr × Obj)} {σ : St} {H : Hp} {s : Shared} {a : Addr} {xs ys : List V}
theorem SqT.of {K : PySem.W.Frag} (h : H a = some (.tup xs)) : SqT K H a xs := .inl (.inl h)
theorem Inv.list (I : Inv X pins σ H s) (h : SqL X.K H a xs) : ∃ its : List Value, Vals xs its ∧ PlainL s.heap a its.toArray ∧ xs.length ≤ sizeLine := by
  rcases h with h | ⟨o, its, n, hk, hc, hd, hs, hz, r⟩
  · obtain ⟨z, its, n, r, e⟩ := h.ok I.hok
    exact ⟨its, r, ⟨_, n, e, rfl, rfl, rfl⟩, z⟩
  · refine ⟨its.toList, r, ⟨o, n, I.kIn a o hk, hc, hd, by simpa using hs⟩, ?_⟩
    have e := r.length
    simp only [Array.length_toList] at e
    omega
theorem Inv.tuple (I : Inv X pins σ H s) (h : SqT X.K H a xs) : ∃ its : List Value, Vals xs its ∧ IsTup s.heap a its.toArray ∧ xs.length ≤ sizeLine := by
  rcases h with h | ⟨o, its, n, hk, hc, hs, hz, r⟩
  · obtain ⟨z, its, r, p⟩ := h.ok I.hok
    exact ⟨its, r, p, z⟩
  · refine ⟨its.toList, r, ⟨o, I.kIn a o hk, hc, n, by simpa using hs⟩, ?_⟩
    have e := r.length
    simp only [Array.length_toList] at e
    omega
theorem Inv.list_inj (I : Inv X pins σ H s) (h : SqL X.K H a xs) (h' : SqL X.K H a ys) : xs = ys := by
  obtain ⟨its, r, ⟨o, n, e, _, _, d⟩, _⟩ := I.list h
  obtain ⟨its', r', ⟨o', n', e', _, _, d'⟩, _⟩ := I.list h'
  rw [e] at e'; cases e'
  rw [d] at d'
  injection d' with d1 _
  have : its = its' := by simpa using congrArg Array.toList d1
  subst this
  exact r.inj r'
theorem Inv.tuple_inj (I : Inv X pins σ H s) (h : SqT X.K H a xs) (h' : SqT X.K H a ys) : xs = ys := by
  obtain ⟨its, r, ⟨o, e, _, n, d⟩, _⟩ := I.tuple h
  obtain ⟨its', r', ⟨o', e', _, n', d'⟩, _⟩ := I.tuple h'
  rw [e] at e'; cases e'
  rw [d] at d'
  injection d' with d1 _
  have : its = its' := by simpa using congrArg Array.toList d1
  subst this
  exact r.inj r'
end
abbrev Cx.wish (X : Cx) (E : Value → Shared → Prop) : Cx := { X with xe := E }
abbrev Cx.nox (X : Cx) : Cx := X.wish fun _ _ => False
theorem Cx.Ok.wish {X : Cx} (ok : X.Ok) (E : Value → Shared → Prop) : (X.wish E).Ok :=
  ⟨ok.mod, ok.kind, ok.glob, ok.blt, ok.above, ok.inj, ok.has, ok.cab, ok.hd, ok.frames, ok.stk, ok.exf, ok.bs, ok.bsz, ok.noex, ok.exfs, ok.funs, ok.frf⟩
theorem Cx.Ok.unwish {X : Cx} {E : Value → Shared → Prop} (ok : (X.wish E).Ok) : X.Ok :=
  ⟨ok.mod, ok.kind, ok.glob, ok.blt, ok.above, ok.inj, ok.has, ok.cab, ok.hd, ok.frames, ok.stk, ok.exf, ok.bs, ok.bsz, ok.noex, ok.exfs, ok.funs, ok.frf⟩
section
variable {X : Cx} {pins : List (Addr × Obj)} {σ : St} {H : Hp} {s : Shared} {E : Value → Shared → Prop}
theorem Inv.wish (I : Inv X pins σ H s) (E : Value → Shared → Prop) : Inv (X.wish E) pins σ H s := ⟨I.ok.wish E, I.os, I.bare, I.base, I.loc, I.cell, I.free, I.freeC, I.pin, I.hok, I.len⟩
theorem Inv.unwish (I : Inv (X.wish E) pins σ H s) : Inv X pins σ H s := ⟨I.ok.unwish, I.os, I.bare, I.base, I.loc, I.cell, I.free, I.freeC, I.pin, I.hok, I.len⟩
theorem SP.unwish {D : Ends} {f : Flow} {s' : Shared} (h : SP (X.wish E) pins D f s') : SP X pins D f s' := by
  cases f with
  | next => obtain ⟨σ', H', I, q⟩ := h; exact ⟨σ', H', I.unwish, q⟩
  | brk => obtain ⟨σ', H', I, q⟩ := h; exact ⟨σ', H', I.unwish, q⟩
  | cont => obtain ⟨σ', H', I, q⟩ := h; exact ⟨σ', H', I.unwish, q⟩
  | ret u => obtain ⟨v, σ', H', I, r, q⟩ := h; exact ⟨v, σ', H', I.unwish, r, q⟩
theorem PSs.nox {st : List Stmt} {t : TS} (h : PSs X.nox st t) : PSs X st t := fun pins s σ H D I hw =>
  wpAny_mono (h pins s σ H D (I.wish _) hw) (fun _ _ q => q.unwish) fun _ _ z => False.elim z
end
section
variable {X : Cx} {st : Stmt} {rest : List Stmt} {t u : TS} {e : Expr} {te : TE} {pos : Pos}
def tNext : TS := fun D σ H => D.nx σ H
def tSeq (t u : TS) : TS := fun D σ H => t { D with nx := u D } σ H
theorem pss_nil : PSs X [] tNext := fun _ _ σ H _ I h => wpAny_execs_nil ⟨σ, H, I, h⟩
theorem pss_cons (h1 : PS X st t) (h2 : PSs X rest u) : PSs X (st :: rest) (tSeq t u) := by
  intro pins s σ H D I h
  refine wpAny_execs_cons (thn (h1 pins s σ H { D with nx := u D } I h) fun f s1 q => ?_)
  cases f with
  | next =>
    obtain ⟨σ', H', I', q⟩ := q
    exact h2 pins s1 σ' H' D I' q
  | ret v => exact q
  | brk => exact q
  | cont => exact q
theorem pss_one (h1 : PS X st t) : PSs X [st] t := by
  intro pins s σ H D I h
  refine wpAny_execs_cons (thn (h1 pins s σ H D I h) fun f s1 q => ?_)
  cases f with
  | next => exact wpAny_execs_nil q
  | ret v => exact q
  | brk => exact q
  | cont => exact q
def tCont : TS := fun D σ H => D.ct σ H
theorem ps_continue : PS X (.Continue pos) tCont := fun _ _ σ H _ I h => wpAny_Continue ⟨σ, H, I, h⟩
theorem Inv.quiet {pins : List (Addr × Obj)} {σ : St} {H : Hp} {s : Shared} (I : Inv X pins σ H s) : interactive X.env = false := by simp [interactive, I.ok.kind]
def tDrop (te : TE) : TS := fun D σ H => te σ H fun _ H1 => D.nx σ H1
theorem ps_expr (he : PE X e te) (hs : swapsWith e none pos.line X.env = pure false := by rfl) : PS X (.Expr e pos) (tDrop te) := by
  intro pins s σ H D I h
  exact wpAny_Expr_any (thn (he pins s σ H _ I h) fun v s1 ⟨x, H1, I1, r1, q1⟩ => ⟨σ, H1, I1, q1⟩) I.quiet hs
def tRet (te : TE) : TS := fun D σ H => te σ H D.rt
theorem ps_ret (he : PE X e te) : PS X (.Return (some e) pos) (tRet te) := by
  intro pins s σ H D I h
  exact wpAny_Return_some (thn (he pins s σ H _ I h) fun v s1 ⟨x, H1, I1, r1, q1⟩ => ⟨x, σ, H1, I1, r1, q1⟩)
def tIfS (c : TT) (t u : TS) : TS := fun D σ H => c σ H fun b H1 => if b = true then t D σ H1 else u D σ H1
theorem ps_if {c : Expr} {a b : List Stmt} {tc : TT} (hc : PT X c tc) (ha : PSs X a t) (hb : PSs X b u) : PS X (.If c a b pos) (tIfS tc t u) := by
  intro pins s σ H D I h
  refine wpAny_If (thn (hc pins s σ H _ I h) fun d s1 ⟨H1, I1, q1⟩ => ?_)
  cases d with
  | true => exact ha pins s1 σ H1 D I1 q1
  | false => exact hb pins s1 σ H1 D I1 q1
end
abbrev TG := V → St → Hp → (St → Hp → Prop) → Prop
abbrev TGs := List V → St → Hp → (St → Hp → Prop) → Prop
def PG (X : Cx) (target : Expr) (t : TG) : Prop :=
  ∀ (pins : List (Addr × Obj)) (s : Shared) (σ : St) (H : Hp) (v : V) (u : Value) (Q : St → Hp → Prop), Inv X pins σ H s → RelV v u → t v σ H Q →
    wpAny (model X.prog X.w) X.A (assign target X.env u) (fun _ s' => ∃ σ' H', Inv X pins σ' H' s' ∧ Q σ' H') X.xe s
def PGs (X : Cx) (ts : List Expr) (t : TGs) : Prop :=
  ∀ (pins : List (Addr × Obj)) (s : Shared) (σ : St) (H : Hp) (vs : List V) (us : List Value) (Q : St → Hp → Prop), Inv X pins σ H s → Vals vs us → t vs σ H Q →
    wpAny (model X.prog X.w) X.A (assignInOrder ((assignEach ts X.env).map (·.2)) us) (fun _ s' => ∃ σ' H', Inv X pins σ' H' s' ∧ Q σ' H') X.xe s
abbrev TSet := V → V → V → Hp → (Hp → Prop) → Prop
def PSet (X : Cx) (t : TSet) : Prop :=
  ∀ (pins : List (Addr × Obj)) (s : Shared) (σ : St) (H : Hp) (o i v : V) (ov iv u : Value) (Q : Hp → Prop), Inv X pins σ H s → RelV o ov → RelV i iv → RelV v u → t o i v H Q →
    wpAny (model X.prog X.w) X.A (setItem ov iv u) (fun _ s' => ∃ H', Inv X pins σ H' s' ∧ Q H') X.xe s
section
variable {X : Cx} {pos : Pos}
def gName (i : Nat) : TG := fun v σ H Q => Q (σ.set i (some v)) H
theorem pg_name {i : Nat} {x : Str} (hN : X.N.Nodup) (hi : X.N[i]? = some x) (hx : Loc X.env.scope x) (hf : X.fn x = true ∨ X.env.scope.names.lookup x = some .local := by first | exact .inl rfl | exact .inr rfl | assumption) : PG X (.Name x pos) (gName i) := by
  intro pins s σ H v u Q I r h
  exact wpAny_assign_Name (store_ok I hN hi hx r (fun s' I' => ⟨_, H, I', h⟩) hf)
def gNil : TGs := fun vs σ H Q => vs = [] ∧ Q σ H
def gCons (t : TG) (u : TGs) : TGs := fun vs σ H Q => ∃ v r, vs = v :: r ∧ t v σ H fun σ' H' => u r σ' H' Q
theorem pgs_nil : PGs X [] gNil := by
  intro pins s σ H vs us Q I r h
  obtain ⟨e, h⟩ := h
  subst e
  cases r
  exact assignInOrder_nil ⟨σ, H, I, h⟩
theorem pgs_cons {e : Expr} {es : List Expr} {t : TG} {u : TGs} (h1 : PG X e t) (h2 : PGs X es u)
    (hs : (assignEach (e :: es) X.env).map (·.2) = assign e X.env :: (assignEach es X.env).map (·.2) := by rfl) : PGs X (e :: es) (gCons t u) := by
  intro pins s σ H vs us Q I r h
  obtain ⟨v, vr, e1, h⟩ := h
  subst e1
  cases r with
  | cons r rr =>
    rw [hs]
    refine assignInOrder_cons (thn (h1 pins s σ H _ _ _ I r h) fun _ s1 ⟨σ1, H1, I1, q1⟩ => ?_)
    exact h2 pins s1 σ1 H1 _ _ Q I1 rr q1
def gTup (K : PySem.W.Frag) (n : Nat) (t : TGs) : TG := fun v σ H Q => ∃ a xs, v = .ref a ∧ SqT K H a xs ∧ xs.length = n ∧ t xs σ H Q
theorem pg_tup {es : List Expr} {k : Nat} {t : TGs} {n : Nat} (hc : X.calm = true) (h : PGs X es t)
    (hn : (assignEach es X.env).length = n := by rfl) (hst : (assignEach es X.env).findIdx? (·.1) = none := by rfl) : PG X (.Tuple es k pos) (gTup X.K n t) := by
  intro pins s σ H v u Q I r hw
  obtain ⟨a, xs, e1, hq, hl, hw⟩ := hw
  subst e1
  cases r
  obtain ⟨its, rv, ht, hz⟩ := I.tuple hq
  refine assign_Tuple_tuple (I.ok.hd hc) ht (by simp [hn, ← hl, rv.length]) hst fun h' hx => ?_
  have I1 : Inv X pins σ H { s with heap := h' } := I.kept (t' := s.toks) fun b o e => hx b o (Nat.ne_of_lt (Heap.lt_size e)) e
  exact h pins _ σ H xs _ Q I1 (by simpa using rv) hw
def gSub (to ti : TE) (t : TSet) : TG := fun v σ H Q => to σ H fun o H1 => ti σ H1 fun i H2 => t o i v H2 fun H3 => Q σ H3
theorem pg_sub {o i : Expr} {to ti : TE} {t : TSet} (ho : PE X o to) (hi : PE X i ti) (hs : PSet X t)
    (ha : ∀ v, assign (.Subscript o i pos) X.env v = (do
      let ov ← holding [v] (eval o X.env)
      let iv ← holding [v, ov] (eval i X.env)
      standAt pos
      holding [v, ov, iv] (setItem ov iv v)
      release [v, ov, iv] []) := by intro _; rfl) : PG X (.Subscript o i pos) (gSub to ti t) := by
  intro pins s σ H v u Q I r h
  rw [ha]
  refine wpAny_bind (wpAny_holding (thn (ho pins s σ H _ I h) fun ov s1 ⟨x, H1, I1, r1, q1⟩ => ?_))
  refine wpAny_bind (wpAny_holding (thn (hi pins s1 σ H1 _ I1 q1) fun iv s2 ⟨y, H2, I2, r2, q2⟩ => ?_))
  refine wpAny_bind (wpAny_standAt (wpAny_bind (wpAny_holding (thn (hs pins s2 σ H2 x y v ov iv u _ I2 r1 r2 r q2) fun _ s3 ⟨H3, I3, q3⟩ => ?_))))
  exact wpAny_release ⟨σ, H3, I3, q3⟩
def tAsg (te : TE) (g : TG) : TS := fun D σ H => te σ H fun x H1 => g x σ H1 D.nx
theorem ps_asg {tg e : Expr} {te : TE} {g : TG} (he : PE X e te) (hg : PG X tg g) (hs : swapsWithSole [tg] e pos.line X.env = pure false := by rfl) (hw : swappedStores [tg] e X.env = pure none := by rfl)
    (h1 : (assignEach [tg] X.env).map (·.2) = [assign tg X.env] := by rfl) : PS X (.Assign [tg] e pos) (tAsg te g) := by
  intro pins s σ H D I h
  refine wpAny_Assign_stores (thn (he pins s σ H _ I h) fun v s1 ⟨x, H1, I1, r1, q1⟩ => ?_) hs hw
  rw [h1]
  exact thn (hg pins s1 σ H1 x v _ I1 r1 q1) fun _ s2 q => q
theorem ps_set {i : Nat} {x : Str} {e : Expr} {te : TE} {pos' : Pos} (hN : X.N.Nodup) (hi : X.N[i]? = some x) (hx : Loc X.env.scope x) (he : PE X e te) (hs : swapsWith e (some (.Name x pos')) pos.line X.env = pure false := by rfl) (hf : X.fn x = true ∨ X.env.scope.names.lookup x = some .local := by first | exact .inl rfl | exact .inr rfl | assumption) :
    PS X (.Assign [.Name x pos'] e pos) (tAsg te (gName i)) := by
  intro pins s σ H D I h
  refine wpAny_Assign_Name (thn (he pins s σ H _ I h) fun v s1 ⟨y, H1, I1, r1, q1⟩ => ?_) hs
  exact store_ok I1 hN hi hx r1 (fun s2 I2 => ⟨_, H1, I2, q1⟩) hf
end
structure It where
  go : Nat → Hp → Prop
  yld : Nat → Hp → V → Hp → Prop
  stop : Nat → Hp → Prop
def FpOk (X : Cx) (pins : List (Addr × Obj)) (H : Hp) (b : Addr) : Prop :=
  H b = none ∧ b ≠ X.env.locals ∧ b ∉ X.fs ∧ (b ∈ X.ex ∨ X.s₀.heap.objs.size ≤ b) ∧ (∀ x c, X.env.cells.lookup x = some c → c ≠ b) ∧ ∀ p ∈ X.pn ++ pins, p.1 ≠ b
theorem Inv.fpOk {X : Cx} {pins : List (Addr × Obj)} {σ : St} {H H' : Hp} {s : Shared} {b : Addr} (I : Inv X pins σ H s) (hb : s.heap.objs.size ≤ b) (hn : H' b = none) : FpOk X pins H' b := by
  refine ⟨hn, Nat.ne_of_gt (Nat.lt_of_lt_of_le I.lt hb), I.nofs hb, .inr (Nat.le_trans I.sz hb), fun x c e z => ?_, fun p hp z => ?_⟩
  · obtain ⟨v, q⟩ := I.cell x c e
    exact absurd (Nat.lt_of_lt_of_le q.lt (by rw [z]; exact hb)) (Nat.lt_irrefl _)
  · exact absurd (Nat.lt_of_lt_of_le (Heap.lt_size (I.pin p hp).1) (by rw [z]; exact hb)) (Nat.lt_irrefl _)
structure Turn (P : Program) (w : World) (K : PySem.W.Frag) (tg : Expr) (J : It) (fp : List Addr) (it : Addr) (tn : Nat → Heap → Prop) : Prop where
  mem : it ∈ fp
  obj : ∀ i h, tn i h → ∀ b ∈ fp, ∃ o, h.get? b = some o ∧ ∀ v, o.data ≠ .cell v
  keep : ∀ i h h', tn i h → (∀ b ∈ fp, ∀ o, h.get? b = some o → h'.get? b = some o) → tn i h'
  item : ∀ (X : Cx), X.prog = P → X.w = w → X.K = K → X.calm = true → ∀ (i : Nat) (pins : List (Addr × Obj)) (s : Shared) (σ : St) (H : Hp) (E : Value → Shared → Prop), Inv X pins σ H s → (∀ b ∈ fp, FpOk X pins H b) → tn i s.heap → J.go i H →
    wpAny (model P w) X.A (pyNext (.ref it)) (fun r s1 => ∃ u, r = some u ∧
      wpAny (model P w) X.A (letOwnedTupleGo tg (.ref it) u) (fun _ s2 => ∃ x H', Inv X pins σ H' s2 ∧ RelV x u ∧ J.yld i H x H' ∧ tn (i + 1) s2.heap ∧ ∀ b ∈ fp, H' b = none) E s1) E s
  done : ∀ (X : Cx), X.prog = P → X.w = w → X.K = K → X.calm = true → ∀ (i : Nat) (pins : List (Addr × Obj)) (s : Shared) (σ : St) (H : Hp) (E : Value → Shared → Prop), Inv X pins σ H s → (∀ b ∈ fp, FpOk X pins H b) → tn i s.heap → J.stop i H →
    wpAny (model P w) X.A (pyNext (.ref it)) (fun r s1 => r = none ∧ Inv X pins σ H s1) E s
  self : ∀ (A : Around) (i : Nat) (s : Shared) (Q : Value → Shared → Prop) (E : Value → Shared → Prop), tn i s.heap → Q (.ref it) s → wpAny (model P w) A (pyIter (.ref it)) Q E s
abbrev TI := St → Hp → (It → Hp → Prop) → Prop
def PIE (X : Cx) (pins : List (Addr × Obj)) (σ : St) (tg : Expr) (R : It → Hp → Prop) (itv : Value) (s2 : Shared) : Prop :=
  ∃ (it : Addr) (fp : List Addr) (tn : Nat → Heap → Prop) (J : It) (H' : Hp), itv = .ref it ∧ Inv X pins σ H' s2 ∧ Turn X.prog X.w X.K tg J fp it tn ∧ tn 0 s2.heap ∧ (∀ b ∈ fp, FpOk X pins H' b) ∧ R J H'
def PI (X : Cx) (tg iter : Expr) (wi : TI) : Prop :=
  ∀ (pins : List (Addr × Obj)) (s : Shared) (σ : St) (H : Hp) (R : It → Hp → Prop), Inv X pins σ H s → wi σ H R →
    wpAny (model X.prog X.w) X.A (eval iter X.env) (fun v s1 => wpAny (model X.prog X.w) X.A (pyIter v) (PIE X pins σ tg R) X.xe s1) X.xe s
theorem go_of {M : Model} {A : Around} {E : Value → Shared → Prop} {s : Shared} {tg : Expr} {it : Addr} {u : Value} {o : Obj} {n : String} {vs : Array Value} {Q : Unit → Shared → Prop} (ho : s.heap.get? it = some o) (hc : o.cls = .type n) (hd : o.data = .fields vs)
    (hn : ["enumerate", "zip", "dict_itemiterator", "dict_reverseitemiterator", "odict_iterator", "itertools.zip_longest", "itertools.pairwise"].contains n = false) (hQ : Q () s) : wpAny M A (letOwnedTupleGo tg (.ref it) u) Q E s := by
  unfold letOwnedTupleGo
  cases tg <;> first
    | exact wpAny_pure hQ
    | (cases u <;> first
        | exact wpAny_pure hQ
        | (refine wpAny_bind (wpAny_load ho ?_)
           rw [hc, hd]
           show wpAny M A (if (["enumerate", "zip", "dict_itemiterator", "dict_reverseitemiterator", "odict_iterator", "itertools.zip_longest", "itertools.pairwise"].contains n && vs[0]? == some (rawInt _)) = true then _ else _) Q E s
           rw [if_neg (by intro h; rw [hn, Bool.false_and] at h; cases h)]
           exact wpAny_pure hQ))
def Itl (K : PySem.W.Frag) (a : Addr) : It :=
  ⟨fun i H => ∃ xs x, SqL K H a xs ∧ xs[i]? = some x, fun i H x H' => H' = H ∧ ∀ xs, SqL K H a xs → xs[i]? = some x, fun i H => ∃ xs, SqL K H a xs ∧ xs.length ≤ i⟩
def Itr (lo : Int) (n : Nat) : It := ⟨fun i _ => i < n, fun i H x H' => H' = H ∧ x = .int (lo + i), fun i _ => n ≤ i⟩
theorem turn_list {P : Program} {w : World} {K : PySem.W.Frag} {tg : Expr} (a it : Addr) : Turn P w K tg (Itl K a) [it] it (fun i h => h.IsListIter it a i) where
  mem := by simp
  obj := fun i h st b hb => by
    have e : b = it := by simpa using hb
    subst e
    obtain ⟨o, e, c, d⟩ := st
    exact ⟨o, e, fun v z => by rw [d] at z; cases z⟩
  keep := fun i h h' st k => st.at fun o e => k it (by simp) o e
  item := by
    intro X hP hw hK hc i pins s σ H E I hf st hg
    subst hP hw hK
    obtain ⟨xs, x, hq, hx⟩ := hg
    obtain ⟨its, rv, p, hz⟩ := I.list hq
    obtain ⟨u, hu, ru⟩ := rv.get hx
    obtain ⟨f0, f1, f2, f3, f4, f5⟩ := hf it (by simp)
    refine wpAny_pyNext_list_item st p.isList (x := u) (by simpa using hu) fun h' st' sb => ?_
    have I1 : Inv X pins σ H { s with heap := h' } := I.turned (t' := s.toks) (fun b o hb e => (sb.2 b hb).trans e) f0 f1 f3 f4 f5
    obtain ⟨o, e, c, d⟩ := id st'
    exact ⟨u, rfl, go_of (s := { s with heap := h' }) e c d (by decide) ⟨x, H, I1, ru, ⟨rfl, fun ys hy => by rw [I.list_inj hy hq]; exact hx⟩, st', fun b hb => (hf b hb).1⟩⟩
  done := by
    intro X hP hw hK hc i pins s σ H E I hf st hg
    subst hP hw hK
    obtain ⟨xs, hq, hx⟩ := hg
    obtain ⟨its, rv, p, hz⟩ := I.list hq
    obtain ⟨f0, f1, f2, f3, f4, f5⟩ := hf it (by simp)
    have hl := rv.length
    exact wpAny_pyNext_list_end (I.ok.hd hc) st p.isList (by simp; omega) fun h' eb => ⟨rfl, I.turned (t' := s.toks) (fun b o hb e => eb b o hb e) f0 f1 f3 f4 f5⟩
  self := fun _ _ _ _ _ st h => wpAny_pyIter_listiter st h
theorem turn_range {P : Program} {w : World} {K : PySem.W.Frag} {tg : Expr} (it : Addr) (lo : Int) (n : Nat) : Turn P w K tg (Itr lo n) [it] it (fun i h => IsRangeIter h it (lo + (i : Nat) * 1) ((n : Int) - (i : Nat)) 1) where
  mem := by simp
  obj := fun i h st b hb => by
    have e : b = it := by simpa using hb
    subst e
    exact ⟨_, st, fun v z => by
      have z' : Data.fields _ = Data.cell v := z
      cases z'⟩
  keep := fun i h h' st k => k it (by simp) _ st
  item := by
    intro X hP hw hK hc i pins s σ H E I hf st hg
    subst hP hw hK
    obtain ⟨f0, f1, f2, f3, f4, f5⟩ := hf it (by simp)
    have W := Walks.range (prog := X.prog) (w := X.w) (I.ok.hd hc) it lo 1 n
    refine W.item i s _ _ hg st fun v h' tk hv st' kk => ?_
    obtain ⟨t, rfl⟩ := hv
    have I1 : Inv X pins σ H { s with heap := h', toks := tk } := I.turned (fun b o hb e => kk b o (by simpa using hb) e) f0 f1 f3 f4 f5
    refine ⟨_, rfl, go_of (s := { s with heap := h', toks := tk }) (n := "range_iterator") st' rfl rfl (by decide) ⟨.int (lo + i), H, I1, ⟨t, ?_⟩, ⟨rfl, rfl⟩, st', fun b hb => (hf b hb).1⟩⟩
    rw [Int.mul_one]
  done := by
    intro X hP hw hK hc i pins s σ H E I hf st hg
    subst hP hw hK
    obtain ⟨f0, f1, f2, f3, f4, f5⟩ := hf it (by simp)
    exact wpAny_pyNext_range_end (I.ok.hd hc) st (by have : n ≤ i := hg; omega) fun h' eb => ⟨rfl, I.turned (t' := s.toks) (fun b o hb e => eb b o hb e) f0 f1 f3 f4 f5⟩
  self := fun _ _ _ _ _ st h => wpAny_pyIter_rangeiter st h
section
variable {X : Cx} {tg : Expr}
def iList (K : PySem.W.Frag) (tl : TE) : TI := fun σ H R => tl σ H fun x H1 => ∃ a, x = .ref a ∧ (∃ xs, SqL K H1 a xs) ∧ R (Itl K a) H1
theorem pi_list {l : Expr} {tl : TE} (hl : PE X l tl) : PI X tg l (iList X.K tl) := by
  intro pins s σ H R I h
  refine thn (hl pins s σ H _ I h) fun v s1 ⟨x, H1, I1, r1, q1⟩ => ?_
  obtain ⟨a, e, ⟨xs, hq⟩, q⟩ := q1
  subst e
  cases r1
  obtain ⟨its, rv, p, hz⟩ := I1.list hq
  refine wpAny_pyIter_list p.isList ?_
  refine ⟨s1.heap.objs.size, [s1.heap.objs.size], _, _, H1, rfl, I1.kept (t' := s1.toks) fun b o e => Heap.get?_push_of_some _ e, turn_list a _, ⟨_, Heap.get?_push_size _ rfl, rfl, rfl⟩, fun b hb => ?_, q⟩
  have e : b = s1.heap.objs.size := by simpa using hb
  subst e
  exact I1.fpOk (Nat.le_refl _) (I1.hok.fresh (Nat.le_refl _))
theorem range_it {pins : List (Addr × Obj)} {σ : St} {H : Hp} {s : Shared} {R : It → Hp → Prop} {E : Value → Shared → Prop} {lo hi : Int} {t u v : Tok} {tk : Nat} (I : Inv X pins σ H s) (h1 : -(2 ^ 62) ≤ lo) (h2 : lo < 2 ^ 62) (h3 : -(2 ^ 62) ≤ hi) (h4 : hi < 2 ^ 62)
    (q : R (Itr lo (hi - lo).toNat) H) : wpAny (model X.prog X.w) X.A (pyIter (.ref s.heap.objs.size)) (PIE X pins σ tg R) E { s with heap := s.heap.push { cls := .type "range", data := .fields #[.int lo t, .int hi u, .int 1 v] }, toks := tk } := by
  refine wpAny_pyIter_range (IsRange.new ..) (small_one h1 h2 h3 h4) ?_
  have I1 : Inv X pins σ H { s with heap := s.heap.push { cls := .type "range", data := .fields #[.int lo t, .int hi u, .int 1 v] }, toks := tk } := I.kept fun b o e => Heap.get?_push_of_some _ e
  refine ⟨(s.heap.push { cls := .type "range", data := .fields #[.int lo t, .int hi u, .int 1 v] }).objs.size, [(s.heap.push { cls := .type "range", data := .fields #[.int lo t, .int hi u, .int 1 v] }).objs.size], _, _, H, rfl,
    I1.kept (t' := tk) fun b o e => Heap.get?_push_of_some _ e, turn_range _ lo (hi - lo).toNat, ?_, fun b hb => ?_, q⟩
  · have e1 : lo + ((0 : Nat) : Int) * 1 = lo := by simp
    have e2 : (((hi - lo).toNat : Nat) : Int) - ((0 : Nat) : Int) = Builtin.Range.rangeSize lo hi 1 := by rw [rangeSize_one]; split <;> omega
    show IsRangeIter _ _ (lo + ((0 : Nat) : Int) * 1) ((((hi - lo).toNat : Nat) : Int) - ((0 : Nat) : Int)) 1
    rw [e1, e2]
    exact Heap.get?_push_size _ rfl
  · have e : b = (s.heap.push { cls := .type "range", data := .fields #[.int lo t, .int hi u, .int 1 v] }).objs.size := by simpa using hb
    subst e
    exact I1.fpOk (Nat.le_refl _) (I1.hok.fresh (Nat.le_refl _))
def iRng1 (ta : TA) : TI := fun σ H R => ta σ H fun vs H1 => ∃ j : Int, vs = [.int j] ∧ -(2 ^ 62) ≤ j ∧ j < 2 ^ 62 ∧ R (Itr 0 j.toNat) H1
def iRng2 (ta : TA) : TI := fun σ H R => ta σ H fun vs H1 => ∃ i j : Int, vs = [.int i, .int j] ∧ (-(2 ^ 62) ≤ i ∧ i < 2 ^ 62 ∧ -(2 ^ 62) ≤ j ∧ j < 2 ^ 62) ∧ R (Itr i (j - i).toNat) H1
theorem pi_range1 {a : Expr} {ta : TA} {p pos : Pos} (hg : Gl X "range") (hm : X.mg "range" = none) (ha : PA X [a] ta) (hs : starEach [a] X.env = [(false, eval a X.env)] := by rfl) : PI X tg (.Call (.Name "range" p) [a] [] pos) (iRng1 ta) := by
  intro pins s σ H R I h
  refine Call_ (ld_blt I hg hm boot_range (PyProof.Rows.callWith_type1 (thn (ha pos pins s σ H _ I h) fun us s1 ⟨vs, H1, I1, r1, q1⟩ => ?_) hs rfl))
  obtain ⟨j, e, q1, q2, q⟩ := q1
  subst e
  cases r1 with
  | cons r rr =>
    cases rr
    obtain ⟨t, rfl⟩ := r
    exact call_range_1 (range_it I1 (by omega) (by omega) q1 q2 (by simpa using q))
theorem pi_range2 {a b : Expr} {ta : TA} {p pos : Pos} (hg : Gl X "range") (hm : X.mg "range" = none) (ha : PA X [a, b] ta) (hs : starEach [a, b] X.env = [(false, eval a X.env), (false, eval b X.env)] := by rfl) (hs2 : starEach [b] X.env = [(false, eval b X.env)] := by rfl) :
    PI X tg (.Call (.Name "range" p) [a, b] [] pos) (iRng2 ta) := by
  intro pins s σ H R I h
  refine Call_ (ld_blt I hg hm boot_range (PyProof.Rows.callWith_type1 (thn (ha pos pins s σ H _ I h) fun us s1 ⟨vs, H1, I1, r1, q1⟩ => ?_) (by rw [hs, hs2]) (by rw [hs2]; rfl)))
  obtain ⟨i, j, e, ⟨q1, q2, q3, q4⟩, q⟩ := q1
  subst e
  cases r1 with
  | cons r rr =>
    cases rr with
    | cons r' rr =>
      cases rr
      obtain ⟨t, rfl⟩ := r
      obtain ⟨t', rfl⟩ := r'
      exact call_range_2 (range_it I1 q1 q2 q3 q4 q)
def tFor (wi : TI) (g : TG) (tb : TS) : TS := fun D σ H => wi σ H fun J H1 => ∃ W : Nat → Nat → St → Hp → Prop, (∃ m, W 0 m σ H1) ∧ ∀ i m σ H, W i m σ H →
  (J.stop i H ∧ D.nx σ H) ∨ (J.go i H ∧ ∃ N : St → Hp → Prop, (∀ σ' H', N σ' H' → ∃ m', m' < m ∧ W (i + 1) m' σ' H') ∧ ∀ x H', J.yld i H x H' → g x σ H' fun σ2 H2 => tb { D with nx := N, ct := N, bk := D.nx } σ2 H2)
def pinsAt (fp : List Addr) (h : Heap) : List (Addr × Obj) := fp.filterMap fun b => (h.get? b).map fun o => (b, o)
theorem mem_pinsAt {fp : List Addr} {h : Heap} {b : Addr} {o : Obj} (hb : b ∈ fp) (e : h.get? b = some o) : (b, o) ∈ pinsAt fp h := List.mem_filterMap.mpr ⟨b, hb, by rw [e]; rfl⟩
theorem of_pinsAt {fp : List Addr} {h : Heap} {p : Addr × Obj} (hp : p ∈ pinsAt fp h) : p.1 ∈ fp ∧ h.get? p.1 = some p.2 := by
  obtain ⟨b, hb, e⟩ := List.mem_filterMap.mp hp
  cases q : h.get? b with
  | none => rw [q] at e; cases e
  | some o =>
    rw [q] at e
    have e' : (b, o) = p := Option.some.inj e
    subst e'
    exact ⟨hb, q⟩
theorem Inv.pinned {pins : List (Addr × Obj)} {σ : St} {H : Hp} {s : Shared} {fp : List Addr} (I : Inv X pins σ H s) (hf : ∀ b ∈ fp, FpOk X pins H b) (ho : ∀ b ∈ fp, ∃ o, s.heap.get? b = some o ∧ ∀ v, o.data ≠ .cell v) : Inv X (pins ++ pinsAt fp s.heap) σ H s :=
  I.pins_of fun p hp => (List.mem_append.mp hp).elim (fun z => I.pin p (List.mem_append_right _ z)) fun z => by
    obtain ⟨hb, e⟩ := of_pinsAt z
    obtain ⟨f0, f1, f2, _⟩ := hf p.1 hb
    obtain ⟨o, e', d⟩ := ho p.1 hb
    rw [e] at e'; cases e'
    exact ⟨e, f0, f1, f2, d⟩
theorem Inv.unpinned {pins pl : List (Addr × Obj)} {σ : St} {H : Hp} {s : Shared} (I : Inv X (pins ++ pl) σ H s) : Inv X pins σ H s := I.pins_of fun p hp => I.pin p (List.mem_append_right _ (List.mem_append_left _ hp))
theorem ps_for {iter : Expr} {body : List Stmt} {wi : TI} {g : TG} {tb : TS} {pos : Pos} (hp : PassesOwn (model X.prog X.w) X.A X.env X.xe) (hc : X.calm = true) (hi : PI X tg iter wi) (hg : PG X tg g) (hb : PSs X body tb)
    (hs : ∀ x, foldedSetIterable iter X.env x = pure x := by intro _; rfl) : PS X (.For tg iter body [] pos) (tFor wi g tb) := by
  intro pins s σ H D I h
  refine wpAny_For (thn (hi pins s σ H _ I h) fun v s1 h1 => thn h1 fun itv s2 h2 => ?_) hs
  obtain ⟨it, fp, tn, J, H2, e, I2, T, st2, f2, W, ⟨m0, w0⟩, turn⟩ := h2
  subst e
  -- what stays true of the iterator's objects through the loop
  have stat : ∀ {H' : Hp}, (∀ b ∈ fp, H' b = none) → ∀ b ∈ fp, FpOk X pins H' b := fun hn b hb => ⟨hn b hb, (f2 b hb).2⟩
  refine codeAny_forLoop_any (fun n s' => ∃ i σ' H', Inv X pins σ' H' s' ∧ tn i s'.heap ∧ (∀ b ∈ fp, H' b = none) ∧ W i n σ' H') ?_ m0 ⟨0, σ, H2, I2, st2, fun b hb => (f2 b hb).1, w0⟩
  rintro n s3 ⟨i, σ3, H3, I3, st3, fr3, w3⟩
  rcases turn i n σ3 H3 w3 with ⟨stop, qn⟩ | ⟨go, N, hN, step⟩
  · refine wpAny_passesOwn hp (thn (T.done X rfl rfl rfl hc i pins s3 σ3 H3 X.xe I3 (stat fr3) st3 stop) fun r s4 ⟨hr, I4⟩ => ?_)
    subst hr
    exact wpAny_execs_nil ⟨σ3, H3, I4, qn⟩
  · refine wpAny_passesOwn hp (thn (T.item X rfl rfl rfl hc i pins s3 σ3 H3 X.xe I3 (stat fr3) st3 go) fun r s4 ⟨u, hr, h4⟩ => ?_)
    subst hr
    refine wpAny_passesOwn hp (thn h4 fun _ s5 ⟨x, H5, I5, r5, y5, st5, fr5⟩ => ?_)
    have I5' := I5.pinned (stat fr5) (T.obj _ _ st5)
    refine wpAny_passesOwn hp (thn (hg _ s5 σ3 H5 x u _ I5' r5 (step x H5 y5)) fun _ s6 ⟨σ6, H6, I6, q6⟩ => ?_)
    refine wpAny_passesOwn hp (thn (hb _ s6 σ6 H6 _ I6 q6) fun f s7 q7 => ?_)
    have again : ∀ {σ7 : St} {H7 : Hp}, Inv X (pins ++ pinsAt fp s5.heap) σ7 H7 s7 → N σ7 H7 → ∃ m, m < n ∧ ∃ i σ' H', Inv X pins σ' H' s7 ∧ tn i s7.heap ∧ (∀ b ∈ fp, H' b = none) ∧ W i m σ' H' := fun {σ7 H7} I7 n7 => by
      obtain ⟨m', hm, w7⟩ := hN σ7 H7 n7
      refine ⟨m', hm, i + 1, σ7, H7, I7.unpinned, T.keep _ _ _ st5 fun b hb o e => (I7.pin (b, o) (List.mem_append_right _ (List.mem_append_right _ (mem_pinsAt hb e)))).1, fun b hb => ?_, w7⟩
      obtain ⟨o, e, d⟩ := T.obj _ _ st5 b hb
      exact (I7.pin (b, o) (List.mem_append_right _ (List.mem_append_right _ (mem_pinsAt hb e)))).2.1
    cases f with
    | next => obtain ⟨σ7, H7, I7, n7⟩ := q7; exact again I7 n7
    | cont => obtain ⟨σ7, H7, I7, n7⟩ := q7; exact again I7 n7
    | brk => obtain ⟨σ7, H7, I7, q7⟩ := q7; exact ⟨σ7, H7, I7.unpinned, q7⟩
    | ret v => obtain ⟨x7, σ7, H7, I7, r7, q7⟩ := q7; exact ⟨x7, σ7, H7, I7.unpinned, r7, q7⟩
end
abbrev R2 := V → V → Hp → VK → Prop
def OpR (X : Cx) (f : Value → Value → Sem Value) (r : R2) : Prop :=
  ∀ (pins : List (Addr × Obj)) (s : Shared) (σ : St) (H : Hp) (x y : V) (v u : Value) (Q : VK), Inv X pins σ H s → RelV x v → RelV y u → r x y H Q →
    wpAny (model X.prog X.w) X.A (f v u) (EP X pins σ Q) X.xe s
def UnR (X : Cx) (f : Value → Sem Value) (r : V → Hp → VK → Prop) : Prop :=
  ∀ (pins : List (Addr × Obj)) (s : Shared) (σ : St) (H : Hp) (x : V) (v : Value) (Q : VK), Inv X pins σ H s → RelV x v → r x H Q →
    wpAny (model X.prog X.w) X.A (f v) (EP X pins σ Q) X.xe s
def CallR (X : Cx) (f : Value) (r : List V → Hp → VK → Prop) : Prop :=
  ∀ (pins : List (Addr × Obj)) (s : Shared) (σ : St) (H : Hp) (xs : List V) (us : List Value) (Q : VK), Inv X pins σ H s → Vals xs us → r xs H Q →
    wpAny (model X.prog X.w) X.A (call f us) (EP X pins σ Q) X.xe s
def TruR (X : Cx) (r : V → Hp → (Bool → Hp → Prop) → Prop) : Prop :=
  ∀ (pins : List (Addr × Obj)) (s : Shared) (σ : St) (H : Hp) (x : V) (v : Value) (Q : Bool → Hp → Prop), Inv X pins σ H s → RelV x v → r x H Q →
    wpAny (model X.prog X.w) X.A (truthy v) (TP X pins σ Q) X.xe s
def tOp (r : R2) (ta tb : TE) : TE := fun σ H Q => ta σ H fun x H1 => tb σ H1 fun y H2 => r x y H2 Q
def tUn (r : V → Hp → VK → Prop) (ta : TE) : TE := fun σ H Q => ta σ H fun x H1 => r x H1 Q
def rI (C : Int → Int → Prop) (g : Int → Int → V) : R2 := fun x y H Q => ∃ i j, x = .int i ∧ y = .int j ∧ C i j ∧ Q (g i j) H
def rI0 (g : Int → Int → V) : R2 := fun x y H Q => ∃ i j, x = .int i ∧ y = .int j ∧ Q (g i j) H
def rU (g : Int → V) : V → Hp → VK → Prop := fun x H Q => ∃ i, x = .int i ∧ Q (g i) H
section
variable {X : Cx} {a b c : Expr} {ta tb tc : TE} {pos : Pos}
theorem binT (ha : PE X a ta) (hb : PE X b tb) {pins : List (Addr × Obj)} {s : Shared} {σ : St} {H : Hp} {R : V → V → Hp → Prop} (I : Inv X pins σ H s)
    (h : ta σ H fun x H1 => tb σ H1 fun y H2 => R x y H2) {Q : Value → Shared → Prop} {f : Value → Value → Sem Value}
    (hf : ∀ v u s2 x y H2, Inv X pins σ H2 s2 → RelV x v → RelV y u → R x y H2 → wpAny (model X.prog X.w) X.A (f v u) Q X.xe s2) :
    wpAny (model X.prog X.w) X.A (eval a X.env) (fun v s₁ => wpAny (model X.prog X.w) X.A (eval b X.env) (fun u s₂ => wpAny (model X.prog X.w) X.A (f v u) Q X.xe s₂) X.xe s₁) X.xe s := by
  refine thn (ha pins s σ H _ I h) fun v s1 ⟨x, H1, I1, r1, q1⟩ => ?_
  refine thn (hb pins s1 σ H1 _ I1 q1) fun u s2 ⟨y, H2, I2, r2, q2⟩ => ?_
  exact hf v u s2 x y H2 I2 r1 r2 q2
theorem pe_op {op : Operator} {r : R2} (ho : OpR X (binaryOp op) r) (ha : PE X a ta) (hb : PE X b tb) : PE X (.BinOp a op b pos) (tOp r ta tb) := by
  intro pins s σ H Q I h
  exact wpAny_BinOp (binT ha hb I h fun v u s2 x y H2 I2 rx ry q => ho pins s2 σ H2 x y v u Q I2 rx ry q)
theorem pe_un {op : UnaryOp} {r : V → Hp → VK → Prop} (ho : UnR X (unaryOp op) r) (ha : PE X a ta) : PE X (.UnaryOp op a pos) (tUn r ta) := by
  intro pins s σ H Q I h
  exact UnaryOp_ (thn (ha pins s σ H _ I h) fun v s1 ⟨x, H1, I1, r1, q1⟩ => ho pins s1 σ H1 x v Q I1 r1 q1)
theorem opI {f : Value → Value → Sem Value} {C : Int → Int → Prop} {g : Int → Int → Int}
    (rule : ∀ (i j : Int) (t u : Tok) (s : Shared) (Q : Value → Shared → Prop) (E : Value → Shared → Prop), C i j → Q (.int (g i j) s.toks) { s with toks := s.toks + 1 } → wpAny (model X.prog X.w) X.A (f (.int i t) (.int j u)) Q E s) :
    OpR X f (rI C fun i j => .int (g i j)) := by
  intro pins s σ H x y v u Q I rx ry h
  obtain ⟨i, j, rfl, rfl, hc, q⟩ := h
  obtain ⟨t, rfl⟩ := rx
  obtain ⟨t', rfl⟩ := ry
  exact rule i j t t' s _ _ hc ⟨.int (g i j), H, I.tok _, ⟨_, rfl⟩, q⟩
theorem opI0 {f : Value → Value → Sem Value} {g : Int → Int → Int}
    (rule : ∀ (i j : Int) (t u : Tok) (s : Shared) (Q : Value → Shared → Prop) (E : Value → Shared → Prop), Q (.int (g i j) s.toks) { s with toks := s.toks + 1 } → wpAny (model X.prog X.w) X.A (f (.int i t) (.int j u)) Q E s) :
    OpR X f (rI0 fun i j => .int (g i j)) := by
  intro pins s σ H x y v u Q I rx ry h
  obtain ⟨i, j, rfl, rfl, q⟩ := h
  obtain ⟨t, rfl⟩ := rx
  obtain ⟨t', rfl⟩ := ry
  exact rule i j t t' s _ _ ⟨.int (g i j), H, I.tok _, ⟨_, rfl⟩, q⟩
theorem opB0 {f : Value → Value → Sem Value} {g : Int → Int → Bool}
    (rule : ∀ (i j : Int) (t u : Tok) (s : Shared) (Q : Value → Shared → Prop) (E : Value → Shared → Prop), Q (.bool (g i j)) s → wpAny (model X.prog X.w) X.A (f (.int i t) (.int j u)) Q E s) :
    OpR X f (rI0 fun i j => .bl (g i j)) := by
  intro pins s σ H x y v u Q I rx ry h
  obtain ⟨i, j, rfl, rfl, q⟩ := h
  obtain ⟨t, rfl⟩ := rx
  obtain ⟨t', rfl⟩ := ry
  exact rule i j t t' s _ _ ⟨.bl (g i j), H, I, rfl, q⟩
def CDiv (i j : Int) : Prop := 0 < j ∧ j < 1073741824
def CPow (i j : Int) : Prop := 0 ≤ j ∧ j ≤ 1000000 ∧ i.natAbs < 2 ^ 64
def CMul (i j : Int) : Prop := (-(2 ^ 64) < i ∧ i < 2 ^ 64) ∨ (-(2 ^ 64) < j ∧ j < 2 ^ 64)
theorem CMul.ok {i j : Int} (h : CMul i j) : IntMulOk i j := by
  rcases h with ⟨h1, h2⟩ | ⟨h1, h2⟩
  · exact .of_left (intBits_le_64 h1 h2)
  · exact .of_right (intBits_le_64 h1 h2)
theorem op_add : OpR X (binaryOp .Add) (rI0 fun i j => .int (i + j)) := opI0 fun _ _ _ _ _ _ _ q => add_int q
theorem op_sub : OpR X (binaryOp .Sub) (rI0 fun i j => .int (i - j)) := opI0 fun _ _ _ _ _ _ _ q => sub_int q
theorem op_fdiv : OpR X (binaryOp .FloorDiv) (rI CDiv fun i j => .int (i / j)) := opI fun i j _ _ _ _ _ hc q => by
  have h1 : (0 : Int) < j := hc.1
  have h2 : j < 1073741824 := hc.2
  exact floordiv_int (by omega) (by rw [Int.fdiv_eq_ediv_of_nonneg i (by omega)]; exact q) (.inl (PyProof.noPylong_small (by omega)))
theorem op_mod : OpR X (binaryOp .Mod) (rI (fun _ j => 0 < j) fun i j => .int (i % j)) := opI fun i j _ _ _ _ _ hc q => by
  have h1 : (0 : Int) < j := hc
  exact mod_int' (by omega) (by rw [Int.fmod_eq_emod_of_nonneg i (by omega)]; exact q)
theorem op_pow : OpR X (binaryOp .Pow) (rI CPow fun i j => .int (i ^ j.toNat)) := opI fun _ _ _ _ _ _ _ hc q => pow_int_small hc.1 hc.2.1 hc.2.2 q
theorem unI {f : Value → Sem Value} {g : Int → Int}
    (rule : ∀ (i : Int) (t : Tok) (s : Shared) (Q : Value → Shared → Prop) (E : Value → Shared → Prop), Q (.int (g i) s.toks) { s with toks := s.toks + 1 } → wpAny (model X.prog X.w) X.A (f (.int i t)) Q E s) :
    UnR X f (rU fun i => .int (g i)) := by
  intro pins s σ H x v Q I rx h
  obtain ⟨i, rfl, q⟩ := h
  obtain ⟨t, rfl⟩ := rx
  exact rule i t s _ _ ⟨.int (g i), H, I.tok _, ⟨_, rfl⟩, q⟩
theorem un_neg : UnR X (unaryOp .USub) (rU fun i => .int (-i)) := unI fun _ _ _ _ _ q => neg_int q
end
section
variable {X : Cx} {a b c : Expr} {ta tb tc : TE} {pos : Pos}
theorem fin_bl {pins : List (Addr × Obj)} {σ : St} {H : Hp} {s : Shared} {Q : VK} {k k' : Bool} (I : Inv X pins σ H s) (q : Q (.bl k) H) (e : k = k') : EP X pins σ Q (.bool k') s := by
  subst e
  exact ⟨.bl k, H, I, rfl, q⟩
theorem op_lt : OpR X (compareOp .Lt) (rI0 fun i j => .bl (decide (i < j))) := opB0 fun _ _ _ _ _ _ _ q => lt_int q
theorem op_le : OpR X (compareOp .LtE) (rI0 fun i j => .bl (decide (i ≤ j))) := opB0 fun _ _ _ _ _ _ _ q => le_int q
theorem op_gt : OpR X (compareOp .Gt) (rI0 fun i j => .bl (decide (j < i))) := opB0 fun _ _ _ _ _ _ _ q => gt_int q
theorem op_ge : OpR X (compareOp .GtE) (rI0 fun i j => .bl (decide (j ≤ i))) := opB0 fun _ _ _ _ _ _ _ q => ge_int q
theorem op_isN : OpR X (compareOp .Is) (fun x y H Q => y = .non ∧ Q (.bl (decide (x = .non))) H) := by
  intro pins s σ H x y v u Q I rx ry h
  obtain ⟨rfl, q⟩ := h
  cases ry
  refine is_none_gen (fin_bl I q ?_)
  cases x <;> first
    | (cases rx; rfl)
    | (obtain ⟨t, rfl⟩ := rx; rfl)
theorem op_notN : OpR X (compareOp .IsNot) (fun x y H Q => y = .non ∧ Q (.bl (!decide (x = .non))) H) := by
  intro pins s σ H x y v u Q I rx ry h
  obtain ⟨rfl, q⟩ := h
  cases ry
  refine isnot_none_gen (fin_bl I q ?_)
  cases x <;> first
    | (cases rx; rfl)
    | (obtain ⟨t, rfl⟩ := rx; rfl)
theorem OpR.or {f : Value → Value → Sem Value} {r r' : R2} (h : OpR X f r) (h' : OpR X f r') : OpR X f (fun x y H Q => r x y H Q ∨ r' x y H Q) := by
  intro pins s σ H x y v u Q I rx ry q
  rcases q with q | q
  · exact h pins s σ H x y v u Q I rx ry q
  · exact h' pins s σ H x y v u Q I rx ry q
theorem nomark (b : Expr) {op : CmpOp} (h : op ≠ .In := by decide) (h2 : op ≠ .NotIn := by decide) : behindInMarks op b = false := by
  have e1 : (op == CmpOp.In) = false := by cases op <;> first | rfl | exact absurd rfl h
  have e2 : (op == CmpOp.NotIn) = false := by cases op <;> first | rfl | exact absurd rfl h2
  cases b <;> simp [behindInMarks, e1, e2]
def tTest (t : TE) : TT := fun σ H Q => t σ H fun x H' => ∃ k, x = .bl k ∧ Q k H'
theorem pt_cmpR {op : CmpOp} {r : R2} (ho : OpR X (compareOp op) r) (ha : PE X a ta) (hb : PE X b tb) (hm : behindInMarks op b = false) : PT X (.Compare a [op] [b] pos) (tTest (tOp r ta tb)) := by
  intro pins s σ H Q I h
  refine wpAny_isTrue_Compare1 (thn (ha pins s σ H _ I h) fun v s1 ⟨x, H1, I1, r1, q1⟩ => thn (hb pins s1 σ H1 _ I1 q1) fun u s2 ⟨y, H2, I2, r2, q2⟩ =>
    thn (ho pins s2 σ H2 x y v u _ I2 r1 r2 q2) fun c s3 ⟨z, H3, I3, r3, k, e, q3⟩ => ?_) hm
  subst e
  cases r3
  exact wpAny_truthy_bool ⟨H3, I3, q3⟩
def tChain (r r' : R2) (ta tb tc : TE) : TE := fun σ H Q => ta σ H fun x H1 => tb σ H1 fun y H2 => r x y H2 fun z H3 => ∃ k, z = .bl k ∧
  (if k = true then tc σ H3 fun w' H4 => r' y w' H4 Q else Q (.bl false) H3)
theorem pe_chain {op op' : CmpOp} {r r' : R2} (ho : OpR X (compareOp op) r) (ho' : OpR X (compareOp op') r') (ha : PE X a ta) (hb : PE X b tb) (hc : PE X c tc)
    (hm : lastMarks [op, op'] [b, c] = false := by with_unfolding_all rfl) : PE X (.Compare a [op, op'] [b, c] pos) (tChain r r' ta tb tc) := by
  intro pins s σ H Q I h
  refine Compare_chain (thn (ha pins s σ H _ I h) fun v s1 ⟨x, H1, I1, r1, q1⟩ => chain_link (thn (hb pins s1 σ H1 _ I1 q1) fun u s2 ⟨y, H2, I2, r2, q2⟩ =>
    thn (ho pins s2 σ H2 x y v u _ I2 r1 r2 q2) fun d s3 ⟨z, H3, I3, r3, k, e, q3⟩ => ?_)) hm
  subst e
  cases r3
  refine wpAny_truthy_bool ?_
  cases k with
  | false => exact ite_ff ⟨.bl false, H3, I3, rfl, q3⟩
  | true => exact ite_tt (chain_last (thn (hc pins s3 σ H3 _ I3 q3) fun w' s4 ⟨z', H4, I4, r4, q4⟩ => ho' pins s4 σ H4 y z' u w' Q I4 r2 r4 q4))
def TruV (K : PySem.W.Frag) (x : V) (H : Hp) (k : Bool) : Prop :=
  match x with
  | .non => k = false
  | .bl b => k = b
  | .int i => k = (i != 0)
  | .str y => y.length ≤ sizeLine ∧ k = ((y.length : Int) != 0)
  | .byt y => y.size ≤ sizeLine ∧ k = ((y.size : Int) != 0)
  | .ref p => (∃ xs, SqL K H p xs ∧ k = !xs.isEmpty) ∨ (∃ xs, SqT K H p xs ∧ k = !xs.isEmpty) ∨ ∃ kvs, H p = some (.dK kvs) ∧ k = !kvs.isEmpty
  | _ => False
theorem isEmpty_kv {κ : Type} {kvs : List (κ × V)} {vs : List (κ × Value)} (r : KV kvs vs) : (!vs.isEmpty) = !kvs.isEmpty := by
  cases r <;> rfl
theorem isEmpty_of {xs : List V} {its : List Value} (r : Vals xs its) : (!its.toArray.isEmpty) = !xs.isEmpty := by
  cases r <;> simp
theorem line63 : (sizeLine : Nat) < 2 ^ 63 := by rw [sizeLine_eq]; decide
theorem tru_ok : TruR X (fun x H Q => ∃ k, TruV X.K x H k ∧ Q k H) := by
  intro pins s σ H x v Q I rx h
  obtain ⟨k, e, q⟩ := h
  have hl := line63
  have hs : sizeLine = 16777216 := sizeLine_eq
  cases x with
  | non =>
    cases rx
    have e' : k = false := e
    subst e'
    exact truthy_none ⟨H, I, q⟩
  | bl b =>
    cases rx
    have e' : k = b := e
    subst e'
    exact wpAny_truthy_bool ⟨H, I, q⟩
  | int i =>
    obtain ⟨t, rfl⟩ := rx
    have e' : k = (i != 0) := e
    subst e'
    exact PySem.P.truthy_int ⟨H, I, q⟩
  | str y =>
    obtain ⟨t, rfl⟩ := rx
    obtain ⟨hy, e'⟩ : y.length ≤ sizeLine ∧ k = ((y.length : Int) != 0) := e
    subst e'
    exact PySem.P.truthy_str (by omega) ⟨H, I.tok _, q⟩
  | byt y =>
    obtain ⟨t, rfl⟩ := rx
    obtain ⟨hy, e'⟩ : y.size ≤ sizeLine ∧ k = ((y.size : Int) != 0) := e
    subst e'
    exact PySem.W.truthy_bytes (by omega) ⟨H, I.tok _, q⟩
  | ref p =>
    cases rx
    have e' : (∃ xs, SqL X.K H p xs ∧ k = !xs.isEmpty) ∨ (∃ xs, SqT X.K H p xs ∧ k = !xs.isEmpty) ∨ ∃ kvs, H p = some (.dK kvs) ∧ k = !kvs.isEmpty := e
    rcases e' with ⟨xs, hx, e'⟩ | ⟨xs, hx, e'⟩ | ⟨kvs, hx, e'⟩
    · subst e'
      obtain ⟨its, r, pl, hz⟩ := I.list hx
      have hlen := r.length
      exact wpAny_truthy_list pl.isList (by simp only [List.size_toArray]; omega) ⟨H, I.tok _, by rw [isEmpty_of r]; exact q⟩
    · subst e'
      obtain ⟨its, r, pl, hz⟩ := I.tuple hx
      have hlen := r.length
      exact truthy_tuple pl (by simp only [List.size_toArray]; omega) ⟨H, I.tok _, by rw [isEmpty_of r]; exact q⟩
    · subst e'
      obtain ⟨hz, hS, vs, r, m⟩ : kvs.length ≤ sizeLine ∧ (p == sysModules) = false ∧ ∃ vs, KV kvs vs ∧ s.heap.DictOf (mixKind X.prog X.w) p vs := I.hok p _ hx
      have hlen : kvs.length = vs.length := Paired.length r
      exact wpAny_truthy_dict hS m (by omega) ⟨H, I.tok _, by rw [isEmpty_kv r]; exact q⟩
  | _ => exact (show False from e).elim
theorem pt_truth (ha : PE X a ta) (he : ∀ whole, isTrue a X.env whole = (do let v ← whole; standAt a.pos; holding [v] (truthy v))) :
    PT X a (fun σ H Q => ta σ H fun x H' => ∃ k, TruV X.K x H' k ∧ Q k H') := by
  intro pins s σ H Q I h
  exact isTrue_plain (thn (ha pins s σ H _ I h) fun v s1 ⟨x, H1, I1, r1, q1⟩ => tru_ok pins s1 σ H1 x v Q I1 r1 q1) (he _)
theorem vals1 {x : V} {us : List Value} (r : Vals [x] us) : ∃ u, us = [u] ∧ RelV x u := by
  cases r with
  | cons r1 r2 => cases r2; exact ⟨_, rfl, r1⟩
theorem vals2 {x y : V} {us : List Value} (r : Vals [x, y] us) : ∃ u w', us = [u, w'] ∧ RelV x u ∧ RelV y w' := by
  cases r with
  | cons r1 r2 =>
    cases r2 with
    | cons r3 r4 => cases r4; exact ⟨_, _, rfl, r1, r3⟩
theorem call_abs : CallR X (.builtin "abs") (fun xs H Q => ∃ i, xs = [.int i] ∧ Q (.int (if i < 0 then -i else i)) H) := by
  intro pins s σ H xs us Q I r h
  obtain ⟨i, rfl, q⟩ := h
  obtain ⟨u, rfl, t, rfl⟩ := vals1 r
  exact call_abs_int fun u tk => ⟨.int (if i < 0 then -i else i), H, I.tok _, ⟨_, rfl⟩, q⟩
theorem call_max2 (hc : X.calm = true) : CallR X (.builtin "max") (fun xs H Q => ∃ i j, xs = [.int i, .int j] ∧ Q (.int (if j > i then j else i)) H) := by
  intro pins s σ H xs us Q I r h
  obtain ⟨i, j, rfl, q⟩ := h
  obtain ⟨u, w', rfl, ⟨t, rfl⟩, ⟨t', rfl⟩⟩ := vals2 r
  refine max_two_ints (I.ok.hd hc) fun h' tk k => ⟨_, H, I.kept k, ?_, q⟩
  by_cases hj : j > i
  · rw [if_pos hj, if_pos hj]; exact ⟨_, rfl⟩
  · rw [if_neg hj, if_neg hj]; exact ⟨_, rfl⟩
theorem call_min2 (hc : X.calm = true) : CallR X (.builtin "min") (fun xs H Q => ∃ i j, xs = [.int i, .int j] ∧ Q (.int (if j < i then j else i)) H) := by
  intro pins s σ H xs us Q I r h
  obtain ⟨i, j, rfl, q⟩ := h
  obtain ⟨u, w', rfl, ⟨t, rfl⟩, ⟨t', rfl⟩⟩ := vals2 r
  refine min_two_ints (I.ok.hd hc) fun h' tk k => ⟨_, H, I.kept k, ?_, q⟩
  by_cases hj : j < i
  · rw [if_pos hj, if_pos hj]; exact ⟨_, rfl⟩
  · rw [if_neg hj, if_neg hj]; exact ⟨_, rfl⟩
end
structure ObjM (h : Heap) (x dx C : Addr) (mA : Str → Option Value) : Prop where
  obj : h.get? x = some (PySem.W.instObj C dx)
  ns : h.Ns1 dx mA
  ne : dx ≠ x
theorem lookIn_ns {h : Heap} {dx : Addr} {mA : Str → Option Value} (n : h.Ns1 dx mA) : ∃ od, h.get? dx = some od ∧ ∀ name, PySem.W.lookIn name od = some (mA name) := by
  obtain ⟨o, es, ep, ho, hd, hk, _, hm⟩ := n
  refine ⟨o, ho, fun name => ?_⟩
  have e := hm name
  unfold nsFind findBy at e
  rw [← Array.find?_toList] at e
  unfold PySem.W.lookIn
  rw [hd]
  dsimp only
  split
  · rename_i y q
    rw [q] at e
    exact congrArg some e
  · rename_i q
    rw [q] at e
    have a : es.toList.any (·.refKey) = false := by
      rw [List.any_eq_false]
      intro y hy
      obtain ⟨z, t, hkey⟩ := hk y (Array.mem_toList_iff.mp hy)
      simp [DictEntry.refKey, hkey]
    have a' : ¬ es.toList.any (·.refKey) = true := by rw [a]; exact Bool.false_ne_true
    rw [if_neg a']
    exact congrArg some e
theorem ObjM.look {h : Heap} {x dx C : Addr} {mA : Str → Option Value} (I : ObjM h x dx C mA) : ∃ od, PySem.W.InstAt h x (PySem.W.instObj C dx) C (some od) ∧ ∀ name, PySem.W.lookIn name od = some (mA name) :=
  let ⟨od, ho, hl⟩ := lookIn_ns I.ns
  ⟨od, ⟨I.obj, rfl, rfl, ho⟩, hl⟩
theorem RelO.some_of {v : V} {o : Option Value} (r : RelO (some v) o) : ∃ u, o = some u ∧ RelV v u := by
  cases o with
  | none => exact (show False from r).elim
  | some u => exact ⟨u, rfl, r⟩
section
variable {P : Program} {w : World} {H H' : Hp} {h h' : Heap} {a C dx : Addr} {fs fs' : List (Str × V)}
theorem ins_get (hok : HOk P w H h) (e : H a = some (.ins C dx fs)) : ∃ mA, ObjM h a dx C mA ∧ (∀ f, RelO (fs.lookup f) (mA f)) ∧ PySem.Within mA (fs.map (·.1)) ∧ fs.length ≤ 1000 ∧ H dx = some (.own a) := by
  obtain ⟨d, z, ne, ob, mA, n, r, q⟩ := (show ObjOk P w H h a (.ins C dx fs) from hok a _ e)
  exact ⟨mA, ⟨ob, n, ne⟩, r, q, z, d⟩
end
structure Cls (K : PySem.W.Frag) (C : Addr) : Prop where
  pg : PySem.W.plainGet K C Str.empty = true
  hd : PySem.W.hasDictIn K C = true
  po : PySem.W.plainOver K C = true
  sa : PySem.W.findIn K (.ref C) "__setattr__" = some (some (.builtin "object.__setattr__"))
theorem Cls.get {K : PySem.W.Frag} {C : Addr} (c : Cls K C) (f : Str) : PySem.W.plainGet K C f = true := c.pg
section
variable {X : Cx} {pins : List (Addr × Obj)} {σ : St} {H : Hp} {s : Shared} {A : Around} {E : Value → Shared → Prop} {Q : Value → Shared → Prop} {c : Value} {b : Bool}
inductive TyOf (K : PySem.W.Frag) (H : Hp) : V → Value → Prop where
  | non : TyOf K H .non (.type "NoneType")
  | bl (x : Bool) : TyOf K H (.bl x) (.type "bool")
  | int (i : Int) : TyOf K H (.int i) (.type "int")
  | str (x : Str) : TyOf K H (.str x) (.type "str")
  | flt (x : UInt64) : TyOf K H (.flt x) (.type "float")
  | lst {a : Addr} {xs : List V} (e : H a = some (.lst xs)) : TyOf K H (.ref a) (.type "list")
  | frz {a : Addr} {o : Obj} {xs : List V} (e : H a = some (.frz o (.lst xs))) : TyOf K H (.ref a) (.type "list")
  | tup {a : Addr} {xs : List V} (e : H a = some (.tup xs)) : TyOf K H (.ref a) (.type "tuple")
  | dK {a : Addr} {kvs : List (Key × V)} (e : H a = some (.dK kvs)) : TyOf K H (.ref a) (.type "dict")
  | dT {a : Addr} {kvs : List (List Key × V)} (e : H a = some (.dT kvs)) : TyOf K H (.ref a) (.type "dict")
  | ins {a C dx : Addr} {fs : List (Str × V)} (e : H a = some (.ins C dx fs)) (cl : Cls K C) (ha : PySem.W.findIn K (.ref C) "__class__" = some (some (.builtin "object.__class__")))
      (hn : PySem.W.specialIn K (.builtin "object.__class__") "__get__" = some (some (.builtin "getset_descriptor.__get__"))) (htk : PySem.W.takesIn K (.builtin "object.__class__") = some true)
      (hm : PySem.W.mroIn K C (.type "object") = some true) : TyOf K H (.ref a) (.ref C)
theorem isinst_ok {x : V} {u t : Value} (I : Inv X pins σ H s) (rx : RelV x u) (ty : TyOf X.K H x t) (e : PySem.W.kitOne X.K t c = some b) (h : ∀ tk, Q (.bool b) { s with toks := tk }) :
    wpAny (model X.prog X.w) A (call (.builtin "isinstance") [u, c]) Q E s := by
  cases ty with
  | non => cases (show u = Value.none from rx); exact PySem.W.kia_one PySem.W.kitx_none I.kIn True.intro e (fun z => nomatch z) h
  | bl y => cases (show u = Value.bool y from rx); exact PySem.W.kia_one PySem.W.kitx_bool I.kIn True.intro e (fun z => nomatch z) h
  | int i => obtain ⟨t, q⟩ := (show ∃ t, u = Value.int i t from rx); cases q; exact PySem.W.kia_one PySem.W.kitx_int I.kIn True.intro e (fun z => nomatch z) h
  | str y => obtain ⟨t, q⟩ := (show ∃ t, u = Value.str y t from rx); cases q; exact PySem.W.kia_one PySem.W.kitx_str I.kIn True.intro e (fun z => nomatch z) h
  | flt y => obtain ⟨t, q⟩ := (show ∃ t, u = Value.float y t from rx); cases q; exact PySem.W.kia_one PySem.W.kitx_float I.kIn True.intro e (fun z => nomatch z) h
  | @lst a xs ea =>
    cases (show u = Value.ref a from rx)
    obtain ⟨_, _, n, _, h1⟩ := (show ObjOk X.prog X.w H s.heap a (.lst xs) from I.hok a _ ea)
    exact PySem.W.kia_one PySem.W.kitx_list I.kIn ⟨_, h1, rfl⟩ e (fun z => nomatch z) h
  | @frz a ob xs ea =>
    cases (show u = Value.ref a from rx)
    obtain ⟨_, _, _, n, _, h1⟩ := (show ObjOk X.prog X.w H s.heap a (.frz ob (.lst xs)) from I.hok a _ ea)
    exact PySem.W.kia_one PySem.W.kitx_list I.kIn ⟨_, h1, rfl⟩ e (fun z => nomatch z) h
  | @tup a xs ea =>
    cases (show u = Value.ref a from rx)
    obtain ⟨_, _, _, p⟩ := (show ObjOk X.prog X.w H s.heap a (.tup xs) from I.hok a _ ea)
    obtain ⟨o, h1, h2, _⟩ := p
    exact PySem.W.kia_one PySem.W.kitx_tuple I.kIn ⟨o, h1, h2⟩ e (fun z => nomatch z) h
  | @dK a kvs ea =>
    cases (show u = Value.ref a from rx)
    obtain ⟨_, _, vs, _, p⟩ := (show ObjOk X.prog X.w H s.heap a (.dK kvs) from I.hok a _ ea)
    obtain ⟨o, es, ep, h1, h2, _⟩ := p
    exact PySem.W.kia_one PySem.W.kitx_dict I.kIn ⟨o, h1, h2.1⟩ e (fun z => nomatch z) h
  | @dT a kvs ea =>
    cases (show u = Value.ref a from rx)
    obtain ⟨_, _, xs, _, o, es, ep, h1, h2, _⟩ := (show ObjOk X.prog X.w H s.heap a (.dT kvs) from I.hok a _ ea)
    exact PySem.W.kia_one PySem.W.kitx_dict I.kIn ⟨o, h1, h2.1⟩ e (fun z => nomatch z) h
  | @ins a C dx fs ea cl ha hn htk hm =>
    cases (show u = Value.ref a from rx)
    obtain ⟨mA, O, _⟩ := ins_get I.hok ea
    obtain ⟨od, J, _⟩ := O.look
    exact PySem.W.kia_one (PySem.W.kitx_own (cl.get _) cl.hd ha hn htk hm) I.kIn J e (fun z => nomatch z) h
end
structure Room (k : Nat) (A : Around) : Prop where
  hd : A.handled = none
  dp : A.depth + 3 * k + 5 < recursionLimit
  un : A.units + 16 * k + 200 < cLine
theorem Room.mono {j k : Nat} {A : Around} (r : Room k A) (h : j ≤ k) : Room j A := ⟨r.hd, by have := r.dp; omega, by have := r.un; omega⟩
theorem Room.deeper {k : Nat} {A : Around} (r : Room (k + 1) A) (env : Env) : Room k (A.deeper env) :=
  ⟨r.hd, by have := r.dp; show A.depth + 1 + 3 * k + 5 < _; omega, by have := r.un; show A.units + 3 + 16 * k + 200 < _; omega⟩
theorem Room.depth {k : Nat} {A : Around} (r : Room k A) : A.depth < recursionLimit := by have := r.dp; omega
theorem Room.units {k : Nat} {A : Around} (r : Room k A) : A.units + 64 < cLine := by have := r.un; omega
def tNil : TA := fun _ H Q => Q [] H
def tCons (ta : TE) (tr : TA) : TA := fun σ H Q => ta σ H fun x H1 => tr σ H1 fun xs H2 => Q (x :: xs) H2
section
variable {X : Cx} {e : Expr} {es : List Expr} {te : TE} {t : TA} {pos : Pos}
theorem pa_nil : PA X [] tNil := fun _ _ _ _ H Q I h => Calls.spliced_nil ⟨[], H, I, .nil, h⟩
theorem pa_cons (ha : PE X e te) (hr : PA X es t) (hs : starEach (e :: es) X.env = (false, eval e X.env) :: starEach es X.env := by rfl) : PA X (e :: es) (tCons te t) := by
  intro pos pins s σ H Q I h
  rw [hs]
  show wpAny _ _ (spliced ((false, eval e X.env) :: backTo pos (starEach es X.env))) _ _ s
  refine Calls.spliced_cons (thn (ha pins s σ H _ I h) fun u s1 ⟨x, H1, I1, r1, q1⟩ => ?_)
  exact thn (hr pos pins s1 σ H1 _ I1 q1) fun us s2 ⟨xs, H2, I2, r2, q2⟩ => ⟨x :: xs, H2, I2, .cons r1 r2, q2⟩
def tTup (t : TA) : TE := fun σ H Q => t σ H fun xs H1 => xs.length ≤ sizeLine ∧ ∀ p, H1 p = none → Q (.ref p) (upd H1 p (.tup xs))
def tLst (t : TA) : TE := fun σ H Q => t σ H fun xs H1 => xs.length ≤ sizeLine ∧ ∀ p, H1 p = none → Q (.ref p) (upd H1 p (.lst xs))
theorem pe_tup {x1} (h : PA X es t) : PE X (.Tuple es x1 pos) (tTup t) := by
  intro pins s σ H Q I hq
  refine wpAny_Tuple_spliced (thn (h pos pins s σ H _ I hq) fun us s1 ⟨xs, H1, I1, r, z, q⟩ => ⟨by rw [← r.length]; exact z, ?_⟩)
  have hf : H1 s1.heap.objs.size = none := I1.hok.fresh (Nat.le_refl _)
  refine ⟨.ref s1.heap.objs.size, upd H1 s1.heap.objs.size (.tup xs), I1.laid (t' := s1.toks) (fun b u e => Heap.get?_push_of_some _ e) (Nat.le_refl _) ?_, rfl, q _ hf⟩
  exact ⟨z, us, r, ⟨_, Heap.get?_push_size _ rfl, rfl, _, rfl⟩⟩
theorem pe_lst (h : PA X es t) : PE X (.List es pos) (tLst t) := by
  intro pins s σ H Q I hq
  refine wpAny_List_spliced (thn (h pos pins s σ H _ I hq) fun us s1 ⟨xs, H1, I1, r, z, q⟩ => ⟨by rw [← r.length]; exact z, ?_⟩)
  have hf : H1 s1.heap.objs.size = none := I1.hok.fresh (Nat.le_refl _)
  refine ⟨.ref s1.heap.objs.size, upd H1 s1.heap.objs.size (.lst xs), I1.laid (t' := s1.toks) (fun b u e => Heap.get?_push_of_some _ e) (Nat.le_refl _) ?_, rfl, q _ hf⟩
  exact ⟨z, us, 0, r, Heap.get?_push_size _ rfl⟩
end
abbrev Sp := List V → Hp → VK → XK → Prop
abbrev CXT := List Env → Hp → Shared → XK → Value → Shared → Prop
structure Env0 (P : Program) (w : World) (K : PySem.W.Frag) (mg : Str → Option Value) (base : Heap) (A : Around) (outer : List Env) (s : Shared) (H : Hp) : Prop where
  frames : A.frames = some outer
  mod : Mod K mg base
  bs : ∀ b o, base.get? b = some o → s.heap.get? b = some o ∧ H b = none
  bsz : base.objs.size ≤ s.heap.objs.size
  funs : s.heap.FunFrames base outer
  frf : ∀ b ∈ frs outer, H b = none
  hok : HOk P w H s.heap
  bare : AllBare s.gens
def CE (outer : List Env) (P : Program) (w : World) (H : Hp) (s : Shared) (Q : VK) (u : Value) (s' : Shared) : Prop :=
  ∃ v H', s'.os = s.os ∧ AllBare s'.gens ∧ Un (frs outer) [] H H' s.heap s'.heap ∧ HOk P w H' s'.heap ∧ RelV v u ∧ Q v H'
def CR (CX : CXT) (outer : List Env) (P : Program) (w : World) (H : Hp) (s : Shared) (Q : VK) (E : XK) (r : Result) (s' : Shared) : Prop :=
  match r with
  | .ok (.ret u) => CE outer P w H s Q u s'
  | .ok _ => False
  | .error e => CX outer H s E e s'
structure FnOk (P : Program) (w : World) (K : PySem.W.Frag) (mg : Str → Option Value) (base : Heap) (CX : CXT) (k : Nat) (f : Addr) (fd : FuncData) (ps : List Str) (sp : Sp) : Prop where
  len : ∀ vs H Q E, sp vs H Q E → vs.length = ps.length
  run : ∀ (A : Around) (outer : List Env) (s : Shared) (H : Hp) (args : Args) (us : List Value) (vs : List V) (Q : VK) (E : XK), Room k A → Env0 P w K mg base A outer s H → BindsTo s fd args (ps.zip us) → Vals vs us → sp vs H Q E →
    codeAny (model P w) A (.call (.ref f) args) (CR CX outer P w H s Q E) s
section
variable {X : Cx} {pins : List (Addr × Obj)} {σ : St} {H : Hp} {s s' : Shared}
theorem Inv.env0 (I : Inv X pins σ H s) : Env0 X.prog X.w X.K X.mg X.base X.A X.stack s H :=
  ⟨I.ok.frames, I.ok.mod, I.bs, Nat.le_trans I.ok.bsz I.sz, I.stack, I.stkFree, I.hok, I.bare⟩
theorem Inv.after {Q : VK} {u : Value} (I : Inv X pins σ H s) (h : CE X.stack X.prog X.w H s Q u s') : EP X pins σ Q u s' := by
  obtain ⟨v, H', os, bare, un, hok, r, q⟩ := h
  obtain ⟨hh, g, d, t, os'⟩ := s'
  obtain rfl : os' = s.os := os
  exact ⟨v, H', I.call (h' := hh) (g' := g) (d' := d) (t' := t) (ch := []) un hok bare (fun b z => absurd z (by simp)), r, q⟩
end
def tCall (sp : Sp) (dvs : List V) (E : XK) (t : TA) : TE := fun σ H Q => t σ H fun vs H1 => sp (vs ++ dvs) H1 Q E
def Binds (K : PySem.W.Frag) (fd : FuncData) (ps : List Str) (ds : List Value) : Prop :=
  ∀ (s : Shared) (us : List Value), K.In s.heap → (us ++ ds).length = ps.length → BindsTo s fd ⟨us, []⟩ (ps.zip (us ++ ds))
theorem Binds.all {K : PySem.W.Frag} {fd : FuncData} {ps : List Str} (h : ∀ us : List Value, us.length = ps.length → bindArgs fd ⟨us, []⟩ = pure (ps.zip us)) : Binds K fd ps [] := fun s us _ hl => by
  rw [List.append_nil] at hl ⊢
  exact .of_eq (h us hl)
def Passes (CX : CXT) (X : Cx) (E : XK) : Prop := ∀ (pins : List (Addr × Obj)) (σ : St) (H : Hp) (s : Shared) (e : Value) (s' : Shared), Inv X pins σ H s → CX X.stack H s E e s' → X.xe e s'
section
variable {X : Cx} {CX : CXT} {k : Nat} {f C : Addr} {fd : FuncData} {ps : List Str} {sp : Sp} {dvs : List V} {ds : List Value} {E : XK} {x m : Str} {p pos apos : Pos} {e o : Expr} {es : List Expr} {ta : TE} {t : TA}
theorem run_fn {pins : List (Addr × Obj)} {σ : St} {H : Hp} {s : Shared} {Q : VK} {us : List Value} {vs : List V} (F : FnOk X.prog X.w X.K X.mg X.base CX k f fd ps sp) (hr : Room k X.A) (hb : Binds X.K fd ps ds) (hd : Vals dvs ds) (hx : Passes CX X E)
    (I : Inv X pins σ H s) (r : Vals vs us) (h : sp (vs ++ dvs) H Q E) : wpAny (model X.prog X.w) X.A (call (.ref f) us) (EP X pins σ Q) X.xe s := by
  have r2 : Vals (vs ++ dvs) (us ++ ds) := r.append hd
  have hl : (us ++ ds).length = ps.length := by rw [← r2.length]; exact F.len _ _ _ _ h
  refine wpAny_call (codeAny_mono (F.run X.A X.stack s H ⟨us, []⟩ (us ++ ds) (vs ++ dvs) Q E hr I.env0 (hb s us I.kIn hl) r2 h) fun r s' hq => ?_)
  cases r with
  | error e => exact hx pins σ H s e s' I hq
  | ok fl =>
    cases fl with
    | ret u => exact I.after hq
    | next => exact False.elim hq
    | brk => exact False.elim hq
    | cont => exact False.elim hq
theorem pe_call (F : FnOk X.prog X.w X.K X.mg X.base CX k f fd ps sp) (hr : Room k X.A) (hg : Gl X x) (hm : X.mg x = some (.ref f)) (hk : PySem.W.keepIn X.K (.ref f) = true) (hb : Binds X.K fd ps ds) (hd : Vals dvs ds) (hx : Passes CX X E)
    (ha : PA X (e :: es) t) (hdb : (x == ("__debug__" : Str)) = false := by decide) (he : starEach (e :: es) X.env = (false, eval e X.env) :: starEach es X.env := by rfl) (hpl : (backTo pos (starEach es X.env)).any (·.1) = false := by rfl) :
    PE X (.Call (.Name x p) (e :: es) [] pos) (tCall sp dvs E t) := by
  intro pins s σ H Q I h
  refine wpAny_Call_Name_kw (ld_glob I hg hm ?_ hdb)
  refine PySem.W.callWith_K (h₀ := X.base) I.ok.mod.kin hk (thn (ha pos pins s σ H _ I h) fun us s1 ⟨vs, H1, I1, r, q⟩ => ⟨I1.kIn, ?_⟩) he hpl
  exact run_fn F hr hb hd hx I1 r q
end
structure FnScope (N P : List Str) (sc : Scope) : Prop where
  kind : sc.kind = .function
  co : sc.isCoroutine = false
  gen : sc.isGenerator = false
  nd : N.Nodup
  pre : N.take P.length = P
  par : ∀ x ∈ P, sc.names.lookup x = some .local ∨ sc.names.lookup x = some .cell
  nofree : ∀ y ∈ sc.names, y.2 ≠ .free
theorem bindL_out {kindOf : Str → Option NameKind} {x : Str} : ∀ {binds : List (Str × Value)} {m : Str → Option Value}, (∀ v, (x, v) ∉ binds) → bindL kindOf binds m x = m x
  | [], _, _ => rfl
  | (n, v) :: r, m, h => by
    unfold bindL
    rw [bindL_out fun w hw => h w (List.mem_cons_of_mem _ hw)]
    split
    · have : x ≠ n := by rintro rfl; exact h v List.mem_cons_self
      simp [this]
    · rfl
theorem bindC_out {kindOf : Str → Option NameKind} {x : Str} : ∀ {binds : List (Str × Value)} {m : Str → Option Value}, (∀ v, (x, v) ∉ binds) → bindC kindOf binds m x = m x
  | [], _, _ => rfl
  | (n, v) :: r, m, h => by
    unfold bindC
    rw [bindC_out fun w hw => h w (List.mem_cons_of_mem _ hw)]
    split
    · rfl
    · have : x ≠ n := by rintro rfl; exact h v List.mem_cons_self
      simp [this]
theorem bindL_get {kindOf : Str → Option NameKind} {x : Str} {v : Value} : ∀ {P : List Str} {vs : List Value} {i : Nat} {m : Str → Option Value}, P.Nodup → P[i]? = some x → vs[i]? = some v → kindOf x = some .local →
    bindL kindOf (P.zip vs) m x = some v
  | [], _, _, _, _, h, _, _ => by simp at h
  | _ :: _, [], _, _, _, _, h, _ => by simp at h
  | p :: P, w :: vs, 0, m, nd, h1, h2, hk => by
    simp at h1 h2; subst h1; subst h2
    show bindL kindOf ((p, w) :: P.zip vs) m p = _
    unfold bindL
    rw [bindL_out fun v hv => (List.nodup_cons.mp nd).1 (List.of_mem_zip hv).1, if_pos hk]
    simp
  | p :: P, w :: vs, i + 1, m, nd, h1, h2, hk => by
    show bindL kindOf ((p, w) :: P.zip vs) m x = _
    unfold bindL
    exact bindL_get (i := i) (List.nodup_cons.mp nd).2 (by simpa using h1) (by simpa using h2) hk
theorem bindC_get {kindOf : Str → Option NameKind} {x : Str} {v : Value} : ∀ {P : List Str} {vs : List Value} {i : Nat} {m : Str → Option Value}, P.Nodup → P[i]? = some x → vs[i]? = some v → kindOf x ≠ some .local →
    bindC kindOf (P.zip vs) m x = some v
  | [], _, _, _, _, h, _, _ => by simp at h
  | _ :: _, [], _, _, _, _, h, _ => by simp at h
  | p :: P, w :: vs, 0, m, nd, h1, h2, hk => by
    simp at h1 h2; subst h1; subst h2
    show bindC kindOf ((p, w) :: P.zip vs) m p = _
    unfold bindC
    rw [bindC_out fun v hv => (List.nodup_cons.mp nd).1 (List.of_mem_zip hv).1, if_neg hk]
    simp
  | p :: P, w :: vs, i + 1, m, nd, h1, h2, hk => by
    show bindC kindOf ((p, w) :: P.zip vs) m x = _
    unfold bindC
    exact bindC_get (i := i) (List.nodup_cons.mp nd).2 (by simpa using h1) (by simpa using h2) hk
def start (N : List Str) (vs : List V) : St := vs.map some ++ List.replicate (N.length - vs.length) none
def cxOf (CX : CXT) (P : Program) (w : World) (K : PySem.W.Frag) (mg : Str → Option Value) (base : Heap) (N : List Str) (qual : Str) (scope : Scope) (f : Addr) (cd : Value) (A : Around) (outer : List Env) (s : Shared) (H : Hp) (E : XK) : Cx where
  prog := P
  w := w
  K := K
  mg := mg
  base := base
  A := A.deeper (envOfC qual scope s.heap.objs.size f cd)
  N := N
  s₀ := s
  H₀ := H
  env := envOfC qual scope s.heap.objs.size f cd
  outer := outer
  stack := envOfC qual scope s.heap.objs.size f cd :: outer
  ex := []
  calm := true
  fn := fun _ => true
  pn := []
  xe := fun e s' => wpAny (model P w) (A.deeper (envOfC qual scope s.heap.objs.size f cd)) (leaving (envOfC qual scope s.heap.objs.size f cd) e) (fun _ s'' => CX outer H s E e s'') (fun e' s'' => CX outer H s E e' s'') s'
theorem cell_has {sc : Scope} {n : Nat} {x : Str} (h : sc.names.lookup x = some .cell) : ∃ c, (cellsFrom n sc.names []).lookup x = some c := by
  have q := PySem.W.cellsFrom_some sc.names n [] (.inl h)
  exact Option.isSome_iff_exists.mp q
theorem inv_start {CX : CXT} {P : Program} {w : World} {K : PySem.W.Frag} {mg : Str → Option Value} {base : Heap} {N ps : List Str} {qual : Str} {scope : Scope} {f : Addr} {cd : Value} {A : Around} {outer : List Env} {s s1 : Shared} {H : Hp} {E : XK} {us : List Value} {vs : List V}
    (S : FnScope N ps scope) (hd : A.handled = none) (e0 : Env0 P w K mg base A outer s H) (hl : vs.length = ps.length) (r : Vals vs us)
    (x : InCallC s s.heap.objs.size (bindL (envOfC qual scope s.heap.objs.size f cd).kindOf (ps.zip us) fun _ => none) (cellsFrom (s.heap.objs.size + 1) scope.names []) (bindC (envOfC qual scope s.heap.objs.size f cd).kindOf (ps.zip us) fun _ => none) s1) :
    Inv (cxOf CX P w K mg base N qual scope f cd A outer s H E) [] (start N vs) H s1 := by
  have hpl : ps.length ≤ N.length := by have := congrArg List.length S.pre; rw [List.length_take] at this; omega
  obtain ⟨h1, tk, rfl, hk⟩ := x.done
  have noA : ∀ b : Addr, b ∉ (cxOf CX P w K mg base N qual scope f cd A outer s H E).ex := fun b z => absurd (show b ∈ ([] : List Addr) from z) (by simp)
  refine ⟨⟨e0.mod, S.kind, rfl, rfl, Nat.le_refl _, fun y z c h1 h2 => ?_, fun y hy => ?_, fun y c _ h => ?_, fun _ => hd, Around.frames_deeper e0.frames, .inr ⟨rfl, rfl⟩, fun b z => absurd z (noA b), e0.bs, e0.bsz, fun b _ _ => noA b, fun b z => absurd z (noA b), e0.funs, e0.frf⟩,
    rfl, e0.bare, Un.kept hk, ⟨_, x.toInCall.ns, fun i y v h1 h2 h3 => ?_⟩, fun y c h => ⟨_, x.cell y c h⟩, e0.hok.fresh (Nat.le_refl _), fun y c h => ?_, fun p hp => absurd (show p ∈ ([] : List (Addr × Obj)) from hp) (by simp), e0.hok.kept hk, ?_⟩
  · exact name_of_addr x.apart (PySem.mem_of_lookup h1) (PySem.mem_of_lookup h2)
  · have hy : scope.names.lookup y = some .cell ∨ scope.names.lookup y = some .free := hy
    rcases hy with hy | hy
    · exact cell_has hy
    · exact absurd rfl (S.nofree _ (PySem.mem_of_lookup hy))
  · exact Nat.le_of_lt (x.above y c (PySem.mem_of_lookup h))
  · have hi : i < vs.length := by
      unfold start at h2
      by_cases hi : i < vs.length
      · exact hi
      · rw [List.getElem?_append_right (by simpa using hi)] at h2
        rw [List.getElem?_replicate] at h2
        split at h2 <;> cases h2
    have ha : vs[i]? = some v := by
      unfold start at h2
      rw [List.getElem?_append_left (by simpa using hi), List.getElem?_map] at h2
      cases e : vs[i]? with
      | none => rw [e] at h2; cases h2
      | some a => rw [e] at h2; cases h2; rfl
    obtain ⟨u, hu, rv⟩ := r.get ha
    have hp : ps[i]? = some y := by
      rw [← S.pre, List.getElem?_take_of_lt (by omega)]; exact h1
    have ndP : ps.Nodup := by rw [← S.pre]; exact S.nd.sublist (List.take_sublist _ _)
    refine ⟨u, rv, ?_⟩
    rcases S.par y (List.mem_of_getElem? hp) with k | k
    · exact .inl ⟨k, bindL_get ndP hp hu k⟩
    · obtain ⟨c, e⟩ := cell_has (n := s.heap.objs.size + 1) k
      refine .inr ⟨.inl k, c, e, ?_⟩
      have q := x.cell y c e
      rw [bindC_get ndP hp hu (by show scope.names.lookup y ≠ _; rw [k]; decide)] at q
      exact q
  · exact e0.hok.fresh (Nat.le_of_lt (x.above y c (PySem.mem_of_lookup h)))
  · unfold start
    show _ = N.length
    rw [List.length_append, List.length_map, List.length_replicate]
    omega
theorem fn_of {CX : CXT} {P : Program} {w : World} {K : PySem.W.Frag} {mg : Str → Option Value} {base : Heap} {k : Nat} {f : Addr} {name qual : Str} {params : Arguments} {body : List Stmt} {scope : Scope} {dV kV doc pm cdv ct oc : Value} {an od : Option Addr}
    {osl : Array (Option Value)} {N ps : List Str} {sp : Sp} (lk : K.lookup f = some ⟨oc, od, .func (PySem.W.fnOf name qual params body scope dV kV doc pm an cdv ct), osl⟩) (hcd : PySem.W.codeIn K cdv qual = true) (S : FnScope N ps scope)
    (len : ∀ vs H Q E, sp vs H Q E → vs.length = ps.length)
    (hbody : ∀ (A : Around) (outer : List Env) (s : Shared) (H : Hp) (vs : List V) (Q : VK) (E : XK), Room k (A.deeper (envOfC qual scope s.heap.objs.size f cdv)) → sp vs H Q E →
      ∃ t, PSs (cxOf CX P w K mg base N qual scope f cdv A outer s H E) body t ∧ t { nx := fun _ H' => Q .non H', rt := Q } (start N vs) H) :
    FnOk P w K mg base CX (k + 1) f (PySem.W.fnOf name qual params body scope dV kV doc pm an cdv ct) ps sp := by
  refine ⟨len, fun A outer s H args us vs Q E hr e0 hb r hsp => ?_⟩
  have hl := len _ _ _ _ hsp
  have KX : K.In s.heap := e0.mod.kin.keeps fun b o e => (e0.bs b o e).1
  have lim : s.heap.NoLimit := e0.mod.nolimit.keeps fun b o e => (e0.bs b o e).1
  have hkind : ∀ y ∈ ps.zip us, scope.names.lookup y.1 = some .local ∨ (scope.names.lookup y.1 = some .cell ∧ ((cellsFrom (s.heap.objs.size + 1) scope.names []).lookup y.1).isSome = true) := fun ⟨n, v⟩ hy => by
    rcases S.par n (List.of_mem_zip hy).1 with q | q
    · exact .inl q
    · exact .inr ⟨q, PySem.W.cellsFrom_some _ _ _ (.inl q)⟩
  refine codeAny_call_function hr.depth (KX _ _ lk) rfl S.co S.gen rfl (PySem.W.codeRec_of KX hcd) (hb _ _ _ _ ?_)
  refine wpAny_newFunctionEnv_cells S.kind hkind fun env he s1 x => ?_
  subst he
  refine ⟨lim.keeps x.toInCall.keep, codeAny_func ?_⟩
  obtain ⟨t, ht, hq⟩ := hbody A outer s H vs Q E (hr.deeper _) hsp
  have I : Inv (cxOf CX P w K mg base N qual scope f cdv A outer s H E) [] (start N vs) H s1 := inv_start S hr.hd e0 hl r x
  refine wpAny_mono (ht [] s1 (start N vs) H _ I hq) (fun fl s' hs => ?_) fun e s' hs => hs
  have fin : ∀ {σ' : St} {H' : Hp} {v : V} {u : Value}, Inv (cxOf CX P w K mg base N qual scope f cdv A outer s H E) [] σ' H' s' → RelV v u → Q v H' → CE outer P w H s Q u s' :=
    fun {σ' H' v u} J rv q => ⟨v, H', J.os, J.bare, J.base, J.hok, rv, q⟩
  cases fl with
  | ret u =>
    obtain ⟨v, σ', H', J, rv, q⟩ := hs
    exact fin J rv q
  | next =>
    obtain ⟨σ', H', J, q⟩ := hs
    exact fin (v := V.non) (u := Value.none) J rfl q
  | brk =>
    obtain ⟨_, _, _, q⟩ := hs
    exact False.elim q
  | cont =>
    obtain ⟨_, _, _, q⟩ := hs
    exact False.elim q
section
variable {X : Cx} {x : Str} {p pos : Pos} {e : Expr} {es : List Expr} {t : TA} {id T : String} {r : List V → Hp → VK → Prop}
def tCB (r : List V → Hp → VK → Prop) (t : TA) : TE := fun σ H Q => t σ H fun vs H1 => r vs H1 Q
theorem pe_callB (hc : CallR X (.builtin id) r) (hg : Gl X x) (hm : X.mg x = none) (hv : bootBuiltins x = some (.builtin id)) (ha : PA X (e :: es) t) (hn : x ≠ "__name__" := by decide) (hdb : (x == ("__debug__" : Str)) = false := by decide)
    (he : starEach (e :: es) X.env = (false, eval e X.env) :: starEach es X.env := by rfl) (hpl : (backTo pos (starEach es X.env)).any (·.1) = false := by rfl) : PE X (.Call (.Name x p) (e :: es) [] pos) (tCB r t) := by
  intro pins s σ H Q I h
  refine wpAny_Call_Name_kw (ld_blt I hg hm hv ?_ hn hdb)
  exact PyProof.Rows.callWith_builtin1 (thn (ha pos pins s σ H _ I h) fun us s1 ⟨vs, H1, I1, r1, q1⟩ => hc pins s1 σ H1 vs us Q I1 r1 q1) he hpl
theorem pe_callTy (hc : CallR X (.type T) r) (hg : Gl X x) (hm : X.mg x = none) (hv : bootBuiltins x = some (.type T)) (ha : PA X (e :: es) t) (hn : x ≠ "__name__" := by decide) (hdb : (x == ("__debug__" : Str)) = false := by decide)
    (he : starEach (e :: es) X.env = (false, eval e X.env) :: starEach es X.env := by rfl) (hpl : (backTo pos (starEach es X.env)).any (·.1) = false := by rfl) : PE X (.Call (.Name x p) (e :: es) [] pos) (tCB r t) := by
  intro pins s σ H Q I h
  refine wpAny_Call_Name_kw (ld_blt I hg hm hv ?_ hn hdb)
  exact PyProof.Rows.callWith_type1 (thn (ha pos pins s σ H _ I h) fun us s1 ⟨vs, H1, I1, r1, q1⟩ => hc pins s1 σ H1 vs us Q I1 r1 q1) he hpl
end
end L2
namespace HT
open PySem PyProof.Rows
section
variable {prog : Program} {w : World} {A : Around} {E : Value → Shared → Prop} {s : Shared}
theorem cat_tup {t b : Addr} {vs ws : List Value} {Q : Value → Shared → Prop} (ht : IsTup s.heap t vs.toArray) (hb : IsTup s.heap b ws.toArray) (hv : vs ≠ [])
    (h1 : ws = [] → Q (.ref t) s) (h2 : ws ≠ [] → Q (.ref s.heap.objs.size) { s with heap := s.heap.push { cls := .type "tuple", data := .seq (vs ++ ws).toArray } })
    (hsz : vs.length + ws.length ≤ sizeLine) : wpAny (model prog w) A (binaryOp .Add (.ref t) (.ref b)) Q E s := by
  obtain ⟨⟨cls, dd, data, sl⟩, ho, hc, n, hd⟩ := id ht
  obtain ⟨⟨cls2, dd2, data2, sl2⟩, ho2, hc2, n2, hd2⟩ := id hb
  simp only at hc hd hc2 hd2
  subst hc hd hc2 hd2
  have e : vs.toArray ++ ws.toArray = (vs ++ ws).toArray := by simp
  by_cases hw : ws = []
  · exact concat_meets ⟨_, ho, rfl⟩ ⟨_, ho2, rfl⟩ noFill_tuple_add seq_tuple_add PySem.F.slot_tuple_add PySem.F.entry_tuple_add (PySem.F.args_tuple_add_2 _ _)
      (tuple_addW1 t b vs.toArray ws.toArray n n2 dd dd2 sl sl2 (by simpa using hv) (by simp [hw])) ⟨ho, ho2, h1 hw⟩
  · refine concat_meets ⟨_, ho, rfl⟩ ⟨_, ho2, rfl⟩ noFill_tuple_add seq_tuple_add PySem.F.slot_tuple_add PySem.F.entry_tuple_add (PySem.F.args_tuple_add_2 _ _)
      (tuple_addW2 t b vs.toArray ws.toArray n n2 dd dd2 sl sl2 (by simpa using hv) (by simpa using hw) (by rw [List.size_toArray, List.size_toArray]; exact hsz)) ⟨ho, ho2, ?_⟩
    rw [e]
    exact h2 hw
def sIx (n d : Nat) : Option Int → Nat
  | none => d
  | some v => if v < 0 then (v + (n : Int)).toNat else min v.toNat n
theorem sIx_none (n d : Nat) : sIx n d none = d := rfl
theorem sIx_nat (n d k : Nat) : sIx n d (some (k : Int)) = min k n := by
  show (if (k : Int) < 0 then ((k : Int) + (n : Int)).toNat else min (k : Int).toNat n) = min k n
  rw [if_neg (by omega), Int.toNat_natCast]
end
end HT
namespace L2
open PySem PySem.Spec PyProof.Rows
abbrev TO := St → Hp → (Option Int → Hp → Prop) → Prop
def PO (X : Cx) (e : Option Expr) (t : TO) : Prop :=
  ∀ (pins : List (Addr × Obj)) (s : Shared) (σ : St) (H : Hp) (Q : Option Int → Hp → Prop), Inv X pins σ H s → t σ H Q →
    wpAny (model X.prog X.w) X.A (evalPart e X.env) (fun u s' => ∃ o H', Inv X pins σ H' s' ∧ IsPart u o ∧ Q o H') X.xe s
def tNoPart : TO := fun _ H Q => Q none H
def tPart (t : TE) : TO := fun σ H Q => t σ H fun x H1 => ∃ i, x = .int i ∧ Q (some i) H1
section
variable {X : Cx} {e : Expr} {te : TE} {lo hi : Option Expr} {tl th : TO} {pos p2 : Pos}
theorem po_none : PO X none tNoPart := by
  intro pins s σ H Q I h
  rw [evalPart_none]
  exact wpAny_pure ⟨none, H, I, .none, h⟩
theorem po_some (h : PE X e te) : PO X (some e) (tPart te) := by
  intro pins s σ H Q I hw
  rw [evalPart_some]
  refine thn (h pins s σ H _ I hw) fun u s1 ⟨x, H1, I1, r1, q1⟩ => ?_
  obtain ⟨i, rfl, q⟩ := q1
  obtain ⟨t, rfl⟩ := r1
  exact ⟨some i, H1, I1, .int i t, q⟩
def SlR (X : Cx) (r : V → Option Int → Option Int → Hp → VK → Prop) : Prop :=
  ∀ (pins : List (Addr × Obj)) (s : Shared) (σ : St) (H : Hp) (x : V) (v vl vu : Value) (lo hi : Option Int) (sl : Addr) (Q : VK), Inv X pins σ H s → RelV x v → s.heap.IsSliceOf sl vl vu .none → IsPart vl lo → IsPart vu hi → r x lo hi H Q →
    ∃ T id, typeLookup (.type T) "__getitem__" = pure (some (.builtin id)) ∧ s.TypeIs v T ∧ wpAny (model X.prog X.w) X.A (getItem v (.ref sl)) (EP X pins σ Q) X.xe s
def tSl (r : V → Option Int → Option Int → Hp → VK → Prop) (te : TE) (tl th : TO) : TE := fun σ H Q => te σ H fun x H1 => tl σ H1 fun l H2 => th σ H2 fun u H3 => r x l u H3 Q
theorem pe_slice {r : V → Option Int → Option Int → Hp → VK → Prop} (hr : SlR X r) (he : PE X e te) (hl : PO X lo tl) (hu : PO X hi th) : PE X (.Subscript e (.Slice lo hi none p2) pos) (tSl r te tl th) := by
  intro pins s σ H Q I h
  refine Subscript_ (thn (he pins s σ H _ I h) fun v s1 ⟨x, H1, I1, r1, q1⟩ => ?_)
  refine wpAny_Slice (thn (hl pins s1 σ H1 _ I1 q1) fun vl s2 ⟨l, H2, I2, pl, q2⟩ => thn (hu pins s2 σ H2 _ I2 q2) fun vu s3 ⟨u, H3, I3, pu, q3⟩ => ?_)
  rw [evalPart_none]
  refine wpAny_pure ?_
  have I4 : Inv X pins σ H3 { s3 with heap := s3.heap.push { cls := .type "slice", data := .fields #[vl, vu, .none] } } := I3.kept (t' := s3.toks) fun b ob q => Heap.get?_push_of_some _ q
  obtain ⟨T, id, hT, ht, hg⟩ := hr pins { s3 with heap := s3.heap.push { cls := .type "slice", data := .fields #[vl, vu, .none] } } σ H3 x v vl vu l u s3.heap.objs.size Q I4 r1 (Heap.IsSliceOf.new ..) pl pu q3
  show wpAny (model X.prog X.w) X.A (subscriptTail e (.Slice lo hi none p2) v (.ref s3.heap.objs.size)) (EP X pins σ Q) X.xe { s3 with heap := s3.heap.push { cls := .type "slice", data := .fields #[vl, vu, .none] } }
  exact tail_any (ops := [.ref s3.heap.objs.size, v]) ht hT hg (by with_unfolding_all rfl)
def cutV (xs : List V) (lo hi : Option Int) : List V := (xs.drop (HT.sIx xs.length 0 lo)).take (HT.sIx xs.length xs.length hi - HT.sIx xs.length 0 lo)
theorem cutV_length (xs : List V) (lo hi : Option Int) : (cutV xs lo hi).length ≤ xs.length := by
  unfold cutV
  rw [List.length_take, List.length_drop]
  omega
def rCatT (K : PySem.W.Frag) : R2 := fun x y H Q => ∃ a b xs ys, x = .ref a ∧ y = .ref b ∧ SqT K H a xs ∧ SqT K H b ys ∧ xs ≠ [] ∧ xs.length + ys.length ≤ sizeLine ∧
  (ys = [] → Q (.ref a) H) ∧ (ys ≠ [] → ∀ p, H p = none → Q (.ref p) (upd H p (.tup (xs ++ ys))))
theorem Vals.nil_iff {xs : List V} {us : List Value} (r : Vals xs us) : us = [] ↔ xs = [] := by
  cases r with
  | nil => simp
  | cons _ _ => simp
theorem op_catT : OpR X (binaryOp .Add) (rCatT X.K) := by
  intro pins s σ H x y v u Q I rx ry h
  obtain ⟨a, b, xs, ys, rfl, rfl, ha, hb, hx, hz, q1, q2⟩ := h
  cases rx
  cases ry
  obtain ⟨its, r1, p1, _⟩ := I.tuple ha
  obtain ⟨its2, r2, p2, _⟩ := I.tuple hb
  refine HT.cat_tup p1 p2 (fun z => hx (r1.nil_iff.mp z)) (fun z => ⟨.ref a, H, I, rfl, q1 (r2.nil_iff.mp z)⟩) (fun z => ?_) (by rw [← r1.length, ← r2.length]; exact hz)
  refine ⟨.ref s.heap.objs.size, _, I.laid (t' := s.toks) (o := .tup (xs ++ ys)) (fun b ob q => Heap.get?_push_of_some _ q) (Nat.le_refl _) ?_, rfl, q2 (fun w => z (r2.nil_iff.mpr w)) _ (I.hok.fresh (Nat.le_refl _))⟩
  exact ⟨by rw [List.length_append]; exact hz, _, r1.append r2, IsTup.new _ _⟩
end
def ixN (n : Nat) (i : Int) : Option Nat := if 0 ≤ i then (if i < n then some i.toNat else none) else if -(n : Int) ≤ i then some (i + n).toNat else none
def atI {α : Type} (xs : List α) (i : Int) : Option α := (ixN xs.length i).bind fun j => xs[j]?
theorem ixN_seq {n : Nat} {i : Int} {j : Nat} (h : ixN n i = some j) : seqIndex? i n = some j ∧ j < n ∧ -(n : Int) ≤ i ∧ i < n := by
  unfold ixN at h
  by_cases h0 : 0 ≤ i
  · rw [if_pos h0] at h
    by_cases h1 : i < n
    · rw [if_pos h1] at h
      have e : i.toNat = j := Option.some.inj h
      exact ⟨by rw [seqIndex_of h0 h1, e], by omega, by omega, h1⟩
    · rw [if_neg h1] at h; cases h
  · rw [if_neg h0] at h
    by_cases h1 : -(n : Int) ≤ i
    · rw [if_pos h1] at h
      have e : (i + n).toNat = j := Option.some.inj h
      exact ⟨by rw [seqIndex_neg (by omega) h1, e], by omega, h1, by omega⟩
    · rw [if_neg h1] at h; cases h
theorem atI_get {α : Type} {xs : List α} {i : Int} {v : α} (h : atI xs i = some v) : ∃ j, seqIndex? i xs.length = some j ∧ xs[j]? = some v ∧ j < xs.length ∧ -(xs.length : Int) ≤ i ∧ i < xs.length := by
  unfold atI at h
  cases e : ixN xs.length i with
  | none => rw [e] at h; cases h
  | some j =>
    rw [e] at h
    obtain ⟨h1, h2, h3, h4⟩ := ixN_seq e
    exact ⟨j, h1, h, h2, h3, h4⟩
theorem atI_nat {α : Type} {xs : List α} {j : Nat} {v : α} (h : xs[j]? = some v) : atI xs (j : Int) = some v := by
  have hj : j < xs.length := (List.getElem?_eq_some_iff.mp h).1
  have e : ixN xs.length (j : Int) = some j := by
    unfold ixN
    rw [if_pos (by omega), if_pos (by omega)]; simp
  unfold atI; rw [e]; exact h
def PlainIx (b : Expr) : Prop := ∀ o i, subscripted b false o i = operate [o, i] (getItem o i)
def IxR (X : Cx) (r : R2) : Prop :=
  ∀ (value slice : Expr) (pins : List (Addr × Obj)) (s : Shared) (σ : St) (H : Hp) (x y : V) (v u : Value) (Q : VK), Inv X pins σ H s → RelV x v → RelV y u → r x y H Q →
    subscripted slice false v u = operate [v, u] (getItem v u) → wpAny (model X.prog X.w) X.A (subscriptTail value slice v u) (EP X pins σ Q) X.xe s
def MtR (X : Cx) (id : String) (r : V → List V → Hp → VK → Prop) : Prop :=
  ∀ (pins : List (Addr × Obj)) (s : Shared) (σ : St) (H : Hp) (x : V) (xs : List V) (v : Value) (us : List Value) (Q : VK), Inv X pins σ H s → RelV x v → Vals xs us → r x xs H Q →
    wpAny (model X.prog X.w) X.A (call (.builtin id) (v :: us)) (EP X pins σ Q) X.xe s
section
variable {X : Cx} {a b : Expr} {ta tb : TE} {pos : Pos}
theorem pe_ix {r : R2} (hr : IxR X r) (ha : PE X a ta) (hb : PE X b tb) (hs : PlainIx b) : PE X (.Subscript a b pos) (tOp r ta tb) := by
  intro pins s σ H Q I h
  exact Subscript_ (binT ha hb I h fun v u s2 x y H2 I2 rx ry q => hr a b pins s2 σ H2 x y v u Q I2 rx ry q (hs _ _))
def rIxL (K : PySem.W.Frag) : R2 := fun x y H Q => ∃ p xs i v, x = .ref p ∧ y = .int i ∧ SqL K H p xs ∧ atI xs i = some v ∧ Q v H
def rIxT (K : PySem.W.Frag) : R2 := fun x y H Q => ∃ p xs i v, x = .ref p ∧ y = .int i ∧ SqT K H p xs ∧ atI xs i = some v ∧ Q v H
def rIxS : R2 := fun x y H Q => ∃ z i c, x = .str z ∧ y = .int i ∧ z.length ≤ sizeLine ∧ atI z.cps.toList i = some c ∧ Q (.str ⟨#[c]⟩) H
theorem ix_list : IxR X (rIxL X.K) := by
  intro value slice pins s σ H x y v u Q I rx ry h hs
  obtain ⟨p, xs, i, z, rfl, rfl, hq, he, q⟩ := h
  cases rx
  obtain ⟨t, rfl⟩ := ry
  obtain ⟨its, r, pl, hz⟩ := I.list hq
  obtain ⟨j, h1, h2, h3, h4, h5⟩ := atI_get he
  obtain ⟨w, ew, rw'⟩ := r.get h2
  have hl := r.length
  have hn := line63
  have fin : EP X pins σ Q w s := ⟨z, H, I, rw', q⟩
  by_cases h0 : 0 ≤ i
  · have hj : i.toNat = j := by
      rw [seqIndex_of h0 h5] at h1
      exact Option.some.inj h1
    exact item_listR pl.isList h0 (by omega) (by rw [hj]; simpa using ew) fin hs
  · have hj : (i + (its.toArray.size : Int)).toNat = j := by
      rw [seqIndex_neg (by omega) h4] at h1
      rw [List.size_toArray, ← hl]
      exact Option.some.inj h1
    exact subscriptTail_builtinR (x := w) pl.isList.typeIs slot_list_getitem.lookup
      (wpAny_getItem_list_neg (Q := fun r s' => r = w ∧ EP X pins σ Q r s') pl.isList (by omega) (by rw [List.size_toArray] <;> omega) (by omega) (by rw [hj]; simpa using ew) ⟨rfl, fin⟩) hs
theorem ix_tup : IxR X (rIxT X.K) := by
  intro value slice pins s σ H x y v u Q I rx ry h hs
  obtain ⟨p, xs, i, z, rfl, rfl, hq, he, q⟩ := h
  cases rx
  obtain ⟨t, rfl⟩ := ry
  obtain ⟨its, r, pl, hz⟩ := I.tuple hq
  obtain ⟨j, h1, h2, h3, h4, h5⟩ := atI_get he
  obtain ⟨w, ew, rw'⟩ := r.get h2
  have hl := r.length
  have hn := line63
  have fin : EP X pins σ Q w s := ⟨z, H, I, rw', q⟩
  exact subscriptTail_builtinR (x := w) pl.typeIs slot_tuple_getitem.lookup
    (getItem_tuple (j := j) (Q := fun r s' => r = w ∧ EP X pins σ Q r s') pl (by omega) (by omega) (by rw [List.size_toArray, ← hl]; exact h1) (by simpa using ew) ⟨rfl, fin⟩) hs
theorem ix_str : IxR X rIxS := by
  intro value slice pins s σ H x y v u Q I rx ry h hs
  obtain ⟨z, i, c, rfl, rfl, hz, he, q⟩ := h
  obtain ⟨t, rfl⟩ := rx
  obtain ⟨t', rfl⟩ := ry
  obtain ⟨j, h1, h2, h3, h4, h5⟩ := atI_get he
  have hl : z.cps.toList.length = z.length := by simp [Str.length]
  rw [hl] at h1 h4 h5
  have hn := line63
  exact tail_any (typeIs_str s z t) slot_str_getitem.lookup (getItem_str (c := c) (by
    have e1 : decide (i < -(2 ^ 63 : Int)) = false := decide_eq_false (by omega)
    have e2 : decide (i ≥ 2 ^ 63) = false := decide_eq_false (by omega)
    rw [e1, e2, Bool.or_false]) (by rw [h1]; simpa using h2) ⟨.str ⟨#[c]⟩, H, I.tok _, ⟨_, rfl⟩, q⟩) hs
theorem mapSeq_set (its : List Value) (n j : Nat) (u : Value) : Obj.mapSeq (·.setIfInBounds j u) { cls := .type "list", data := .seq its.toArray n } = { cls := .type "list", data := .seq (its.set j u).toArray n } := by
  simp [Obj.mapSeq]
theorem Inv.lst {pins : List (Addr × Obj)} {σ : St} {H : Hp} {s : Shared} {p : Addr} {xs : List V} (I : Inv X pins σ H s) (h : H p = some (.lst xs)) :
    ∃ (its : List Value) (n : Nat), Vals xs its ∧ s.heap.get? p = some { cls := .type "list", data := .seq its.toArray n } ∧ xs.length ≤ sizeLine := by
  obtain ⟨z, its, n, r, e⟩ := I.hok p _ h
  exact ⟨its, n, r, e, z⟩
theorem Inv.lstUpd {pins : List (Addr × Obj)} {σ : St} {H : Hp} {s : Shared} {p : Addr} {xs ys : List V} {its its' : List Value} {n n' : Nat} {f : Obj → Obj} (I : Inv X pins σ H s) (h : H p = some (.lst xs))
    (ho : s.heap.get? p = some { cls := .type "list", data := .seq its.toArray n }) (hf : f { cls := .type "list", data := .seq its.toArray n } = { cls := .type "list", data := .seq its'.toArray n' }) (r : Vals ys its') (hz : ys.length ≤ sizeLine) (t : Nat) :
    Inv X pins σ (upd H p (.lst ys)) { s with heap := s.heap.update p f, toks := t } := by
  have e : (s.heap.update p f).get? p = some { cls := .type "list", data := .seq its'.toArray n' } := by
    rw [Heap.get?_update_self f ho (by rw [hf] <;> rfl), hf]
  refine I.write (x := p) (e := p) (by rw [h]; trivial) (.inl rfl) (fun b u hb q => (Heap.get?_update_other _ _ (Ne.symm hb)).trans q) ⟨_, e⟩ ?_
  exact ⟨hz, its', n', r, e⟩
def rSetL : V → V → V → Hp → (Hp → Prop) → Prop := fun o i v H Q => ∃ p xs k j, o = .ref p ∧ i = .int k ∧ H p = some (.lst xs) ∧ ixN xs.length k = some j ∧ Q (upd H p (.lst (xs.set j v)))
theorem set_list : PSet X rSetL := by
  intro pins s σ H o i v ov iv u Q I ro ri rv h
  obtain ⟨p, xs, k, j, rfl, rfl, hp, hj, q⟩ := h
  cases ro
  obtain ⟨t, rfl⟩ := ri
  obtain ⟨its, n, r, ho, hz⟩ := I.lst hp
  obtain ⟨h1, h2, h3, h4⟩ := ixN_seq hj
  have hl := r.length
  have hn := line63
  have I' : Inv X pins σ (upd H p (.lst (xs.set j v))) { s with heap := s.heap.update p (Obj.mapSeq (·.setIfInBounds j u)) } :=
    I.lstUpd hp ho (mapSeq_set its n j u) (r.set rv j) (by rw [List.length_set]; exact hz) s.toks
  by_cases h0 : 0 ≤ k
  · have hk : k.toNat = j := by
      rw [seqIndex_of h0 h4] at h1
      exact Option.some.inj h1
    exact PySem.W.ki_setAt ho h0 (by omega) (by rw [List.size_toArray, ← hl]; exact h4) (by rw [hk]; exact ⟨_, I', q⟩)
  · have hk : (k + (its.toArray.size : Int)).toNat = j := by
      rw [seqIndex_neg (by omega) h3] at h1
      rw [List.size_toArray, ← hl]
      exact Option.some.inj h1
    exact PySem.W.ki_setBack ho (by omega) (by rw [List.size_toArray, ← hl]; exact h3) (by omega) (by rw [hk]; exact ⟨_, I', q⟩)
theorem slice_bounds (lo hi : Option Int) (n : Nat) : (sliceBounds lo hi none n).1 = ((HT.sIx n 0 lo : Nat) : Int) ∧ (sliceBounds lo hi none n).2.1 = ((HT.sIx n n hi : Nat) : Int) ∧ (sliceBounds lo hi none n).2.2 = 1 := by
  refine ⟨?_, ?_, rfl⟩
  · cases lo with
    | none => simp [sliceBounds, HT.sIx]
    | some i =>
      simp only [sliceBounds, HT.sIx, Option.getD_none, show (1 : Int) > 0 by decide, if_true]
      by_cases h : i < 0
      · simp only [h, if_true] <;> omega
      · simp only [h, if_false] <;> omega
  · cases hi with
    | none => simp [sliceBounds, HT.sIx]
    | some i =>
      simp only [sliceBounds, HT.sIx, Option.getD_none, show (1 : Int) > 0 by decide, if_true]
      by_cases h : i < 0
      · simp only [h, if_true] <;> omega
      · simp only [h, if_false] <;> omega
theorem slicePick_cut (its : List Value) (lo hi : Option Int) : slicePick its.toArray lo hi none = ((its.drop (HT.sIx its.length 0 lo)).take (HT.sIx its.length its.length hi - HT.sIx its.length 0 lo)).toArray := by
  obtain ⟨h1, h2, h3⟩ := slice_bounds lo hi its.toArray.size
  unfold slicePick
  rw [h1, h2, h3]
  simp only [sliceRange_one, pick_run, List.size_toArray] <;> rfl
def rSlL (K : PySem.W.Frag) : V → Option Int → Option Int → Hp → VK → Prop := fun x lo hi H Q => ∃ a xs, x = .ref a ∧ SqL K H a xs ∧ ∀ p, H p = none → Q (.ref p) (upd H p (.lst (cutV xs lo hi)))
theorem sl_list : SlR X (rSlL X.K) := by
  intro pins s σ H x v vl vu lo hi sl Q I rx hs pl pu h
  obtain ⟨a, xs, rfl, hx, q⟩ := h
  cases rx
  obtain ⟨its, r, ht, hz⟩ := I.list hx
  have hlen := r.length
  refine ⟨"list", _, slot_list_getitem.lookup, ht.isList.typeIs, ?_⟩
  refine wpAny_getItem_list_slice ht.isList hs pl pu .none (by simp) ?_ (by rw [List.size_toArray] <;> omega)
  rw [slicePick_cut, ← hlen]
  refine ⟨.ref s.heap.objs.size, _, I.laid (t' := s.toks) (o := .lst (cutV xs lo hi)) (fun b ob q => Heap.get?_push_of_some _ q) (Nat.le_refl _) ?_, rfl, q _ (I.hok.fresh (Nat.le_refl _))⟩
  exact ⟨Nat.le_trans (cutV_length xs lo hi) hz, _, 0, (r.drop (HT.sIx xs.length 0 lo)).take (HT.sIx xs.length xs.length hi - HT.sIx xs.length 0 lo), Heap.get?_push_size _ rfl⟩
def flatV : V → Bool
  | .non => true
  | .bl _ => true
  | .int _ => true
  | .str _ => true
  | _ => false
def eqV : V → V → Bool
  | .non, .non => true
  | .bl a, .bl b => a == b
  | .bl a, .int b => (if a then 1 else 0) == b
  | .int a, .bl b => a == (if b then 1 else 0)
  | .int a, .int b => a == b
  | .str a, .str b => a == b
  | _, _ => false
theorem eqAt_V {A : Around} {s : Shared} {y x : V} {u v : Value} (ry : RelV y u) (rx : RelV x v) (fy : flatV y = true) (fx : flatV x = true) : SeqAt.EqAt A s u v (eqV y x) := by
  cases y with
  | non =>
    cases ry
    cases x with
    | non => cases rx; exact SeqAt.EqAt.same _
    | bl b => cases rx; exact SeqAt.EqAt.none_bool b
    | int b => obtain ⟨t, rfl⟩ := rx; exact SeqAt.EqAt.none_int b t
    | str b => obtain ⟨t, rfl⟩ := rx; exact SeqAt.EqAt.none_str b t
    | _ => exact absurd (show false = true from fx) Bool.false_ne_true
  | bl a =>
    cases ry
    cases x with
    | non => cases rx; exact SeqAt.EqAt.bool_none a
    | bl b => cases rx; exact SeqAt.EqAt.bool_bool a b
    | int b => obtain ⟨t, rfl⟩ := rx; exact SeqAt.EqAt.bool_int a b t
    | str b => obtain ⟨t, rfl⟩ := rx; exact SeqAt.EqAt.bool_str a b t
    | _ => exact absurd (show false = true from fx) Bool.false_ne_true
  | int a =>
    obtain ⟨t', rfl⟩ := ry
    cases x with
    | non => cases rx; exact SeqAt.EqAt.int_none a t'
    | bl b => cases rx; exact SeqAt.EqAt.int_bool a t' b
    | int b => obtain ⟨t, rfl⟩ := rx; exact SeqAt.EqAt.int_int a t' b t
    | str b => obtain ⟨t, rfl⟩ := rx; exact SeqAt.EqAt.int_str a t' b t
    | _ => exact absurd (show false = true from fx) Bool.false_ne_true
  | str a =>
    obtain ⟨t', rfl⟩ := ry
    cases x with
    | non => cases rx; exact SeqAt.EqAt.str_none a t'
    | bl b => cases rx; exact SeqAt.EqAt.str_bool a t' b
    | int b => obtain ⟨t, rfl⟩ := rx; exact SeqAt.EqAt.str_int a t' b t
    | str b => obtain ⟨t, rfl⟩ := rx; exact SeqAt.EqAt.str_str a t' b t
    | _ => exact absurd (show false = true from fx) Bool.false_ne_true
  | _ => exact absurd (show false = true from fy) Bool.false_ne_true
theorem call_len_seq : CallR X (.builtin "len") (fun xs H Q => ∃ p ys, xs = [.ref p] ∧ (SqL X.K H p ys ∨ SqT X.K H p ys) ∧ Q (.int ys.length) H) := by
  intro pins s σ H xs us Q I r h
  obtain ⟨p, ys, rfl, hq, q⟩ := h
  obtain ⟨u, rfl, rx⟩ := vals1 r
  cases rx
  have hn := line63
  rcases hq with hq | hq
  · obtain ⟨its, r', pl, hz⟩ := I.list hq
    have hlen := r'.length
    exact Calls.call_len_list pl.isList (by simp only [List.size_toArray] <;> omega) ⟨.int ys.length, H, I.tok _, ⟨s.toks + 1, by rw [List.size_toArray, hlen]⟩, q⟩
  · obtain ⟨its, r', pl, hz⟩ := I.tuple hq
    have hlen := r'.length
    exact len_tuple pl (by simp only [List.size_toArray] <;> omega) ⟨.int ys.length, H, I.tok _, ⟨s.toks + 1, by rw [List.size_toArray, hlen]⟩, q⟩
theorem call_len_str : CallR X (.builtin "len") (fun xs H Q => ∃ z, xs = [.str z] ∧ z.length ≤ sizeLine ∧ Q (.int z.length) H) := by
  intro pins s σ H xs us Q I r h
  obtain ⟨z, rfl, hz, q⟩ := h
  obtain ⟨u, rfl, t, rfl⟩ := vals1 r
  have hn := line63
  exact len_str (by omega) ⟨.int z.length, H, I.tok _, ⟨_, rfl⟩, q⟩
theorem CallR.or {f : Value} {r r' : List V → Hp → VK → Prop} (h : CallR X f r) (h' : CallR X f r') : CallR X f (fun xs H Q => r xs H Q ∨ r' xs H Q) := by
  intro pins s σ H xs us Q I rs q
  rcases q with q | q
  · exact h pins s σ H xs us Q I rs q
  · exact h' pins s σ H xs us Q I rs q
theorem call_tuple_of : CallR X (.type "tuple") (fun xs H Q => ∃ p ys, xs = [.ref p] ∧ ((SqL X.K H p ys ∧ ∀ l, H l = none → Q (.ref l) (upd H l (.tup ys))) ∨ (SqT X.K H p ys ∧ Q (.ref p) H))) := by
  intro pins s σ H xs us Q I r h
  obtain ⟨p, ys, rfl, h⟩ := h
  obtain ⟨u, rfl, rx⟩ := vals1 r
  cases rx
  rcases h with ⟨hq, q⟩ | ⟨hq, q⟩
  · obtain ⟨its, r', pl, hz⟩ := I.list hq
    have hlen := r'.length
    refine call_tuple_list pl.isList (fun h' kp => ?_) (by simp only [List.size_toArray] <;> omega)
    have I1 : Inv X pins σ H { s with heap := h' } := I.kept (t' := s.toks) kp
    have I2 : Inv X pins σ (upd H h'.objs.size (.tup ys)) { s with heap := h'.push { cls := .type "tuple", data := .seq its.toArray } } :=
      I1.laid (t' := s.toks) (fun b o e => Heap.get?_push_of_some _ e) (Nat.le_refl _) (show ObjOk X.prog X.w _ _ _ (.tup ys) from ⟨hz, its, r', IsTup.new _ _⟩)
    exact ⟨.ref h'.objs.size, _, I2, rfl, q _ (I1.hok.fresh (Nat.le_refl _))⟩
  · obtain ⟨its, r', pl, hz⟩ := I.tuple hq
    exact call_tuple_same pl ⟨.ref p, H, I, rfl, q⟩
def tyV (K : PySem.W.Frag) (T : String) (x : V) (H : Hp) : Prop := match x with
  | .str _ => T = "str"
  | .int _ => T = "int"
  | .ref p => (T = "list" ∧ ∃ xs, SqL K H p xs) ∨ (T = "tuple" ∧ ∃ o, K.lookup p = some o ∧ o.cls = .type "tuple" ∧ o.dict = none) ∨
      (T = "dict" ∧ ((∃ kvs, H p = some (.dK kvs)) ∨ ∃ kvs, H p = some (.dT kvs))) ∨ (T = "set" ∧ ∃ S n, H p = some (.set S n))
  | _ => False
theorem tyV_is {pins : List (Addr × Obj)} {σ : St} {H : Hp} {s : Shared} {T : String} {x : V} {v : Value} (I : Inv X pins σ H s) (r : RelV x v) (ty : tyV X.K T x H) :
    s.TypeIs v T ∧ ∀ a, v = .ref a → ∃ ob, s.heap.get? a = some ob ∧ ob.dict = none := by
  cases x with
  | str z =>
    obtain ⟨t, rfl⟩ := r
    cases (show T = "str" from ty)
    exact ⟨typeIs_str s z t, fun _ e => nomatch e⟩
  | int i =>
    obtain ⟨t, rfl⟩ := r
    cases (show T = "int" from ty)
    exact ⟨typeIs_int s i t, fun _ e => nomatch e⟩
  | ref p =>
    cases r
    rcases ty with ⟨rfl, xs, hq⟩ | ⟨rfl, o, hk, hc, hd⟩ | ⟨rfl, hk⟩ | ⟨rfl, S, n, hk⟩
    · obtain ⟨its, _, pl, _⟩ := I.list hq
      refine ⟨pl.isList.typeIs, fun a e => ?_⟩
      cases e
      obtain ⟨o, n, e, c, hd, _⟩ := pl
      exact ⟨o, e, hd⟩
    · refine ⟨⟨o, I.kIn p o hk, hc⟩, fun a e => ?_⟩
      cases e
      exact ⟨o, I.kIn _ o hk, hd⟩
    · have z : ∃ o, s.heap.get? p = some o ∧ o.ExactDict := by
        rcases hk with ⟨kvs, hk⟩ | ⟨kvs, hk⟩
        · obtain ⟨_, _, _, _, o, _, _, e, ex, _⟩ := I.hok p _ hk
          exact ⟨o, e, ex⟩
        · obtain ⟨_, _, _, _, o, _, _, e, ex, _⟩ := I.hok p _ hk
          exact ⟨o, e, ex⟩
      obtain ⟨o, e, ex⟩ := z
      refine ⟨⟨o, e, ex.1⟩, fun a e2 => ?_⟩
      cases e2
      exact ⟨o, e, ex.2.1⟩
    · obtain ⟨o, _, _, _, e, ex, _⟩ := I.hok p _ hk
      refine ⟨⟨o, e, ex.1⟩, fun a e2 => ?_⟩
      cases e2
      exact ⟨o, e, ex.2.1⟩
  | _ => exact False.elim ty
def tBM (K : PySem.W.Frag) (T : String) (r : V → List V → Hp → VK → Prop) (to : TE) (t : TA) : TE := fun σ H Q => to σ H fun x H1 => tyV K T x H1 ∧ t σ H1 fun xs H2 => r x xs H2 Q
variable {o e : Expr} {es : List Expr} {to : TE} {t : TA} {name : Str} {apos cpos : Pos} {T id : String} {r : V → List V → Hp → VK → Prop}
theorem pe_bm (pa : PlainAttrs T) (slot : Slot T name id) (hty : typeOf (.builtin id) = pure (.type "method_descriptor")) (hm : MtR X id r) (ho : PE X o to) (ha : PA X (e :: es) t)
    (hbase : attributeBase o name X.env (eval o X.env) = eval o X.env := by rfl)
    (hfew : ((backTo cpos (starEach (e :: es) X.env)).all (fun x => !x.1) && (backToKw cpos (keywordEach [] X.env)).all (fun x => x.1.isSome)
      && decide ((e :: es).length + ([] : List Keyword).length + (if ([] : List Keyword).isEmpty then 0 else 1) < 30)) = true := by rfl)
    (hline : (apos.endLine == cpos.line) = true := by rfl) (hs : starEach (e :: es) X.env = (false, eval e X.env) :: starEach es X.env := by rfl) (hplain : (backTo cpos (starEach es X.env)).any (·.1) = false := by rfl) :
    PE X (.Call (.Attribute o name apos) (e :: es) [] cpos) (tBM X.K T r to t) := by
  intro pins s σ H Q I h
  refine wpAny_Call_method_late hbase hfew hline rfl (thn (ho pins s σ H _ I h) fun v s1 ⟨x, H1, I1, r1, ty, q1⟩ => ?_)
  obtain ⟨h1, h2⟩ := tyV_is I1 r1 ty
  refine ⟨T, id, pa, slot, hty, h1, h2, ?_⟩
  have hA := ha cpos pins s1 σ H1 _ I1 q1
  rw [hs] at hA ⊢
  refine Calls.callWith_builtin (by show (false || (backTo cpos (starEach es X.env)).any (·.1)) = false; rw [hplain] <;> rfl) (Calls.evalArgs_plain ?_)
  exact thn hA fun us s2 ⟨vs, H2, I2, r2, q2⟩ => hm pins s2 σ H2 x vs v us Q I2 r1 r2 q2
/- xs.append(e), list.index on a module's tuple .. are MtR facts of 06m -/
end
def MtM (X : Cx) (id : String) (r : V → List V → Hp → VK → Prop) : Prop :=
  ∀ (pins : List (Addr × Obj)) (s : Shared) (σ : St) (H : Hp) (x : V) (xs : List V) (v : Value) (us : List Value) (Q : VK), Inv X pins σ H s → RelV x v → Vals xs us → r x xs H Q →
    wpAny (model X.prog X.w) X.A (call (.builtin id) (v :: us)) (EP X pins σ Q) X.xe s
theorem Vals.one : ∀ {x : V} {us : List Value}, Vals [x] us → ∃ u, us = [u] ∧ RelV x u
  | _, _, .cons r .nil => ⟨_, rfl, r⟩
theorem Vals.rep {xs : List V} {us : List Value} (h : Vals xs us) : ∀ k : Nat, Vals (List.replicate k xs).flatten (List.replicate k us).flatten
  | 0 => .nil
  | k + 1 => by
    rw [List.replicate_succ, List.replicate_succ, List.flatten_cons, List.flatten_cons]
    exact Vals.append h (Vals.rep h k)
theorem foldl_rep (its : List Value) : ∀ (k : Nat) (acc : List Value),
    List.foldl (fun x1 x2 => x1 ++ x2) acc.toArray (List.replicate k its.toArray) = (acc ++ (List.replicate k its).flatten).toArray
  | 0, acc => by simp
  | k + 1, acc => by
    have e : acc.toArray ++ its.toArray = (acc ++ its).toArray := by simp
    have e2 : (acc ++ its) ++ (List.replicate k its).flatten = acc ++ (List.replicate (k + 1) its).flatten := by
      rw [List.replicate_succ, List.flatten_cons, List.append_assoc]
    rw [← e2, ← foldl_rep its k (acc ++ its), ← e, List.replicate_succ, List.foldl_cons]
section
variable {X : Cx} {pins : List (Addr × Obj)} {σ : St} {H : Hp} {s : Shared} {l b : Addr} {xs ys zs : List V}
theorem Inv.lset {its its' : List Value} {n : Nat} {f : Array Value → Array Value} {t' : Nat} (I : Inv X pins σ H s) (hH : H l = some (.lst xs))
    (e : s.heap.get? l = some { cls := .type "list", data := .seq its.toArray n }) (hf : f its.toArray = its'.toArray) (hv : Vals ys its') (hz : ys.length ≤ sizeLine) :
    Inv X pins σ (upd H l (.lst ys)) { s with heap := s.heap.update l (Obj.mapSeq f), toks := t' } := by
  have q := PySem.IsL.update e f
  rw [hf] at q
  refine I.write (x := l) (e := l) (by rw [hH]; exact trivial) (.inl rfl) (fun b' u hb hu => (Heap.get?_update_other s.heap (Obj.mapSeq f) (Ne.symm hb)).trans hu) ⟨_, q⟩ ?_
  exact ⟨hz, its', _, hv, q⟩
theorem Inv.lnew {its : List Value} {t' : Nat} (I : Inv X pins σ H s) (hv : Vals ys its) (hz : ys.length ≤ sizeLine) :
    Inv X pins σ (upd H s.heap.objs.size (.lst ys)) { s with heap := s.heap.push { cls := .type "list", data := .seq its.toArray }, toks := t' } :=
  I.laid (fun _ _ q => Heap.get?_push_of_some _ q) (Nat.le_refl _) ⟨hz, its, 0, hv, Heap.get?_push_size _ rfl⟩
theorem Inv.fresh (I : Inv X pins σ H s) : H s.heap.objs.size = none := I.hok.fresh (Nat.le_refl _)
theorem Inv.lstM (I : Inv X pins σ H s) (hH : H l = some (.lst xs)) : xs.length ≤ sizeLine ∧ ∃ (its : List Value) (n : Nat), Vals xs its ∧ xs.length = its.length ∧ s.heap.get? l = some { cls := .type "list", data := .seq its.toArray n } := by
  obtain ⟨z, its, n, r, e⟩ := I.hok l _ hH
  exact ⟨z, its, n, r, r.length, e⟩
theorem notLongL {n : Nat} (h : n ≤ sizeLine) : Builtin.List.listTooLong n = false := by
  unfold Builtin.List.listTooLong
  exact decide_eq_false (by omega)
end
section
variable {X : Cx}
def rAppend : V → List V → Hp → VK → Prop := fun x vs H Q => ∃ l xs y, x = .ref l ∧ vs = [y] ∧ H l = some (.lst xs) ∧ xs.length < sizeLine ∧ Q .non (upd H l (.lst (xs ++ [y])))
theorem mt_append : MtM X "list.append" rAppend := by
  intro pins s σ H x vs v us Q I rx rv h
  obtain ⟨l, xs, y, rfl, rfl, hH, hz, q⟩ := h
  cases rx
  obtain ⟨u, rfl, ru⟩ := rv.one
  obtain ⟨z, its, n, r, hl, e⟩ := I.lstM hH
  refine call_meets F.slot_list_append ⟨_, e, rfl⟩ F.entry_list_append (F.args_list_append_2 _ _) (PySem.list_append l its.toArray n u (by rw [List.size_toArray]; omega)) ⟨e, ?_⟩
  refine ⟨.non, _, I.lset (its' := its ++ [u]) hH e (by simp) (r.append (.cons ru .nil)) ?_, rfl, q⟩
  rw [List.length_append, List.length_singleton]
  omega
theorem len_rep {α : Type} (xs : List α) (k : Nat) : (List.replicate k xs).flatten.length = k * xs.length := by
  induction k with
  | zero => simp
  | succ k ih => rw [List.replicate_succ, List.flatten_cons, List.length_append, ih, Nat.succ_mul, Nat.add_comm]
end
section
variable {κ : Type} [DecidableEq κ]
def valV (kvs : List (κ × V)) (k : κ) : Option V := (kvs.find? fun kv => decide (kv.1 = k)).map (·.2)
def putK (kvs : List (κ × V)) (k : κ) (v : V) : List (κ × V) :=
  if (kvs.any fun kv => decide (kv.1 = k)) = true then kvs.map (fun kv => if kv.1 = k then (kv.1, v) else kv) else kvs ++ [(k, v)]
theorem valV_pos {p : κ × V} {r : List (κ × V)} {k : κ} (e : p.1 = k) : valV (p :: r) k = some p.2 := by simp [valV, List.find?_cons, e]
theorem valV_neg {p : κ × V} {r : List (κ × V)} {k : κ} (e : ¬ p.1 = k) : valV (p :: r) k = valV r k := by simp [valV, List.find?_cons, e]
theorem length_putK (kvs : List (κ × V)) (k : κ) (v : V) : (putK kvs k v).length ≤ kvs.length + 1 := by
  unfold putK
  split
  · rw [List.length_map]; omega
  · rw [List.length_append, List.length_cons, List.length_nil]; omega
theorem RelO.isSome_eq {o : Option V} {u : Option Value} (r : RelO o u) : o.isSome = u.isSome := by
  cases o with
  | none => cases u with
    | none => rfl
    | some _ => exact (show False from r).elim
  | some _ => cases u with
    | none => exact (show False from r).elim
    | some _ => rfl
theorem RelO.getD {o : Option V} {u : Option Value} {d : V} {d' : Value} (r : RelO o u) (rd : RelV d d') : RelV (o.getD d) (u.getD d') := by
  cases o with
  | none => cases u with
    | none => exact rd
    | some _ => exact (show False from r).elim
  | some _ => cases u with
    | none => exact (show False from r).elim
    | some _ => exact r
theorem KV.val {kvs : List (κ × V)} {vs : List (κ × Value)} (r : KV kvs vs) (k : κ) : RelO (valV kvs k) (valueAt vs k) := by
  unfold KV at r
  induction r with
  | nil => exact True.intro
  | @cons p q ps qs h t ih =>
    obtain ⟨h1, h2⟩ := h
    by_cases e : p.1 = k
    · have e' : q.1 = k := h1.symm.trans e
      have b : valueAt (q :: qs) k = some q.2 := by simp [valueAt, List.find?_cons, e']
      rw [valV_pos e, b]; exact h2
    · have e' : ¬ q.1 = k := fun z => e (h1.trans z)
      have b : valueAt (q :: qs) k = valueAt qs k := by simp [valueAt, List.find?_cons, e']
      rw [valV_neg e, b]; exact ih
theorem KV.any {kvs : List (κ × V)} {vs : List (κ × Value)} (r : KV kvs vs) (k : κ) : (kvs.any fun kv => decide (kv.1 = k)) = vs.any fun kv => decide (kv.1 = k) := by
  unfold KV at r
  induction r with
  | nil => rfl
  | cons h t ih => rw [List.any_cons, List.any_cons, ih, h.1]
theorem KV.repl {kvs : List (κ × V)} {vs : List (κ × Value)} (r : KV kvs vs) (k : κ) {y : V} {u : Value} (ry : RelV y u) :
    KV (kvs.map fun kv => if kv.1 = k then (kv.1, y) else kv) (vs.map fun kv => if kv.1 = k then (kv.1, u) else kv) := by
  unfold KV at r ⊢
  induction r with
  | nil => exact .nil
  | @cons p q ps qs h t ih =>
    rw [List.map_cons, List.map_cons]
    refine .cons ?_ ih
    obtain ⟨h1, h2⟩ := h
    by_cases e : p.1 = k
    · rw [if_pos e, if_pos (h1.symm.trans e)]; exact ⟨h1, ry⟩
    · rw [if_neg e, if_neg (fun z => e (h1.trans z))]; exact ⟨h1, h2⟩
theorem KV.put {kvs : List (κ × V)} {vs : List (κ × Value)} (r : KV kvs vs) (k : κ) {y : V} {u : Value} (ry : RelV y u) : KV (putK kvs k y) (stored vs k u) := by
  unfold putK stored
  rw [r.any k]
  by_cases e : (vs.any fun kv => decide (kv.1 = k)) = true
  · rw [if_pos e, if_pos e]; exact r.repl k ry
  · rw [if_neg e, if_neg e]; exact Paired.snoc r ⟨rfl, ry⟩
theorem KV.length {kvs : List (κ × V)} {vs : List (κ × Value)} (r : KV kvs vs) : kvs.length = vs.length := Paired.length r
end
theorem kV_is {P : Program} {w : World} {k : Key} {u : Value} (r : RelV (kV k) u) : (mixKind P w).is k u = true := by
  cases k with
  | inl i => obtain ⟨t, e⟩ := (show ∃ t, u = Value.int i t from r); subst e; exact mixKind_int P w i t
  | inr x => obtain ⟨t, e⟩ := (show ∃ t, u = Value.str x t from r); subst e; exact mixKind_str P w x t
theorem items_are {P : Program} {w : World} : ∀ {ks : List Key} {us : List Value}, Vals (ks.map kV) us → ItemsAre (mixKind P w) ks us
  | [], _, r => by rw [List.map_nil] at r; cases r; exact .nil
  | k :: ks, _, r => by
    rw [List.map_cons] at r
    cases r with
    | cons h t => exact .cons (kV_is h) (items_are t)
abbrev KT (H : Hp) : List (List Key × V) → List (List Key × Addr × Value) → Prop := Paired fun p q => p.1 = q.1 ∧ H q.2.1 = some (.tup (p.1.map kV)) ∧ RelV p.2 q.2.2
theorem KT.val {H : Hp} {kvs : List (List Key × V)} {xs : List (List Key × Addr × Value)} (r : KT H kvs xs) (k : List Key) : RelO (valV kvs k) ((atKey xs k).map (·.2)) := by
  induction r with
  | nil => exact True.intro
  | @cons p q ps qs h t ih =>
    obtain ⟨h1, _, h2⟩ := h
    by_cases e : p.1 = k
    · have e' : q.1 = k := h1.symm.trans e
      have b : atKey (q :: qs) k = some q.2 := by simp [atKey, List.find?_cons, e']
      rw [valV_pos e, b]; exact h2
    · have e' : ¬ q.1 = k := fun z => e (h1.trans z)
      have b : atKey (q :: qs) k = atKey qs k := by simp [atKey, List.find?_cons, e']
      rw [valV_neg e, b]; exact ih
section
variable {P : Program} {w : World} {H : Hp} {h : Heap} {a : Addr}
theorem rd_of {u : HO} (ok : HOk P w H h) (e : Rd H a u) : ObjOk P w H h a u := e.ok ok
theorem dk_rd {kvs : List (Key × V)} (ok : HOk P w H h) (e : Rd H a (.dK kvs)) : kvs.length ≤ sizeLine ∧ (a == sysModules) = false ∧ ∃ vs, KV kvs vs ∧ h.DictOf (mixKind P w) a vs :=
  show ObjOk P w H h a (.dK kvs) from rd_of ok e
theorem dk_of {kvs : List (Key × V)} (ok : HOk P w H h) (e : H a = some (.dK kvs)) : kvs.length ≤ sizeLine ∧ (a == sysModules) = false ∧ ∃ vs, KV kvs vs ∧ h.DictOf (mixKind P w) a vs := dk_rd ok (.inl e)
theorem key_of {ks : List Key} (ok : HOk P w H h) (e : H a = some (.tup (ks.map kV))) : (tupleKind (mixKind P w)).is h ks a := by
  obtain ⟨_, its, r, o, h1, h2, n, h3⟩ := (show ObjOk P w H h a (.tup (ks.map kV)) from ok a _ e)
  exact ⟨o, its.toArray, n, h1, h2, h3, by simpa using items_are r⟩
theorem dt_rd {kvs : List (List Key × V)} (ok : HOk P w H h) (e : Rd H a (.dT kvs)) : kvs.length ≤ sizeLine ∧ (a == sysModules) = false ∧
    ∃ xs, KT H kvs xs ∧ h.DictOfH (tupleKind (mixKind P w)) a xs := by
  obtain ⟨z, y, xs, r, o, es, ep, h1, h2, h3, h4, h5⟩ := (show ObjOk P w H h a (.dT kvs) from rd_of ok e)
  refine ⟨z, y, xs, r, o, es, ep, h1, h2, h3, h4, fun x hx => ?_, h5⟩
  have all : ∀ {l : List (List Key × V)} {m : List (List Key × Addr × Value)}, KT H l m → ∀ x ∈ m, (tupleKind (mixKind P w)).is h x.1 x.2.1 := by
    intro l m q
    induction q with
    | nil => intro x hx; exact nomatch hx
    | @cons p q ps qs hq t ih =>
      intro x hx
      rcases List.mem_cons.mp hx with e | hx
      · subst e
        exact key_of ok (by rw [← hq.1]; exact hq.2.1)
      · exact ih x hx
  exact all r x hx
end
def DGet (H : Hp) (a : Addr) (y : V) (r : Option V) : Prop :=
  (∃ kvs k, Rd H a (.dK kvs) ∧ y = kV k ∧ r = valV kvs k) ∨ ∃ kvs k b, Rd H a (.dT kvs) ∧ y = .ref b ∧ H b = some (.tup (k.map kV)) ∧ r = valV kvs k
section
variable {X : Cx} {pins : List (Addr × Obj)} {σ : St} {H : Hp} {s : Shared} {a : Addr} {y v : V} {u r : Value} {o : Option V} {A : Around} {E : Value → Shared → Prop}
theorem Inv.big (I : Inv X pins σ H s) : sysModules < s.heap.objs.size := by
  have h : mainGlobals < s.heap.objs.size := (I.mod.glob.keeps I.bk).lt
  exact Nat.lt_trans (by decide) h
theorem d_write {h' : Heap} {t' : Nat} {ob : HO} (I : Inv X pins σ H s) (mu : Mut (H a)) (hs : Heap.SameBut a s.heap h') (he : ∃ q, h'.get? a = some q) (new : ObjOk X.prog X.w (upd H a ob) h' a ob) :
    Inv X pins σ (upd H a ob) { s with heap := h', toks := t' } :=
  I.write (x := a) (e := a) mu (.inl rfl) (fun b q hb z => (hs.2 b hb).trans z) he new
theorem dk_new {P : Program} {w : World} {H' : Hp} {h' : Heap} {kvs : List (Key × V)} {vs : List (Key × Value)} (z : kvs.length ≤ sizeLine) (hd : (a == sysModules) = false) (rel : KV kvs vs) (dd : h'.DictOf (mixKind P w) a vs) :
    ObjOk P w H' h' a (.dK kvs) := ⟨z, hd, vs, rel, dd⟩
end
theorem dk_empty {P : Program} {w : World} {H : Hp} (h : Heap) (hb : sysModules < h.objs.size) : ObjOk P w H (h.push { cls := .type "dict", data := .dict #[] }) h.objs.size (.dK []) :=
  ⟨Nat.zero_le _, beq_eq_false_iff_ne.mpr (Ne.symm (Nat.ne_of_lt hb)), [], .nil, Heap.DictOf.new h⟩
theorem dt_empty {P : Program} {w : World} {H : Hp} (h : Heap) (hb : sysModules < h.objs.size) : ObjOk P w H (h.push { cls := .type "dict", data := .dict #[] }) h.objs.size (.dT []) :=
  ⟨Nat.zero_le _, beq_eq_false_iff_ne.mpr (Ne.symm (Nat.ne_of_lt hb)), [], .nil, _, #[], 0, Heap.get?_push_size _ rfl, ⟨rfl, rfl, rfl⟩, rfl, rfl, List.nodup_nil⟩
def tDNewK : TE := fun _ H Q => ∀ p, H p = none → Q (.ref p) (upd H p (.dK []))
section
variable {X : Cx} {pos : Pos}
theorem pe_dnewK : PE X (.Dict [] [] pos) tDNewK := fun pins s σ H Q I h =>
  wpAny_Dict_empty ⟨.ref s.heap.objs.size, _, I.laid (a := s.heap.objs.size) (o := .dK []) (t' := s.toks) (fun _ _ q => Heap.get?_push_of_some _ q) (Nat.le_refl _) (dk_empty s.heap I.big), rfl, h _ (I.hok.fresh (Nat.le_refl _))⟩
end
structure M2 (X : Cx) (o : Expr) (m : Str) (apos : Pos) (e f : Expr) (cpos : Pos) : Prop where
  base : attributeBase o m X.env (eval o X.env) = eval o X.env
  few : ((backTo cpos (starEach [e, f] X.env)).all (fun x => !x.1) && (backToKw cpos (keywordEach [] X.env)).all (fun x => x.1.isSome)
    && decide (([e, f] : List Expr).length + ([] : List Keyword).length + (if ([] : List Keyword).isEmpty then 0 else 1) < 30)) = true
  line : (apos.endLine == cpos.line) = true
  trees : backTo cpos (starEach [e, f] X.env) = [(false, eval e X.env), (false, eval f X.env)]
def IsD (H : Hp) (a : Addr) : Prop := (∃ kvs, Rd H a (.dK kvs)) ∨ ∃ kvs, Rd H a (.dT kvs)
theorem isD_at {X : Cx} {pins : List (Addr × Obj)} {σ : St} {H : Hp} {s : Shared} {a : Addr} (I : Inv X pins σ H s) (d : IsD H a) :
    s.TypeIs (.ref a) "dict" ∧ (∀ b, Value.ref a = .ref b → ∃ ob, s.heap.get? b = some ob ∧ ob.dict = none) ∧ (a == sysModules) = false := by
  rcases d with ⟨kvs, e⟩ | ⟨kvs, e⟩
  · obtain ⟨_, hd, vs, _, dd⟩ := dk_rd I.hok e
    refine ⟨dd.typeIs, fun b q => ?_, hd⟩
    cases q
    obtain ⟨ob, _, _, h1, h2, _⟩ := dd
    exact ⟨ob, h1, h2.2.1⟩
  · obtain ⟨_, hd, xs, _, dd⟩ := dt_rd I.hok e
    refine ⟨dd.typeIs, fun b q => ?_, hd⟩
    cases q
    obtain ⟨ob, _, _, h1, h2, _⟩ := dd
    exact ⟨ob, h1, h2.2.1⟩
section
variable {X : Cx} {pins : List (Addr × Obj)} {σ : St} {H : Hp} {s : Shared} {a : Addr} {y d : V} {u r : Value} {o : Option V} {A : Around} {E : Value → Shared → Prop}
theorem d_get2 {Q : Value → Shared → Prop} (hu : A.units + 1 < cLine) (I : Inv X pins σ H s) (g : DGet H a y o) (ry : RelV y u) (rd : RelV d r) (h : ∀ w' s', Inv X pins σ H s' → RelV (o.getD d) w' → Q w' s') :
    wpAny (model X.prog X.w) A (call (.builtin "dict.get") [.ref a, u, r]) Q E s := by
  rcases g with ⟨kvs, k, e, ey, l⟩ | ⟨kvs, k, b, e, ey, eb, l⟩
  · subst ey
    obtain ⟨z, hd, vs, rel, dd⟩ := dk_rd I.hok e
    refine call_meetsIn PySem.F.slot_dict_get dd.typeIs PySem.F.entry_dict_get (PySem.F.args_dict_get_3 _ _ _) (meets_dict_get_default (mixKind X.prog X.w) a (kV_is ry) hd r) ⟨_, dd.mapOf, h _ _ (I.tok _) ?_⟩
    rw [l]
    exact (rel.val k).getD rd
  · subst ey
    cases (show u = Value.ref b from ry)
    obtain ⟨z, hd, xs, rel, dd⟩ := dt_rd I.hok e
    refine call_meetsIn PySem.F.slot_dict_get dd.typeIs PySem.F.entry_dict_get (PySem.F.args_dict_get_3 _ _ _) (meetsH_dict_get_default (tupleKind (mixKind X.prog X.w)) a b hd r) ⟨tupleKind_room_in1 hu, k, xs, key_of I.hok eb, dd, h _ _ (I.tok _) ?_⟩
    rw [l]
    exact (rel.val k).getD rd
end
def tDGet2 (td ty tx : TE) : TE := fun σ H Q => td σ H fun x H1 => ∃ a, x = .ref a ∧ IsD H1 a ∧ ty σ H1 fun y H2 => tx σ H2 fun z H3 => ∃ o, DGet H3 a y o ∧ Q (o.getD z) H3
section
variable {X : Cx} {o e f : Expr} {apos cpos : Pos} {td ty tx : TE}
theorem pe_dget2 (hu : X.A.units + 1 < cLine) (ho : PE X o td) (he : PE X e ty) (hf : PE X f tx) (m : M2 X o "get" apos e f cpos) : PE X (.Call (.Attribute o "get" apos) [e, f] [] cpos) (tDGet2 td ty tx) := by
  intro pins s σ H Q I h
  refine wpAny_Call_method m.base m.few m.line PySem.F.plainAttrs_dict PySem.F.slot_dict_get PySem.F.type_dict_get (thn (ho pins s σ H _ I h) fun u s1 ⟨x, H1, I1, rx, a, ex, d, q1⟩ => ?_)
  subst ex
  obtain rfl : u = Value.ref a := rx
  obtain ⟨t1, t2, _⟩ := isD_at I1 d
  refine ⟨t1, t2, ?_⟩
  rw [m.trees]
  refine Calls.callWith_builtin rfl (Calls.evalArgs_plain (Calls.spliced_cons (thn (he pins s1 σ H1 _ I1 q1) fun iv s2 ⟨y, H2, I2, ry, q2⟩ =>
    Calls.spliced_cons (thn (hf pins s2 σ H2 _ I2 q2) fun fv s3 ⟨z, H3, I3, rz, ov, g, q3⟩ => Calls.spliced_nil ?_))))
  exact d_get2 hu I3 g ry rz fun w' s4 I4 rw' => ⟨_, H3, I4, rw', q3⟩
end
end L2
namespace Att
open PySem PySem.W PySem.Calls PyProof.Rows
theorem ints_of_wellAll {P : Params} {h : Heap} : ∀ (ns : List Int) (vs : List Value), WellAll P h vs (ns.map WData.int) → IntsAre vs ns := by
  intro ns
  induction ns with
  | nil =>
    intro vs w
    rw [List.map_nil] at w
    cases w
    exact .nil
  | cons n ns ih =>
    intro vs w
    rw [List.map_cons] at w
    cases w with
    | cons a b =>
      cases a
      exact .cons _ _ (ih _ b)
theorem script_of {l : OpenLaw} {n : Nat} (hn : l.most = some n) {P : Params} {h : Heap} {args : List WData} {vals : List Value}
    (hpre : l.row.toRowW.claim.pre args = true) (hwl : WellAll P h vals args) :
    ∃ a vs ns, vals = [Value.ref a] ∧ args = [WData.list (ns.map WData.int)] ∧ h.get? a = some { cls := .type "list", data := .seq vs.toArray } ∧ IntsAre vs ns ∧ ns.length ≤ n := by
  have hsh : WShape.hasAll [] args [.list .int] = true := (pre_splitW hpre).1
  have hc : l.pre.holds [] { args := args } = true := (pre_splitW hpre).2
  obtain ⟨d, r, rfl, h1, h2⟩ := hasAllW_cons hsh
  obtain rfl := hasAllW_nil h2
  obtain ⟨xs, rfl, h3⟩ := hasW_list h1
  obtain ⟨ns, rfl⟩ := items_int h3
  have hlen : ns.length ≤ n := by
    unfold OpenLaw.pre at hc
    have h4 : (WTm.not (.lt (.lit (.int (n : Int))) (.len (.arg 0)))).holds [] { args := [.list (ns.map .int)] } = true := by
      have h4 := (holds_andW hc).1
      rw [hn] at h4
      exact h4
    have h5 := condW_of h4 (w_not (w_lt w_lit (w_len_list (w_arg rfl))))
    rw [List.length_map] at h5
    refine Nat.le_of_not_lt fun q => ?_
    have q' : (n : Int) < ((ns.length : Nat) : Int) := by omega
    first
      | (rw [decide_eq_true q'] at h5; exact absurd h5 (by decide))
      | (simp at h5; omega)
  cases hwl with
  | cons w1 w2 =>
    cases w2
    cases w1 with
    | list ho hall => exact ⟨_, _, ns, rfl, rfl, ho, ints_of_wellAll ns _ hall, hlen⟩
theorem post_true (l : OpenLaw) (args : List WData) : l.row.toRowW.claim.post args (.bool true) args = true :=
  postW_of (r := l.row.toRowW) (X := (true == true))
    (show WShape.has [] (.bool true) .bool = true by first | rfl | decide | simp [WShape.has, WShape.arms, WShape.armsAll])
    (show (WTm.eq .res (.lit (.bool true))).value [] { args := args, res := some (.bool true), after := args } = some (.bool (true == true)) from w_eq_bool (w_res rfl) w_lit) rfl
theorem attach_call {l : OpenLaw} {n : Nat} {q : Program} {loose : List Str} {XP : (Str → Option Value) → Heap → Prop} {YP : World → Heap → Prop} {d : DefRec}
    (hn : l.most = some n) (hdf : d.params.defaults = [])
    (call : ∀ (w : World) (s₀ s₁ : Shared) (mg mb : Str → Option Value) (fa : Addr) (o : Obj) (pm cd doc : Value) (a : Addr) (vs : List Value) (ns : List Int),
      Ground q loose [] XP w s₀ mg mb s₁.heap → YP w s₁.heap →
      s₁.heap.get? fa = some o → o.data = .func (docDef d.name d.params d.body d.scope pm cd doc) → s₁.heap.CodeRec cd d.name → mg d.name = some (.ref fa) →
      s₁.heap.get? a = some { cls := .type "list", data := .seq vs.toArray } → IntsAre vs ns → ns.length ≤ n → s₁.gens = #[] →
      codeAny (model l.prog w) callerA (.call (.ref fa) ⟨[.ref a], []⟩) (fun r s' => r = .ok (.ret (.bool true)) ∧ OldK s₁.heap s'.heap ∧ s'.os = s₁.os ∧ AllBare s'.gens) s₁) :
    WalkO q loose XP YP l.row.toRowW d [] (fun f vs => PySem.call f vs) := by
  intro w s₀ s₁ mg mb G Y fa o pm cd doc dV kV ho hd hcd hD hmg hg args vals as hpre hlay hrd hwl hlo
  obtain rfl : dV = .none := Dflts.none hD hdf
  obtain rfl : kV = .none := Dflts.noKw hD
  obtain ⟨a, vs, ns, rfl, rfl, hobj, hints, hlen⟩ := script_of hn hpre hwl
  refine enter_call (codeAny_mono (call w s₀ s₁ mg mb fa o pm cd doc a vs ns G Y ho (fd_plain hd) hcd hmg hobj hints hlen hg) fun r s' hq => ?_)
  obtain ⟨rfl, h2, h3, h4⟩ := hq
  exact ⟨.inl ⟨.bool true, .bool true, [], rfl, fun _ => rfl, .bool true, post_true l _, fun _ => ⟨List.Pairwise.nil, fun _ hm => (nomatch hm)⟩⟩, h2, h3, h4⟩
end Att
namespace L2
open PySem PySem.Spec PyProof.Rows
theorem vals_ints : ∀ {vs : List Value} {ns : List Int}, IntsAre vs ns → Vals (ns.map V.int) vs
  | _, _, .nil => .nil
  | _, _, .cons n t h => .cons ⟨t, rfl⟩ (vals_ints h)
def Only (H : Hp) : Prop := ∀ b, H b = none ∨ ∃ o xs, H b = some (.frz o (.lst xs))
theorem law_call {P : Program} {w : World} {K : PySem.W.Frag} {mg mb : Str → Option Value} {CX : CXT} {k : Nat} {fa a : Addr} {fd : FuncData} {x : Str} {sp : Sp} {s₁ : Shared} {vs : List Value} {ns : List Int}
    (KX : K.In s₁.heap) (hns : s₁.heap.Ns mainGlobals mg) (hb : s₁.heap.Ns builtinsNs mb) (hbb : ∀ x : Str, x ≠ "__name__" → mb x = bootBuiltins x) (hlim : s₁.heap.NoLimit) (hg : s₁.gens = #[])
    (ha : s₁.heap.get? a = some { cls := .type "list", data := .seq vs.toArray }) (hi : IntsAre vs ns) (hl : ns.length ≤ sizeLine) (hr : Room k callerA)
    (F : ∀ base : Heap, K.In base → base.Ns mainGlobals mg → FnOk P w K mg base CX k fa fd [x] sp) (hbind : ∀ (s : Shared) (u : Value), BindsTo s fd ⟨[u], []⟩ [(x, u)])
    (hsp : ∀ H : Hp, Only H → SqL K H a (ns.map V.int) → sp [.ref a] H (fun v _ => v = .bl true) fun _ _ _ => False)
    (hCX : ∀ H e s', CX [] H s₁ (fun _ _ _ => False) e s' → False) :
    codeAny (model P w) callerA (.call (.ref fa) ⟨[.ref a], []⟩) (fun r s' => r = .ok (.ret (.bool true)) ∧ OldK s₁.heap s'.heap ∧ s'.os = s₁.os ∧ AllBare s'.gens) s₁ := by
  have rv := vals_ints hi
  have lenV := hi.length
  -- from an abstract heap in which nothing but the script may be tracked
  have core : ∀ H : Hp, Only H → SqL K H a (ns.map V.int) → HOk P w H s₁.heap → (∀ b, H b ≠ none → b = a) → (H a ≠ none → K.lookup a = none) →
      codeAny (model P w) callerA (.call (.ref fa) ⟨[.ref a], []⟩) (fun r s' => r = .ok (.ret (.bool true)) ∧ OldK s₁.heap s'.heap ∧ s'.os = s₁.os ∧ AllBare s'.gens) s₁ := by
    intro H hO hS hok hA hK
    have base_of : ∀ {b : Addr} {o : Obj}, s₁.heap.get? b = some o → H b = none → (hidT s₁.heap H).get? b = some o := fun e n => hidT_get e n
    have noA : ∀ {b : Addr} {o : Obj} {es : Array DictEntry} {ep : Nat}, s₁.heap.get? b = some o → o.data = .dict es ep → H b = none := fun {b o es ep} e d => by
      cases q : H b with
      | none => rfl
      | some u =>
        have e' : b = a := hA b (by rw [q]; simp)
        subst e'
        rw [ha] at e; cases e
        have d' : Data.seq vs.toArray _ = Data.dict es ep := d
        cases d'
    have nsK : ∀ {b : Addr} {m : Str → Option Value}, s₁.heap.Ns b m → (hidT s₁.heap H).Ns b m := fun {b m} ⟨o, es, ep, e, d, r⟩ => ⟨o, es, ep, base_of e (noA e d), d, r⟩
    have hKb : K.In (hidT s₁.heap H) := fun b o e => base_of (KX b o e) (by
      cases q : H b with
      | none => rfl
      | some u =>
        have e' : b = a := hA b (by rw [q]; simp)
        subst e'
        rw [hK (by rw [q]; simp)] at e; cases e)
    have hM : Mod K mg (hidT s₁.heap H) := ⟨hKb, nsK hns, ⟨mb, nsK hb, hbb⟩, let ⟨mc, h1, h2⟩ := hlim; ⟨mc, nsK h1, h2⟩⟩
    have e0 : Env0 P w K mg (hidT s₁.heap H) callerA [] s₁ H := ⟨rfl, hM, fun b o e => of_hidT e, Nat.le_of_eq (hidT_size _ _), trivial, fun b hb => absurd (show b ∈ ([] : List Addr) from hb) (by simp), hok, .of_eq hg⟩
    refine codeAny_mono ((F _ hKb (nsK hns)).run callerA [] s₁ H ⟨[.ref a], []⟩ [.ref a] [.ref a] _ _ hr e0 (hbind s₁ (.ref a)) (.cons rfl .nil) (hsp H hO hS)) fun r s' h => ?_
    cases r with
    | error e => exact (hCX H e s' h).elim
    | ok fl =>
      cases fl with
      | next => exact False.elim h
      | brk => exact False.elim h
      | cont => exact False.elim h
      | ret u =>
        obtain ⟨v, H', os, bare, un, hok', r', q⟩ := h
        have q' : v = .bl true := q
        subst q'
        obtain rfl : u = Value.bool true := r'
        refine ⟨rfl, OldK.of_keep fun b o e => ?_, os, bare⟩
        cases q : H b with
        | none => exact un.keep b o e q (by intro z; exact absurd (show b ∈ ([] : List Addr) from z) (by simp)) (by simp)
        | some u =>
          rcases hO b with z | ⟨ob, xs, z⟩
          · rw [q] at z; cases z
          · have z2 := un.frzs b ob _ z
            obtain ⟨e1, _⟩ := hok b _ z
            obtain ⟨e2, _⟩ := hok' b _ z2
            rw [e] at e1; cases e1
            exact e2
  cases hk : K.lookup a with
  | some o =>
    -- the script is one of the module's own objects
    have e := KX a o hk
    rw [ha] at e
    cases e
    refine core (fun _ => none) (fun _ => .inl rfl) (.inr ⟨_, vs.toArray, _, hk, rfl, rfl, rfl, by rw [List.size_toArray, lenV]; exact hl, by simpa using rv⟩) (fun b u z => by have z' : (none : Option HO) = some u := z; cases z') (fun b z => absurd rfl z) fun z => absurd rfl z
  | none =>
    refine core (fun b => if b = a then some (.frz { cls := .type "list", data := .seq vs.toArray } (.lst (ns.map V.int))) else none) (fun b => ?_) (.inl (.inr ⟨{ cls := .type "list", data := .seq vs.toArray }, if_pos rfl⟩)) (fun b u z => ?_) (fun b z => ?_) fun _ => hk
    · by_cases hb : b = a
      · exact .inr ⟨_, _, if_pos hb⟩
      · exact .inl (if_neg hb)
    · by_cases hb : b = a
      · have z' := (if_pos hb).symm.trans z
        cases z'
        subst hb
        exact ⟨ha, by rw [List.length_map]; exact hl, vs, _, rv, ha⟩
      · have z' := (if_neg hb).symm.trans z
        cases z'
    · by_cases hb : b = a
      · exact hb
      · exact absurd (if_neg hb) z
abbrev KOf {K : PySem.W.Frag} {h : Heap} (_ : K.In h) : PySem.W.Frag := K
theorem walk_of {l : PySem.W.OpenLaw} {n k : Nat} {q : Program} {loose : List Str} {XP : (Str → Option Value) → Heap → Prop} {YP : World → Heap → Prop} {d : DefRec} {K : Params → PySem.W.Frag} {CX : World → CXT} {sp : World → Sp} {x : Str}
    (hn : l.most = some n) (hn2 : n ≤ sizeLine) (hdf : d.params.defaults = []) (hr : Room k callerA)
    (hY : ∀ (w : World) (h : Heap), YP w h → (K w.params).In h)
    (F : ∀ (w : World) (mg : Str → Option Value) (fa : Addr) (h : Heap), (K w.params).In h → h.Ns mainGlobals mg → mg d.name = some (.ref fa) →
      ∃ fd : FuncData, (∀ (s : Shared) (u : Value), BindsTo s fd ⟨[u], []⟩ [(x, u)]) ∧
        ∀ base : Heap, (K w.params).In base → base.Ns mainGlobals mg → FnOk l.prog w (K w.params) mg base (CX w) k fa fd [x] (sp w))
    (hsp : ∀ (w : World) (H : Hp) (a : Addr) (ns : List Int), ns.length ≤ n → Only H → SqL (K w.params) H a (ns.map V.int) → sp w [.ref a] H (fun v _ => v = .bl true) fun _ _ _ => False)
    (hCX : ∀ (w : World) (H : Hp) (s : Shared) (e : Value) (s' : Shared), CX w [] H s (fun _ _ _ => False) e s' → False) :
    PySem.W.WalkO q loose XP YP l.row.toRowW d [] (fun f vs => PySem.call f vs) := by
  refine Att.attach_call hn hdf fun w s₀ s₁ mg mb fa o pm cd doc a vs ns G Y ho hd hcd hmg hobj hints hlen hg => ?_
  have KX := hY w _ Y
  obtain ⟨fd, hb, hF⟩ := F w mg fa _ KX G.T.g hmg
  exact law_call KX G.T.g G.T.b G.T.builtins G.T.nolimit hg hobj hints (Nat.le_trans hlen hn2) hr hF hb (fun H hO hS => hsp w H a ns hlen hO hS) fun H e s' => hCX w H s₁ e s'
def defArgs (s : Stmt) : Arguments := match s with
  | .FunctionDef _ a _ _ _ _ _ _ _ _ => a
  | _ => { posonlyargs := [], args := [], vararg := none, kwonlyargs := [], kw_defaults := [], kwarg := none, defaults := [] }
def defBody (s : Stmt) : List Stmt := match s with
  | .FunctionDef _ _ b _ _ _ _ _ _ _ => b
  | _ => []
def defScope (s : Stmt) : Scope := match s with
  | .FunctionDef _ _ _ _ _ _ sc _ _ _ => sc
  | _ => { kind := .function, names := [], isGenerator := false, isCoroutine := false }
abbrev CX0 : CXT := fun _ _ _ _ _ _ => False
abbrev E0 : XK := fun _ _ _ => False
theorem pass0 {X : Cx} : Passes CX0 X E0 := fun _ _ _ _ _ _ _ h => h.elim
structure Fun (K : PySem.W.Frag) (x qual : Str) (st : Stmt) (f : Addr) (fd : FuncData) : Prop where
  ex : ∃ (oc : Value) (od : Option Addr) (kV doc pm : Value) (an : Option Addr) (cdv ct : Value) (osl : Array (Option Value)),
    fd = PySem.W.fnOf x qual (defArgs st) (defBody st) (defScope st) .none kV doc pm an cdv ct ∧ K.lookup f = some ⟨oc, od, .func fd, osl⟩ ∧ PySem.W.codeIn K cdv qual = true
  kp : PySem.W.keepIn K (.ref f) = true
section
variable {P : Program} {w : World} {K : PySem.W.Frag} {mg : Str → Option Value} {base : Heap}
theorem Fun.ok {x qual : Str} {st : Stmt} {f : Addr} {fd : FuncData} {N ps : List Str} {k : Nat} {sp : Sp} (F : Fun K x qual st f fd) (S : FnScope N ps (defScope st)) (len : ∀ vs H Q E, sp vs H Q E → vs.length = ps.length)
    (hbody : ∀ (cdv : Value) (A : Around) (outer : List Env) (s : Shared) (H : Hp) (vs : List V) (Q : VK) (E : XK), Room k (A.deeper (envOfC qual (defScope st) s.heap.objs.size f cdv)) → sp vs H Q E →
      ∃ t, PSs (cxOf CX0 P w K mg base N qual (defScope st) f cdv A outer s H E).nox (defBody st) t ∧ t { nx := fun _ H' => Q .non H', rt := Q } (start N vs) H) : FnOk P w K mg base CX0 (k + 1) f fd ps sp := by
  obtain ⟨oc, od, kV, doc, pm, an, cdv, ct, osl, rfl, lk, hcd⟩ := F.ex
  refine fn_of lk hcd S len fun A outer s H vs Q E hr hsp => ?_
  obtain ⟨t, h, q⟩ := hbody cdv A outer s H vs Q E hr hsp
  exact ⟨t, h.nox, q⟩
theorem Fun.binds {x qual : Str} {st : Stmt} {f : Addr} {fd : FuncData} {ps : List Str} (F : Fun K x qual st f fd)
    (h : ∀ (kV doc pm : Value) (an : Option Addr) (cdv ct : Value) (us : List Value), us.length = ps.length → bindArgs (PySem.W.fnOf x qual (defArgs st) (defBody st) (defScope st) .none kV doc pm an cdv ct) ⟨us, []⟩ = pure (ps.zip us)) : Binds K fd ps [] := by
  obtain ⟨oc, od, kV, doc, pm, an, cdv, ct, osl, rfl, lk, hcd⟩ := F.ex
  exact .all (h kV doc pm an cdv ct)
theorem fun_mk {x qual : Str} {st : Stmt} {f : Addr} {oc : Value} {od an : Option Addr} {osl : Array (Option Value)} {kV doc pm cdv ct : Value} (l : K.lookup f = some ⟨oc, od, .func (PySem.W.fnOf x qual (defArgs st) (defBody st) (defScope st) .none kV doc pm an cdv ct), osl⟩)
    (c : PySem.W.codeIn K cdv qual = true) (k : PySem.W.keepIn K (.ref f) = true) : Fun K x qual st f (PySem.W.fnOf x qual (defArgs st) (defBody st) (defScope st) .none kV doc pm an cdv ct) := ⟨⟨oc, od, kV, doc, pm, an, cdv, ct, osl, rfl, l, c⟩, k⟩
end
theorem small1000 {n : Nat} (h : n ≤ 1000) : n < sizeLine := Nat.lt_of_le_of_lt h (by decide)
theorem iteF {A B : Prop} (h : B) : if false = true then A else B := by
  rw [if_neg Bool.false_ne_true]
  exact h
theorem iteT {A B : Prop} (h : A) : if true = true then A else B := by
  rw [if_pos rfl]
  exact h
theorem ite2 {c A B : Prop} [Decidable c] (h1 : c → A) (h2 : ¬ c → B) : if c then A else B := by
  by_cases h : c
  · rw [if_pos h]
    exact h1 h
  · rw [if_neg h]
    exact h2 h
def Same (H H' : Hp) : Prop := ∀ b o, H b = some o → H' b = some o
theorem Same.refl (H : Hp) : Same H H := fun _ _ h => h
theorem Same.trans {H H1 H2 : Hp} (a : Same H H1) (b : Same H1 H2) : Same H H2 := fun c o h => b c o (a c o h)
def clGo : List (Str × NameKind) → List (Str × Addr) → List (Str × Addr) → List (Str × Addr)
  | [], _, cs => cs
  | (n, k) :: r, cells, cs => clGo r cells (if k == .free then (match cells.lookup n with | some c => (n, c) :: cs | none => cs) else cs)
def clOf (scope : Scope) (env : Env) : List (Str × Addr) := clGo scope.names env.cells []
theorem closure_go {env : Env} : ∀ (names : List (Str × NameKind)) (cs : List (Str × Addr)), (∀ y ∈ names, y.2 = .free → ∃ c, env.cells.lookup y.1 = some c) →
    (forIn names cs (fun (x : Str × NameKind) (r : List (Str × Addr)) => (match x with | (name, kind) => if kind == .free then do let c ← cellOf env name; pure (ForInStep.yield ((name, c) :: r)) else pure (ForInStep.yield r) : Sem (ForInStep (List (Str × Addr)))))) = (pure (clGo names env.cells cs) : Sem (List (Str × Addr)))
  | [], cs, _ => rfl
  | (n, k) :: r, cs, h => by
    rw [List.forIn_cons]
    cases e : (k == NameKind.free) with
    | true =>
      obtain ⟨c, hc⟩ := h (n, k) List.mem_cons_self (by simpa using e)
      have hco : cellOf env n = pure c := by unfold cellOf; rw [show env.cells.lookup n = some c from hc]
      have ih := closure_go r ((n, c) :: cs) fun y hy => h y (List.mem_cons_of_mem _ hy)
      show (if k == NameKind.free then (do let c ← cellOf env n; pure (ForInStep.yield ((n, c) :: cs))) else pure (ForInStep.yield cs)) >>= _ = _
      rw [if_pos e, hco]
      unfold clGo
      rw [if_pos e]
      have hc' : List.lookup n env.cells = some c := hc
      rw [hc']
      exact ih
    | false =>
      have ih := closure_go r cs fun y hy => h y (List.mem_cons_of_mem _ hy)
      show (if k == NameKind.free then (do let c ← cellOf env n; pure (ForInStep.yield ((n, c) :: cs))) else pure (ForInStep.yield cs)) >>= _ = _
      rw [if_neg (by rw [e]; exact Bool.false_ne_true)]
      unfold clGo
      rw [if_neg (by rw [e]; exact Bool.false_ne_true)]
      exact ih
theorem closure_of {scope : Scope} {env : Env} (h : ∀ y ∈ scope.names, y.2 = .free → ∃ c, env.cells.lookup y.1 = some c) : closureFor scope env = pure (clOf scope env) := by
  have e := closure_go scope.names [] h
  unfold closureFor clOf
  show (forIn scope.names ([] : List (Str × Addr)) (fun (x : Str × NameKind) (r : List (Str × Addr)) => (match x with | (name, kind) => if kind == .free then do let c ← cellOf env name; pure (ForInStep.yield ((name, c) :: r)) else pure (ForInStep.yield r) : Sem (ForInStep (List (Str × Addr))))) >>= fun r => pure r) = _
  rw [e]
  rfl
theorem clGo_of {cells : List (Str × Addr)} : ∀ (names : List (Str × NameKind)) (cs : List (Str × Addr)) (x : Str) (c : Addr), (clGo names cells cs).lookup x = some c → cells.lookup x = some c ∨ cs.lookup x = some c
  | [], cs, x, c, h => .inr h
  | (n, k) :: r, cs, x, c, h => by
    unfold clGo at h
    rcases clGo_of r _ x c h with q | q
    · exact .inl q
    · split at q
      · cases e : cells.lookup n with
        | none => rw [e] at q; exact .inr q
        | some d =>
          rw [e] at q
          dsimp only at q
          rw [List.lookup_cons] at q
          cases ex : (x == n) with
          | true =>
            rw [ex] at q
            have : x = n := by simpa using ex
            subst this
            exact .inl (e.trans q)
          | false => rw [ex] at q; exact .inr q
      · exact .inr q
theorem clOf_of {scope : Scope} {env : Env} {x : Str} {c : Addr} (h : (clOf scope env).lookup x = some c) : env.cells.lookup x = some c := by
  rcases clGo_of _ _ _ _ h with q | q
  · exact q
  · cases q
theorem clGo_has {cells : List (Str × Addr)} : ∀ (names : List (Str × NameKind)) (cs : List (Str × Addr)) (x : Str) (c : Addr), cells.lookup x = some c → ((x, NameKind.free) ∈ names ∨ cs.lookup x = some c) → (clGo names cells cs).lookup x = some c
  | [], cs, x, c, _, h => by
    rcases h with h | h
    · cases h
    · exact h
  | (n, k) :: r, cs, x, c, hc, h => by
    unfold clGo
    refine clGo_has r _ x c hc ?_
    by_cases hx : (x, NameKind.free) ∈ r
    · exact .inl hx
    · refine .inr ?_
      rcases h with h | h
      · have e : (x, NameKind.free) = (n, k) := (List.mem_cons.mp h).resolve_right hx
        cases e
        rw [if_pos (by rfl), hc]
        dsimp only
        rw [List.lookup_cons]
        simp
      · split
        · cases e : cells.lookup n with
          | none => exact h
          | some d =>
            dsimp only
            rw [List.lookup_cons]
            cases ex : (x == n) with
            | true =>
              have : x = n := by simpa using ex
              subst this
              rw [hc] at e; cases e; rfl
            | false => exact h
        · exact h
theorem clOf_has {scope : Scope} {env : Env} {x : Str} {c : Addr} (hc : env.cells.lookup x = some c) (h : (x, NameKind.free) ∈ scope.names) : (clOf scope env).lookup x = some c :=
  clGo_has _ _ _ _ hc (.inl h)
theorem relabel_of {env : Env} : ∀ {names : List (Str × NameKind)} {x : Str} {k : NameKind},
    (names.map fun (n, k) => if (k == NameKind.free && env.scope.kind == .function && env.kindOf n == some .cell) then (n, NameKind.cell) else (n, k)).lookup x = some k →
    names.lookup x = some k ∨ (names.lookup x = some .free ∧ k = .cell)
  | [], _, _, h => by simp at h
  | (n, j) :: r, x, k, h => by
    have ih := @relabel_of env r x k
    rw [List.map_cons] at h
    dsimp only at h
    cases hx : x == n with
    | true =>
      rw [List.lookup_cons, hx]
      by_cases hc : (j == NameKind.free && env.scope.kind == .function && env.kindOf n == some .cell) = true
      · rw [if_pos hc, List.lookup_cons, hx] at h
        cases h
        have hj : j = .free := by
          rw [Bool.and_eq_true, Bool.and_eq_true] at hc
          simpa using hc.1.1
        exact .inr ⟨by rw [hj], rfl⟩
      · rw [if_neg hc, List.lookup_cons, hx] at h
        exact .inl h
    | false =>
      rw [List.lookup_cons, hx]
      apply ih
      by_cases hc : (j == NameKind.free && env.scope.kind == .function && env.kindOf n == some .cell) = true
      · rw [if_pos hc, List.lookup_cons, hx] at h
        exact h
      · rw [if_neg hc, List.lookup_cons, hx] at h
        exact h
theorem kind_block {scope : Scope} {cl : List (Str × Addr)} {C : Addr} {env : Env} {x : Str} {k : NameKind} (h : (compEnvC scope cl C env).kindOf x = some k) : scope.names.lookup x = some k ∨ (scope.names.lookup x = some .free ∧ k = .cell) :=
  relabel_of h
structure CompSc (X : Cx) (Nc : List Str) (js : List (Option Nat)) (scope : Scope) : Prop where
  kind : scope.kind = .function
  nocell : ∀ y ∈ scope.names, y.2 ≠ .cell
  names : ∀ y ∈ scope.names, y.2 = .local → scope.names.lookup y.1 = some .local
  free : ∀ y ∈ scope.names, y.2 = .free → X.env.kindOf y.1 = some .cell ∨ X.env.kindOf y.1 = some .free
  out : ∀ (i : Nat) (x : Str) (j : Nat), Nc[i]? = some x → js[i]? = some (some j) → X.N[j]? = some x ∧ scope.names.lookup x = some .free
  len : js.length = Nc.length
def inSt (js : List (Option Nat)) (σ : St) : St := js.map fun j => match j with | some j => (match σ[j]? with | some v => v | none => none) | none => none
def cxComp (X : Cx) (Nc : List Str) (scope : Scope) (pins : List (Addr × Obj)) (fp : List Addr) (H : Hp) (s : Shared) (C : Addr) : Cx where
  prog := X.prog
  w := X.w
  K := X.K
  mg := X.mg
  base := X.base
  A := X.A
  N := Nc
  s₀ := s
  H₀ := H
  env := compEnvC scope (clOf scope X.env) C X.env
  outer := X.stack
  stack := X.stack
  ex := fp
  fn := fun _ => false
  calm := true
  pn := X.pn ++ pins
  xe := fun _ _ => False
section
variable {X : Cx} {pins : List (Addr × Obj)} {σ : St} {H : Hp} {s : Shared} {Nc : List Str} {js : List (Option Nat)} {scope : Scope} {fp : List Addr}
theorem mem_names_of {names : List (Str × NameKind)} {x : Str} {k : NameKind} (h : names.lookup x = some k) : (x, k) ∈ names := PySem.mem_of_lookup h
theorem inv_comp (I : Inv X pins σ H s) (hc : X.calm = true) (S : CompSc X Nc js scope) (hf : ∀ b ∈ fp, FpOk X pins H b) (hfo : ∀ b ∈ fp, b < s.heap.objs.size) {h1 : Heap} {tk : Nat} {C : Addr} (hC : s.heap.objs.size < C)
    (hk : ∀ b o, s.heap.get? b = some o → h1.get? b = some o) (hn : h1.Ns C (fun _ => none)) (hd : h1.get? s.heap.objs.size = some { cls := .type "list", data := .seq ([] : List Value).toArray 0 }) :
    Inv (cxComp X Nc scope pins fp H s C) [] (inSt js σ) (upd H s.heap.objs.size (.lst [])) { s with heap := h1, toks := tk } := by
  have fr0 : H s.heap.objs.size = none := I.hok.fresh (Nat.le_refl _)
  have frC : H C = none := I.hok.fresh (Nat.le_of_lt hC)
  have ltc : ∀ x c, X.env.cells.lookup x = some c → c < s.heap.objs.size := fun x c e => by
    obtain ⟨v, q⟩ := I.cell x c e
    exact q.lt
  have cells : ∀ x c, (cxComp X Nc scope pins fp H s C).env.cells.lookup x = some c → X.env.cells.lookup x = some c := fun x c e => clOf_of e
  have hasO : ∀ x, X.env.kindOf x = some .cell ∨ X.env.kindOf x = some .free → ∃ c, X.env.cells.lookup x = some c := I.ok.has
  refine ⟨⟨I.ok.mod, S.kind, I.ok.glob, I.ok.blt, Nat.le_of_lt hC, fun x y c e1 e2 => I.ok.inj x y c (cells x c e1) (cells y c e2), fun x hx => ?_, fun x c z => (nomatch z), fun _ => I.ok.hd hc, I.ok.frames, .inl rfl, fun b hb => ?_,
    I.bs, Nat.le_trans I.ok.bsz I.sz, fun b o e hb => ?_, fun b hb z => ?_, I.stack, I.stkFree⟩, rfl, I.bare, ?_, ⟨_, hn, fun i x v e1 e2 e3 => ?_⟩, fun x c e => ?_, ?_, fun x c e => ?_, fun p hp => ?_, ?_, ?_⟩
  · -- has
    have hfree : scope.names.lookup x = some .free := by
      rcases hx with hx | hx
      · rcases kind_block hx with q | q
        · exact absurd rfl (S.nocell _ (mem_names_of q))
        · exact q.1
      · rcases kind_block hx with q | q
        · exact q
        · exact q.1
    obtain ⟨c, hcx⟩ := hasO x (S.free _ (mem_names_of hfree) rfl)
    exact ⟨c, clOf_has hcx (mem_names_of hfree)⟩
  · -- exf
    obtain ⟨f0, f1, f2, f3, f4, f5⟩ := hf b hb
    exact ⟨Nat.ne_of_lt (Nat.lt_trans (hfo b hb) hC), fun x c e => f4 x c (cells x c e)⟩
  · -- noex
    obtain ⟨f0, f1, f2, f3, f4, f5⟩ := hf b hb
    rcases f3 with z | z
    · exact I.ok.noex b o e z
    · exact absurd (Nat.lt_of_lt_of_le (Heap.lt_size e) (Nat.le_trans I.ok.bsz z)) (Nat.lt_irrefl _)
  · -- exfs
    obtain ⟨f0, f1, f2, f3, f4, f5⟩ := hf b hb
    rcases List.mem_cons.mp (I.stkSub b z) with e | e
    · exact f1 e
    · exact f2 e
  · -- base
    exact Un.laid hk (Nat.le_refl _) fr0
  · -- loc
    have e2' : (inSt js σ)[i]? = some (some v) := e2
    unfold inSt at e2'
    rw [List.getElem?_map] at e2'
    cases ej : js[i]? with
    | none => rw [ej] at e2'; cases e2'
    | some oj =>
      rw [ej] at e2'
      cases oj with
      | none => cases e2'
      | some j =>
        obtain ⟨hNj, hfr⟩ := S.out i x j e1 ej
        have hσ : σ[j]? = some (some v) := by
          cases q : σ[j]? with
          | none => simp [q] at e2'
          | some w =>
            simp only [q, Option.map_some, Option.some.injEq] at e2'
            rw [e2']
        have hkO := S.free _ (mem_names_of hfr) rfl
        have hVis : Vis X.env.scope x := by
          rcases hkO with q | q
          · exact .inr (.inl q)
          · exact .inr (.inr q)
        obtain ⟨m, _, hl⟩ := I.loc
        obtain ⟨u, r, l⟩ := hl j x v hNj hσ hVis
        refine ⟨u, r, ?_⟩
        rcases l with ⟨hk', _⟩ | ⟨_, c, hcx, hcell⟩
        · rcases hkO with q | q
          · rw [show X.env.kindOf x = some .cell from q] at hk'; cases hk'
          · rw [show X.env.kindOf x = some .free from q] at hk'; cases hk'
        · refine .inr ⟨?_, c, clOf_has hcx (mem_names_of hfr), ?_⟩
          · rcases e3 with q | q
            · rcases kind_block (C := C) (cl := clOf scope X.env) (env := X.env) (show (compEnvC scope (clOf scope X.env) C X.env).kindOf x = some .local from q) with z | z
              · rw [hfr] at z; cases z
              · cases z.2
            · exact q
          · obtain ⟨o, ho, hdd⟩ := hcell
            exact ⟨o, hk _ _ ho, hdd⟩
  · -- cell
    obtain ⟨v, o, ho, hdd⟩ := I.cell x c (cells x c e)
    exact ⟨v, o, hk _ _ ho, hdd⟩
  · -- free
    show upd H s.heap.objs.size (.lst []) C = none
    rw [upd_ne (Nat.ne_of_gt hC)]
    exact frC
  · -- freeC
    have e' := cells x c e
    rw [upd_ne (Nat.ne_of_lt (ltc x c e'))]
    exact I.freeC x c e'
  · -- pin
    have hp' : p ∈ X.pn ++ pins := by
      have q : p ∈ (X.pn ++ pins) ++ [] := hp
      simpa using q
    obtain ⟨q1, q2, q3, q4, q5⟩ := I.pin p hp'
    have lt1 := Heap.lt_size q1
    refine ⟨hk _ _ q1, ?_, Nat.ne_of_lt (Nat.lt_trans lt1 hC), fun z => ?_, q5⟩
    · rw [upd_ne (Nat.ne_of_lt lt1)]; exact q2
    · rcases List.mem_cons.mp (I.stkSub _ z) with e | e
      · exact q3 e
      · exact q4 e
  · -- hok
    exact I.hok.laid hk (Nat.le_refl _) ⟨Nat.zero_le _, [], 0, .nil, hd⟩
  · show (inSt js σ).length = Nc.length
    unfold inSt
    rw [List.length_map]
    exact S.len
theorem inv_out {H' : Hp} {s' : Shared} {h' : Heap} {C : Addr} {σ' : St} {pins' : List (Addr × Obj)} (I : Inv X pins σ H s) (hf : ∀ b ∈ fp, FpOk X pins H b) (hC : s.heap.objs.size < C)
    (J : Inv (cxComp X Nc scope pins fp H s C) pins' σ' H' s') (hs : Heap.SameBut C s'.heap h') : Inv X pins σ H' { s' with heap := h' } := by
  have hCn : H' C = none := J.free
  have ne : ∀ b o, s.heap.get? b = some o → b ≠ C := fun b o e => Nat.ne_of_lt (Nat.lt_trans (Heap.lt_size e) hC)
  have U : Un (frs X.stack) fp H H' s.heap s'.heap := J.base
  have hok : HOk X.prog X.w H' h' := fun b ob e => by
    refine (J.hok b ob e).stay (fun c w' hc q => (hs.2 c ?_).trans q) (fun _ q => q) fun _ _ q => q
    rintro rfl
    rcases hc with rfl | hc
    · rw [hCn] at e; cases e
    · rw [hCn] at hc; cases hc
  refine I.call' (s' := { s' with heap := h' }) (ch := fp) J.os ⟨fun b o e n hb hx => ?_, fun b o e n hb hx => ?_, U.free, fun b o e hx => ?_, U.tups, U.frzs, U.tbls⟩ hok J.bare fun b hb => ?_
  · exact (hs.2 b (ne b o e)).trans (U.keep b o e n hb hx)
  · obtain ⟨sl, q⟩ := U.slot b o e n hb hx
    exact ⟨sl, (hs.2 b (ne b o e)).trans q⟩
  · obtain ⟨o', q⟩ := U.there b o e hx
    exact ⟨o', (hs.2 b (ne b o e)).trans q⟩
  · obtain ⟨f0, f1, f2, f3, f4, f5⟩ := hf b hb
    exact ⟨f3, f1, f4, f5⟩
end
section
variable {prog : Program} {w : World} {A : Around} {R : Result → Shared → Prop} {s : Shared}
abbrev testsOf (ifs : List Expr) (env : Env) : Sem Bool := forIn ifs true fun c r => if r = true then do let ok ← isTrue c env (eval c env); pure (ForInStep.yield ok) else pure (ForInStep.yield r)
theorem comp_turns {elt target iter : Expr} {ifs : List Expr} {scope : Scope} {pos : Pos} {it acc : Value} {env : Env} (J : Nat → Shared → Prop)
    (turn : ∀ n s, J n s → wpAny (model prog w) A (pyNext it) (fun r s1 => match r with
      | none => R (.ok .next) s1
      | some v => wpAny (model prog w) A (letOwnedTupleGo target it v) (fun _ s1' => wpAny (model prog w) A (assign target env v) (fun _ s2 =>
          wpAny (model prog w) A (testsOf ifs env) (fun ok s3 =>
            if ok = true then wpAny (model prog w) A (eval elt env) (fun x s4 =>
              wpAny (model prog w) A (call (.builtin "list.append") [acc, x]) (fun _ s5 => ∃ m, m < n ∧ J m s5) (fun _ _ => False) s4) (fun _ _ => False) s3
            else ∃ m, m < n ∧ J m s3) (fun _ _ => False) s2) (fun _ _ => False) s1') (fun _ _ => False) s1) (fun _ _ => False) s)
    (n : Nat) (h : J n s) :
    codeAny (model prog w) A (.compLoop (.ListComp elt [⟨target, iter, ifs, 0⟩] scope pos) 0 it acc env) R s := by
  have no : ∀ {E : Value → Shared → Prop} (x : Value) (s' : Shared), False → E x s' := fun _ _ f => f.elim
  refine codeAny_loop rfl J (fun n s hJ => ?_) n h
  show wpAny _ A ((compTurn (.ListComp elt [⟨target, iter, ifs, 0⟩] scope pos) 0 it acc env).onRaise (fun x => do noteFrame x env; theTreesLotGoes x)) _ _ s
  refine wpAny_noted ?_
  rw [compTurn_list]
  refine wpAny_bind (wpAny_standAt (wpAny_bind (wpAny_mono (turn n s hJ) (fun r s1 h1 => ?_) no)))
  cases r with
  | none => exact wpAny_pure h1
  | some v =>
    refine wpAny_bind (wpAny_mono h1 (fun _ s1' h1' => ?_) no)
    refine wpAny_bind (wpAny_mono h1' (fun _ s2 h2 => wpAny_bind (wpAny_mono h2 (fun ok s3 h3 => ?_) no)) no)
    cases ok with
    | false => exact wpAny_pure ⟨rfl, h3⟩
    | true =>
      exact wpAny_bind (wpAny_bind (wpAny_mono h3 (fun x s4 h4 => wpAny_bind (wpAny_mono h4 (fun _ s5 h5 => wpAny_pure (wpAny_pure ⟨rfl, h5⟩)) no)) no))
end
def PIfs (X : Cx) (ifs : List Expr) (t : TT) : Prop :=
  ∀ (pins : List (Addr × Obj)) (s : Shared) (σ : St) (H : Hp) (Q : Bool → Hp → Prop), Inv X pins σ H s → t σ H Q → wpAny (model X.prog X.w) X.A (testsOf ifs X.env) (TP X pins σ Q) X.xe s
def tYes : TT := fun _ H Q => Q true H
theorem pif0 {X : Cx} : PIfs X [] tYes := fun _ _ σ H _ I h => wpAny_tests_nil ⟨H, I, h⟩
theorem pif1 {X : Cx} {c : Expr} {t : TT} (h : PT X c t) : PIfs X [c] t := fun pins s σ H Q I q => wpAny_tests_one (h pins s σ H Q I q)
def tComp (js : List (Option Nat)) (wi : TI) (g : TG) (tc : TT) (te : TE) : TE := fun σ H Q => wi σ H fun J H1 => ∀ D, H1 D = none →
  ∃ W : Nat → Nat → St → Hp → Prop, (∃ m, W 0 m (inSt js σ) (upd H1 D (.lst []))) ∧ ∀ i m σ' H', W i m σ' H' →
    (J.stop i H' ∧ Q (.ref D) H') ∨ (J.go i H' ∧ ∃ N : St → Hp → Prop, (∀ σ2 H2, N σ2 H2 → ∃ m', m' < m ∧ W (i + 1) m' σ2 H2) ∧
      ∀ x H2, J.yld i H' x H2 → g x σ' H2 fun σ3 H3 => tc σ3 H3 fun b H4 => if b = true then te σ3 H4 (fun v H5 => ∃ xs, H5 D = some (.lst xs) ∧ xs.length < sizeLine ∧ N σ3 (upd H5 D (.lst (xs ++ [v])))) else N σ3 H4)
section
variable {X : Cx} {tg elt iter : Expr} {ifs : List Expr} {scope : Scope} {pos : Pos} {Nc : List Str} {js : List (Option Nat)} {wi : TI} {g : TG} {tc : TT} {te : TE}
theorem comp_block {pins : List (Addr × Obj)} {σ : St} {H2 : Hp} {s2 : Shared} {it : Addr} {fp : List Addr} {tn : Nat → Heap → Prop} {J : It} {Qd : Hp → Prop} {RR : Value → Addr → Result → Shared → Prop}
    (hc : X.calm = true) (S : CompSc X Nc js scope)
    (hb : ∀ pins fp H s C, PG (cxComp X Nc scope pins fp H s C) tg g ∧ PIfs (cxComp X Nc scope pins fp H s C) ifs tc ∧ PE (cxComp X Nc scope pins fp H s C) elt te)
    (I2 : Inv X pins σ H2 s2) (T : Turn X.prog X.w X.K tg J fp it tn) (st2 : tn 0 s2.heap) (f2 : ∀ b ∈ fp, FpOk X pins H2 b)
    (h2 : ∃ W : Nat → Nat → St → Hp → Prop, (∃ m, W 0 m (inSt js σ) (upd H2 s2.heap.objs.size (.lst []))) ∧ ∀ i m σ' H', W i m σ' H' →
      (J.stop i H' ∧ Qd H') ∨ (J.go i H' ∧ ∃ N : St → Hp → Prop, (∀ σ2 H2, N σ2 H2 → ∃ m', m' < m ∧ W (i + 1) m' σ2 H2) ∧
        ∀ x H2, J.yld i H' x H2 → g x σ' H2 fun σ3 H3 => tc σ3 H3 fun b H4 => if b = true then te σ3 H4 (fun v H5 => ∃ xs, H5 s2.heap.objs.size = some (.lst xs) ∧ xs.length < sizeLine ∧ N σ3 (upd H5 s2.heap.objs.size (.lst (xs ++ [v])))) else N σ3 H4))
    (hRR : ∀ C σ' H' s', s2.heap.objs.size < C → Inv (cxComp X Nc scope pins fp H2 s2 C) [] σ' H' s' → Qd H' → RR (.ref s2.heap.objs.size) C (.ok .next) s') :
    wpAny (model X.prog X.w) X.A (newList []) (fun acc s3 => wpAny (model X.prog X.w) X.A (newFunctionEnv scope X.env.globals (clOf scope X.env) [] X.env.qual none .none (some X.env)) (fun cenv s4 =>
      codeAny (model X.prog X.w) X.A (.compStart (.ListComp elt [⟨tg, iter, ifs, 0⟩] scope pos) 0 (.ref it) acc { cenv with scope := relabel scope X.env }) (RR acc cenv.locals) s4) X.xe s3) X.xe s2 := by
  have fpo : ∀ b ∈ fp, b < s2.heap.objs.size := fun b hb => by
    obtain ⟨o, ho, _⟩ := T.obj 0 _ st2 b hb
    exact Heap.lt_size ho
  refine wpAny_newObj_type (wpAny_newFunctionEnv S.nocell (by intro y hy; simp at hy) (fun h₁ hns hsb => ?_) S.kind)
  dsimp only at hns hsb ⊢
  generalize hH2 : s2.heap.push { cls := .type "list", dict := none, data := .seq ([] : List Value).toArray } = hp at hns hsb ⊢
  have hCs : hp.objs.size = s2.heap.objs.size + 1 := by rw [← hH2, Heap.size_push]
  have hC : s2.heap.objs.size < hp.objs.size := by rw [hCs]; exact Nat.lt_succ_self _
  have old : ∀ b o, s2.heap.get? b = some o → h₁.get? b = some o := fun b o e =>
    hsb.extBut b o (Nat.ne_of_lt (Nat.lt_trans (Heap.lt_size e) hC)) (Heap.get?_push_of_some _ (hH2 ▸ Heap.get?_push_of_some _ e))
  have hD : h₁.get? s2.heap.objs.size = some { cls := .type "list", data := .seq ([] : List Value).toArray 0 } :=
    hsb.extBut _ _ (Nat.ne_of_lt hC) (Heap.get?_push_of_some _ (hH2 ▸ Heap.get?_push_size _ rfl))
  obtain ⟨W, ⟨m0, w0⟩, turn⟩ := h2
  generalize hXc : cxComp X Nc scope pins fp H2 s2 hp.objs.size = Xc
  obtain ⟨hg, hifs, helt⟩ := hb pins fp H2 s2 hp.objs.size
  have e1 : Xc.prog = X.prog := by rw [← hXc]; rfl
  have I3 : ∀ tk, Inv Xc [] (inSt js σ) (upd H2 s2.heap.objs.size (.lst [])) { s2 with heap := h₁, toks := tk } := fun tk => by
    rw [← hXc]
    exact inv_comp I2 hc S f2 fpo hC old hns hD
  have st3 : tn 0 h₁ := T.keep 0 _ _ st2 fun b hb o e => old b o e
  have fpx : ∀ {H' : Hp}, (∀ b ∈ fp, H' b = none) → ∀ b ∈ fp, FpOk Xc [] H' b := fun {H'} hn b hb => by
    obtain ⟨f0, f1, f2', f3, f4, f5⟩ := f2 b hb
    rw [← hXc]
    refine ⟨hn b hb, Nat.ne_of_lt (Nat.lt_trans (fpo b hb) hC), fun z => ?_, .inl hb, fun x c e => f4 x c (clOf_of e), fun p hp => ?_⟩
    · rcases List.mem_cons.mp (I2.stkSub b z) with e | e
      · exact f1 e
      · exact f2' e
    · have hp' : p ∈ (X.pn ++ pins) ++ [] := hp
      exact f5 p (by simpa using hp')
  rw [hXc] at hg hifs helt
  have ea : Xc.A = X.A := by rw [← hXc]; rfl
  have ew : Xc.w = X.w := by rw [← hXc]; rfl
  have eK : Xc.K = X.K := by rw [← hXc]; rfl
  have ec : Xc.calm = true := by rw [← hXc]; rfl
  have ex : Xc.xe = fun _ _ => False := by rw [← hXc]; rfl
  have ee : Xc.env = compEnvC scope (clOf scope X.env) hp.objs.size X.env := by rw [← hXc]; rfl
  have loop : ∀ s3 : Shared, Inv Xc [] (inSt js σ) (upd H2 s2.heap.objs.size (.lst [])) s3 → tn 0 s3.heap →
      codeAny (model X.prog X.w) X.A (.compLoop (.ListComp elt [⟨tg, iter, ifs, 0⟩] scope pos) 0 (.ref it) (.ref s2.heap.objs.size) (compEnvC scope (clOf scope X.env) hp.objs.size X.env))
        (RR (.ref s2.heap.objs.size) hp.objs.size) s3 := by
    intro s3 J3 tn3
    refine comp_turns (fun n s' => ∃ i σ' H', Inv Xc [] σ' H' s' ∧ tn i s'.heap ∧ (∀ b ∈ fp, H' b = none) ∧ W i n σ' H') ?_ m0 ⟨0, _, _, J3, tn3, fun b hb => ?_, w0⟩
    · rintro n s4 ⟨i, σ4, H4, I4, st4, fr4, w4⟩
      rcases turn i n σ4 H4 w4 with ⟨stop, qn⟩ | ⟨go, N, hN, step⟩
      · have q0 := T.done Xc e1 ew eK ec i [] s4 σ4 H4 (fun _ _ => False) I4 (fpx fr4) st4 stop
        rw [ea] at q0
        refine thn q0 fun r s5 ⟨hr, I5⟩ => ?_
        subst hr
        have I5' : Inv (cxComp X Nc scope pins fp H2 s2 hp.objs.size) [] σ4 H4 s5 := by rw [hXc]; exact I5
        exact hRR _ _ _ _ hC I5' qn
      · have q0 := T.item Xc e1 ew eK ec i [] s4 σ4 H4 (fun _ _ => False) I4 (fpx fr4) st4 go
        rw [ea] at q0
        refine thn q0 fun r s5 ⟨u, hr, h5⟩ => ?_
        subst hr
        dsimp only
        refine thn h5 fun _ s6 ⟨x, H6, I6, r6, y6, st6, fr6⟩ => ?_
        have I6' := I6.pinned (fpx fr6) (T.obj _ _ st6)
        have q1 := hg _ s6 σ4 H6 x u _ I6' r6 (step x H6 y6)
        rw [e1, ew, ea, ex, ee] at q1
        refine thn q1 fun _ s7 ⟨σ7, H7, I7, q7⟩ => ?_
        have q2 := hifs _ s7 σ7 H7 _ I7 q7
        rw [e1, ew, ea, ex, ee] at q2
        refine thn q2 fun ok s8 ⟨H8, I8, q8⟩ => ?_
        have fin : ∀ {s9 : Shared} {σ9 : St} {H9 : Hp}, Inv Xc ([] ++ pinsAt fp s6.heap) σ9 H9 s9 → N σ9 H9 → ∃ m, m < n ∧ ∃ i σ' H', Inv Xc [] σ' H' s9 ∧ tn i s9.heap ∧ (∀ b ∈ fp, H' b = none) ∧ W i m σ' H' := fun {s9 σ9 H9} I9 n9 => by
          obtain ⟨m', hm, w9⟩ := hN σ9 H9 n9
          refine ⟨m', hm, i + 1, σ9, H9, I9.unpinned, T.keep _ _ _ st6 fun b hb o e => (I9.pin (b, o) (List.mem_append_right _ (List.mem_append_right _ (mem_pinsAt hb e)))).1, fun b hb => ?_, w9⟩
          obtain ⟨o, e, d⟩ := T.obj _ _ st6 b hb
          exact (I9.pin (b, o) (List.mem_append_right _ (List.mem_append_right _ (mem_pinsAt hb e)))).2.1
        cases ok with
        | false =>
          rw [if_neg Bool.false_ne_true] at q8 ⊢
          exact fin I8 q8
        | true =>
          rw [if_pos rfl] at q8 ⊢
          have q3 := helt _ s8 σ7 H8 _ I8 q8
          rw [e1, ew, ea, ex, ee] at q3
          refine thn q3 fun y s9 ⟨v9, H9, I9, r9, xs, hxs, hlen, q9⟩ => ?_
          have q4 := mt_append _ s9 σ7 H9 (.ref s2.heap.objs.size) [v9] (.ref s2.heap.objs.size) [y] (fun _ H10 => H10 = upd H9 s2.heap.objs.size (.lst (xs ++ [v9]))) I9 rfl (.cons r9 .nil) ⟨_, xs, v9, rfl, rfl, hxs, hlen, rfl⟩
          rw [e1, ew, ea, ex] at q4
          refine thn q4 fun _ s10 ⟨_, H10, I10, _, e10⟩ => ?_
          subst e10
          exact fin I10 q9
    · by_cases hbd : b = s2.heap.objs.size
      · exact absurd (fpo b hb) (by rw [hbd]; exact Nat.lt_irrefl _)
      · rw [upd_ne hbd]
        exact (f2 b hb).1
  exact codeAny_compStart_list (loop _ (I3 _) st3) (T.self _ 0 _ _ _ st3 (loop _ (I3 _) st3))
theorem pe_comp (hc : X.calm = true) (hi : PI X tg iter wi) (S : CompSc X Nc js scope)
    (hb : ∀ pins fp H s C, PG (cxComp X Nc scope pins fp H s C) tg g ∧ PIfs (cxComp X Nc scope pins fp H s C) ifs tc ∧ PE (cxComp X Nc scope pins fp H s C) elt te)
    (hs : ∀ x, foldedSetIterable iter X.env x = pure x := by intro _; rfl) :
    PE X (.ListComp elt [⟨tg, iter, ifs, 0⟩] scope pos) (tComp js wi g tc te) := by
  intro pins s σ H Q I h
  rw [eval_ListComp]
  have hcl : ∀ y ∈ scope.names, y.2 = .free → ∃ c, X.env.cells.lookup y.1 = some c := fun y hy e => I.ok.has y.1 (S.free y hy e)
  refine wpAny_comprehension_free (use := none) rfl hs (closure_of hcl) S.kind S.names (thn (hi pins s σ H _ I h) fun v s1 h1 => thn h1 fun itv s2 h2 => ?_)
  obtain ⟨it, fp, tn, J, H2, e, I2, T, st2, f2, h2⟩ := h2
  subst e
  have hDn : H2 s2.heap.objs.size = none := I2.hok.fresh (Nat.le_refl _)
  refine comp_block (RR := fun acc C => compPost (model X.prog X.w) X.A X.xe none (EP X pins σ Q) acc C) (Qd := fun H' => Q (.ref s2.heap.objs.size) H') hc S hb I2 T st2 f2 (h2 s2.heap.objs.size hDn) fun C σ' H' s' hC J' q => ?_
  obtain ⟨mm, hm, _⟩ := J'.loc
  exact ⟨mm, hm, fun h' hs' => ⟨.ref s2.heap.objs.size, H', inv_out I2 f2 hC J' hs', rfl, q⟩⟩
theorem ps_setC {i : Nat} {y : Str} {py spos : Pos} (hc : X.calm = true) (hN : X.N.Nodup) (hiN : X.N[i]? = some y) (hy : X.env.scope.names.lookup y = some .local) (hi : PI X tg iter wi) (S : CompSc X Nc js scope)
    (hb : ∀ pins fp H s C, PG (cxComp X Nc scope pins fp H s C) tg g ∧ PIfs (cxComp X Nc scope pins fp H s C) ifs tc ∧ PE (cxComp X Nc scope pins fp H s C) elt te)
    (hsw : swapsWith (.ListComp elt [⟨tg, iter, ifs, 0⟩] scope pos) (some (.Name y py)) spos.line X.env = pure true := by rfl)
    (hs : ∀ x, foldedSetIterable iter X.env x = pure x := by intro _; rfl) :
    PS X (.Assign [.Name y py] (.ListComp elt [⟨tg, iter, ifs, 0⟩] scope pos) spos) (tAsg (tComp js wi g tc te) (gName i)) := by
  intro pins s σ H D I h
  rw [exec_Assign_Name_used _ _ _ _ hsw]
  have hcl : ∀ y ∈ scope.names, y.2 = .free → ∃ c, X.env.cells.lookup y.1 = some c := fun y hy e => I.ok.has y.1 (S.free y hy e)
  refine wpAny_bind (wpAny_standAt (wpAny_bind ?_))
  show wpAny _ X.A (do let _ ← comprehension (.ListComp elt [⟨tg, iter, ifs, 0⟩] scope pos) scope X.env _ (newList []) false (eval iter X.env) (some (assign (.Name y py) X.env))) _ _ s
  refine wpAny_bind (wpAny_mono (wpAny_comprehension_free (use := some (assign (.Name y py) X.env)) (Q := fun _ s' => SP X pins D .next s') rfl hs (closure_of hcl) S.kind S.names
    (thn (hi pins s σ H _ I h) fun v s1 h1 => thn h1 fun itv s2 h2 => ?_)) (fun _ s' hq => wpAny_pure (wpAny_pure hq)) fun _ _ e => e)
  obtain ⟨it, fp, tn, J, H2, e, I2, T, st2, f2, h2⟩ := h2
  subst e
  have hDn : H2 s2.heap.objs.size = none := I2.hok.fresh (Nat.le_refl _)
  refine comp_block (RR := fun acc C => compPost (model X.prog X.w) X.A X.xe (some (assign (.Name y py) X.env)) (fun _ s' => SP X pins D .next s') acc C) (Qd := fun H' => D.nx (σ.set i (some (.ref s2.heap.objs.size))) H') hc S hb I2 T st2 f2 (h2 s2.heap.objs.size hDn) fun C σ' H' s' hC J' q => ?_
  have Iy : Inv X pins σ H' s' := inv_out (h' := s'.heap) I2 f2 hC J' (Heap.SameBut.refl _ _)
  obtain ⟨mm, hm, _⟩ := J'.loc
  have hm : s'.heap.Ns C mm := hm
  show wpAny _ X.A (assign (.Name y py) X.env (.ref s2.heap.objs.size)) _ _ s'
  have sz : X.s₀.heap.objs.size ≤ C := Nat.le_of_lt (Nat.lt_of_le_of_lt I2.sz hC)
  have neL : C ≠ X.env.locals := Nat.ne_of_gt (Nat.lt_trans I2.lt hC)
  have neC : ∀ x c, X.env.cells.lookup x = some c → c ≠ C := fun x c e => by
    obtain ⟨v, z⟩ := I2.cell x c e
    exact Nat.ne_of_lt (Nat.lt_trans z.lt hC)
  refine wpAny_assign_Name (store_ok2 Iy hN hiN (.inl hy) (v := .ref s2.heap.objs.size) rfl (fun s'' I'' ⟨a, hsb, ha⟩ => ?_) (.inr hy))
  have neA : C ≠ a := by
    rcases ha with z | z
    · rw [z]; exact neL
    · exact Ne.symm (neC _ _ z)
  refine ⟨mm, hm.sameBut hsb neA, fun h' hs' => ?_⟩
  have hCn : H' C = none := J'.free
  refine ⟨σ.set i (some (.ref s2.heap.objs.size)), H', ?_, q⟩
  refine I''.turned (it := C) (t' := s''.toks) (fun b o hb e => (hs'.2 b hb).trans e) hCn neL (.inr sz) neC fun p hp => ?_
  exact Nat.ne_of_lt (Nat.lt_trans (Heap.lt_size (I2.pin p hp).1) hC)
end
def compChk (N : List Str) (sc : Scope) (Nc : List Str) (js : List (Option Nat)) (scope : Scope) : Bool :=
  decide (js.length = Nc.length) && (scope.kind == .function) && scope.names.all (fun y => y.2 != .cell) && scope.names.all (fun y => y.2 != .local || scope.names.lookup y.1 == some .local) &&
  scope.names.all (fun y => y.2 != .free || sc.names.lookup y.1 == some .cell || sc.names.lookup y.1 == some .free) &&
  (List.range Nc.length).all (fun i => match js[i]?, Nc[i]? with | some (some j), some x => N[j]? == some x && scope.names.lookup x == some .free | _, _ => true)
theorem compSc_of {X : Cx} {Nc : List Str} {js : List (Option Nat)} {scope : Scope} {N : List Str} {sc : Scope} (hN : X.N = N) (hs : X.env.scope = sc) (h : compChk N sc Nc js scope = true) : CompSc X Nc js scope := by
  unfold compChk at h
  simp only [Bool.and_eq_true, decide_eq_true_eq, List.all_eq_true, Bool.or_eq_true, bne_iff_ne, ne_eq, beq_iff_eq] at h
  obtain ⟨⟨⟨⟨⟨h1, h2⟩, h3⟩, h4⟩, h5⟩, h6⟩ := h
  refine ⟨h2, fun y hy => h3 y hy, fun y hy e => ?_, fun y hy e => ?_, fun i x j e1 e2 => ?_, h1⟩
  · rcases h4 y hy with z | z
    · exact absurd e z
    · exact z
  · rcases h5 y hy with (z | z) | z
    · exact absurd e z
    · exact .inl (by show X.env.scope.names.lookup y.1 = _; rw [hs]; exact z)
    · exact .inr (by show X.env.scope.names.lookup y.1 = _; rw [hs]; exact z)
  · have hi : i < Nc.length := (List.getElem?_eq_some_iff.mp e1).1
    have q := h6 i (List.mem_range.mpr hi)
    rw [e1, e2] at q
    simp only [Bool.and_eq_true, beq_iff_eq] at q
    rw [hN]
    exact q
def isB (T c : String) : Bool := T == c || (T == "bool" && c == "int")
theorem kit_isB (K : PySem.W.Frag) : ∀ T ∈ ["NoneType", "bool", "int", "str", "list", "tuple"], ∀ c ∈ ["bool", "int", "str", "list", "tuple"], PySem.W.kitOne K (.type T) (.type c) = some (isB T c) := by
  intro T hT c hc
  simp only [List.mem_cons, List.not_mem_nil, or_false] at hT hc
  rcases hT with rfl | rfl | rfl | rfl | rfl | rfl <;> rcases hc with rfl | rfl | rfl | rfl | rfl <;> rfl
section
variable {X : Cx}
theorem bools_are : ∀ {bs : List Bool} {us : List Value}, Vals (bs.map V.bl) us → ∀ (i : Nat) (v : Value), us[i]? = some v → ∃ b, bs[i]? = some b ∧ v = .bool b
  | [], _, .nil, i, v, h => by simp at h
  | b :: bs, _, .cons r t, 0, v, h => by
    simp at h; subst h
    exact ⟨b, rfl, r⟩
  | b :: bs, _, .cons r t, i + 1, v, h => by
    obtain ⟨b', e, q⟩ := bools_are (bs := bs) t i v (by simpa using h)
    exact ⟨b', by simpa using e, q⟩
theorem call_allB (hc : X.calm = true) : CallR X (.builtin "all") (fun xs H Q => ∃ (p : Addr) (bs : List Bool), xs = [.ref p] ∧ SqL X.K H p (bs.map V.bl) ∧ Q (.bl (bs.all id)) H) := by
  intro pins s σ H xs us Q I r h
  obtain ⟨p, bs, rfl, hp, q⟩ := h
  obtain ⟨u, rfl, ru⟩ := vals1 r
  cases (show u = Value.ref p from ru)
  obtain ⟨its, hv, pl, hz⟩ := I.list hp
  have hl := pl.isList
  have hlt : p < s.heap.objs.size := by obtain ⟨_, e, _⟩ := id hl; exact Heap.lt_size e
  refine call_all_walk (wpAny_pyIter_list hl ?_)
  refine ⟨s.heap.objs.size, [s.heap.objs.size, p], [s.heap.objs.size], its.toArray.size, _, _, fun i => (bs[i]?).getD true, rfl, Walks.list (A := X.A.in1) (I.ok.hd hc) _ p (Nat.ne_of_lt hlt) its.toArray,
    ⟨⟨_, Heap.get?_push_size _ rfl, rfl, rfl⟩, hl.push _⟩, fun i v s' Q' E' hP hQ => ?_, fun h' tk hk => ?_⟩
  · obtain ⟨b, e, rfl⟩ := bools_are hv i v (by simpa using hP)
    simp only [e, Option.getD_some] at hQ
    exact wpAny_truthy_bool hQ
  · have e : ((List.range its.toArray.size).all fun i => (bs[i]?).getD true) = bs.all id := by
      rw [List.size_toArray, ← hv.length, List.length_map]; exact LSm.range_all bs
    rw [e]
    exact ⟨.bl _, H, I.kept (t' := tk) (LSm.kept_iter hk), rfl, q⟩
theorem op_mulB : OpR X (binaryOp .Mult) (rI IntMulOk fun i j => .int (i * j)) := opI fun _ _ _ _ _ _ _ hc q => mul_int q hc
end
theorem bt_int : bootBuiltins "int" = some (.type "int") := by decide +kernel
theorem bt_bool : bootBuiltins "bool" = some (.type "bool") := by decide +kernel
theorem bt_tuple : bootBuiltins "tuple" = some (.type "tuple") := by decide +kernel
theorem bt_len : bootBuiltins "len" = some (.builtin "len") := by decide +kernel
theorem bt_isinstance : bootBuiltins "isinstance" = some (.builtin "isinstance") := by decide +kernel
theorem bt_all : bootBuiltins "all" = some (.builtin "all") := by decide +kernel
theorem bt_abs : bootBuiltins "abs" = some (.builtin "abs") := by decide +kernel
theorem bt_min : bootBuiltins "min" = some (.builtin "min") := by decide +kernel
theorem bt_max : bootBuiltins "max" = some (.builtin "max") := by decide +kernel
section
variable {X : Cx} {pos : Pos}
theorem pty_int (hg : Gl X "int") (hm : X.mg "int" = none) : PE X (.Name "int" pos) (tC (.ty "int")) := pe_bltn (v := .ty "int") hg hm bt_int rfl
theorem pty_bool (hg : Gl X "bool") (hm : X.mg "bool" = none) : PE X (.Name "bool" pos) (tC (.ty "bool")) := pe_bltn (v := .ty "bool") hg hm bt_bool rfl
theorem pe_gint {x : Str} {i : Int} (hg : Gl X x) (hm : ∃ tk, X.mg x = some (.int i tk)) (hd : (x == ("__debug__" : Str)) = false := by decide) : PE X (.Name x pos) (tC (.int i)) := by
  obtain ⟨tk, hm⟩ := hm
  exact pe_glob (v := .int i) hg hm ⟨tk, rfl⟩ hd
end
def plainE : Expr → Bool
  | .Starred .. => false
  | _ => true
theorem star_plain {e : Expr} {es : List Expr} {env : Env} (h : plainE e = true) : starEach (e :: es) env = (false, eval e env) :: starEach es env := by
  cases e <;> first | (cases h; done) | rfl
theorem star_any {pos : Pos} {env : Env} : ∀ {es : List Expr}, es.all plainE = true → (backTo pos (starEach es env)).any (·.1) = false
  | [], _ => rfl
  | e :: es, h => by
    rw [List.all_cons, Bool.and_eq_true] at h
    have ih := star_any (pos := pos) (env := env) (es := es) h.2
    rw [star_plain h.1]
    exact ih
section
variable {X : Cx} {e : Expr} {es : List Expr} {te : TE} {t : TA} {pos p : Pos} {x : Str} {id T : String} {r : List V → Hp → VK → Prop}
theorem pac (hs : plainE e = true) (ha : PE X e te) (hr : PA X es t) : PA X (e :: es) (tCons te t) := pa_cons ha hr (star_plain hs)
theorem pcb (hp : (e :: es).all plainE = true) (hn : x ≠ "__name__") (hdb : (x == ("__debug__" : Str)) = false) (hc : CallR X (.builtin id) r) (hg : Gl X x) (hm : X.mg x = none) (hv : bootBuiltins x = some (.builtin id)) (ha : PA X (e :: es) t) :
    PE X (.Call (.Name x p) (e :: es) [] pos) (tCB r t) := by
  rw [List.all_cons, Bool.and_eq_true] at hp
  exact pe_callB hc hg hm hv ha hn hdb (star_plain hp.1) (star_any hp.2)
theorem pct (hp : (e :: es).all plainE = true) (hn : x ≠ "__name__") (hdb : (x == ("__debug__" : Str)) = false) (hc : CallR X (.type T) r) (hg : Gl X x) (hm : X.mg x = none) (hv : bootBuiltins x = some (.type T)) (ha : PA X (e :: es) t) :
    PE X (.Call (.Name x p) (e :: es) [] pos) (tCB r t) := by
  rw [List.all_cons, Bool.and_eq_true] at hp
  exact pe_callTy hc hg hm hv ha hn hdb (star_plain hp.1) (star_any hp.2)
variable {CX : CXT} {k : Nat} {f : Addr} {fd : FuncData} {ps : List Str} {sp : Sp} {ds : List Value} {dvs : List V} {E : XK}
theorem pcl (hp : (e :: es).all plainE = true) (hdb : (x == ("__debug__" : Str)) = false) (F : FnOk X.prog X.w X.K X.mg X.base CX k f fd ps sp) (hr : Room k X.A) (hg : Gl X x) (hm : X.mg x = some (.ref f)) (hk : PySem.W.keepIn X.K (.ref f) = true) (hb : Binds X.K fd ps ds) (hd : Vals dvs ds) (hx : Passes CX X E)
    (ha : PA X (e :: es) t) : PE X (.Call (.Name x p) (e :: es) [] pos) (tCall sp dvs E t) := by
  rw [List.all_cons, Bool.and_eq_true] at hp
  exact pe_call F hr hg hm hk hb hd hx ha hdb (star_plain hp.1) (star_any hp.2)
end
section
variable {X : Cx} {e : Expr} {es : List Expr} {te : TE} {pos p pos' : Pos} {x : Str} {i : Nat}
theorem xrange1 {tg a : Expr} {ta : TA} (hp : plainE a = true) (hg : Gl X "range") (hm : X.mg "range" = none) (ha : PA X [a] ta) : PI X tg (.Call (.Name "range" p) [a] [] pos) (iRng1 ta) := pi_range1 hg hm ha (star_plain hp)
theorem xrange2 {tg a b : Expr} {ta : TA} (hp : plainE a = true) (hp2 : plainE b = true) (hg : Gl X "range") (hm : X.mg "range" = none) (ha : PA X [a, b] ta) : PI X tg (.Call (.Name "range" p) [a, b] [] pos) (iRng2 ta) :=
  pi_range2 hg hm ha (by rw [star_plain hp, star_plain hp2]; rfl) (by rw [star_plain hp2]; rfl)
end
theorem Same.new {H : Hp} {a : Addr} {o : HO} (h : H a = none) : Same H (upd H a o) := fun b u e => by rw [upd_ne (ne_of_none e h)]; exact e
theorem small_line {n : Nat} (h : n ≤ 1000) : n ≤ sizeLine := Nat.le_of_lt (small1000 h)
structure WE (X : Cx) (e : Expr) (t : TE) : Prop where
  h : PE X e t
structure WA (X : Cx) (es : List Expr) (t : TA) : Prop where
  h : PA X es t
theorem range_min (m n : Nat) (p : Nat → Bool) : ((List.range (min (m + 1) (n + 1))).all p) = (p 0 && (List.range (min m n)).all fun j => p (j + 1)) := by
  rw [Nat.add_min_add_right, List.range_succ_eq_map, List.all_cons, List.all_map]
  rfl
section
variable {X : Cx} {pins : List (Addr × Obj)} {σ : St} {H : Hp} {s : Shared}
theorem Vals.get2 {xs : List V} {us : List Value} {j : Nat} {u : Value} (r : Vals xs us) (e : us[j]? = some u) : ∃ x, xs[j]? = some x ∧ RelV x u := by
  have hl := r.length
  have hj : j < us.length := (List.getElem?_eq_some_iff.mp e).1
  have hx : xs[j]? = some (xs[j]'(by omega)) := List.getElem?_eq_getElem (by omega)
  obtain ⟨u', e', q⟩ := r.get hx
  rw [e] at e'; cases e'
  exact ⟨_, hx, q⟩
theorem arr_get {its : List Value} {j : Nat} (h : j < its.toArray.size) : its[j]? = some its.toArray[j] := by
  have h' : j < its.length := by simpa using h
  rw [List.getElem?_eq_getElem h']
  simp
end
section
variable {X : Cx}
theorem star_all {pos : Pos} {env : Env} : ∀ {es : List Expr}, es.all plainE = true → (backTo pos (starEach es env)).all (fun x => !x.1) = true
  | [], _ => rfl
  | e :: es, h => by
    rw [List.all_cons, Bool.and_eq_true] at h
    have ih := star_all (pos := pos) (env := env) (es := es) h.2
    rw [star_plain h.1]
    exact ih
variable {o e : Expr} {es : List Expr} {to : TE} {t : TA} {name : Str} {apos cpos : Pos} {T id : String} {r : V → List V → Hp → VK → Prop}
theorem wbm (hp : (e :: es).all plainE = true) (hlen : (e :: es).length < 29) (hline : (apos.endLine == cpos.line) = true) (hbase : attributeBase o name X.env (eval o X.env) = eval o X.env)
    (pa : PlainAttrs T) (slot : Slot T name id) (hty : typeOf (.builtin id) = pure (.type "method_descriptor")) (hm : MtR X id r) (ho : WE X o to) (ha : WA X (e :: es) t) : WE X (.Call (.Attribute o name apos) (e :: es) [] cpos) (tBM X.K T r to t) := by
  have hp' := hp
  rw [List.all_cons, Bool.and_eq_true] at hp'
  refine ⟨pe_bm pa slot hty hm ho.h ha.h hbase ?_ hline (star_plain hp'.1) (star_any hp'.2)⟩
  rw [star_all hp]
  simp only [keywordEach, backToKw, List.all_nil, Bool.true_and, decide_eq_true_eq, List.length_nil, List.isEmpty_nil, if_true]
  first
    | (simp only [List.map_nil, List.all_nil, Bool.true_and, decide_eq_true_eq]; omega)
    | omega
end
inductive D where
  | non | bl (b : Bool) | int (i : Int) | str (x : Str) | ty (n : String)
  | tup (l : List D) | lst (l : List D) | scr (ns : List Int) | dK (ks : List Key) (l : List D) | dT (ks : List (List Key)) (l : List D) | fz (o : Obj) (u : HO) | fK (o : Obj) (ks : List Key) (l : List D) | fT (o : Obj) (ks : List (List Key)) (l : List D) | t2 (l m : List D) (a b : Addr)
def ScrAt (K : PySem.W.Frag) (H : Hp) (a : Addr) (ns : List Int) : Prop := (∃ o, H a = some (.frz o (.lst (ns.map V.int)))) ∨
  ∃ (o : Obj) (its : Array Value) (n : Nat), K.lookup a = some o ∧ o.cls = .type "list" ∧ o.dict = none ∧ o.data = .seq its n ∧ its.size ≤ sizeLine ∧ Vals (ns.map V.int) its.toList
theorem ScrAt.sq {K : PySem.W.Frag} {H : Hp} {a : Addr} {ns : List Int} (h : ScrAt K H a ns) : SqL K H a (ns.map V.int) := by
  rcases h with ⟨o, h⟩ | h
  · exact .inl (.inr ⟨o, h⟩)
  · exact .inr h
section
variable (K : PySem.W.Frag) (S : Addr → Prop) (H : Hp)
mutual
def Rep : D → V → Prop
  | .non, v => v = .non
  | .bl b, v => v = .bl b
  | .int i, v => v = .int i
  | .str x, v => v = .str x
  | .ty n, v => v = .ty n
  | .tup l, v => ∃ a vs, v = .ref a ∧ SqT K H a vs ∧ Reps l vs
  | .lst l, v => ∃ a vs, v = .ref a ∧ ¬ S a ∧ Rd H a (.lst vs) ∧ Reps l vs
  | .scr ns, v => ∃ a, v = .ref a ∧ ScrAt K H a ns
  | .fz o u, v => ∃ a, v = .ref a ∧ H a = some (.frz o u)
  | .fK o ks l, v => ∃ a kvs, v = .ref a ∧ H a = some (.frz o (.dK kvs)) ∧ kvs.map (·.1) = ks ∧ Reps l (kvs.map (·.2))
  | .fT o ks l, v => ∃ a kvs, v = .ref a ∧ H a = some (.frz o (.dU kvs)) ∧ kvs.map (·.1) = ks ∧ (∀ e ∈ kvs, SqT K H e.2.1 (e.1.map kV)) ∧ Reps l (kvs.map (·.2.2))
  | .t2 l m a b, v => ∃ a0 vs, v = .ref a0 ∧ a0 = a ∧ SqT K H a vs ∧ Reps l vs ∧ ∃ ws, SqT K H b ws ∧ Reps m ws
  | .dK ks l, v => ∃ a kvs, v = .ref a ∧ ¬ S a ∧ Rd H a (.dK kvs) ∧ kvs.map (·.1) = ks ∧ Reps l (kvs.map (·.2))
  | .dT ks l, v => ∃ a kvs, v = .ref a ∧ ¬ S a ∧ Rd H a (.dU kvs) ∧ kvs.map (·.1) = ks ∧ (∀ e ∈ kvs, SqT K H e.2.1 (e.1.map kV)) ∧ Reps l (kvs.map (·.2.2))
def Reps : List D → List V → Prop
  | [], vs => vs = []
  | d :: ds, vs => ∃ v r, vs = v :: r ∧ Rep d v ∧ Reps ds r
end
def Own : Nat → List Addr → D → V → Prop
  | 0, fp, d, v => fp = [] ∧ Rep K S H d v
  | n + 1, fp, d, v => ∃ (a : Addr) (fps : List (List Addr)), v = .ref a ∧ fp = a :: fps.flatten ∧ (
      (∃ l vs, d = .lst l ∧ H a = some (.lst vs) ∧ fps.length = l.length ∧ vs.length = l.length ∧ ∀ (i : Nat) (f : List Addr) (x : D) (u : V), fps[i]? = some f → l[i]? = some x → vs[i]? = some u → Own n f x u) ∨
      (∃ ks l kvs, d = .dK ks l ∧ H a = some (.dK kvs) ∧ kvs.map (·.1) = ks ∧ fps.length = l.length ∧ kvs.length = l.length ∧ ∀ (i : Nat) (f : List Addr) (x : D) (u : V), fps[i]? = some f → l[i]? = some x → (kvs.map (·.2))[i]? = some u → Own n f x u) ∨
      (∃ ks l kvs, d = .dT ks l ∧ H a = some (.dU kvs) ∧ (kvs.map (·.1) = ks ∧ ∀ e ∈ kvs, SqT K H e.2.1 (e.1.map kV)) ∧ fps.length = l.length ∧ kvs.length = l.length ∧ ∀ (i : Nat) (f : List Addr) (x : D) (u : V), fps[i]? = some f → l[i]? = some x → (kvs.map (·.2.2))[i]? = some u → Own n f x u))
end
def isM : HO → Prop
  | .lst _ => True
  | .dK _ => True
  | .dU _ => True
  | _ => False
def uni (S O : Addr → Prop) : Addr → Prop := fun a => S a ∨ O a
structure Step (O O' : Addr → Prop) (H H' : Hp) : Prop where
  keep : ∀ b o, ¬ O b → H b = some o → H' b = some o
  own : ∀ a, O' a → O a ∨ H a = none
  dom : ∀ b, H b ≠ none → H' b ≠ none
theorem Step.refl (O : Addr → Prop) (H : Hp) : Step O O H H := ⟨fun _ _ _ h => h, fun _ h => .inl h, fun _ h => h⟩
theorem Step.trans {O O1 O2 : Addr → Prop} {H H1 H2 : Hp} (a : Step O O1 H H1) (b : Step O1 O2 H1 H2) : Step O O2 H H2 := by
  refine ⟨fun c o n h => b.keep c o (fun z => ?_) (a.keep c o n h), fun c z => ?_, fun c h => b.dom c (a.dom c h)⟩
  · rcases a.own c z with q | q
    · exact n q
    · rw [q] at h; cases h
  · rcases b.own c z with q | q
    · exact a.own c q
    · right
      cases e : H c with
      | none => rfl
      | some o => exact absurd q (a.dom c (by rw [e]; simp))
theorem Step.of_same {O : Addr → Prop} {H H' : Hp} (h : Same H H') : Step O O H H' := ⟨fun b o _ e => h b o e, fun _ z => .inl z, fun b e => by
  cases q : H b with
  | none => exact absurd q e
  | some o => rw [h b o q]; simp⟩
theorem Rd.some {H : Hp} {a : Addr} {u : HO} (h : Rd H a u) : ∃ o, H a = some o := by
  rcases h with h | ⟨o, h⟩ <;> exact ⟨_, h⟩
section
variable {K : PySem.W.Frag} {S S' : Addr → Prop} {H H' : Hp}
structure Goes (S S' : Addr → Prop) (H H' : Hp) : Prop where
  tup : ∀ a xs, Rd H a (.tup xs) → Rd H' a (.tup xs)
  obj : ∀ a u, ¬ S a → Rd H a u → Rd H' a u ∧ ¬ S' a
  frz : ∀ a o u, H a = some (.frz o u) → H' a = some (.frz o u)
mutual
theorem Rep.go (g : Goes S S' H H') : ∀ (d : D) (v : V), Rep K S H d v → Rep K S' H' d v
  | .non, v, h => by simpa only [Rep] using h
  | .bl b, v, h => by simpa only [Rep] using h
  | .int i, v, h => by simpa only [Rep] using h
  | .str x, v, h => by simpa only [Rep] using h
  | .ty n, v, h => by simpa only [Rep] using h
  | .tup l, v, h => by
    simp only [Rep] at h ⊢
    obtain ⟨a, vs, e, q, r⟩ := h
    refine ⟨a, vs, e, ?_, Reps.go g l vs r⟩
    rcases q with q | q
    · exact .inl (g.tup _ _ q)
    · exact .inr q
  | .lst l, v, h => by
    simp only [Rep] at h ⊢
    obtain ⟨a, vs, e, n, q, r⟩ := h
    obtain ⟨q1, q2⟩ := g.obj _ _ n q
    exact ⟨a, vs, e, q2, q1, Reps.go g l vs r⟩
  | .t2 l m a b, v, h => by
    simp only [Rep] at h ⊢
    obtain ⟨a0, vs, e1, e2, q1, r1, ws, q2, r2⟩ := h
    refine ⟨a0, vs, e1, e2, ?_, Reps.go g l vs r1, ws, ?_, Reps.go g m ws r2⟩
    · rcases q1 with q | q
      · exact .inl (g.tup _ _ q)
      · exact .inr q
    · rcases q2 with q | q
      · exact .inl (g.tup _ _ q)
      · exact .inr q
  | .fz o u, v, h => by
    simp only [Rep] at h ⊢
    obtain ⟨a, e, q⟩ := h
    exact ⟨a, e, g.frz _ _ _ q⟩
  | .fK o ks l, v, h => by
    simp only [Rep] at h ⊢
    obtain ⟨a, vs, e, q, k, r⟩ := h
    exact ⟨a, vs, e, g.frz _ _ _ q, k, Reps.go g l _ r⟩
  | .fT o ks l, v, h => by
    simp only [Rep] at h ⊢
    obtain ⟨a, vs, e, q, k, z, r⟩ := h
    refine ⟨a, vs, e, g.frz _ _ _ q, k, fun e he => ?_, Reps.go g l _ r⟩
    rcases z e he with w | w
    · exact .inl (g.tup _ _ w)
    · exact .inr w
  | .scr ns, v, h => by
    simp only [Rep] at h ⊢
    obtain ⟨a, e, q⟩ := h
    refine ⟨a, e, ?_⟩
    rcases q with ⟨o, q⟩ | q
    · exact .inl ⟨o, g.frz _ _ _ q⟩
    · exact .inr q
  | .dK ks l, v, h => by
    simp only [Rep] at h ⊢
    obtain ⟨a, vs, e, n, q, k, r⟩ := h
    obtain ⟨q1, q2⟩ := g.obj _ _ n q
    exact ⟨a, vs, e, q2, q1, k, Reps.go g l _ r⟩
  | .dT ks l, v, h => by
    simp only [Rep] at h ⊢
    obtain ⟨a, vs, e, n, q, k, z, r⟩ := h
    obtain ⟨q1, q2⟩ := g.obj _ _ n q
    refine ⟨a, vs, e, q2, q1, k, fun e he => ?_, Reps.go g l _ r⟩
    rcases z e he with w | w
    · exact .inl (g.tup _ _ w)
    · exact .inr w
theorem Reps.go (g : Goes S S' H H') : ∀ (l : List D) (vs : List V), Reps K S H l vs → Reps K S' H' l vs
  | [], vs, h => by simpa only [Reps] using h
  | d :: l, vs, h => by
    simp only [Reps] at h ⊢
    obtain ⟨v, r, e, h1, h2⟩ := h
    exact ⟨v, r, e, Rep.go g d v h1, Reps.go g l r h2⟩
end
theorem Goes.same (h : Same H H') : Goes S S H H' := by
  refine ⟨fun a xs q => ?_, fun a u n q => ⟨?_, n⟩, fun a o u q => h _ _ q⟩ <;>
  · rcases q with q | ⟨o, q⟩
    · exact .inl (h _ _ q)
    · exact .inr ⟨o, h _ _ q⟩
theorem Goes.less (h : ∀ a, S' a → S a) : Goes S S' H H := ⟨fun _ _ q => q, fun a _ n q => ⟨q, fun z => n (h a z)⟩, fun _ _ _ q => q⟩
theorem Goes.step {S0 O O' : Addr → Prop} (hm : ∀ a, O a → ∃ o, H a = some o ∧ isM o) (s : Step O O' H H') : Goes (uni S0 O) (uni S0 O') H H' := by
  refine ⟨fun a xs q => ?_, fun a u n q => ?_, fun a o u q => s.keep _ _ (fun z => by obtain ⟨o', e, m⟩ := hm a z; rw [q] at e; cases e; exact m) q⟩
  · have nO : ¬ O a := fun z => by
      obtain ⟨o, e, m⟩ := hm a z
      rcases q with q | ⟨o', q⟩ <;> (rw [q] at e; cases e; exact m)
    rcases q with q | ⟨o, q⟩
    · exact .inl (s.keep _ _ nO q)
    · exact .inr ⟨o, s.keep _ _ nO q⟩
  · have nO : ¬ O a := fun z => n (.inr z)
    refine ⟨?_, fun z => ?_⟩
    · rcases q with q | ⟨o, q⟩
      · exact .inl (s.keep _ _ nO q)
      · exact .inr ⟨o, s.keep _ _ nO q⟩
    · rcases z with z | z
      · exact n (.inl z)
      · rcases s.own a z with w | w
        · exact nO w
        · obtain ⟨o, e⟩ := q.some; rw [w] at e; cases e
theorem Goes.fresh {p : Addr} {o : HO} (hp : H p = none) : Goes S (uni S (· = p)) H (upd H p o) := by
  refine ⟨fun a xs q => ?_, fun a u n q => ?_, fun a o u q => by rw [upd_ne (ne_of_none q hp)]; exact q⟩
  · obtain ⟨_, e⟩ := q.some
    have ne : a ≠ p := by rintro rfl; rw [hp] at e; cases e
    rcases q with q | ⟨o, q⟩
    · exact .inl (by rw [upd_ne ne]; exact q)
    · exact .inr ⟨o, by rw [upd_ne ne]; exact q⟩
  · obtain ⟨_, e⟩ := q.some
    have ne : a ≠ p := by rintro rfl; rw [hp] at e; cases e
    refine ⟨?_, fun z => z.elim n ne⟩
    rcases q with q | ⟨o, q⟩
    · exact .inl (by rw [upd_ne ne]; exact q)
    · exact .inr ⟨o, by rw [upd_ne ne]; exact q⟩
theorem Goes.upd {p : Addr} {o o' : HO} (hp : H p = some o') (m : isM o') (hS : S p) : Goes S S H (upd H p o) := by
  refine ⟨fun a xs q => ?_, fun a u n q => ⟨?_, n⟩, fun a o u q => by rw [upd_ne (by rintro rfl; rw [hp] at q; cases q; exact m)]; exact q⟩
  · have ne : a ≠ p := by rintro rfl; rcases q with q | ⟨_, q⟩ <;> (rw [hp] at q; cases q; exact m)
    rcases q with q | ⟨o, q⟩
    · exact .inl (by rw [upd_ne ne]; exact q)
    · exact .inr ⟨o, by rw [upd_ne ne]; exact q⟩
  · have ne : a ≠ p := by rintro rfl; exact n hS
    rcases q with q | ⟨o, q⟩
    · exact .inl (by rw [upd_ne ne]; exact q)
    · exact .inr ⟨o, by rw [upd_ne ne]; exact q⟩
theorem Own.go (g : Goes S S' H H') : ∀ (n : Nat) (fp : List Addr) (d : D) (v : V), (∀ a ∈ fp, ∀ o, H a = some o → H' a = some o) → Own K S H n fp d v → Own K S' H' n fp d v
  | 0, fp, d, v, _, h => by
    simp only [Own] at h ⊢
    exact ⟨h.1, Rep.go g d v h.2⟩
  | n + 1, fp, d, v, hk, h => by
    simp only [Own] at h ⊢
    obtain ⟨a, fps, rfl, rfl, h⟩ := h
    have sub : ∀ (i : Nat) (f : List Addr), fps[i]? = some f → ∀ b ∈ f, ∀ o, H b = some o → H' b = some o := fun i f e b hb => hk b (List.mem_cons_of_mem _ (List.mem_flatten.mpr ⟨f, List.mem_of_getElem? e, hb⟩))
    refine ⟨a, fps, rfl, rfl, ?_⟩
    rcases h with ⟨l, vs, rfl, e, h1, h2, h3⟩ | ⟨ks, l, kvs, rfl, e, h0, h1, h2, h3⟩ | ⟨ks, l, kvs, rfl, e, h0, h1, h2, h3⟩
    · exact .inl ⟨l, vs, rfl, hk a (by simp) _ e, h1, h2, fun i f x u e1 e2 e3 => Own.go g n f x u (sub i f e1) (h3 i f x u e1 e2 e3)⟩
    · exact .inr (.inl ⟨ks, l, kvs, rfl, hk a (by simp) _ e, h0, h1, h2, fun i f x u e1 e2 e3 => Own.go g n f x u (sub i f e1) (h3 i f x u e1 e2 e3)⟩)
    · exact .inr (.inr ⟨ks, l, kvs, rfl, hk a (by simp) _ e, ⟨h0.1, fun e he => (h0.2 e he).imp (g.tup _ _) id⟩, h1, h2, fun i f x u e1 e2 e3 => Own.go g n f x u (sub i f e1) (h3 i f x u e1 e2 e3)⟩)
theorem Reps.of_all : ∀ (l : List D) (vs : List V), vs.length = l.length → (∀ (i : Nat) (x : D) (u : V), l[i]? = some x → vs[i]? = some u → Rep K S H x u) → Reps K S H l vs
  | [], vs, h, _ => by simp only [Reps]; exact List.length_eq_zero_iff.mp (by simpa using h)
  | d :: l, [], h, _ => by simp at h
  | d :: l, v :: r, h, q => by
    simp only [Reps]
    exact ⟨v, r, rfl, q 0 d v rfl rfl, Reps.of_all l r (by simpa using h) fun i x u e1 e2 => q (i + 1) x u (by simpa using e1) (by simpa using e2)⟩
theorem Reps.len : ∀ {l : List D} {vs : List V}, Reps K S H l vs → vs.length = l.length
  | [], vs, h => by simp only [Reps] at h; rw [h]; rfl
  | d :: l, vs, h => by
    simp only [Reps] at h
    obtain ⟨v, r, rfl, _, h⟩ := h
    simp [Reps.len h]
theorem Reps.get : ∀ {l : List D} {vs : List V} {i : Nat} {x : D}, Reps K S H l vs → l[i]? = some x → ∃ u, vs[i]? = some u ∧ Rep K S H x u
  | [], vs, i, x, h, e => by simp at e
  | d :: l, vs, 0, x, h, e => by
    simp only [Reps] at h
    obtain ⟨v, r, rfl, h1, _⟩ := h
    simp at e; subst e
    exact ⟨v, rfl, h1⟩
  | d :: l, vs, i + 1, x, h, e => by
    simp only [Reps] at h
    obtain ⟨v, r, rfl, _, h⟩ := h
    obtain ⟨u, e1, e2⟩ := Reps.get (i := i) h (by simpa using e)
    exact ⟨u, by simpa using e1, e2⟩
theorem Reps.get' {l : List D} {vs : List V} {i : Nat} {u : V} (h : Reps K S H l vs) (e : vs[i]? = some u) : ∃ x, l[i]? = some x ∧ Rep K S H x u := by
  have hi : i < l.length := by rw [← h.len]; exact (List.getElem?_eq_some_iff.mp e).1
  obtain ⟨u', e1, e2⟩ := h.get (List.getElem?_eq_getElem hi)
  rw [e] at e1; cases e1
  exact ⟨_, List.getElem?_eq_getElem hi, e2⟩
theorem Own.rep : ∀ (n : Nat) (fp : List Addr) (d : D) (v : V), (∀ a ∈ fp, ¬ S' a) → (∀ a, S' a → S a) → Own K S H n fp d v → Rep K S' H d v
  | 0, fp, d, v, _, hs, h => by
    simp only [Own] at h
    exact Rep.go (.less hs) d v h.2
  | n + 1, fp, d, v, hk, hs, h => by
    simp only [Own] at h
    obtain ⟨a, fps, rfl, rfl, h⟩ := h
    have sub : ∀ (i : Nat) (f : List Addr), fps[i]? = some f → ∀ b ∈ f, ¬ S' b := fun i f e b hb => hk b (List.mem_cons_of_mem _ (List.mem_flatten.mpr ⟨f, List.mem_of_getElem? e, hb⟩))
    have fget : ∀ {m : Nat} {i : Nat}, fps.length = m → i < m → ∃ f, fps[i]? = some f := fun e hi => ⟨_, List.getElem?_eq_getElem (by omega)⟩
    rcases h with ⟨l, vs, rfl, e, h1, h2, h3⟩ | ⟨ks, l, kvs, rfl, e, h0, h1, h2, h3⟩ | ⟨ks, l, kvs, rfl, e, h0, h1, h2, h3⟩
    · simp only [Rep]
      refine ⟨a, vs, rfl, hk a (by simp), .inl e, Reps.of_all l vs h2 fun i x u e2 e3 => ?_⟩
      obtain ⟨f, e1⟩ := fget h1 (List.getElem?_eq_some_iff.mp e2).1
      exact Own.rep n f x u (sub i f e1) hs (h3 i f x u e1 e2 e3)
    · simp only [Rep]
      refine ⟨a, kvs, rfl, hk a (by simp), .inl e, h0, Reps.of_all l _ (by simpa using h2) fun i x u e2 e3 => ?_⟩
      obtain ⟨f, e1⟩ := fget h1 (List.getElem?_eq_some_iff.mp e2).1
      exact Own.rep n f x u (sub i f e1) hs (h3 i f x u e1 e2 e3)
    · simp only [Rep]
      refine ⟨a, kvs, rfl, hk a (by simp), .inl e, h0.1, h0.2, Reps.of_all l _ (by simpa using h2) fun i x u e2 e3 => ?_⟩
      obtain ⟨f, e1⟩ := fget h1 (List.getElem?_eq_some_iff.mp e2).1
      exact Own.rep n f x u (sub i f e1) hs (h3 i f x u e1 e2 e3)
end
inductive SK where
  | cl | ow (n : Nat) | lo | io (n : Nat)
  deriving DecidableEq
def dep : SK → Option Nat
  | .ow n => some n
  | .io n => some n
  | _ => none
def kd (κ : List SK) (i : Nat) : SK := κ.getD i .cl
structure G0 where
  S0 : Addr → Prop
  O0 : Addr → Prop
  H0 : Hp
  ps : St
  gh : List (D × V)
abbrev EnvD := List (Option D)
def fpS (fp : List Addr) : Addr → Prop := fun a => a ∈ fp
def G0.plus (G : G0) (fp : List Addr) : G0 := { G with S0 := uni G.S0 (fpS fp) }
section
variable (K : PySem.W.Frag)
def SlotOk (S0 O : Addr → Prop) (H : Hp) (f : List Addr) : SK → D → V → Prop
  | .cl, d, v => Rep K (uni S0 O) H d v
  | .ow n, d, v => Own K (uni S0 O) H n f d v
  | .lo, d, v => Rep K S0 H d v
  | .io n, d, v => Own K (uni S0 O) H n f d v
structure EnvF (κ : List SK) (G : G0) (O : Addr → Prop) (ρ : EnvD) (σ : St) (H : Hp) (F : Nat → List Addr) : Prop where
  len : ρ.length = σ.length
  own : ∀ a, O a ↔ ∃ i, a ∈ F i
  non : ∀ i, dep (kd κ i) = none → F i = []
  dis : ∀ i j a, a ∈ F i → a ∈ F j → i = j
  nd : ∀ i, (F i).Nodup
  mu : ∀ i a, a ∈ F i → ¬ G.S0 a ∧ ∃ o, H a = some o ∧ isM o
  new : ∀ i a, a ∈ F i → ((∃ n, kd κ i = .io n) ∧ G.O0 a) ∨ G.H0 a = none
  par : ∀ i n, kd κ i = .io n → σ[i]? = G.ps[i]?
  gh : ∀ p ∈ G.gh, Rep K (uni G.S0 O) H p.1 p.2
  s0 : ∀ a, G.S0 a → H a ≠ none
  keep : ∀ b o, ¬ G.O0 b → G.H0 b = some o → H b = some o
  dom : ∀ b, G.H0 b ≠ none → H b ≠ none
  slot : ∀ i d, ρ[i]? = some (some d) → ∃ v, σ[i]? = some (some v) ∧ SlotOk K G.S0 O H (F i) (kd κ i) d v
def EnvOk (κ : List SK) (G : G0) (O : Addr → Prop) (ρ : EnvD) (σ : St) (H : Hp) : Prop := ∃ F, EnvF K κ G O ρ σ H F
def VOk (S0 O' : Addr → Prop) (H H' : Hp) (fp : List Addr) : SK → D → V → Prop
  | .cl, d, v => fp = [] ∧ Rep K (uni S0 O') H' d v
  | .lo, d, v => fp = [] ∧ Rep K S0 H' d v
  | .ow n, d, v => fp.Nodup ∧ (∀ a ∈ fp, H a = none ∧ ¬ O' a ∧ ∃ o, H' a = some o ∧ isM o) ∧ Own K (uni (uni S0 (fpS fp)) O') H' n fp d v
  | .io _, _, _ => False
abbrev DTE := EnvD → (D → EnvD → Prop) → Prop
abbrev DTT := EnvD → (Bool → EnvD → Prop) → Prop
abbrev DTA := EnvD → (List D → EnvD → Prop) → Prop
def Pu (pu : Bool) (ρ ρ' : EnvD) (O O' : Addr → Prop) (H H' : Hp) : Prop := pu = true → Same H H' ∧ ρ' = ρ ∧ O' = O
def tD (κ : List SK) (pu : Bool) (md : SK) (E : DTE) : TE := fun σ H Q => ∃ G O ρ q, EnvOk K κ G O ρ σ H ∧ E ρ q ∧
  ∀ v H' d ρ' O' fp, Step O O' H H' → EnvOk K κ (G.plus fp) O' ρ' σ H' → VOk K G.S0 O' H H' fp md d v → Pu pu ρ ρ' O O' H H' → q d ρ' → Q v H'
def tDT (κ : List SK) (pu : Bool) (E : DTT) : TT := fun σ H Q => ∃ G O ρ q, EnvOk K κ G O ρ σ H ∧ E ρ q ∧
  ∀ b H' ρ' O', Step O O' H H' → EnvOk K κ G O' ρ' σ H' → Pu pu ρ ρ' O O' H H' → q b ρ' → Q b H'
end
structure DE (X : Cx) (κ : List SK) (pu : Bool) (md : SK) (e : Expr) (E : DTE) : Prop where
  h : PE X e (tD X.K κ pu md E)
structure DT (X : Cx) (κ : List SK) (pu : Bool) (e : Expr) (E : DTT) : Prop where
  h : PT X e (tDT X.K κ pu E)
structure DW (X : Cx) (κ : List SK) (pu : Bool) (e : Expr) (E : DTT) : Prop where
  h : PW X e (tDT X.K κ pu E)
theorem PE.weak {X : Cx} {e : Expr} {t t' : TE} (h : PE X e t) (w : ∀ σ H Q, t' σ H Q → t σ H Q) : PE X e t' := fun pins s σ H Q I q => h pins s σ H Q I (w σ H Q q)
theorem PT.weak {X : Cx} {e : Expr} {t t' : TT} (h : PT X e t) (w : ∀ σ H Q, t' σ H Q → t σ H Q) : PT X e t' := fun pins s σ H Q I q => h pins s σ H Q I (w σ H Q q)
theorem PW.weak {X : Cx} {e : Expr} {t t' : TT} (h : PW X e t) (w : ∀ σ H Q, t' σ H Q → t σ H Q) : PW X e t' := fun wh pins s σ H Q I q => h wh pins s σ H Q I (w σ H Q q)
section
variable {K : PySem.W.Frag} {κ : List SK} {G : G0} {O O' : Addr → Prop} {ρ ρ' : EnvD} {σ : St} {H H' : Hp} {S0 : Addr → Prop}
theorem plus_nil (G : G0) : G.plus [] = G := by
  have e : uni G.S0 (fpS []) = G.S0 := by
    funext a
    simp [uni, fpS]
  unfold G0.plus
  rw [e]
theorem EnvOk.mutO (h : EnvOk K κ G O ρ σ H) : ∀ a, O a → ∃ o, H a = some o ∧ isM o := fun a z => by
  obtain ⟨F, f⟩ := h
  obtain ⟨i, hi⟩ := (f.own a).mp z
  exact (f.mu i a hi).2
theorem EnvOk.noS (h : EnvOk K κ G O ρ σ H) : ∀ a, O a → ¬ G.S0 a := fun a z => by
  obtain ⟨F, f⟩ := h
  obtain ⟨i, hi⟩ := (f.own a).mp z
  exact (f.mu i a hi).1
theorem EnvOk.s0 (h : EnvOk K κ G O ρ σ H) : ∀ a, G.S0 a → H a ≠ none := let ⟨_, f⟩ := h; f.s0
theorem EnvOk.drop {fp : List Addr} (h : EnvOk K κ (G.plus fp) O ρ σ H) : EnvOk K κ G O ρ σ H := by
  obtain ⟨F, f⟩ := h
  refine ⟨F, f.len, f.own, f.non, f.dis, f.nd, fun i a hi => ⟨fun z => (f.mu i a hi).1 (.inl z), (f.mu i a hi).2⟩, f.new, f.par, fun p hp => Rep.go (.less fun a z => z.elim (fun z => .inl (.inl z)) .inr) _ _ (f.gh p hp), fun a z => f.s0 a (.inl z), f.keep, f.dom, fun i d e => ?_⟩
  obtain ⟨v, e1, e2⟩ := f.slot i d e
  refine ⟨v, e1, ?_⟩
  have le : ∀ a, uni G.S0 O a → uni (uni G.S0 (fpS fp)) O a := fun a z => z.elim (fun z => .inl (.inl z)) .inr
  cases q : kd κ i with
  | cl => rw [q] at e2; exact Rep.go (.less le) d v e2
  | ow n => rw [q] at e2; exact Own.go (.less le) n _ d v (fun _ _ _ h => h) e2
  | io n => rw [q] at e2; exact Own.go (.less le) n _ d v (fun _ _ _ h => h) e2
  | lo => rw [q] at e2; exact Rep.go (.less fun a z => .inl z) d v e2
theorem EnvOk.same {fp : List Addr} (h : EnvOk K κ G O ρ σ H) (s : Same H H') (hf : ∀ a ∈ fp, H a = none ∧ H' a ≠ none) : EnvOk K κ (G.plus fp) O ρ σ H' := by
  obtain ⟨F, f⟩ := h
  have sn : ∀ b, H b ≠ none → H' b ≠ none := fun b hb => (Step.of_same (O := O) s).dom b hb
  have g : ∀ (S : Addr → Prop), Goes S (uni S (fpS fp)) H H' := fun S => by
    refine ⟨fun a xs q => (Goes.same (S := S) s).tup a xs q, fun a u n q => ⟨((Goes.same (S := S) s).obj a u n q).1, fun z => z.elim n fun z => ?_⟩, fun a o u q => s _ _ q⟩
    obtain ⟨o, e⟩ := q.some
    rw [(hf a z).1] at e; cases e
  have eq2 : ∀ a, uni (uni G.S0 O) (fpS fp) a ↔ uni (uni G.S0 (fpS fp)) O a := fun a => by simp only [uni]; constructor <;> (rintro ((h | h) | h) <;> simp [h])
  refine ⟨F, f.len, f.own, f.non, f.dis, f.nd, fun i a hi => ?_, f.new, f.par, fun p hp => Rep.go (.less fun a => (eq2 a).mpr) _ _ (Rep.go (g _) _ _ (f.gh p hp)), fun a z => ?_, fun b o n e => s b o (f.keep b o n e), fun b e => sn b (f.dom b e), fun i d e => ?_⟩
  · obtain ⟨n, o, e, m⟩ := f.mu i a hi
    refine ⟨fun z => z.elim n fun z => ?_, o, s a o e, m⟩
    rw [(hf a z).1] at e; cases e
  · rcases z with z | z
    · exact sn a (f.s0 a z)
    · exact (hf a z).2
  · obtain ⟨v, e1, e2⟩ := f.slot i d e
    refine ⟨v, e1, ?_⟩
    cases q : kd κ i with
    | cl => rw [q] at e2; exact Rep.go (.less fun a => (eq2 a).mpr) d v (Rep.go (g _) d v e2)
    | ow n => rw [q] at e2; exact Own.go (.less fun a => (eq2 a).mpr) n _ d v (fun _ _ _ h => h) (Own.go (g _) n _ d v (fun a _ o e => s a o e) e2)
    | io n => rw [q] at e2; exact Own.go (.less fun a => (eq2 a).mpr) n _ d v (fun _ _ _ h => h) (Own.go (g _) n _ d v (fun a _ o e => s a o e) e2)
    | lo => rw [q] at e2; exact Rep.go (g _) d v e2
theorem EnvOk.same0 (h : EnvOk K κ G O ρ σ H) (s : Same H H') : EnvOk K κ G O ρ σ H' := by
  have q := h.same (fp := []) s (fun a z => absurd z (by simp))
  rw [plus_nil] at q
  exact q
theorem VOk.clean {fp : List Addr} {n : Nat} {d : D} {v : V} (hs : ∀ a, S0 a → H a ≠ none) (h : VOk K S0 O' H H' fp (.ow n) d v) : VOk K S0 O' H H' [] .cl d v := by
  obtain ⟨_, h2, h3⟩ := h
  refine ⟨rfl, Own.rep n fp d v (fun a ha z => ?_) (fun a z => ?_) h3⟩
  · obtain ⟨e, nO, _⟩ := h2 a ha
    exact z.elim (fun z => hs a z e) nO
  · exact z.elim (fun z => .inl (.inl z)) .inr
theorem VOk.loose {fp : List Addr} {d : D} {v : V} (h : VOk K S0 O' H H' fp .cl d v) : VOk K S0 O' H H' [] .lo d v := ⟨rfl, Rep.go (.less fun _ z => .inl z) d v h.2⟩
end
section
variable {X : Cx} {κ : List SK} {pu : Bool} {md : SK} {e : Expr} {E : DTE} {n : Nat}
theorem DE.clean (h : DE X κ pu (.ow n) e E) : DE X κ pu .cl e E := ⟨h.h.weak fun σ H Q ⟨G, O, ρ, q, hE, hq, k⟩ => ⟨G, O, ρ, q, hE, hq, fun v H' d ρ' O' fp s e' vo p z => k v H' d ρ' O' [] s (by rw [plus_nil]; exact e'.drop) (vo.clean hE.s0) p z⟩⟩
theorem DE.loose (h : DE X κ pu .cl e E) : DE X κ pu .lo e E := ⟨h.h.weak fun σ H Q ⟨G, O, ρ, q, hE, hq, k⟩ => ⟨G, O, ρ, q, hE, hq, fun v H' d ρ' O' fp s e' vo p z => k v H' d ρ' O' [] s (by rw [plus_nil]; exact e'.drop) vo.loose p z⟩⟩
theorem DE.dirty (h : DE X κ true md e E) : DE X κ false md e E := ⟨h.h.weak fun σ H Q ⟨G, O, ρ, q, hE, hq, k⟩ => ⟨G, O, ρ, q, hE, hq, fun v H' d ρ' O' fp s e' vo p z => k v H' d ρ' O' fp s e' vo (fun z => absurd z Bool.false_ne_true) z⟩⟩
mutual
def noL : D → Bool
  | .tup l => noLs l
  | .lst _ => false
  | .dK _ _ => false
  | .dT _ _ => false
  | .t2 _ _ _ _ => false
  | .fK _ _ _ => false
  | .fT _ _ _ => false
  | _ => true
def noLs : List D → Bool
  | [] => true
  | d :: l => noL d && noLs l
end
mutual
theorem Rep.noL {K : PySem.W.Frag} {S S' : Addr → Prop} {H : Hp} : ∀ (d : D) (v : V), noL d = true → Rep K S H d v → Rep K S' H d v
  | .non, v, _, h => by simpa only [Rep] using h
  | .bl b, v, _, h => by simpa only [Rep] using h
  | .int i, v, _, h => by simpa only [Rep] using h
  | .str x, v, _, h => by simpa only [Rep] using h
  | .ty n, v, _, h => by simpa only [Rep] using h
  | .tup l, v, n, h => by
    simp only [L2.noL] at n
    simp only [Rep] at h ⊢
    obtain ⟨a, vs, e, q, r⟩ := h
    exact ⟨a, vs, e, q, Reps.noLs l vs n r⟩
  | .scr l, v, n, h => by simpa only [Rep] using h
  | .fz o u, v, n, h => by simpa only [Rep] using h
  | .t2 l m a b, v, n, h => by simp [L2.noL] at n
  | .fK o ks l, v, n, h => by simp [L2.noL] at n
  | .fT o ks l, v, n, h => by simp [L2.noL] at n
  | .lst l, v, n, h => by simp [L2.noL] at n
  | .dK ks l, v, n, h => by simp [L2.noL] at n
  | .dT ks l, v, n, h => by simp [L2.noL] at n
theorem Reps.noLs {K : PySem.W.Frag} {S S' : Addr → Prop} {H : Hp} : ∀ (l : List D) (vs : List V), noLs l = true → Reps K S H l vs → Reps K S' H l vs
  | [], vs, _, h => by simpa only [Reps] using h
  | d :: l, vs, n, h => by
    simp only [L2.noLs, Bool.and_eq_true] at n
    simp only [Reps] at h ⊢
    obtain ⟨v, r, e, h1, h2⟩ := h
    exact ⟨v, r, e, Rep.noL d v n.1 h1, Reps.noLs l r n.2 h2⟩
end
def eNoL (E : DTE) : DTE := fun ρ q => E ρ fun d ρ' => noL d = true ∧ q d ρ'
theorem DE.nol (h : DE X κ pu .lo e E) : DE X κ pu .cl e (eNoL E) := ⟨h.h.weak fun σ H Q ⟨G, O, ρ, q, hE, hq, k⟩ => ⟨G, O, ρ, _, hE, hq, fun v H' d ρ' O' fp s e' vo p ⟨z1, z2⟩ => k v H' d ρ' O' [] s (by rw [plus_nil]; exact e'.drop) ⟨rfl, Rep.noL d v z1 vo.2⟩ p z2⟩⟩
end
def eVar (i : Nat) : DTE := fun ρ q => ∃ d, ρ[i]? = some (some d) ∧ q d ρ
def eC (d : D) : DTE := fun ρ q => q d ρ
section
variable {X : Cx} {κ : List SK} {x : Str} {pos : Pos}
theorem VOk.plain {K : PySem.W.Frag} {S0 O : Addr → Prop} {H : Hp} {d : D} {v : V} (h : ∀ S, Rep K S H d v) : VOk K S0 O H H [] .cl d v := ⟨rfl, h _⟩
theorem de_c {t : TE} {d : D} {v : V} {e : Expr} (h : PE X e (tC v)) (r : ∀ S H, Rep X.K S H d v) : DE X κ true .cl e (eC d) :=
  ⟨h.weak fun σ H Q ⟨G, O, ρ, q, hE, hq, k⟩ => k v H d ρ O [] (.refl _ _) (by rw [plus_nil]; exact hE) (.plain fun S => r S H) (fun _ => ⟨.refl _, rfl, rfl⟩) hq⟩
theorem dv (i : Nat) (hk : kd κ i = .cl := by rfl) (hN : X.N[i]? = some x := by rfl) (hv : Vis X.env.scope x := by first | exact Or.inl rfl | exact Or.inr (Or.inl rfl) | exact Or.inr (Or.inr rfl)) (hd : (x == ("__debug__" : Str)) = false := by decide)
    (hcd : (x == ("__classdict__" : Str)) = false := by decide) : DE X κ true .cl (.Name x pos) (eVar i) :=
  ⟨(pe_var hN hv hd hcd).weak fun σ H Q ⟨G, O, ρ, q, hE, ⟨d, e1, e2⟩, k⟩ => by
    obtain ⟨F, f⟩ := id hE
    obtain ⟨v, h1, h2⟩ := f.slot i d e1
    rw [hk] at h2
    exact ⟨v, h1, k v H d ρ O [] (.refl _ _) (by rw [plus_nil]; exact hE) ⟨rfl, h2⟩ (fun _ => ⟨.refl _, rfl, rfl⟩) e2⟩⟩
theorem dvl (i : Nat) (hN : X.N[i]? = some x := by rfl) (hv : Vis X.env.scope x := by first | exact Or.inl rfl | exact Or.inr (Or.inl rfl) | exact Or.inr (Or.inr rfl)) (hd : (x == ("__debug__" : Str)) = false := by decide)
    (hcd : (x == ("__classdict__" : Str)) = false := by decide) : DE X κ true .lo (.Name x pos) (eVar i) :=
  ⟨(pe_var hN hv hd hcd).weak fun σ H Q ⟨G, O, ρ, q, hE, ⟨d, e1, e2⟩, k⟩ => by
    obtain ⟨F, f⟩ := id hE
    obtain ⟨v, h1, h2⟩ := f.slot i d e1
    have r : Rep X.K G.S0 H d v := by
      cases e : kd κ i with
      | cl => rw [e] at h2; exact Rep.go (.less fun _ z => .inl z) d v h2
      | lo => rw [e] at h2; exact h2
      | ow n => rw [e] at h2; exact Own.rep n (F i) d v (fun a ha => (f.mu i a ha).1) (fun _ z => .inl z) h2
      | io n => rw [e] at h2; exact Own.rep n (F i) d v (fun a ha => (f.mu i a ha).1) (fun _ z => .inl z) h2
    exact ⟨v, h1, k v H d ρ O [] (.refl _ _) (by rw [plus_nil]; exact hE) ⟨rfl, r⟩ (fun _ => ⟨.refl _, rfl, rfl⟩) e2⟩⟩
theorem dint {i j} : DE X κ true .cl (.Constant (.int i) j pos) (eC (.int i)) := de_c (t := tC .non) pe_int fun _ _ => by simp only [Rep]
theorem dbl {i j} : DE X κ true .cl (.Constant (.bool i) j pos) (eC (.bl i)) := de_c (t := tC .non) pe_bl fun _ _ => by simp only [Rep]
theorem dnon {j} : DE X κ true .cl (.Constant .none j pos) (eC .non) := de_c (t := tC .non) pe_non fun _ _ => by simp only [Rep]
theorem dstr {i j} : DE X κ true .cl (.Constant (.str i) j pos) (eC (.str i)) := de_c (t := tC .non) pe_str fun _ _ => by simp only [Rep]
theorem dgint {i : Int} (hd : (x == ("__debug__" : Str)) = false) (hg : Gl X x) (hm : ∃ tk, X.mg x = some (.int i tk)) : DE X κ true .cl (.Name x pos) (eC (.int i)) := de_c (t := tC .non) (pe_gint hg hm hd) fun _ _ => by simp only [Rep]
theorem dglob {d : D} (hd : (x == ("__debug__" : Str)) = false) (hg : Gl X x) (hm : ∃ v w, X.mg x = some w ∧ RelV v w ∧ ∀ S H, Rep X.K S H d v) : DE X κ true .cl (.Name x pos) (eC d) := by
  obtain ⟨v, w, h1, h2, h3⟩ := hm
  exact de_c (t := tC .non) (pe_glob hg h1 h2 hd) h3
theorem dty {n : String} (h : PE X (.Name x pos) (tC (.ty n))) : DE X κ true .cl (.Name x pos) (eC (.ty n)) := de_c (t := tC .non) h fun _ _ => by simp only [Rep]
end
def VRes (K : PySem.W.Frag) (S : Addr → Prop) (H H' : Hp) (fp : List Addr) : SK → D → V → Prop
  | .ow n, d, v => fp.Nodup ∧ (∀ a ∈ fp, H a = none ∧ ∃ o, H' a = some o ∧ isM o) ∧ Own K (uni S (fpS fp)) H' n fp d v
  | .io _, _, _ => False
  | _, d, v => fp = [] ∧ Rep K S H' d v
structure DOp (X : Cx) (md : SK) (f : Value → Value → Sem Value) (r : D → D → (D → Prop) → Prop) : Prop where
  h : ∃ r', OpR X f r' ∧ ∀ S H dx dy vx vy q Q, Rep X.K S H dx vx → Rep X.K S H dy vy → r dx dy q → (∀ v H' z fp, Same H H' → VRes X.K S H H' fp md z v → q z → Q v H') → r' vx vy H Q
structure DCall (X : Cx) (md : SK) (f : Value) (r : List D → (D → Prop) → Prop) : Prop where
  h : ∃ r', CallR X f r' ∧ ∀ S H ds vs q Q, Reps X.K S H ds vs → r ds q → (∀ v H' z fp, Same H H' → VRes X.K S H H' fp md z v → q z → Q v H') → r' vs H Q
def outM (lo : Bool) (md : SK) : SK := if lo then .lo else md
def isV (m : SK) : Prop := m = .cl ∨ m = .lo
section
variable {K : PySem.W.Frag} {κ : List SK} {G : G0} {O : Addr → Prop} {ρ : EnvD} {σ : St} {H H' : Hp}
theorem VRes.up {md : SK} {fp : List Addr} {d : D} {v : V} (hE : EnvOk K κ G O ρ σ H) (s : Same H H') (h : VRes K (uni G.S0 O) H H' fp md d v) (hm : md ≠ .lo) : EnvOk K κ (G.plus fp) O ρ σ H' ∧ VOk K G.S0 O H H' fp md d v := by
  cases md with
  | lo => exact absurd rfl hm
  | io n => exact h.elim
  | cl =>
    obtain ⟨rfl, h⟩ := h
    exact ⟨by rw [plus_nil]; exact hE.same0 s, rfl, h⟩
  | ow n =>
    obtain ⟨nd, h2, h3⟩ := h
    refine ⟨hE.same s fun a ha => ⟨(h2 a ha).1, ?_⟩, nd, fun a ha => ⟨(h2 a ha).1, fun z => ?_, (h2 a ha).2⟩, ?_⟩
    · obtain ⟨_, o, e, _⟩ := h2 a ha; rw [e]; simp
    · obtain ⟨o, e, _⟩ := hE.mutO a z
      rw [(h2 a ha).1] at e; cases e
    · have eq2 : ∀ a, uni (uni G.S0 (fpS fp)) O a → uni (uni G.S0 O) (fpS fp) a := fun a => by simp only [uni]; rintro ((h | h) | h) <;> simp [h]
      exact Own.go (.less eq2) n fp d v (fun _ _ _ h => h) h3
theorem VRes.upL {md : SK} {fp : List Addr} {d : D} {v : V} (hE : EnvOk K κ G O ρ σ H) (s : Same H H') (h : VRes K G.S0 H H' fp md d v) : EnvOk K κ (G.plus []) O ρ σ H' ∧ VOk K G.S0 O H H' [] .lo d v := by
  refine ⟨by rw [plus_nil]; exact hE.same0 s, rfl, ?_⟩
  cases md with
  | lo => exact h.2
  | cl => exact h.2
  | io n => exact h.elim
  | ow n =>
    obtain ⟨nd, h2, h3⟩ := h
    refine Own.rep n fp d v (fun a ha z => ?_) (fun a z => .inl z) h3
    exact hE.s0 a z (h2 a ha).1
end
mutual
def pyEq : D → D → Bool
  | .non, .non => true
  | .bl a, .bl b => a == b
  | .bl a, .int b => (if a then 1 else 0) == b
  | .int a, .bl b => a == (if b then 1 else 0)
  | .int a, .int b => a == b
  | .str a, .str b => a == b
  | .tup a, .tup b => pyEqs a b
  | .lst a, .lst b => pyEqs a b
  | _, _ => false
def pyEqs : List D → List D → Bool
  | [], [] => true
  | x :: xs, y :: ys => pyEq x y && pyEqs xs ys
  | _, _ => false
end
def okE : Nat → D → Bool
  | _, .non => true
  | _, .bl _ => true
  | _, .int _ => true
  | _, .str _ => true
  | n + 1, .tup l => l.all (okE n)
  | n + 1, .lst l => l.all (okE n)
  | _, _ => false
structure EqAll (A : Around) (s : Shared) (u v : Value) (b : Bool) : Prop where
  e : SeqAt.EqAt A s u v b
  r : SeqAt.RcAt A s u v b
  n : SeqAt.RcNeAt A s u v (!b)
section
variable {A : Around} {s : Shared}
open SeqAt
theorem flatAll {x y : V} {u v : Value} (rx : RelV x u) (ry : RelV y v) (fx : flatV x = true) (fy : flatV y = true) : EqAll A s u v (eqV x y) := by
  refine ⟨eqAt_V rx ry fx fy, ?_, ?_⟩
  · cases x with
    | non =>
      cases rx
      cases y with
      | non => cases ry; exact .none_none
      | bl b => cases ry; exact .none_bool b
      | int b => obtain ⟨t, rfl⟩ := ry; exact .none_int b t
      | str b => obtain ⟨t, rfl⟩ := ry; exact .none_str b t
      | _ => cases fy
    | bl a =>
      cases rx
      cases y with
      | non => cases ry; exact .bool_none a
      | bl b => cases ry; exact .bool_bool a b
      | int b => obtain ⟨t, rfl⟩ := ry; exact .bool_int a b t
      | str b => obtain ⟨t, rfl⟩ := ry; exact .bool_str a b t
      | _ => cases fy
    | int a =>
      obtain ⟨t', rfl⟩ := rx
      cases y with
      | non => cases ry; exact .int_none a t'
      | bl b => cases ry; exact .int_bool a t' b
      | int b => obtain ⟨t, rfl⟩ := ry; exact .int_int a t' b t
      | str b => obtain ⟨t, rfl⟩ := ry; exact .int_str a t' b t
      | _ => cases fy
    | str a =>
      obtain ⟨t', rfl⟩ := rx
      cases y with
      | non => cases ry; exact .str_none a t'
      | bl b => cases ry; exact .str_bool a t' b
      | int b => obtain ⟨t, rfl⟩ := ry; exact .str_int a t' b t
      | str b => obtain ⟨t, rfl⟩ := ry; exact .str_str a t' b t
      | _ => cases fy
    | _ => cases fx
  · cases x with
    | non =>
      cases rx
      cases y with
      | non => cases ry; exact .none_none
      | bl b => cases ry; exact .none_bool b
      | int b => obtain ⟨t, rfl⟩ := ry; exact .none_int b t
      | str b => obtain ⟨t, rfl⟩ := ry; exact .none_str b t
      | _ => cases fy
    | bl a =>
      cases rx
      cases y with
      | non => cases ry; exact .bool_none a
      | bl b => cases ry; exact .bool_bool a b
      | int b => obtain ⟨t, rfl⟩ := ry; exact .bool_int a b t
      | str b => obtain ⟨t, rfl⟩ := ry; exact .bool_str a b t
      | _ => cases fy
    | int a =>
      obtain ⟨t', rfl⟩ := rx
      cases y with
      | non => cases ry; exact .int_none a t'
      | bl b => cases ry; exact .int_bool a t' b
      | int b => obtain ⟨t, rfl⟩ := ry; exact .int_int a t' b t
      | str b => obtain ⟨t, rfl⟩ := ry; exact .int_str a t' b t
      | _ => cases fy
    | str a =>
      obtain ⟨t', rfl⟩ := rx
      cases y with
      | non => cases ry; exact .str_none a t'
      | bl b => cases ry; exact .str_bool a t' b
      | int b => obtain ⟨t, rfl⟩ := ry; exact .str_int a t' b t
      | str b => obtain ⟨t, rfl⟩ := ry; exact .str_str a t' b t
      | _ => cases fy
    | _ => cases fx
theorem flatList {x : V} {u : Value} {l : Addr} {items : Array Value} (rx : RelV x u) (fx : flatV x = true) (hl : s.heap.IsList l items) (hu : A.units < cLine) : EqAll A s u (.ref l) false ∧ EqAll A s (.ref l) u false := by
  cases x with
  | non => cases rx; exact ⟨⟨.none_list hl hu, .none_list hl hu, .none_list hl hu⟩, .list_none hl hu, .list_none hl hu, .list_none hl hu⟩
  | bl c => cases rx; exact ⟨⟨.bool_list c hl hu, .bool_list c hl hu, .bool_list c hl hu⟩, .list_bool c hl hu, .list_bool c hl hu, .list_bool c hl hu⟩
  | int c => obtain ⟨t, rfl⟩ := rx; exact ⟨⟨.int_list c t hl hu, .int_list c t hl hu, .int_list c t hl hu⟩, .list_int c t hl hu, .list_int c t hl hu, .list_int c t hl hu⟩
  | str c => obtain ⟨t, rfl⟩ := rx; exact ⟨⟨.str_list c t hl hu, .str_list c t hl hu, .str_list c t hl hu⟩, .list_str c t hl hu, .list_str c t hl hu, .list_str c t hl hu⟩
  | _ => cases fx
theorem flatTup {x : V} {u : Value} {l : Addr} {items : Array Value} (rx : RelV x u) (fx : flatV x = true) (hl : s.heap.IsTuple l items) (hu : A.units < cLine) : EqAll A s u (.ref l) false ∧ EqAll A s (.ref l) u false := by
  cases x with
  | non => cases rx; exact ⟨⟨.none_tuple hl hu, .none_tuple hl hu, .none_tuple hl hu⟩, .tuple_none hl hu, .tuple_none hl hu, .tuple_none hl hu⟩
  | bl c => cases rx; exact ⟨⟨.bool_tuple c hl hu, .bool_tuple c hl hu, .bool_tuple c hl hu⟩, .tuple_bool c hl hu, .tuple_bool c hl hu, .tuple_bool c hl hu⟩
  | int c => obtain ⟨t, rfl⟩ := rx; exact ⟨⟨.int_tuple c t hl hu, .int_tuple c t hl hu, .int_tuple c t hl hu⟩, .tuple_int c t hl hu, .tuple_int c t hl hu, .tuple_int c t hl hu⟩
  | str c => obtain ⟨t, rfl⟩ := rx; exact ⟨⟨.str_tuple c t hl hu, .str_tuple c t hl hu, .str_tuple c t hl hu⟩, .tuple_str c t hl hu, .tuple_str c t hl hu, .tuple_str c t hl hu⟩
  | _ => cases fx
end
def flD : D → Option V
  | .non => some .non
  | .bl b => some (.bl b)
  | .int i => some (.int i)
  | .str x => some (.str x)
  | _ => none
theorem flD_flat {d : D} {v : V} (h : flD d = some v) : flatV v = true := by
  cases d <;> simp [flD] at h <;> subst h <;> rfl
theorem flD_rep {K : PySem.W.Frag} {S : Addr → Prop} {H : Hp} {d : D} {v w : V} (h : flD d = some v) (r : Rep K S H d w) : w = v := by
  cases d <;> simp [flD] at h <;> subst h <;> simpa only [Rep] using r
theorem pyEq_flat {d e : D} {v w : V} (h : flD d = some v) (h' : flD e = some w) : pyEq d e = eqV v w := by
  cases d <;> simp [flD] at h <;> subst h <;> cases e <;> simp [flD] at h' <;> subst h' <;> simp only [pyEq, eqV]
theorem okE_kind {n : Nat} {d : D} (h : okE n d = true) : (∃ v, flD d = some v) ∨ (∃ l, d = .tup l ∧ ∃ m, n = m + 1 ∧ l.all (okE m) = true) ∨ ∃ l, d = .lst l ∧ ∃ m, n = m + 1 ∧ l.all (okE m) = true := by
  cases d with
  | non => exact .inl ⟨_, rfl⟩
  | bl b => exact .inl ⟨_, rfl⟩
  | int i => exact .inl ⟨_, rfl⟩
  | str x => exact .inl ⟨_, rfl⟩
  | tup l => cases n with
    | zero => simp [okE] at h
    | succ m => simp only [okE] at h; exact .inr (.inl ⟨l, rfl, m, rfl, h⟩)
  | lst l => cases n with
    | zero => simp [okE] at h
    | succ m => simp only [okE] at h; exact .inr (.inr ⟨l, rfl, m, rfl, h⟩)
  | ty n => simp [okE] at h
  | scr n => simp [okE] at h
  | fz o u => simp [okE] at h
  | t2 l m a b => simp [okE] at h
  | fK o ks l => simp [okE] at h
  | fT o ks l => simp [okE] at h
  | dK ks l => simp [okE] at h
  | dT ks l => simp [okE] at h
theorem pyEqs_len : ∀ {a b : List D}, pyEqs a b = true → a.length = b.length
  | [], [], _ => rfl
  | _ :: _, [], h => by simp [pyEqs] at h
  | [], _ :: _, h => by simp [pyEqs] at h
  | x :: xs, y :: ys, h => by
    simp only [pyEqs, Bool.and_eq_true] at h
    simp [pyEqs_len h.2]
theorem pyEqs_range (f : Nat → Bool) : ∀ (a b : List D), (∀ (j : Nat) (x y : D), a[j]? = some x → b[j]? = some y → f j = pyEq x y) → ((List.range (min a.length b.length)).all f && a.length == b.length) = pyEqs a b
  | [], [], _ => rfl
  | _ :: _, [], h => by simp [pyEqs]
  | [], _ :: _, h => by simp [pyEqs]
  | x :: xs, y :: ys, h => by
    have ih := pyEqs_range (fun j => f (j + 1)) xs ys fun j x' y' e1 e2 => h (j + 1) x' y' (by simpa using e1) (by simpa using e2)
    rw [List.length_cons, List.length_cons, range_min]
    simp only [pyEqs]
    rw [← ih, h 0 x y rfl rfl, Bool.and_assoc]
    congr 2
    simp
mutual
theorem pyEq_self : ∀ (n : Nat) (d : D), okE n d = true → pyEq d d = true
  | _, .non, _ => rfl
  | _, .bl b, _ => by simp [pyEq]
  | _, .int b, _ => by simp [pyEq]
  | _, .str b, _ => by simp [pyEq]
  | n, .ty b, h => by simp [okE] at h
  | n, .scr b, h => by simp [okE] at h
  | n, .fz b _, h => by simp [okE] at h
  | n, .t2 _ _ _ _, h => by simp [okE] at h
  | n, .fK _ _ _, h => by simp [okE] at h
  | n, .fT _ _ _, h => by simp [okE] at h
  | n, .dK b _, h => by simp [okE] at h
  | n, .dT b _, h => by simp [okE] at h
  | 0, .tup l, h => by simp [okE] at h
  | 0, .lst l, h => by simp [okE] at h
  | n + 1, .tup l, h => by simp only [okE] at h; simp only [pyEq]; exact pyEqs_self n l h
  | n + 1, .lst l, h => by simp only [okE] at h; simp only [pyEq]; exact pyEqs_self n l h
theorem pyEqs_self : ∀ (n : Nat) (l : List D), l.all (okE n) = true → pyEqs l l = true
  | n, [], _ => rfl
  | n, d :: l, h => by
    rw [List.all_cons, Bool.and_eq_true] at h
    simp only [pyEqs]
    rw [pyEq_self n d h.1, pyEqs_self n l h.2]
    rfl
end
section
variable {X : Cx} {pins : List (Addr × Obj)} {σ : St} {H : Hp} {s : Shared} {S1 S2 : Addr → Prop}
theorem reps_same (I : Inv X pins σ H s) {n : Nat} (ih : ∀ (d e : D) (v : V), okE n d = true → okE n e = true → Rep X.K S1 H d v → Rep X.K S2 H e v → d = e) : ∀ (a b : List D) (vs : List V), a.all (okE n) = true → b.all (okE n) = true → Reps X.K S1 H a vs → Reps X.K S2 H b vs → a = b
  | [], [], _, _, _, _, _ => rfl
  | [], y :: ys, vs, _, _, h1, h2 => by
    simp only [Reps] at h1 h2
    obtain ⟨v, r, e, _⟩ := h2
    rw [h1] at e; cases e
  | x :: xs, [], vs, _, _, h1, h2 => by
    simp only [Reps] at h1 h2
    obtain ⟨v, r, e, _⟩ := h1
    rw [h2] at e; cases e
  | x :: xs, y :: ys, vs, o1, o2, h1, h2 => by
    rw [List.all_cons, Bool.and_eq_true] at o1 o2
    simp only [Reps] at h1 h2
    obtain ⟨v, r, rfl, h1, h1'⟩ := h1
    obtain ⟨v', r', e, h2, h2'⟩ := h2
    cases e
    rw [ih x y v o1.1 o2.1 h1 h2, reps_same I ih xs ys r o1.2 o2.2 h1' h2']
theorem rep_same (I : Inv X pins σ H s) : ∀ (n : Nat) (d e : D) (v : V), okE n d = true → okE n e = true → Rep X.K S1 H d v → Rep X.K S2 H e v → d = e := by
  intro n
  induction n with
  | zero =>
    intro d e v h1 h2 r1 r2
    rcases okE_kind h1 with ⟨v1, e1⟩ | ⟨l, rfl, m, e, _⟩ | ⟨l, rfl, m, e, _⟩
    · rcases okE_kind h2 with ⟨v2, e2⟩ | ⟨l, rfl, m, e, _⟩ | ⟨l, rfl, m, e, _⟩
      · have := flD_rep e1 r1; have := flD_rep e2 r2
        subst_vars
        cases d <;> simp [flD] at e1 <;> subst e1 <;> cases e <;> simp [flD] at e2 <;> subst_vars <;> rfl
      · cases e
      · cases e
    · cases e
    · cases e
  | succ n ih =>
    intro d e v h1 h2 r1 r2
    have fref : ∀ {d : D} {v1 : V} {a : Addr}, flD d = some v1 → Rep X.K S1 H d (.ref a) → False := fun h r => by
      have q := flD_rep h r; have f := flD_flat h; rw [← q] at f; cases f
    have fref2 : ∀ {d : D} {v1 : V} {a : Addr}, flD d = some v1 → Rep X.K S2 H d (.ref a) → False := fun h r => by
      have q := flD_rep h r; have f := flD_flat h; rw [← q] at f; cases f
    have kinds : ∀ {a : Addr} {xs ys : List V}, SqL X.K H a xs → SqT X.K H a ys → False := fun h h' => by
      obtain ⟨_, _, ⟨o, _, e, c, _⟩, _⟩ := I.list h
      obtain ⟨_, _, ⟨o', e', c', _⟩, _⟩ := I.tuple h'
      rw [e] at e'; cases e'; rw [c] at c'; simp at c'
    rcases okE_kind h1 with ⟨v1, e1⟩ | ⟨l, rfl, m, e', o1⟩ | ⟨l, rfl, m, e', o1⟩
    · rcases okE_kind h2 with ⟨v2, e2⟩ | ⟨l, rfl, m, e, _⟩ | ⟨l, rfl, m, e, _⟩
      · have := flD_rep e1 r1; have := flD_rep e2 r2
        subst_vars
        cases d <;> simp [flD] at e1 <;> subst e1 <;> cases e <;> simp [flD] at e2 <;> subst_vars <;> rfl
      · simp only [Rep] at r2; obtain ⟨a, vs, rfl, _⟩ := r2; exact (fref e1 r1).elim
      · simp only [Rep] at r2; obtain ⟨a, vs, rfl, _⟩ := r2; exact (fref e1 r1).elim
    · cases e'
      simp only [Rep] at r1
      obtain ⟨a, vs, rfl, q1, r1⟩ := r1
      rcases okE_kind h2 with ⟨v2, e2⟩ | ⟨l2, rfl, m, e, o2⟩ | ⟨l2, rfl, m, e, o2⟩
      · exact (fref2 e2 r2).elim
      · cases e
        simp only [Rep] at r2
        obtain ⟨a', vs', e, q2, r2⟩ := r2
        cases e
        cases I.tuple_inj q1 q2
        rw [reps_same I ih l l2 vs o1 o2 r1 r2]
      · simp only [Rep] at r2
        obtain ⟨a', vs', e, _, q2, r2⟩ := r2
        cases e
        exact (kinds (.inl q2) q1).elim
    · cases e'
      simp only [Rep] at r1
      obtain ⟨a, vs, rfl, _, q1, r1⟩ := r1
      rcases okE_kind h2 with ⟨v2, e2⟩ | ⟨l2, rfl, m, e, o2⟩ | ⟨l2, rfl, m, e, o2⟩
      · exact (fref2 e2 r2).elim
      · simp only [Rep] at r2
        obtain ⟨a', vs', e, q2, r2⟩ := r2
        cases e
        exact (kinds (.inl q1) q2).elim
      · cases e
        simp only [Rep] at r2
        obtain ⟨a', vs', e, _, q2, r2⟩ := r2
        cases e
        cases I.list_inj (.inl q1) (.inl q2)
        rw [reps_same I ih l l2 vs o1 o2 r1 r2]
open SeqAt in
theorem eqD_ok (I : Inv X pins σ H s) : ∀ (n : Nat) (A : Around) (d e : D) (x y : V) (u v : Value), okE n d = true → okE n e = true → A.units + n < cLine → Rep X.K S1 H d x → Rep X.K S2 H e y → RelV x u → RelV y v → EqAll A s u v (pyEq d e) := by
  intro n
  induction n with
  | zero =>
    intro A d e x y u v h1 h2 hu r1 r2 rx ry
    rcases okE_kind h1 with ⟨v1, e1⟩ | ⟨l, rfl, m, e, _⟩ | ⟨l, rfl, m, e, _⟩
    · rcases okE_kind h2 with ⟨v2, e2⟩ | ⟨l, rfl, m, e, _⟩ | ⟨l, rfl, m, e, _⟩
      · cases flD_rep e1 r1; cases flD_rep e2 r2
        rw [pyEq_flat e1 e2]
        exact flatAll rx ry (flD_flat e1) (flD_flat e2)
      · cases e
      · cases e
    · cases e
    · cases e
  | succ n ih =>
    intro A d e x y u v h1 h2 hu r1 r2 rx ry
    have hu0 : A.units < cLine := by omega
    have tl : ∀ {d e : D} {a b : Addr}, EqAll A s (.ref a) (.ref b) (pyEq d e) → True := fun _ => trivial
    rcases okE_kind h1 with ⟨v1, e1⟩ | ⟨l, rfl, m, em, o1⟩ | ⟨l, rfl, m, em, o1⟩
    · cases flD_rep e1 r1
      rcases okE_kind h2 with ⟨v2, e2⟩ | ⟨l, rfl, m, em, _⟩ | ⟨l, rfl, m, em, _⟩
      · cases flD_rep e2 r2
        rw [pyEq_flat e1 e2]
        exact flatAll rx ry (flD_flat e1) (flD_flat e2)
      · simp only [Rep] at r2
        obtain ⟨a, vs, rfl, q, _⟩ := r2
        cases ry
        obtain ⟨its, _, pl, _⟩ := I.tuple q
        have e : pyEq d (.tup l) = false := by cases d <;> simp [flD] at e1 <;> rfl
        rw [e]
        exact (flatTup rx (flD_flat e1) (show s.heap.IsTuple a its.toArray from pl) hu0).1
      · simp only [Rep] at r2
        obtain ⟨a, vs, rfl, _, q, _⟩ := r2
        cases ry
        obtain ⟨its, _, pl, _⟩ := I.list (.inl q)
        have e : pyEq d (.lst l) = false := by cases d <;> simp [flD] at e1 <;> rfl
        rw [e]
        exact (flatList rx (flD_flat e1) pl.isList hu0).1
    · cases em
      have k1 := r1
      simp only [Rep] at r1
      obtain ⟨a, vs, rfl, q, r1⟩ := r1
      cases rx
      obtain ⟨its, rv, pl, _⟩ := I.tuple q
      have pl : s.heap.IsTuple a its.toArray := pl
      rcases okE_kind h2 with ⟨v2, e2⟩ | ⟨l2, rfl, m, em, o2⟩ | ⟨l2, rfl, m, em, o2⟩
      · cases flD_rep e2 r2
        have e : pyEq (.tup l) e = false := by cases e <;> simp [flD] at e2 <;> rfl
        rw [e]
        exact (flatTup ry (flD_flat e2) pl hu0).2
      · cases em
        have k2 := r2
        simp only [Rep] at r2
        obtain ⟨b, ws, rfl, q2, r2⟩ := r2
        cases ry
        obtain ⟨its2, rw2, pl2, _⟩ := I.tuple q2
        have pl2 : s.heap.IsTuple b its2.toArray := pl2
        have l1 : l.length = its.toArray.size := by rw [List.size_toArray, ← rv.length, r1.len]
        have l2' : l2.length = its2.toArray.size := by rw [List.size_toArray, ← rw2.length, r2.len]
        have he : ∀ j (h1 : j < its.toArray.size) (h2 : j < its2.toArray.size), EqAt A.in1 s its.toArray[j] its2.toArray[j] ((l[j]?.bind fun x => l2[j]?.bind fun y => some (pyEq x y)).getD false) := fun j j1 j2 => by
          obtain ⟨x', ex', rx'⟩ := rv.get2 (j := j) (u := its.toArray[j]) (arr_get j1)
          obtain ⟨y', ey', ry'⟩ := rw2.get2 (j := j) (u := its2.toArray[j]) (arr_get j2)
          obtain ⟨d1, ed1, rd1⟩ := r1.get' ex'
          obtain ⟨d2, ed2, rd2⟩ := r2.get' ey'
          simp only [ed1, ed2, Option.bind_some, Option.getD_some]
          exact (ih A.in1 d1 d2 x' y' _ _ (List.all_eq_true.mp o1 d1 (List.mem_of_getElem? ed1)) (List.all_eq_true.mp o2 d2 (List.mem_of_getElem? ed2)) (by show A.units + 1 + n < cLine; omega) rd1 rd2 rx' ry').e
        have ev : pyEq (.tup l) (.tup l2) = ((List.range (min its.toArray.size its2.toArray.size)).all (fun j => (l[j]?.bind fun x => l2[j]?.bind fun y => some (pyEq x y)).getD false) && its.toArray.size == its2.toArray.size) := by
          simp only [pyEq]
          rw [← l1, ← l2', pyEqs_range _ l l2 fun j x y e1 e2 => by simp [e1, e2]]
        have q1 := RcAt.tuples pl pl2 hu0 he
        have q2 := RcNeAt.tuples pl pl2 hu0 he
        rw [← ev] at q1 q2
        refine ⟨?_, q1, q2⟩
        by_cases hab : a = b
        · subst hab
          have z := rep_same I (n + 1) _ _ _ h1 h2 k1 k2
          rw [← z, pyEq_self (n + 1) _ h1]
          exact .same _
        · exact .of_refs hab q1
      · simp only [Rep] at r2
        obtain ⟨b, ws, rfl, _, q2, r2⟩ := r2
        cases ry
        obtain ⟨its2, rw2, pl2, _⟩ := I.list (.inl q2)
        have e : pyEq (.tup l) (.lst l2) = false := rfl
        rw [e]
        exact ⟨.tuple_list pl pl2.isList hu0, .tuple_list pl pl2.isList hu0, .tuple_list pl pl2.isList hu0⟩
    · cases em
      have k1 := r1
      simp only [Rep] at r1
      obtain ⟨a, vs, rfl, _, q, r1⟩ := r1
      cases rx
      obtain ⟨its, rv, pl, _⟩ := I.list (.inl q)
      rcases okE_kind h2 with ⟨v2, e2⟩ | ⟨l2, rfl, m, em, o2⟩ | ⟨l2, rfl, m, em, o2⟩
      · cases flD_rep e2 r2
        have e : pyEq (.lst l) e = false := by cases e <;> simp [flD] at e2 <;> rfl
        rw [e]
        exact (flatList ry (flD_flat e2) pl.isList hu0).2
      · simp only [Rep] at r2
        obtain ⟨b, ws, rfl, q2, r2⟩ := r2
        cases ry
        obtain ⟨its2, rw2, pl2, _⟩ := I.tuple q2
        have pl2 : s.heap.IsTuple b its2.toArray := pl2
        have e : pyEq (.lst l) (.tup l2) = false := rfl
        rw [e]
        exact ⟨.list_tuple pl.isList pl2 hu0, .list_tuple pl.isList pl2 hu0, .list_tuple pl.isList pl2 hu0⟩
      · cases em
        have k2 := r2
        simp only [Rep] at r2
        obtain ⟨b, ws, rfl, _, q2, r2⟩ := r2
        cases ry
        obtain ⟨its2, rw2, pl2, _⟩ := I.list (.inl q2)
        have l1 : l.length = its.toArray.size := by rw [List.size_toArray, ← rv.length, r1.len]
        have l2' : l2.length = its2.toArray.size := by rw [List.size_toArray, ← rw2.length, r2.len]
        have he : ∀ j (h1 : j < its.toArray.size) (h2 : j < its2.toArray.size), EqAt A.in1 s its.toArray[j] its2.toArray[j] ((l[j]?.bind fun x => l2[j]?.bind fun y => some (pyEq x y)).getD false) := fun j j1 j2 => by
          obtain ⟨x', ex', rx'⟩ := rv.get2 (j := j) (u := its.toArray[j]) (arr_get j1)
          obtain ⟨y', ey', ry'⟩ := rw2.get2 (j := j) (u := its2.toArray[j]) (arr_get j2)
          obtain ⟨d1, ed1, rd1⟩ := r1.get' ex'
          obtain ⟨d2, ed2, rd2⟩ := r2.get' ey'
          simp only [ed1, ed2, Option.bind_some, Option.getD_some]
          exact (ih A.in1 d1 d2 x' y' _ _ (List.all_eq_true.mp o1 d1 (List.mem_of_getElem? ed1)) (List.all_eq_true.mp o2 d2 (List.mem_of_getElem? ed2)) (by show A.units + 1 + n < cLine; omega) rd1 rd2 rx' ry').e
        have fin : RcAt A s (.ref a) (.ref b) (pyEq (.lst l) (.lst l2)) ∧ RcNeAt A s (.ref a) (.ref b) (!pyEq (.lst l) (.lst l2)) := by
          by_cases hl : its.toArray.size = its2.toArray.size
          · have ev : pyEq (.lst l) (.lst l2) = (List.range its.toArray.size).all (fun j => (l[j]?.bind fun x => l2[j]?.bind fun y => some (pyEq x y)).getD false) := by
              simp only [pyEq]
              rw [← pyEqs_range (fun j => (l[j]?.bind fun x => l2[j]?.bind fun y => some (pyEq x y)).getD false) l l2 fun j x y e1 e2 => by simp [e1, e2], l1, l2', ← hl, Nat.min_self, beq_self_eq_true, Bool.and_true]
            have q1 := RcAt.lists pl.isList pl2.isList hl hu0 he
            have q2 := RcNeAt.lists pl.isList pl2.isList hl hu0 he
            rw [← ev] at q1 q2
            exact ⟨q1, q2⟩
          · have ev : pyEq (.lst l) (.lst l2) = false := by
              simp only [pyEq]
              cases z : pyEqs l l2 with
              | false => rfl
              | true => exact absurd (by rw [← l1, ← l2', pyEqs_len z]) hl
            rw [ev]
            exact ⟨RcAt.lists_lengths pl.isList pl2.isList (by simpa using hl) hu0, RcNeAt.lists_lengths pl.isList pl2.isList (by simpa using hl) hu0⟩
        refine ⟨?_, fin.1, fin.2⟩
        by_cases hab : a = b
        · subst hab
          have z := rep_same I (n + 1) _ _ _ h1 h2 k1 k2
          rw [← z, pyEq_self (n + 1) _ h1]
          exact .same _
        · exact .of_refs hab fin.1
end
def Sx (lo : Bool) (S0 O : Addr → Prop) : Addr → Prop := if lo then S0 else uni S0 O
section
variable {K : PySem.W.Frag} {κ : List SK} {G : G0} {O O1 O2 : Addr → Prop} {ρ ρ1 ρ2 : EnvD} {σ : St} {H H1 H2 H' : Hp} {S0 : Addr → Prop}
theorem VOk.base {fp : List Addr} {md : SK} {d : D} {v : V} (s : Step O O1 H H1) (h : VOk K S0 O2 H1 H' fp md d v) : VOk K S0 O2 H H' fp md d v := by
  cases md with
  | cl => exact h
  | lo => exact h
  | io n => exact h
  | ow n =>
    obtain ⟨nd, h2, h3⟩ := h
    refine ⟨nd, fun a ha => ⟨?_, (h2 a ha).2⟩, h3⟩
    cases e : H a with
    | none => rfl
    | some o => exact absurd (h2 a ha).1 (s.dom a (by rw [e]; simp))
theorem VOk.after {fp : List Addr} {m : SK} {d : D} {v : V} {lo : Bool} (hm : isV m) (hlo : m = .lo → lo = true ∧ Same H1 H2) (hmu : ∀ a, O1 a → ∃ o, H1 a = some o ∧ isM o) (s : Step O1 O2 H1 H2) (vo : VOk K S0 O1 H H1 fp m d v) : Rep K (Sx lo S0 O2) H2 d v := by
  rcases hm with rfl | rfl
  · have r := Rep.go (Goes.step hmu s) d v vo.2
    cases lo with
    | false => exact r
    | true => exact Rep.go (.less fun _ z => .inl z) d v r
  · obtain ⟨rfl, sm⟩ := hlo rfl
    exact Rep.go (Goes.same sm) d v vo.2
theorem VOk.now {fp : List Addr} {m : SK} {d : D} {v : V} {lo : Bool} (hm : isV m) (hlo : m = .lo → lo = true) (vo : VOk K S0 O1 H H1 fp m d v) : Rep K (Sx lo S0 O1) H1 d v := by
  rcases hm with rfl | rfl
  · cases lo with
    | false => exact vo.2
    | true => exact Rep.go (.less fun _ z => .inl z) d v vo.2
  · cases hlo rfl
    exact vo.2
theorem VRes.fin {md : SK} {fp : List Addr} {d : D} {v : V} {lo : Bool} (hE : EnvOk K κ G O2 ρ2 σ H2) (st : Step O O2 H H2) (s : Same H2 H') (h : VRes K (Sx lo G.S0 O2) H2 H' fp md d v) (hm : md ≠ .lo) : ∃ fp', Step O O2 H H' ∧ EnvOk K κ (G.plus fp') O2 ρ2 σ H' ∧ VOk K G.S0 O2 H H' fp' (outM lo md) d v := by
  cases lo with
  | false =>
    obtain ⟨h1, h2⟩ := VRes.up hE s h hm
    exact ⟨fp, st.trans (.of_same s), h1, h2.base st⟩
  | true =>
    obtain ⟨h1, h2⟩ := VRes.upL hE s h
    exact ⟨[], st.trans (.of_same s), h1, h2.base st⟩
theorem Pu.and {p1 p2 : Bool} (h1 : Pu p1 ρ ρ1 O O1 H H1) (h2 : Pu p2 ρ1 ρ2 O1 O2 H1 H2) : Pu (p1 && p2) ρ ρ2 O O2 H H2 := fun h => by
  rw [Bool.and_eq_true] at h
  obtain ⟨a, b, c⟩ := h1 h.1
  obtain ⟨a', b', c'⟩ := h2 h.2
  exact ⟨a.trans a', b'.trans b, c'.trans c⟩
theorem Pu.same {p : Bool} (h1 : Pu p ρ ρ1 O O1 H H1) (s : Same H1 H') : Pu p ρ ρ1 O O1 H H' := fun h => let ⟨a, b, c⟩ := h1 h; ⟨a.trans s, b, c⟩
theorem Pu.refl {p : Bool} : Pu p ρ ρ O O H H := fun _ => ⟨.refl _, rfl, rfl⟩
end
def eOp (r : D → D → (D → Prop) → Prop) (Ea Eb : DTE) : DTE := fun ρ q => Ea ρ fun x ρ1 => Eb ρ1 fun y ρ2 => r x y fun z => q z ρ2
def eTest (E : DTE) : DTT := fun ρ q => E ρ fun x ρ' => ∃ b, x = .bl b ∧ q b ρ'
def loB : SK → Bool
  | .lo => true
  | _ => false
section
variable {X : Cx} {κ : List SK} {pu1 pu2 pu3 : Bool} {m1 m2 md : SK} {a b c e : Expr} {pos : Pos} {Ea Eb Ec E : DTE} {r r2 : D → D → (D → Prop) → Prop}
theorem op_go {f : Value → Value → Sem Value} {r' : R2} (hr : ∀ S H dx dy vx vy q Q, Rep X.K S H dx vx → Rep X.K S H dy vy → r dx dy q → (∀ v H' z fp, Same H H' → VRes X.K S H H' fp md z v → q z → Q v H') → r' vx vy H Q) (v1 : isV m1) (v2 : isV m2) (hp : m1 = .lo → pu2 = true) (hm : md ≠ .lo)
    {σ : St} {H : Hp} {Q : VK} (h : tD X.K κ (pu1 && pu2) (outM (loB m1 || loB m2) md) (eOp r Ea Eb) σ H Q) : tOp r' (tD X.K κ pu1 m1 Ea) (tD X.K κ pu2 m2 Eb) σ H Q := by
  obtain ⟨G, O, ρ, q, hE, hq, k⟩ := h
  refine ⟨G, O, ρ, _, hE, hq, fun vx H1 dx ρ1 O1 fp s1 e1 vo1 p1 hq1 => ⟨G, O1, ρ1, _, e1.drop, hq1, fun vy H2 dy ρ2 O2 fp2 s2 e2 vo2 p2 hq2 => ?_⟩⟩
  have e2 := e2.drop
  have rx : Rep X.K (Sx (loB m1 || loB m2) G.S0 O2) H2 dx vx := vo1.after v1 (fun z => ⟨by rw [z]; rfl, (p2 (hp z)).1⟩) e1.drop.mutO s2
  have ry : Rep X.K (Sx (loB m1 || loB m2) G.S0 O2) H2 dy vy := vo2.now v2 (fun z => by rw [z]; simp [loB])
  refine hr _ H2 dx dy vx vy _ Q rx ry hq2 fun v H' z fp3 sm vr hz => ?_
  obtain ⟨fp', st, en, vo⟩ := VRes.fin e2 (s1.trans s2) sm vr hm
  exact k v H' z ρ2 O2 fp' st en vo ((p1.and p2).same sm) hz
theorem dop {op : Operator} (ho : DOp X md (binaryOp op) r) (v1 : isV m1) (v2 : isV m2) (hp : m1 = .lo → pu2 = true) (hm : md ≠ .lo) (ha : DE X κ pu1 m1 a Ea) (hb : DE X κ pu2 m2 b Eb) : DE X κ (pu1 && pu2) (outM (loB m1 || loB m2) md) (.BinOp a op b pos) (eOp r Ea Eb) := by
  obtain ⟨r', h1, h2⟩ := ho.h
  exact ⟨(pe_op h1 ha.h hb.h).weak fun σ H Q h => op_go (f := binaryOp op) h2 v1 v2 hp hm h⟩
theorem tdt_test {E : DTE} {pu : Bool} {md : SK} {σ : St} {H : Hp} {Q : Bool → Hp → Prop} (h : tDT X.K κ pu (eTest E) σ H Q) : tTest (tD X.K κ pu md E) σ H Q := by
  obtain ⟨G, O, ρ, q, hE, hq, k⟩ := h
  refine ⟨G, O, ρ, _, hE, hq, fun v H' d ρ' O' fp s e vo p ⟨b, e1, hb⟩ => ?_⟩
  subst e1
  have ev : v = .bl b := by
    cases md with
    | cl => simpa only [Rep] using vo.2
    | lo => simpa only [Rep] using vo.2
    | io n => exact vo.elim
    | ow n =>
      cases n with
      | zero => have := vo.2.2; simp only [Own, Rep] at this; exact this.2
      | succ n =>
        have := vo.2.2
        simp only [Own] at this
        obtain ⟨_, _, _, _, h⟩ := this
        rcases h with ⟨_, _, z, _⟩ | ⟨_, _, _, z, _⟩ | ⟨_, _, _, z, _⟩ <;> cases z
  exact ⟨b, ev, k b H' ρ' O' s e.drop p hb⟩
theorem dtcmp {op : CmpOp} (hmk : behindInMarks op b = false) (ho : DOp X .cl (compareOp op) r) (v1 : isV m1) (v2 : isV m2) (hp : m1 = .lo → pu2 = true) (ha : DE X κ pu1 m1 a Ea) (hb : DE X κ pu2 m2 b Eb) : DT X κ (pu1 && pu2) (.Compare a [op] [b] pos) (eTest (eOp r Ea Eb)) := by
  obtain ⟨r', h1, h2⟩ := ho.h
  exact ⟨(pt_cmpR h1 ha.h hb.h hmk).weak fun σ H Q h => op_go (f := compareOp op) h2 v1 v2 hp (by simp) (tdt_test (md := outM (loB m1 || loB m2) .cl) h)⟩
theorem dtval {E : DTE} {pu : Bool} (he : ∀ whole, isTrue e X.env whole = (do let v ← whole; standAt e.pos; holding [v] (truthy v))) (h : DE X κ pu md e E) : DT X κ pu e (eTest E) := ⟨(pt_val h.h he).weak fun σ H Q h => tdt_test h⟩
def eChain (r r2 : D → D → (D → Prop) → Prop) (Ea Eb Ec : DTE) : DTE := fun ρ q => Ea ρ fun x ρ1 => Eb ρ1 fun y ρ2 => r x y fun z => ∃ k, z = .bl k ∧ (if k = true then Ec ρ2 fun u ρ3 => r2 y u fun t => q t ρ3 else q (.bl false) ρ2)
theorem rep_bl {K : PySem.W.Frag} {S : Addr → Prop} {H : Hp} {b : Bool} {v : V} (h : Rep K S H (.bl b) v) : v = .bl b := by simpa only [Rep] using h
theorem chain_go {f f2 : Value → Value → Sem Value} {r' r2' : R2} (hr : ∀ S H dx dy vx vy q Q, Rep X.K S H dx vx → Rep X.K S H dy vy → r dx dy q → (∀ v H' z fp, Same H H' → VRes X.K S H H' fp .cl z v → q z → Q v H') → r' vx vy H Q)
    (hr2 : ∀ S H dx dy vx vy q Q, Rep X.K S H dx vx → Rep X.K S H dy vy → r2 dx dy q → (∀ v H' z fp, Same H H' → VRes X.K S H H' fp .cl z v → q z → Q v H') → r2' vx vy H Q)
    {σ : St} {H : Hp} {Q : VK} (h : tD X.K κ ((pu1 && pu2) && pu3) .cl (eChain r r2 Ea Eb Ec) σ H Q) : tChain r' r2' (tD X.K κ pu1 .cl Ea) (tD X.K κ pu2 .cl Eb) (tD X.K κ pu3 .cl Ec) σ H Q := by
  obtain ⟨G, O, ρ, q, hE, hq, k⟩ := h
  refine ⟨G, O, ρ, _, hE, hq, fun vx H1 dx ρ1 O1 fp s1 e1 vo1 p1 hq1 => ⟨G, O1, ρ1, _, e1.drop, hq1, fun vy H2 dy ρ2 O2 fp2 s2 e2 vo2 p2 hq2 => ?_⟩⟩
  have e2 := e2.drop
  have rx : Rep X.K (Sx false G.S0 O2) H2 dx vx := vo1.after (.inl rfl) (fun z => by cases z) e1.drop.mutO s2
  have ry : Rep X.K (Sx false G.S0 O2) H2 dy vy := vo2.now (.inl rfl) (fun z => by cases z)
  refine hr _ H2 dx dy vx vy _ _ rx ry hq2 fun v H' z fp3 sm vr ⟨kb, ez, hz⟩ => ?_
  subst ez
  refine ⟨kb, rep_bl vr.2, ?_⟩
  cases kb with
  | false =>
    rw [if_neg Bool.false_ne_true] at hz ⊢
    refine k (.bl false) H' _ ρ2 O2 [] ((s1.trans s2).trans (.of_same sm)) (by rw [plus_nil]; exact e2.same0 sm) ⟨rfl, by simp only [Rep]⟩ (fun h => ?_) hz
    rw [Bool.and_eq_true] at h
    exact (p1.and p2).same sm h.1
  | true =>
    rw [if_pos rfl] at hz ⊢
    refine ⟨G, O2, ρ2, _, e2.same0 sm, hz, fun vz H3 dz ρ3 O3 fp4 s3 e3 vo3 p3 hq3 => ?_⟩
    have ry2 : Rep X.K (uni G.S0 O3) H3 dy vy := Rep.go (Goes.step (e2.same0 sm).mutO s3) dy vy (Rep.go (Goes.same sm) dy vy ry)
    refine hr2 _ H3 dy dz vy vz _ Q ry2 vo3.2 hq3 fun v H4 z fp5 sm2 vr2 hz2 => ?_
    exact k v H4 z ρ3 O3 [] ((((s1.trans s2).trans (.of_same sm)).trans s3).trans (.of_same sm2)) (by rw [plus_nil]; exact e3.drop.same0 sm2) ⟨rfl, vr2.2⟩ ((((p1.and p2).same sm).and p3).same sm2) hz2
theorem dchain {op op' : CmpOp} (hmk : lastMarks [op, op'] [b, c] = false) (ho : DOp X .cl (compareOp op) r) (ho' : DOp X .cl (compareOp op') r2) (ha : DE X κ pu1 .cl a Ea) (hb : DE X κ pu2 .cl b Eb) (hc : DE X κ pu3 .cl c Ec) : DE X κ ((pu1 && pu2) && pu3) .cl (.Compare a [op, op'] [b, c] pos) (eChain r r2 Ea Eb Ec) := by
  obtain ⟨r', h1, h2⟩ := ho.h
  obtain ⟨r2', h3, h4⟩ := ho'.h
  exact ⟨(pe_chain h1 h3 ha.h hb.h hc.h hmk).weak fun σ H Q h => chain_go (f := compareOp op) (f2 := compareOp op') h2 h4 h⟩
end
def eAndT (T U : DTT) : DTT := fun ρ q => T ρ fun c ρ1 => if c = true then U ρ1 q else q false ρ1
def eOrT (T U : DTT) : DTT := fun ρ q => T ρ fun c ρ1 => if c = true then q true ρ1 else U ρ1 q
def eNotT (T : DTT) : DTT := fun ρ q => T ρ fun c ρ1 => q (!c) ρ1
section
variable {X : Cx} {κ : List SK} {pu pu1 pu2 pu3 : Bool} {m1 m2 md : SK} {a b c e : Expr} {rest : List Expr} {pos : Pos} {Ea Eb Ec E : DTE} {T U : DTT}
theorem dneg (ha : DE X κ pu1 .cl a Ea) : DE X κ pu1 .cl (.UnaryOp .USub a pos) (fun ρ q => Ea ρ fun x ρ1 => ∃ i, x = .int i ∧ q (.int (-i)) ρ1) := by
  refine ⟨(pe_un un_neg ha.h).weak fun σ H Q ⟨G, O, ρ, q, hE, hq, k⟩ => ⟨G, O, ρ, _, hE, hq, fun vx H1 dx ρ1 O1 fp s1 e1 vo1 p1 ⟨c, ec, hc⟩ => ?_⟩⟩
  subst ec
  exact ⟨c, by simpa only [Rep] using vo1.2, k _ H1 _ ρ1 O1 [] s1 (by rw [plus_nil]; exact e1.drop) ⟨rfl, by simp only [Rep]⟩ p1 hc⟩
theorem dwand1 (ha : DT X κ pu a T) : DW X κ pu (.BoolOp .And [a] pos) T := ⟨pw_and1 ha.h⟩
theorem dwor1 (ha : DT X κ pu a T) : DW X κ pu (.BoolOp .Or [a] pos) T := ⟨pw_or1 ha.h⟩
theorem dwand (ha : DT X κ pu1 a T) (hb : DW X κ pu2 (.BoolOp .And (b :: rest) pos) U) : DW X κ (pu1 && pu2) (.BoolOp .And (a :: b :: rest) pos) (eAndT T U) := by
  refine ⟨(pw_and ha.h hb.h).weak fun σ H Q ⟨G, O, ρ, q, hE, hq, k⟩ => ⟨G, O, ρ, _, hE, hq, fun cb H1 ρ1 O1 s1 e1 p1 hc => ?_⟩⟩
  cases cb with
  | true =>
    rw [if_pos rfl] at hc ⊢
    exact ⟨G, O1, ρ1, _, e1, hc, fun b H2 ρ2 O2 s2 e2 p2 hq2 => k b H2 ρ2 O2 (s1.trans s2) e2 (p1.and p2) hq2⟩
  | false =>
    rw [if_neg Bool.false_ne_true] at hc ⊢
    exact k _ H1 ρ1 O1 s1 e1 (fun h => p1 (by rw [Bool.and_eq_true] at h; exact h.1)) hc
theorem dwor (ha : DT X κ pu1 a T) (hb : DW X κ pu2 (.BoolOp .Or (b :: rest) pos) U) : DW X κ (pu1 && pu2) (.BoolOp .Or (a :: b :: rest) pos) (eOrT T U) := by
  refine ⟨(pw_or ha.h hb.h).weak fun σ H Q ⟨G, O, ρ, q, hE, hq, k⟩ => ⟨G, O, ρ, _, hE, hq, fun cb H1 ρ1 O1 s1 e1 p1 hc => ?_⟩⟩
  cases cb with
  | false =>
    rw [if_neg Bool.false_ne_true] at hc ⊢
    exact ⟨G, O1, ρ1, _, e1, hc, fun b H2 ρ2 O2 s2 e2 p2 hq2 => k b H2 ρ2 O2 (s1.trans s2) e2 (p1.and p2) hq2⟩
  | true =>
    rw [if_pos rfl] at hc ⊢
    exact k _ H1 ρ1 O1 s1 e1 (fun h => p1 (by rw [Bool.and_eq_true] at h; exact h.1)) hc
theorem dtw (h : DW X κ pu e T) : DT X κ pu e T := ⟨h.h.pt⟩
theorem dtnot (ha : DT X κ pu a T) : DT X κ pu (.UnaryOp .Not a pos) (eNotT T) := ⟨(pt_not ha.h).weak fun σ H Q ⟨G, O, ρ, q, hE, hq, k⟩ => ⟨G, O, ρ, _, hE, hq, fun b H1 ρ1 O1 s1 e1 p1 hc => k _ H1 ρ1 O1 s1 e1 p1 hc⟩⟩
end
section
variable (K : PySem.W.Frag)
def tDA (κ : List SK) (pu lo : Bool) (E : DTA) : TA := fun σ H Q => ∃ G O ρ q, EnvOk K κ G O ρ σ H ∧ E ρ q ∧
  ∀ vs H' ds ρ' O', Step O O' H H' → EnvOk K κ G O' ρ' σ H' → Reps K (Sx lo G.S0 O') H' ds vs → Pu pu ρ ρ' O O' H H' → q ds ρ' → Q vs H'
end
structure DA (X : Cx) (κ : List SK) (pu lo : Bool) (es : List Expr) (E : DTA) : Prop where
  h : PA X es (tDA X.K κ pu lo E)
theorem PA.weak {X : Cx} {es : List Expr} {t t' : TA} (h : PA X es t) (w : ∀ σ H Q, t' σ H Q → t σ H Q) : PA X es t' := fun pos pins s σ H Q I q => h pos pins s σ H Q I (w σ H Q q)
def eNil : DTA := fun ρ q => q [] ρ
def eCons (E : DTE) (A : DTA) : DTA := fun ρ q => E ρ fun x ρ1 => A ρ1 fun xs ρ2 => q (x :: xs) ρ2
def eTup (A : DTA) : DTE := fun ρ q => A ρ fun ds ρ' => ds.length ≤ sizeLine ∧ q (.tup ds) ρ'
def eLst (A : DTA) : DTE := fun ρ q => A ρ fun ds ρ' => ds.length ≤ sizeLine ∧ q (.lst ds) ρ'
def eCallB (r : List D → (D → Prop) → Prop) (A : DTA) : DTE := fun ρ q => A ρ fun ds ρ' => r ds fun z => q z ρ'
section
variable {X : Cx} {κ : List SK} {pu pu1 pu2 lo : Bool} {m md : SK} {e : Expr} {es : List Expr} {pos p : Pos} {E : DTE} {A : DTA} {x : Str} {id T : String} {r : List D → (D → Prop) → Prop}
theorem danil : DA X κ true false [] eNil := ⟨pa_nil.weak fun σ H Q ⟨G, O, ρ, q, hE, hq, k⟩ => k [] H [] ρ O (.refl _ _) hE (by simp only [Reps]) .refl hq⟩
theorem dac (hs : plainE e = true) (vm : isV m) (hp : m = .lo → pu2 = true) (ha : DE X κ pu1 m e E) (hr : DA X κ pu2 lo es A) : DA X κ (pu1 && pu2) (loB m || lo) (e :: es) (eCons E A) := by
  refine ⟨(pac hs ha.h hr.h).weak fun σ H Q ⟨G, O, ρ, q, hE, hq, k⟩ => ⟨G, O, ρ, _, hE, hq, fun vx H1 dx ρ1 O1 fp s1 e1 vo1 p1 hq1 => ⟨G, O1, ρ1, _, e1.drop, hq1, fun vs H2 ds ρ2 O2 s2 e2 r2 p2 hq2 => ?_⟩⟩⟩
  refine k (vx :: vs) H2 (dx :: ds) ρ2 O2 (s1.trans s2) e2 ?_ (p1.and p2) hq2
  simp only [Reps]
  refine ⟨vx, vs, rfl, vo1.after vm (fun z => ⟨by rw [z]; rfl, (p2 (hp z)).1⟩) e1.drop.mutO s2, ?_⟩
  cases lo with
  | true => rw [Bool.or_true]; exact r2
  | false =>
    cases m with
    | lo => exact Reps.go (.less fun _ z => .inl z) ds vs r2
    | cl => exact r2
    | ow n => exact r2
    | io n => exact r2
theorem vres_tup {K : PySem.W.Frag} {S : Addr → Prop} {H : Hp} {ds : List D} {vs : List V} {p : Addr} (h : Reps K S H ds vs) (hp : H p = none) : VRes K S H (upd H p (.tup vs)) [] .cl (.tup ds) (.ref p) := by
  refine ⟨rfl, ?_⟩
  simp only [Rep]
  exact ⟨p, vs, rfl, SqT.of upd_same, Reps.go (Goes.same (.new hp)) ds vs h⟩
theorem vres_lst {K : PySem.W.Frag} {S : Addr → Prop} {H : Hp} {ds : List D} {vs : List V} {p : Addr} (h : Reps K S H ds vs) (hp : H p = none) : VRes K S H (upd H p (.lst vs)) [p] (.ow 1) (.lst ds) (.ref p) := by
  refine ⟨by simp, fun a ha => ?_, ?_⟩
  · obtain rfl : a = p := by simpa using ha
    exact ⟨hp, _, upd_same, trivial⟩
  · simp only [Own]
    refine ⟨p, ds.map fun _ => [], rfl, by simp, .inl ⟨ds, vs, rfl, upd_same, by simp, h.len, fun i f x u e1 e2 e3 => ⟨?_, ?_⟩⟩⟩
    · rw [List.getElem?_map, e2] at e1; simpa using e1.symm
    · obtain ⟨u', e4, r⟩ := h.get e2
      rw [e3] at e4; cases e4
      have eq : uni S (fpS [p]) = uni S (· = p) := by funext a; simp [uni, fpS]
      rw [eq]
      exact Rep.go (Goes.fresh hp) x u r
theorem dtup {k} (h : DA X κ pu lo es A) : DE X κ pu (outM lo .cl) (.Tuple es k pos) (eTup A) := by
  refine ⟨(pe_tup h.h).weak fun σ H Q ⟨G, O, ρ, q, hE, hq, k⟩ => ⟨G, O, ρ, _, hE, hq, fun vs H1 ds ρ1 O1 s1 e1 r1 p1 ⟨hl, hq1⟩ => ⟨by rw [r1.len]; exact hl, fun p hp => ?_⟩⟩⟩
  obtain ⟨fp', st, en, vo⟩ := VRes.fin e1 s1 (.new hp) (vres_tup r1 hp) (by simp)
  exact k _ _ _ ρ1 O1 fp' st en vo (p1.same (.new hp)) hq1
theorem dlst (h : DA X κ pu lo es A) : DE X κ pu (outM lo (.ow 1)) (.List es pos) (eLst A) := by
  refine ⟨(pe_lst h.h).weak fun σ H Q ⟨G, O, ρ, q, hE, hq, k⟩ => ⟨G, O, ρ, _, hE, hq, fun vs H1 ds ρ1 O1 s1 e1 r1 p1 ⟨hl, hq1⟩ => ⟨by rw [r1.len]; exact hl, fun p hp => ?_⟩⟩⟩
  obtain ⟨fp', st, en, vo⟩ := VRes.fin e1 s1 (.new hp) (vres_lst r1 hp) (by simp)
  exact k _ _ _ ρ1 O1 fp' st en vo (p1.same (.new hp)) hq1
theorem callB_go {r' : List V → Hp → VK → Prop} (hr : ∀ S H ds vs q Q, Reps X.K S H ds vs → r ds q → (∀ v H' z fp, Same H H' → VRes X.K S H H' fp md z v → q z → Q v H') → r' vs H Q) (hm : md ≠ .lo) {σ : St} {H : Hp} {Q : VK}
    (h : tD X.K κ pu (outM lo md) (eCallB r A) σ H Q) : tCB r' (tDA X.K κ pu lo A) σ H Q := by
  obtain ⟨G, O, ρ, q, hE, hq, k⟩ := h
  refine ⟨G, O, ρ, _, hE, hq, fun vs H1 ds ρ1 O1 s1 e1 r1 p1 hq1 => hr _ H1 ds vs _ Q r1 hq1 fun v H' z fp sm vr hz => ?_⟩
  obtain ⟨fp', st, en, vo⟩ := VRes.fin e1 s1 sm vr hm
  exact k _ _ _ ρ1 O1 fp' st en vo (p1.same sm) hz
theorem dcb (hp : (e :: es).all plainE = true) (hn : x ≠ "__name__") (hdb : (x == ("__debug__" : Str)) = false) (hc : DCall X md (.builtin id) r) (hm : md ≠ .lo) (hg : Gl X x) (hmg : X.mg x = none) (hv : bootBuiltins x = some (.builtin id)) (ha : DA X κ pu lo (e :: es) A) : DE X κ pu (outM lo md) (.Call (.Name x p) (e :: es) [] pos) (eCallB r A) := by
  obtain ⟨r', h1, h2⟩ := hc.h
  exact ⟨(pcb hp hn hdb h1 hg hmg hv ha.h).weak fun σ H Q h => callB_go h2 hm h⟩
theorem dct (hp : (e :: es).all plainE = true) (hn : x ≠ "__name__") (hdb : (x == ("__debug__" : Str)) = false) (hc : DCall X md (.type T) r) (hm : md ≠ .lo) (hg : Gl X x) (hmg : X.mg x = none) (hv : bootBuiltins x = some (.type T)) (ha : DA X κ pu lo (e :: es) A) : DE X κ pu (outM lo md) (.Call (.Name x p) (e :: es) [] pos) (eCallB r A) := by
  obtain ⟨r', h1, h2⟩ := hc.h
  exact ⟨(pct hp hn hdb h1 hg hmg hv ha.h).weak fun σ H Q h => callB_go h2 hm h⟩
end
def setF (F : Nat → List Addr) (i : Nat) (f : List Addr) : Nat → List Addr := fun k => if k = i then f else F k
def OF (F : Nat → List Addr) : Addr → Prop := fun a => ∃ k, a ∈ F k
theorem setF_at {F : Nat → List Addr} {i : Nat} {f : List Addr} : setF F i f i = f := by simp [setF]
theorem setF_ne {F : Nat → List Addr} {i k : Nat} {f : List Addr} (h : k ≠ i) : setF F i f k = F k := by simp [setF, h]
def kl (κ : List SK) (ρ : EnvD) : EnvD := if κ.contains .lo then ρ.mapIdx fun i d => if kd κ i = .lo then none else d else ρ
theorem kl_len (κ : List SK) (ρ : EnvD) : (kl κ ρ).length = ρ.length := by unfold kl; split <;> simp
theorem kl_get {κ : List SK} {ρ : EnvD} {i : Nat} {d : D} (h : (kl κ ρ)[i]? = some (some d)) : ρ[i]? = some (some d) ∧ kd κ i ≠ .lo := by
  unfold kl at h
  split at h
  · rename_i hc
    rw [List.getElem?_mapIdx] at h
    cases e : ρ[i]? with
    | none => rw [e] at h; cases h
    | some o =>
      rw [e] at h
      simp only [Option.map_some, Option.some.injEq] at h
      split at h
      · cases h
      · rename_i hn; subst h; exact ⟨rfl, hn⟩
  · rename_i hc
    refine ⟨h, fun z => hc ?_⟩
    unfold kd at z
    rw [List.getD_eq_getElem?_getD] at z
    cases e : κ[i]? with
    | none => rw [e] at z; cases z
    | some k =>
      rw [e] at z
      have z : k = .lo := z
      subst z
      exact List.contains_iff_mem.mpr (List.mem_of_getElem? e)
section
variable {K : PySem.W.Frag} {κ : List SK} {G : G0} {O O' : Addr → Prop} {ρ : EnvD} {σ : St} {H H' : Hp} {F : Nat → List Addr}
theorem VOk.based {S0 : Addr → Prop} {H0 : Hp} {fp : List Addr} {md : SK} {d : D} {v : V} (hd : ∀ b, H0 b ≠ none → H b ≠ none) (h : VOk K S0 O' H H' fp md d v) : VOk K S0 O' H0 H' fp md d v := by
  cases md with
  | cl => exact h
  | lo => exact h
  | io n => exact h
  | ow n =>
    obtain ⟨nd, h2, h3⟩ := h
    refine ⟨nd, fun a ha => ⟨?_, (h2 a ha).2⟩, h3⟩
    cases e : H0 a with
    | none => rfl
    | some o => exact absurd (h2 a ha).1 (hd a (by rw [e]; simp))
theorem EnvF.chg {i n : Nat} {f' fp : List Addr} {d' : D} {v : V} (f : EnvF K κ G O ρ σ H F) (hk : dep (kd κ i) = some n) (keep : ∀ b o, b ∉ F i → H b = some o → H' b = some o) (dom : ∀ b, H b ≠ none → H' b ≠ none)
    (nd : f'.Nodup) (hf : ∀ a ∈ f', (a ∈ F i ∨ H a = none) ∧ ∃ o, H' a = some o ∧ isM o) (hfp : ∀ a ∈ fp, H a = none ∧ H' a ≠ none ∧ a ∉ f') (hv : σ[i]? = some (some v))
    (ho : Own K (uni (uni G.S0 (fpS fp)) (OF (setF F i f'))) H' n f' d' v) :
    EnvF K κ (G.plus fp) (OF (setF F i f')) (kl κ (ρ.set i (some d'))) σ H' (setF F i f') ∧ Step O (OF (setF F i f')) H H' := by
  have old : ∀ k a, k ≠ i → a ∈ F k → a ∉ F i := fun k a hki ha z => hki (f.dis k i a ha z)
  have inO : ∀ k a, a ∈ F k → O a := fun k a ha => (f.own a).mpr ⟨k, ha⟩
  have domF : ∀ k a, a ∈ F k → H a ≠ none := fun k a ha => by obtain ⟨_, o, e, _⟩ := f.mu k a ha; rw [e]; simp
  have g : Goes (uni G.S0 O) (uni (uni G.S0 (fpS fp)) (OF (setF F i f'))) H H' := by
    refine ⟨fun a xs q => ?_, fun a u nS q => ⟨?_, fun z => ?_⟩, fun a o u q => keep _ _ (fun z => by obtain ⟨_, o', e, m⟩ := f.mu i a z; rw [q] at e; cases e; exact m) q⟩
    · have nF : a ∉ F i := fun z => by
        obtain ⟨_, o, e, m⟩ := f.mu i a z
        rcases q with q | ⟨o', q⟩ <;> (rw [q] at e; cases e; exact m)
      rcases q with q | ⟨o, q⟩
      · exact .inl (keep _ _ nF q)
      · exact .inr ⟨o, keep _ _ nF q⟩
    · have nF : a ∉ F i := fun z => nS (.inr (inO i a z))
      rcases q with q | ⟨o, q⟩
      · exact .inl (keep _ _ nF q)
      · exact .inr ⟨o, keep _ _ nF q⟩
    · obtain ⟨o, e⟩ := q.some
      rcases z with (z | z) | ⟨k, z⟩
      · exact nS (.inl z)
      · rw [(hfp a z).1] at e; cases e
      · by_cases hki : k = i
        · subst hki
          rw [setF_at] at z
          rcases (hf a z).1 with w | w
          · exact nS (.inr (inO _ a w))
          · rw [w] at e; cases e
        · rw [setF_ne hki] at z
          exact nS (.inr (inO k a z))
  have mu' : ∀ k a, a ∈ setF F i f' k → ¬ (G.plus fp).S0 a ∧ ∃ o, H' a = some o ∧ isM o := fun k a ha => by
    by_cases hki : k = i
    · subst hki
      rw [setF_at] at ha
      refine ⟨fun z => ?_, (hf a ha).2⟩
      rcases z with z | z
      · rcases (hf a ha).1 with w | w
        · exact (f.mu _ a w).1 z
        · exact f.s0 a z w
      · exact (hfp a z).2.2 ha
    · rw [setF_ne hki] at ha
      obtain ⟨n1, o, e, m⟩ := f.mu k a ha
      refine ⟨fun z => ?_, o, keep a o (old k a hki ha) e, m⟩
      rcases z with z | z
      · exact n1 z
      · exact domF k a ha (hfp a z).1
  refine ⟨⟨?_, fun a => Iff.rfl, fun k hn => ?_, fun k j a h1 h2 => ?_, fun k => ?_, mu', fun k a ha => ?_, f.par, fun p hp => Rep.go g _ _ (f.gh p hp), fun a z => ?_, fun b o n1 e => ?_, fun b e => dom b (f.dom b e), fun k d e => ?_⟩, ?_⟩
  · rw [kl_len, List.length_set]; exact f.len
  · have hki : k ≠ i := by rintro rfl; rw [hk] at hn; cases hn
    rw [setF_ne hki]; exact f.non k hn
  · by_cases hki : k = i
    · by_cases hji : j = i
      · rw [hki, hji]
      · rw [hki, setF_at] at h1
        rw [setF_ne hji] at h2
        rcases (hf a h1).1 with w | w
        · exact absurd w (old j a hji h2)
        · exact absurd w (domF j a h2)
    · rw [setF_ne hki] at h1
      by_cases hji : j = i
      · rw [hji, setF_at] at h2
        rcases (hf a h2).1 with w | w
        · exact absurd w (old k a hki h1)
        · exact absurd w (domF k a h1)
      · rw [setF_ne hji] at h2
        exact f.dis k j a h1 h2
  · by_cases hki : k = i
    · rw [hki, setF_at]; exact nd
    · rw [setF_ne hki]; exact f.nd k
  · by_cases hki : k = i
    · subst hki
      rw [setF_at] at ha
      rcases (hf a ha).1 with w | w
      · exact f.new _ a w
      · right
        show G.H0 a = none
        cases e : G.H0 a with
        | none => rfl
        | some o => exact absurd w (f.dom a (by rw [e]; simp))
    · rw [setF_ne hki] at ha
      exact f.new k a ha
  · rcases z with z | z
    · exact dom a (f.s0 a z)
    · exact (hfp a z).2.1
  · refine keep b o (fun z => ?_) (f.keep b o n1 e)
    rcases f.new i b z with w | w
    · exact n1 w.2
    · rw [show G.H0 b = some o from e] at w; cases w
  · obtain ⟨e, hlo⟩ := kl_get e
    by_cases hki : k = i
    · subst hki
      have hl : k < ρ.length := by rw [f.len]; exact (List.getElem?_eq_some_iff.mp hv).1
      rw [List.getElem?_set_self hl] at e
      cases e
      refine ⟨v, hv, ?_⟩
      rw [setF_at]
      cases q : kd κ k with
      | cl => rw [q] at hk; cases hk
      | lo => rw [q] at hk; cases hk
      | ow m => rw [q] at hk; cases hk; exact ho
      | io m => rw [q] at hk; cases hk; exact ho
    · rw [List.getElem?_set_ne (Ne.symm hki)] at e
      obtain ⟨w, e1, e2⟩ := f.slot k d e
      refine ⟨w, e1, ?_⟩
      rw [setF_ne hki]
      have ko : ∀ a ∈ F k, ∀ o, H a = some o → H' a = some o := fun a ha o eo => keep a o (old k a hki ha) eo
      cases q : kd κ k with
      | cl => rw [q] at e2; exact Rep.go g d w e2
      | ow n => rw [q] at e2; exact Own.go g n _ d w ko e2
      | io n => rw [q] at e2; exact Own.go g n _ d w ko e2
      | lo => exact absurd q hlo
  · refine ⟨fun b o n1 e => keep b o (fun z => n1 (inO i b z)) e, fun a ⟨k, z⟩ => ?_, dom⟩
    by_cases hki : k = i
    · subst hki
      rw [setF_at] at z
      rcases (hf a z).1 with w | w
      · exact .inl (inO _ a w)
      · exact .inr w
    · rw [setF_ne hki] at z
      exact .inl (inO k a z)
theorem setSt {σ : St} {i k : Nat} {v : V} (h : k ≠ i) : (σ.set i (some v))[k]? = σ[k]? := by rw [List.getElem?_set_ne (Ne.symm h)]
theorem EnvOk.put {i : Nat} {d : D} {v : V} (h : EnvOk K κ G O ρ σ H) (hk : (kd κ i = .cl ∧ Rep K (uni G.S0 O) H d v) ∨ (kd κ i = .lo ∧ Rep K G.S0 H d v)) : EnvOk K κ G O (ρ.set i (some d)) (σ.set i (some v)) H := by
  obtain ⟨F, f⟩ := h
  refine ⟨F, by simp [f.len], f.own, f.non, f.dis, f.nd, f.mu, f.new, fun k n e => ?_, f.gh, f.s0, f.keep, f.dom, fun k d' e => ?_⟩
  · have hki : k ≠ i := by rintro rfl; rcases hk with ⟨z, _⟩ | ⟨z, _⟩ <;> (rw [z] at e; cases e)
    rw [setSt hki]; exact f.par k n e
  · by_cases hki : k = i
    · subst hki
      have hl : k < ρ.length := by
        have := (List.getElem?_eq_some_iff.mp e).1
        simpa using this
      rw [List.getElem?_set_self hl] at e
      cases e
      refine ⟨v, List.getElem?_set_self (by rw [← f.len]; exact hl), ?_⟩
      rcases hk with ⟨z, r⟩ | ⟨z, r⟩ <;> (rw [z]; exact r)
    · rw [List.getElem?_set_ne (Ne.symm hki)] at e
      obtain ⟨w, e1, e2⟩ := f.slot k d' e
      exact ⟨w, by rw [setSt hki]; exact e1, e2⟩
theorem EnvOk.putO {i n : Nat} {d : D} {v : V} {fp : List Addr} {Hb : Hp} (hk : kd κ i = .ow n) (h : EnvOk K κ (G.plus fp) O ρ σ H) (hd : ∀ b, G.H0 b ≠ none → Hb b ≠ none) (hs : ∀ a, G.S0 a → Hb a ≠ none) (vo : VOk K G.S0 O Hb H fp (.ow n) d v) :
    ∃ O', EnvOk K κ G O' (ρ.set i (some d)) (σ.set i (some v)) H := by
  obtain ⟨F, f⟩ := h
  obtain ⟨nd, h2, h3⟩ := vo
  have fne : ∀ k a, a ∈ F k → a ∉ fp := fun k a ha z => (f.mu k a ha).1 (.inr z)
  have le : ∀ a, uni G.S0 (OF (setF F i fp)) a → uni (uni G.S0 (fpS fp)) O a := fun a z => by
    rcases z with z | ⟨k, z⟩
    · exact .inl (.inl z)
    · by_cases hki : k = i
      · rw [hki, setF_at] at z; exact .inl (.inr z)
      · rw [setF_ne hki] at z; exact .inr ((f.own a).mpr ⟨k, z⟩)
  refine ⟨OF (setF F i fp), setF F i fp, by simp [f.len], fun a => Iff.rfl, fun k hn => ?_, fun k j a h1 h2' => ?_, fun k => ?_, fun k a ha => ?_, fun k a ha => ?_, fun k m e => ?_, fun p hp => ?_, fun a z => f.s0 a (.inl z), f.keep, f.dom, fun k d' e => ?_⟩
  · have hki : k ≠ i := by rintro rfl; rw [hk] at hn; cases hn
    rw [setF_ne hki]; exact f.non k hn
  · by_cases hki : k = i
    · by_cases hji : j = i
      · rw [hki, hji]
      · rw [hki, setF_at] at h1
        rw [setF_ne hji] at h2'
        exact absurd h1 (fne j a h2')
    · rw [setF_ne hki] at h1
      by_cases hji : j = i
      · rw [hji, setF_at] at h2'
        exact absurd h2' (fne k a h1)
      · rw [setF_ne hji] at h2'
        exact f.dis k j a h1 h2'
  · by_cases hki : k = i
    · rw [hki, setF_at]; exact nd
    · rw [setF_ne hki]; exact f.nd k
  · by_cases hki : k = i
    · rw [hki, setF_at] at ha
      exact ⟨fun z => hs a z (h2 a ha).1, (h2 a ha).2.2⟩
    · rw [setF_ne hki] at ha
      exact ⟨fun z => (f.mu k a ha).1 (.inl z), (f.mu k a ha).2⟩
  · by_cases hki : k = i
    · rw [hki, setF_at] at ha
      right
      cases e : G.H0 a with
      | none => rfl
      | some o => exact absurd (h2 a ha).1 (hd a (by rw [e]; simp))
    · rw [setF_ne hki] at ha
      exact f.new k a ha
  · have hki : k ≠ i := by rintro rfl; rw [hk] at e; cases e
    rw [setSt hki]; exact f.par k m e
  · exact Rep.go (.less le) _ _ (f.gh p hp)
  · by_cases hki : k = i
    · subst hki
      have hl : k < ρ.length := by
        have := (List.getElem?_eq_some_iff.mp e).1
        simpa using this
      rw [List.getElem?_set_self hl] at e
      cases e
      refine ⟨v, List.getElem?_set_self (by rw [← f.len]; exact hl), ?_⟩
      rw [hk, setF_at]
      exact Own.go (.less le) n _ _ v (fun _ _ _ h => h) h3
    · rw [List.getElem?_set_ne (Ne.symm hki)] at e
      obtain ⟨w, e1, e2⟩ := f.slot k d' e
      refine ⟨w, by rw [setSt hki]; exact e1, ?_⟩
      rw [setF_ne hki]
      cases q : kd κ k with
      | cl => rw [q] at e2; exact Rep.go (.less le) d' w e2
      | ow n => rw [q] at e2; exact Own.go (.less le) n _ d' w (fun _ _ _ h => h) e2
      | io n => rw [q] at e2; exact Own.go (.less le) n _ d' w (fun _ _ _ h => h) e2
      | lo => rw [q] at e2; exact Rep.go (.less fun a z => .inl z) d' w e2
end
structure DEnds where
  nx : EnvD → Prop
  rt : D → EnvD → Prop
  bk : EnvD → Prop := fun _ => False
  ct : EnvD → Prop := fun _ => False
abbrev DTS := DEnds → EnvD → Prop
def tDS (K : PySem.W.Frag) (κ : List SK) (md : SK) (T : DTS) : TS := fun D σ H => ∃ G O ρ De, EnvOk K κ G O ρ σ H ∧ T De ρ ∧
  (∀ σ' H' ρ' O', EnvOk K κ G O' ρ' σ' H' → De.nx ρ' → D.nx σ' H') ∧ (∀ σ' H' ρ' O', EnvOk K κ G O' ρ' σ' H' → De.bk ρ' → D.bk σ' H') ∧ (∀ σ' H' ρ' O', EnvOk K κ G O' ρ' σ' H' → De.ct ρ' → D.ct σ' H') ∧
  ∀ v H' d ρ' O' fp σ', EnvOk K κ (G.plus fp) O' ρ' σ' H' → VOk K G.S0 O' G.H0 H' fp md d v → De.rt d ρ' → D.rt v H'
structure DS (X : Cx) (κ : List SK) (md : SK) (s : Stmt) (T : DTS) : Prop where
  h : PS X s (tDS X.K κ md T)
structure DSs (X : Cx) (κ : List SK) (md : SK) (s : List Stmt) (T : DTS) : Prop where
  h : PSs X s (tDS X.K κ md T)
theorem PS.weak {X : Cx} {s : Stmt} {t t' : TS} (h : PS X s t) (w : ∀ D σ H, t' D σ H → t D σ H) : PS X s t' := fun pins s σ H D I q => h pins s σ H D I (w D σ H q)
theorem PSs.weak {X : Cx} {s : List Stmt} {t t' : TS} (h : PSs X s t) (w : ∀ D σ H, t' D σ H → t D σ H) : PSs X s t' := fun pins s σ H D I q => h pins s σ H D I (w D σ H q)
theorem EnvOk.dom {K : PySem.W.Frag} {κ : List SK} {G : G0} {O : Addr → Prop} {ρ : EnvD} {σ : St} {H : Hp} (h : EnvOk K κ G O ρ σ H) : ∀ b, G.H0 b ≠ none → H b ≠ none := let ⟨_, f⟩ := h; f.dom
def sNext : DTS := fun De ρ => De.nx ρ
def sSeq (T U : DTS) : DTS := fun De ρ => T { De with nx := U De } ρ
def sIf (c : DTT) (T U : DTS) : DTS := fun De ρ => c ρ fun b ρ1 => if b = true then T De ρ1 else U De ρ1
def sRet (E : DTE) : DTS := fun De ρ => E ρ De.rt
def sSet (i : Nat) (E : DTE) : DTS := fun De ρ => E ρ fun d ρ' => De.nx (ρ'.set i (some d))
section
variable {X : Cx} {κ : List SK} {md m : SK} {pu : Bool} {st : Stmt} {sts l r : List Stmt} {T U : DTS} {c e : Expr} {E : DTE} {C : DTT} {pos pos' : Pos} {x : Str}
theorem dsnil : DSs X κ md [] sNext := ⟨pss_nil.weak fun D σ H ⟨G, O, ρ, De, hE, hT, nx, _⟩ => nx σ H ρ O hE hT⟩
theorem dscons (h1 : DS X κ md st T) (h2 : DSs X κ md sts U) : DSs X κ md (st :: sts) (sSeq T U) :=
  ⟨(pss_cons h1.h h2.h).weak fun D σ H ⟨G, O, ρ, De, hE, hT, nx, bk, ct, rt⟩ => ⟨G, O, ρ, { De with nx := U De }, hE, hT, fun σ' H' ρ' O' e' hU => ⟨G, O', ρ', De, e', hU, nx, bk, ct, rt⟩, bk, ct, rt⟩⟩
theorem dsone (h1 : DS X κ md st T) : DSs X κ md [st] T := ⟨pss_one h1.h⟩
theorem dcont : DS X κ md (.Continue pos) (fun De ρ => De.ct ρ) := ⟨ps_continue.weak fun D σ H ⟨G, O, ρ, De, hE, hT, nx, bk, ct, _⟩ => ct σ H ρ O hE hT⟩
theorem dif (hc : DT X κ pu c C) (ha : DSs X κ md l T) (hb : DSs X κ md r U) : DS X κ md (.If c l r pos) (sIf C T U) := by
  refine ⟨(ps_if hc.h ha.h hb.h).weak fun D σ H ⟨G, O, ρ, De, hE, hT, nx, bk, ct, rt⟩ => ⟨G, O, ρ, _, hE, hT, fun b H1 ρ1 O1 s1 e1 p1 hq => ?_⟩⟩
  cases b with
  | true => rw [if_pos rfl] at hq ⊢; exact ⟨G, O1, ρ1, De, e1, hq, nx, bk, ct, rt⟩
  | false => rw [if_neg Bool.false_ne_true] at hq ⊢; exact ⟨G, O1, ρ1, De, e1, hq, nx, bk, ct, rt⟩
theorem dret (h : DE X κ pu md e E) : DS X κ md (.Return (some e) pos) (sRet E) :=
  ⟨(ps_ret h.h).weak fun D σ H ⟨G, O, ρ, De, hE, hT, nx, bk, ct, rt⟩ => ⟨G, O, ρ, De.rt, hE, hT, fun v H' d ρ' O' fp s1 e1 vo p1 hq => rt v H' d ρ' O' fp σ e1 (vo.based hE.dom) hq⟩⟩
theorem dset {i : Nat} (hs : swapsWith e (some (.Name x pos')) pos.line X.env = pure false) (hf : X.fn x = true ∨ X.env.scope.names.lookup x = some .local) (hN : X.N.Nodup) (hi : X.N[i]? = some x) (hx : Loc X.env.scope x) (hk : kd κ i = .cl) (h : DE X κ pu .cl e E) : DS X κ md (.Assign [.Name x pos'] e pos) (sSet i E) :=
  ⟨(ps_set hN hi hx h.h hs hf).weak fun D σ H ⟨G, O, ρ, De, hE, hT, nx, bk, ct, rt⟩ => ⟨G, O, ρ, _, hE, hT, fun v H' d ρ' O' fp s1 e1 vo p1 hq => nx _ H' _ O' (e1.drop.put (.inl ⟨hk, vo.2⟩)) hq⟩⟩
theorem dsetO {i n : Nat} (hs : swapsWith e (some (.Name x pos')) pos.line X.env = pure false) (hf : X.fn x = true ∨ X.env.scope.names.lookup x = some .local) (hN : X.N.Nodup) (hi : X.N[i]? = some x) (hx : Loc X.env.scope x) (hk : kd κ i = .ow n) (h : DE X κ pu (.ow n) e E) : DS X κ md (.Assign [.Name x pos'] e pos) (sSet i E) :=
  ⟨(ps_set hN hi hx h.h hs hf).weak fun D σ H ⟨G, O, ρ, De, hE, hT, nx, bk, ct, rt⟩ => ⟨G, O, ρ, _, hE, hT, fun v H' d ρ' O' fp s1 e1 vo p1 hq => by
    obtain ⟨O2, e2⟩ := EnvOk.putO hk e1 hE.dom hE.s0 vo
    exact nx _ H' _ O2 e2 hq⟩⟩
end
abbrev DTG := D → EnvD → (EnvD → Prop) → Prop
def tDG (K : PySem.W.Frag) (κ : List SK) (md : SK) (g : DTG) : TG := fun v σ H Q => ∃ G O ρ q d, EnvOk K κ G O ρ σ H ∧ Rep K (Sx (loB md) G.S0 O) H d v ∧ g d ρ q ∧ ∀ σ' ρ', EnvOk K κ G O ρ' σ' H → q ρ' → Q σ' H
structure DG (X : Cx) (κ : List SK) (md : SK) (e : Expr) (g : DTG) : Prop where
  h : PG X e (tDG X.K κ md g)
def tDGs (K : PySem.W.Frag) (κ : List SK) (md : SK) (g : List D → EnvD → (EnvD → Prop) → Prop) : TGs := fun vs σ H Q => ∃ G O ρ q ds, EnvOk K κ G O ρ σ H ∧ Reps K (Sx (loB md) G.S0 O) H ds vs ∧ g ds ρ q ∧ ∀ σ' ρ', EnvOk K κ G O ρ' σ' H → q ρ' → Q σ' H
structure DGs (X : Cx) (κ : List SK) (md : SK) (es : List Expr) (g : List D → EnvD → (EnvD → Prop) → Prop) : Prop where
  h : PGs X es (tDGs X.K κ md g)
theorem PG.weak {X : Cx} {e : Expr} {t t' : TG} (h : PG X e t) (w : ∀ v σ H Q, t' v σ H Q → t v σ H Q) : PG X e t' := fun pins s σ H v u Q I r q => h pins s σ H v u Q I r (w v σ H Q q)
theorem PGs.weak {X : Cx} {e : List Expr} {t t' : TGs} (h : PGs X e t) (w : ∀ v σ H Q, t' v σ H Q → t v σ H Q) : PGs X e t' := fun pins s σ H v u Q I r q => h pins s σ H v u Q I r (w v σ H Q q)
def gdName (i : Nat) : DTG := fun d ρ q => q (ρ.set i (some d))
def gdNil : List D → EnvD → (EnvD → Prop) → Prop := fun ds ρ q => ds = [] ∧ q ρ
def gdCons (g : DTG) (gs : List D → EnvD → (EnvD → Prop) → Prop) : List D → EnvD → (EnvD → Prop) → Prop := fun ds ρ q => ∃ d r, ds = d :: r ∧ g d ρ fun ρ' => gs r ρ' q
def gdTup (n : Nat) (gs : List D → EnvD → (EnvD → Prop) → Prop) : DTG := fun d ρ q => ∃ ds, d = .tup ds ∧ ds.length = n ∧ gs ds ρ q
def sAsg (E : DTE) (g : DTG) : DTS := fun De ρ => E ρ fun d ρ' => g d ρ' De.nx
section
variable {X : Cx} {κ : List SK} {md : SK} {pu : Bool} {e tg : Expr} {es : List Expr} {E : DTE} {pos : Pos} {x : Str} {g : DTG} {gs : List D → EnvD → (EnvD → Prop) → Prop}
theorem dgname {i : Nat} (hf : X.fn x = true ∨ X.env.scope.names.lookup x = some .local) (hN : X.N.Nodup) (hi : X.N[i]? = some x) (hx : Loc X.env.scope x) (hk : (md = .cl ∧ kd κ i = .cl) ∨ (md = .lo ∧ kd κ i = .lo)) : DG X κ md (.Name x pos) (gdName i) := by
  refine ⟨(pg_name hN hi hx hf).weak fun v σ H Q ⟨G, O, ρ, q, d, hE, hr, hg, k⟩ => k _ _ (hE.put ?_) hg⟩
  rcases hk with ⟨rfl, h⟩ | ⟨rfl, h⟩
  · exact .inl ⟨h, hr⟩
  · exact .inr ⟨h, hr⟩
theorem dgnil : DGs X κ md [] gdNil := ⟨pgs_nil.weak fun vs σ H Q ⟨G, O, ρ, q, ds, hE, hr, ⟨h1, h2⟩, k⟩ => ⟨by subst h1; simpa only [Reps] using hr, k _ _ hE h2⟩⟩
theorem dgcons (hs : (assignEach (e :: es) X.env).map (·.2) = assign e X.env :: (assignEach es X.env).map (·.2)) (h1 : DG X κ md e g) (h2 : DGs X κ md es gs) : DGs X κ md (e :: es) (gdCons g gs) := by
  refine ⟨(pgs_cons h1.h h2.h hs).weak fun vs σ H Q ⟨G, O, ρ, q, ds, hE, hr, ⟨d, r, ed, hg⟩, k⟩ => ?_⟩
  subst ed
  simp only [Reps] at hr
  obtain ⟨v, vr, rfl, r1, r2⟩ := hr
  exact ⟨v, vr, rfl, G, O, ρ, _, d, hE, r1, hg, fun σ' ρ' e' hq => ⟨G, O, ρ', q, r, e', r2, hq, k⟩⟩
theorem dgtup {k n : Nat} (hn : (assignEach es X.env).length = n) (hst : (assignEach es X.env).findIdx? (·.1) = none) (hc : X.calm = true) (h : DGs X κ md es gs) : DG X κ md (.Tuple es k pos) (gdTup n gs) := by
  refine ⟨(pg_tup hc h.h hn hst).weak fun v σ H Q ⟨G, O, ρ, q, d, hE, hr, ⟨ds, ed, hl, hg⟩, k⟩ => ?_⟩
  subst ed
  simp only [Rep] at hr
  obtain ⟨a, vs, rfl, hq, r⟩ := hr
  exact ⟨a, vs, rfl, hq, by rw [r.len]; exact hl, G, O, ρ, q, ds, hE, r, hg, k⟩
theorem dasg (hs : swapsWithSole [tg] e pos.line X.env = pure false) (hw : swappedStores [tg] e X.env = pure none) (h1 : (assignEach [tg] X.env).map (·.2) = [assign tg X.env]) (hm : md = .cl ∨ md = .lo) (he : DE X κ pu md e E) (hg : DG X κ md tg g) {mr : SK} : DS X κ mr (.Assign [tg] e pos) (sAsg E g) := by
  refine ⟨(ps_asg he.h hg.h hs hw h1).weak fun D σ H ⟨G, O, ρ, De, hE, hT, nx, bk, ct, rt⟩ => ⟨G, O, ρ, _, hE, hT, fun v H' d ρ' O' fp s1 e1 vo p1 hq => ⟨G, O', ρ', De.nx, d, e1.drop, ?_, hq, fun σ' ρ2 e2 h2 => nx σ' H' ρ2 O' e2 h2⟩⟩⟩
  rcases hm with rfl | rfl
  · exact vo.2
  · exact vo.2
end
def spP (K : PySem.W.Frag) (np : Nat) (md : SK) (sd : List D → (D → Prop) → Prop) : Sp := fun vs H Q _ => ∃ S0 ds q, vs.length = np ∧ (∀ a, S0 a → H a ≠ none) ∧ Reps K S0 H ds vs ∧ sd ds q ∧ ∀ v H' d fp, Same H H' → VRes K S0 H H' fp md d v → q d → Q v H'
def spX (K : PySem.W.Frag) (np j n : Nat) (md : SK) (sd : List D → (D → D → Prop) → Prop) : Sp := fun vs H Q _ => ∃ S0 ds q f vj dj, vs.length = np ∧ ds.length = np ∧ vs[j]? = some vj ∧ ds[j]? = some dj ∧ (∀ a, S0 a → H a ≠ none) ∧ f.Nodup ∧ (∀ a ∈ f, ¬ S0 a ∧ ∃ o, H a = some o ∧ isM o) ∧
  (∀ k x d, k ≠ j → vs[k]? = some x → ds[k]? = some d → Rep K (uni S0 (fpS f)) H d x) ∧ Own K (uni S0 (fpS f)) H n f dj vj ∧ sd ds q ∧
  ∀ v H' d d' fp f', Step (fpS f) (fpS f') H H' → f'.Nodup → (∀ a ∈ f', ¬ S0 a ∧ a ∉ fp ∧ ∃ o, H' a = some o ∧ isM o) → Own K (uni (uni S0 (fpS fp)) (fpS f')) H' n f' d' vj → VOk K S0 (fpS f') H H' fp md d v → (∀ a ∈ fp, H' a ≠ none) → q d d' → Q v H'
def startD (n : Nat) (ds : List D) : EnvD := ds.map some ++ List.replicate (n - ds.length) none
theorem start_get {N : List Str} {vs : List V} {ds : List D} {i : Nat} {d : D} (hl : ds.length = vs.length) (h : (startD N.length ds)[i]? = some (some d)) : ds[i]? = some d ∧ ∃ v, vs[i]? = some v ∧ (start N vs)[i]? = some (some v) := by
  unfold startD at h
  by_cases hi : i < ds.length
  · rw [List.getElem?_append_left (by simpa using hi), List.getElem?_map] at h
    have hd : ds[i]? = some d := by
      cases e : ds[i]? with
      | none => rw [e] at h; cases h
      | some a => rw [e] at h; cases h; rfl
    refine ⟨hd, vs[i]'(by omega), List.getElem?_eq_getElem _, ?_⟩
    unfold start
    rw [List.getElem?_append_left (by simp; omega), List.getElem?_map, List.getElem?_eq_getElem (by omega)]
    rfl
  · rw [List.getElem?_append_right (by simpa using hi), List.getElem?_replicate] at h
    split at h <;> cases h
theorem start_len {N : List Str} {vs : List V} (h : vs.length ≤ N.length) : (start N vs).length = N.length := by
  unfold start; simp; omega
theorem startD_len {n : Nat} {ds : List D} (h : ds.length ≤ n) : (startD n ds).length = n := by
  unfold startD; simp; omega
section
variable {P : Program} {w : World} {K : PySem.W.Frag} {mg : Str → Option Value} {base : Heap} {x qual : Str} {st : Stmt} {f : Addr} {fd : FuncData} {N ps : List Str} {k : Nat} {κ : List SK} {md : SK}
theorem fnP {T : DTS} {sd : List D → (D → Prop) → Prop} (F : Fun K x qual st f fd) (S : FnScope N ps (defScope st)) (hκ : ∀ i n, kd κ i ≠ .io n) (hp : ∀ i, i < ps.length → kd κ i = .cl) (hmd : md = .cl ∨ ∃ n, md = .ow n)
    (hb : ∀ (cdv : Value) (A : Around) (outer : List Env) (s : Shared) (H : Hp) (E : XK), Room k (A.deeper (envOfC qual (defScope st) s.heap.objs.size f cdv)) → DSs (cxOf CX0 P w K mg base N qual (defScope st) f cdv A outer s H E).nox κ md (defBody st) T)
    (hs : ∀ ds q, ds.length = ps.length → sd ds q → T { nx := fun _ => md = .cl ∧ q .non, rt := fun d _ => q d } (startD N.length ds)) : FnOk P w K mg base CX0 (k + 1) f fd ps (spP K ps.length md sd) := by
  have hpl : ps.length ≤ N.length := by have := congrArg List.length S.pre; rw [List.length_take] at this; omega
  refine F.ok S (fun vs H Q E h => h.choose_spec.choose_spec.choose_spec.1) fun cdv A outer s H vs Q E hr h => ⟨_, (hb cdv A outer s H E hr).h, ?_⟩
  obtain ⟨S0, ds, q, hl, hS, hR, hsd, hQ⟩ := h
  have hdl : ds.length = vs.length := hR.len.symm
  have e0 : uni S0 (fun _ => False) = S0 := by funext a; simp [uni]
  have hE : EnvOk K κ ⟨S0, fun _ => False, H, start N vs, []⟩ (fun _ => False) (startD N.length ds) (start N vs) H := by
    refine ⟨fun _ => [], ?_, fun a => by simp, fun _ _ => rfl, fun i j a h => absurd h (by simp), fun _ => by simp, fun i a h => absurd h (by simp), fun i a h => absurd h (by simp), fun i n e => rfl, fun p hp => absurd hp (by simp), hS, fun b o _ e => e, fun b e => e, fun i d e => ?_⟩
    · rw [startD_len (by omega), start_len (by omega)]
    · obtain ⟨h1, v, h2, h3⟩ := start_get (N := N) hdl e
      refine ⟨v, h3, ?_⟩
      rw [hp i (by rw [← hl]; exact (List.getElem?_eq_some_iff.mp h2).1)]
      show Rep K (uni S0 fun _ => False) H d v
      rw [e0]
      obtain ⟨u, e1, e2⟩ := hR.get h1
      rw [h2] at e1; cases e1
      exact e2
  have sm : ∀ {fp : List Addr} {O' : Addr → Prop} {ρ' : EnvD} {σ' : St} {H' : Hp}, EnvOk K κ (G0.plus ⟨S0, fun _ => False, H, start N vs, []⟩ fp) O' ρ' σ' H' → Same H H' := fun h => by
    obtain ⟨F', f'⟩ := h
    exact fun b o e => f'.keep b o (fun z => z) e
  have fin : ∀ v H' d ρ' O' fp σ', EnvOk K κ (G0.plus ⟨S0, fun _ => False, H, start N vs, []⟩ fp) O' ρ' σ' H' → VOk K S0 O' H H' fp md d v → q d → Q v H' := fun v H' d ρ' O' fp σ' e vo hq => by
    refine hQ v H' d fp (sm e) ?_ hq
    rcases hmd with rfl | ⟨n, rfl⟩
    · exact ⟨vo.1, Rep.go (.less fun a z => .inl z) d v vo.2⟩
    · exact ⟨vo.1, fun a ha => ⟨(vo.2.1 a ha).1, (vo.2.1 a ha).2.2⟩, Own.go (.less fun a z => .inl z) n fp d v (fun _ _ _ h => h) vo.2.2⟩
  refine ⟨_, _, _, _, hE, hs ds q (by omega) hsd, fun σ' H' ρ' O' e ⟨hm, hq⟩ => ?_, fun _ _ _ _ _ h => h.elim, fun _ _ _ _ _ h => h.elim, fun v H' d ρ' O' fp σ' e vo hq => fin v H' d ρ' O' fp σ' e vo hq⟩
  subst hm
  exact fin .non H' .non ρ' O' [] σ' (by rw [plus_nil]; exact e) ⟨rfl, by simp only [Rep]⟩ hq
end
def eCall (sd : List D → (D → Prop) → Prop) (A : DTA) : DTE := fun ρ q => A ρ fun ds ρ' => sd ds fun d => q d ρ'
section
variable {X : Cx} {κ : List SK} {pu lo : Bool} {md : SK} {e : Expr} {es : List Expr} {pos p : Pos} {A : DTA} {x : Str} {sd : List D → (D → Prop) → Prop} {CX : CXT} {k : Nat} {g : Addr} {fd : FuncData} {ps : List Str} {E : XK}
theorem Sx_dom {K : PySem.W.Frag} {G : G0} {O : Addr → Prop} {ρ : EnvD} {σ : St} {H : Hp} (h : EnvOk K κ G O ρ σ H) : ∀ a, Sx lo G.S0 O a → H a ≠ none := fun a z => by
  cases lo with
  | true => exact h.s0 a z
  | false =>
    rcases z with z | z
    · exact h.s0 a z
    · obtain ⟨o, e, _⟩ := h.mutO a z; rw [e]; simp
theorem dcl (hp : (e :: es).all plainE = true) (hdb : (x == ("__debug__" : Str)) = false) (F : FnOk X.prog X.w X.K X.mg X.base CX k g fd ps (spP X.K ps.length md sd)) (hr : Room k X.A) (hg : Gl X x) (hm : X.mg x = some (.ref g)) (hk : PySem.W.keepIn X.K (.ref g) = true) (hb : Binds X.K fd ps []) (hx : Passes CX X E)
    (hlen : (e :: es).length = ps.length) (hmd : md ≠ .lo) (ha : DA X κ pu lo (e :: es) A) : DE X κ pu (outM lo md) (.Call (.Name x p) (e :: es) [] pos) (eCall sd (fun ρ q => A ρ fun ds ρ' => ds.length = ps.length ∧ q ds ρ')) := by
  refine ⟨(pcl hp hdb F hr hg hm hk hb .nil hx ha.h).weak fun σ H Q ⟨G, O, ρ, q, hE, hq, k⟩ => ⟨G, O, ρ, _, hE, hq, fun vs H1 ds ρ1 O1 s1 e1 r1 p1 ⟨hl, hq1⟩ => ?_⟩⟩
  refine ⟨Sx lo G.S0 O1, ds, _, by rw [List.append_nil, r1.len]; exact hl, Sx_dom e1, by rw [List.append_nil]; exact r1, hq1, fun v H' d fp sm vr hz => ?_⟩
  obtain ⟨fp', st, en, vo⟩ := VRes.fin e1 s1 sm vr hmd
  exact k _ _ _ ρ1 O1 fp' st en vo (p1.same sm) hz
end
section
variable {P : Program} {w : World} {K : PySem.W.Frag} {mg : Str → Option Value} {base : Heap} {x qual : Str} {st : Stmt} {f : Addr} {fd : FuncData} {N ps : List Str} {k j n : Nat} {κ : List SK} {md : SK}
theorem fnX {T : DTS} {sd : List D → (D → D → Prop) → Prop} (F : Fun K x qual st f fd) (S : FnScope N ps (defScope st)) (hj : kd κ j = .io n) (hjp : j < ps.length) (hκ : ∀ i m, i ≠ j → kd κ i ≠ .io m) (hp : ∀ i, i < ps.length → i ≠ j → kd κ i = .cl) (hmd : md = .cl ∨ ∃ n, md = .ow n)
    (hb : ∀ (cdv : Value) (A : Around) (outer : List Env) (s : Shared) (H : Hp) (E : XK), Room k (A.deeper (envOfC qual (defScope st) s.heap.objs.size f cdv)) → DSs (cxOf CX0 P w K mg base N qual (defScope st) f cdv A outer s H E).nox κ md (defBody st) T)
    (hs : ∀ ds q, ds.length = ps.length → sd ds q → T { nx := fun ρ => md = .cl ∧ ∃ d', ρ[j]? = some (some d') ∧ q .non d', rt := fun d ρ => ∃ d', ρ[j]? = some (some d') ∧ q d d' } (startD N.length ds)) : FnOk P w K mg base CX0 (k + 1) f fd ps (spX K ps.length j n md sd) := by
  have hpl : ps.length ≤ N.length := by have := congrArg List.length S.pre; rw [List.length_take] at this; omega
  refine F.ok S (fun vs H Q E h => by obtain ⟨_, _, _, _, _, _, h, _⟩ := h; exact h) fun cdv A outer s H vs Q E hr h => ⟨_, (hb cdv A outer s H E hr).h, ?_⟩
  obtain ⟨S0, ds, q, fj, vj, dj, hl, hl2, hvj, hdj, hS, hnd, hmu, hR, hO, hsd, hQ⟩ := h
  have hdl : ds.length = vs.length := by omega
  have hsv : (start N vs)[j]? = some (some vj) := by
    unfold start
    rw [List.getElem?_append_left (by simp; omega), List.getElem?_map, hvj]; rfl
  have hE : EnvOk K κ ⟨S0, fpS fj, H, start N vs, []⟩ (fpS fj) (startD N.length ds) (start N vs) H := by
    refine ⟨setF (fun _ => []) j fj, ?_, fun a => ?_, fun i hn => ?_, fun i i' a h1 h2 => ?_, fun i => ?_, fun i a ha => ?_, fun i a ha => ?_, fun i n e => rfl, fun p hp => absurd hp (by simp), hS, fun b o _ e => e, fun b e => e, fun i d e => ?_⟩
    · rw [startD_len (by omega), start_len (by omega)]
    · constructor
      · intro h; exact ⟨j, by rw [setF_at]; exact h⟩
      · rintro ⟨i, h⟩
        by_cases hi : i = j
        · rw [hi, setF_at] at h; exact h
        · rw [setF_ne hi] at h; exact absurd h (by simp)
    · have hi : i ≠ j := by rintro rfl; rw [hj] at hn; cases hn
      rw [setF_ne hi]
    · by_cases hi : i = j
      · by_cases hi' : i' = j
        · rw [hi, hi']
        · rw [setF_ne hi'] at h2; exact absurd h2 (by simp)
      · rw [setF_ne hi] at h1; exact absurd h1 (by simp)
    · by_cases hi : i = j
      · rw [hi, setF_at]; exact hnd
      · rw [setF_ne hi]; simp
    · by_cases hi : i = j
      · rw [hi, setF_at] at ha; exact hmu a ha
      · rw [setF_ne hi] at ha; exact absurd ha (by simp)
    · by_cases hi : i = j
      · rw [hi, setF_at] at ha; exact .inl ⟨⟨n, by rw [hi]; exact hj⟩, ha⟩
      · rw [setF_ne hi] at ha; exact absurd ha (by simp)
    · obtain ⟨h1, v, h2, h3⟩ := start_get (N := N) hdl e
      refine ⟨v, h3, ?_⟩
      by_cases hi : i = j
      · subst hi
        rw [hj, setF_at]
        rw [hvj] at h2; cases h2
        rw [hdj] at h1; cases h1
        exact hO
      · rw [hp i (by rw [← hl]; exact (List.getElem?_eq_some_iff.mp h2).1) hi]
        exact hR i v d hi h2 h1
  have fin : ∀ v H' d d' ρ' O' fp σ', EnvOk K κ (G0.plus ⟨S0, fpS fj, H, start N vs, []⟩ fp) O' ρ' σ' H' → VOk K S0 O' H H' fp md d v → ρ'[j]? = some (some d') → q d d' → Q v H' := fun v H' d d' ρ' O' fp σ' e vo hd' hq => by
    obtain ⟨F', f'⟩ := e
    obtain ⟨u, e1, e2⟩ := f'.slot j d' hd'
    have e3 := f'.par j n hj
    rw [e1, show (G0.plus ⟨S0, fpS fj, H, start N vs, []⟩ fp).ps[j]? = (start N vs)[j]? from rfl, hsv] at e3
    have e3 : u = vj := by simpa using e3
    subst e3
    rw [hj] at e2
    have sub : ∀ a, fpS (F' j) a → O' a := fun a ha => (f'.own a).mpr ⟨j, ha⟩
    refine hQ v H' d d' fp (F' j) ⟨fun b o nb e => f'.keep b o nb e, fun a ha => ?_, f'.dom⟩ (f'.nd j) (fun a ha => ?_) (Own.go (.less fun a z => z.elim .inl fun z => .inr (sub a z)) n _ d' u (fun _ _ _ h => h) e2) ?_ (fun a ha => f'.s0 a (.inr ha)) hq
    · rcases f'.new j a ha with z | z
      · exact .inl z.2
      · exact .inr z
    · obtain ⟨z1, z2⟩ := f'.mu j a ha
      exact ⟨fun z => z1 (.inl z), fun z => z1 (.inr z), z2⟩
    · rcases hmd with rfl | ⟨m, rfl⟩
      · exact ⟨vo.1, Rep.go (.less fun a z => z.elim .inl fun z => .inr (sub a z)) d v vo.2⟩
      · exact ⟨vo.1, fun a ha => ⟨(vo.2.1 a ha).1, fun z => (vo.2.1 a ha).2.1 (sub a z), (vo.2.1 a ha).2.2⟩, Own.go (.less fun a z => z.elim .inl fun z => .inr (sub a z)) m fp d v (fun _ _ _ h => h) vo.2.2⟩
  refine ⟨_, _, _, _, hE, hs ds q (by omega) hsd, fun σ' H' ρ' O' e ⟨hm, d', hd', hq⟩ => ?_, fun _ _ _ _ _ h => h.elim, fun _ _ _ _ _ h => h.elim, fun v H' d ρ' O' fp σ' e vo ⟨d', hd', hq⟩ => fin v H' d d' ρ' O' fp σ' e vo hd' hq⟩
  subst hm
  exact fin .non H' .non d' ρ' O' [] σ' (by rw [plus_nil]; exact e) ⟨rfl, by simp only [Rep]⟩ hd' hq
end
def tDAx (K : PySem.W.Frag) (κ : List SK) (i j : Nat) (A : DTA) : TA := fun σ H Q => ∃ G O ρ q, EnvOk K κ G O ρ σ H ∧ A ρ q ∧ ∀ vs H' ds ρ' O', Step O O' H H' → EnvOk K κ G O' ρ' σ H' → vs.length = ds.length →
  (∃ v d, vs[j]? = some v ∧ ds[j]? = some d ∧ σ[i]? = some (some v) ∧ ρ'[i]? = some (some d)) → (∀ k x d, k ≠ j → vs[k]? = some x → ds[k]? = some d → Rep K (uni G.S0 O') H' d x) → q ds ρ' → Q vs H'
structure DAx (X : Cx) (κ : List SK) (i j : Nat) (es : List Expr) (A : DTA) : Prop where
  h : PA X es (tDAx X.K κ i j A)
def eHere (i : Nat) (A : DTA) : DTA := fun ρ q => ∃ d0, ρ[i]? = some (some d0) ∧ A ρ fun ds ρ' => ∃ d, ρ'[i]? = some (some d) ∧ q (d :: ds) ρ'
def eCallX (κ : List SK) (i np : Nat) (sd : List D → (D → D → Prop) → Prop) (A : DTA) : DTE := fun ρ q => A ρ fun ds ρ' => ds.length = np ∧ sd ds fun d d' => q d (kl κ (ρ'.set i (some d')))
section
variable {X : Cx} {κ : List SK} {pu : Bool} {i j n : Nat} {e : Expr} {es : List Expr} {pos p : Pos} {E : DTE} {A : DTA} {x : Str}
theorem dax_here (hN : X.N[i]? = some x) (hv : Vis X.env.scope x) (hd : (x == ("__debug__" : Str)) = false) (hcd : (x == ("__classdict__" : Str)) = false) (hr : DA X κ pu false es A) : DAx X κ i 0 (.Name x pos :: es) (eHere i A) := by
  refine ⟨(pac rfl (pe_var hN hv hd hcd) hr.h).weak fun σ H Q ⟨G, O, ρ, q, hE, ⟨d0, e0, hq⟩, k⟩ => ?_⟩
  obtain ⟨v, hv, _⟩ : ∃ v, σ[i]? = some (some v) ∧ True := by
    obtain ⟨F, f⟩ := id hE
    obtain ⟨v, h1, _⟩ := f.slot i d0 e0
    exact ⟨v, h1, trivial⟩
  refine ⟨v, hv, G, O, ρ, _, hE, hq, fun vs H1 ds ρ1 O1 s1 e1 r1 p1 ⟨d, hd, hq1⟩ => ?_⟩
  refine k (v :: vs) H1 (d :: ds) ρ1 O1 s1 e1 (by simp [r1.len]) ⟨v, d, rfl, rfl, hv, hd⟩ (fun m x' d' hm h1 h2 => ?_) hq1
  cases m with
  | zero => exact absurd rfl hm
  | succ m =>
    obtain ⟨u, e3, e4⟩ := r1.get (i := m) (x := d') (by simpa using h2)
    have : vs[m]? = some x' := by simpa using h1
    rw [this] at e3; cases e3
    exact e4
variable {sd : List D → (D → D → Prop) → Prop} {CX : CXT} {k : Nat} {g : Addr} {fd : FuncData} {ps : List Str} {Ex : XK} {md : SK}
theorem dclx (hp : (e :: es).all plainE = true) (hdb : (x == ("__debug__" : Str)) = false) (F : FnOk X.prog X.w X.K X.mg X.base CX k g fd ps (spX X.K ps.length j n md sd)) (hr : Room k X.A) (hg : Gl X x) (hm : X.mg x = some (.ref g)) (hk : PySem.W.keepIn X.K (.ref g) = true) (hb : Binds X.K fd ps []) (hx : Passes CX X Ex)
    (hdep : dep (kd κ i) = some n) (hmd : md = .cl ∨ ∃ m, md = .ow m) (ha : DAx X κ i j (e :: es) A) : DE X κ false md (.Call (.Name x p) (e :: es) [] pos) (eCallX κ i ps.length sd A) := by
  refine ⟨(pcl hp hdb F hr hg hm hk hb .nil hx ha.h).weak fun σ H Q ⟨G, O, ρ, q, hE, hq, k⟩ => ⟨G, O, ρ, _, hE, hq, fun vs H1 ds ρ1 O1 s1 e1 hl ⟨vj, dj, h1, h2, h3, h4⟩ hR ⟨hlen, hq1⟩ => ?_⟩⟩
  obtain ⟨F1, f1⟩ := id e1
  obtain ⟨u, h5, h6⟩ := f1.slot i dj h4
  rw [h3] at h5; cases h5
  have ho : Own X.K (uni G.S0 O1) H1 n (F1 i) dj vj := by
    cases q : kd κ i with
    | cl => rw [q] at hdep; cases hdep
    | lo => rw [q] at hdep; cases hdep
    | ow m => rw [q] at hdep h6; cases hdep; exact h6
    | io m => rw [q] at hdep h6; cases hdep; exact h6
  have le : ∀ a, uni (uni G.S0 fun a => O1 a ∧ a ∉ F1 i) (fpS (F1 i)) a → uni G.S0 O1 a := fun a z => by
    rcases z with (z | z) | z
    · exact .inl z
    · exact .inr z.1
    · exact .inr ((f1.own a).mpr ⟨i, z⟩)
  refine ⟨uni G.S0 fun a => O1 a ∧ a ∉ F1 i, ds, _, F1 i, vj, dj, by rw [List.append_nil, hl]; exact hlen, hlen, by rw [List.append_nil]; exact h1, h2, fun a z => ?_, f1.nd i, fun a ha => ⟨fun z => ?_, (f1.mu i a ha).2⟩, fun m x' d' hm e3 e4 => ?_, Own.go (.less le) n _ dj vj (fun _ _ _ h => h) ho, hq1, fun v H' d d' fp f' st nd hf own vo hfp hz => ?_⟩
  · rcases z with z | z
    · exact f1.s0 a z
    · obtain ⟨o, e, _⟩ := e1.mutO a z.1; rw [e]; simp
  · rcases z with z | z
    · exact (f1.mu i a ha).1 z
    · exact z.2 ha
  · rw [List.append_nil] at e3
    exact Rep.go (.less le) d' x' (hR m x' d' hm e3 e4)
  · have fpn : ∀ a ∈ fp, H1 a = none := fun a ha => by
      rcases hmd with rfl | ⟨m, rfl⟩
      · rw [vo.1] at ha; exact absurd ha (by simp)
      · exact (vo.2.1 a ha).1
    have le2 : ∀ a, uni (uni G.S0 (fpS fp)) (OF (setF F1 i f')) a → uni (uni (uni G.S0 fun a => O1 a ∧ a ∉ F1 i) (fpS fp)) (fpS f') a := fun a z => by
      rcases z with (z | z) | ⟨m, z⟩
      · exact .inl (.inl (.inl z))
      · exact .inl (.inr z)
      · by_cases hmi : m = i
        · rw [hmi, setF_at] at z; exact .inr z
        · rw [setF_ne hmi] at z
          exact .inl (.inl (.inr ⟨(f1.own a).mpr ⟨m, z⟩, fun w => hmi (f1.dis m i a z w)⟩))
    have le3 : ∀ a, uni G.S0 (OF (setF F1 i f')) a → uni (uni G.S0 fun a => O1 a ∧ a ∉ F1 i) (fpS f') a := fun a z => by
      rcases z with z | ⟨m, z⟩
      · exact .inl (.inl z)
      · by_cases hmi : m = i
        · rw [hmi, setF_at] at z; exact .inr z
        · rw [setF_ne hmi] at z
          exact .inl (.inr ⟨(f1.own a).mpr ⟨m, z⟩, fun w => hmi (f1.dis m i a z w)⟩)
    obtain ⟨g1, g2⟩ := EnvF.chg (H' := H') (f' := f') (fp := fp) (d' := d') (v := vj) f1 hdep (fun b o nb e => st.keep b o nb e) st.dom nd (fun a ha => ⟨st.own a ha, (hf a ha).2.2⟩) (fun a ha => ⟨fpn a ha, hfp a ha, fun z => (hf a z).2.1 ha⟩) h3 (Own.go (.less le2) n _ d' vj (fun _ _ _ h => h) own)
    refine k v H' d _ _ fp (s1.trans g2) ⟨_, g1⟩ ?_ (fun h => absurd h Bool.false_ne_true) hz
    rcases hmd with rfl | ⟨m, rfl⟩
    · exact ⟨vo.1, Rep.go (.less le3) d v vo.2⟩
    · refine VOk.base s1 ⟨vo.1, fun a ha => ⟨fpn a ha, fun ⟨m', z⟩ => ?_, (vo.2.1 a ha).2.2⟩, Own.go (.less le2) m fp d v (fun _ _ _ h => h) vo.2.2⟩
      by_cases hmi : m' = i
      · rw [hmi, setF_at] at z; exact (vo.2.1 a ha).2.1 z
      · rw [setF_ne hmi] at z
        obtain ⟨_, o, e, _⟩ := f1.mu m' a z
        rw [fpn a ha] at e; cases e
end
abbrev DTI := EnvD → (List D → EnvD → Prop) → Prop
def forGo (g : DTG) (T : DTS) (De : DEnds) : List D → EnvD → Prop
  | [], ρ => De.nx ρ
  | d :: ds, ρ => ∃ N : EnvD → Prop, (∀ ρ', N ρ' → forGo g T De ds ρ') ∧ g d ρ fun ρ2 => T { De with nx := N, ct := N, bk := De.nx } ρ2
def sFor (I : DTI) (g : DTG) (T : DTS) : DTS := fun De ρ => I ρ fun ds ρ1 => forGo g T De ds ρ1
def iL (E : DTE) : DTI := fun ρ q => E ρ fun d ρ' => ∃ ds, d = .lst ds ∧ q ds ρ'
def iR1 (A : DTA) : DTI := fun ρ q => A ρ fun ds ρ' => ∃ j : Int, ds = [.int j] ∧ -(2 ^ 62) ≤ j ∧ j < 2 ^ 62 ∧ q ((List.range j.toNat).map fun (k : Nat) => D.int (k : Int)) ρ'
def iR2 (A : DTA) : DTI := fun ρ q => A ρ fun ds ρ' => ∃ i j : Int, ds = [.int i, .int j] ∧ (-(2 ^ 62) ≤ i ∧ i < 2 ^ 62 ∧ -(2 ^ 62) ≤ j ∧ j < 2 ^ 62) ∧ q ((List.range (j - i).toNat).map fun (k : Nat) => D.int (i + (k : Int))) ρ'
def G0.with (G : G0) (p : D × V) : G0 := { G with gh := p :: G.gh }
section
variable {K : PySem.W.Frag} {κ : List SK} {G : G0} {O : Addr → Prop} {ρ : EnvD} {σ : St} {H : Hp}
theorem EnvOk.ghost {d : D} {v : V} (h : EnvOk K κ G O ρ σ H) (r : Rep K (uni G.S0 O) H d v) : EnvOk K κ (G.with (d, v)) O ρ σ H := by
  obtain ⟨F, f⟩ := h
  refine ⟨F, f.len, f.own, f.non, f.dis, f.nd, f.mu, f.new, f.par, fun p hp => ?_, f.s0, f.keep, f.dom, f.slot⟩
  rcases List.mem_cons.mp hp with rfl | hp
  · exact r
  · exact f.gh p hp
theorem EnvOk.unghost {p : D × V} {fp : List Addr} (h : EnvOk K κ ((G.with p).plus fp) O ρ σ H) : EnvOk K κ (G.plus fp) O ρ σ H := by
  obtain ⟨F, f⟩ := h
  exact ⟨F, f.len, f.own, f.non, f.dis, f.nd, f.mu, f.new, f.par, fun q hq => f.gh q (List.mem_cons_of_mem _ hq), f.s0, f.keep, f.dom, f.slot⟩
theorem EnvOk.unghost0 {p : D × V} (h : EnvOk K κ (G.with p) O ρ σ H) : EnvOk K κ G O ρ σ H := by
  have q : EnvOk K κ ((G.with p).plus []) O ρ σ H := by rw [plus_nil]; exact h
  have z := q.unghost
  rw [plus_nil] at z
  exact z
theorem EnvOk.ghostOf {p : D × V} (h : EnvOk K κ (G.with p) O ρ σ H) : Rep K (uni G.S0 O) H p.1 p.2 := by
  obtain ⟨F, f⟩ := h
  exact f.gh p (by simp [G0.with])
end
section
variable {X : Cx} {κ : List SK} {md : SK} {pu : Bool} {tg iter c : Expr} {body : List Stmt} {E : DTE} {A : DTA} {C : DTT} {g : DTG} {T : DTS} {pos p : Pos}
theorem reps_args {K : PySem.W.Frag} {S : Addr → Prop} {H : Hp} {ns : List Int} {vs : List V} (h : Reps K S H (ns.map D.int) vs) : vs = ns.map V.int := by
  induction ns generalizing vs with
  | nil => simpa only [List.map_nil, Reps] using h
  | cons n ns ih =>
    simp only [List.map_cons, Reps] at h
    obtain ⟨v, r, rfl, h1, h2⟩ := h
    rw [ih h2]
    simp only [Rep] at h1
    rw [h1]; rfl
end
def ItOk (K : PySem.W.Frag) (S : Addr → Prop) (H : Hp) (J : It) (ds : List D) : Prop := ∃ d v, Rep K S H d v ∧ ∀ S H', Rep K S H' d v → ∀ i, (∀ d', ds[i]? = some d' → J.go i H' ∧ ∀ x H'', J.yld i H' x H'' → Same H' H'' ∧ Rep K S H'' d' x) ∧ (ds[i]? = none → J.stop i H')
def tDI (K : PySem.W.Frag) (κ : List SK) (pu lo : Bool) (I : DTI) : TI := fun σ H R => ∃ G O ρ q, EnvOk K κ G O ρ σ H ∧ I ρ q ∧ ∀ J H1 ds ρ1 O1, Step O O1 H H1 → EnvOk K κ G O1 ρ1 σ H1 → Pu pu ρ ρ1 O O1 H H1 → ItOk K (Sx lo G.S0 O1) H1 J ds → q ds ρ1 → R J H1
structure DI (X : Cx) (κ : List SK) (pu lo : Bool) (tg iter : Expr) (I : DTI) : Prop where
  h : PI X tg iter (tDI X.K κ pu lo I)
theorem PI.weak {X : Cx} {tg iter : Expr} {t t' : TI} (h : PI X tg iter t) (w : ∀ σ H R, t' σ H R → t σ H R) : PI X tg iter t' := fun pins s σ H R I q => h pins s σ H R I (w σ H R q)
section
variable {X : Cx} {κ : List SK} {md m : SK} {pu lo : Bool} {tg iter c a b : Expr} {body : List Stmt} {E : DTE} {A : DTA} {C : DTT} {g : DTG} {T : DTS} {I : DTI} {pos p : Pos}
theorem itok_l {K : PySem.W.Frag} {S : Addr → Prop} {H : Hp} {a : Addr} {ds : List D} (r : Rep K S H (.lst ds) (.ref a)) : ItOk K S H (Itl K a) ds := by
  refine ⟨_, _, r, fun S H' q i => ?_⟩
  simp only [Rep] at q
  obtain ⟨b, ws, eb, _, hrd, hr⟩ := q
  cases eb
  refine ⟨fun d e => ?_, fun e => ⟨ws, .inl hrd, by rw [hr.len]; exact List.getElem?_eq_none_iff.mp e⟩⟩
  obtain ⟨u, e2, ru⟩ := hr.get e
  refine ⟨⟨ws, u, .inl hrd, e2⟩, fun x H'' ⟨eH, y⟩ => ?_⟩
  subst eH
  refine ⟨.refl _, ?_⟩
  have := y ws (.inl hrd)
  rw [e2] at this; cases this
  exact ru
theorem itok_r {K : PySem.W.Frag} {S : Addr → Prop} {H : Hp} {lo : Int} {n : Nat} {ds : List D} (hd : ds = (List.range n).map fun (k : Nat) => D.int (lo + (k : Int))) : ItOk K S H (Itr lo n) ds := by
  refine ⟨.non, .non, by simp only [Rep], fun S H' _ i => ?_⟩
  subst hd
  refine ⟨fun d e => ?_, fun e => ?_⟩
  · rw [List.getElem?_map] at e
    by_cases hi : i < n
    · rw [List.getElem?_range hi] at e
      simp only [Option.map_some, Option.some.injEq] at e
      subst e
      refine ⟨hi, fun x H'' ⟨eH, ex⟩ => ?_⟩
      subst eH
      refine ⟨.refl _, ?_⟩
      simp only [Rep]
      exact ex
    · rw [List.getElem?_eq_none_iff.mpr (by simpa using hi)] at e
      cases e
  · have := List.getElem?_eq_none_iff.mp e
    show n ≤ i
    simpa using this
theorem diL (hm : isV m) (h : DE X κ pu m iter E) : DI X κ pu (loB m) tg iter (iL E) := by
  refine ⟨(pi_list h.h).weak fun σ H R ⟨G, O, ρ, q, hE, hq, k⟩ => ⟨G, O, ρ, _, hE, hq, fun v H1 d ρ1 O1 fp s1 e1 vo p1 ⟨ds, ed, hq1⟩ => ?_⟩⟩
  subst ed
  have r := vo.now (lo := loB m) hm (fun z => by rw [z]; rfl)
  have r0 := r
  simp only [Rep] at r
  obtain ⟨a, vs, rfl, nS, hrd, hr⟩ := r
  exact ⟨a, rfl, ⟨vs, .inl hrd⟩, k _ H1 ds ρ1 O1 s1 e1.drop p1 (itok_l r0) hq1⟩
theorem diR1 (hpl : plainE a = true) (hgl : Gl X "range") (hm : X.mg "range" = none) (hi : DA X κ pu lo [a] A) : DI X κ pu false tg (.Call (.Name "range" p) [a] [] pos) (iR1 A) := by
  refine ⟨(xrange1 hpl hgl hm hi.h).weak fun σ H R ⟨G, O, ρ, q, hE, hq, k⟩ => ⟨G, O, ρ, _, hE, hq, fun vs H1 ds ρ1 O1 s1 e1 r1 p1 ⟨j, ed, b1, b2, hq1⟩ => ?_⟩⟩
  subst ed
  exact ⟨j, reps_args (ns := [j]) r1, b1, b2, k _ H1 _ ρ1 O1 s1 e1 p1 (itok_r (by simp)) hq1⟩
theorem diR2 (hpl : plainE a = true) (hpl2 : plainE b = true) (hgl : Gl X "range") (hm : X.mg "range" = none) (hi : DA X κ pu lo [a, b] A) : DI X κ pu false tg (.Call (.Name "range" p) [a, b] [] pos) (iR2 A) := by
  refine ⟨(xrange2 hpl hpl2 hgl hm hi.h).weak fun σ H R ⟨G, O, ρ, q, hE, hq, k⟩ => ⟨G, O, ρ, _, hE, hq, fun vs H1 ds ρ1 O1 s1 e1 r1 p1 ⟨i, j, ed, bd, hq1⟩ => ?_⟩⟩
  subst ed
  exact ⟨i, j, reps_args (ns := [i, j]) r1, bd, k _ H1 _ ρ1 O1 s1 e1 p1 (itok_r rfl) hq1⟩
theorem for_go2 {K : PySem.W.Frag} {J : It} {G : G0} {O : Addr → Prop} {ρ : EnvD} {σ : St} {H : Hp} {De : DEnds} {Dn : Ends} {ds : List D} (hE : EnvOk K κ G O ρ σ H) (hgo : forGo g T De ds ρ)
    (hJ : ∀ (i : Nat) (O : Addr → Prop) (ρ : EnvD) (σ : St) (H : Hp), EnvOk K κ G O ρ σ H → (∀ d, ds[i]? = some d → J.go i H ∧ ∀ x H', J.yld i H x H' → Same H H' ∧ Rep K (uni G.S0 O) H' d x) ∧ (ds[i]? = none → J.stop i H))
    (nx : ∀ σ' H' ρ' O', EnvOk K κ G O' ρ' σ' H' → De.nx ρ' → Dn.nx σ' H') (bk : ∀ σ' H' ρ' O', EnvOk K κ G O' ρ' σ' H' → De.bk ρ' → Dn.bk σ' H') (ct : ∀ σ' H' ρ' O', EnvOk K κ G O' ρ' σ' H' → De.ct ρ' → Dn.ct σ' H')
    (rt : ∀ v H' d ρ' O' fp σ', EnvOk K κ (G.plus fp) O' ρ' σ' H' → VOk K G.S0 O' G.H0 H' fp md d v → De.rt d ρ' → Dn.rt v H') :
    ∃ W : Nat → Nat → St → Hp → Prop, (∃ m, W 0 m σ H) ∧ ∀ i m σ H, W i m σ H →
      (J.stop i H ∧ Dn.nx σ H) ∨ (J.go i H ∧ ∃ N : St → Hp → Prop, (∀ σ' H', N σ' H' → ∃ m', m' < m ∧ W (i + 1) m' σ' H') ∧ ∀ x H', J.yld i H x H' → tDG K κ .cl g x σ H' fun σ2 H2 => tDS K κ md T { Dn with nx := N, ct := N, bk := Dn.nx } σ2 H2) := by
  refine ⟨fun i m σ H => m + i = ds.length ∧ ∃ ρ O, EnvOk K κ G O ρ σ H ∧ forGo g T De (ds.drop i) ρ, ⟨ds.length, rfl, ρ, O, hE, hgo⟩, ?_⟩
  rintro i m σ H ⟨hm, ρ, O, hE, hg⟩
  obtain ⟨h1, h2⟩ := hJ i O ρ σ H hE
  cases e : ds[i]? with
  | none =>
    left
    have hi : ds.length ≤ i := List.getElem?_eq_none_iff.mp e
    rw [List.drop_eq_nil_of_le hi] at hg
    exact ⟨h2 e, nx σ H ρ O hE hg⟩
  | some d =>
    right
    obtain ⟨g1, g2⟩ := h1 d e
    have hi : i < ds.length := (List.getElem?_eq_some_iff.mp e).1
    have ed : ds.drop i = d :: ds.drop (i + 1) := by
      rw [List.drop_eq_getElem_cons hi]
      congr 1
      exact (List.getElem?_eq_some_iff.mp e).2
    rw [ed] at hg
    obtain ⟨Nd, hNd, hg⟩ := hg
    refine ⟨g1, fun σ' H' => ∃ ρ' O', EnvOk K κ G O' ρ' σ' H' ∧ Nd ρ', fun σ' H' ⟨ρ', O', e', hg'⟩ => ⟨ds.length - (i + 1), by omega, by omega, ρ', O', e', hNd _ hg'⟩, fun x H' y => ?_⟩
    obtain ⟨sm, r⟩ := g2 x H' y
    exact ⟨G, O, ρ, _, d, hE.same0 sm, r, hg, fun σ' ρ' e' hT => ⟨G, O, ρ', _, e', hT, fun σ2 H2 ρ2 O2 e2 hg2 => ⟨ρ2, O2, e2, hg2⟩, fun σ2 H2 ρ2 O2 e2 hg2 => nx σ2 H2 ρ2 O2 e2 hg2, fun σ2 H2 ρ2 O2 e2 hg2 => ⟨ρ2, O2, e2, hg2⟩, rt⟩⟩
theorem dfor (hs : ∀ x, foldedSetIterable iter X.env x = pure x) (hp : PassesOwn (model X.prog X.w) X.A X.env X.xe) (hc : X.calm = true) (hi : DI X κ pu false tg iter I) (hg : DG X κ .cl tg g) (hb : DSs X κ md body T) : DS X κ md (.For tg iter body [] pos) (sFor I g T) := by
  refine ⟨(ps_for hp hc hi.h hg.h hb.h hs).weak fun Dn σ H ⟨G, O, ρ, De, hE, hT, nx, bk, ct, rt⟩ => ⟨G, O, ρ, _, hE, hT, fun J H1 ds ρ1 O1 s1 e1 p1 ⟨d, v, r, hJ⟩ hq => ?_⟩⟩
  exact for_go2 (G := G.with (d, v)) (e1.ghost r) hq (fun i O ρ σ H hE => hJ _ H hE.ghostOf i) (fun σ' H' ρ' O' e => nx σ' H' ρ' O' e.unghost0) (fun σ' H' ρ' O' e => bk σ' H' ρ' O' e.unghost0) (fun σ' H' ρ' O' e => ct σ' H' ρ' O' e.unghost0) fun v H' d ρ' O' fp σ' e vo => rt v H' d ρ' O' fp σ' e.unghost vo
end
def inD (js : List (Option Nat)) (ρ : EnvD) : EnvD := js.map fun j => match j with | some j => (match ρ[j]? with | some v => v | none => none) | none => none
def compGo (g : DTG) (C : DTT) (E : DTE) : List D → List D → EnvD → (List D → EnvD → Prop) → Prop
  | [], acc, ρ, q => q acc ρ
  | d :: ds, acc, ρ, q => ∃ N : List D → EnvD → Prop, (∀ acc' ρ', N acc' ρ' → compGo g C E ds acc' ρ' q) ∧ g d ρ fun ρ1 => C ρ1 fun b ρ2 => if b = true then E ρ2 fun z ρ3 => acc.length < sizeLine ∧ N (acc ++ [z]) ρ3 else N acc ρ2
def eComp (js : List (Option Nat)) (I : DTI) (g : DTG) (C : DTT) (E : DTE) : DTE := fun ρ q => I ρ fun ds ρ1 => compGo g C E ds [] (inD js ρ1) fun acc _ => q (.lst acc) ρ1
def eCompX (κ : List SK) (i pI : Nat) (js : List (Option Nat)) (I : DTI) (g : DTG) (C : DTT) (E : DTE) : DTE := fun ρ q => I ρ fun ds ρ1 => compGo g C E ds [] (inD js ρ1) fun acc ρin => ∃ d', ρin[pI]? = some (some d') ∧ q (.lst acc) (kl κ (ρ1.set i (some d')))
structure DIf (X : Cx) (κ : List SK) (ifs : List Expr) (C : DTT) : Prop where
  h : PIfs X ifs (tDT X.K κ false C)
def eYes : DTT := fun ρ q => q true ρ
theorem PIfs.weak {X : Cx} {e : List Expr} {t t' : TT} (h : PIfs X e t) (w : ∀ σ H Q, t' σ H Q → t σ H Q) : PIfs X e t' := fun pins s σ H Q I q => h pins s σ H Q I (w σ H Q q)
theorem dif0 {X : Cx} {κ : List SK} : DIf X κ [] eYes := ⟨pif0.weak fun σ H Q ⟨G, O, ρ, q, hE, hq, k⟩ => k true H ρ O (.refl _ _) hE (fun h => absurd h Bool.false_ne_true) hq⟩
theorem dif1 {X : Cx} {κ : List SK} {pu : Bool} {c : Expr} {C : DTT} (h : DT X κ pu c C) : DIf X κ [c] C := ⟨(pif1 h.h).weak fun σ H Q ⟨G, O, ρ, q, hE, hq, k⟩ => ⟨G, O, ρ, q, hE, hq, fun b H' ρ' O' s e p z => k b H' ρ' O' s e (fun h => absurd h Bool.false_ne_true) z⟩⟩
section
variable {K : PySem.W.Frag} {κ : List SK} {G : G0} {O : Addr → Prop} {ρ : EnvD} {σ : St} {H : Hp}
theorem EnvOk.updS {p : Addr} {o o' : HO} (h : EnvOk K κ G O ρ σ H) (hS : G.S0 p) (hp : H p = some o') (m : isM o') (h0 : G.H0 p = none) : EnvOk K κ G O ρ σ (upd H p o) := by
  obtain ⟨F, f⟩ := h
  have ne : ∀ k a, a ∈ F k → a ≠ p := fun k a ha z => (f.mu k a ha).1 (by rw [z]; exact hS)
  have gU : Goes (uni G.S0 O) (uni G.S0 O) H (upd H p o) := Goes.upd hp m (.inl hS)
  refine ⟨F, f.len, f.own, f.non, f.dis, f.nd, fun k a ha => ?_, f.new, f.par, fun q hq => Rep.go gU _ _ (f.gh q hq), fun a z => ?_, fun b ob n e => ?_, fun b e => ?_, fun k d e => ?_⟩
  · obtain ⟨z1, ob, z2, z3⟩ := f.mu k a ha
    exact ⟨z1, ob, by rw [upd_ne (ne k a ha)]; exact z2, z3⟩
  · by_cases hap : a = p
    · rw [hap, upd_same]; simp
    · rw [upd_ne hap]; exact f.s0 a z
  · have hbp : b ≠ p := by rintro rfl; rw [h0] at e; cases e
    rw [upd_ne hbp]; exact f.keep b ob n e
  · by_cases hap : b = p
    · rw [hap, upd_same]; simp
    · rw [upd_ne hap]; exact f.dom b e
  · obtain ⟨v, e1, e2⟩ := f.slot k d e
    refine ⟨v, e1, ?_⟩
    cases q : kd κ k with
    | cl => rw [q] at e2; exact Rep.go gU d v e2
    | ow n => rw [q] at e2; exact Own.go gU n _ d v (fun a ha ob eo => by rw [upd_ne (ne k a ha)]; exact eo) e2
    | io n => rw [q] at e2; exact Own.go gU n _ d v (fun a ha ob eo => by rw [upd_ne (ne k a ha)]; exact eo) e2
    | lo => rw [q] at e2; exact Rep.go (Goes.upd hp m hS) d v e2
theorem EnvOk.read {i : Nat} {d : D} (h : EnvOk K κ G O ρ σ H) (e : ρ[i]? = some (some d)) : ∃ v, σ[i]? = some (some v) ∧ Rep K G.S0 H d v ∧ (kd κ i = .cl → Rep K (uni G.S0 O) H d v) := by
  obtain ⟨F, f⟩ := h
  obtain ⟨v, h1, h2⟩ := f.slot i d e
  refine ⟨v, h1, ?_, fun z => by rw [z] at h2; exact h2⟩
  cases e : kd κ i with
  | cl => rw [e] at h2; exact Rep.go (.less fun _ z => .inl z) d v h2
  | lo => rw [e] at h2; exact h2
  | ow n => rw [e] at h2; exact Own.rep n (F i) d v (fun a ha => (f.mu i a ha).1) (fun _ z => .inl z) h2
  | io n => rw [e] at h2; exact Own.rep n (F i) d v (fun a ha => (f.mu i a ha).1) (fun _ z => .inl z) h2
theorem inD_get {js : List (Option Nat)} {p : Nat} {d : D} (h : (inD js ρ)[p]? = some (some d)) : ∃ j, js[p]? = some (some j) ∧ ρ[j]? = some (some d) := by
  unfold inD at h
  rw [List.getElem?_map] at h
  cases e : js[p]? with
  | none => rw [e] at h; cases h
  | some oj =>
    rw [e] at h
    cases oj with
    | none => cases h
    | some j =>
      simp only [Option.map_some, Option.some.injEq] at h
      refine ⟨j, rfl, ?_⟩
      cases e2 : ρ[j]? with
      | none => rw [e2] at h; cases h
      | some v => rw [e2] at h; rw [show v = some d from h]
theorem inSt_get {js : List (Option Nat)} {p j : Nat} {v : V} (h : js[p]? = some (some j)) (e : σ[j]? = some (some v)) : (inSt js σ)[p]? = some (some v) := by
  unfold inSt
  rw [List.getElem?_map, h]
  simp only [Option.map_some]
  rw [e]
end
theorem drop_at {α : Type} {ds : List α} {i : Nat} {d : α} (e : ds[i]? = some d) : ds.drop i = d :: ds.drop (i + 1) := by
  have hi : i < ds.length := (List.getElem?_eq_some_iff.mp e).1
  rw [List.drop_eq_getElem_cons hi]
  congr 1
  exact (List.getElem?_eq_some_iff.mp e).2
theorem Reps.snoc {K : PySem.W.Frag} {S : Addr → Prop} {H : Hp} : ∀ {l : List D} {vs : List V} {d : D} {v : V}, Reps K S H l vs → Rep K S H d v → Reps K S H (l ++ [d]) (vs ++ [v])
  | [], vs, d, v, h, r => by
    simp only [Reps] at h; subst h
    simp only [List.nil_append, Reps]
    exact ⟨v, [], rfl, r, rfl⟩
  | x :: l, vs, d, v, h, r => by
    simp only [Reps] at h
    obtain ⟨u, t, rfl, h1, h2⟩ := h
    simp only [List.cons_append, Reps]
    exact ⟨u, t ++ [v], rfl, h1, h2.snoc r⟩
section
variable {X : Cx} {κ : List SK} {pu lo : Bool} {I : DTI} {g : DTG} {C : DTT} {E : DTE} {js : List (Option Nat)} {K : PySem.W.Frag}
theorem comp_go (hcap : lo = false → ∀ j ∈ js, ∀ i, j = some i → kd κ i = .cl) {pe : Bool} {lo0 : Bool} (hlo : lo0 = true → lo = true) {σ : St} {H : Hp} {Q : VK} (h : tD K κ pu (outM lo (.ow 1)) (eComp js I g C E) σ H Q) :
    tComp js (tDI K κ pu lo0 I) (tDG K [] .cl g) (tDT K [] false C) (tD K [] pe .cl E) σ H Q := by
  obtain ⟨G, O, ρ, q, hE, hq, k⟩ := h
  refine ⟨G, O, ρ, _, hE, hq, fun J H1 ds ρ1 O1 s1 e1 p1 ⟨di, vi, ri, hJ⟩ hgo Dl hD => ?_⟩
  let S := uni (Sx lo G.S0 O1) (· = Dl)
  let Gi : G0 := ⟨S, fun _ => False, H1, inSt js σ, []⟩
  have ri' : Rep K (Sx lo G.S0 O1) H1 di vi := by
    cases lo with
    | false =>
      cases lo0 with
      | false => exact ri
      | true => exact absurd (hlo rfl) Bool.false_ne_true
    | true =>
      cases lo0 with
      | false => exact Rep.go (.less fun _ z => .inl z) di vi ri
      | true => exact ri
  have u0 : uni S (fun _ => False) = S := by funext a; simp [uni]
  have start : EnvOk K [] Gi (fun _ => False) (inD js ρ1) (inSt js σ) (upd H1 Dl (.lst [])) := by
    refine ⟨fun _ => [], ?_, fun a => by simp, fun _ _ => rfl, fun i j a h => absurd h (by simp), fun _ => by simp, fun i a h => absurd h (by simp), fun i a h => absurd h (by simp), fun i n e => rfl, fun p hp => absurd hp (by simp [Gi]), fun a z => ?_, fun b o _ e => ?_, fun b e => ?_, fun p d e => ?_⟩
    · simp [inD, inSt]
    · rcases z with z | z
      · have := Sx_dom (lo := lo) e1 a z
        by_cases hab : a = Dl
        · rw [hab, upd_same]; simp
        · rw [upd_ne hab]; exact this
      · rw [z, upd_same]; simp
    · rw [upd_ne (ne_of_none e hD)]; exact e
    · by_cases hab : b = Dl
      · rw [hab, upd_same]; simp
      · rw [upd_ne hab]; exact e
    · obtain ⟨j, hj, e2⟩ := inD_get e
      obtain ⟨v, h1, h2, h3⟩ := e1.read e2
      refine ⟨v, inSt_get hj h1, ?_⟩
      show Rep K (uni S fun _ => False) _ d v
      rw [u0]
      refine Rep.go (Goes.fresh hD) d v ?_
      cases lo with
      | true => exact h2
      | false => exact h3 (hcap rfl (some j) (List.mem_of_getElem? hj) j rfl)
  have empty : ∀ {O' : Addr → Prop} {ρ' : EnvD} {σ' : St} {H' : Hp}, EnvOk K [] Gi O' ρ' σ' H' → O' = fun _ => False := fun {O' ρ' σ' H'} h => by
    obtain ⟨F, f⟩ := h
    funext a
    have : ¬ O' a := fun z => by
      obtain ⟨i, hi⟩ := (f.own a).mp z
      rw [f.non i (by simp [kd, dep])] at hi
      exact absurd hi (by simp)
    simp [this]
  have sameIn : ∀ {O' : Addr → Prop} {ρ' : EnvD} {σ' : St} {H' : Hp}, EnvOk K [] Gi O' ρ' σ' H' → Same H1 H' := fun h => by
    obtain ⟨F, f⟩ := h
    exact fun b o e => f.keep b o (fun z => z) e
  refine ⟨fun i m σ' H' => m + i = ds.length ∧ ∃ ρi acc vs, EnvOk K [] Gi (fun _ => False) ρi σ' H' ∧ H' Dl = some (.lst vs) ∧ Reps K S H' acc vs ∧ compGo g C E (ds.drop i) acc ρi (fun acc _ => q (.lst acc) ρ1), ⟨ds.length, rfl, _, [], [], start, upd_same, by simp only [Reps], hgo⟩, ?_⟩
  rintro i m σ' H' ⟨hm, ρi, acc, vs, en, hDl, hacc, hg⟩
  have sm := sameIn en
  have hit := hJ _ H' (Rep.go (Goes.same sm) di vi ri') i
  cases e : ds[i]? with
  | none =>
    left
    have hi : ds.length ≤ i := List.getElem?_eq_none_iff.mp e
    rw [List.drop_eq_nil_of_le hi] at hg
    refine ⟨hit.2 e, ?_⟩
    have vr : VRes K (Sx lo G.S0 O1) H1 H' [Dl] (.ow 1) (.lst acc) (.ref Dl) := by
      refine ⟨by simp, fun a ha => ?_, ?_⟩
      · obtain rfl : a = Dl := by simpa using ha
        exact ⟨hD, _, hDl, trivial⟩
      · simp only [Own]
        have eq : uni (Sx lo G.S0 O1) (fpS [Dl]) = S := by funext a; simp [uni, fpS, S]
        refine ⟨Dl, acc.map fun _ => [], rfl, by simp, .inl ⟨acc, vs, rfl, hDl, by simp, hacc.len, fun i f x u e1 e2 e3 => ⟨?_, ?_⟩⟩⟩
        · rw [List.getElem?_map, e2] at e1; simpa using e1.symm
        · obtain ⟨u', e4, r⟩ := hacc.get e2
          rw [e3] at e4; cases e4
          rw [eq]; exact r
    obtain ⟨fp', st, en', vo⟩ := VRes.fin e1 s1 sm vr (by simp)
    exact k _ H' _ ρ1 O1 fp' st en' vo (p1.same sm) hg
  | some d =>
    right
    rw [drop_at e] at hg
    obtain ⟨Nd, hNd, hg⟩ := hg
    obtain ⟨g1, g2⟩ := hit.1 d e
    have hi : i < ds.length := (List.getElem?_eq_some_iff.mp e).1
    refine ⟨g1, fun σ2 H2 => ∃ ρi acc vs, EnvOk K [] Gi (fun _ => False) ρi σ2 H2 ∧ H2 Dl = some (.lst vs) ∧ Reps K S H2 acc vs ∧ compGo g C E (ds.drop (i + 1)) acc ρi (fun acc _ => q (.lst acc) ρ1), fun σ2 H2 ⟨ρi, acc, vs, z⟩ => ⟨ds.length - (i + 1), by omega, by omega, ρi, acc, vs, z⟩, fun x H2 y => ?_⟩
    -- the item: it keeps from the list too
    have hit2 := hJ S H' (by
      have q1 := Rep.go (Goes.fresh (o := .lst []) hD) di vi ri'
      have g3 : Goes S S (upd H1 Dl (.lst [])) H' := by
        refine ⟨fun a xs z => ?_, fun a u nS z => ⟨?_, nS⟩, fun a o u z => by
          have hab : a ≠ Dl := by rintro rfl; rw [upd_same] at z; cases z
          rw [upd_ne hab] at z; exact sm _ _ z⟩
        · obtain ⟨_, ez⟩ := z.some
          by_cases hab : a = Dl
          · subst hab
            rcases z with z | ⟨_, z⟩ <;> (rw [upd_same] at z; cases z)
          · rcases z with z | ⟨o, z⟩
            · rw [upd_ne hab] at z; exact .inl (sm _ _ z)
            · rw [upd_ne hab] at z; exact .inr ⟨o, sm _ _ z⟩
        · have hab : a ≠ Dl := fun z => nS (.inr z)
          rcases z with z | ⟨o, z⟩
          · rw [upd_ne hab] at z; exact .inl (sm _ _ z)
          · rw [upd_ne hab] at z; exact .inr ⟨o, sm _ _ z⟩
      exact Rep.go g3 di vi q1) i
    obtain ⟨sm2, rx⟩ := (hit2.1 d e).2 x H2 y
    have en2 := en.same0 sm2
    have hDl2 := sm2 _ _ hDl
    have hacc2 := Reps.go (Goes.same sm2) acc vs hacc
    refine ⟨Gi, _, ρi, _, d, en2, (by rw [show Sx (loB .cl) Gi.S0 (fun _ => False) = uni S fun _ => False from rfl, u0]; exact rx), hg, fun σ3 ρ3 e3 hc => ⟨Gi, _, ρ3, _, e3, hc, fun b H4 ρ4 O4 s4 e4 p4 hb => ?_⟩⟩
    have o4 := empty e4
    subst o4
    have sm4 : Same H2 H4 := fun b o e => s4.keep b o (fun z => z) e
    have hDl4 := sm4 _ _ hDl2
    have hacc4 := Reps.go (Goes.same sm4) acc vs hacc2
    cases b with
    | false =>
      rw [if_neg Bool.false_ne_true] at hb
      exact iteF ⟨ρ4, acc, vs, e4, hDl4, hacc4, hNd _ _ hb⟩
    | true =>
      rw [if_pos rfl] at hb
      refine iteT ⟨Gi, _, ρ4, _, e4, hb, fun v H5 z ρ5 O5 fp s5 e5 vo p5 ⟨hlen, hz⟩ => ?_⟩
      have e5' := e5.drop
      have o5 := empty e5'
      subst o5
      have sm5 : Same H4 H5 := fun b o e => s5.keep b o (fun z => z) e
      have hDl5 := sm5 _ _ hDl4
      have hacc5 := Reps.go (Goes.same sm5) acc vs hacc4
      refine ⟨vs, hDl5, by rw [hacc.len]; exact hlen, ρ5, acc ++ [z], vs ++ [v], e5'.updS (.inr rfl) hDl5 trivial hD, upd_same, ?_, hNd _ _ hz⟩
      have gU : Goes S S H5 (upd H5 Dl (.lst (vs ++ [v]))) := Goes.upd hDl5 trivial (.inr rfl)
      have rv := vo.2
      rw [show uni Gi.S0 (fun _ => False) = S from u0] at rv
      exact Reps.snoc (Reps.go gU acc vs hacc5) (Rep.go gU z v rv)
variable {tg elt iter : Expr} {ifs : List Expr} {scope : Scope} {pos : Pos} {Nc : List Str} {lo0 pe md : Bool}
theorem dcomp (hs : ∀ x, foldedSetIterable iter X.env x = pure x) (hc : X.calm = true) (hcap : lo = false → ∀ j ∈ js, ∀ i, j = some i → kd κ i = .cl) (hlo : lo0 = true → lo = true) (hi : DI X κ pu lo0 tg iter I) (S : CompSc X Nc js scope)
    (hb : ∀ pins fp H s C', DG (cxComp X Nc scope pins fp H s C') [] .cl tg g ∧ DIf (cxComp X Nc scope pins fp H s C') [] ifs C ∧ DE (cxComp X Nc scope pins fp H s C') [] pe .cl elt E) :
    DE X κ pu (outM lo (.ow 1)) (.ListComp elt [⟨tg, iter, ifs, 0⟩] scope pos) (eComp js I g C E) :=
  ⟨(pe_comp hc hi.h S (fun p f H s C' => let ⟨x, y, z⟩ := hb p f H s C'; ⟨x.h, y.h, z.h⟩) hs).weak fun σ H Q h => comp_go (K := X.K) hcap hlo h⟩
theorem dsetC {i : Nat} {y : Str} {py spos : Pos} {mr : SK} (hk : (lo = false ∧ (kd κ i = .cl ∨ kd κ i = .ow 1)) ∨ (lo = true ∧ kd κ i = .lo)) (hsw : swapsWith (.ListComp elt [⟨tg, iter, ifs, 0⟩] scope pos) (some (.Name y py)) spos.line X.env = pure true) (hs : ∀ x, foldedSetIterable iter X.env x = pure x)
    (hc : X.calm = true) (hN : X.N.Nodup) (hiN : X.N[i]? = some y) (hy : X.env.scope.names.lookup y = some .local) (hcap : lo = false → ∀ j ∈ js, ∀ i, j = some i → kd κ i = .cl) (hlo : lo0 = true → lo = true) (hi : DI X κ pu lo0 tg iter I) (S : CompSc X Nc js scope)
    (hb : ∀ pins fp H s C', DG (cxComp X Nc scope pins fp H s C') [] .cl tg g ∧ DIf (cxComp X Nc scope pins fp H s C') [] ifs C ∧ DE (cxComp X Nc scope pins fp H s C') [] pe .cl elt E) :
    DS X κ mr (.Assign [.Name y py] (.ListComp elt [⟨tg, iter, ifs, 0⟩] scope pos) spos) (sSet i (eComp js I g C E)) := by
  refine ⟨(ps_setC hc hN hiN hy hi.h S (fun p f H s C' => let ⟨x, y, z⟩ := hb p f H s C'; ⟨x.h, y.h, z.h⟩) hsw hs).weak fun D σ H ⟨G, O, ρ, De, hE, hT, nx, bk, ct, rt⟩ => comp_go (K := X.K) hcap hlo ⟨G, O, ρ, _, hE, hT, fun v H' d ρ' O' fp s1 e1 vo p1 hq => ?_⟩⟩
  rcases hk with ⟨rfl, hk⟩ | ⟨rfl, hk⟩
  · rcases hk with hk | hk
    · exact nx _ H' _ O' (e1.drop.put (.inl ⟨hk, (VOk.clean hE.s0 vo).2⟩)) hq
    · obtain ⟨O2, e2⟩ := EnvOk.putO hk e1 hE.dom hE.s0 vo
      exact nx _ H' _ O2 e2 hq
  · exact nx _ H' _ O' (e1.drop.put (.inr ⟨hk, vo.2⟩)) hq
end
section
variable {X : Cx} {κ κc : List SK} {pu : Bool} {I : DTI} {g : DTG} {C : DTT} {E : DTE} {js : List (Option Nat)} {K : PySem.W.Frag} {i0 pI n : Nat}
theorem compX_go (hd : dep (kd κ i0) = some n) (hpI : kd κc pI = .io n) (hjI : js[pI]? = some (some i0)) (hκc : ∀ p, p ≠ pI → kd κc p = .cl) (hcap : ∀ p j, p ≠ pI → js[p]? = some (some j) → kd κ j = .cl) {pe : Bool} {σ : St} {H : Hp} {Q : VK} (h : tD K κ false (.ow 1) (eCompX κ i0 pI js I g C E) σ H Q) :
    tComp js (tDI K κ pu false I) (tDG K κc .cl g) (tDT K κc false C) (tD K κc pe .cl E) σ H Q := by
  obtain ⟨G, O, ρ, q, hE, hq, k⟩ := h
  refine ⟨G, O, ρ, _, hE, hq, fun J H1 ds ρ1 O1 s1 e1 p1 ⟨di, vi, ri, hJ⟩ hgo Dl hD => ?_⟩
  obtain ⟨F, f⟩ := id e1
  let S1 : Addr → Prop := uni G.S0 fun a => O1 a ∧ a ∉ F i0
  let S := uni S1 (· = Dl)
  let Gi : G0 := ⟨S, fpS (F i0), H1, inSt js σ, [(di, vi)]⟩
  have eqS : ∀ a, uni S (fpS (F i0)) a ↔ uni (uni G.S0 O1) (· = Dl) a := fun a => by
    constructor
    · rintro (((z | z) | z) | z)
      · exact .inl (.inl z)
      · exact .inl (.inr z.1)
      · exact .inr z
      · exact .inl (.inr ((f.own a).mpr ⟨i0, z⟩))
    · rintro ((z | z) | z)
      · exact .inl (.inl (.inl z))
      · by_cases ha : a ∈ F i0
        · exact .inr ha
        · exact .inl (.inl (.inr ⟨z, ha⟩))
      · exact .inl (.inr z)
  have toIn : ∀ d v, Rep K (uni G.S0 O1) H1 d v → Rep K (uni S (fpS (F i0))) (upd H1 Dl (.lst [])) d v := fun d v r => Rep.go (.less fun a => (eqS a).mp) d v (Rep.go (Goes.fresh hD) d v r)
  have start : EnvOk K κc Gi (fpS (F i0)) (inD js ρ1) (inSt js σ) (upd H1 Dl (.lst [])) := by
    refine ⟨setF (fun _ => []) pI (F i0), ?_, fun a => ?_, fun p hn => ?_, fun p p' a h1 h2 => ?_, fun p => ?_, fun p a ha => ?_, fun p a ha => ?_, fun p n e => rfl, fun p hp => ?_, fun a z => ?_, fun b o _ e => ?_, fun b e => ?_, fun p d e => ?_⟩
    · simp [inD, inSt]
    · constructor
      · intro z; exact ⟨pI, by rw [setF_at]; exact z⟩
      · rintro ⟨p, z⟩
        by_cases hp : p = pI
        · rw [hp, setF_at] at z; exact z
        · rw [setF_ne hp] at z; exact absurd z (by simp)
    · have hp : p ≠ pI := by rintro rfl; rw [hpI] at hn; cases hn
      rw [setF_ne hp]
    · by_cases hp : p = pI
      · by_cases hp' : p' = pI
        · rw [hp, hp']
        · rw [setF_ne hp'] at h2; exact absurd h2 (by simp)
      · rw [setF_ne hp] at h1; exact absurd h1 (by simp)
    · by_cases hp : p = pI
      · rw [hp, setF_at]; exact f.nd i0
      · rw [setF_ne hp]; simp
    · by_cases hp : p = pI
      · rw [hp, setF_at] at ha
        obtain ⟨n1, o, eo, m⟩ := f.mu i0 a ha
        have hne : a ≠ Dl := by rintro rfl; rw [hD] at eo; cases eo
        refine ⟨?_, o, by rw [upd_ne hne]; exact eo, m⟩
        rintro ((z | z) | z)
        · exact n1 z
        · exact z.2 ha
        · exact hne z
      · rw [setF_ne hp] at ha; exact absurd ha (by simp)
    · by_cases hp : p = pI
      · rw [hp, setF_at] at ha; exact .inl ⟨⟨n, by rw [hp]; exact hpI⟩, ha⟩
      · rw [setF_ne hp] at ha; exact absurd ha (by simp)
    · obtain rfl : p = (di, vi) := by simpa [Gi] using hp
      exact toIn di vi ri
    · rcases z with (z | z) | z
      · by_cases hab : a = Dl
        · rw [hab, upd_same]; simp
        · rw [upd_ne hab]; exact f.s0 a z
      · obtain ⟨o, eo, _⟩ := e1.mutO a z.1
        have hne : a ≠ Dl := by rintro rfl; rw [hD] at eo; cases eo
        rw [upd_ne hne, eo]; simp
      · rw [z, upd_same]; simp
    · rw [upd_ne (ne_of_none e hD)]; exact e
    · by_cases hab : b = Dl
      · rw [hab, upd_same]; simp
      · rw [upd_ne hab]; exact e
    · obtain ⟨j, hj, e2⟩ := inD_get e
      by_cases hp : p = pI
      · subst hp
        rw [hjI] at hj; cases hj
        obtain ⟨v, h1, h2⟩ := f.slot i0 d e2
        refine ⟨v, inSt_get hjI h1, ?_⟩
        rw [hpI, setF_at]
        have ho : Own K (uni G.S0 O1) H1 n (F i0) d v := by
          cases q : kd κ i0 with
          | cl => rw [q] at hd; cases hd
          | lo => rw [q] at hd; cases hd
          | ow m => rw [q] at hd h2; cases hd; exact h2
          | io m => rw [q] at hd h2; cases hd; exact h2
        exact Own.go (.less fun a => (eqS a).mp) n _ d v (fun _ _ _ h => h) (Own.go (Goes.fresh hD) n _ d v (fun a ha o eo => by rw [upd_ne (ne_of_none eo hD)]; exact eo) ho)
      · obtain ⟨v, h1, h2, h3⟩ := e1.read e2
        refine ⟨v, inSt_get hj h1, ?_⟩
        rw [hκc p hp]
        exact toIn d v (h3 (hcap p j hp hj))
  refine ⟨fun i m σ' H' => m + i = ds.length ∧ ∃ ρi Oi acc vs, EnvOk K κc Gi Oi ρi σ' H' ∧ H' Dl = some (.lst vs) ∧ Reps K (uni S Oi) H' acc vs ∧ compGo g C E (ds.drop i) acc ρi (fun acc ρin => ∃ d', ρin[pI]? = some (some d') ∧ q (.lst acc) (kl κ (ρ1.set i0 (some d')))), ⟨ds.length, rfl, _, _, [], [], start, upd_same, by simp only [Reps], hgo⟩, ?_⟩
  rintro i m σ' H' ⟨hm, ρi, Oi, acc, vs, en, hDl, hacc, hg⟩
  have hit := hJ (uni S Oi) H' (by obtain ⟨F', f'⟩ := id en; exact f'.gh (di, vi) (by simp [Gi])) i
  cases e : ds[i]? with
  | none =>
    left
    have hi : ds.length ≤ i := List.getElem?_eq_none_iff.mp e
    rw [List.drop_eq_nil_of_le hi] at hg
    obtain ⟨d', hd', hz⟩ := hg
    refine ⟨hit.2 e, ?_⟩
    obtain ⟨F', f'⟩ := id en
    obtain ⟨u, h1, h2⟩ := f'.slot pI d' hd'
    rw [hpI] at h2
    have hpar := f'.par pI n hpI
    obtain ⟨d0, hd0⟩ : ∃ v0, σ[i0]? = some (some v0) := by
      rw [h1, show Gi.ps[pI]? = (inSt js σ)[pI]? from rfl] at hpar
      unfold inSt at hpar
      rw [List.getElem?_map, hjI] at hpar
      simp only [Option.map_some] at hpar
      cases e3 : σ[i0]? with
      | none => rw [e3] at hpar; cases hpar
      | some o => rw [e3] at hpar; simp only [Option.some.injEq] at hpar; exact ⟨u, by rw [hpar]⟩
    have eu : u = d0 := by
      rw [h1, show Gi.ps[pI]? = (inSt js σ)[pI]? from rfl, inSt_get hjI hd0] at hpar
      simpa using hpar
    subst eu
    have sub : ∀ a, a ∈ F' pI → Oi a := fun a ha => (f'.own a).mpr ⟨pI, ha⟩
    have OiF : ∀ a, Oi a → a ∈ F' pI := fun a z => by
      obtain ⟨p, hp⟩ := (f'.own a).mp z
      by_cases hpp : p = pI
      · rw [← hpp]; exact hp
      · rw [f'.non p (by rw [hκc p hpp]; rfl)] at hp; exact absurd hp (by simp)
    have le2 : ∀ a, uni (uni G.S0 (fpS [Dl])) (OF (setF F i0 (F' pI))) a → uni S Oi a := fun a z => by
      rcases z with (z | z) | ⟨p, z⟩
      · exact .inl (.inl (.inl z))
      · exact .inl (.inr (by simpa [fpS] using z))
      · by_cases hp : p = i0
        · rw [hp, setF_at] at z; exact .inr (sub a z)
        · rw [setF_ne hp] at z
          exact .inl (.inl (.inr ⟨(f.own a).mpr ⟨p, z⟩, fun w => hp (f.dis p i0 a z w)⟩))
    have keep : ∀ b o, b ∉ F i0 → H1 b = some o → H' b = some o := fun b o nb eb => f'.keep b o nb eb
    obtain ⟨g1, g2⟩ := EnvF.chg (H' := H') (f' := F' pI) (fp := [Dl]) (d' := d') (v := u) f hd keep f'.dom (f'.nd pI) (fun a ha => ⟨by
        rcases f'.new pI a ha with z | z
        · exact .inl z.2
        · exact .inr z, (f'.mu pI a ha).2⟩) (fun a ha => by
        obtain rfl : a = Dl := by simpa using ha
        exact ⟨hD, by rw [hDl]; simp, fun z => (f'.mu pI _ z).1 (.inr rfl)⟩) hd0 (Own.go (.less le2) n _ d' u (fun _ _ _ h => h) h2)
    refine k _ H' _ _ _ [Dl] (s1.trans g2) ⟨_, g1⟩ (VOk.base s1 ⟨by simp, fun a ha => ?_, ?_⟩) (fun h => absurd h Bool.false_ne_true) hz
    · obtain rfl : a = Dl := by simpa using ha
      refine ⟨hD, fun ⟨p, z⟩ => ?_, _, hDl, trivial⟩
      by_cases hp : p = i0
      · rw [hp, setF_at] at z; exact (f'.mu pI _ z).1 (.inr rfl)
      · rw [setF_ne hp] at z
        obtain ⟨_, o, eo, _⟩ := f.mu p _ z
        rw [hD] at eo; cases eo
    · simp only [Own]
      refine ⟨Dl, acc.map fun _ => [], rfl, by simp, .inl ⟨acc, vs, rfl, hDl, by simp, hacc.len, fun i f x u e1 e2 e3 => ⟨?_, ?_⟩⟩⟩
      · rw [List.getElem?_map, e2] at e1; simpa using e1.symm
      · obtain ⟨u', e4, r⟩ := hacc.get e2
        rw [e3] at e4; cases e4
        exact Rep.go (.less le2) x u r
  | some d =>
    right
    rw [drop_at e] at hg
    obtain ⟨Nd, hNd, hg⟩ := hg
    obtain ⟨g1, g2⟩ := hit.1 d e
    have hi : i < ds.length := (List.getElem?_eq_some_iff.mp e).1
    refine ⟨g1, fun σ2 H2 => ∃ ρi Oi acc vs, EnvOk K κc Gi Oi ρi σ2 H2 ∧ H2 Dl = some (.lst vs) ∧ Reps K (uni S Oi) H2 acc vs ∧ compGo g C E (ds.drop (i + 1)) acc ρi (fun acc ρin => ∃ d', ρin[pI]? = some (some d') ∧ q (.lst acc) (kl κ (ρ1.set i0 (some d')))), fun σ2 H2 ⟨ρi, Oi, acc, vs, z⟩ => ⟨ds.length - (i + 1), by omega, by omega, ρi, Oi, acc, vs, z⟩, fun x H2 y => ?_⟩
    obtain ⟨sm2, rx⟩ := g2 x H2 y
    have en2 := en.same0 sm2
    have hDl2 := sm2 _ _ hDl
    have hacc2 := Reps.go (Goes.same sm2) acc vs hacc
    have nD : ∀ {O' : Addr → Prop} {ρ' : EnvD} {σ' : St} {H' : Hp}, EnvOk K κc Gi O' ρ' σ' H' → ¬ O' Dl := fun h z => h.noS Dl z (.inr rfl)
    refine ⟨Gi, _, ρi, _, d, en2, rx, hg, fun σ3 ρ3 e3 hc => ⟨Gi, _, ρ3, _, e3, hc, fun b H4 ρ4 O4 s4 e4 p4 hb => ?_⟩⟩
    have hDl4 := s4.keep _ _ (nD en2) hDl2
    have hacc4 := Reps.go (Goes.step en2.mutO s4) acc vs hacc2
    cases b with
    | false =>
      rw [if_neg Bool.false_ne_true] at hb
      exact iteF ⟨ρ4, O4, acc, vs, e4, hDl4, hacc4, hNd _ _ hb⟩
    | true =>
      rw [if_pos rfl] at hb
      refine iteT ⟨Gi, _, ρ4, _, e4, hb, fun v H5 z ρ5 O5 fp s5 e5 vo p5 ⟨hlen, hz⟩ => ?_⟩
      have e5' := e5.drop
      have hDl5 := s5.keep _ _ (nD e4) hDl4
      have hacc5 := Reps.go (Goes.step e4.mutO s5) acc vs hacc4
      refine ⟨vs, hDl5, by rw [hacc.len]; exact hlen, ρ5, O5, acc ++ [z], vs ++ [v], e5'.updS (.inr rfl) hDl5 trivial hD, upd_same, ?_, hNd _ _ hz⟩
      have gU : Goes (uni S O5) (uni S O5) H5 (upd H5 Dl (.lst (vs ++ [v]))) := Goes.upd hDl5 trivial (.inl (.inr rfl))
      exact Reps.snoc (Reps.go gU acc vs hacc5) (Rep.go gU z v vo.2)
variable {tg elt iter : Expr} {ifs : List Expr} {scope : Scope} {pos : Pos} {Nc : List Str} {pe : Bool}
theorem dsetCX {i : Nat} {y : Str} {py spos : Pos} {mr : SK} (hk : kd κ i = .cl ∨ kd κ i = .ow 1) (hsw : swapsWith (.ListComp elt [⟨tg, iter, ifs, 0⟩] scope pos) (some (.Name y py)) spos.line X.env = pure true) (hs : ∀ x, foldedSetIterable iter X.env x = pure x)
    (hc : X.calm = true) (hN : X.N.Nodup) (hiN : X.N[i]? = some y) (hy : X.env.scope.names.lookup y = some .local) (hd : dep (kd κ i0) = some n) (hpI : kd κc pI = .io n) (hjI : js[pI]? = some (some i0)) (hκc : ∀ p, p ≠ pI → kd κc p = .cl) (hcap : ∀ p j, p ≠ pI → js[p]? = some (some j) → kd κ j = .cl) (hi : DI X κ pu false tg iter I) (S : CompSc X Nc js scope)
    (hb : ∀ pins fp H s C', DG (cxComp X Nc scope pins fp H s C') κc .cl tg g ∧ DIf (cxComp X Nc scope pins fp H s C') κc ifs C ∧ DE (cxComp X Nc scope pins fp H s C') κc pe .cl elt E) :
    DS X κ mr (.Assign [.Name y py] (.ListComp elt [⟨tg, iter, ifs, 0⟩] scope pos) spos) (sSet i (eCompX κ i0 pI js I g C E)) := by
  refine ⟨(ps_setC hc hN hiN hy hi.h S (fun p f H s C' => let ⟨x, y, z⟩ := hb p f H s C'; ⟨x.h, y.h, z.h⟩) hsw hs).weak fun D σ H ⟨G, O, ρ, De, hE, hT, nx, bk, ct, rt⟩ => compX_go (K := X.K) hd hpI hjI hκc hcap ⟨G, O, ρ, _, hE, hT, fun v H' d ρ' O' fp s1 e1 vo p1 hq => ?_⟩⟩
  rcases hk with hk | hk
  · exact nx _ H' _ O' (e1.drop.put (.inl ⟨hk, (VOk.clean hE.s0 vo).2⟩)) hq
  · obtain ⟨O2, e2⟩ := EnvOk.putO hk e1 hE.dom hE.s0 vo
    exact nx _ H' _ O2 e2 hq
end
section
variable {X : Cx} {f : Value → Value → Sem Value}
abbrev DR2 := D → D → (D → Prop) → Prop
abbrev DRn := List D → (D → Prop) → Prop
def oI (C : Int → Int → Prop) (g : Int → Int → D) : DR2 := fun x y q => ∃ i j, x = .int i ∧ y = .int j ∧ C i j ∧ q (g i j)
def oI0 (g : Int → Int → D) : DR2 := fun x y q => ∃ i j, x = .int i ∧ y = .int j ∧ q (g i j)
theorem dopI {C : Int → Int → Prop} {g : Int → Int → V} {gd : Int → Int → D} (h : OpR X f (rI C g)) (hg : ∀ i j S H, Rep X.K S H (gd i j) (g i j)) : DOp X .cl f (oI C gd) :=
  ⟨⟨_, h, fun S H dx dy vx vy q Q rx ry ⟨i, j, ex, ey, c, hq⟩ k => by
    subst ex ey
    simp only [Rep] at rx ry
    exact ⟨i, j, rx, ry, c, k _ H _ [] (.refl _) ⟨rfl, hg i j S H⟩ hq⟩⟩⟩
theorem dopI0 {g : Int → Int → V} {gd : Int → Int → D} (h : OpR X f (rI0 g)) (hg : ∀ i j S H, Rep X.K S H (gd i j) (g i j)) : DOp X .cl f (oI0 gd) :=
  ⟨⟨_, h, fun S H dx dy vx vy q Q rx ry ⟨i, j, ex, ey, hq⟩ k => by
    subst ex ey
    simp only [Rep] at rx ry
    exact ⟨i, j, rx, ry, k _ H _ [] (.refl _) ⟨rfl, hg i j S H⟩ hq⟩⟩⟩
theorem do_add : DOp X .cl (binaryOp .Add) (oI0 fun i j => .int (i + j)) := dopI0 op_add fun _ _ _ _ => by simp only [Rep]
theorem do_sub : DOp X .cl (binaryOp .Sub) (oI0 fun i j => .int (i - j)) := dopI0 op_sub fun _ _ _ _ => by simp only [Rep]
theorem do_mul : DOp X .cl (binaryOp .Mult) (oI IntMulOk fun i j => .int (i * j)) := dopI op_mulB fun _ _ _ _ => by simp only [Rep]
theorem do_mod : DOp X .cl (binaryOp .Mod) (oI (fun _ j => 0 < j) fun i j => .int (i % j)) := dopI op_mod fun _ _ _ _ => by simp only [Rep]
theorem do_fdiv : DOp X .cl (binaryOp .FloorDiv) (oI CDiv fun i j => .int (i / j)) := dopI op_fdiv fun _ _ _ _ => by simp only [Rep]
theorem do_pow : DOp X .cl (binaryOp .Pow) (oI CPow fun i j => .int (i ^ j.toNat)) := dopI op_pow fun _ _ _ _ => by simp only [Rep]
theorem do_lt : DOp X .cl (compareOp .Lt) (oI0 fun i j => .bl (decide (i < j))) := dopI0 op_lt fun _ _ _ _ => by simp only [Rep]
theorem do_le : DOp X .cl (compareOp .LtE) (oI0 fun i j => .bl (decide (i ≤ j))) := dopI0 op_le fun _ _ _ _ => by simp only [Rep]
theorem do_gt : DOp X .cl (compareOp .Gt) (oI0 fun i j => .bl (decide (j < i))) := dopI0 op_gt fun _ _ _ _ => by simp only [Rep]
theorem do_ge : DOp X .cl (compareOp .GtE) (oI0 fun i j => .bl (decide (j ≤ i))) := dopI0 op_ge fun _ _ _ _ => by simp only [Rep]
def oEq : DR2 := fun x y q => okE 12 x = true ∧ okE 12 y = true ∧ q (.bl (pyEq x y))
def oNe : DR2 := fun x y q => okE 12 x = true ∧ okE 12 y = true ∧ q (.bl (!pyEq x y))
theorem do_eq (hu : X.A.units + 12 < cLine) : DOp X .cl (compareOp .Eq) oEq := by
  refine ⟨fun x y H Q => ∃ S dx dy, okE 12 dx = true ∧ okE 12 dy = true ∧ Rep X.K S H dx x ∧ Rep X.K S H dy y ∧ Q (.bl (pyEq dx dy)) H, ?_, fun S H dx dy vx vy q Q rx ry ⟨h1, h2, hq⟩ k => ⟨S, dx, dy, h1, h2, rx, ry, k _ H _ [] (.refl _) ⟨rfl, by simp only [Rep]⟩ hq⟩⟩
  intro pins s σ H x y v u Q I rx ry h
  obtain ⟨S, dx, dy, h1, h2, r1, r2, q⟩ := h
  exact (eqD_ok I 12 X.A dx dy x y v u h1 h2 hu r1 r2 rx ry).r _ _ _ _ ⟨.bl _, H, I, rfl, q⟩
theorem do_ne (hu : X.A.units + 12 < cLine) : DOp X .cl (compareOp .NotEq) oNe := by
  refine ⟨fun x y H Q => ∃ S dx dy, okE 12 dx = true ∧ okE 12 dy = true ∧ Rep X.K S H dx x ∧ Rep X.K S H dy y ∧ Q (.bl (!pyEq dx dy)) H, ?_, fun S H dx dy vx vy q Q rx ry ⟨h1, h2, hq⟩ k => ⟨S, dx, dy, h1, h2, rx, ry, k _ H _ [] (.refl _) ⟨rfl, by simp only [Rep]⟩ hq⟩⟩
  intro pins s σ H x y v u Q I rx ry h
  obtain ⟨S, dx, dy, h1, h2, r1, r2, q⟩ := h
  exact (eqD_ok I 12 X.A dx dy x y v u h1 h2 hu r1 r2 rx ry).n _ _ _ _ ⟨.bl _, H, I, rfl, q⟩
def isNon : D → Bool
  | .non => true
  | _ => false
theorem rep_non {K : PySem.W.Frag} {S : Addr → Prop} {H : Hp} {d : D} {v : V} (r : Rep K S H d v) : decide (v = .non) = isNon d := by
  cases d <;> simp only [Rep] at r <;> first | (subst r; rfl) | (obtain ⟨_, _, rfl, _⟩ := r; rfl) | (obtain ⟨_, rfl, _⟩ := r; rfl)
theorem do_is : DOp X .cl (compareOp .Is) (fun x y q => y = .non ∧ q (.bl (isNon x))) :=
  ⟨⟨_, op_isN, fun S H dx dy vx vy q Q rx ry ⟨ey, hq⟩ k => by
    subst ey
    simp only [Rep] at ry
    refine ⟨ry, ?_⟩
    rw [rep_non rx]
    exact k _ H _ [] (.refl _) ⟨rfl, by simp only [Rep]⟩ hq⟩⟩
theorem do_isnot : DOp X .cl (compareOp .IsNot) (fun x y q => y = .non ∧ q (.bl (!isNon x))) :=
  ⟨⟨_, op_notN, fun S H dx dy vx vy q Q rx ry ⟨ey, hq⟩ k => by
    subst ey
    simp only [Rep] at ry
    refine ⟨ry, ?_⟩
    rw [rep_non rx]
    exact k _ H _ [] (.refl _) ⟨rfl, by simp only [Rep]⟩ hq⟩⟩
theorem Reps.append {K : PySem.W.Frag} {S : Addr → Prop} {H : Hp} : ∀ {a b : List D} {vs ws : List V}, Reps K S H a vs → Reps K S H b ws → Reps K S H (a ++ b) (vs ++ ws)
  | [], b, vs, ws, h, r => by simp only [Reps] at h; subst h; exact r
  | x :: a, b, vs, ws, h, r => by
    simp only [Reps] at h
    obtain ⟨u, t, rfl, h1, h2⟩ := h
    simp only [List.cons_append, Reps]
    exact ⟨u, t ++ ws, rfl, h1, h2.append r⟩
theorem do_cat : DOp X (.ow 1) (binaryOp .Add) (fun x y q => ∃ a b, x = .lst a ∧ y = .lst b ∧ a.length + b.length ≤ sizeLine ∧ q (.lst (a ++ b))) := by
  refine ⟨fun x y H Q => ∃ l b xs zs, x = .ref l ∧ y = .ref b ∧ Rd H l (.lst xs) ∧ Rd H b (.lst zs) ∧ xs.length + zs.length ≤ sizeLine ∧ ∀ p, H p = none → Q (.ref p) (upd H p (.lst (xs ++ zs))), ?_, fun S H dx dy vx vy q Q rx ry ⟨a, b, ex, ey, hl, hq⟩ k => ?_⟩
  · intro pins s σ H x y v u Q I rx ry h
    obtain ⟨l, b, xs, zs, rfl, rfl, h1, h2, hz, q⟩ := h
    cases rx
    cases ry
    obtain ⟨z1, its, n1, r1, e1⟩ := h1.ok I.hok
    obtain ⟨z2, its2, n2, r2, e2⟩ := h2.ok I.hok
    have l1 := r1.length
    have l2 := r2.length
    refine PySem.P.add_list e1 e2 ?_ (by rw [List.size_toArray, List.size_toArray]; omega)
    have ea : its.toArray ++ its2.toArray = (its ++ its2).toArray := by simp
    rw [ea]
    exact ⟨.ref _, _, I.lnew (t' := s.toks) (r1.append r2) (by rw [List.length_append]; omega), rfl, q _ I.fresh⟩
  · subst ex ey
    simp only [Rep] at rx ry
    obtain ⟨l, xs, rfl, _, h1, r1⟩ := rx
    obtain ⟨b', zs, rfl, _, h2, r2⟩ := ry
    exact ⟨l, b', xs, zs, rfl, rfl, h1, h2, by rw [r1.len, r2.len]; exact hl, fun p hp => k _ _ _ [p] (.new hp) (vres_lst (r1.append r2) hp) hq⟩
theorem op_repR : OpR X (binaryOp .Mult) (fun x y H Q => ∃ l k xs, x = .ref l ∧ y = .int k ∧ Rd H l (.lst xs) ∧ -(2 ^ 63) ≤ k ∧ k < 2 ^ 63 ∧ xs.length * k.toNat ≤ sizeLine ∧ ∀ p, H p = none → Q (.ref p) (upd H p (.lst (List.replicate k.toNat xs).flatten))) := by
  intro pins s σ H x y v u Q I rx ry h
  obtain ⟨l, k, xs, rfl, rfl, hH, h1, h2, hz, q⟩ := h
  cases rx
  obtain ⟨t, rfl⟩ := ry
  obtain ⟨z, its, n, r, e⟩ := hH.ok I.hok
  have hl := r.length
  have hlen : its.toArray.size * k.toNat ≤ sizeLine := by rw [List.size_toArray, ← hl]; exact hz
  have hcap : ¬ its.toArray.size * k.toNat > (2 ^ 63 - 1) / 8 := by
    have : (sizeLine : Nat) ≤ (2 ^ 63 - 1) / 8 := by decide
    omega
  have hfit : ¬ (!Builtin.List.listFitsIndex k) = true := by
    rw [fitsIndex_both h1 h2]
    exact Bool.false_ne_true
  have hlong : ¬ Builtin.List.listTooLong (its.toArray.size * k.toNat) = true := by
    rw [notLongL hlen]
    exact Bool.false_ne_true
  have hnew : List.foldl (fun x1 x2 => x1 ++ x2) #[] (List.replicate (if its.toArray.isEmpty = true then 0 else k.toNat) its.toArray) = (List.replicate k.toNat its).flatten.toArray := by
    have f0 : ∀ m : Nat, List.foldl (fun x1 x2 => x1 ++ x2) #[] (List.replicate m its.toArray) = (List.replicate m its).flatten.toArray := fun m => by
      have := foldl_rep its m []
      rw [List.nil_append] at this
      exact this
    rw [f0]
    cases its with
    | nil => simp
    | cons a r' => rw [if_neg (by simp)]
  refine wpAny_binaryOp_repeat_ref (T := "list") (U := "int") (by decide) ⟨_, e, rfl⟩ (fun s' => typeIs_int s' k t) noFill_list_mul F.fills_int_mul F.slot_int_rmul repeat_list F.slot_int_index.lookup
    (call_meets F.slot_int_rmul (typeIs_int s k t) F.entry_int_rmul (F.args_int_rmul_2 _ _) (int___rmul___int_list k t l its.toArray n)
      ⟨e, rfl, ⟨_, e, rfl⟩, call_meets F.slot_list_mul ⟨_, e, rfl⟩ F.entry_list_mul (F.args_list_mul_2 _ _) (AutoListH.list___mul___list_int_3 l its.toArray n k t hfit hcap hlong) ⟨e, ?_⟩⟩)
  rw [hnew]
  exact ⟨.ref _, _, I.lnew (t' := s.toks) (r.rep k.toNat) (by rw [len_rep, Nat.mul_comm]; exact hz), rfl, q _ I.fresh⟩
theorem Reps.rep {K : PySem.W.Frag} {S : Addr → Prop} {H : Hp} {a : List D} {vs : List V} (h : Reps K S H a vs) : ∀ n : Nat, Reps K S H (List.replicate n a).flatten (List.replicate n vs).flatten
  | 0 => by simp only [List.replicate_zero, List.flatten_nil, Reps]
  | n + 1 => by
    rw [List.replicate_succ, List.replicate_succ, List.flatten_cons, List.flatten_cons]
    exact h.append (h.rep n)
theorem do_rep : DOp X (.ow 1) (binaryOp .Mult) (fun x y q => ∃ a k, x = .lst a ∧ y = .int k ∧ -(2 ^ 63) ≤ k ∧ k < 2 ^ 63 ∧ a.length * k.toNat ≤ sizeLine ∧ q (.lst (List.replicate k.toNat a).flatten)) :=
  ⟨⟨_, op_repR, fun S H dx dy vx vy q Q rx ry ⟨a, n, ex, ey, b1, b2, hl, hq⟩ k => by
    subst ex ey
    simp only [Rep] at rx ry
    obtain ⟨l, xs, rfl, _, h1, r1⟩ := rx
    exact ⟨l, n, xs, rfl, ry, h1, b1, b2, by rw [r1.len]; exact hl, fun p hp => k _ _ _ [p] (.new hp) (vres_lst (r1.rep n.toNat) hp) hq⟩⟩⟩
structure DIx (X : Cx) (r : DR2) : Prop where
  h : ∃ r', IxR X r' ∧ ∀ S H dx dy vx vy q Q, Rep X.K S H dx vx → Rep X.K S H dy vy → r dx dy q → (∀ v H' z fp, Same H H' → VRes X.K S H H' fp .cl z v → q z → Q v H') → r' vx vy H Q
theorem atI_map {l : List D} {vs : List V} {K : PySem.W.Frag} {S : Addr → Prop} {H : Hp} {i : Int} {d : D} (h : Reps K S H l vs) (e : atI l i = some d) : ∃ v, atI vs i = some v ∧ Rep K S H d v := by
  unfold atI at e ⊢
  rw [h.len]
  cases z : ixN l.length i with
  | none => rw [z] at e; cases e
  | some j =>
    rw [z] at e
    simp only [Option.bind_some] at e ⊢
    obtain ⟨u, h1, h2⟩ := h.get e
    exact ⟨u, h1, h2⟩
theorem dix_l : DIx X (fun x y q => ∃ l i d, x = .lst l ∧ y = .int i ∧ atI l i = some d ∧ q d) :=
  ⟨⟨_, ix_list, fun S H dx dy vx vy q Q rx ry ⟨l, i, d, ex, ey, he, hq⟩ k => by
    subst ex ey
    simp only [Rep] at rx ry
    obtain ⟨a, xs, rfl, _, h1, r1⟩ := rx
    obtain ⟨v, h2, h3⟩ := atI_map r1 he
    exact ⟨a, xs, i, v, rfl, ry, .inl h1, h2, k _ H _ [] (.refl _) ⟨rfl, h3⟩ hq⟩⟩⟩
theorem dix_scr : DIx X (fun x y q => ∃ ns i n, x = .scr ns ∧ y = .int i ∧ atI ns i = some n ∧ q (.int n)) :=
  ⟨⟨_, ix_list, fun S H dx dy vx vy q Q rx ry ⟨ns, i, n, ex, ey, he, hq⟩ k => by
    subst ex ey
    simp only [Rep] at rx ry
    obtain ⟨a, rfl, h1⟩ := rx
    refine ⟨a, _, i, .int n, rfl, ry, h1.sq, ?_, k _ H _ [] (.refl _) ⟨rfl, by simp only [Rep]⟩ hq⟩
    unfold atI at he ⊢
    rw [List.length_map]
    cases z : ixN ns.length i with
    | none => rw [z] at he; cases he
    | some j => rw [z] at he; simp only [Option.bind_some] at he ⊢; rw [List.getElem?_map, he]; rfl⟩⟩
theorem dix_t : DIx X (fun x y q => ∃ l i d, x = .tup l ∧ y = .int i ∧ atI l i = some d ∧ q d) :=
  ⟨⟨_, ix_tup, fun S H dx dy vx vy q Q rx ry ⟨l, i, d, ex, ey, he, hq⟩ k => by
    subst ex ey
    simp only [Rep] at rx ry
    obtain ⟨a, xs, rfl, h1, r1⟩ := rx
    obtain ⟨v, h2, h3⟩ := atI_map r1 he
    exact ⟨a, xs, i, v, rfl, ry, h1, h2, k _ H _ [] (.refl _) ⟨rfl, h3⟩ hq⟩⟩⟩
theorem dix_s : DIx X (fun x y q => ∃ z i c, x = .str z ∧ y = .int i ∧ z.length ≤ sizeLine ∧ atI z.cps.toList i = some c ∧ q (.str ⟨#[c]⟩)) :=
  ⟨⟨_, ix_str, fun S H dx dy vx vy q Q rx ry ⟨z, i, c, ex, ey, hl, he, hq⟩ k => by
    subst ex ey
    simp only [Rep] at rx ry
    exact ⟨z, i, c, rx, ry, hl, he, k _ H _ [] (.refl _) ⟨rfl, by simp only [Rep]⟩ hq⟩⟩⟩
variable {κ : List SK} {pu1 pu2 : Bool} {m1 m2 : SK} {a b : Expr} {Ea Eb : DTE} {r : DR2} {pos : Pos}
theorem dix (hs : PlainIx b) (ho : DIx X r) (v1 : isV m1) (v2 : isV m2) (hp : m1 = .lo → pu2 = true) (ha : DE X κ pu1 m1 a Ea) (hb : DE X κ pu2 m2 b Eb) : DE X κ (pu1 && pu2) (outM (loB m1 || loB m2) .cl) (.Subscript a b pos) (eOp r Ea Eb) := by
  obtain ⟨r', h1, h2⟩ := ho.h
  exact ⟨(pe_ix h1 ha.h hb.h hs).weak fun σ H Q h => op_go (f := binaryOp .Add) h2 v1 v2 hp (by simp) h⟩
def cLen : DRn := fun ds q => (∃ l, ds = [.scr l] ∧ q (.int l.length)) ∨ (∃ l, ds = [.lst l] ∧ q (.int l.length)) ∨ (∃ l, ds = [.tup l] ∧ q (.int l.length)) ∨ (∃ z, ds = [.str z] ∧ z.length ≤ sizeLine ∧ q (.int z.length))
theorem reps1 {K : PySem.W.Frag} {S : Addr → Prop} {H : Hp} {d : D} {vs : List V} (h : Reps K S H [d] vs) : ∃ v, vs = [v] ∧ Rep K S H d v := by
  simp only [Reps] at h
  obtain ⟨v, r, rfl, h1, rfl⟩ := h
  exact ⟨v, rfl, h1⟩
theorem reps2 {K : PySem.W.Frag} {S : Addr → Prop} {H : Hp} {d e : D} {vs : List V} (h : Reps K S H [d, e] vs) : ∃ v u, vs = [v, u] ∧ Rep K S H d v ∧ Rep K S H e u := by
  simp only [Reps] at h
  obtain ⟨v, r, rfl, h1, u, r', rfl, h2, rfl⟩ := h
  exact ⟨v, u, rfl, h1, h2⟩
theorem dc_len : DCall X .cl (.builtin "len") cLen := by
  refine ⟨_, call_len_seq.or call_len_str, fun S H ds vs q Q rv h k => ?_⟩
  have fin : ∀ n : Int, q (.int n) → Q (.int n) H := fun n hq => k _ H _ [] (.refl _) ⟨rfl, by simp only [Rep]⟩ hq
  rcases h with ⟨l, rfl, hq⟩ | ⟨l, rfl, hq⟩ | ⟨l, rfl, hq⟩ | ⟨z, rfl, hz, hq⟩
  · obtain ⟨v, rfl, r⟩ := reps1 rv
    simp only [Rep] at r
    obtain ⟨a, rfl, h1⟩ := r
    exact .inl ⟨a, _, rfl, .inl h1.sq, by rw [List.length_map]; exact fin _ hq⟩
  · obtain ⟨v, rfl, r⟩ := reps1 rv
    simp only [Rep] at r
    obtain ⟨a, xs, rfl, _, h1, r1⟩ := r
    exact .inl ⟨a, xs, rfl, .inl (.inl h1), by rw [r1.len]; exact fin _ hq⟩
  · obtain ⟨v, rfl, r⟩ := reps1 rv
    simp only [Rep] at r
    obtain ⟨a, xs, rfl, h1, r1⟩ := r
    exact .inl ⟨a, xs, rfl, .inr h1, by rw [r1.len]; exact fin _ hq⟩
  · obtain ⟨v, rfl, r⟩ := reps1 rv
    simp only [Rep] at r
    exact .inr ⟨z, by rw [r], hz, fin _ hq⟩
theorem dc_abs : DCall X .cl (.builtin "abs") (fun ds q => ∃ i, ds = [.int i] ∧ q (.int (if i < 0 then -i else i))) :=
  ⟨⟨_, call_abs, fun S H ds vs q Q rv ⟨i, e, hq⟩ k => by
    subst e
    obtain ⟨v, rfl, r⟩ := reps1 rv
    simp only [Rep] at r
    exact ⟨i, by rw [r], k _ H _ [] (.refl _) ⟨rfl, by simp only [Rep]⟩ hq⟩⟩⟩
theorem dc_min2 (hc : X.calm = true) : DCall X .cl (.builtin "min") (fun ds q => ∃ i j, ds = [.int i, .int j] ∧ q (.int (if j < i then j else i))) :=
  ⟨⟨_, call_min2 hc, fun S H ds vs q Q rv ⟨i, j, e, hq⟩ k => by
    subst e
    obtain ⟨v, u, rfl, r, r2⟩ := reps2 rv
    simp only [Rep] at r r2
    exact ⟨i, j, by rw [r, r2], k _ H _ [] (.refl _) ⟨rfl, by simp only [Rep]⟩ hq⟩⟩⟩
theorem dc_max2 (hc : X.calm = true) : DCall X .cl (.builtin "max") (fun ds q => ∃ i j, ds = [.int i, .int j] ∧ q (.int (if j > i then j else i))) :=
  ⟨⟨_, call_max2 hc, fun S H ds vs q Q rv ⟨i, j, e, hq⟩ k => by
    subst e
    obtain ⟨v, u, rfl, r, r2⟩ := reps2 rv
    simp only [Rep] at r r2
    exact ⟨i, j, by rw [r, r2], k _ H _ [] (.refl _) ⟨rfl, by simp only [Rep]⟩ hq⟩⟩⟩
def tyD : D → String
  | .non => "NoneType"
  | .bl _ => "bool"
  | .int _ => "int"
  | .str _ => "str"
  | .tup _ => "tuple"
  | .lst _ => "list"
  | .scr _ => "list"
  | _ => "dict"
def noDct : D → Bool
  | .fz _ _ => false
  | .t2 _ _ _ _ => false
  | .fK _ _ _ => false
  | .fT _ _ _ => false
  | .dK _ _ => false
  | .dT _ _ => false
  | .ty _ => false
  | _ => true
theorem call_isiD : CallR X (.builtin "isinstance") (fun xs H Q => ∃ S d x c, xs = [x, .ty c] ∧ Rep X.K S H d x ∧ noDct d = true ∧ c ∈ ["bool", "int", "str", "list", "tuple"] ∧ Q (.bl (isB (tyD d) c)) H) := by
  intro pins s σ H xs us Q I r h
  obtain ⟨S, d, x, c, rfl, rp, nd, hc, q⟩ := h
  obtain ⟨u, w', rfl, ru, rw'⟩ := vals2 r
  cases (show w' = Value.type c from rw')
  have fin : ∀ tk, EP X pins σ Q (.bool (isB (tyD d) c)) { s with toks := tk } := fun tk => ⟨.bl _, H, I.tok tk, rfl, q⟩
  have kit : ∀ T ∈ ["NoneType", "bool", "int", "str", "list", "tuple"], PySem.W.kitOne X.K (.type T) (.type c) = some (isB T c) := fun T hT => kit_isB X.K T hT c hc
  cases d with
  | non => simp only [Rep] at rp; subst rp; exact isinst_ok I ru (.non) (kit _ (by decide)) fun tk => ⟨.bl _, H, I.tok tk, rfl, q⟩
  | bl b => simp only [Rep] at rp; subst rp; exact isinst_ok I ru (.bl b) (kit _ (by decide)) fun tk => ⟨.bl _, H, I.tok tk, rfl, q⟩
  | int b => simp only [Rep] at rp; subst rp; exact isinst_ok I ru (.int b) (kit _ (by decide)) fun tk => ⟨.bl _, H, I.tok tk, rfl, q⟩
  | str b => simp only [Rep] at rp; subst rp; exact isinst_ok I ru (.str b) (kit _ (by decide)) fun tk => ⟨.bl _, H, I.tok tk, rfl, q⟩
  | tup l =>
    simp only [Rep] at rp
    obtain ⟨a, vs, rfl, h1, _⟩ := rp
    cases (show u = Value.ref a from ru)
    obtain ⟨its, _, ⟨o, e, c', _⟩, _⟩ := I.tuple h1
    exact PySem.W.kia_one PySem.W.kitx_tuple I.kIn ⟨o, e, c'⟩ (kit _ (by decide)) (fun z => nomatch z) fin
  | lst l =>
    simp only [Rep] at rp
    obtain ⟨a, vs, rfl, _, h1, _⟩ := rp
    cases (show u = Value.ref a from ru)
    obtain ⟨its, _, ⟨o, _, e, c', _⟩, _⟩ := I.list (.inl h1)
    exact PySem.W.kia_one PySem.W.kitx_list I.kIn ⟨o, e, c'⟩ (kit _ (by decide)) (fun z => nomatch z) fin
  | scr l =>
    simp only [Rep] at rp
    obtain ⟨a, rfl, h1⟩ := rp
    cases (show u = Value.ref a from ru)
    obtain ⟨its, _, ⟨o, _, e, c', _⟩, _⟩ := I.list h1.sq
    exact PySem.W.kia_one PySem.W.kitx_list I.kIn ⟨o, e, c'⟩ (kit _ (by decide)) (fun z => nomatch z) fin
  | ty n => cases nd
  | fz o u => simp [noDct] at nd
  | t2 l m a b => simp [noDct] at nd
  | fK o ks l => simp [noDct] at nd
  | fT o ks l => simp [noDct] at nd
  | dK ks l => cases nd
  | dT ks l => cases nd
theorem dc_isi : DCall X .cl (.builtin "isinstance") (fun ds q => ∃ d c, ds = [d, .ty c] ∧ noDct d = true ∧ c ∈ ["bool", "int", "str", "list", "tuple"] ∧ q (.bl (isB (tyD d) c))) :=
  ⟨⟨_, call_isiD, fun S H ds vs q Q rv ⟨d, c, e, nd, hc, hq⟩ k => by
    subst e
    obtain ⟨v, u, rfl, r, r2⟩ := reps2 rv
    simp only [Rep] at r2
    exact ⟨S, d, v, c, by rw [r2], r, nd, hc, k _ H _ [] (.refl _) ⟨rfl, by simp only [Rep]⟩ hq⟩⟩⟩
theorem dc_tuple : DCall X .cl (.type "tuple") (fun ds q => ∃ l, (ds = [.lst l] ∨ ds = [.tup l]) ∧ q (.tup l)) := by
  refine ⟨_, call_tuple_of, fun S H ds vs q Q rv ⟨l, e, hq⟩ k => ?_⟩
  rcases e with rfl | rfl
  · obtain ⟨v, rfl, r⟩ := reps1 rv
    simp only [Rep] at r
    obtain ⟨a, xs, rfl, _, h1, r1⟩ := r
    exact ⟨a, xs, rfl, .inl ⟨.inl h1, fun p hp => k _ _ _ [] (.new hp) (vres_tup r1 hp) hq⟩⟩
  · obtain ⟨v, rfl, r⟩ := reps1 rv
    have r0 := r
    simp only [Rep] at r
    obtain ⟨a, xs, rfl, h1, r1⟩ := r
    exact ⟨a, xs, rfl, .inr ⟨h1, k _ H _ [] (.refl _) ⟨rfl, r0⟩ hq⟩⟩
theorem bools_rep {K : PySem.W.Frag} {S : Addr → Prop} {H : Hp} : ∀ {bs : List Bool} {vs : List V}, Reps K S H (bs.map D.bl) vs → vs = bs.map V.bl
  | [], vs, h => by simpa only [List.map_nil, Reps] using h
  | b :: bs, vs, h => by
    simp only [List.map_cons, Reps] at h
    obtain ⟨v, r, rfl, h1, h2⟩ := h
    simp only [Rep] at h1
    rw [h1, bools_rep h2]; rfl
theorem dc_all (hc : X.calm = true) : DCall X .cl (.builtin "all") (fun ds q => ∃ bs : List Bool, ds = [.lst (bs.map D.bl)] ∧ q (.bl (bs.all id))) :=
  ⟨⟨_, call_allB hc, fun S H ds vs q Q rv ⟨bs, e, hq⟩ k => by
    subst e
    obtain ⟨v, rfl, r⟩ := reps1 rv
    simp only [Rep] at r
    obtain ⟨a, xs, rfl, _, h1, r1⟩ := r
    exact ⟨a, bs, rfl, by rw [← bools_rep r1]; exact .inl h1, k _ H _ [] (.refl _) ⟨rfl, by simp only [Rep]⟩ hq⟩⟩⟩
end
section
variable {K : PySem.W.Frag} {κ : List SK} {G : G0} {O : Addr → Prop} {ρ : EnvD} {σ : St} {H : Hp}
theorem own0s {K : PySem.W.Frag} {S : Addr → Prop} {H : Hp} {fps : List (List Addr)} {l : List D} {vs : List V} (h1 : fps.length = l.length) (h2 : vs.length = l.length) (h3 : ∀ (i : Nat) (f : List Addr) (x : D) (u : V), fps[i]? = some f → l[i]? = some x → vs[i]? = some u → Own K S H 0 f x u) : fps.flatten = [] ∧ Reps K S H l vs := by
  constructor
  · rw [List.flatten_eq_nil_iff]
    intro f hf
    obtain ⟨i, hi, e⟩ := List.getElem_of_mem hf
    have := h3 i f (l[i]'(by omega)) (vs[i]'(by omega)) (by rw [List.getElem?_eq_getElem hi, e]) (List.getElem?_eq_getElem _) (List.getElem?_eq_getElem _)
    simp only [Own] at this
    exact this.1
  · refine Reps.of_all l vs h2 fun i x u e1 e2 => ?_
    have hi : i < fps.length := by rw [h1]; exact (List.getElem?_eq_some_iff.mp e1).1
    have := h3 i _ x u (List.getElem?_eq_getElem hi) e1 e2
    simp only [Own] at this
    exact this.2
theorem own1_lst {K : PySem.W.Frag} {S : Addr → Prop} {H : Hp} {fp : List Addr} {l : List D} {v : V} (h : Own K S H 1 fp (.lst l) v) : ∃ a vs, v = .ref a ∧ fp = [a] ∧ H a = some (.lst vs) ∧ Reps K S H l vs := by
  simp only [Own] at h
  obtain ⟨a, fps, rfl, rfl, h⟩ := h
  rcases h with ⟨l', vs, e, hH, h1, h2, h3⟩ | ⟨_, _, _, e, _⟩ | ⟨_, _, _, e, _⟩
  · cases e
    obtain ⟨z, r⟩ := own0s h1 h2 (fun i f x u e1 e2 e3 => by simp only [Own]; exact h3 i f x u e1 e2 e3)
    exact ⟨a, vs, rfl, by rw [z], hH, r⟩
  · cases e
  · cases e
theorem own1_mk {K : PySem.W.Frag} {S : Addr → Prop} {H : Hp} {a : Addr} {l : List D} {vs : List V} (hH : H a = some (.lst vs)) (r : Reps K S H l vs) : Own K S H 1 [a] (.lst l) (.ref a) := by
  simp only [Own]
  refine ⟨a, l.map fun _ => [], rfl, by simp, .inl ⟨l, vs, rfl, hH, by simp, r.len, fun i f x u e1 e2 e3 => ⟨?_, ?_⟩⟩⟩
  · rw [List.getElem?_map, e2] at e1; simpa using e1.symm
  · obtain ⟨u', e4, z⟩ := r.get e2
    rw [e3] at e4; cases e4
    exact z
theorem slot_own {i n : Nat} {d : D} {F : Nat → List Addr} (f : EnvF K κ G O ρ σ H F) (hd : dep (kd κ i) = some n) (e : ρ[i]? = some (some d)) : ∃ v, σ[i]? = some (some v) ∧ Own K (uni G.S0 O) H n (F i) d v := by
  obtain ⟨v, h1, h2⟩ := f.slot i d e
  refine ⟨v, h1, ?_⟩
  cases q : kd κ i with
  | cl => rw [q] at hd; cases hd
  | lo => rw [q] at hd; cases hd
  | ow m => rw [q] at hd h2; cases hd; exact h2
  | io m => rw [q] at hd h2; cases hd; exact h2
theorem OF_self {F : Nat → List Addr} {i : Nat} (f : EnvF K κ G O ρ σ H F) : OF (setF F i (F i)) = O := by
  have e : setF F i (F i) = F := by funext k; unfold setF; split <;> simp_all
  rw [e]
  funext a
  exact propext (f.own a).symm
theorem EnvOk.chg1 {i : Nat} {l : List D} (h : EnvOk K κ G O ρ σ H) (hd : dep (kd κ i) = some 1) (e : ρ[i]? = some (some (.lst l))) : ∃ a vs, σ[i]? = some (some (.ref a)) ∧ H a = some (.lst vs) ∧ Reps K (uni G.S0 O) H l vs ∧ O a ∧
    ∀ l' vs', Reps K (uni G.S0 O) H l' vs' → EnvOk K κ G O (kl κ (ρ.set i (some (.lst l')))) σ (upd H a (.lst vs')) ∧ Step O O H (upd H a (.lst vs')) := by
  obtain ⟨F, f⟩ := id h
  obtain ⟨v, h1, h2⟩ := slot_own f hd e
  obtain ⟨a, vs, rfl, hF, hH, r⟩ := own1_lst h2
  have ha : O a := (f.own a).mpr ⟨i, by rw [hF]; simp⟩
  refine ⟨a, vs, h1, hH, r, ha, fun l' vs' r' => ?_⟩
  have gU : Goes (uni G.S0 O) (uni G.S0 O) H (upd H a (.lst vs')) := Goes.upd hH trivial (.inr ha)
  have q := EnvF.chg (H' := upd H a (.lst vs')) (f' := F i) (fp := []) (d' := .lst l') (v := .ref a) f hd (fun b o nb eb => by
      have hne : b ≠ a := by rintro rfl; exact nb (by rw [hF]; simp)
      rw [upd_ne hne]; exact eb) (fun b eb => by
      by_cases hb : b = a
      · rw [hb, upd_same]; simp
      · rw [upd_ne hb]; exact eb) (f.nd i) (fun b hb => ⟨.inl hb, by
        have : b = a := by rw [hF] at hb; simpa using hb
        rw [this]; exact ⟨_, upd_same, trivial⟩⟩) (fun b hb => absurd hb (by simp)) h1 (by
        rw [OF_self f, hF]
        have e0 : uni G.S0 (fpS []) = G.S0 := by funext b; simp [uni, fpS]
        rw [e0]
        exact own1_mk upd_same (Reps.go gU l' vs' r'))
  rw [OF_self f, plus_nil] at q
  exact ⟨⟨_, q.1⟩, q.2⟩
end
def sMut (κ : List SK) (i : Nat) (E : DTE) (f : List D → D → (List D → Prop) → Prop) : DTS := fun De ρ => (∃ l0, ρ[i]? = some (some (.lst l0))) ∧ E ρ fun d ρ1 => ∃ l, ρ1[i]? = some (some (.lst l)) ∧ f l d fun l' => De.nx (kl κ (ρ1.set i (some (.lst l'))))
section
variable {X : Cx} {κ : List SK} {md : SK} {pu : Bool} {i : Nat} {e : Expr} {E : DTE} {x : Str} {p apos cpos pos : Pos}
theorem PE.bm {T id : String} {name : Str} {o : Expr} {es : List Expr} {to : TE} {t : TA} {r : V → List V → Hp → VK → Prop} (hp : (e :: es).all plainE = true) (hlen : (e :: es).length < 29) (hline : (apos.endLine == cpos.line) = true) (hbase : attributeBase o name X.env (eval o X.env) = eval o X.env)
    (pa : PlainAttrs T) (slot : Slot T name id) (hty : typeOf (.builtin id) = pure (.type "method_descriptor")) (hm : MtR X id r) (ho : PE X o to) (ha : PA X (e :: es) t) : PE X (.Call (.Attribute o name apos) (e :: es) [] cpos) (tBM X.K T r to t) := (wbm hp hlen hline hbase pa slot hty hm ⟨ho⟩ ⟨ha⟩).h
theorem dmut {id : String} {name : Str} {r : V → List V → Hp → VK → Prop} {f : List D → D → (List D → Prop) → Prop} (hs : swapsWith (.Call (.Attribute (.Name x p) name apos) [e] [] cpos) none pos.line X.env = pure false) (hp : plainE e = true) (hline : (apos.endLine == cpos.line) = true) (hbase : attributeBase (.Name x p) name X.env (eval (.Name x p) X.env) = eval (.Name x p) X.env)
    (slot : Slot "list" name id) (hty : typeOf (.builtin id) = pure (.type "method_descriptor")) (hm : MtR X id r)
    (hN : X.N[i]? = some x) (hv : Vis X.env.scope x) (hd : (x == ("__debug__" : Str)) = false) (hcd : (x == ("__classdict__" : Str)) = false) (hk : dep (kd κ i) = some 1)
    (hf : ∀ (S : Addr → Prop) (H : Hp) (a : Addr) (l : List D) (vs : List V) (d : D) (v : V) (q : List D → Prop) (Q : VK), H a = some (.lst vs) → Reps X.K S H l vs → Rep X.K S H d v → S a → f l d q → (∀ l' vs', Reps X.K S H l' vs' → q l' → Q .non (upd H a (.lst vs'))) → r (.ref a) [v] H Q)
    (he : DE X κ pu .cl e E) : DS X κ md (.Expr (.Call (.Attribute (.Name x p) name apos) [e] [] cpos) pos) (sMut κ i E f) := by
  refine ⟨(ps_expr (PE.bm (by simp [hp]) (by simp) hline hbase PySem.F.plainAttrs_list slot hty hm (pe_var hN hv hd hcd) (pac hp he.h pa_nil)) hs).weak fun Dn σ H ⟨G, O, ρ, De, hE, ⟨⟨l0, e0⟩, hT⟩, nx, bk, ct, rt⟩ => ?_⟩
  obtain ⟨a, vs, h1, h2, h3, ha, h4⟩ := hE.chg1 hk e0
  refine ⟨.ref a, h1, .inl ⟨rfl, vs, .inl (.inl h2)⟩, G, O, ρ, _, hE, hT, fun v H1 d ρ1 O1 fp s1 e1 vo p1 ⟨l, el, hq⟩ => ?_⟩
  obtain ⟨a', ws, g1, g2, g3, ga, g4⟩ := e1.drop.chg1 hk el
  rw [h1] at g1; cases g1
  exact hf (uni G.S0 O1) H1 a l ws d v _ _ g2 g3 vo.2 (.inr ga) hq fun l' vs' r' hq' => nx σ _ _ O1 (g4 l' vs' r').1 hq'
def fExtend : List D → D → (List D → Prop) → Prop := fun l d q => ∃ m, d = .lst m ∧ l.length + m.length ≤ sizeLine ∧ q (l ++ m)
def sStore (κ : List SK) (i : Nat) (Ei E : DTE) : DTS := fun De ρ => (∃ l0, ρ[i]? = some (some (.lst l0))) ∧ E ρ fun d ρ1 => Ei ρ1 fun k ρ2 => ∃ l n j, ρ2[i]? = some (some (.lst l)) ∧ k = .int n ∧ ixN l.length n = some j ∧ De.nx (kl κ (ρ2.set i (some (.lst (l.set j d)))))
theorem Reps.set {K : PySem.W.Frag} {S : Addr → Prop} {H : Hp} : ∀ {l : List D} {vs : List V} {d : D} {v : V} (j : Nat), Reps K S H l vs → Rep K S H d v → Reps K S H (l.set j d) (vs.set j v)
  | [], vs, d, v, j, h, r => by simp only [Reps] at h; subst h; simp only [List.set_nil, Reps]
  | x :: l, vs, d, v, 0, h, r => by
    simp only [Reps] at h
    obtain ⟨u, t, rfl, h1, h2⟩ := h
    simp only [List.set_cons_zero, Reps]
    exact ⟨v, t, rfl, r, h2⟩
  | x :: l, vs, d, v, j + 1, h, r => by
    simp only [Reps] at h
    obtain ⟨u, t, rfl, h1, h2⟩ := h
    simp only [List.set_cons_succ, Reps]
    exact ⟨u, t.set j v, rfl, h1, h2.set j r⟩
theorem dstore {j : Expr} {Ei : DTE} {pui : Bool} {spos : Pos} (hs : swapsWithSole [.Subscript (.Name x p) j spos] e pos.line X.env = pure false) (hw : swappedStores [.Subscript (.Name x p) j spos] e X.env = pure none) (h1 : (assignEach [.Subscript (.Name x p) j spos] X.env).map (·.2) = [assign (.Subscript (.Name x p) j spos) X.env])
    (ha : ∀ v, assign (.Subscript (.Name x p) j spos) X.env v = (do
      let ov ← holding [v] (eval (.Name x p) X.env)
      let iv ← holding [v, ov] (eval j X.env)
      standAt spos
      holding [v, ov, iv] (setItem ov iv v)
      release [v, ov, iv] []))
    (hN : X.N[i]? = some x) (hv : Vis X.env.scope x) (hd : (x == ("__debug__" : Str)) = false) (hcd : (x == ("__classdict__" : Str)) = false) (hk : dep (kd κ i) = some 1) (he : DE X κ pu .cl e E) (hi : DE X κ pui .cl j Ei) :
    DS X κ md (.Assign [.Subscript (.Name x p) j spos] e pos) (sStore κ i Ei E) := by
  refine ⟨(ps_asg he.h (pg_sub (pe_var hN hv hd hcd) hi.h set_list ha) hs hw h1).weak fun Dn σ H ⟨G, O, ρ, De, hE, ⟨⟨l0, e0⟩, hT⟩, nx, bk, ct, rt⟩ => ⟨G, O, ρ, _, hE, hT, fun v H1 d ρ1 O1 fp s1 e1 vo p1 hq1 => ?_⟩⟩
  obtain ⟨a, vs, g1, _⟩ := hE.chg1 hk e0
  refine ⟨.ref a, g1, G, O1, ρ1, _, e1.drop, hq1, fun vi H2 di ρ2 O2 fp2 s2 e2 vo2 p2 ⟨l, n, jj, el, ek, hj, hq2⟩ => ?_⟩
  subst ek
  obtain ⟨a', ws, g2, g3, g4, ga, g5⟩ := e2.drop.chg1 hk el
  rw [g1] at g2; cases g2
  have rv : Rep X.K (uni G.S0 O2) H2 d v := Rep.go (Goes.step e1.drop.mutO s2) d v vo.2
  have ri := vo2.2
  simp only [Rep] at ri
  exact ⟨a, ws, n, jj, rfl, ri, g3, by rw [g4.len]; exact hj, nx σ _ _ O2 (g5 _ _ (g4.set jj rv)).1 hq2⟩
end
def pyIn (x : D) (l : List D) : Bool := l.any fun y => pyEq y x
section
variable {X : Cx} {pins : List (Addr × Obj)} {σ : St} {H : Hp} {s : Shared} {S : Addr → Prop}
open Classical in
noncomputable def inU (K : PySem.W.Frag) (S : Addr → Prop) (H : Hp) (x : D) (u : Value) : Bool := match absV u with
  | some v => decide (∃ d, okE 11 d = true ∧ Rep K S H d v ∧ pyEq d x = true)
  | none => false
open Classical in
theorem inU_of (I : Inv X pins σ H s) {x d : D} {v : V} {u : Value} (od : okE 11 d = true) (r : Rep X.K S H d v) (rv : RelV v u) : inU X.K S H x u = pyEq d x := by
  unfold inU
  rw [rv.abs]
  dsimp only
  cases e : pyEq d x with
  | true => exact decide_eq_true ⟨d, od, r, e⟩
  | false =>
    refine decide_eq_false ?_
    rintro ⟨d', o', r', e'⟩
    rw [rep_same I 11 d' d v o' od r' r, e] at e'
    cases e'
theorem in_go (I : Inv X pins σ H s) {x : D} {vx : V} {ux : Value} {l : List D} {vs : List V} {its : List Value} (hu : X.A.units + 12 < cLine) (ox : okE 11 x = true) (ol : l.all (okE 11) = true) (rx : Rep X.K S H x vx) (rv : RelV vx ux) (rl : Reps X.K S H l vs) (r : Vals vs its) :
    (∀ w, w ∈ its.toArray → SeqAt.EqAt X.A.in1 s w ux (inU X.K S H x w)) ∧ its.toArray.any (inU X.K S H x) = pyIn x l := by
  constructor
  · intro w hw
    have hw : w ∈ its := by simpa using hw
    obtain ⟨j, hj, e⟩ := List.getElem_of_mem hw
    obtain ⟨v, ev, rvw⟩ := r.get2 (j := j) (u := w) (by rw [List.getElem?_eq_getElem hj, e])
    obtain ⟨d, ed, rd⟩ := rl.get' ev
    have od := List.all_eq_true.mp ol d (List.mem_of_getElem? ed)
    rw [inU_of I od rd rvw]
    exact (eqD_ok I 11 X.A.in1 d x v vx w ux od ox (by show X.A.units + 1 + 11 < cLine; omega) rd rx rvw rv).e
  · rw [show its.toArray.any (inU X.K S H x) = its.any (inU X.K S H x) by simp]
    unfold pyIn
    induction l generalizing vs its with
    | nil => simp only [Reps] at rl; subst rl; cases r; rfl
    | cons d l ih =>
      simp only [Reps] at rl
      obtain ⟨v, t, rfl, h1, h2⟩ := rl
      rw [List.all_cons, Bool.and_eq_true] at ol
      cases r with
      | cons rv1 rt =>
        rw [List.any_cons, List.any_cons, inU_of I ol.1 h1 rv1, ih ol.2 h2 rt]
end
section
variable {X : Cx}
theorem rSeq {K : PySem.W.Frag} {S : Addr → Prop} {H : Hp} {y : D} {l : List D} {v : V} (e : y = .lst l ∨ y = .tup l) (r : Rep K S H y v) : ∃ a vs, v = .ref a ∧ (SqL K H a vs ∨ SqT K H a vs) ∧ Reps K S H l vs := by
  rcases e with rfl | rfl
  · simp only [Rep] at r
    obtain ⟨a, vs, rfl, _, h, r⟩ := r
    exact ⟨a, vs, rfl, .inl (.inl h), r⟩
  · simp only [Rep] at r
    obtain ⟨a, vs, rfl, h, r⟩ := r
    exact ⟨a, vs, rfl, .inr h, r⟩
def cutD (l : List D) (lo hi : Option Int) : List D := (l.drop (HT.sIx l.length 0 lo)).take (HT.sIx l.length l.length hi - HT.sIx l.length 0 lo)
structure DSl (X : Cx) (md : SK) (r : D → Option Int → Option Int → (D → Prop) → Prop) : Prop where
  h : ∃ r', SlR X r' ∧ ∀ S H dx vx lo hi q Q, Rep X.K S H dx vx → r dx lo hi q → (∀ v H' z fp, Same H H' → VRes X.K S H H' fp md z v → q z → Q v H') → r' vx lo hi H Q
theorem Reps.drop {K : PySem.W.Frag} {S : Addr → Prop} {H : Hp} : ∀ {l : List D} {vs : List V} (n : Nat), Reps K S H l vs → Reps K S H (l.drop n) (vs.drop n)
  | l, vs, 0, h => h
  | [], vs, n + 1, h => by simp only [Reps] at h; subst h; simp only [List.drop_nil, Reps]
  | x :: l, vs, n + 1, h => by
    simp only [Reps] at h
    obtain ⟨u, t, rfl, _, h2⟩ := h
    exact h2.drop n
theorem Reps.take {K : PySem.W.Frag} {S : Addr → Prop} {H : Hp} : ∀ {l : List D} {vs : List V} (n : Nat), Reps K S H l vs → Reps K S H (l.take n) (vs.take n)
  | l, vs, 0, h => by simp only [List.take_zero, Reps]
  | [], vs, n + 1, h => by simp only [Reps] at h; subst h; simp only [List.take_nil, Reps]
  | x :: l, vs, n + 1, h => by
    simp only [Reps] at h
    obtain ⟨u, t, rfl, h1, h2⟩ := h
    simp only [List.take_succ_cons, Reps]
    exact ⟨u, t.take n, rfl, h1, h2.take n⟩
theorem Reps.cut {K : PySem.W.Frag} {S : Addr → Prop} {H : Hp} {l : List D} {vs : List V} {lo hi : Option Int} (h : Reps K S H l vs) : Reps K S H (cutD l lo hi) (cutV vs lo hi) := by
  unfold cutD cutV
  rw [h.len]
  exact (h.drop _).take _
theorem dsl_l : DSl X (.ow 1) (fun x lo hi q => ∃ l, x = .lst l ∧ q (.lst (cutD l lo hi))) :=
  ⟨⟨_, sl_list, fun S H dx vx lo hi q Q rx ⟨l, e, hq⟩ k => by
    subst e
    simp only [Rep] at rx
    obtain ⟨a, xs, rfl, _, h1, r1⟩ := rx
    exact ⟨a, xs, rfl, .inl h1, fun p hp => k _ _ _ [p] (.new hp) (vres_lst r1.cut hp) hq⟩⟩⟩
abbrev DTO := EnvD → (Option Int → EnvD → Prop) → Prop
def tDO (K : PySem.W.Frag) (κ : List SK) (pu : Bool) (E : DTO) : TO := fun σ H Q => ∃ G O ρ q, EnvOk K κ G O ρ σ H ∧ E ρ q ∧ ∀ o H' ρ' O', Step O O' H H' → EnvOk K κ G O' ρ' σ H' → Pu pu ρ ρ' O O' H H' → q o ρ' → Q o H'
structure DO (X : Cx) (κ : List SK) (pu : Bool) (e : Option Expr) (E : DTO) : Prop where
  h : PO X e (tDO X.K κ pu E)
theorem PO.weak {e : Option Expr} {t t' : TO} (h : PO X e t) (w : ∀ σ H Q, t' σ H Q → t σ H Q) : PO X e t' := fun pins s σ H Q I q => h pins s σ H Q I (w σ H Q q)
variable {κ : List SK} {pu pu1 pu2 pu3 : Bool} {m1 md : SK} {e : Expr} {lo hi : Option Expr} {E : DTE} {El Eh : DTO} {r : D → Option Int → Option Int → (D → Prop) → Prop} {p pos : Pos}
def eONone : DTO := fun ρ q => q none ρ
def eOSome (E : DTE) : DTO := fun ρ q => E ρ fun d ρ' => ∃ i, d = .int i ∧ q (some i) ρ'
theorem dono : DO X κ true none eONone := ⟨po_none.weak fun σ H Q ⟨G, O, ρ, q, hE, hq, k⟩ => k none H ρ O (.refl _ _) hE .refl hq⟩
theorem dosome (h : DE X κ pu .cl e E) : DO X κ pu (some e) (eOSome E) := by
  refine ⟨(po_some h.h).weak fun σ H Q ⟨G, O, ρ, q, hE, hq, k⟩ => ⟨G, O, ρ, _, hE, hq, fun v H1 d ρ1 O1 fp s1 e1 vo p1 ⟨i, ei, hq1⟩ => ?_⟩⟩
  subst ei
  exact ⟨i, by simpa only [Rep] using vo.2, k (some i) H1 ρ1 O1 s1 e1.drop p1 hq1⟩
def eSl (r : D → Option Int → Option Int → (D → Prop) → Prop) (E : DTE) (El Eh : DTO) : DTE := fun ρ q => E ρ fun d ρ1 => El ρ1 fun l ρ2 => Eh ρ2 fun h ρ3 => r d l h fun z => q z ρ3
theorem dsl (hr : DSl X md r) (v1 : isV m1) (hp : m1 = .lo → pu2 = true ∧ pu3 = true) (hm : md ≠ .lo) (he : DE X κ pu1 m1 e E) (hl : DO X κ pu2 lo El) (hh : DO X κ pu3 hi Eh) : DE X κ ((pu1 && pu2) && pu3) (outM (loB m1) md) (.Subscript e (.Slice lo hi none p) pos) (eSl r E El Eh) := by
  obtain ⟨r', h1, h2⟩ := hr.h
  refine ⟨(pe_slice h1 he.h hl.h hh.h).weak fun σ H Q ⟨G, O, ρ, q, hE, hq, k⟩ => ⟨G, O, ρ, _, hE, hq, fun v H1 d ρ1 O1 fp s1 e1 vo p1 hq1 => ⟨G, O1, ρ1, _, e1.drop, hq1, fun ol H2 ρ2 O2 s2 e2 p2 hq2 => ⟨G, O2, ρ2, _, e2, hq2, fun oh H3 ρ3 O3 s3 e3 p3 hq3 => ?_⟩⟩⟩⟩
  have rx : Rep X.K (Sx (loB m1) G.S0 O3) H3 d v := vo.after v1 (fun z => ⟨by rw [z]; rfl, (p2 (hp z).1).1.trans (p3 (hp z).2).1⟩) e1.drop.mutO (s2.trans s3)
  refine h2 _ H3 d v ol oh _ Q rx hq3 fun w H' z fp3 sm vr hz => ?_
  obtain ⟨fp', st, en, vo'⟩ := VRes.fin e3 ((s1.trans s2).trans s3) sm vr hm
  exact k w H' z ρ3 O3 fp' st en vo' (((p1.and p2).and p3).same sm) hz
end
theorem flat_apart {b : Addr} : ∀ {fps : List (List Addr)} {i k : Nat} {f g : List Addr}, fps.flatten.Nodup → fps[i]? = some f → fps[k]? = some g → i ≠ k → b ∈ f → b ∈ g → False
  | [], i, k, f, g, _, h, _, _, _, _ => by simp at h
  | h :: t, i, k, f, g, nd, e1, e2, ne, b1, b2 => by
    rw [List.flatten_cons, List.nodup_append] at nd
    obtain ⟨_, nd2, dj⟩ := nd
    have tin : ∀ {j : Nat} {f : List Addr}, t[j]? = some f → b ∈ f → b ∈ t.flatten := fun e hb => List.mem_flatten.mpr ⟨_, List.mem_of_getElem? e, hb⟩
    cases i with
    | zero =>
      cases k with
      | zero => exact ne rfl
      | succ k =>
        simp at e1 e2; subst e1
        exact dj b b1 b (tin e2 b2) rfl
    | succ i =>
      cases k with
      | zero =>
        simp at e1 e2; subst e2
        exact dj b b2 b (tin e1 b1) rfl
      | succ k => exact flat_apart nd2 (by simpa using e1) (by simpa using e2) (by omega) b1 b2
theorem goes_new {S : Addr → Prop} {H H' : Hp} {fp : List Addr} (s : Same H H') (hf : ∀ a ∈ fp, H a = none) : Goes S (uni S (fpS fp)) H H' := by
  refine ⟨fun a xs q => (Goes.same (S := S) s).tup a xs q, fun a u n q => ⟨((Goes.same (S := S) s).obj a u n q).1, fun z => z.elim n fun z => ?_⟩, fun a o u q => s _ _ q⟩
  obtain ⟨o, e⟩ := q.some
  rw [hf a z] at e; cases e
end L2
namespace L2
open PySem PySem.Spec PyProof.Rows
open AutoSeq1 (wpAny_loadPart')
section
variable {prog : Program} {w : World} {A : Around} {E : Value → Shared → Prop} {s : Shared}
theorem nextOf_tup_item {it t : Addr} {i : Nat} {items} {x : Value} {Q : Value → Shared → Prop} (hit : s.heap.IsTupleIter it t i) (ht : s.heap.IsTuple t items) (hx : items[i]? = some x)
    (hQ : ∀ h', h'.IsTupleIter it t (i + 1) → Heap.SameBut it s.heap h' → Q x { s with heap := h' }) : wpAny (model prog w) A (Builtin.SmallTypes.nextOf (.ref it)) Q E s := by
  obtain ⟨o, ho, hc, hd⟩ := id hit
  obtain ⟨ol, hol, _, nl, hdl⟩ := ht
  unfold Builtin.SmallTypes.nextOf
  refine wpAny_bind (wpAny_callSpecial?_slot (name := Str.ofString "__next__") hit.typeIs F.slot_tuple_iterator_next (wpAny_call_entry F.slot_tuple_iterator_next hit.typeIs F.entry_tuple_iterator_next ?_ (F.args_tuple_iterator_next_1 _)))
  show wpAny _ _ (field (.ref it) 0 >>= _) _ _ s
  refine wpAny_bind (wpAny_field ho hd (x := .ref t) rfl ?_)
  show wpAny _ _ (if (Value.ref t == Value.none) = true then _ else _) _ _ s
  rw [if_neg (show ¬ ((Value.ref t == Value.none) = true) from Bool.false_ne_true)]
  show wpAny _ _ (field (.ref it) 1 >>= _) _ _ s
  refine wpAny_bind (wpAny_field ho hd (x := .int i 0) rfl ?_)
  show wpAny _ _ (seqItems? (.ref t) >>= _) _ _ s
  refine wpAny_bind (wpAny_seqItems hol hdl ?_)
  simp only [Int.toNat_natCast, hx]
  refine wpAny_bind (wpAny_setField ho hd (by simp) (wpAny_pure ⟨x, rfl, wpAny_pure (hQ _ ?_ (Heap.SameBut.update ..))⟩))
  exact ⟨_, Heap.get?_update_self _ ho (Obj.isFreed_of_fields (Obj.data_mapFields hd _)), (Obj.cls_mapFields ..).trans hc, by rw [Obj.data_mapFields hd]; simp [rawInt]⟩
theorem nextOf_tup_end {it t : Addr} {i : Nat} {items} {Q : Value → Shared → Prop} (hh : A.handled = none) (hit : s.heap.IsTupleIter it t i) (ht : s.heap.IsTuple t items) (hx : items[i]? = none)
    (hE : ∀ h' e, Heap.ExtBut it s.heap h' → (∃ o, h'.get? e = some o ∧ o.cls = .type "StopIteration") → E (.ref e) { s with heap := h' }) : wpAny (model prog w) A (Builtin.SmallTypes.nextOf (.ref it)) Q E s := by
  obtain ⟨o, ho, hc, hd⟩ := id hit
  obtain ⟨ol, hol, _, nl, hdl⟩ := ht
  unfold Builtin.SmallTypes.nextOf
  refine wpAny_bind (wpAny_callSpecial?_slot (name := Str.ofString "__next__") hit.typeIs F.slot_tuple_iterator_next (wpAny_call_entry F.slot_tuple_iterator_next hit.typeIs F.entry_tuple_iterator_next ?_ (F.args_tuple_iterator_next_1 _)))
  show wpAny _ _ (field (.ref it) 0 >>= _) _ _ s
  refine wpAny_bind (wpAny_field ho hd (x := .ref t) rfl ?_)
  show wpAny _ _ (if (Value.ref t == Value.none) = true then _ else _) _ _ s
  rw [if_neg (show ¬ ((Value.ref t == Value.none) = true) from Bool.false_ne_true)]
  show wpAny _ _ (field (.ref it) 1 >>= _) _ _ s
  refine wpAny_bind (wpAny_field ho hd (x := .int i 0) rfl ?_)
  show wpAny _ _ (seqItems? (.ref t) >>= _) _ _ s
  refine wpAny_bind (wpAny_seqItems hol hdl ?_)
  simp only [Int.toNat_natCast, hx]
  refine wpAny_bind (wpAny_rule (wpAny_bind (wpAny_setField ho hd (by simp) ?_)))
  show wpAny _ _ (newExc (.type "StopIteration") [] >>= _) _ _ _
  refine wpAny_bind ?_
  simp only [newExc, newTuple]
  refine wpAny_bind (wpAny_newObj_type ?_ (by size_fits))
  refine wpAny_bind (m := firstArgMember _ _) (wpAny_of_eq (a := Value.none) (by first | rfl | (simp only [firstArgMember]; rfl)) ?_)
  refine wpAny_newObj_type ?_ (by size_fits)
  simp only [raiseNew]
  refine wpAny_bind (wpAny_handled ?_)
  first | rw [show A.in1.handled = none from hh] | rw [hh]
  refine wpAny_bind (wpAny_pure (wpAny_throw ?_))
  exact hE _ _ (((Heap.SameBut.update ..).extBut.push _).push _) ⟨_, Heap.get?_push_size _ rfl, rfl⟩
end
theorem IsTupleIter.at' {h h' : Heap} {a t : Addr} {i : Nat} (x : h.IsTupleIter a t i) (k : ∀ o, h.get? a = some o → h'.get? a = some o) : h'.IsTupleIter a t i := let ⟨o, ho, r⟩ := x; ⟨o, k o ho, r⟩
theorem drawsT {prog : Program} {w : World} {A : Around} (hh : A.handled = none) (it t : Addr) (hne : t ≠ it) (items : Array Value) :
    Draws prog w A it [it, t] items.size (fun i v => items[i]? = some v) (fun i h => h.IsTupleIter it t i ∧ h.IsTuple t items) where
  live := fun _ _ st => let ⟨o, ho, _⟩ := st.1; ⟨o, ho⟩
  frame := fun _ _ _ st hk => ⟨IsTupleIter.at' st.1 fun o e => hk it (by simp) o e, let ⟨o, ho, r⟩ := st.2; ⟨o, hk t (by simp) o ho, r⟩⟩
  item := fun i s Q E hi st hQ => by
    refine nextOf_tup_item st.1 st.2 (x := items[i]) (by simp [hi]) fun h' hit' hs' => ?_
    exact hQ _ h' s.toks (by simp [hi]) ⟨hit', st.2.extBut hs'.extBut hne⟩ hs'
  done := fun s Q E st hE => nextOf_tup_end hh st.1 st.2 (by simp) hE
theorem meets_enumerate_newT (l : Addr) (items : Array Value) (n : Nat) (dct : Option Addr) (sl : Array (Option Value)) :
    Meets (Builtin.«enumerate.__new__» ⟨[.type "enumerate", .ref l], []⟩) (fun _ R s => s.heap.get? l = some { cls := .type "tuple", dict := dct, data := .seq items n, slots := sl } ∧
      R (.ok (.ret (.ref (s.heap.push { cls := .type "tuple_iterator", data := .fields #[.ref l, .int 0 0] }).objs.size)))
        { s with heap := (s.heap.push { cls := .type "tuple_iterator", data := .fields #[.ref l, .int 0 0] }).push { cls := .type "enumerate", data := .fields #[.none, .bool false, .ref s.heap.objs.size, rawInt 0, .none, .none] } }) :=
  .of_wp fun prog w A R s h => by
    obtain ⟨hp, g, d, tk, os⟩ := s; obtain ⟨hl, h⟩ := h
    have hsub := sub_enumerate
    have hL : Heap.IsTuple (Shared.heap ⟨hp, g, d, tk, os⟩) l items := ⟨_, hl, rfl, n, rfl⟩
    wp_walk using wpAny_loadPart' hl
    refine wpAny_stack_any fun st => wpAny_pure ?_
    split
    · rename_i c _ _ _ _ _
      cases (c == Value.type "enumerate")
      · wp_walk using wpAny_loadPart' hl, wpAny_pyIter_tuple hL
        exact ⟨_, rfl, h⟩
      · wp_walk using wpAny_loadPart' hl, wpAny_pyIter_tuple hL
        exact ⟨_, rfl, h⟩
    · wp_walk using wpAny_loadPart' hl, wpAny_pyIter_tuple hL
      exact ⟨_, rfl, h⟩
theorem call_enumT {prog : Program} {w : World} {A : Around} {E : Value → Shared → Prop} {s : Shared} {l : Addr} {items : Array Value} {Q : Value → Shared → Prop} (hL : s.heap.IsTuple l items)
    (h : ∀ h', IsEnum h' (s.heap.objs.size + 1) s.heap.objs.size 0 .none → h'.IsTupleIter s.heap.objs.size l 0 → h'.objs.size = s.heap.objs.size + 2 →
      (∀ b o, s.heap.get? b = some o → h'.get? b = some o) → Q (.ref (s.heap.objs.size + 1)) { s with heap := h' }) :
    wpAny (model prog w) A (call (.type "enumerate") [.ref l]) Q E s := by
  obtain ⟨⟨c, dct, dt, sl⟩, hl, hc, n, hd⟩ := hL
  replace hc : c = .type "tuple" := hc
  replace hd : dt = .seq items n := hd
  subst hc hd
  refine callType_new F.called_enumerate (by decide) (F.typeCall_enumerate_1 _) (F.newCall_enumerate_1 _) (fun obj => F.args_object_init_2 obj _) F.entry_enumerate_new
    (meets_enumerate_newT l items n dct sl) ⟨hl, ?_⟩
  have hz : (s.heap.push { cls := .type "tuple_iterator", data := .fields #[.ref l, .int 0 0] }).objs.size = s.heap.objs.size + 1 := Heap.size_push ..
  show _ ∧ _
  rw [hz]
  have he : IsEnum ((s.heap.push { cls := .type "tuple_iterator", data := .fields #[.ref l, .int 0 0] }).push
      { cls := .type "enumerate", data := .fields #[.none, .bool false, .ref s.heap.objs.size, rawInt 0, .none, .none] }) (s.heap.objs.size + 1) s.heap.objs.size 0 .none := by
    have := Heap.get?_push_size (s.heap.push { cls := .type "tuple_iterator", data := .fields #[.ref l, .int 0 0] })
      (o := { cls := .type "enumerate", data := .fields #[.none, .bool false, .ref s.heap.objs.size, rawInt 0, .none, .none] }) rfl
    rw [hz] at this; exact this
  refine ⟨⟨_, he, rfl⟩, h _ he ⟨_, Heap.get?_push_of_some _ (Heap.get?_push_size _ rfl), rfl, rfl⟩ (by rw [Heap.size_push, hz]) fun b o x => Heap.get?_push_of_some _ (Heap.get?_push_of_some _ x)⟩
theorem Inv.turnedT {X : Cx} {pins : List (Addr × Obj)} {σ : St} {H : Hp} {s : Shared} {h' : Heap} {tk : Nat} {wr : List Addr} {T : Addr} {xs : List V} {vals : Array Value} (I : Inv X pins σ H s) (k : ∀ b o, b ∉ wr → s.heap.get? b = some o → h'.get? b = some o)
    (hf : ∀ b ∈ wr, FpOk X pins H b) (hT : s.heap.objs.size ≤ T) (ht : h'.IsTuple T vals) (rv : Vals xs vals.toList) (hl : xs.length ≤ sizeLine) : Inv X pins σ (upd H T (.tup xs)) { s with heap := h', toks := tk } := by
  have hn : H T = none := I.hok.fresh hT
  have neT : ∀ b o, s.heap.get? b = some o → b ≠ T := fun b o e => Nat.ne_of_lt (Nat.lt_of_lt_of_le (Heap.lt_size e) hT)
  have nw : ∀ b u, H b = some u → b ∉ wr := fun b u e z => by rw [(hf b z).1] at e; cases e
  refine I.call (g' := s.gens) (d' := s.drawn) (ch := wr) ⟨fun b o e n _ hx => k b o hx e, fun b o e n _ hx => ⟨o.slots, k b o hx e⟩, fun b o e n hx => ?_, fun b o e hx => ⟨o, k b o hx e⟩, fun b ys e => ?_, fun b o u e => ?_, fun b ps e => ⟨#[], ?_⟩⟩ (fun b u e => ?_) I.bare fun b hb => ?_
  · rw [upd_ne (neT b o e)]; exact n
  · rw [upd_ne (ne_of_none e hn)]; exact e
  · rw [upd_ne (ne_of_none e hn)]; exact e
  · rw [upd_ne (ne_of_none e hn), e]; simp
  · by_cases hb : b = T
    · subst hb
      rw [upd_same] at e; cases e
      obtain ⟨o, ho, c, n, d⟩ := ht
      exact ⟨hl, vals.toList, rv, o, ho, c, n, by simpa using d⟩
    · rw [upd_ne hb] at e
      refine (I.hok b u e).stay (fun c v hc q => k c v ?_ q) (fun c q => by rw [upd_ne (ne_of_none q hn)]; exact q) fun c ys q => by rw [upd_ne (ne_of_none q hn)]; exact q
      rcases hc with rfl | hc
      · exact nw _ _ e
      · exact nw _ _ hc
  · obtain ⟨_, f1, _, f3, f4, f5⟩ := hf b hb
    exact ⟨f3, f1, f4, f5⟩
def Ite (K : PySem.W.Frag) (t : Addr) : It :=
  ⟨fun i H => ∃ xs x, SqT K H t xs ∧ xs[i]? = some x, fun i H y H' => ∃ T x, H T = none ∧ (∀ xs, SqT K H t xs → xs[i]? = some x) ∧ y = .ref T ∧ H' = upd H T (.tup [.int i, x]), fun i H => ∃ xs, SqT K H t xs ∧ xs.length ≤ i⟩
theorem turn_enumT {P : Program} {w : World} {K : PySem.W.Frag} {elts : List Expr} {kk : Nat} {pos : Pos} (t it e : Addr) (hne : e ≠ it) : Turn P w K (.Tuple elts kk pos) (Ite K t) [e, it] e (fun i h => (∃ old, IsEnum h e it i old) ∧ h.IsTupleIter it t i) where
  mem := by simp
  obj := fun i h st b hb => by
    obtain ⟨⟨old, he⟩, o, ho, c, d⟩ := st
    rcases List.mem_cons.mp hb with rfl | hb
    · exact ⟨_, he, fun v z => by cases z⟩
    · have eb : b = it := by simpa using hb
      subst eb
      exact ⟨o, ho, fun v z => by rw [d] at z; cases z⟩
  keep := fun i h h' st k => ⟨let ⟨old, he⟩ := st.1; ⟨old, k e (by simp) _ he⟩, IsTupleIter.at' st.2 fun o ho => k it (by simp) o ho⟩
  item := by
    intro X hP hw hK hc i pins s σ H E I hf st hg
    subst hP hw hK
    obtain ⟨xs, x, hq, hx⟩ := hg
    obtain ⟨its, rv, p, hz⟩ := I.tuple hq
    have p : s.heap.IsTuple t its.toArray := p
    obtain ⟨u, hu, ru⟩ := rv.get hx
    have hi : i < its.toArray.size := by
      rw [List.size_toArray, ← rv.length]; exact (List.getElem?_eq_some_iff.mp hx).1
    have net : t ≠ it := by
      rintro rfl
      obtain ⟨o, ho, c, _⟩ := p
      obtain ⟨o', ho', c', _⟩ := st.2
      rw [ho] at ho'; cases ho'; rw [c] at c'; simp at c'
    have nete : e ≠ t := by
      rintro rfl
      obtain ⟨o, ho, c, _⟩ := p
      obtain ⟨old, he⟩ := st.1
      rw [he] at ho; cases ho; simp at c
    have W := WalksT.enumerateD (drawsT (prog := X.prog) (w := X.w) (A := X.A.in1) (I.ok.hd hc) it t net its.toArray) e hne (by simp [hne, nete]) (by simp)
    refine W.item i s _ _ hi ⟨st.1, st.2, p⟩ fun T vals h' tk hPt hT ht hM hk => ?_
    refine ⟨.ref T, rfl, W.go elts kk pos i T { s with heap := h', toks := tk } _ _ hM fun h'' hst hk2 => ?_⟩
    obtain ⟨tt, y, hy, rfl⟩ := hPt
    have ey : y = u := by
      rw [show its.toArray[i]? = some u by simpa using hu] at hy
      exact (Option.some.inj hy).symm
    subst ey
    have hk3 : ∀ b o, b ∉ [e, it] → s.heap.get? b = some o → h''.get? b = some o := fun b o hb eo => hk2 b o hb (hk b o hb eo)
    have hT3 : h''.IsTuple T #[.int i tt, y] := by
      obtain ⟨o, ho, r⟩ := ht
      exact ⟨o, hk2 T o (W.apart i T h' hM) ho, r⟩
    have I2 := I.turnedT (tk := tk) (xs := [.int i, x]) hk3 hf hT hT3 (.cons ⟨tt, rfl⟩ (.cons ru .nil)) (small_line (by show 2 ≤ 1000; decide))
    refine ⟨.ref T, _, I2, rfl, ⟨T, x, I.hok.fresh hT, fun ys hys => by rw [I.tuple_inj hys hq]; exact hx, rfl, rfl⟩, ⟨hst.1, hst.2.1⟩, fun b hb => ?_⟩
    obtain ⟨ob, eb⟩ : ∃ ob, s.heap.get? b = some ob := by
      obtain ⟨⟨old, he⟩, o, ho, _⟩ := st
      rcases List.mem_cons.mp hb with rfl | hb
      · exact ⟨_, he⟩
      · have : b = it := by simpa using hb
        subst this
        exact ⟨o, ho⟩
    rw [upd_ne (Nat.ne_of_lt (Nat.lt_of_lt_of_le (Heap.lt_size eb) hT))]
    exact (hf b hb).1
  done := by
    intro X hP hw hK hc i pins s σ H E I hf st hg
    subst hP hw hK
    obtain ⟨xs, hq, hx⟩ := hg
    obtain ⟨its, rv, p, hz⟩ := I.tuple hq
    have p : s.heap.IsTuple t its.toArray := p
    have net : t ≠ it := by
      rintro rfl
      obtain ⟨o, ho, c, _⟩ := p
      obtain ⟨o', ho', c', _⟩ := st.2
      rw [ho] at ho'; cases ho'; rw [c] at c'; simp at c'
    obtain ⟨⟨old, he⟩, hit⟩ := st
    have hh : X.A.in1.handled = none := I.ok.hd hc
    have f2 := hf it (by simp)
    unfold pyNext
    have hT : s.TypeIs (.ref e) "enumerate" := ⟨_, he, rfl⟩
    refine wpAny_bind (wpAny_attempt (wpAny_callSpecial?_slot (name := Str.ofString "__next__") hT F.slot_enumerate_next
      (wpAny_call_entry F.slot_enumerate_next hT F.entry_enumerate_next ?_ (F.args_enumerate_next_1 _))))
    show wpAny _ _ (field (.ref e) 2 >>= _) _ _ _
    refine wpAny_bind (wpAny_field he rfl (x := .ref it) rfl ?_)
    refine wpAny_bind (nextOf_tup_end hh hit p (by simp [← rv.length]; exact hx) fun h' x he' hx' => ?_)
    obtain ⟨o, ho, hc⟩ := hx'
    refine wpAny_bind (wpAny_isInstance (T := "StopIteration") (b := true) ⟨o, ho, hc⟩ isSubtype_stop ?_)
    obtain ⟨f0, f1, f2', f3, f4, f5⟩ := f2
    exact wpAny_pure ⟨rfl, I.turned (t' := s.toks) (fun b o hb e => he' b o hb e) f0 f1 f3 f4 f5⟩
  self := fun _ _ _ _ _ st h => by
    obtain ⟨⟨old, he⟩, _⟩ := st
    exact wpAny_pyIter_enum he h
theorem bt_enumerate : bootBuiltins "enumerate" = some (.type "enumerate") := by decide +kernel
section
variable {X : Cx} {elts : List Expr} {kk : Nat} {tpos p pos : Pos}
def iEnumT (K : PySem.W.Frag) (ta : TA) : TI := fun σ H R => ta σ H fun vs H1 => ∃ t, vs = [.ref t] ∧ (∃ xs, SqT K H1 t xs) ∧ R (Ite K t) H1
theorem pi_enumT {a : Expr} {ta : TA} (hp : plainE a = true) (hg : Gl X "enumerate") (hm : X.mg "enumerate" = none) (ha : PA X [a] ta) : PI X (.Tuple elts kk tpos) (.Call (.Name "enumerate" p) [a] [] pos) (iEnumT X.K ta) := by
  intro pins s σ H R I h
  refine Call_ (ld_blt I hg hm bt_enumerate (PyProof.Rows.callWith_type1 (thn (ha pos pins s σ H _ I h) fun us s1 ⟨vs, H1, I1, r1, q1⟩ => ?_) (star_plain hp) rfl))
  obtain ⟨t, e, ⟨xs, hq⟩, q⟩ := q1
  subst e
  obtain ⟨u, rfl, ru⟩ := vals1 r1
  cases (show u = Value.ref t from ru)
  obtain ⟨its, rv, pt, hz⟩ := I1.tuple hq
  refine call_enumT (show s1.heap.IsTuple t its.toArray from pt) fun h' he hit hsz hk => ?_
  refine wpAny_pyIter_enum he ?_
  have I2 : Inv X pins σ H1 { s1 with heap := h' } := I1.kept (t' := s1.toks) hk
  refine ⟨s1.heap.objs.size + 1, [s1.heap.objs.size + 1, s1.heap.objs.size], _, _, H1, rfl, I2, turn_enumT t s1.heap.objs.size (s1.heap.objs.size + 1) (Nat.succ_ne_self _), ⟨⟨.none, he⟩, hit⟩, fun b hb => ?_, q⟩
  have hb : s1.heap.objs.size ≤ b := by
    rcases List.mem_cons.mp hb with e | hb
    · rw [e]; exact Nat.le_succ _
    · have e : b = s1.heap.objs.size := by simpa using hb
      rw [e]; exact Nat.le_refl _
  exact I1.fpOk hb (I1.hok.fresh hb)
def iE (A : DTA) : DTI := fun ρ q => A ρ fun ds ρ' => ∃ l, ds = [.tup l] ∧ q ((List.range l.length).map fun (k : Nat) => D.tup [.int (k : Int), l.getD k .non]) ρ'
variable {κ : List SK} {pu lo : Bool} {A : DTA} {a : Expr}
theorem itok_e {K : PySem.W.Frag} {S : Addr → Prop} {H : Hp} {t : Addr} {l : List D} (r : Rep K S H (.tup l) (.ref t)) : ItOk K S H (Ite K t) ((List.range l.length).map fun (k : Nat) => D.tup [.int (k : Int), l.getD k .non]) := by
  refine ⟨_, _, r, fun S H' q i => ?_⟩
  simp only [Rep] at q
  obtain ⟨b, ws, eb, hrd, hr⟩ := q
  cases eb
  refine ⟨fun d e => ?_, fun e => ⟨ws, hrd, by
    have := List.getElem?_eq_none_iff.mp e
    rw [hr.len]; simpa using this⟩⟩
  have hi : i < l.length := by
    have := (List.getElem?_eq_some_iff.mp e).1
    simpa using this
  rw [List.getElem?_map, List.getElem?_range hi] at e
  simp only [Option.map_some, Option.some.injEq] at e
  subst e
  have hl : l[i]? = some (l[i]'hi) := List.getElem?_eq_getElem hi
  obtain ⟨u, e2, ru⟩ := hr.get hl
  refine ⟨⟨ws, u, hrd, e2⟩, fun x H'' ⟨T, y, hT, hy, ex, eH⟩ => ?_⟩
  subst ex eH
  have ey : y = u := by
    have := hy ws hrd
    rw [e2] at this; exact (Option.some.inj this).symm
  subst ey
  refine ⟨.new hT, ?_⟩
  simp only [Rep]
  refine ⟨T, _, rfl, SqT.of upd_same, ?_⟩
  simp only [Reps, Rep]
  refine ⟨_, _, rfl, rfl, _, _, rfl, ?_, rfl⟩
  have : l.getD i .non = l[i]'hi := by simp [List.getD_eq_getElem?_getD, hl]
  rw [this]
  exact Rep.go (Goes.same (.new hT)) _ _ ru
theorem diE (hpl : plainE a = true) (hgl : Gl X "enumerate") (hm : X.mg "enumerate" = none) (hi : DA X κ pu lo [a] A) : DI X κ pu lo (.Tuple elts kk tpos) (.Call (.Name "enumerate" p) [a] [] pos) (iE A) := by
  refine ⟨(pi_enumT hpl hgl hm hi.h).weak fun σ H R ⟨G, O, ρ, q, hE, hq, k⟩ => ⟨G, O, ρ, _, hE, hq, fun vs H1 ds ρ1 O1 s1 e1 r1 p1 ⟨l, ed, hq1⟩ => ?_⟩⟩
  subst ed
  obtain ⟨v, rfl, r⟩ := reps1 r1
  have r0 := r
  simp only [Rep] at r
  obtain ⟨t, ws, rfl, hrd, hr⟩ := r
  exact ⟨t, rfl, ⟨ws, hrd⟩, k _ H1 _ ρ1 O1 s1 e1 p1 (itok_e r0) hq1⟩
end
end L2
namespace L2
open PySem PySem.Spec PyProof.Rows
abbrev lc2 (elt tg iter : Expr) (ifs : List Expr) (tg2 iter2 : Expr) (ifs2 : List Expr) (scope : Scope) (pos : Pos) : Expr := .ListComp elt [⟨tg, iter, ifs, 0⟩, ⟨tg2, iter2, ifs2, 0⟩] scope pos
theorem compTurn_two0 (elt tg iter : Expr) (ifs : List Expr) (tg2 iter2 : Expr) (ifs2 : List Expr) (scope : Scope) (pos : Pos) (it acc : Value) (env : Env) :
    compTurn (lc2 elt tg iter ifs tg2 iter2 ifs2 scope pos) 0 it acc env = (do
      standAt iter.pos
      match ← pyNext it with
      | none => pure (.done .next)
      | some v =>
        letOwnedTupleGo tg it v
        assign tg env v
        let mut ok := true
        for c in ifs do
          if ok then ok ← isTrue c env (eval c env)
        if ok then
          let x ← eval iter2 env
          standAt iter2.pos
          let x ← foldedSetIterable iter2 env x
          let _ ← runOwn (.compStart (lc2 elt tg iter ifs tg2 iter2 ifs2 scope pos) 1 (← holding [x] (pyIter x)) acc env) env
        again (.compLoop (lc2 elt tg iter ifs tg2 iter2 ifs2 scope pos) 0 it acc env)) := by rfl
theorem compTurn_two1 (elt tg iter : Expr) (ifs : List Expr) (tg2 iter2 : Expr) (ifs2 : List Expr) (scope : Scope) (pos : Pos) (it acc : Value) (env : Env) :
    compTurn (lc2 elt tg iter ifs tg2 iter2 ifs2 scope pos) 1 it acc env = (do
      standAt iter2.pos
      match ← pyNext it with
      | none => pure (.done .next)
      | some v =>
        letOwnedTupleGo tg2 it v
        assign tg2 env v
        let mut ok := true
        for c in ifs2 do
          if ok then ok ← isTrue c env (eval c env)
        if ok then
          (do let _ ← call (.builtin "list.append") [acc, ← eval elt env])
        again (.compLoop (lc2 elt tg iter ifs tg2 iter2 ifs2 scope pos) 1 it acc env)) := by rfl
section
variable {prog : Program} {w : World} {A : Around} {R : Result → Shared → Prop} {s : Shared} {elt tg iter tg2 iter2 : Expr} {ifs ifs2 : List Expr} {scope : Scope} {pos : Pos} {it acc : Value} {env : Env}
theorem two_turns1 (J : Nat → Shared → Prop)
    (turn : ∀ n s, J n s → wpAny (model prog w) A (pyNext it) (fun r s1 => match r with
      | none => R (.ok .next) s1
      | some v => wpAny (model prog w) A (letOwnedTupleGo tg2 it v) (fun _ s1' => wpAny (model prog w) A (assign tg2 env v) (fun _ s2 =>
          wpAny (model prog w) A (testsOf ifs2 env) (fun ok s3 =>
            if ok = true then wpAny (model prog w) A (eval elt env) (fun x s4 =>
              wpAny (model prog w) A (call (.builtin "list.append") [acc, x]) (fun _ s5 => ∃ m, m < n ∧ J m s5) (fun _ _ => False) s4) (fun _ _ => False) s3
            else ∃ m, m < n ∧ J m s3) (fun _ _ => False) s2) (fun _ _ => False) s1') (fun _ _ => False) s1) (fun _ _ => False) s)
    (n : Nat) (h : J n s) :
    codeAny (model prog w) A (.compLoop (lc2 elt tg iter ifs tg2 iter2 ifs2 scope pos) 1 it acc env) R s := by
  have no : ∀ {E : Value → Shared → Prop} (x : Value) (s' : Shared), False → E x s' := fun _ _ f => f.elim
  refine codeAny_loop rfl J (fun n s hJ => ?_) n h
  show wpAny _ A ((compTurn (lc2 elt tg iter ifs tg2 iter2 ifs2 scope pos) 1 it acc env).onRaise (fun x => do noteFrame x env; theTreesLotGoes x)) _ _ s
  refine wpAny_noted ?_
  rw [compTurn_two1]
  refine wpAny_bind (wpAny_standAt (wpAny_bind (wpAny_mono (turn n s hJ) (fun r s1 h1 => ?_) no)))
  cases r with
  | none => exact wpAny_pure h1
  | some v =>
    refine wpAny_bind (wpAny_mono h1 (fun _ s1' h1' => ?_) no)
    refine wpAny_bind (wpAny_mono h1' (fun _ s2 h2 => wpAny_bind (wpAny_mono h2 (fun ok s3 h3 => ?_) no)) no)
    cases ok with
    | false => exact wpAny_pure ⟨rfl, h3⟩
    | true =>
      exact wpAny_bind (wpAny_bind (wpAny_mono h3 (fun x s4 h4 => wpAny_bind (wpAny_mono h4 (fun _ s5 h5 => wpAny_pure (wpAny_pure ⟨rfl, h5⟩)) no)) no))
theorem two_turns0 (hs2 : ∀ x, foldedSetIterable iter2 env x = pure x) (J : Nat → Shared → Prop)
    (turn : ∀ n s, J n s → wpAny (model prog w) A (pyNext it) (fun r s1 => match r with
      | none => R (.ok .next) s1
      | some v => wpAny (model prog w) A (letOwnedTupleGo tg it v) (fun _ s1' => wpAny (model prog w) A (assign tg env v) (fun _ s2 =>
          wpAny (model prog w) A (testsOf ifs env) (fun ok s3 =>
            if ok = true then wpAny (model prog w) A (eval iter2 env) (fun x s4 => wpAny (model prog w) A (pyIter x) (fun it2 s5 =>
              codeAny (model prog w) A (.compStart (lc2 elt tg iter ifs tg2 iter2 ifs2 scope pos) 1 it2 acc env) (fun r s6 => match r with | .ok _ => ∃ m, m < n ∧ J m s6 | .error _ => False) s5) (fun _ _ => False) s4) (fun _ _ => False) s3
            else ∃ m, m < n ∧ J m s3) (fun _ _ => False) s2) (fun _ _ => False) s1') (fun _ _ => False) s1) (fun _ _ => False) s)
    (n : Nat) (h : J n s) :
    codeAny (model prog w) A (.compLoop (lc2 elt tg iter ifs tg2 iter2 ifs2 scope pos) 0 it acc env) R s := by
  have no : ∀ {E : Value → Shared → Prop} (x : Value) (s' : Shared), False → E x s' := fun _ _ f => f.elim
  refine codeAny_loop rfl J (fun n s hJ => ?_) n h
  show wpAny _ A ((compTurn (lc2 elt tg iter ifs tg2 iter2 ifs2 scope pos) 0 it acc env).onRaise (fun x => do noteFrame x env; theTreesLotGoes x)) _ _ s
  refine wpAny_noted ?_
  rw [compTurn_two0]
  refine wpAny_bind (wpAny_standAt (wpAny_bind (wpAny_mono (turn n s hJ) (fun r s1 h1 => ?_) no)))
  cases r with
  | none => exact wpAny_pure h1
  | some v =>
    refine wpAny_bind (wpAny_mono h1 (fun _ s1' h1' => ?_) no)
    refine wpAny_bind (wpAny_mono h1' (fun _ s2 h2 => wpAny_bind (wpAny_mono h2 (fun ok s3 h3 => ?_) no)) no)
    cases ok with
    | false => exact wpAny_pure ⟨rfl, h3⟩
    | true =>
      refine wpAny_bind (wpAny_mono h3 (fun x s4 h4 => ?_) no)
      refine wpAny_bind (wpAny_standAt (wpAny_bind ?_))
      rw [hs2]
      refine wpAny_pure (wpAny_bind (wpAny_holding (wpAny_mono h4 (fun it2 s5 h5 => ?_) no)))
      refine wpAny_bind (wpAny_runOwn (codeAny_mono h5 fun r s6 h6 => ?_))
      cases r with
      | ok f => exact wpAny_pure ⟨rfl, h6⟩
      | error e => exact h6.elim
theorem two_start1 (h0 : codeAny (model prog w) A (.compLoop (lc2 elt tg iter ifs tg2 iter2 ifs2 scope pos) 1 it acc env) R s)
    (h : wpAny (model prog w) A (pyIter it) (fun it' s' => codeAny (model prog w) A (.compLoop (lc2 elt tg iter ifs tg2 iter2 ifs2 scope pos) 1 it' acc env) R s') (notedBy (model prog w) A env fun x s' => R (.error x) s') s) :
    codeAny (model prog w) A (.compStart (lc2 elt tg iter ifs tg2 iter2 ifs2 scope pos) 1 it acc env) R s := by
  refine codeAny_of_tree ?_
  show wpAny _ _ ((compStart (lc2 elt tg iter ifs tg2 iter2 ifs2 scope pos) 1 it acc env).onRaise (fun x => do noteFrame x env; standAt theWindowsPlace)) _ _ s
  refine wpAny_notedAt ?_
  unfold compStart
  show wpAny _ _ (ask >>= _) _ _ s
  refine wpAny_bind (wpAny_askSetting (wpAny_ite ?_))
  split
  · first
      | exact wpAny_bind (wpAny_pure (wpAny_pure (And.intro rfl h0)))
      | exact wpAny_pure (And.intro rfl h0)
  · first
      | exact wpAny_bind (wpAny_rule (wpAny_bind (wpAny_standAt (wpAny_bind (wpAny_mono h (fun it' s' h' => wpAny_pure (And.intro rfl h')) fun _ _ x => x)))))
      | (refine wpAny_bind (wpAny_rule ?_); show wpAny _ _ (standAt iter2.pos >>= _) _ _ s; exact wpAny_bind (wpAny_standAt (wpAny_bind (wpAny_mono h (fun it' s' h' => wpAny_pure (And.intro rfl h')) fun _ _ x => x))))
end
def tComp2 (js : List (Option Nat)) (wi : TI) (g : TG) (tc : TT) (wi2 : TI) (g2 : TG) (tc2 : TT) (te : TE) : TE := fun σ H Q => wi σ H fun J H1 => ∀ D, H1 D = none →
  ∃ W : Nat → Nat → St → Hp → Prop, (∃ m, W 0 m (inSt js σ) (upd H1 D (.lst []))) ∧ ∀ i m σ' H', W i m σ' H' →
    (J.stop i H' ∧ Q (.ref D) H') ∨ (J.go i H' ∧ ∃ N : St → Hp → Prop, (∀ σ2 H2, N σ2 H2 → ∃ m', m' < m ∧ W (i + 1) m' σ2 H2) ∧
      ∀ x H2, J.yld i H' x H2 → g x σ' H2 fun σ3 H3 => tc σ3 H3 fun b H4 => if b = true then wi2 σ3 H4 (fun J2 H5 => ∃ W2 : Nat → Nat → St → Hp → Prop, (∃ m, W2 0 m σ3 H5) ∧ ∀ i2 m2 σ4 H6, W2 i2 m2 σ4 H6 →
        (J2.stop i2 H6 ∧ N σ4 H6) ∨ (J2.go i2 H6 ∧ ∃ N2 : St → Hp → Prop, (∀ σ5 H7, N2 σ5 H7 → ∃ m', m' < m2 ∧ W2 (i2 + 1) m' σ5 H7) ∧
          ∀ x H7, J2.yld i2 H6 x H7 → g2 x σ4 H7 fun σ5 H8 => tc2 σ5 H8 fun b H9 => if b = true then te σ5 H9 (fun v H10 => ∃ xs, H10 D = some (.lst xs) ∧ xs.length < sizeLine ∧ N2 σ5 (upd H10 D (.lst (xs ++ [v])))) else N2 σ5 H9)) else N σ3 H4)
section
variable {X : Cx} {tg elt iter tg2 iter2 : Expr} {ifs ifs2 : List Expr} {scope : Scope} {pos : Pos} {Nc : List Str} {js : List (Option Nat)} {wi wi2 : TI} {g g2 : TG} {tc tc2 : TT} {te : TE}
theorem comp_block2 {pins : List (Addr × Obj)} {σ : St} {H2 : Hp} {s2 : Shared} {it : Addr} {fp : List Addr} {tn : Nat → Heap → Prop} {J : It} {Qd : Hp → Prop} {RR : Value → Addr → Result → Shared → Prop}
    (hc : X.calm = true) (S : CompSc X Nc js scope)
    (hb : ∀ pins fp H s C, PG (cxComp X Nc scope pins fp H s C) tg g ∧ PIfs (cxComp X Nc scope pins fp H s C) ifs tc ∧ (PI (cxComp X Nc scope pins fp H s C) tg2 iter2 wi2 ∧ PG (cxComp X Nc scope pins fp H s C) tg2 g2 ∧ PIfs (cxComp X Nc scope pins fp H s C) ifs2 tc2) ∧ (∀ x, foldedSetIterable iter2 (cxComp X Nc scope pins fp H s C).env x = pure x) ∧ PE (cxComp X Nc scope pins fp H s C) elt te)
    (I2 : Inv X pins σ H2 s2) (T : Turn X.prog X.w X.K tg J fp it tn) (st2 : tn 0 s2.heap) (f2 : ∀ b ∈ fp, FpOk X pins H2 b)
    (h2 : ∃ W : Nat → Nat → St → Hp → Prop, (∃ m, W 0 m (inSt js σ) (upd H2 s2.heap.objs.size (.lst []))) ∧ ∀ i m σ' H', W i m σ' H' →
      (J.stop i H' ∧ Qd H') ∨ (J.go i H' ∧ ∃ N : St → Hp → Prop, (∀ σ2 H2, N σ2 H2 → ∃ m', m' < m ∧ W (i + 1) m' σ2 H2) ∧
        ∀ x H2, J.yld i H' x H2 → g x σ' H2 fun σ3 H3 => tc σ3 H3 fun b H4 => if b = true then wi2 σ3 H4 (fun J2 H5 => ∃ W2 : Nat → Nat → St → Hp → Prop, (∃ m, W2 0 m σ3 H5) ∧ ∀ i2 m2 σ4 H6, W2 i2 m2 σ4 H6 →
          (J2.stop i2 H6 ∧ N σ4 H6) ∨ (J2.go i2 H6 ∧ ∃ N2 : St → Hp → Prop, (∀ σ5 H7, N2 σ5 H7 → ∃ m', m' < m2 ∧ W2 (i2 + 1) m' σ5 H7) ∧
            ∀ x H7, J2.yld i2 H6 x H7 → g2 x σ4 H7 fun σ5 H8 => tc2 σ5 H8 fun b H9 => if b = true then te σ5 H9 (fun v H10 => ∃ xs, H10 s2.heap.objs.size = some (.lst xs) ∧ xs.length < sizeLine ∧ N2 σ5 (upd H10 s2.heap.objs.size (.lst (xs ++ [v])))) else N2 σ5 H9)) else N σ3 H4))
    (hRR : ∀ C σ' H' s', s2.heap.objs.size < C → Inv (cxComp X Nc scope pins fp H2 s2 C) [] σ' H' s' → Qd H' → RR (.ref s2.heap.objs.size) C (.ok .next) s') :
    wpAny (model X.prog X.w) X.A (newList []) (fun acc s3 => wpAny (model X.prog X.w) X.A (newFunctionEnv scope X.env.globals (clOf scope X.env) [] X.env.qual none .none (some X.env)) (fun cenv s4 =>
      codeAny (model X.prog X.w) X.A (.compStart (lc2 elt tg iter ifs tg2 iter2 ifs2 scope pos) 0 (.ref it) acc { cenv with scope := relabel scope X.env }) (RR acc cenv.locals) s4) X.xe s3) X.xe s2 := by
  have fpo : ∀ b ∈ fp, b < s2.heap.objs.size := fun b hb => by
    obtain ⟨o, ho, _⟩ := T.obj 0 _ st2 b hb
    exact Heap.lt_size ho
  refine wpAny_newObj_type (wpAny_newFunctionEnv S.nocell (by intro y hy; simp at hy) (fun h₁ hns hsb => ?_) S.kind)
  dsimp only at hns hsb ⊢
  generalize hH2 : s2.heap.push { cls := .type "list", dict := none, data := .seq ([] : List Value).toArray } = hp at hns hsb ⊢
  have hCs : hp.objs.size = s2.heap.objs.size + 1 := by rw [← hH2, Heap.size_push]
  have hC : s2.heap.objs.size < hp.objs.size := by rw [hCs]; exact Nat.lt_succ_self _
  have old : ∀ b o, s2.heap.get? b = some o → h₁.get? b = some o := fun b o e =>
    hsb.extBut b o (Nat.ne_of_lt (Nat.lt_trans (Heap.lt_size e) hC)) (Heap.get?_push_of_some _ (hH2 ▸ Heap.get?_push_of_some _ e))
  have hD : h₁.get? s2.heap.objs.size = some { cls := .type "list", data := .seq ([] : List Value).toArray 0 } :=
    hsb.extBut _ _ (Nat.ne_of_lt hC) (Heap.get?_push_of_some _ (hH2 ▸ Heap.get?_push_size _ rfl))
  obtain ⟨W, ⟨m0, w0⟩, turn⟩ := h2
  generalize hXc : cxComp X Nc scope pins fp H2 s2 hp.objs.size = Xc
  obtain ⟨hg, hifs, ⟨hi2, hg2, hifs2⟩, hs2, helt⟩ := hb pins fp H2 s2 hp.objs.size
  have e1 : Xc.prog = X.prog := by rw [← hXc]; rfl
  have I3 : ∀ tk, Inv Xc [] (inSt js σ) (upd H2 s2.heap.objs.size (.lst [])) { s2 with heap := h₁, toks := tk } := fun tk => by
    rw [← hXc]
    exact inv_comp I2 hc S f2 fpo hC old hns hD
  have st3 : tn 0 h₁ := T.keep 0 _ _ st2 fun b hb o e => old b o e
  have fpx : ∀ {H' : Hp}, (∀ b ∈ fp, H' b = none) → ∀ b ∈ fp, FpOk Xc [] H' b := fun {H'} hn b hb => by
    obtain ⟨f0, f1, f2', f3, f4, f5⟩ := f2 b hb
    rw [← hXc]
    refine ⟨hn b hb, Nat.ne_of_lt (Nat.lt_trans (fpo b hb) hC), fun z => ?_, .inl hb, fun x c e => f4 x c (clOf_of e), fun p hp => ?_⟩
    · rcases List.mem_cons.mp (I2.stkSub b z) with e | e
      · exact f1 e
      · exact f2' e
    · have hp' : p ∈ (X.pn ++ pins) ++ [] := hp
      exact f5 p (by simpa using hp')
  rw [hXc] at hg hifs helt hi2 hg2 hifs2 hs2
  have ea : Xc.A = X.A := by rw [← hXc]; rfl
  have ew : Xc.w = X.w := by rw [← hXc]; rfl
  have eK : Xc.K = X.K := by rw [← hXc]; rfl
  have ec : Xc.calm = true := by rw [← hXc]; rfl
  have ex : Xc.xe = fun _ _ => False := by rw [← hXc]; rfl
  have ee : Xc.env = compEnvC scope (clOf scope X.env) hp.objs.size X.env := by rw [← hXc]; rfl
  have loop : ∀ s3 : Shared, Inv Xc [] (inSt js σ) (upd H2 s2.heap.objs.size (.lst [])) s3 → tn 0 s3.heap →
      codeAny (model X.prog X.w) X.A (.compLoop (lc2 elt tg iter ifs tg2 iter2 ifs2 scope pos) 0 (.ref it) (.ref s2.heap.objs.size) (compEnvC scope (clOf scope X.env) hp.objs.size X.env))
        (RR (.ref s2.heap.objs.size) hp.objs.size) s3 := by
    intro s3 J3 tn3
    refine two_turns0 (by rw [ee] at hs2; exact hs2) (fun n s' => ∃ i σ' H', Inv Xc [] σ' H' s' ∧ tn i s'.heap ∧ (∀ b ∈ fp, H' b = none) ∧ W i n σ' H') ?_ m0 ⟨0, _, _, J3, tn3, fun b hb => ?_, w0⟩
    · rintro n s4 ⟨i, σ4, H4, I4, st4, fr4, w4⟩
      rcases turn i n σ4 H4 w4 with ⟨stop, qn⟩ | ⟨go, N, hN, step⟩
      · have q0 := T.done Xc e1 ew eK ec i [] s4 σ4 H4 (fun _ _ => False) I4 (fpx fr4) st4 stop
        rw [ea] at q0
        refine thn q0 fun r s5 ⟨hr, I5⟩ => ?_
        subst hr
        have I5' : Inv (cxComp X Nc scope pins fp H2 s2 hp.objs.size) [] σ4 H4 s5 := by rw [hXc]; exact I5
        exact hRR _ _ _ _ hC I5' qn
      · have q0 := T.item Xc e1 ew eK ec i [] s4 σ4 H4 (fun _ _ => False) I4 (fpx fr4) st4 go
        rw [ea] at q0
        refine thn q0 fun r s5 ⟨u, hr, h5⟩ => ?_
        subst hr
        dsimp only
        refine thn h5 fun _ s6 ⟨x, H6, I6, r6, y6, st6, fr6⟩ => ?_
        have I6' := I6.pinned (fpx fr6) (T.obj _ _ st6)
        have q1 := hg _ s6 σ4 H6 x u _ I6' r6 (step x H6 y6)
        rw [e1, ew, ea, ex, ee] at q1
        refine thn q1 fun _ s7 ⟨σ7, H7, I7, q7⟩ => ?_
        have q2 := hifs _ s7 σ7 H7 _ I7 q7
        rw [e1, ew, ea, ex, ee] at q2
        refine thn q2 fun ok s8 ⟨H8, I8, q8⟩ => ?_
        have fin : ∀ {s9 : Shared} {σ9 : St} {H9 : Hp}, Inv Xc ([] ++ pinsAt fp s6.heap) σ9 H9 s9 → N σ9 H9 → ∃ m, m < n ∧ ∃ i σ' H', Inv Xc [] σ' H' s9 ∧ tn i s9.heap ∧ (∀ b ∈ fp, H' b = none) ∧ W i m σ' H' := fun {s9 σ9 H9} I9 n9 => by
          obtain ⟨m', hm, w9⟩ := hN σ9 H9 n9
          refine ⟨m', hm, i + 1, σ9, H9, I9.unpinned, T.keep _ _ _ st6 fun b hb o e => (I9.pin (b, o) (List.mem_append_right _ (List.mem_append_right _ (mem_pinsAt hb e)))).1, fun b hb => ?_, w9⟩
          obtain ⟨o, e, d⟩ := T.obj _ _ st6 b hb
          exact (I9.pin (b, o) (List.mem_append_right _ (List.mem_append_right _ (mem_pinsAt hb e)))).2.1
        cases ok with
        | false =>
          rw [if_neg Bool.false_ne_true] at q8 ⊢
          exact fin I8 q8
        | true =>
          rw [if_pos rfl] at q8 ⊢
          have q3 := hi2 _ s8 σ7 H8 _ I8 q8
          rw [e1, ew, ea, ex, ee] at q3
          refine thn q3 fun y s9 h9 => thn h9 fun itv s10 ⟨it2, fp2, tn2, J2, H10, eit, I10, T2, st10, f10, W2, ⟨m20, w20⟩, turn2⟩ => ?_
          subst eit
          rw [e1, ew, eK] at T2
          have stat2 : ∀ {H' : Hp}, (∀ b ∈ fp2, H' b = none) → ∀ b ∈ fp2, FpOk Xc ([] ++ pinsAt fp s6.heap) H' b := fun hn b hb => ⟨hn b hb, (f10 b hb).2⟩
          have loop2 : codeAny (model X.prog X.w) X.A (.compLoop (lc2 elt tg iter ifs tg2 iter2 ifs2 scope pos) 1 (.ref it2) (.ref s2.heap.objs.size) (compEnvC scope (clOf scope X.env) hp.objs.size X.env))
              (fun r s6' => match r with | .ok _ => ∃ m, m < n ∧ ∃ i σ' H', Inv Xc [] σ' H' s6' ∧ tn i s6'.heap ∧ (∀ b ∈ fp, H' b = none) ∧ W i m σ' H' | .error _ => False) s10 := by
            refine two_turns1 (fun n2 s' => ∃ i2 σ' H', Inv Xc ([] ++ pinsAt fp s6.heap) σ' H' s' ∧ tn2 i2 s'.heap ∧ (∀ b ∈ fp2, H' b = none) ∧ W2 i2 n2 σ' H') ?_ m20 ⟨0, σ7, H10, I10, st10, fun b hb => (f10 b hb).1, w20⟩
            rintro n2 s11 ⟨i2, σ11, H11, I11, st11, fr11, w11⟩
            rcases turn2 i2 n2 σ11 H11 w11 with ⟨stop2, qn2⟩ | ⟨go2, N2, hN2, step2⟩
            · have q0 := T2.done Xc e1 ew eK ec i2 _ s11 σ11 H11 (fun _ _ => False) I11 (stat2 fr11) st11 stop2
              rw [ea] at q0
              refine thn q0 fun r s12 ⟨hr, I12⟩ => ?_
              subst hr
              exact fin I12 qn2
            · have q0 := T2.item Xc e1 ew eK ec i2 _ s11 σ11 H11 (fun _ _ => False) I11 (stat2 fr11) st11 go2
              rw [ea] at q0
              refine thn q0 fun r s12 ⟨u2, hr, h12⟩ => ?_
              subst hr
              dsimp only
              refine thn h12 fun _ s13 ⟨x2, H13, I13, r13, y13, st13, fr13⟩ => ?_
              have I13' := I13.pinned (stat2 fr13) (T2.obj _ _ st13)
              have p1 := hg2 _ s13 σ11 H13 x2 u2 _ I13' r13 (step2 x2 H13 y13)
              rw [e1, ew, ea, ex, ee] at p1
              refine thn p1 fun _ s14 ⟨σ14, H14, I14, q14⟩ => ?_
              have p2 := hifs2 _ s14 σ14 H14 _ I14 q14
              rw [e1, ew, ea, ex, ee] at p2
              refine thn p2 fun ok2 s15 ⟨H15, I15, q15⟩ => ?_
              have fin2 : ∀ {s9 : Shared} {σ9 : St} {H9 : Hp}, Inv Xc (([] ++ pinsAt fp s6.heap) ++ pinsAt fp2 s13.heap) σ9 H9 s9 → N2 σ9 H9 → ∃ m, m < n2 ∧ ∃ i2 σ' H', Inv Xc ([] ++ pinsAt fp s6.heap) σ' H' s9 ∧ tn2 i2 s9.heap ∧ (∀ b ∈ fp2, H' b = none) ∧ W2 i2 m σ' H' := fun {s9 σ9 H9} I9 n9 => by
                obtain ⟨m', hm, w9⟩ := hN2 σ9 H9 n9
                refine ⟨m', hm, i2 + 1, σ9, H9, I9.unpinned, T2.keep _ _ _ st13 fun b hb o e => (I9.pin (b, o) (List.mem_append_right _ (List.mem_append_right _ (mem_pinsAt hb e)))).1, fun b hb => ?_, w9⟩
                obtain ⟨o, e, d⟩ := T2.obj _ _ st13 b hb
                exact (I9.pin (b, o) (List.mem_append_right _ (List.mem_append_right _ (mem_pinsAt hb e)))).2.1
              cases ok2 with
              | false =>
                rw [if_neg Bool.false_ne_true] at q15 ⊢
                exact fin2 I15 q15
              | true =>
                rw [if_pos rfl] at q15 ⊢
                have p3 := helt _ s15 σ14 H15 _ I15 q15
                rw [e1, ew, ea, ex, ee] at p3
                refine thn p3 fun y s9 ⟨v9, H9, I9, r9, xs, hxs, hlen, q9⟩ => ?_
                have q4 := mt_append _ s9 σ14 H9 (.ref s2.heap.objs.size) [v9] (.ref s2.heap.objs.size) [y] (fun _ H10 => H10 = upd H9 s2.heap.objs.size (.lst (xs ++ [v9]))) I9 rfl (.cons r9 .nil) ⟨_, xs, v9, rfl, rfl, hxs, hlen, rfl⟩
                rw [e1, ew, ea, ex] at q4
                refine thn q4 fun _ s10 ⟨_, H10, I10, _, e10⟩ => ?_
                subst e10
                exact fin2 I10 q9
          exact two_start1 loop2 (T2.self _ 0 _ _ _ st10 loop2)
    · by_cases hbd : b = s2.heap.objs.size
      · exact absurd (fpo b hb) (by rw [hbd]; exact Nat.lt_irrefl _)
      · rw [upd_ne hbd]
        exact (f2 b hb).1
  exact codeAny_compStart_list (loop _ (I3 _) st3) (T.self _ 0 _ _ _ st3 (loop _ (I3 _) st3))
theorem pe_comp2 (hc : X.calm = true) (hi : PI X tg iter wi) (S : CompSc X Nc js scope)
    (hb : ∀ pins fp H s C, PG (cxComp X Nc scope pins fp H s C) tg g ∧ PIfs (cxComp X Nc scope pins fp H s C) ifs tc ∧ (PI (cxComp X Nc scope pins fp H s C) tg2 iter2 wi2 ∧ PG (cxComp X Nc scope pins fp H s C) tg2 g2 ∧ PIfs (cxComp X Nc scope pins fp H s C) ifs2 tc2) ∧ (∀ x, foldedSetIterable iter2 (cxComp X Nc scope pins fp H s C).env x = pure x) ∧ PE (cxComp X Nc scope pins fp H s C) elt te)
    (hs : ∀ x, foldedSetIterable iter X.env x = pure x) :
    PE X (lc2 elt tg iter ifs tg2 iter2 ifs2 scope pos) (tComp2 js wi g tc wi2 g2 tc2 te) := by
  intro pins s σ H Q I h
  unfold lc2
  rw [eval_ListComp]
  have hcl : ∀ y ∈ scope.names, y.2 = .free → ∃ c, X.env.cells.lookup y.1 = some c := fun y hy e => I.ok.has y.1 (S.free y hy e)
  refine wpAny_comprehension_free (use := none) rfl hs (closure_of hcl) S.kind S.names (thn (hi pins s σ H _ I h) fun v s1 h1 => thn h1 fun itv s2 h2 => ?_)
  obtain ⟨it, fp, tn, J, H2, e, I2, T, st2, f2, h2⟩ := h2
  subst e
  have hDn : H2 s2.heap.objs.size = none := I2.hok.fresh (Nat.le_refl _)
  refine comp_block2 (RR := fun acc C => compPost (model X.prog X.w) X.A X.xe none (EP X pins σ Q) acc C) (Qd := fun H' => Q (.ref s2.heap.objs.size) H') hc S hb I2 T st2 f2 (h2 s2.heap.objs.size hDn) fun C σ' H' s' hC J' q => ?_
  obtain ⟨mm, hm, _⟩ := J'.loc
  exact ⟨mm, hm, fun h' hs' => ⟨.ref s2.heap.objs.size, H', inv_out I2 f2 hC J' hs', rfl, q⟩⟩
end
def compGo2 (g : DTG) (C : DTT) (I2 : DTI) (g2 : DTG) (C2 : DTT) (E : DTE) : List D → List D → EnvD → (List D → EnvD → Prop) → Prop
  | [], acc, ρ, q => q acc ρ
  | d :: ds, acc, ρ, q => ∃ N : List D → EnvD → Prop, (∀ acc' ρ', N acc' ρ' → compGo2 g C I2 g2 C2 E ds acc' ρ' q) ∧ g d ρ fun ρ1 => C ρ1 fun b ρ2 => if b = true then I2 ρ2 fun ds2 ρ3 => compGo g2 C2 E ds2 acc ρ3 N else N acc ρ2
def eComp2 (js : List (Option Nat)) (I : DTI) (g : DTG) (C : DTT) (I2 : DTI) (g2 : DTG) (C2 : DTT) (E : DTE) : DTE := fun ρ q => I ρ fun ds ρ1 => compGo2 g C I2 g2 C2 E ds [] (inD js ρ1) fun acc _ => q (.lst acc) ρ1
section
variable {X : Cx} {κ : List SK} {pu lo : Bool} {I I2 : DTI} {g g2 : DTG} {C C2 : DTT} {E : DTE} {js : List (Option Nat)} {K : PySem.W.Frag}
theorem comp22_go (hcap : lo = false → ∀ j ∈ js, ∀ i, j = some i → kd κ i = .cl) {pe pu2 lo2 : Bool} {lo0 : Bool} (hlo : lo0 = true → lo = true) {σ : St} {H : Hp} {Q : VK} (h : tD K κ pu (outM lo (.ow 1)) (eComp2 js I g C I2 g2 C2 E) σ H Q) :
    tComp2 js (tDI K κ pu lo0 I) (tDG K [] .cl g) (tDT K [] false C) (tDI K [] pu2 lo2 I2) (tDG K [] .cl g2) (tDT K [] false C2) (tD K [] pe .cl E) σ H Q := by
  obtain ⟨G, O, ρ, q, hE, hq, k⟩ := h
  refine ⟨G, O, ρ, _, hE, hq, fun J H1 ds ρ1 O1 s1 e1 p1 ⟨di, vi, ri, hJ⟩ hgo Dl hD => ?_⟩
  let S := uni (Sx lo G.S0 O1) (· = Dl)
  let Gi : G0 := ⟨S, fun _ => False, H1, inSt js σ, []⟩
  have ri' : Rep K (Sx lo G.S0 O1) H1 di vi := by
    cases lo with
    | false =>
      cases lo0 with
      | false => exact ri
      | true => exact absurd (hlo rfl) Bool.false_ne_true
    | true =>
      cases lo0 with
      | false => exact Rep.go (.less fun _ z => .inl z) di vi ri
      | true => exact ri
  have u0 : uni S (fun _ => False) = S := by funext a; simp [uni]
  have start : EnvOk K [] Gi (fun _ => False) (inD js ρ1) (inSt js σ) (upd H1 Dl (.lst [])) := by
    refine ⟨fun _ => [], ?_, fun a => by simp, fun _ _ => rfl, fun i j a h => absurd h (by simp), fun _ => by simp, fun i a h => absurd h (by simp), fun i a h => absurd h (by simp), fun i n e => rfl, fun p hp => absurd hp (by simp [Gi]), fun a z => ?_, fun b o _ e => ?_, fun b e => ?_, fun p d e => ?_⟩
    · simp [inD, inSt]
    · rcases z with z | z
      · have := Sx_dom (lo := lo) e1 a z
        by_cases hab : a = Dl
        · rw [hab, upd_same]; simp
        · rw [upd_ne hab]; exact this
      · rw [z, upd_same]; simp
    · rw [upd_ne (ne_of_none e hD)]; exact e
    · by_cases hab : b = Dl
      · rw [hab, upd_same]; simp
      · rw [upd_ne hab]; exact e
    · obtain ⟨j, hj, e2⟩ := inD_get e
      obtain ⟨v, h1, h2, h3⟩ := e1.read e2
      refine ⟨v, inSt_get hj h1, ?_⟩
      show Rep K (uni S fun _ => False) _ d v
      rw [u0]
      refine Rep.go (Goes.fresh hD) d v ?_
      cases lo with
      | true => exact h2
      | false => exact h3 (hcap rfl (some j) (List.mem_of_getElem? hj) j rfl)
  have empty : ∀ {O' : Addr → Prop} {ρ' : EnvD} {σ' : St} {H' : Hp}, EnvOk K [] Gi O' ρ' σ' H' → O' = fun _ => False := fun {O' ρ' σ' H'} h => by
    obtain ⟨F, f⟩ := h
    funext a
    have : ¬ O' a := fun z => by
      obtain ⟨i, hi⟩ := (f.own a).mp z
      rw [f.non i (by simp [kd, dep])] at hi
      exact absurd hi (by simp)
    simp [this]
  have sameIn : ∀ {O' : Addr → Prop} {ρ' : EnvD} {σ' : St} {H' : Hp}, EnvOk K [] Gi O' ρ' σ' H' → Same H1 H' := fun h => by
    obtain ⟨F, f⟩ := h
    exact fun b o e => f.keep b o (fun z => z) e
  have toS : ∀ {H' : Hp}, Same H1 H' → H' Dl ≠ none → Rep K S H' di vi := fun {H'} sm hd => by
    have q1 := Rep.go (goes_new (S := Sx lo G.S0 O1) (fp := [Dl]) sm (fun a ha => by
      obtain rfl : a = Dl := by simpa using ha
      exact hD)) di vi ri'
    have eq : uni (Sx lo G.S0 O1) (fpS [Dl]) = S := by funext a; simp [uni, fpS, S]
    rw [eq] at q1
    exact q1
  refine ⟨fun i m σ' H' => m + i = ds.length ∧ ∃ ρi acc vs, EnvOk K [] Gi (fun _ => False) ρi σ' H' ∧ H' Dl = some (.lst vs) ∧ Reps K S H' acc vs ∧ compGo2 g C I2 g2 C2 E (ds.drop i) acc ρi (fun acc _ => q (.lst acc) ρ1), ⟨ds.length, rfl, _, [], [], start, upd_same, by simp only [Reps], hgo⟩, ?_⟩
  rintro i m σ' H' ⟨hm, ρi, acc, vs, en, hDl, hacc, hg⟩
  have sm := sameIn en
  have hit := hJ _ H' (toS sm (by rw [hDl]; simp)) i
  cases e : ds[i]? with
  | none =>
    left
    have hi : ds.length ≤ i := List.getElem?_eq_none_iff.mp e
    rw [List.drop_eq_nil_of_le hi] at hg
    refine ⟨hit.2 e, ?_⟩
    have vr : VRes K (Sx lo G.S0 O1) H1 H' [Dl] (.ow 1) (.lst acc) (.ref Dl) := by
      refine ⟨by simp, fun a ha => ?_, ?_⟩
      · obtain rfl : a = Dl := by simpa using ha
        exact ⟨hD, _, hDl, trivial⟩
      · have eq : uni (Sx lo G.S0 O1) (fpS [Dl]) = S := by funext a; simp [uni, fpS, S]
        rw [eq]
        exact own1_mk hDl hacc
    obtain ⟨fp', st, en', vo⟩ := VRes.fin e1 s1 sm vr (by simp)
    exact k _ H' _ ρ1 O1 fp' st en' vo (p1.same sm) hg
  | some d =>
    right
    rw [drop_at e] at hg
    obtain ⟨Nd, hNd, hg⟩ := hg
    obtain ⟨g1, g2'⟩ := hit.1 d e
    have hi : i < ds.length := (List.getElem?_eq_some_iff.mp e).1
    refine ⟨g1, fun σ2 H2 => ∃ ρi acc vs, EnvOk K [] Gi (fun _ => False) ρi σ2 H2 ∧ H2 Dl = some (.lst vs) ∧ Reps K S H2 acc vs ∧ compGo2 g C I2 g2 C2 E (ds.drop (i + 1)) acc ρi (fun acc _ => q (.lst acc) ρ1), fun σ2 H2 ⟨ρi, acc, vs, z⟩ => ⟨ds.length - (i + 1), by omega, by omega, ρi, acc, vs, z⟩, fun x H2 y => ?_⟩
    obtain ⟨sm2, rx⟩ := g2' x H2 y
    have en2 := en.same0 sm2
    have hDl2 := sm2 _ _ hDl
    have hacc2 := Reps.go (Goes.same sm2) acc vs hacc
    refine ⟨Gi, _, ρi, _, d, en2, (by rw [show Sx (loB .cl) Gi.S0 (fun _ => False) = uni S fun _ => False from rfl, u0]; exact rx), hg, fun σ3 ρ3 e3 hc => ⟨Gi, _, ρ3, _, e3, hc, fun b H4 ρ4 O4 s4 e4 p4 hb => ?_⟩⟩
    have o4 := empty e4
    subst o4
    have sm4 : Same H2 H4 := fun b o e => s4.keep b o (fun z => z) e
    have hDl4 := sm4 _ _ hDl2
    have hacc4 := Reps.go (Goes.same sm4) acc vs hacc2
    cases b with
    | false =>
      rw [if_neg Bool.false_ne_true] at hb
      exact iteF ⟨ρ4, acc, vs, e4, hDl4, hacc4, hNd _ _ hb⟩
    | true =>
      rw [if_pos rfl] at hb
      refine iteT ⟨Gi, _, ρ4, _, e4, hb, fun J2 H5 ds2 ρ5 O5 s5 e5 p5 ⟨dj, vj, rj, hJ2⟩ hq5 => ?_⟩
      have o5 := empty e5
      subst o5
      have sm5 : Same H4 H5 := fun b o e => s5.keep b o (fun z => z) e
      have hDl5 := sm5 _ _ hDl4
      have hacc5 := Reps.go (Goes.same sm5) acc vs hacc4
      have rj' : Rep K S H5 dj vj := by
        cases lo2 with
        | true => exact rj
        | false =>
          have z : Sx false Gi.S0 (fun _ => False) = S := u0
          rw [z] at rj
          exact rj
      refine ⟨fun i2 m2 σ4 H6 => m2 + i2 = ds2.length ∧ ∃ ρi acc vs, EnvOk K [] Gi (fun _ => False) ρi σ4 H6 ∧ H6 Dl = some (.lst vs) ∧ Reps K S H6 acc vs ∧ Rep K S H6 dj vj ∧ compGo g2 C2 E (ds2.drop i2) acc ρi Nd, ⟨ds2.length, rfl, ρ5, acc, vs, e5, hDl5, hacc5, rj', hq5⟩, ?_⟩
      rintro i2 m2 σ6 H6 ⟨hm2, ρ6, acc6, vs6, e6, hDl6, hacc6, rj6, hg6⟩
      have hit2 := hJ2 _ H6 rj6 i2
      cases ee : ds2[i2]? with
      | none =>
        left
        have hi2 : ds2.length ≤ i2 := List.getElem?_eq_none_iff.mp ee
        rw [List.drop_eq_nil_of_le hi2] at hg6
        exact ⟨hit2.2 ee, ρ6, acc6, vs6, e6, hDl6, hacc6, hNd _ _ hg6⟩
      | some d2 =>
        right
        rw [drop_at ee] at hg6
        obtain ⟨Ne, hNe, hg6⟩ := hg6
        obtain ⟨k1, k2⟩ := hit2.1 d2 ee
        have hi2 : i2 < ds2.length := (List.getElem?_eq_some_iff.mp ee).1
        refine ⟨k1, fun σ7 H7 => ∃ ρi acc vs, EnvOk K [] Gi (fun _ => False) ρi σ7 H7 ∧ H7 Dl = some (.lst vs) ∧ Reps K S H7 acc vs ∧ Rep K S H7 dj vj ∧ compGo g2 C2 E (ds2.drop (i2 + 1)) acc ρi Nd, fun σ7 H7 ⟨ρi, acc, vs, z⟩ => ⟨ds2.length - (i2 + 1), by omega, by omega, ρi, acc, vs, z⟩, fun x7 H7 y7 => ?_⟩
        obtain ⟨sm7, rx7⟩ := k2 x7 H7 y7
        have e7 := e6.same0 sm7
        have hDl7 := sm7 _ _ hDl6
        have hacc7 := Reps.go (Goes.same sm7) acc6 vs6 hacc6
        have rj7 := Rep.go (Goes.same sm7) dj vj rj6
        refine ⟨Gi, _, ρ6, _, d2, e7, (by rw [show Sx (loB .cl) Gi.S0 (fun _ => False) = uni S fun _ => False from rfl, u0]; exact rx7), hg6, fun σ8 ρ8 e8 hc8 => ⟨Gi, _, ρ8, _, e8, hc8, fun b H9 ρ9 O9 s9 e9 p9 hb9 => ?_⟩⟩
        have o9 := empty e9
        subst o9
        have sm9 : Same H7 H9 := fun b o e => s9.keep b o (fun z => z) e
        have hDl9 := sm9 _ _ hDl7
        have hacc9 := Reps.go (Goes.same sm9) acc6 vs6 hacc7
        have rj9 := Rep.go (Goes.same sm9) dj vj rj7
        cases b with
        | false =>
          rw [if_neg Bool.false_ne_true] at hb9
          exact iteF ⟨ρ9, acc6, vs6, e9, hDl9, hacc9, rj9, hNe _ _ hb9⟩
        | true =>
          rw [if_pos rfl] at hb9
          refine iteT ⟨Gi, _, ρ9, _, e9, hb9, fun v H10 z ρ10 O10 fp s10 e10 vo p10 ⟨hlen, hz⟩ => ?_⟩
          have e10' := e10.drop
          have o10 := empty e10'
          subst o10
          have sm10 : Same H9 H10 := fun b o e => s10.keep b o (fun z => z) e
          have hDl10 := sm10 _ _ hDl9
          have hacc10 := Reps.go (Goes.same sm10) acc6 vs6 hacc9
          have rj10 := Rep.go (Goes.same sm10) dj vj rj9
          have gU : Goes S S H10 (upd H10 Dl (.lst (vs6 ++ [v]))) := Goes.upd hDl10 trivial (.inr rfl)
          refine ⟨vs6, hDl10, by rw [hacc6.len]; exact hlen, ρ10, acc6 ++ [z], vs6 ++ [v], e10'.updS (.inr rfl) hDl10 trivial hD, upd_same, ?_, Rep.go gU dj vj rj10, hNe _ _ hz⟩
          have rv := vo.2
          rw [show uni Gi.S0 (fun _ => False) = S from u0] at rv
          exact Reps.snoc (Reps.go gU acc6 vs6 hacc10) (Rep.go gU z v rv)
variable {tg elt iter tg2 iter2 : Expr} {ifs ifs2 : List Expr} {scope : Scope} {pos : Pos} {Nc : List Str} {lo0 pe pu2 lo2 : Bool}
theorem dcomp2 (hs : ∀ x, foldedSetIterable iter X.env x = pure x) (hc : X.calm = true) (hcap : lo = false → ∀ j ∈ js, ∀ i, j = some i → kd κ i = .cl) (hlo : lo0 = true → lo = true) (hi : DI X κ pu lo0 tg iter I) (S : CompSc X Nc js scope)
    (hb : ∀ pins fp H s C', DG (cxComp X Nc scope pins fp H s C') [] .cl tg g ∧ DIf (cxComp X Nc scope pins fp H s C') [] ifs C ∧ (DI (cxComp X Nc scope pins fp H s C') [] pu2 lo2 tg2 iter2 I2 ∧ DG (cxComp X Nc scope pins fp H s C') [] .cl tg2 g2 ∧ DIf (cxComp X Nc scope pins fp H s C') [] ifs2 C2) ∧ (∀ x, foldedSetIterable iter2 (cxComp X Nc scope pins fp H s C').env x = pure x) ∧ DE (cxComp X Nc scope pins fp H s C') [] pe .cl elt E) :
    DE X κ pu (outM lo (.ow 1)) (.ListComp elt [⟨tg, iter, ifs, 0⟩, ⟨tg2, iter2, ifs2, 0⟩] scope pos) (eComp2 js I g C I2 g2 C2 E) :=
  ⟨(pe_comp2 hc hi.h S (fun p f H s C' => let ⟨x, y, ⟨z1, z2, z3⟩, z4, z5⟩ := hb p f H s C'; ⟨x.h, y.h, ⟨z1.h, z2.h, z3.h⟩, z4, z5.h⟩) hs).weak fun σ H Q h => comp22_go (K := X.K) hcap hlo h⟩
end
section
variable {X : Cx} {κ : List SK} {pu : Bool} {md : SK} {a b c e : Expr} {es rest : List Expr} {pos p apos cpos : Pos} {Ea Eb Ec E : DTE} {A : DTA} {r r2 : DR2} {rn : DRn} {x : Str} {id T : String} {C U : DTT}
theorem vcl : isV .cl := .inl rfl
theorem vlo : isV .lo := .inr rfl
theorem and2 {p : Bool} {P : Bool → Prop} (h : P (p && p)) : P p := by rwa [Bool.and_self] at h
theorem and3 {p : Bool} {P : Bool → Prop} (h : P ((p && p) && p)) : P p := by rwa [Bool.and_self, Bool.and_self] at h
theorem fopC {op : Operator} (hm : md ≠ .lo) (ho : DOp X md (binaryOp op) r) (ha : DE X κ pu .cl a Ea) (hb : DE X κ pu .cl b Eb) : DE X κ pu md (.BinOp a op b pos) (eOp r Ea Eb) := and2 (P := fun p => DE X κ p md _ _) (dop ho vcl vcl (fun h => by cases h) hm ha hb)
theorem fopL {op : Operator} (hm : md ≠ .lo) (ho : DOp X md (binaryOp op) r) (ha : DE X κ true .lo a Ea) (hb : DE X κ true .lo b Eb) : DE X κ true .lo (.BinOp a op b pos) (eOp r Ea Eb) := dop ho vlo vlo (fun h => rfl) hm ha hb
theorem ftcmpC {op : CmpOp} (hmk : behindInMarks op b = false) (ho : DOp X .cl (compareOp op) r) (ha : DE X κ pu .cl a Ea) (hb : DE X κ pu .cl b Eb) : DT X κ pu (.Compare a [op] [b] pos) (eTest (eOp r Ea Eb)) := and2 (P := fun p => DT X κ p _ _) (dtcmp hmk ho vcl vcl (fun h => by cases h) ha hb)
theorem ftcmpL {op : CmpOp} (hmk : behindInMarks op b = false) (ho : DOp X .cl (compareOp op) r) (ha : DE X κ true .lo a Ea) (hb : DE X κ true .lo b Eb) : DT X κ true (.Compare a [op] [b] pos) (eTest (eOp r Ea Eb)) := dtcmp hmk ho vlo vlo (fun h => rfl) ha hb
theorem fchain {op op' : CmpOp} (hmk : lastMarks [op, op'] [b, c] = false) (ho : DOp X .cl (compareOp op) r) (ho' : DOp X .cl (compareOp op') r2) (ha : DE X κ pu .cl a Ea) (hb : DE X κ pu .cl b Eb) (hc : DE X κ pu .cl c Ec) : DE X κ pu .cl (.Compare a [op, op'] [b, c] pos) (eChain r r2 Ea Eb Ec) := and3 (P := fun p => DE X κ p .cl _ _) (dchain hmk ho ho' ha hb hc)
theorem fwand (ha : DT X κ pu a C) (hb : DW X κ pu (.BoolOp .And (b :: rest) pos) U) : DW X κ pu (.BoolOp .And (a :: b :: rest) pos) (eAndT C U) := and2 (P := fun p => DW X κ p _ _) (dwand ha hb)
theorem fwor (ha : DT X κ pu a C) (hb : DW X κ pu (.BoolOp .Or (b :: rest) pos) U) : DW X κ pu (.BoolOp .Or (a :: b :: rest) pos) (eOrT C U) := and2 (P := fun p => DW X κ p _ _) (dwor ha hb)
theorem DA.dirty {lo : Bool} (h : DA X κ true lo es A) : DA X κ false lo es A := ⟨h.h.weak fun σ H Q ⟨G, O, ρ, q, hE, hq, k⟩ => ⟨G, O, ρ, q, hE, hq, fun vs H' ds ρ' O' s e' r p z => k vs H' ds ρ' O' s e' r (fun z => absurd z Bool.false_ne_true) z⟩⟩
theorem fanil : DA X κ pu false [] eNil := by
  cases pu with
  | true => exact danil
  | false => exact danil.dirty
theorem fanilL : DA X κ true true [] eNil := ⟨pa_nil.weak fun σ H Q ⟨G, O, ρ, q, hE, hq, k⟩ => k [] H [] ρ O (.refl _ _) hE (by simp only [Reps]) .refl hq⟩
theorem facC (hs : plainE e = true) (ha : DE X κ pu .cl e E) (hr : DA X κ pu false es A) : DA X κ pu false (e :: es) (eCons E A) := and2 (P := fun p => DA X κ p false _ _) (dac hs vcl (fun h => by cases h) ha hr)
theorem facL (hs : plainE e = true) (ha : DE X κ true .lo e E) (hr : DA X κ true true es A) : DA X κ true true (e :: es) (eCons E A) := dac hs vlo (fun h => rfl) ha hr
theorem ftupC {k} (h : DA X κ pu false es A) : DE X κ pu .cl (.Tuple es k pos) (eTup A) := dtup h
theorem ftupL {k} (h : DA X κ true true es A) : DE X κ true .lo (.Tuple es k pos) (eTup A) := dtup h
theorem flstC (h : DA X κ pu false es A) : DE X κ pu (.ow 1) (.List es pos) (eLst A) := dlst h
theorem fixC (hs : PlainIx b) (ho : DIx X r) (ha : DE X κ pu .cl a Ea) (hb : DE X κ pu .cl b Eb) : DE X κ pu .cl (.Subscript a b pos) (eOp r Ea Eb) := and2 (P := fun p => DE X κ p .cl _ _) (dix hs ho vcl vcl (fun h => by cases h) ha hb)
theorem fixL (hs : PlainIx b) (ho : DIx X r) (ha : DE X κ true .lo a Ea) (hb : DE X κ true .lo b Eb) : DE X κ true .lo (.Subscript a b pos) (eOp r Ea Eb) := dix hs ho vlo vlo (fun h => rfl) ha hb
theorem fcbC (hp : (e :: es).all plainE = true) (hn : x ≠ "__name__") (hdb : (x == ("__debug__" : Str)) = false) (hm : md ≠ .lo) (hc : DCall X md (.builtin id) rn) (hg : Gl X x) (hmg : X.mg x = none) (hv : bootBuiltins x = some (.builtin id)) (ha : DA X κ pu false (e :: es) A) : DE X κ pu md (.Call (.Name x p) (e :: es) [] pos) (eCallB rn A) := dcb hp hn hdb hc hm hg hmg hv ha
theorem fcbL (hp : (e :: es).all plainE = true) (hn : x ≠ "__name__") (hdb : (x == ("__debug__" : Str)) = false) (hm : md ≠ .lo) (hc : DCall X md (.builtin id) rn) (hg : Gl X x) (hmg : X.mg x = none) (hv : bootBuiltins x = some (.builtin id)) (ha : DA X κ true true (e :: es) A) : DE X κ true .lo (.Call (.Name x p) (e :: es) [] pos) (eCallB rn A) := dcb hp hn hdb hc hm hg hmg hv ha
theorem fctC (hp : (e :: es).all plainE = true) (hn : x ≠ "__name__") (hdb : (x == ("__debug__" : Str)) = false) (hm : md ≠ .lo) (hc : DCall X md (.type T) rn) (hg : Gl X x) (hmg : X.mg x = none) (hv : bootBuiltins x = some (.type T)) (ha : DA X κ pu false (e :: es) A) : DE X κ pu md (.Call (.Name x p) (e :: es) [] pos) (eCallB rn A) := dct hp hn hdb hc hm hg hmg hv ha
theorem fctL (hp : (e :: es).all plainE = true) (hn : x ≠ "__name__") (hdb : (x == ("__debug__" : Str)) = false) (hm : md ≠ .lo) (hc : DCall X md (.type T) rn) (hg : Gl X x) (hmg : X.mg x = none) (hv : bootBuiltins x = some (.type T)) (ha : DA X κ true true (e :: es) A) : DE X κ true .lo (.Call (.Name x p) (e :: es) [] pos) (eCallB rn A) := dct hp hn hdb hc hm hg hmg hv ha
variable {sd : List D → (D → Prop) → Prop} {CX : CXT} {k : Nat} {g : Addr} {fd : FuncData} {ps : List Str} {Ex : XK}
def eLen (n : Nat) (A : DTA) : DTA := fun ρ q => A ρ fun ds ρ' => ds.length = n ∧ q ds ρ'
theorem fclC {np : Nat} (hp : (e :: es).all plainE = true) (hdb : (x == ("__debug__" : Str)) = false) (hmd : md ≠ .lo) (F : FnOk X.prog X.w X.K X.mg X.base CX k g fd ps (spP X.K np md sd)) (hn : np = ps.length) (hlen : (e :: es).length = ps.length) (hr : Room k X.A) (hg : Gl X x) (hm : X.mg x = some (.ref g)) (hk : PySem.W.keepIn X.K (.ref g) = true) (hb : Binds X.K fd ps []) (hx : Passes CX X Ex)
    (ha : DA X κ pu false (e :: es) A) : DE X κ pu md (.Call (.Name x p) (e :: es) [] pos) (eCall sd (eLen np A)) := by
  subst hn
  exact dcl hp hdb F hr hg hm hk hb hx hlen hmd ha
theorem fclx {np i j n : Nat} {sx : List D → (D → D → Prop) → Prop} (hp : (e :: es).all plainE = true) (hdb : (x == ("__debug__" : Str)) = false) (F : FnOk X.prog X.w X.K X.mg X.base CX k g fd ps (spX X.K np j n md sx)) (hn : np = ps.length) (hr : Room k X.A) (hg : Gl X x) (hm : X.mg x = some (.ref g)) (hk : PySem.W.keepIn X.K (.ref g) = true) (hb : Binds X.K fd ps []) (hx : Passes CX X Ex)
    (hdep : dep (kd κ i) = some n) (hmd : md = .cl ∨ ∃ m, md = .ow m) (ha : DAx X κ i j (e :: es) A) : DE X κ false md (.Call (.Name x p) (e :: es) [] pos) (eCallX κ i np sx A) := by
  subst hn
  exact dclx hp hdb F hr hg hm hk hb hx hdep hmd ha
variable {lo hi : Option Expr} {El Eh : DTO} {rs : D → Option Int → Option Int → (D → Prop) → Prop}
theorem DO.dirty (h : DO X κ true lo El) : DO X κ false lo El := ⟨h.h.weak fun σ H Q ⟨G, O, ρ, q, hE, hq, k⟩ => ⟨G, O, ρ, q, hE, hq, fun o H' ρ' O' s e' p z => k o H' ρ' O' s e' (fun z => absurd z Bool.false_ne_true) z⟩⟩
theorem fono : DO X κ pu none eONone := by
  cases pu with
  | true => exact dono
  | false => exact dono.dirty
theorem fslC (hm : md ≠ .lo) (hr : DSl X md rs) (he : DE X κ pu .cl e E) (hl : DO X κ pu lo El) (hh : DO X κ pu hi Eh) : DE X κ pu md (.Subscript e (.Slice lo hi none p) pos) (eSl rs E El Eh) := and3 (P := fun p => DE X κ p md _ _) (dsl hr vcl (fun h => by cases h) hm he hl hh)
def sRetO (i : Nat) : DTS := fun De ρ => ∃ d, ρ[i]? = some (some d) ∧ De.rt d (ρ.set i none)
theorem dretO {i n : Nat} (hlo : ∀ j, kd κ j ≠ .lo) (hk : kd κ i = .ow n) (hN : X.N[i]? = some x) (hv : Vis X.env.scope x) (hd : (x == ("__debug__" : Str)) = false) (hcd : (x == ("__classdict__" : Str)) = false) : DS X κ (.ow n) (.Return (some (.Name x p)) pos) (sRetO i) := by
  refine ⟨(ps_ret (pe_var hN hv hd hcd)).weak fun Dn σ H ⟨G, O, ρ, De, hE, ⟨d, e1, hq⟩, nx, bk, ct, rt⟩ => ?_⟩
  obtain ⟨F, f⟩ := id hE
  obtain ⟨v, h1, h2⟩ := f.slot i d e1
  rw [hk] at h2
  refine ⟨v, h1, rt v H d (ρ.set i none) (OF (setF F i [])) (F i) σ ⟨setF F i [], by simp [f.len], fun a => Iff.rfl, fun j hn => ?_, fun j k a ha hb => ?_, fun j => ?_, fun j a ha => ?_, fun j a ha => ?_, f.par, fun p hp => ?_, fun a z => ?_, f.keep, f.dom, fun j dj ej => ?_⟩ ⟨f.nd i, fun a ha => ⟨?_, fun ⟨j, z⟩ => ?_, (f.mu i a ha).2⟩, ?_⟩ hq⟩
  · by_cases hj : j = i
    · rw [hj, setF_at]
    · rw [setF_ne hj]; exact f.non j hn
  · by_cases hj : j = i
    · rw [hj, setF_at] at ha; exact absurd ha (by simp)
    · rw [setF_ne hj] at ha
      by_cases hk' : k = i
      · rw [hk', setF_at] at hb; exact absurd hb (by simp)
      · rw [setF_ne hk'] at hb; exact f.dis j k a ha hb
  · by_cases hj : j = i
    · rw [hj, setF_at]; simp
    · rw [setF_ne hj]; exact f.nd j
  · by_cases hj : j = i
    · rw [hj, setF_at] at ha; exact absurd ha (by simp)
    · rw [setF_ne hj] at ha
      exact ⟨fun z => z.elim (f.mu j a ha).1 fun z => hj (f.dis j i a ha z), (f.mu j a ha).2⟩
  · by_cases hj : j = i
    · rw [hj, setF_at] at ha; exact absurd ha (by simp)
    · rw [setF_ne hj] at ha; exact f.new j a ha
  · refine Rep.go (.less fun a z => ?_) _ _ (f.gh p hp)
    rcases z with (z | z) | ⟨j, z⟩
    · exact .inl z
    · exact .inr ((f.own a).mpr ⟨i, z⟩)
    · by_cases hj : j = i
      · rw [hj, setF_at] at z; exact absurd z (by simp)
      · rw [setF_ne hj] at z; exact .inr ((f.own a).mpr ⟨j, z⟩)
  · rcases z with z | z
    · exact f.s0 a z
    · obtain ⟨_, o, eo, _⟩ := f.mu i a z; rw [eo]; simp
  · have hj : j ≠ i := by
      rintro rfl
      have hl : j < ρ.length := by
        have := (List.getElem?_eq_some_iff.mp ej).1
        simpa using this
      rw [List.getElem?_set_self hl] at ej; cases ej
    rw [List.getElem?_set_ne (Ne.symm hj)] at ej
    obtain ⟨u, e3, e4⟩ := f.slot j dj ej
    refine ⟨u, e3, ?_⟩
    rw [setF_ne hj]
    have le : ∀ a, uni (uni G.S0 (fpS (F i))) (OF (setF F i [])) a → uni G.S0 O a := fun a z => by
      rcases z with (z | z) | ⟨j, z⟩
      · exact .inl z
      · exact .inr ((f.own a).mpr ⟨i, z⟩)
      · by_cases hj : j = i
        · rw [hj, setF_at] at z; exact absurd z (by simp)
        · rw [setF_ne hj] at z; exact .inr ((f.own a).mpr ⟨j, z⟩)
    cases q : kd κ j with
    | cl => rw [q] at e4; exact Rep.go (.less le) dj u e4
    | ow m => rw [q] at e4; exact Own.go (.less le) m _ dj u (fun _ _ _ h => h) e4
    | io m => rw [q] at e4; exact Own.go (.less le) m _ dj u (fun _ _ _ h => h) e4
    | lo =>
      -- a loose place beside: forgotten
      exact (hlo j q).elim
  · rcases f.new i a ha with ⟨⟨m, z⟩, _⟩ | z
    · rw [hk] at z; cases z
    · exact z
  · by_cases hj : j = i
    · rw [hj, setF_at] at z; exact absurd z (by simp)
    · rw [setF_ne hj] at z; exact hj (f.dis j i a z ha)
  · refine Own.go (.less fun a z => ?_) n _ d v (fun _ _ _ h => h) h2
    rcases z with (z | z) | ⟨j, z⟩
    · exact .inl z
    · exact .inr ((f.own a).mpr ⟨i, z⟩)
    · by_cases hj : j = i
      · rw [hj, setF_at] at z; exact absurd z (by simp)
      · rw [setF_ne hj] at z; exact .inr ((f.own a).mpr ⟨j, z⟩)
end
def noIoB (κ : List SK) : Bool := κ.all fun k => match k with | .io _ => false | _ => true
def noLoB (κ : List SK) : Bool := κ.all fun k => decide (k ≠ .lo)
theorem kd_mem {κ : List SK} {i : Nat} {s : SK} (h : kd κ i = s) (hs : s ≠ .cl) : s ∈ κ := by
  unfold kd at h
  rw [List.getD_eq_getElem?_getD] at h
  cases e : κ[i]? with
  | none => rw [e] at h; exact absurd h.symm hs
  | some k => rw [e] at h; rw [← (show k = s from h)]; exact List.mem_of_getElem? e
theorem noIo_of {κ : List SK} (h : noIoB κ = true) : ∀ i n, kd κ i ≠ .io n := fun i n e => by
  have := List.all_eq_true.mp h _ (kd_mem e (by simp))
  cases this
theorem noLo_of {κ : List SK} (h : noLoB κ = true) : ∀ j, kd κ j ≠ .lo := fun j e => by
  have := List.all_eq_true.mp h _ (kd_mem e (by simp))
  simp at this
def clB (κ : List SK) (n : Nat) (j : Option Nat) : Bool := (List.range n).all fun i => decide (some i = j) || decide (kd κ i = .cl)
theorem cl_of {κ : List SK} {n : Nat} (h : clB κ n none = true) : ∀ i, i < n → kd κ i = .cl := fun i hi => by
  have := List.all_eq_true.mp h i (List.mem_range.mpr hi)
  simpa using this
theorem clx_of {κ : List SK} {n j : Nat} (h : clB κ n (some j) = true) : ∀ i, i < n → i ≠ j → kd κ i = .cl := fun i hi hj => by
  have := List.all_eq_true.mp h i (List.mem_range.mpr hi)
  simpa [hj] using this
def ioB (κ : List SK) (j : Nat) : Bool := (List.range κ.length).all fun i => decide (i = j) || match kd κ i with | .io _ => false | _ => true
theorem io_of {κ : List SK} {j : Nat} (h : ioB κ j = true) : ∀ i m, i ≠ j → kd κ i ≠ .io m := fun i m hj e => by
  have hi : i < κ.length := by
    apply Decidable.byContradiction
    intro hn
    unfold kd at e
    rw [List.getD_eq_getElem?_getD, List.getElem?_eq_none_iff.mpr (by omega)] at e
    cases e
  have := List.all_eq_true.mp h i (List.mem_range.mpr hi)
  rw [e] at this
  simp [hj] at this
def kcB (κc : List SK) (pI : Nat) : Bool := (List.range κc.length).all fun i => decide (i = pI) || decide (kd κc i = .cl)
theorem kc_of {κc : List SK} {pI : Nat} (h : kcB κc pI = true) : ∀ p, p ≠ pI → kd κc p = .cl := fun p hp => by
  by_cases hi : p < κc.length
  · have := List.all_eq_true.mp h p (List.mem_range.mpr hi)
    simpa [hp] using this
  · unfold kd
    rw [List.getD_eq_getElem?_getD, List.getElem?_eq_none_iff.mpr (by omega)]
    rfl
def capB (κ : List SK) (js : List (Option Nat)) : Bool := js.all fun j => match j with | some i => decide (kd κ i = .cl) | none => true
theorem cap_of {κ : List SK} {js : List (Option Nat)} (h : capB κ js = true) : ∀ j ∈ js, ∀ i, j = some i → kd κ i = .cl := fun j hj i e => by
  have := List.all_eq_true.mp h j hj
  subst e
  simpa using this
def capxB (κ : List SK) (js : List (Option Nat)) (pI : Nat) : Bool := (List.range js.length).all fun p => decide (p = pI) || match js[p]? with | some (some i) => decide (kd κ i = .cl) | _ => true
theorem capx_of {κ : List SK} {js : List (Option Nat)} {pI : Nat} (h : capxB κ js pI = true) : ∀ p j, p ≠ pI → js[p]? = some (some j) → kd κ j = .cl := fun p j hp e => by
  have hi : p < js.length := (List.getElem?_eq_some_iff.mp e).1
  have := List.all_eq_true.mp h p (List.mem_range.mpr hi)
  rw [e] at this
  simpa [hp] using this
def eNeg (E : DTE) : DTE := fun ρ q => E ρ fun x ρ1 => ∃ i, x = .int i ∧ q (.int (-i)) ρ1
theorem fneg {X : Cx} {κ : List SK} {pu : Bool} {a : Expr} {pos : Pos} {Ea : DTE} (ha : DE X κ pu .cl a Ea) : DE X κ pu .cl (.UnaryOp .USub a pos) (eNeg Ea) := dneg ha
def BodyP (B : DTS) (n np : Nat) (md : SK) (sd : List D → (D → Prop) → Prop) : Prop := ∀ ds q, ds.length = np → sd ds q → B { nx := fun _ => md = .cl ∧ q .non, rt := fun d _ => q d } (startD n ds)
def BodyX (B : DTS) (n np j : Nat) (md : SK) (sd : List D → (D → D → Prop) → Prop) : Prop := ∀ ds q, ds.length = np → sd ds q → B { nx := fun ρ => md = .cl ∧ ∃ d', ρ[j]? = some (some d') ∧ q .non d', rt := fun d ρ => ∃ d', ρ[j]? = some (some d') ∧ q d d' } (startD n ds)
abbrev oAdd : DR2 := oI0 fun i j => .int (i + j)
abbrev oSub : DR2 := oI0 fun i j => .int (i - j)
abbrev oMul : DR2 := oI IntMulOk fun i j => .int (i * j)
abbrev oMod : DR2 := oI (fun _ j => 0 < j) fun i j => .int (i % j)
abbrev oFdiv : DR2 := oI CDiv fun i j => .int (i / j)
abbrev oPow : DR2 := oI CPow fun i j => .int (i ^ j.toNat)
abbrev oLt : DR2 := oI0 fun i j => .bl (decide (i < j))
abbrev oLe : DR2 := oI0 fun i j => .bl (decide (i ≤ j))
abbrev oGt : DR2 := oI0 fun i j => .bl (decide (j < i))
abbrev oGe : DR2 := oI0 fun i j => .bl (decide (j ≤ i))
abbrev oIs : DR2 := fun x y q => y = .non ∧ q (.bl (isNon x))
abbrev oIsnot : DR2 := fun x y q => y = .non ∧ q (.bl (!isNon x))
abbrev oCat : DR2 := fun x y q => ∃ a b, x = .lst a ∧ y = .lst b ∧ a.length + b.length ≤ sizeLine ∧ q (.lst (a ++ b))
abbrev oRep : DR2 := fun x y q => ∃ a k, x = .lst a ∧ y = .int k ∧ -(2 ^ 63) ≤ k ∧ k < 2 ^ 63 ∧ a.length * k.toNat ≤ sizeLine ∧ q (.lst (List.replicate k.toNat a).flatten)
abbrev xL : DR2 := fun x y q => ∃ l i d, x = .lst l ∧ y = .int i ∧ atI l i = some d ∧ q d
abbrev xT : DR2 := fun x y q => ∃ l i d, x = .tup l ∧ y = .int i ∧ atI l i = some d ∧ q d
abbrev xS : DR2 := fun x y q => ∃ z i c, x = .str z ∧ y = .int i ∧ z.length ≤ sizeLine ∧ atI z.cps.toList i = some c ∧ q (.str ⟨#[c]⟩)
abbrev xScr : DR2 := fun x y q => ∃ ns i n, x = .scr ns ∧ y = .int i ∧ atI ns i = some n ∧ q (.int n)
abbrev cAbs : DRn := fun ds q => ∃ i, ds = [.int i] ∧ q (.int (if i < 0 then -i else i))
abbrev cMin2 : DRn := fun ds q => ∃ i j, ds = [.int i, .int j] ∧ q (.int (if j < i then j else i))
abbrev cMax2 : DRn := fun ds q => ∃ i j, ds = [.int i, .int j] ∧ q (.int (if j > i then j else i))
abbrev cIsi : DRn := fun ds q => ∃ d c, ds = [d, .ty c] ∧ noDct d = true ∧ c ∈ ["bool", "int", "str", "list", "tuple"] ∧ q (.bl (isB (tyD d) c))
abbrev cTuple : DRn := fun ds q => ∃ l, (ds = [.lst l] ∨ ds = [.tup l]) ∧ q (.tup l)
abbrev cAll : DRn := fun ds q => ∃ bs : List Bool, ds = [.lst (bs.map D.bl)] ∧ q (.bl (bs.all id))
abbrev slL : D → Option Int → Option Int → (D → Prop) → Prop := fun x lo hi q => ∃ l, x = .lst l ∧ q (.lst (cutD l lo hi))
theorem room12 {k : Nat} {A : Around} (hr : Room k A) : A.units + 12 < cLine := Nat.lt_of_le_of_lt (Nat.add_le_add_left (by decide : 12 ≤ 64) _) hr.units
theorem dgstr {X : Cx} {κ : List SK} {x z : Str} {pos : Pos} (hd : (x == ("__debug__" : Str)) = false) (hg : Gl X x) (hm : ∃ tk, X.mg x = some (.str z tk)) : DE X κ true .cl (.Name x pos) (eC (.str z)) := by
  obtain ⟨tk, hm⟩ := hm
  exact dglob hd hg ⟨.str z, _, hm, ⟨tk, rfl⟩, fun _ _ => by simp only [Rep]⟩
theorem forGo_inv {g : DTG} {T : DTS} {De : DEnds} (Pv : Nat → EnvD → Prop) : ∀ (ds : List D) (ρ : EnvD) (k : Nat), Pv k ρ →
    (∀ i d ρ, ds[i]? = some d → Pv (k + i) ρ → g d ρ fun ρ2 => T { De with nx := Pv (k + i + 1), ct := Pv (k + i + 1), bk := De.nx } ρ2) → (∀ ρ, Pv (k + ds.length) ρ → De.nx ρ) → forGo g T De ds ρ
  | [], ρ, k, h0, _, hd => hd ρ (by simpa using h0)
  | d :: ds, ρ, k, h0, hs, hd => by
    refine ⟨Pv (k + 1), fun ρ' hp => forGo_inv Pv ds ρ' (k + 1) hp (fun i d' ρ2 e p => ?_) (fun ρ2 p => hd ρ2 ?_), hs 0 d ρ rfl h0⟩
    · have := hs (i + 1) d' ρ2 (by simpa using e) (by rw [← Nat.add_assoc, Nat.add_right_comm]; exact p)
      rw [← Nat.add_assoc, Nat.add_right_comm k i 1] at this
      exact this
    · rw [List.length_cons, ← Nat.add_assoc, Nat.add_right_comm]
      exact p
theorem forI {g : DTG} {T : DTS} {De : DEnds} {ds : List D} {ρ : EnvD} (Pv : Nat → EnvD → Prop) (h0 : Pv 0 ρ) (hs : ∀ i d ρ, ds[i]? = some d → Pv i ρ → g d ρ fun ρ2 => T { De with nx := Pv (i + 1), ct := Pv (i + 1), bk := De.nx } ρ2) (hd : ∀ ρ, Pv ds.length ρ → De.nx ρ) : forGo g T De ds ρ :=
  forGo_inv Pv ds ρ 0 h0 (fun i d ρ e p => by rw [Nat.zero_add] at p ⊢; exact hs i d ρ e p) (fun ρ p => hd ρ (by rw [Nat.zero_add] at p; exact p))
theorem compGo_inv {g : DTG} {C : DTT} {E : DTE} {q : List D → EnvD → Prop} (Pv : Nat → List D → EnvD → Prop) : ∀ (ds acc : List D) (ρ : EnvD) (k : Nat), Pv k acc ρ →
    (∀ i d acc ρ, ds[i]? = some d → Pv (k + i) acc ρ → g d ρ fun ρ1 => C ρ1 fun b ρ2 => if b = true then E ρ2 fun z ρ3 => acc.length < sizeLine ∧ Pv (k + i + 1) (acc ++ [z]) ρ3 else Pv (k + i + 1) acc ρ2) → (∀ acc ρ, Pv (k + ds.length) acc ρ → q acc ρ) → compGo g C E ds acc ρ q
  | [], acc, ρ, k, h0, _, hd => hd acc ρ (by simpa using h0)
  | d :: ds, acc, ρ, k, h0, hs, hd => by
    refine ⟨Pv (k + 1), fun acc' ρ' hp => compGo_inv Pv ds acc' ρ' (k + 1) hp (fun i d' acc2 ρ2 e p => ?_) (fun acc2 ρ2 p => hd acc2 ρ2 ?_), hs 0 d acc ρ rfl h0⟩
    · have := hs (i + 1) d' acc2 ρ2 (by simpa using e) (by rw [← Nat.add_assoc, Nat.add_right_comm]; exact p)
      rw [← Nat.add_assoc, Nat.add_right_comm k i 1] at this
      exact this
    · rw [List.length_cons, ← Nat.add_assoc, Nat.add_right_comm]
      exact p
theorem compI {g : DTG} {C : DTT} {E : DTE} {q : List D → EnvD → Prop} {ds acc : List D} {ρ : EnvD} (Pv : Nat → List D → EnvD → Prop) (h0 : Pv 0 acc ρ)
    (hs : ∀ i d acc ρ, ds[i]? = some d → Pv i acc ρ → g d ρ fun ρ1 => C ρ1 fun b ρ2 => if b = true then E ρ2 fun z ρ3 => acc.length < sizeLine ∧ Pv (i + 1) (acc ++ [z]) ρ3 else Pv (i + 1) acc ρ2) (hd : ∀ acc ρ, Pv ds.length acc ρ → q acc ρ) : compGo g C E ds acc ρ q :=
  compGo_inv Pv ds acc ρ 0 h0 (fun i d acc ρ e p => by rw [Nat.zero_add] at p ⊢; exact hs i d acc ρ e p) (fun acc ρ p => hd acc ρ (by rw [Nat.zero_add] at p; exact p))
theorem compGo2_inv {g : DTG} {C : DTT} {I2 : DTI} {g2 : DTG} {C2 : DTT} {E : DTE} {q : List D → EnvD → Prop} (Pv : Nat → List D → EnvD → Prop) : ∀ (ds acc : List D) (ρ : EnvD) (k : Nat), Pv k acc ρ →
    (∀ i d acc ρ, ds[i]? = some d → Pv (k + i) acc ρ → g d ρ fun ρ1 => C ρ1 fun b ρ2 => if b = true then I2 ρ2 fun ds2 ρ3 => compGo g2 C2 E ds2 acc ρ3 (Pv (k + i + 1)) else Pv (k + i + 1) acc ρ2) → (∀ acc ρ, Pv (k + ds.length) acc ρ → q acc ρ) → compGo2 g C I2 g2 C2 E ds acc ρ q
  | [], acc, ρ, k, h0, _, hd => hd acc ρ (by simpa using h0)
  | d :: ds, acc, ρ, k, h0, hs, hd => by
    refine ⟨Pv (k + 1), fun acc' ρ' hp => compGo2_inv Pv ds acc' ρ' (k + 1) hp (fun i d' acc2 ρ2 e p => ?_) (fun acc2 ρ2 p => hd acc2 ρ2 ?_), hs 0 d acc ρ rfl h0⟩
    · have := hs (i + 1) d' acc2 ρ2 (by simpa using e) (by rw [← Nat.add_assoc, Nat.add_right_comm]; exact p)
      rw [← Nat.add_assoc, Nat.add_right_comm k i 1] at this
      exact this
    · rw [List.length_cons, ← Nat.add_assoc, Nat.add_right_comm]
      exact p
theorem compI2 {g : DTG} {C : DTT} {I2 : DTI} {g2 : DTG} {C2 : DTT} {E : DTE} {q : List D → EnvD → Prop} {ds acc : List D} {ρ : EnvD} (Pv : Nat → List D → EnvD → Prop) (h0 : Pv 0 acc ρ)
    (hs : ∀ i d acc ρ, ds[i]? = some d → Pv i acc ρ → g d ρ fun ρ1 => C ρ1 fun b ρ2 => if b = true then I2 ρ2 fun ds2 ρ3 => compGo g2 C2 E ds2 acc ρ3 (Pv (i + 1)) else Pv (i + 1) acc ρ2) (hd : ∀ acc ρ, Pv ds.length acc ρ → q acc ρ) : compGo2 g C I2 g2 C2 E ds acc ρ q :=
  compGo2_inv Pv ds acc ρ 0 h0 (fun i d acc ρ e p => by rw [Nat.zero_add] at p ⊢; exact hs i d acc ρ e p) (fun acc ρ p => hd acc ρ (by rw [Nat.zero_add] at p; exact p))
def sd_law : List D → (D → Prop) → Prop := fun ds q => ∃ ns, ds = [.scr ns] ∧ ns.length ≤ 63 ∧ q (.bl true)
theorem spLaw {K : PySem.W.Frag} {H : Hp} {a : Addr} {ns : List Int} (hl : ns.length ≤ 63) (hO : Only H) (hS : SqL K H a (ns.map V.int)) : spP K 1 .cl sd_law [.ref a] H (fun v _ => v = .bl true) fun _ _ _ => False := by
  refine ⟨fun _ => False, [.scr ns], fun d => d = .bl true, rfl, fun _ z => z.elim, ?_, ⟨ns, rfl, hl, rfl⟩, fun v H' d fp sm vr hq => ?_⟩
  · simp only [Reps, Rep]
    refine ⟨_, [], rfl, ⟨a, rfl, ?_⟩, rfl⟩
    rcases hS with (h | ⟨o, h⟩) | h
    · rcases hO a with z | ⟨o, xs, z⟩ <;> (rw [z] at h; cases h)
    · exact .inl ⟨o, h⟩
    · exact .inr h
  · subst hq
    exact rep_bl vr.2
end L2
namespace L2
open PySem PySem.Spec PyProof.Rows PySem.Builtin.Str
theorem compY {g : DTG} {E : DTE} {q : List D → EnvD → Prop} {ds acc : List D} {ρ : EnvD} (Pv : Nat → List D → EnvD → Prop) (h0 : Pv 0 acc ρ)
    (hs : ∀ i d acc ρ, ds[i]? = some d → Pv i acc ρ → g d ρ fun ρ1 => E ρ1 fun z ρ3 => acc.length < sizeLine ∧ Pv (i + 1) (acc ++ [z]) ρ3) (hd : ∀ acc ρ, Pv ds.length acc ρ → q acc ρ) : compGo g eYes E ds acc ρ q :=
  compI (g := g) (C := eYes) (E := E) (ds := ds) Pv h0 (fun i d acc ρ e p => by
    have e2 : (fun ρ1 => eYes ρ1 fun b ρ2 => if b = true then E ρ2 fun z ρ3 => acc.length < sizeLine ∧ Pv (i + 1) (acc ++ [z]) ρ3 else Pv (i + 1) acc ρ2) = fun ρ1 => E ρ1 fun z ρ3 => acc.length < sizeLine ∧ Pv (i + 1) (acc ++ [z]) ρ3 := by
      funext ρ1
      simp only [eYes, if_true]
    rw [e2]
    exact hs i d acc ρ e p) hd
theorem compY2 {g : DTG} {I2 : DTI} {g2 : DTG} {C2 : DTT} {E : DTE} {q : List D → EnvD → Prop} {ds acc : List D} {ρ : EnvD} (Pv : Nat → List D → EnvD → Prop) (h0 : Pv 0 acc ρ)
    (hs : ∀ i d acc ρ, ds[i]? = some d → Pv i acc ρ → g d ρ fun ρ1 => I2 ρ1 fun ds2 ρ3 => compGo g2 C2 E ds2 acc ρ3 (Pv (i + 1))) (hd : ∀ acc ρ, Pv ds.length acc ρ → q acc ρ) : compGo2 g eYes I2 g2 C2 E ds acc ρ q :=
  compI2 (g := g) (C := eYes) (I2 := I2) (g2 := g2) (C2 := C2) (E := E) (ds := ds) Pv h0 (fun i d acc ρ e p => by
    have e2 : (fun ρ1 => eYes ρ1 fun b ρ2 => if b = true then I2 ρ2 fun ds2 ρ3 => compGo g2 C2 E ds2 acc ρ3 (Pv (i + 1)) else Pv (i + 1) acc ρ2) = fun ρ1 => I2 ρ1 fun ds2 ρ3 => compGo g2 C2 E ds2 acc ρ3 (Pv (i + 1)) := by
      funext ρ1
      simp only [eYes, if_true]
    rw [e2]
    exact hs i d acc ρ e p) hd
end L2
namespace L2
open PySem PySem.Spec PyProof.Rows
def Itd (d : Addr) (o : Obj) (kvs : List (Key × V)) : It :=
  ⟨fun i H => H d = some (.frz o (.dK kvs)) ∧ i < kvs.length, fun i H x H' => H' = H ∧ ∃ kv, kvs[i]? = some kv ∧ x = kV kv.1, fun i H => H d = some (.frz o (.dK kvs)) ∧ kvs.length ≤ i⟩
theorem relK {k : Key} {u : Value} (h : keyIs k u = true) : RelV (kV k) u := by
  rcases keyIs_shape h with ⟨i, t, rfl, rfl⟩ | ⟨x, t, rfl, rfl⟩
  · exact ⟨t, rfl⟩
  · exact ⟨t, rfl⟩
theorem KV.nth {kvs : List (Key × V)} {vs : List (Key × Value)} (r : KV kvs vs) : ∀ {i : Nat} {kv : Key × V}, kvs[i]? = some kv → ∃ u, vs[i]? = some (kv.1, u) := by
  unfold KV at r
  induction r with
  | nil => intro i kv h; simp at h
  | @cons p q ps qs h t ih =>
    intro i kv hk
    cases i with
    | zero => simp at hk; subst hk; exact ⟨q.2, by simp [h.1]⟩
    | succ j => simp only [List.getElem?_cons_succ] at hk ⊢; exact ih hk
theorem KV.len {kvs : List (Key × V)} {vs : List (Key × Value)} (r : KV kvs vs) : kvs.length = vs.length := by
  unfold KV at r
  induction r with
  | nil => rfl
  | cons h t ih => simp [ih]
theorem frz_at {P : Program} {w : World} {H : Hp} {h : Heap} {d : Addr} {o : Obj} {kvs : List (Key × V)} {es : Array DictEntry} {ep : Nat} (ok : HOk P w H h) (e : H d = some (.frz o (.dK kvs))) (ed : o.data = .dict es ep) :
    (d == sysModules) = false ∧ ∃ vs, KV kvs vs ∧ h.DictAt (mixKind P w) d vs ep := by
  obtain ⟨z1, z2, z3, vs, r, o', es', ep', h1, h2, h3, h4⟩ := (show ObjOk P w H h d (.frz o (.dK kvs)) from ok d _ e)
  rw [z1] at h1; cases h1
  rw [ed] at h3; cases h3
  exact ⟨z3, vs, r, o, es, z1, h2, ed, h4⟩
theorem turn_dk {P : Program} {w : World} {K : PySem.W.Frag} {tg : Expr} (d it : Addr) (o : Obj) (kvs : List (Key × V)) (es : Array DictEntry) (ep : Nat) (ed : o.data = .dict es ep) : Turn P w K tg (Itd d o kvs) [it] it (fun i h => h.IsKeyIter it d i kvs.length ep) where
  mem := by simp
  obj := fun i h st b hb => by
    obtain rfl : b = it := by simpa using hb
    obtain ⟨o, e, c, z⟩ := st
    exact ⟨o, e, fun v q => by rw [z] at q; cases q⟩
  keep := fun i h h' st k => st.at fun o e => k it (by simp) o e
  item := by
    intro X hP hw hK hc i pins s σ H E I hf st hg
    subst hP hw hK
    obtain ⟨g1, g2⟩ := hg
    obtain ⟨_, vs, r, m⟩ := frz_at I.hok g1 ed
    obtain ⟨u, hu⟩ := r.nth (i := i) (List.getElem?_eq_getElem g2)
    obtain ⟨f0, f1, f2, f3, f4, f5⟩ := hf it (by simp)
    rw [r.len] at st
    refine wpAny_pyNext_dict_item st m hu fun key h' hkey st' sb => ?_
    have I1 : Inv X pins σ H { s with heap := h' } := I.turned (t' := s.toks) (fun b o hb e => (sb.2 b hb).trans e) f0 f1 f3 f4 f5
    obtain ⟨ob, e, c, z⟩ := id st'
    exact ⟨key, rfl, go_of (s := { s with heap := h' }) e c z (by decide) ⟨_, H, I1, relK hkey, ⟨rfl, _, List.getElem?_eq_getElem g2, rfl⟩, by rw [r.len]; exact st', fun b hb => (hf b hb).1⟩⟩
  done := by
    intro X hP hw hK hc i pins s σ H E I hf st hg
    subst hP hw hK
    obtain ⟨g1, g2⟩ := hg
    obtain ⟨_, vs, r, m⟩ := frz_at I.hok g1 ed
    obtain ⟨f0, f1, f2, f3, f4, f5⟩ := hf it (by simp)
    rw [r.len] at st g2
    exact wpAny_pyNext_dict_end (I.ok.hd hc) st m (List.getElem?_eq_none_iff.mpr g2) fun h' eb => ⟨rfl, I.turned (t' := s.toks) (fun b o hb e => eb b o hb e) f0 f1 f3 f4 f5⟩
  self := fun _ _ _ _ _ st h => wpAny_pyIter_keyiter st h
def keyD : Key → D
  | .inl i => .int i
  | .inr x => .str x
theorem keyD_rep {K : PySem.W.Frag} {S : Addr → Prop} {H : Hp} {k : Key} {v : V} : Rep K S H (keyD k) v ↔ v = kV k := by
  cases k <;> simp only [keyD, Rep] <;> exact Iff.rfl
theorem itok_dk {K : PySem.W.Frag} {S : Addr → Prop} {H : Hp} {a : Addr} {o : Obj} {kvs : List (Key × V)} {ks : List Key} (hk : kvs.map (·.1) = ks) (h : H a = some (.frz o (.dK kvs))) : ItOk K S H (Itd a o kvs) (ks.map keyD) := by
  refine ⟨.fz o (.dK kvs), .ref a, by simp only [Rep]; exact ⟨a, rfl, h⟩, fun S H' q i => ?_⟩
  simp only [Rep] at q
  obtain ⟨b, eb, q⟩ := q
  cases eb
  subst hk
  rw [List.map_map, List.getElem?_map]
  refine ⟨fun d e => ?_, fun e => ⟨q, ?_⟩⟩
  · obtain ⟨kv, e1, e2⟩ := Option.map_eq_some_iff.mp e
    refine ⟨⟨q, (List.getElem?_eq_some_iff.mp e1).1⟩, fun x H'' ⟨eH, kv', e3, ex⟩ => ?_⟩
    subst eH
    rw [e1] at e3; cases e3
    refine ⟨.refl _, ?_⟩
    rw [← e2]
    exact keyD_rep.mpr ex
  · exact List.getElem?_eq_none_iff.mp (Option.map_eq_none_iff.mp e)
section
variable {X : Cx} {κ : List SK} {md : SK} {pu : Bool} {tg iter : Expr} {E Ek : DTE} {pos : Pos}
def eNewK : DTE := fun ρ q => q (.dK [] []) ρ
end
theorem room1 {k : Nat} {A : Around} (hr : Room k A) : A.units + 1 < cLine := Nat.lt_of_le_of_lt (Nat.add_le_add_left (by decide : 1 ≤ 64) _) hr.units
def lookD : List Key → List D → Key → Option D
  | k' :: ks, x :: l, k => if k' = k then some x else lookD ks l k
  | _, _, _ => none
theorem lookD_val {K : PySem.W.Frag} {S : Addr → Prop} {H : Hp} {k : Key} {d : D} : ∀ {kvs : List (Key × V)} {l : List D}, Reps K S H l (kvs.map (·.2)) → lookD (kvs.map (·.1)) l k = some d → ∃ v, valV kvs k = some v ∧ Rep K S H d v
  | [], l, _, e => by simp [lookD] at e
  | kv :: kvs, [], h, e => by simp [lookD] at e
  | kv :: kvs, x :: l, h, e => by
    simp only [List.map_cons, Reps] at h
    obtain ⟨u, r, e', h1, h2⟩ := h
    obtain ⟨rfl, rfl⟩ := List.cons.inj e'
    simp only [List.map_cons, lookD] at e
    by_cases z : kv.1 = k
    · rw [if_pos z] at e; cases e
      exact ⟨kv.2, valV_pos z, h1⟩
    · rw [if_neg z] at e
      rw [valV_neg z]
      exact lookD_val h2 e
section
variable {X : Cx}
theorem reps_ints {K : PySem.W.Frag} {S : Addr → Prop} {H : Hp} : ∀ {ns : List Int} {vs : List V}, Reps K S H (ns.map D.int) vs → vs = ns.map V.int
  | [], vs, h => by simpa only [List.map_nil, Reps] using h
  | x :: t, vs, h => by
    simp only [List.map_cons, Reps, Rep] at h
    obtain ⟨v, r, rfl, rfl, h⟩ := h
    rw [reps_ints h]; rfl
variable {κ : List SK} {md m : SK} {pu puo : Bool} {o e : Expr} {Eo E : DTE} {apos cpos pos : Pos}
end
theorem Inv.turnedL {X : Cx} {pins : List (Addr × Obj)} {σ : St} {H : Hp} {s : Shared} {h' : Heap} {tk : Nat} {wr : List Addr} (I : Inv X pins σ H s) (k : ∀ b o, b ∉ wr → s.heap.get? b = some o → h'.get? b = some o) (hf : ∀ b ∈ wr, FpOk X pins H b) : Inv X pins σ H { s with heap := h', toks := tk } := by
  have nw : ∀ b u, H b = some u → b ∉ wr := fun b u e z => by rw [(hf b z).1] at e; cases e
  refine I.call (g' := s.gens) (d' := s.drawn) (ch := wr) ⟨fun b o e n _ hx => k b o hx e, fun b o e n _ hx => ⟨o.slots, k b o hx e⟩, fun b o e n hx => n, fun b o e hx => ⟨o, k b o hx e⟩, fun b ys e => e, fun b o u e => e, fun b ps e => ⟨#[], by rw [e]; simp⟩⟩
    (fun b u e => (I.hok b u e).stay (fun c v hc q => k c v (by
      rcases hc with rfl | hc
      · exact nw _ _ e
      · exact nw _ _ hc) q) (fun _ q => q) fun _ _ q => q) I.bare fun b hb => ?_
  obtain ⟨_, f1, _, f3, f4, f5⟩ := hf b hb
  exact ⟨f3, f1, f4, f5⟩
section
variable {X : Cx} {κ : List SK} {md m : SK} {pu puo : Bool} {o e e2 : Expr} {Eo E E2 : DTE} {apos cpos pos p : Pos} {x : Str} {i : Nat}
theorem mt_extendR : MtM X "list.extend" (fun x vs H Q => ∃ l b xs zs, x = .ref l ∧ vs = [.ref b] ∧ H l = some (.lst xs) ∧ Rd H b (.lst zs) ∧ xs.length + zs.length ≤ sizeLine ∧ Q .non (upd H l (.lst (xs ++ zs)))) := by
  intro pins s σ H x vs v us Q I rx rv h
  obtain ⟨l, b, xs, zs, rfl, rfl, hH, hB, hz, q⟩ := h
  cases rx
  obtain ⟨u, rfl, ru⟩ := rv.one
  cases ru
  obtain ⟨z, its, n, r, hl, e⟩ := I.lstM hH
  obtain ⟨z2, its2, n2, r2, e2⟩ := hB.ok I.hok
  have hl2 := r2.length
  have hsz : its.toArray.size + its2.toArray.size ≤ sizeLine := by rw [List.size_toArray, List.size_toArray]; omega
  have hlong : ¬ (!its.toArray.isEmpty && Builtin.List.listTooLong (its.toArray.size + its2.toArray.size)) = true := by
    rw [notLongL hsz, Bool.and_false]
    exact Bool.false_ne_true
  refine call_meets F.slot_list_extend ⟨_, e, rfl⟩ F.entry_list_extend (F.args_list_extend_2 _ _)
    (AutoSeq1.list_extend_list_list_0 l its.toArray n b its2.toArray n2 hlong (by rw [List.size_toArray]; omega) (by omega)) ⟨e, e2, ?_⟩
  refine ⟨.non, _, I.lset (its' := its ++ its2) hH e (by simp) (r.append r2) ?_, rfl, q⟩
  rw [List.length_append]
  omega
theorem dextend (hs : swapsWith (.Call (.Attribute (.Name x p) "extend" apos) [e] [] cpos) none pos.line X.env = pure false) (hp : plainE e = true) (hline : (apos.endLine == cpos.line) = true) (hbase : attributeBase (.Name x p) "extend" X.env (eval (.Name x p) X.env) = eval (.Name x p) X.env)
    (hN : X.N[i]? = some x) (hv : Vis X.env.scope x) (hd : (x == ("__debug__" : Str)) = false) (hcd : (x == ("__classdict__" : Str)) = false) (hk : dep (kd κ i) = some 1) (he : DE X κ pu .cl e E) : DS X κ md (.Expr (.Call (.Attribute (.Name x p) "extend" apos) [e] [] cpos) pos) (sMut κ i E fExtend) :=
  dmut hs hp hline hbase PySem.F.slot_list_extend PySem.F.type_list_extend mt_extendR hN hv hd hcd hk (fun S H a l vs d v q Q h1 h2 h3 _ ⟨m, em, h4, h5⟩ k => by
    subst em
    simp only [Rep] at h3
    obtain ⟨b, zs, rfl, _, hrd, hr⟩ := h3
    exact ⟨a, b, vs, zs, rfl, rfl, h1, hrd, by rw [h2.len, hr.len]; exact h4, k _ _ (h2.append hr) h5⟩) he
end
section
variable {X : Cx} {κ : List SK} {pu : Bool} {e : Expr} {es : List Expr} {pos p : Pos} {A : DTA} {x : Str}
def noL1 : D → Bool
  | .lst l => noLs l
  | _ => false
theorem VRes.upLO {K : PySem.W.Frag} {G : G0} {O : Addr → Prop} {ρ : EnvD} {σ : St} {H H' : Hp} {fp : List Addr} {d : D} {v : V} (hE : EnvOk K κ G O ρ σ H) (s : Same H H') (h : VRes K G.S0 H H' fp (.ow 1) d v) (hn : noL1 d = true) : EnvOk K κ (G.plus fp) O ρ σ H' ∧ VOk K G.S0 O H H' fp (.ow 1) d v := by
  obtain ⟨nd, h2, h3⟩ := h
  refine ⟨hE.same s fun a ha => ⟨(h2 a ha).1, ?_⟩, nd, fun a ha => ⟨(h2 a ha).1, fun z => ?_, (h2 a ha).2⟩, ?_⟩
  · obtain ⟨_, o, e, _⟩ := h2 a ha; rw [e]; simp
  · obtain ⟨o, e, _⟩ := hE.mutO a z
    rw [(h2 a ha).1] at e; cases e
  · cases d with
    | lst l =>
      obtain ⟨a, vs, rfl, rfl, hH, r⟩ := own1_lst h3
      exact own1_mk hH (Reps.noLs l vs hn r)
    | _ => cases hn
def eNoL1 (E : DTE) : DTE := fun ρ q => E ρ fun d ρ' => noL1 d = true ∧ q d ρ'
variable {sd : List D → (D → Prop) → Prop} {CX : CXT} {k : Nat} {g : Addr} {fd : FuncData} {ps : List Str} {Ex : XK}
end
theorem cat_tup0 {prog : Program} {w : World} {A : Around} {E : Value → Shared → Prop} {s : Shared} {t b : Addr} {ws : List Value} {Q : Value → Shared → Prop} (ht : IsTup s.heap t ([] : List Value).toArray) (hb : IsTup s.heap b ws.toArray) (h1 : Q (.ref b) s) :
    wpAny (model prog w) A (binaryOp .Add (.ref t) (.ref b)) Q E s := by
  obtain ⟨⟨k1, d1, x1, s1⟩, g1, c1, n1, e1⟩ := id ht
  obtain ⟨⟨k2, d2, x2, s2⟩, g2, c2, n2, e2⟩ := id hb
  simp only at c1 e1 c2 e2
  subst c1 e1 c2 e2
  exact concat_meets ⟨_, g1, rfl⟩ ⟨_, g2, rfl⟩ noFill_tuple_add seq_tuple_add PySem.F.slot_tuple_add PySem.F.entry_tuple_add (PySem.F.args_tuple_add_2 _ _) (tuple_addW0 t b _ ws.toArray n1 n2 d1 d2 s1 s2 (by simp)) ⟨g1, g2, h1⟩
section
variable {X : Cx}
theorem op_catT0 : OpR X (binaryOp .Add) (fun x y H Q => ∃ a b ys, x = .ref a ∧ y = .ref b ∧ SqT X.K H a [] ∧ SqT X.K H b ys ∧ Q (.ref b) H) := by
  intro pins s σ H x y v u Q I rx ry h
  obtain ⟨a, b, ys, rfl, rfl, ha, hb, q⟩ := h
  cases rx
  cases ry
  obtain ⟨its, r1, p1, _⟩ := I.tuple ha
  obtain ⟨its2, r2, p2, _⟩ := I.tuple hb
  cases r1
  exact cat_tup0 p1 p2 ⟨.ref b, H, I, rfl, q⟩
abbrev oCatT : DR2 := fun x y q => ∃ a b, x = .tup a ∧ y = .tup b ∧ a.length + b.length ≤ sizeLine ∧ q (.tup (a ++ b))
theorem do_catT : DOp X .cl (binaryOp .Add) oCatT :=
  ⟨⟨_, op_catT.or op_catT0, fun S H dx dy vx vy q Q rx ry ⟨a, b, ex, ey, hl, hq⟩ k => by
    subst ex ey
    simp only [Rep] at rx ry
    obtain ⟨p, xs, rfl, h1, r1⟩ := rx
    obtain ⟨p2, ys, rfl, h2, r2⟩ := ry
    cases a with
    | nil =>
      simp only [Reps] at r1
      subst r1
      exact .inr ⟨p, p2, ys, rfl, rfl, h1, h2, k _ H _ [] (.refl _) ⟨rfl, by simp only [Rep]; exact ⟨p2, ys, rfl, h2, r2⟩⟩ hq⟩
    | cons d a =>
      have hne : xs ≠ [] := by
        intro z; subst z
        have := r1.len
        simp at this
      refine .inl ⟨p, p2, xs, ys, rfl, rfl, h1, h2, hne, by rw [r1.len, r2.len]; exact hl, fun z => ?_, fun z p3 hp => ?_⟩
      · subst z
        have hb : b = [] := List.length_eq_zero_iff.mp (by have := r2.len; simpa using this.symm)
        subst hb
        rw [List.append_nil] at hq
        exact k _ H _ [] (.refl _) ⟨rfl, by simp only [Rep]; exact ⟨p, xs, rfl, h1, r1⟩⟩ hq
      · exact k _ _ _ [] (.new hp) (vres_tup (r1.append r2) hp) hq⟩⟩
end
abbrev KU : List (List Key × Addr × V) → List (List Key × Addr × Value) → Prop := Paired fun p q => p.1 = q.1 ∧ p.2.1 = q.2.1 ∧ RelV p.2.2 q.2.2
def valU (kvs : List (List Key × Addr × V)) (k : List Key) : Option V := (kvs.find? fun e => decide (e.1 = k)).map (·.2.2)
def putU (kvs : List (List Key × Addr × V)) (k : List Key) (b : Addr) (v : V) : List (List Key × Addr × V) :=
  if (kvs.any fun e => decide (e.1 = k)) = true then kvs.map (fun e => if e.1 = k then (e.1, e.2.1, v) else e) else kvs ++ [(k, b, v)]
theorem valU_any (k : List Key) : ∀ kvs : List (List Key × Addr × V), (kvs.any fun e => decide (e.1 = k)) = (valU kvs k).isSome
  | [] => rfl
  | e :: r => by
    rw [List.any_cons, valU_any k r]
    unfold valU
    by_cases h : e.1 = k
    · simp [List.find?_cons, h]
    · simp [List.find?_cons, h]
theorem KU.val {kvs : List (List Key × Addr × V)} {xs : List (List Key × Addr × Value)} (r : KU kvs xs) (k : List Key) : RelO (valU kvs k) ((atKey xs k).map (·.2)) := by
  induction r with
  | nil => exact True.intro
  | @cons p q ps qs h t ih =>
    obtain ⟨h1, _, h2⟩ := h
    by_cases e : p.1 = k
    · have e' : q.1 = k := h1.symm.trans e
      have b : atKey (q :: qs) k = some q.2 := by simp [atKey, List.find?_cons, e']
      have c : valU (p :: ps) k = some p.2.2 := by simp [valU, List.find?_cons, e]
      rw [c, b]; exact h2
    · have e' : ¬ q.1 = k := fun z => e (h1.trans z)
      have b : atKey (q :: qs) k = atKey qs k := by simp [atKey, List.find?_cons, e']
      have c : valU (p :: ps) k = valU ps k := by simp [valU, List.find?_cons, e]
      rw [c, b]; exact ih
theorem KU.repl {kvs : List (List Key × Addr × V)} {xs : List (List Key × Addr × Value)} (r : KU kvs xs) (k : List Key) {y : V} {u : Value} (ry : RelV y u) :
    KU (kvs.map fun e => if e.1 = k then (e.1, e.2.1, y) else e) (xs.map (putAt k u)) := by
  induction r with
  | nil => exact .nil
  | @cons p q ps qs h t ih =>
    rw [List.map_cons, List.map_cons]
    refine .cons ?_ ih
    obtain ⟨h1, h2, h3⟩ := h
    unfold putAt
    by_cases e : p.1 = k
    · rw [if_pos e, if_pos (h1.symm.trans e)]; exact ⟨h1, h2, ry⟩
    · rw [if_neg e, if_neg (fun z => e (h1.trans z))]; exact ⟨h1, h2, h3⟩
theorem KU.put {kvs : List (List Key × Addr × V)} {xs : List (List Key × Addr × Value)} (r : KU kvs xs) (k : List Key) {b : Addr} {y : V} {u : Value} (ry : RelV y u) : KU (putU kvs k b y) (storedH xs k b u) := by
  have e : (kvs.any fun e => decide (e.1 = k)) = (atKey xs k).isSome := by
    rw [valU_any, (r.val k).isSome_eq, Option.isSome_map]
  unfold putU storedH
  rw [e]
  by_cases q : (atKey xs k).isSome = true
  · rw [if_pos q, if_pos q]; exact r.repl k ry
  · rw [if_neg q, if_neg q]; exact Paired.snoc r ⟨rfl, rfl, ry⟩
theorem length_putU (kvs : List (List Key × Addr × V)) (k : List Key) (b : Addr) (v : V) : (putU kvs k b v).length ≤ kvs.length + 1 := by
  unfold putU; split <;> simp
def KsOk (K : PySem.W.Frag) (H : Hp) (kvs : List (List Key × Addr × V)) : Prop := ∀ e ∈ kvs, SqT K H e.2.1 (e.1.map kV)
section
variable {X : Cx} {pins : List (Addr × Obj)} {σ : St} {H : Hp} {s : Shared} {a b : Addr} {k : List Key} {kvs : List (List Key × Addr × V)} {v : V} {r : Value} {A : Around} {E : Value → Shared → Prop}
theorem key_sq (I : Inv X pins σ H s) (h : SqT X.K H b (k.map kV)) : (tupleKind (mixKind X.prog X.w)).is s.heap k b := by
  obtain ⟨its, r, ⟨o, h1, h2, n, h3⟩, _⟩ := I.tuple h
  exact ⟨o, its.toArray, n, h1, h2, h3, by simpa using items_are r⟩
theorem du_rd (I : Inv X pins σ H s) (e : Rd H a (.dU kvs)) (hk : KsOk X.K H kvs) : kvs.length ≤ sizeLine ∧ (a == sysModules) = false ∧ ∃ xs, KU kvs xs ∧ s.heap.DictOfH (tupleKind (mixKind X.prog X.w)) a xs := by
  obtain ⟨z, y, xs, r, o, es, ep, h1, h2, h3, h4, h5⟩ := (show ObjOk X.prog X.w H s.heap a (.dU kvs) from rd_of I.hok e)
  refine ⟨z, y, xs, r, o, es, ep, h1, h2, h3, h4, fun x hx => ?_, h5⟩
  have all : ∀ {l : List (List Key × Addr × V)} {m : List (List Key × Addr × Value)}, KU l m → KsOk X.K H l → ∀ x ∈ m, (tupleKind (mixKind X.prog X.w)).is s.heap x.1 x.2.1 := by
    intro l m q
    induction q with
    | nil => intro _ x hx; exact nomatch hx
    | @cons p q ps qs hq t ih =>
      intro hl x hx
      rcases List.mem_cons.mp hx with e | hx
      · subst e
        rw [← hq.1, ← hq.2.1]
        exact key_sq I (hl p (by simp))
      · exact ih (fun e he => hl e (by simp [he])) x hx
  exact all r hk x hx
theorem op_notinU (hu : X.A.units + 1 < cLine) : OpR X (compareOp .NotIn) (fun x y H Q => ∃ b a k kvs, x = .ref b ∧ y = .ref a ∧ SqT X.K H b (k.map kV) ∧ Rd H a (.dU kvs) ∧ KsOk X.K H kvs ∧ Q (.bl (!(valU kvs k).isSome)) H) := by
  intro pins s σ H x y v u Q I rx ry h
  obtain ⟨b, a, k, kvs, rfl, rfl, hb, e, hk, q⟩ := h
  cases rx
  cases ry
  obtain ⟨z, hd, xs, rel, dd⟩ := du_rd I e hk
  refine wpAny_notIn_heap (tupleKind_room_in1 hu) (key_sq I hb) hd dd ⟨.bl _, H, I.tok _, ?_, q⟩
  have z2 := (rel.val k).isSome_eq
  rw [Option.isSome_map] at z2
  rw [← z2]; rfl
theorem ix_du (hu : X.A.units + 1 < cLine) : IxR X (fun x y H Q => ∃ a b k kvs z, x = .ref a ∧ y = .ref b ∧ SqT X.K H b (k.map kV) ∧ Rd H a (.dU kvs) ∧ KsOk X.K H kvs ∧ valU kvs k = some z ∧ Q z H) := by
  intro value slice pins s σ H x y v u Q I rx ry h hs
  obtain ⟨a, b, k, kvs, z, rfl, rfl, hb, e, hk, hv, q⟩ := h
  cases rx
  cases ry
  obtain ⟨_, hd, xs, rel, dd⟩ := du_rd I e hk
  obtain ⟨w', hw, rw'⟩ := RelO.some_of (v := z) (o := (atKey xs k).map (·.2)) (by rw [← hv]; exact rel.val k)
  obtain ⟨p, hp, hp2⟩ := Option.map_eq_some_iff.mp hw
  obtain ⟨o, es, ep, g1, g2, _⟩ := id dd
  refine subscriptTail_builtinR (x := w') ⟨o, g1, g2.1⟩ PySem.F.slot_dict_getitem.lookup (wpAny_getItem_heap (Q := fun r s' => r = w' ∧ EP X pins σ Q r s') (tupleKind_room_in1 hu) (key_sq I hb) dd hp ?_) hs
  rw [hp2]
  exact ⟨rfl, z, H, I.tok _, rw', q⟩
theorem u_setItem {Q : Unit → Shared → Prop} (hu : A.units + 1 < cLine) (I : Inv X pins σ H s) (e : H a = some (.dU kvs)) (hk : KsOk X.K H kvs) (hb : SqT X.K H b (k.map kV)) (hl0 : kvs.length < sizeLine) (rv : RelV v r) (h : ∀ s', Inv X pins σ (upd H a (.dU (putU kvs k b v))) s' → Q () s') :
    wpAny (model X.prog X.w) A (setItem (.ref a) (.ref b) r) Q E s := by
  obtain ⟨z, hd, xs, rel, dd⟩ := du_rd I (.inl e) hk
  have hz : xs.length ≤ sizeLine := by rw [← Paired.length rel]; exact z
  have hl : (putU kvs k b v).length ≤ sizeLine := by have := length_putU kvs k b v; omega
  refine wpAny_setItem_heap (hsz := hz) (tupleKind_room_in1 hu) (key_sq I hb) dd fun h' dd' hs => h _ ?_
  obtain ⟨q, es, ep, hq, h2, h3, h4, _, h5⟩ := dd'
  exact d_write I (by rw [e]; exact True.intro) hs ⟨q, hq⟩ ⟨hl, hd, _, rel.put k rv, q, es, ep, hq, h2, h3, h4, h5⟩
end
def keyT (k : List Key) : D := .tup (k.map keyD)
theorem keyT_rep {K : PySem.W.Frag} {S : Addr → Prop} {H : Hp} {k : List Key} {v : V} : Rep K S H (keyT k) v ↔ ∃ b, v = .ref b ∧ SqT K H b (k.map kV) := by
  have all : ∀ {k : List Key} {vs : List V}, Reps K S H (k.map keyD) vs ↔ vs = k.map kV := by
    intro k
    induction k with
    | nil => intro vs; simp only [List.map_nil, Reps]
    | cons x r ih =>
      intro vs
      simp only [List.map_cons, Reps]
      constructor
      · rintro ⟨v, t, rfl, h1, h2⟩
        rw [keyD_rep.mp h1, ih.mp h2]
      · rintro rfl
        exact ⟨_, _, rfl, keyD_rep.mpr rfl, ih.mpr rfl⟩
  unfold keyT
  simp only [Rep]
  constructor
  · rintro ⟨a, vs, rfl, h1, h2⟩
    rw [all.mp h2] at h1
    exact ⟨a, rfl, h1⟩
  · rintro ⟨b, rfl, h⟩
    exact ⟨b, _, rfl, h, all.mpr rfl⟩
def lookT : List (List Key) → List D → List Key → Option D
  | k' :: ks, x :: l, k => if k' = k then some x else lookT ks l k
  | _, _, _ => none
def hasT (ks : List (List Key)) (k : List Key) : Bool := ks.any fun k' => decide (k' = k)
theorem valU_has {kvs : List (List Key × Addr × V)} {k : List Key} : (valU kvs k).isSome = hasT (kvs.map (·.1)) k := by
  rw [← valU_any]
  unfold hasT
  rw [List.any_map]
  rfl
theorem lookT_val {K : PySem.W.Frag} {S : Addr → Prop} {H : Hp} {k : List Key} {d : D} : ∀ {kvs : List (List Key × Addr × V)} {l : List D}, Reps K S H l (kvs.map (·.2.2)) → lookT (kvs.map (·.1)) l k = some d → ∃ v, valU kvs k = some v ∧ Rep K S H d v
  | [], l, _, e => by simp [lookT] at e
  | kv :: kvs, [], h, e => by simp [lookT] at e
  | kv :: kvs, x :: l, h, e => by
    simp only [List.map_cons, Reps] at h
    obtain ⟨u, r, e', h1, h2⟩ := h
    obtain ⟨rfl, rfl⟩ := List.cons.inj e'
    simp only [List.map_cons, lookT] at e
    by_cases z : kv.1 = k
    · rw [if_pos z] at e; cases e
      exact ⟨kv.2.2, by simp [valU, List.find?_cons, z], h1⟩
    · rw [if_neg z] at e
      obtain ⟨v, q1, q2⟩ := lookT_val h2 e
      exact ⟨v, by simp only [valU, List.find?_cons, z, decide_false]; exact q1, q2⟩
section
variable {X : Cx} {κ : List SK} {md : SK} {pu : Bool} {pos : Pos} {E Ek : DTE}
abbrev oInT (neg : Bool) : DR2 := fun x y q => ∃ k ks l, x = keyT k ∧ y = .dT ks l ∧ q (.bl (neg ^^ hasT ks k))
theorem do_notinT (hu : X.A.units + 1 < cLine) : DOp X .cl (compareOp .NotIn) (oInT true) :=
  ⟨⟨_, op_notinU hu, fun S H dx dy vx vy q Q rx ry ⟨k, ks, l, ex, ey, hq⟩ kk => by
    subst ex ey
    obtain ⟨b, rfl, hb⟩ := keyT_rep.mp rx
    simp only [Rep] at ry
    obtain ⟨a, kvs, rfl, _, h1, rfl, h2, _⟩ := ry
    rw [Bool.true_xor, ← valU_has] at hq
    exact ⟨b, a, k, kvs, rfl, rfl, hb, h1, h2, kk _ H (.bl (!(valU kvs k).isSome)) [] (.refl _) ⟨rfl, by simp only [Rep]⟩ hq⟩⟩⟩
abbrev xDT : DR2 := fun x y q => ∃ ks l k d, x = .dT ks l ∧ y = keyT k ∧ lookT ks l k = some d ∧ q d
theorem dix_u (hu : X.A.units + 1 < cLine) : DIx X xDT :=
  ⟨⟨_, ix_du hu, fun S H dx dy vx vy q Q rx ry ⟨ks, l, k, d, ex, ey, he, hq⟩ kk => by
    subst ex ey
    obtain ⟨b, rfl, hb⟩ := keyT_rep.mp ry
    simp only [Rep] at rx
    obtain ⟨a, kvs, rfl, _, h1, rfl, h2, r1⟩ := rx
    obtain ⟨v, h3, h4⟩ := lookT_val r1 he
    exact ⟨a, b, k, kvs, v, rfl, rfl, hb, h1, h2, h3, kk _ H _ [] (.refl _) ⟨rfl, h4⟩ hq⟩⟩⟩
theorem pe_dnewU : PE X (.Dict [] [] pos) (fun σ H Q => ∀ p, H p = none → Q (.ref p) (upd H p (.dU []))) := fun pins s σ H Q I h => by
  have z := dt_empty (P := X.prog) (w := X.w) (H := upd H s.heap.objs.size (.dT [])) s.heap I.big
  obtain ⟨z1, z2, xs, z3, o, es, ep, z4⟩ := z
  cases z3
  exact wpAny_Dict_empty ⟨.ref s.heap.objs.size, _, I.laid (a := s.heap.objs.size) (o := .dU []) (t' := s.toks) (fun _ _ q => Heap.get?_push_of_some _ q) (Nat.le_refl _) ⟨z1, z2, [], .nil, o, es, ep, z4⟩, rfl, h _ (I.hok.fresh (Nat.le_refl _))⟩
theorem own1_du {K : PySem.W.Frag} {S : Addr → Prop} {H : Hp} {fp : List Addr} {ks : List (List Key)} {l : List D} {v : V} (h : Own K S H 1 fp (.dT ks l) v) : ∃ a kvs, v = .ref a ∧ fp = [a] ∧ H a = some (.dU kvs) ∧ kvs.map (·.1) = ks ∧ KsOk K H kvs ∧ Reps K S H l (kvs.map (·.2.2)) := by
  simp only [Own] at h
  obtain ⟨a, fps, rfl, rfl, h⟩ := h
  rcases h with ⟨_, _, e, _⟩ | ⟨_, _, _, e, _⟩ | ⟨ks', l', kvs, e, hH, h0, h1, h2, h3⟩
  · cases e
  · cases e
  · cases e
    obtain ⟨z, r⟩ := own0s h1 (vs := kvs.map (·.2.2)) (by rw [List.length_map]; exact h2) (fun i f x u e1 e2 e3 => by simp only [Own]; exact h3 i f x u e1 e2 e3)
    exact ⟨a, kvs, rfl, by rw [z], hH, h0.1, h0.2, r⟩
theorem own1_mkU {K : PySem.W.Frag} {S : Addr → Prop} {H : Hp} {a : Addr} {ks : List (List Key)} {l : List D} {kvs : List (List Key × Addr × V)} (hH : H a = some (.dU kvs)) (hk : kvs.map (·.1) = ks) (ho : KsOk K H kvs) (r : Reps K S H l (kvs.map (·.2.2))) : Own K S H 1 [a] (.dT ks l) (.ref a) := by
  simp only [Own]
  have hl : kvs.length = l.length := by rw [← r.len, List.length_map]
  refine ⟨a, l.map fun _ => [], rfl, by simp, .inr (.inr ⟨ks, l, kvs, rfl, hH, ⟨hk, ho⟩, by simp, hl, fun i f x u e1 e2 e3 => ⟨?_, ?_⟩⟩)⟩
  · rw [List.getElem?_map, e2] at e1; simpa using e1.symm
  · obtain ⟨u', e4, z⟩ := r.get e2
    rw [e3] at e4; cases e4
    exact z
def eNewT : DTE := fun ρ q => q (.dT [] []) ρ
theorem dnewT : DE X κ true (.ow 1) (.Dict [] [] pos) eNewT := by
  refine ⟨pe_dnewU.weak fun σ H Q ⟨G, O, ρ, q, hE, hq, k⟩ => fun p hp => ?_⟩
  have vr : VRes X.K (uni G.S0 O) H (upd H p (.dU [])) [p] (.ow 1) (.dT [] []) (.ref p) := by
    refine ⟨by simp, fun a ha => ?_, own1_mkU upd_same rfl (fun e he => absurd he (by simp)) (by simp only [List.map_nil, Reps])⟩
    obtain rfl : a = p := by simpa using ha
    exact ⟨hp, _, upd_same, trivial⟩
  obtain ⟨fp', st, en, vo⟩ := VRes.fin (lo := false) hE (Step.refl O H) (.new hp) vr (by simp)
  exact k _ _ _ ρ O fp' st en vo (fun _ => ⟨.new hp, rfl, rfl⟩) hq
def replT (k : List Key) (d : D) : List (List Key) → List D → List D
  | k' :: ks, x :: l => (if k' = k then d else x) :: replT k d ks l
  | _, _ => []
def putT (ks : List (List Key)) (l : List D) (k : List Key) (d : D) : D := if hasT ks k = true then .dT ks (replT k d ks l) else .dT (ks ++ [k]) (l ++ [d])
theorem reps_replU {K : PySem.W.Frag} {S : Addr → Prop} {H : Hp} {k : List Key} {d : D} {v : V} (rv : Rep K S H d v) : ∀ {kvs : List (List Key × Addr × V)} {l : List D}, Reps K S H l (kvs.map (·.2.2)) → Reps K S H (replT k d (kvs.map (·.1)) l) ((kvs.map fun e => if e.1 = k then (e.1, e.2.1, v) else e).map (·.2.2))
  | [], l, h => by simp only [List.map_nil, replT, Reps]
  | kv :: kvs, [], h => by simp only [Reps] at h; simp at h
  | kv :: kvs, x :: l, h => by
    simp only [List.map_cons, Reps] at h
    obtain ⟨u, r, e, h1, h2⟩ := h
    obtain ⟨rfl, rfl⟩ := List.cons.inj e
    simp only [List.map_cons, replT, Reps]
    refine ⟨_, _, rfl, ?_, reps_replU rv h2⟩
    by_cases z : kv.1 = k
    · rw [if_pos z, if_pos z]; exact rv
    · rw [if_neg z, if_neg z]; exact h1
theorem keys_replU {k : List Key} {v : V} (kvs : List (List Key × Addr × V)) : (kvs.map fun e => if e.1 = k then (e.1, e.2.1, v) else e).map (·.1) = kvs.map (·.1) := by
  rw [List.map_map]
  apply List.map_congr_left
  intro kv _
  by_cases z : kv.1 = k <;> simp [z]
theorem putT_is {K : PySem.W.Frag} {S : Addr → Prop} {H : Hp} {l : List D} {k : List Key} {b : Addr} {d : D} {v : V} {kvs : List (List Key × Addr × V)} (r : Reps K S H l (kvs.map (·.2.2))) (ho : KsOk K H kvs) (hb : SqT K H b (k.map kV)) (rv : Rep K S H d v) :
    ∃ ks' l', putT (kvs.map (·.1)) l k d = .dT ks' l' ∧ (putU kvs k b v).map (·.1) = ks' ∧ KsOk K H (putU kvs k b v) ∧ Reps K S H l' ((putU kvs k b v).map (·.2.2)) := by
  have e : hasT (kvs.map (·.1)) k = kvs.any fun e => decide (e.1 = k) := by unfold hasT; rw [List.any_map]; rfl
  unfold putT putU
  rw [e]
  by_cases z : (kvs.any fun e => decide (e.1 = k)) = true
  · rw [if_pos z, if_pos z]
    refine ⟨_, _, rfl, keys_replU kvs, fun e he => ?_, reps_replU rv r⟩
    obtain ⟨f, hf, rfl⟩ := List.mem_map.mp he
    have := ho f hf
    by_cases y : f.1 = k
    · rw [if_pos y]; exact this
    · rw [if_neg y]; exact this
  · rw [if_neg z, if_neg z]
    refine ⟨_, _, rfl, by simp, fun e he => ?_, by rw [List.map_append]; exact r.snoc rv⟩
    rcases List.mem_append.mp he with he | he
    · exact ho e he
    · have : e = (k, b, v) := by simpa using he
      rw [this]; exact hb
section
variable {K : PySem.W.Frag} {G : G0} {O : Addr → Prop} {ρ : EnvD} {σ : St} {H : Hp}
theorem SqT.upd {a b : Addr} {kvs : List (List Key × Addr × V)} {o : HO} {vs : List V} (hH : H a = some (.dU kvs)) (h : SqT K H b vs) : SqT K (L2.upd H a o) b vs := by
  rcases h with h | h
  · left
    have ne : b ≠ a := by
      rintro rfl
      rcases h with h | ⟨_, h⟩ <;> (rw [hH] at h; cases h)
    rcases h with h | ⟨o', h⟩
    · exact .inl (by rw [upd_ne ne]; exact h)
    · exact .inr ⟨o', by rw [upd_ne ne]; exact h⟩
  · exact .inr h
theorem EnvOk.chgU {i : Nat} {ks : List (List Key)} {l : List D} (h : EnvOk K κ G O ρ σ H) (hd : dep (kd κ i) = some 1) (e : ρ[i]? = some (some (.dT ks l))) : ∃ a kvs, σ[i]? = some (some (.ref a)) ∧ H a = some (.dU kvs) ∧ kvs.map (·.1) = ks ∧ KsOk K H kvs ∧ Reps K (uni G.S0 O) H l (kvs.map (·.2.2)) ∧
    ∀ ks' l' kvs', kvs'.map (·.1) = ks' → KsOk K H kvs' → Reps K (uni G.S0 O) H l' (kvs'.map (·.2.2)) → EnvOk K κ G O (kl κ (ρ.set i (some (.dT ks' l')))) σ (upd H a (.dU kvs')) ∧ Step O O H (upd H a (.dU kvs')) := by
  obtain ⟨F, f⟩ := id h
  obtain ⟨v, h1, h2⟩ := slot_own f hd e
  obtain ⟨a, kvs, rfl, hF, hH, hk, ho, r⟩ := own1_du h2
  have ha : O a := (f.own a).mpr ⟨i, by rw [hF]; simp⟩
  refine ⟨a, kvs, h1, hH, hk, ho, r, fun ks' l' kvs' hk' ho' r' => ?_⟩
  have gU : Goes (uni G.S0 O) (uni G.S0 O) H (upd H a (.dU kvs')) := Goes.upd hH trivial (.inr ha)
  have q := EnvF.chg (H' := upd H a (.dU kvs')) (f' := F i) (fp := []) (d' := .dT ks' l') (v := .ref a) f hd (fun b o nb eb => by
      rw [upd_ne (by rintro rfl; exact nb (by rw [hF]; simp))]; exact eb) (fun b eb => by
      by_cases hb : b = a
      · rw [hb, upd_same]; simp
      · rw [upd_ne hb]; exact eb) (f.nd i) (fun b hb => ⟨.inl hb, by
        have : b = a := by rw [hF] at hb; simpa using hb
        rw [this]; exact ⟨_, upd_same, trivial⟩⟩) (fun b hb => absurd hb (by simp)) h1 (by
        rw [OF_self f, hF, show uni G.S0 (fpS []) = G.S0 by funext b; simp [uni, fpS]]
        exact own1_mkU upd_same hk' (fun e he => (ho' e he).upd hH) (Reps.go gU l' _ r'))
  rw [OF_self f, plus_nil] at q
  exact ⟨⟨_, q.1⟩, q.2⟩
end
theorem ps_uput {o i value : Expr} {td ty tv : TE} {pos' : Pos} (hu : X.A.units + 1 < cLine) (ho : PE X o td) (hi : PE X i ty) (hv : PE X value tv) (hs : swapsWith value (some (.Subscript o i pos')) pos.line X.env = pure false) :
    PS X (.Assign [.Subscript o i pos'] value pos) (fun D σ H => tv σ H fun v H1 => td σ H1 fun x H2 => ty σ H2 fun y H3 => ∃ a b k kvs, x = .ref a ∧ y = .ref b ∧ H3 a = some (.dU kvs) ∧ KsOk X.K H3 kvs ∧ SqT X.K H3 b (k.map kV) ∧ kvs.length < sizeLine ∧ D.nx σ (upd H3 a (.dU (putU kvs k b v)))) := by
  intro pins s σ H D I h
  refine wpAny_Assign_Subscript (thn (hv pins s σ H _ I h) fun r s1 ⟨v, H1, I1, rv, q1⟩ => thn (ho pins s1 σ H1 _ I1 q1) fun u s2 ⟨x, H2, I2, rx, q2⟩ => thn (hi pins s2 σ H2 _ I2 q2) fun iv s3 ⟨y, H3, I3, ry, a, b, k, kvs, ex, ey, g1, g2, g3, g4, q3⟩ => ?_) hs
  subst ex ey
  obtain rfl : u = Value.ref a := rx
  obtain rfl : iv = Value.ref b := ry
  exact u_setItem hu I3 g1 g2 g3 g4 rv fun s4 I4 => ⟨σ, _, I4, q3⟩
def sPutT (κ : List SK) (i : Nat) (Ek E : DTE) : DTS := fun De ρ => (∃ ks l, ρ[i]? = some (some (.dT ks l))) ∧ E ρ fun d ρ1 => Ek ρ1 fun k ρ2 => ∃ ks l kk, ρ2[i]? = some (some (.dT ks l)) ∧ k = keyT kk ∧ ks.length < sizeLine ∧ De.nx (kl κ (ρ2.set i (some (putT ks l kk d))))
theorem dputT {i : Nat} {x : Str} {p spos : Pos} {j e : Expr} {pui : Bool} (hu : X.A.units + 1 < cLine) (hs : swapsWith e (some (.Subscript (.Name x p) j spos)) pos.line X.env = pure false)
    (hN : X.N[i]? = some x) (hv : Vis X.env.scope x) (hd : (x == ("__debug__" : Str)) = false) (hcd : (x == ("__classdict__" : Str)) = false) (hk : dep (kd κ i) = some 1) (he : DE X κ pu .cl e E) (hi : DE X κ pui .cl j Ek) :
    DS X κ md (.Assign [.Subscript (.Name x p) j spos] e pos) (sPutT κ i Ek E) := by
  refine ⟨(ps_uput hu (pe_var hN hv hd hcd) hi.h he.h hs).weak fun Dn σ H ⟨G, O, ρ, De, hE, ⟨⟨ks0, l0, e0⟩, hT⟩, nx, bk, ct, rt⟩ => ⟨G, O, ρ, _, hE, hT, fun v H1 d ρ1 O1 fp s1 e1 vo p1 hq1 => ?_⟩⟩
  obtain ⟨a, kvs, g1, _⟩ := hE.chgU hk e0
  refine ⟨.ref a, g1, G, O1, ρ1, _, e1.drop, hq1, fun vi H2 di ρ2 O2 fp2 s2 e2 vo2 p2 ⟨ks, l, kk, el, ek, hl, hq2⟩ => ?_⟩
  subst ek
  obtain ⟨a', kvs', g2, g3, g4, g5, g6, g7⟩ := e2.drop.chgU hk el
  rw [g1] at g2; cases g2
  have rv : Rep X.K (uni G.S0 O2) H2 d v := Rep.go (Goes.step e1.drop.mutO s2) d v vo.2
  obtain ⟨b, rfl, hb⟩ := keyT_rep.mp vo2.2
  subst g4
  obtain ⟨ks', l', z1, z2, z3, z4⟩ := putT_is g6 g5 hb rv
  refine ⟨a, b, kk, kvs', rfl, rfl, g3, g5, hb, by rw [List.length_map] at hl; exact hl, ?_⟩
  rw [z1] at hq2
  exact nx σ _ _ O2 (g7 ks' l' _ z2 z3 z4).1 hq2
end
theorem fasg {X : Cx} {κ : List SK} {md mr : SK} {pu : Bool} {e tg : Expr} {E : DTE} {pos : Pos} {g : DTG} (hs : swapsWithSole [tg] e pos.line X.env = pure false) (hw : swappedStores [tg] e X.env = pure none) (h1 : (assignEach [tg] X.env).map (·.2) = [assign tg X.env]) (hm : md = .cl ∨ md = .lo) (he : DE X κ pu md e E) (hg : DG X κ md tg g) : DS X κ mr (.Assign [tg] e pos) (sAsg E g) := dasg hs hw h1 hm he hg
theorem fopLO {X : Cx} {κ : List SK} {a b : Expr} {pos : Pos} {Ea Eb : DTE} {r : D → D → (D → Prop) → Prop} {op : Operator} (ho : DOp X (.ow 1) (binaryOp op) r) (ha : DE X κ true .lo a Ea) (hb : DE X κ true .lo b Eb) : DE X κ true (.ow 1) (.BinOp a op b pos) (eNoL1 (eOp r Ea Eb)) := by
  obtain ⟨r', h1, h2⟩ := ho.h
  refine ⟨(pe_op h1 ha.h hb.h).weak fun σ H Q ⟨G, O, ρ, q, hE, hq, k⟩ => ⟨G, O, ρ, _, hE, hq, fun vx H1 dx ρ1 O1 fp s1 e1 vo1 p1 hq1 => ⟨G, O1, ρ1, _, e1.drop, hq1, fun vy H2 dy ρ2 O2 fp2 s2 e2 vo2 p2 hq2 => ?_⟩⟩⟩
  have e2 := e2.drop
  have rx : Rep X.K (Sx true G.S0 O2) H2 dx vx := vo1.after vlo (fun z => ⟨rfl, (p2 rfl).1⟩) e1.drop.mutO s2
  have ry : Rep X.K (Sx true G.S0 O2) H2 dy vy := vo2.now vlo (fun z => rfl)
  refine h2 _ H2 dx dy vx vy _ Q rx ry hq2 fun v H' z fp3 sm vr ⟨hz1, hz⟩ => ?_
  obtain ⟨en, vo⟩ := VRes.upLO e2 sm vr hz1
  exact k _ _ _ ρ2 O2 fp3 ((s1.trans s2).trans (.of_same sm)) en (vo.base (s1.trans s2)) ((p1.and p2).same sm) hz
section
variable {X : Cx} {κ : List SK} {md m : SK} {pu pu1 pu2 : Bool} {e a b : Expr} {E Ea Eb : DTE} {pos : Pos}
def eTru (E : DTE) : DTT := fun ρ q => E ρ fun d ρ' => ∃ l, (d = .lst l ∨ d = .tup l) ∧ q (!l.isEmpty) ρ'
theorem emp_len {α β : Type} {a : List α} {b : List β} (h : a.length = b.length) : a.isEmpty = b.isEmpty := by
  cases a <;> cases b <;> simp_all
theorem dtru (hm : isV m) (he : ∀ whole, isTrue e X.env whole = (do let v ← whole; standAt e.pos; holding [v] (truthy v))) (h : DE X κ pu m e E) : DT X κ pu e (eTru E) := by
  refine ⟨(pt_truth h.h he).weak fun σ H Q ⟨G, O, ρ, q, hE, hq, k⟩ => ⟨G, O, ρ, _, hE, hq, fun v H1 d ρ1 O1 fp s1 e1 vo p1 ⟨l, hd, hq1⟩ => ?_⟩⟩
  have r := vo.now (lo := loB m) hm (fun z => by rw [z]; rfl)
  obtain ⟨a, vs, rfl, hsq, hr⟩ := rSeq hd r
  have el : (!l.isEmpty) = !vs.isEmpty := by rw [emp_len hr.len]
  refine ⟨!l.isEmpty, ?_, k _ H1 ρ1 O1 s1 e1.drop p1 hq1⟩
  rcases hsq with h | h
  · exact Or.inl ⟨vs, h, el⟩
  · exact Or.inr (Or.inl ⟨vs, h, el⟩)
end
def eTupO (j : Nat) : DTE := fun ρ q => ∃ l, ρ[j]? = some (some (.lst l)) ∧ q (.tup l) ρ
section
variable {X : Cx} {κ : List SK} {x : Str} {pos p px : Pos}
theorem dtupO (j : Nat) (hk : dep (kd κ j) = some 1) (hN : X.N[j]? = some x) (hv : Vis X.env.scope x) (hd : (x == ("__debug__" : Str)) = false) (hcd : (x == ("__classdict__" : Str)) = false) (hg : Gl X "tuple") (hm : X.mg "tuple" = none) :
    DE X κ true .cl (.Call (.Name "tuple" p) [.Name x px] [] pos) (eTupO j) := by
  refine ⟨(pct rfl (by decide) (by decide) call_tuple_of hg hm bt_tuple (pac rfl (pe_var hN hv hd hcd) pa_nil)).weak fun σ H Q ⟨G, O, ρ, q, hE, ⟨l, e1, hq⟩, k⟩ => ?_⟩
  obtain ⟨a, vs, h1, h2, h3, _, _⟩ := hE.chg1 hk e1
  exact ⟨.ref a, h1, a, vs, rfl, .inl ⟨.inl (.inl h2), fun c hc => k _ _ _ ρ O [] (.of_same (.new hc)) (by rw [plus_nil]; exact hE.same0 (.new hc)) (vres_tup h3 hc) (fun _ => ⟨.new hc, rfl, rfl⟩) hq⟩⟩
end
end L2
namespace L2
open PySem PySem.Spec PyProof.Rows PySem.W
abbrev vErr : List Value := [.type "ValueError", .type "Exception", .type "BaseException", .type "object"]
end L2
namespace L2
open PySem PySem.Spec PyProof.Rows PySem.W
open Builtin Builtin.ObjectAttr
end L2
namespace L2
open PySem PySem.Spec PyProof.Rows PySem.W
theorem ObjOk.at {P : Program} {w : World} {H : Hp} {h : Heap} {a : Addr} {o : HO} (x : ObjOk P w H h a o) : ∃ ob, h.get? a = some ob := by
  cases o with
  | lst xs => obtain ⟨_, _, _, _, e⟩ := x; exact ⟨_, e⟩
  | tup xs => obtain ⟨_, _, _, ob, e, _⟩ := x; exact ⟨_, e⟩
  | dK kvs => obtain ⟨_, _, _, _, o, _, _, e, _⟩ := x; exact ⟨_, e⟩
  | dT kvs => obtain ⟨_, _, _, _, o, _, _, e, _⟩ := x; exact ⟨_, e⟩
  | set S n => obtain ⟨o, _, _, _, e, _⟩ := x; exact ⟨_, e⟩
  | ins C dx fs => obtain ⟨_, _, _, e, _⟩ := x; exact ⟨_, e⟩
  | own y => obtain ⟨_, e⟩ := x; exact ⟨_, e⟩
  | xd fs => obtain ⟨_, ⟨_, _, _, e, _⟩, _⟩ := x; exact ⟨_, e⟩
  | rng lo hi => obtain ⟨_, _, _, e⟩ := x; exact ⟨_, e⟩
  | frz ob u => obtain ⟨e, _⟩ := x; exact ⟨_, e⟩
  | tbl ps => exact ⟨_, show h.get? a = some _ from x⟩
  | met f y => exact ⟨_, show h.get? a = some _ from x⟩
  | ext φ => obtain ⟨_, ⟨_, e⟩, _⟩ := x; exact ⟨_, e⟩
  | dU kvs => obtain ⟨_, _, _, _, o, _, _, e, _⟩ := x; exact ⟨_, e⟩
structure Flown (P : Program) (w : World) (outer : List Env) (H : Hp) (s : Shared) (e : Addr) (cls a0 : Value) (H' : Hp) (B : Heap) (s' : Shared) : Prop where
  fly : Heap.FlyingW B outer e cls a0 s'.heap
  ex : ∀ b o, s.heap.get? b = some o → H b = none → b ∉ frs outer → B.get? b = some o
  th : ∀ b o, s.heap.get? b = some o → b ∉ frs outer → ∃ o', B.get? b = some o'
  tr : ∀ b o, H' b = some o → ∃ o', B.get? b = some o'
  un : Un (frs outer) [] H H' s.heap s'.heap
  os : s'.os = s.os
  bare : AllBare s'.gens
  hok : HOk P w H' s'.heap
def CX1 (P : Program) (w : World) : CXT := fun outer H s E ev s' => ∃ e cls a0 H' B, ev = .ref e ∧ Flown P w outer H s e cls a0 H' B s' ∧ E cls none H'
section
variable {P : Program} {w : World} {outer : List Env} {H H' : Hp} {s s' : Shared} {e : Addr} {cls a0 : Value} {B h'' : Heap}
theorem Flown.after (F : Flown P w outer H s e cls a0 H' B s') (st : B.StaysIn h'') (up : s'.heap.UpToSlots h'') : Un (frs outer) [] H H' s.heap h'' ∧ HOk P w H' h'' := by
  have fr : ∀ b ∈ frs outer, ∃ o, s'.heap.get? b = some o ∧ ∀ vs, o.data ≠ .fields vs := fun b hb => (F.fly.2.2.1.mem hb).2
  refine ⟨⟨fun b o q n hb _ => st b o (F.ex b o q n hb), fun b o q n hb hx => ?_, F.un.free, fun b o q hx => ?_, F.un.tups, F.un.frzs, F.un.tbls⟩, fun a o ea => (F.hok a o ea).stay (fun b u hb q => ?_) (fun _ q => q) fun _ _ q => q⟩
  · obtain ⟨sl, e1⟩ := F.un.slot b o q n hb hx
    obtain ⟨o2, e2, nf⟩ := fr b hb
    rw [e1] at e2; cases e2
    obtain ⟨sl2, e3⟩ := up b _ e1 nf
    exact ⟨sl2, e3⟩
  · by_cases hb : b ∈ frs outer
    · obtain ⟨o2, e2, nf⟩ := fr b hb
      obtain ⟨sl2, e3⟩ := up b _ e2 nf
      exact ⟨_, e3⟩
    · obtain ⟨o', e'⟩ := F.th b o q hb
      exact ⟨o', st b o' e'⟩
  · have : ∃ o', H' b = some o' := by
      rcases hb with rfl | hb
      · exact ⟨_, ea⟩
      · exact ⟨_, hb⟩
    obtain ⟨o', e'⟩ := this
    obtain ⟨ob, eb⟩ := F.tr b o' e'
    have := F.fly.1 b ob eb
    rw [q] at this; cases this
    exact st b u eb
theorem frs_cons {env : Env} {L : Addr} (hf : env.frame = some L) : frs (env :: outer) = L :: frs outer := by unfold frs; rw [List.filterMap_cons, hf]
end
section
variable {P : Program} {w : World} {K : Frag} {mg : Str → Option Value} {base : Heap} {N : List Str} {qual : Str} {scope : Scope} {f : Addr} {cd : Value} {A : Around} {outer : List Env} {s : Shared} {H : Hp} {E : XK}
theorem leave_first {pins : List (Addr × Obj)} {σ : St} {H1 : Hp} {s1 : Shared} {h' : Heap} {tk : Nat} {e : Addr} {oe : Obj} {vs : Array Value} {a0 : Value} (I : Inv (cxOf (CX1 P w) P w K mg base N qual scope f cd A outer s H E) pins σ H1 s1)
    (k : ∀ b o, s1.heap.get? b = some o → h'.get? b = some o) (ne : s1.heap.get? e = none) (he : h'.get? e = some oe) (hd : oe.data = .fields vs) (h1 : vs[1]? = some .none) (h0 : vs[0]? = some a0) (hE : E oe.cls none H1) :
    (cxOf (CX1 P w) P w K mg base N qual scope f cd A outer s H E).xe (.ref e) { s1 with heap := h', toks := tk } := by
  let env := envOfC qual scope s.heap.objs.size f cd
  let B := hideAll h' (e :: frs (env :: outer))
  have hfr : (A.deeper env).frames = some (env :: outer) := I.ok.frames
  have hst : s1.heap.FunFrames base (env :: outer) := I.stack
  have hl : h'.FunFrames B (env :: outer) := funFrames_hide (hst.of_keeps fun b o q _ => ⟨o, k b o q, rfl⟩) fun en hen a ha => List.mem_cons_of_mem _ (List.mem_filterMap.mpr ⟨en, hen, ha⟩)
  have ef : frs (env :: outer) = s.heap.objs.size :: frs outer := frs_cons rfl
  have inB : ∀ b o, s1.heap.get? b = some o → b ∉ frs (env :: outer) → B.get? b = some o := fun b o q n => hideAll_get _ (k b o q) fun z => by
    rcases List.mem_cons.mp z with rfl | z
    · rw [ne] at q; cases q
    · exact n z
  have off : ∀ b o, s.heap.get? b = some o → b ∉ frs outer → b ∉ frs (env :: outer) := fun b o q n z => by
    rw [ef] at z
    rcases List.mem_cons.mp z with rfl | z
    · exact absurd (Heap.lt_size q) (Nat.lt_irrefl _)
    · exact n z
  refine wpAny_leaving_firstW (base := B) (L := s.heap.objs.size) hfr hl rfl he (fun b o q => of_hideAll _ q) (hideAll_none _ (List.mem_cons_self ..)) hd h1 h0 fun h'' ⟨x1, ⟨_, _, x2⟩, x3, x4⟩ => ?_
  have ba : Un (frs outer) [] H H1 s.heap s1.heap := I.base
  have ex : ∀ b o, s.heap.get? b = some o → H b = none → b ∉ frs outer → B.get? b = some o := fun b o q n hb => inB b o (ba.keep b o q n hb (by simp)) (off b o q hb)
  have th : ∀ b o, s.heap.get? b = some o → b ∉ frs outer → ∃ o', B.get? b = some o' := fun b o q hb => by
    obtain ⟨o', q'⟩ := ba.there b o q (by simp)
    exact ⟨o', inB b o' q' (off b o q hb)⟩
  have tr0 : ∀ b o ob, H1 b = some o → s1.heap.get? b = some ob → B.get? b = some ob := fun b o ob eb q => inB b ob q fun z => by
    have := I.stkFree b z
    rw [eb] at this; cases this
  refine ⟨e, oe.cls, a0, H1, B, rfl, ⟨⟨x1, hideAll_none _ (List.mem_cons_self ..), x2, x3⟩, ex, th, fun b o eb => ?_, ⟨fun b o q n hb _ => x1 b o (ex b o q n hb), fun b o q n hb hx => ?_, ba.free, fun b o q hx => ?_, ba.tups, ba.frzs, ba.tbls⟩, I.os, I.bare, fun a o ea => (I.hok a o ea).stay (fun b u hb q => ?_) (fun _ q => q) fun _ _ q => q⟩, hE⟩
  · obtain ⟨ob, q⟩ := (I.hok b o eb).at
    exact ⟨ob, tr0 b o ob eb q⟩
  · obtain ⟨sl, e1⟩ := ba.slot b o q n hb hx
    obtain ⟨o2, e2, nf⟩ := (hst.mem (b := b) (by rw [← show frs (env :: outer) = (env :: outer).filterMap (·.frame) from rfl, ef]; exact List.mem_cons_of_mem _ hb)).2
    rw [e1] at e2; cases e2
    obtain ⟨sl2, e3⟩ := x4 b _ (k b _ e1) nf
    exact ⟨sl2, e3⟩
  · by_cases hb : b ∈ frs outer
    · obtain ⟨o2, e2, nf⟩ := (hst.mem (b := b) (by rw [← show frs (env :: outer) = (env :: outer).filterMap (·.frame) from rfl, ef]; exact List.mem_cons_of_mem _ hb)).2
      obtain ⟨sl2, e3⟩ := x4 b _ (k b _ e2) nf
      exact ⟨_, e3⟩
    · obtain ⟨o', e'⟩ := th b o q hb
      exact ⟨o', x1 b o' e'⟩
  · have : ∃ o', H1 b = some o' := by
      rcases hb with rfl | hb
      · exact ⟨_, ea⟩
      · exact ⟨_, hb⟩
    obtain ⟨o', e'⟩ := this
    exact x1 b u (tr0 b o' u e' q)
theorem passes1 {E' : XK} (hE : ∀ cls H', E' cls none H' → E cls none H') : Passes (CX1 P w) (cxOf (CX1 P w) P w K mg base N qual scope f cd A outer s H E) E' := by
  rintro pins σ H1 s1 ev s' I ⟨e, cls, a0, H', B, rfl, F, hE'⟩
  let env := envOfC qual scope s.heap.objs.size f cd
  have F : Flown P w (env :: outer) H1 s1 e cls a0 H' B s' := F
  have hfr : (A.deeper env).frames = some (env :: outer) := I.ok.frames
  have ef : frs (env :: outer) = s.heap.objs.size :: frs outer := frs_cons rfl
  have ba : Un (frs outer) [] H H1 s.heap s1.heap := I.base
  have off : ∀ b o, s.heap.get? b = some o → b ∉ frs outer → b ∉ frs (env :: outer) := fun b o q n z => by
    rw [ef] at z
    rcases List.mem_cons.mp z with rfl | z
    · exact absurd (Heap.lt_size q) (Nat.lt_irrefl _)
    · exact n z
  refine wpAny_leaves_onW (base := B) (L := s.heap.objs.size) hfr rfl F.fly fun h'' fl up => ?_
  obtain ⟨un2, hok2⟩ := F.after fl.1 up
  have un3 : Un (frs (env :: outer)) [] H H' s.heap h'' := (ba.mono (fun b hb => by rw [ef]; exact List.mem_cons_of_mem _ hb) fun b hb => hb).trans un2
  refine ⟨e, cls, a0, H', B, rfl, ⟨fl, fun b o q n hb => F.ex b o (ba.keep b o q n hb (by simp)) (ba.free b o q n (by simp)) (off b o q hb), fun b o q hb => ?_, F.tr, ⟨fun b o q n hb hx => un3.keep b o q n (off b o q hb) hx, fun b o q n hb hx => un3.slot b o q n (by rw [ef]; exact List.mem_cons_of_mem _ hb) hx, un3.free, un3.there, un3.tups, un3.frzs, un3.tbls⟩, F.os.trans I.os, F.bare, hok2⟩, hE _ _ hE'⟩
  obtain ⟨o', q'⟩ := ba.there b o q (by simp)
  exact F.th b o' q' (off b o q hb)
end
abbrev excObjD (C t : Addr) (n : Option Addr) : Obj := { cls := .ref C, dict := n, data := .fields #[.ref t, .none, .none, .none, .bool false, .none] }
def Raises (X : Cx) (H1 : Hp) (C : Addr) : Prop := ∀ (pins : List (Addr × Obj)) (σ : St) (s1 : Shared) (h' : Heap) (tk : Nat) (e t : Addr) (n : Option Addr), Inv X pins σ H1 s1 → (∀ b o, s1.heap.get? b = some o → h'.get? b = some o) → s1.heap.get? e = none →
  h'.get? e = some (excObjD C t n) → X.xe (.ref e) { s1 with heap := h', toks := tk }
section
variable {X : Cx} {C f : Addr} {fd : FuncData} {attr x : Str} {e : Expr} {te : TE} {np cpos pos : Pos} {k : Nat}
def tRaise (X : Cx) (C : Addr) (te : TE) : TS := fun _ σ H => tCons te tNil σ H fun vs H1 => vs.length = 1 ∧ Raises X H1 C
end
theorem raises_of {P : Program} {w : World} {K : Frag} {mg : Str → Option Value} {base : Heap} {N : List Str} {qual : Str} {scope : Scope} {f : Addr} {cd : Value} {A : Around} {outer : List Env} {s : Shared} {H H1 : Hp} {E : XK} {C : Addr} (hE : E (.ref C) none H1) :
    Raises (cxOf (CX1 P w) P w K mg base N qual scope f cd A outer s H E) H1 C := fun pins σ s1 h' tk e t n I k ne he => leave_first I k ne he rfl rfl rfl hE
theorem flying_keeps {B h h' : Heap} {l : List Env} {e : Addr} {cls a0 : Value} (x : Heap.FlyingW B l e cls a0 h) (k : ∀ b o, h.get? b = some o → h'.get? b = some o) : Heap.FlyingW B l e cls a0 h' := by
  obtain ⟨f1, f2, f3, oe, vs, T, oT, ts, a1, a2, a3, a4, a5, a6, a7, a8, a9⟩ := x
  exact ⟨fun b o q => k b o (f1 b o q), f2, f3.of_keeps fun b o q _ => ⟨o, k b o q, rfl⟩, oe, vs, T, oT, ts, k _ _ a1, a2, a3, a4, a5, a6, k _ _ a7, a8, a9⟩
def Catches (X : Cx) (t : Expr) (C : Addr) : Prop := ∀ (e : Addr) (A : Around) (E : Value → Shared → Prop) (Q : Value → Shared → Prop) (s : Shared), (∃ ob, s.heap.get? e = some ob ∧ ob.cls = .ref C) → (∀ b o, X.base.get? b = some o → s.heap.get? b = some o) →
  (∀ cv h', (∀ b o, s.heap.get? b = some o → h'.get? b = some o) → Looks (model X.prog X.w) h' (excMatches (.ref e) cv) true → Q cv { s with heap := h' }) → wpAny (model X.prog X.w) A (eval t X.env) Q E s
section
variable {X : Cx} {C C1 C2 : Addr} {x y : Str} {p p2 pos : Pos} {j : Nat}
theorem glob_at {A : Around} {E : Value → Shared → Prop} {Q : Value → Shared → Prop} {s : Shared} {u : Value} (ok : X.Ok) (hg : Gl X x) (hm : X.mg x = some u) (hd : (x == ("__debug__" : Str)) = false) (k : ∀ b o, X.base.get? b = some o → s.heap.get? b = some o) (h : Q u s) : wpAny (model X.prog X.w) A (eval (.Name x p) X.env) Q E s :=
  Calls.Name_function_global ok.kind hg (Calls.loadGlobal_global (by rw [ok.glob]; exact ok.mod.glob.keeps k) hm h) hd
theorem catches_name (ok : X.Ok) (hg : Gl X x) (hm : X.mg x = some (.ref C1)) (hd : (x == ("__debug__" : Str)) = false) (hx : exmOne X.K (.ref C) (.ref C1) = some true) : Catches X (.Name x p) C := by
  rintro e A E Q s ⟨ob, ho, hc⟩ k h
  refine glob_at ok hg hm hd k (h _ s.heap (fun _ _ q => q) ?_)
  have t1 : Looks (model X.prog X.w) s.heap (typeOf (.ref e)) (.ref C) := by rw [← hc]; exact (Looks.ld ho).andThen .now
  exact exm_one (ok.mod.kin.keeps k) t1 hx
end
abbrev SDX := List D → (D → Prop) → (Nat → Prop) → Prop
def spPx (K : Frag) (np : Nat) (md : SK) (cl : List Addr) (sd : SDX) : Sp := fun vs H Q E => ∃ S0 ds q x, vs.length = np ∧ (∀ a, S0 a → H a ≠ none) ∧ Reps K S0 H ds vs ∧ sd ds q x ∧ (∀ v H' d fp, Same H H' → VRes K S0 H H' fp md d v → q d → Q v H') ∧
  ∀ i c H', cl[i]? = some c → Same H H' → x i → E (.ref c) none H'
def tDSx (K : Frag) (κ : List SK) (md : SK) (h0 : Hp) (T : DTS) : TS := fun D σ H => ∃ G O ρ De, (G.H0 = h0 ∧ ∀ a, ¬ G.O0 a) ∧ EnvOk K κ G O ρ σ H ∧ T De ρ ∧
  (∀ σ' H' ρ' O', EnvOk K κ G O' ρ' σ' H' → De.nx ρ' → D.nx σ' H') ∧ (∀ σ' H' ρ' O', EnvOk K κ G O' ρ' σ' H' → De.bk ρ' → D.bk σ' H') ∧ (∀ σ' H' ρ' O', EnvOk K κ G O' ρ' σ' H' → De.ct ρ' → D.ct σ' H') ∧
  ∀ v H' d ρ' O' fp σ', EnvOk K κ (G.plus fp) O' ρ' σ' H' → VOk K G.S0 O' G.H0 H' fp md d v → De.rt d ρ' → D.rt v H'
structure DSx (X : Cx) (κ : List SK) (md : SK) (s : Stmt) (T : DTS) : Prop where
  h : PS X s (tDSx X.K κ md X.H₀ T)
structure DSsx (X : Cx) (κ : List SK) (md : SK) (s : List Stmt) (T : DTS) : Prop where
  h : PSs X s (tDSx X.K κ md X.H₀ T)
theorem EnvOk.from0 {K : Frag} {κ : List SK} {G : G0} {O : Addr → Prop} {ρ : EnvD} {σ : St} {H h0 : Hp} (g : G.H0 = h0 ∧ ∀ a, ¬ G.O0 a) (h : EnvOk K κ G O ρ σ H) : Same h0 H := fun b o e => by
  obtain ⟨F, f⟩ := h
  exact f.keep b o (g.2 b) (by rw [g.1]; exact e)
def sRaise (x : Nat → Prop) (i : Nat) (E : DTE) : DTS := fun _ ρ => E ρ fun _ _ => x i
section
variable {X : Cx} {κ : List SK} {md m : SK} {pu lo : Bool} {st : Stmt} {sts l r : List Stmt} {T U : DTS} {c e a : Expr} {as : List Expr} {E : DTE} {C : DTT} {A : DTA} {pos p np cpos epos hpos rpos rpos2 : Pos} {x : Str}
theorem dsx (h : DS X κ md st T) : DSx X κ md st T := ⟨h.h.weak fun D σ H ⟨G, O, ρ, De, _, hE, hT, nx, bk, ct, rt⟩ => ⟨G, O, ρ, De, hE, hT, nx, bk, ct, rt⟩⟩
theorem dsnilx : DSsx X κ md [] sNext := ⟨pss_nil.weak fun D σ H ⟨G, O, ρ, De, _, hE, hT, nx, _⟩ => nx σ H ρ O hE hT⟩
theorem dsconsx (h1 : DSx X κ md st T) (h2 : DSsx X κ md sts U) : DSsx X κ md (st :: sts) (sSeq T U) :=
  ⟨(pss_cons h1.h h2.h).weak fun D σ H ⟨G, O, ρ, De, g, hE, hT, nx, bk, ct, rt⟩ => ⟨G, O, ρ, { De with nx := U De }, g, hE, hT, fun σ' H' ρ' O' e' hU => ⟨G, O', ρ', De, g, e', hU, nx, bk, ct, rt⟩, bk, ct, rt⟩⟩
theorem dsonex (h1 : DSx X κ md st T) : DSsx X κ md [st] T := ⟨pss_one h1.h⟩
theorem difX (hc : DT X κ pu c C) (ha : DSsx X κ md l T) (hb : DSsx X κ md r U) : DSx X κ md (.If c l r pos) (sIf C T U) := by
  refine ⟨(ps_if hc.h ha.h hb.h).weak fun D σ H ⟨G, O, ρ, De, g, hE, hT, nx, bk, ct, rt⟩ => ⟨G, O, ρ, _, hE, hT, fun b H1 ρ1 O1 s1 e1 p1 hq => ?_⟩⟩
  cases b with
  | true => rw [if_pos rfl] at hq ⊢; exact ⟨G, O1, ρ1, De, g, e1, hq, nx, bk, ct, rt⟩
  | false => rw [if_neg Bool.false_ne_true] at hq ⊢; exact ⟨G, O1, ρ1, De, g, e1, hq, nx, bk, ct, rt⟩
variable {sd : SDX} {k : Nat} {g : Addr} {fd : FuncData} {ps : List Str} {cl : List Addr} {t : Expr} {b : Bool} {j : Nat} {ok : Nat → Prop}
end
section
variable {P : Program} {w : World} {K : Frag} {mg : Str → Option Value} {base : Heap} {x qual : Str} {st : Stmt} {f : Addr} {fd : FuncData} {N ps : List Str} {k : Nat} {κ : List SK} {cl : List Addr}
theorem fnPx {T : (Nat → Prop) → DTS} {sd : SDX} (F : Fun K x qual st f fd) (S : FnScope N ps (defScope st)) (hp : ∀ i, i < ps.length → kd κ i = .cl)
    (hb : ∀ (cdv : Value) (A : Around) (outer : List Env) (s : Shared) (H : Hp) (E : XK) (xs : Nat → Prop), (∀ i c H', cl[i]? = some c → Same H H' → xs i → E (.ref c) none H') → Room k (A.deeper (envOfC qual (defScope st) s.heap.objs.size f cdv)) →
      DSsx (cxOf (CX1 P w) P w K mg base N qual (defScope st) f cdv A outer s H E) κ .cl (defBody st) (T xs))
    (hs : ∀ ds q xs, ds.length = ps.length → sd ds q xs → T xs { nx := fun _ => q .non, rt := fun d _ => q d } (startD N.length ds)) : FnOk P w K mg base (CX1 P w) (k + 1) f fd ps (spPx K ps.length .cl cl sd) := by
  have hpl : ps.length ≤ N.length := by have := congrArg List.length S.pre; rw [List.length_take] at this; omega
  obtain ⟨oc, od, kV, doc, pm, an, cdv, ct, osl, rfl, lk, hcd⟩ := F.ex
  refine fn_of lk hcd S (fun vs H Q E h => h.choose_spec.choose_spec.choose_spec.choose_spec.1) fun A outer s H vs Q E hr h => ?_
  obtain ⟨S0, ds, q, xs, hl, hS, hR, hsd, hQ, hX⟩ := h
  refine ⟨_, (hb cdv A outer s H E xs hX hr).h, ?_⟩
  have hdl : ds.length = vs.length := hR.len.symm
  have e0 : uni S0 (fun _ => False) = S0 := by funext a; simp [uni]
  have hE : EnvOk K κ ⟨S0, fun _ => False, H, start N vs, []⟩ (fun _ => False) (startD N.length ds) (start N vs) H := by
    refine ⟨fun _ => [], ?_, fun a => by simp, fun _ _ => rfl, fun i j a h => absurd h (by simp), fun _ => by simp, fun i a h => absurd h (by simp), fun i a h => absurd h (by simp), fun i n e => rfl, fun p hp => absurd hp (by simp), hS, fun b o _ e => e, fun b e => e, fun i d e => ?_⟩
    · rw [startD_len (by omega), start_len (by omega)]
    · obtain ⟨h1, v, h2, h3⟩ := start_get (N := N) hdl e
      refine ⟨v, h3, ?_⟩
      rw [hp i (by rw [← hl]; exact (List.getElem?_eq_some_iff.mp h2).1)]
      show Rep K (uni S0 fun _ => False) H d v
      rw [e0]
      obtain ⟨u, e1, e2⟩ := hR.get h1
      rw [h2] at e1; cases e1
      exact e2
  have fin : ∀ v H' d ρ' O' fp σ', EnvOk K κ (G0.plus ⟨S0, fun _ => False, H, start N vs, []⟩ fp) O' ρ' σ' H' → VOk K S0 O' H H' fp .cl d v → q d → Q v H' := fun v H' d ρ' O' fp σ' e vo hq => by
    refine hQ v H' d fp ?_ ⟨vo.1, Rep.go (.less fun a z => .inl z) d v vo.2⟩ hq
    obtain ⟨F', f'⟩ := e
    exact fun b o e => f'.keep b o (fun z => z) e
  refine ⟨_, _, _, _, ⟨rfl, fun a z => z⟩, hE, hs ds q xs (by omega) hsd, fun σ' H' ρ' O' e hq => ?_, fun _ _ _ _ _ h => h.elim, fun _ _ _ _ _ h => h.elim, fun v H' d ρ' O' fp σ' e vo hq => fin v H' d ρ' O' fp σ' e vo hq⟩
  exact fin .non H' .non ρ' O' [] σ' (by rw [plus_nil]; exact e) ⟨rfl, by simp only [Rep]⟩ hq
end
end L2
namespace L2
open PySem PySem.Spec PyProof.Rows
end L2
namespace L2
open PySem PySem.Spec PyProof.Rows PySem.W
def BodyPx (B : (Nat → Prop) → DTS) (n np : Nat) (sd : SDX) : Prop := ∀ ds q xs, ds.length = np → sd ds q xs → B xs { nx := fun _ => q .non, rt := fun d _ => q d } (startD n ds)
section
variable {P : Program} {w : World} {K : Frag} {mg : Str → Option Value} {base : Heap} {N : List Str} {qual : Str} {scope : Scope} {f : Addr} {cd : Value} {A : Around} {outer : List Env} {s : Shared} {H : Hp} {E : XK} {cl : List Addr} {xs : Nat → Prop}
theorem passx (hX : ∀ i c H', cl[i]? = some c → Same H H' → xs i → E (.ref c) none H') :
    Passes (CX1 P w) (cxOf (CX1 P w) P w K mg base N qual scope f cd A outer s H E) (fun cls _ H' => ∃ i c, cl[i]? = some c ∧ cls = .ref c ∧ xs i ∧ Same H H') :=
  passes1 (by rintro cls H' ⟨i, c, h1, rfl, h3, h4⟩; exact hX i c H' h1 h4 h3)
end
section
variable {X : Cx}
theorem ints_vals : ∀ {ns : List Int} {its : List Value}, Vals (ns.map V.int) its → IntsAre its ns
  | [], _, .nil => .nil
  | _ :: _, _, .cons ⟨t, e⟩ r => by subst e; exact .cons _ _ (ints_vals r)
theorem call_maxL (hc : X.calm = true) : CallR X (.builtin "max") (fun xs H Q => ∃ (p : Addr) (ns : List Int), xs = [.ref p] ∧ SqL X.K H p (ns.map V.int) ∧ 0 < ns.length ∧ ∀ m, m ∈ ns → (∀ n ∈ ns, n ≤ m) → Q (.int m) H) := by
  intro pins s σ H xs us Q I r h
  obtain ⟨p, ns, rfl, hp, hn, q⟩ := h
  obtain ⟨u, rfl, ru⟩ := vals1 r
  cases (show u = Value.ref p from ru)
  obtain ⟨its, hv, pl, hz⟩ := I.list hp
  have hl := pl.isList
  have hi : IntsAre its ns := ints_vals hv
  obtain ⟨xs, e⟩ := hi.allInts.items
  have hns : ns = xs.toList.map (·.1) := by rw [← hi.numsOf, ← nums_intItems, ← e]
  have hsz : 0 < xs.size := by
    have h3 := hn; rw [hns, List.length_map, Array.length_toList] at h3; exact h3
  rw [e] at hl
  refine max_intList (I.ok.hd hc) hl hsz fun v h' tk hv hk => ?_
  obtain ⟨t, rfl⟩ := intItems_at hv
  obtain ⟨h1, h2⟩ := argBest_gt (numAt xs) (xs.size - 1)
  refine ⟨.int _, H, I.kept (t' := tk) hk, ⟨t, rfl⟩, q _ ?_ fun a ha => ?_⟩
  · rw [hns, numAt_eq]; exact PySem.getD_mem (by rw [List.length_map, Array.length_toList]; omega)
  · rw [hns] at ha
    obtain ⟨j, hj, rfl⟩ := mem_getD ha
    rw [List.length_map, Array.length_toList] at hj
    rw [← numAt_eq]; exact h2 j (by omega)
abbrev cMaxL : DRn := fun ds q => ∃ ns : List Int, ds = [.lst (ns.map D.int)] ∧ 0 < ns.length ∧ ∀ m, m ∈ ns → (∀ n ∈ ns, n ≤ m) → q (.int m)
theorem dc_maxL (hc : X.calm = true) : DCall X .cl (.builtin "max") cMaxL := by
  refine ⟨_, call_maxL hc, fun S H ds vs q Q rv ⟨ns, e, h1, hq⟩ k => ?_⟩
  subst e
  obtain ⟨v, rfl, r⟩ := reps1 rv
  simp only [Rep] at r
  obtain ⟨a, xs, rfl, _, h3, r1⟩ := r
  cases reps_ints r1
  exact ⟨a, ns, rfl, .inl h3, h1, fun m hm hb => k _ H _ [] (.refl _) ⟨rfl, by simp only [Rep]⟩ (hq m hm hb)⟩
variable {κ : List SK} {md : SK} {pos p : Pos} {x : Str} {sd : List D → (D → Prop) → Prop} {CX : CXT} {k : Nat} {g : Addr} {fd : FuncData} {Ex : XK}
end
end L2
namespace L2
open PySem PySem.Spec PyProof.Rows PySem.W
open AutoSeq1 (wpAny_loadPart')
end L2
namespace L2
open PySem PySem.Spec PyProof.Rows PySem.W
end L2
namespace L2
open PySem PySem.Spec PyProof.Rows
section
variable {prog : Program} {w : World} {A : Around} {E : Value → Shared → Prop} {s : Shared} {it d v : Addr} {i ep : Nat} {es : Array DictEntry} {od : Obj} {ok ov : Value}
theorem itemsR_iter {Q : Value → Shared → Prop} (hv : s.heap.IsItemsView v d) (ho : s.heap.get? d = some od) (hd : od.data = .dict es ep)
    (hQ : Q (.ref s.heap.objs.size) { s with heap := s.heap.push { cls := .type "dict_itemiterator", data := .fields #[.none, .bool false, .ref d, .int 0 0, .int es.size 0, .int ep 0, .none, .none] } }) : wpAny (model prog w) A (pyIter (.ref v)) Q E s := by
  obtain ⟨o1, e1, c1, d1⟩ := id hv
  refine wpAny_pyIter_slot hv.typeIs F.slot_dict_items_iter (wpAny_call_entry F.slot_dict_items_iter hv.typeIs F.entry_dict_items_iter (by
    unfold Builtin.«dict_items.__iter__»; refine wpAny_bind (wpAny_pure (wpAny_bind ?_)); unfold Builtin.Dict_items.dictOf
    refine wpAny_bind (wpAny_field e1 d1 (x := .ref d) rfl (wpAny_pure (wpAny_bind ?_))); unfold Builtin.Dict_items.newIterator
    refine wpAny_bind (wpAny_dictEntries ho hd (wpAny_bind (wpAny_dictEpoch ho hd ?_)))
    simp only [show Builtin.Dict_items.ownsTuple "dict_itemiterator" = true by decide, if_true]
    exact wpAny_newObj_type (wpAny_pure ⟨_, rfl, "dict_itemiterator", _, ⟨_, Heap.get?_push_size _ rfl, rfl⟩, F.slot_dict_itemiterator_next.lookup, by simpa [rawInt, Builtin.Dict_items.ownedTupleFields] using hQ⟩)
      (by simp only [sizeOk, Builtin.Dict_items.ownedTupleFields, List.size_toArray, List.length_append, List.length_cons, List.length_nil, sizeLine_eq]; omega)) (F.args_dict_items_iter_1 _))
theorem itemsR_next {x : DictEntry} {Q : Option Value → Shared → Prop} (hit : IsItemIter s.heap it d i es.size ep ok ov) (ho : s.heap.get? d = some od) (hd : od.data = .dict es ep) (hx : es[i]? = some x)
    (hQ : ∀ h', IsItemIterOut h' it d (i + 1) es.size ep x.key x.val s.heap.objs.size → h'.get? s.heap.objs.size = some { cls := .type "tuple", data := .seq #[x.key, x.val] } →
      (∀ b o, b ≠ it → s.heap.get? b = some o → h'.get? b = some o) → Q (some (.ref s.heap.objs.size)) { s with heap := h' }) : wpAny (model prog w) A (pyNext (.ref it)) Q E s := by
  obtain ⟨hp, g, dr, tk, os⟩ := s
  have hT : Shared.TypeIs ⟨hp, g, dr, tk, os⟩ (.ref it) "dict_itemiterator" := ⟨_, hit, rfl⟩
  have hown : Builtin.Dict_items.ownsTuple "dict_itemiterator" = true := by decide
  have hlt : i < es.size := (Array.getElem?_eq_some_iff.mp hx).1
  have hxe : es[i] = x := (Array.getElem?_eq_some_iff.mp hx).2
  unfold pyNext
  refine wpAny_bind (wpAny_attempt (wpAny_callSpecial?_slot (name := Str.ofString "__next__") hT F.slot_dict_itemiterator_next (wpAny_call_entry F.slot_dict_itemiterator_next hT F.entry_dict_itemiterator_next ?_ (F.args_dict_itemiterator_next_1 _))))
  refine wpAny_bind (wpAny_pure (wpAny_bind (wpAny_bind ?_)))
  refine wpAny_bind (wpAny_typeNameOfWhole_itemiter hT (wpAny_pure (wpAny_bind (wpAny_fieldsOf hit rfl ?_)))); simp only [hown, if_true]
  show wpAny _ _ (if (Value.ref d == Value.none) = true then _ else _) _ _ ⟨hp, g, dr, tk, os⟩
  rw [if_neg (show ¬ ((Value.ref d == Value.none) = true) from Bool.false_ne_true)]; refine wpAny_bind (wpAny_pure (wpAny_bind (wpAny_dictEntries ho hd ?_)))
  rw [if_neg (by simp)]; refine wpAny_bind (wpAny_pure (wpAny_bind (wpAny_dictEpoch ho hd ?_)))
  rw [if_neg (by simp)]; refine wpAny_pure ?_
  simp only [show ¬ ((i : Int) < 0) from by omega, if_false, Int.toNat_natCast, Array.getElem?_eq_getElem hlt, hxe]
  refine wpAny_bind (wpAny_bind (wpAny_typeNameOfWhole_itemiter hT (wpAny_pure (wpAny_bind (wpAny_isOneOf_itemiter hT ?_)))))
  show wpAny _ _ (setField (.ref it) 3 (rawInt ((i : Int) + 1)) >>= _) _ _ ⟨hp, g, dr, tk, os⟩; refine wpAny_bind (wpAny_setField_rec hit (by simp) fun h₁ he₁ hs₁ => ?_)
  replace hs₁ : Heap.SameBut it hp h₁ := hs₁; replace he₁ : IsItemIter h₁ it d (i + 1) es.size ep ok ov := by
    unfold IsItemIter; rw [show ((i + 1 : Nat) : Int) = (i : Int) + 1 by omega]; simpa [rawInt] using he₁
  have hT₁ : Shared.TypeIs ⟨h₁, g, dr, tk, os⟩ (.ref it) "dict_itemiterator" := ⟨_, he₁, rfl⟩
  refine wpAny_bind (wpAny_holding (wpAny_bind (wpAny_isOneOf_itemiter hT₁ (wpAny_bind (wpAny_isOneOf_itemiter hT₁ ?_)))))
  show wpAny _ _ (Builtin.Dict_items.pairFromOwner (.ref it) 6 x.key x.val) _ _ ⟨h₁, g, dr, tk, os⟩; unfold Builtin.Dict_items.pairFromOwner; refine wpAny_bind (wpAny_newTuple ?_)
  have he₂ : IsItemIter (h₁.push { cls := .type "tuple", data := .seq #[x.key, x.val] }) it d (i + 1) es.size ep ok ov := Heap.get?_push_of_some _ he₁
  generalize hh₂ : h₁.push { cls := .type "tuple", data := .seq #[x.key, x.val] } = h₂ at he₂
  have hz₁ : h₁.objs.size = hp.objs.size := hs₁.1
  have hil : it < hp.objs.size := Heap.lt_size hit
  have ht₂ : h₂.get? hp.objs.size = some { cls := .type "tuple", data := .seq #[x.key, x.val] } := by rw [← hh₂, ← hz₁]; exact Heap.get?_push_size _ rfl
  have hk₂ : ∀ b o, b ≠ it → hp.get? b = some o → h₂.get? b = some o := fun b o hb e => by rw [← hh₂]; exact Heap.get?_push_of_some _ (hs₁.extBut b o hb e)
  show wpAny _ _ (Builtin.Dict_items.ownedTupleIsFree (.ref it) >>= _) _ _ ⟨h₂, g, dr, tk, os⟩; rw [hz₁]
  clear hh₂ he₁ hs₁ hT₁ hz₁ h₁
  refine wpAny_bind ?_; unfold Builtin.Dict_items.ownedTupleIsFree; refine wpAny_bind (wpAny_field he₂ rfl (x := .none) rfl (wpAny_pure ?_)); simp only [if_true]
  refine wpAny_bind (wpAny_field he₂ rfl (x := ok) rfl (wpAny_bind (wpAny_field he₂ rfl (x := ov) rfl ?_))); refine wpAny_bind (wpAny_setField_rec he₂ (by simp) fun h₃ he₃ hs₃ => ?_)
  replace hs₃ : Heap.SameBut it h₂ h₃ := hs₃; replace he₃ : IsItemIter h₃ it d (i + 1) es.size ep x.key ov := he₃; refine wpAny_bind (wpAny_setField_rec he₃ (by simp) fun h₄ he₄ hs₄ => ?_)
  replace hs₄ : Heap.SameBut it h₃ h₄ := hs₄; replace he₄ : IsItemIter h₄ it d (i + 1) es.size ep x.key x.val := he₄; refine wpAny_bind (wpAny_setField_rec he₄ (by simp) fun h₅ he₅ hs₅ => ?_)
  replace hs₅ : Heap.SameBut it h₄ h₅ := hs₅; replace he₅ : IsItemIterOut h₅ it d (i + 1) es.size ep x.key x.val hp.objs.size := he₅; refine wpAny_bind (wpAny_setField_rec he₅ (by simp) fun h₆ he₆ hs₆ => ?_)
  replace hs₆ : Heap.SameBut it h₅ h₆ := hs₆; replace he₆ : IsItemIterOut h₆ it d (i + 1) es.size ep x.key x.val hp.objs.size := he₆
  have up : ∀ b o, b ≠ it → h₂.get? b = some o → h₆.get? b = some o := fun b o hb e => hs₆.extBut b o hb (hs₅.extBut b o hb (hs₄.extBut b o hb (hs₃.extBut b o hb e)))
  exact wpAny_bind (wpAny_letGo (wpAny_pure (wpAny_pure ⟨_, rfl, wpAny_pure (hQ h₆ he₆ (up _ _ (Nat.ne_of_gt hil) ht₂) fun b o hb e => up b o hb (hk₂ b o hb e))⟩)))
theorem itemsR_end {Q : Option Value → Shared → Prop} (hh : A.handled = none) (hit : IsItemIter s.heap it d i es.size ep ok ov) (ho : s.heap.get? d = some od) (hd : od.data = .dict es ep) (hx : es.size ≤ i) (hQ : ∀ h', Heap.ExtBut it s.heap h' → Q none { s with heap := h' }) :
    wpAny (model prog w) A (pyNext (.ref it)) Q E s := by
  have hT : s.TypeIs (.ref it) "dict_itemiterator" := ⟨_, hit, rfl⟩
  have hown : Builtin.Dict_items.ownsTuple "dict_itemiterator" = true := by decide
  unfold pyNext
  refine wpAny_bind (wpAny_attempt (wpAny_callSpecial?_slot (name := Str.ofString "__next__") hT F.slot_dict_itemiterator_next (wpAny_call_entry F.slot_dict_itemiterator_next hT F.entry_dict_itemiterator_next ?_ (F.args_dict_itemiterator_next_1 _))))
  refine wpAny_bind (wpAny_pure (wpAny_bind (wpAny_bind ?_)))
  refine wpAny_bind (wpAny_typeNameOfWhole_itemiter hT (wpAny_pure (wpAny_bind (wpAny_fieldsOf hit rfl ?_)))); simp only [hown, if_true]
  show wpAny _ _ (if (Value.ref d == Value.none) = true then _ else _) _ _ s; rw [if_neg (show ¬ ((Value.ref d == Value.none) = true) from Bool.false_ne_true)]
  refine wpAny_bind (wpAny_pure (wpAny_bind (wpAny_dictEntries ho hd ?_))); rw [if_neg (by simp)]
  refine wpAny_bind (wpAny_pure (wpAny_bind (wpAny_dictEpoch ho hd ?_))); rw [if_neg (by simp)]; refine wpAny_pure ?_
  simp only [show ¬ ((i : Int) < 0) from by omega, if_false, Int.toNat_natCast, Array.getElem?_eq_none hx]
  refine wpAny_bind (wpAny_bind (wpAny_typeNameOfWhole_itemiter hT (wpAny_pure ?_)))
  show wpAny _ _ (setField (.ref it) 2 .none >>= _) _ _ s; refine wpAny_bind (wpAny_setField hit rfl (by simp) ?_)
  show wpAny _ _ (newExc (.type "StopIteration") [] >>= _) _ _ _; refine wpAny_bind ?_; simp only [newExc, newTuple]; refine wpAny_bind (wpAny_newObj_type ?_ (by size_fits))
  refine wpAny_bind (m := firstArgMember _ _) (wpAny_of_eq (a := Value.none) (by first | rfl | (simp only [firstArgMember]; rfl)) (wpAny_newObj_type ?_ (by size_fits)))
  simp only [raiseNew]; refine wpAny_bind (wpAny_handled ?_); rw [show A.in1.handled = none from hh]
  refine wpAny_bind (wpAny_pure (wpAny_throw ?_))
  refine wpAny_bind (wpAny_isInstance (T := "StopIteration") (b := true) ⟨_, Heap.get?_push_size _ rfl, rfl⟩ isSubtype_stop ?_)
  exact wpAny_pure (hQ _ (((Heap.SameBut.update ..).extBut.push _).push _))
end
def Iti (d : Addr) (o : Obj) : It :=
  ⟨fun i H => ∃ kvs, H d = some (.frz o (.dU kvs)) ∧ i < kvs.length, fun i H x H' => ∃ kvs T e, H d = some (.frz o (.dU kvs)) ∧ H T = none ∧ kvs[i]? = some e ∧ x = .ref T ∧ H' = upd H T (.tup [.ref e.2.1, e.2.2]), fun i H => ∃ kvs, H d = some (.frz o (.dU kvs)) ∧ kvs.length ≤ i⟩
theorem frzU_at {P : Program} {w : World} {H : Hp} {h : Heap} {d : Addr} {o : Obj} {kvs : List (List Key × Addr × V)} (ok : HOk P w H h) (e : H d = some (.frz o (.dU kvs))) : (d == sysModules) = false ∧ h.get? d = some o ∧ o.ExactDict ∧
    ∃ es ep xs, o.data = .dict es ep ∧ KU kvs xs ∧ es.toList = xs.map (entryOfKey (tupleKind (mixKind P w))) := by
  obtain ⟨z1, z2, z3, xs, r, o', es', ep', h1, h2, h3, h4, h5⟩ := (show ObjOk P w H h d (.frz o (.dU kvs)) from ok d _ e)
  rw [z1] at h1; cases h1
  exact ⟨z3, z1, h2, es', ep', xs, h3, r, h4⟩
theorem KU.nth {kvs : List (List Key × Addr × V)} {xs : List (List Key × Addr × Value)} (r : KU kvs xs) : ∀ {i : Nat} {e : List Key × Addr × V}, kvs[i]? = some e → ∃ u, xs[i]? = some (e.1, e.2.1, u) ∧ RelV e.2.2 u := by
  unfold KU at r
  induction r with
  | nil => intro i kv h; simp at h
  | @cons p q ps qs h t ih =>
    intro i kv hk
    cases i with
    | zero => simp at hk; subst hk; exact ⟨q.2.2, by simp [h.1, h.2.1], h.2.2⟩
    | succ j => simp only [List.getElem?_cons_succ] at hk ⊢; exact ih hk
theorem KU.len {kvs : List (List Key × Addr × V)} {xs : List (List Key × Addr × Value)} (r : KU kvs xs) : kvs.length = xs.length := by
  unfold KU at r
  induction r with
  | nil => rfl
  | cons h t ih => simp [ih]
theorem turn_items {P : Program} {w : World} {K : PySem.W.Frag} {elts : List Expr} {kk : Nat} {pos : Pos} (d it : Addr) (o : Obj) (es : Array DictEntry) (ep : Nat) (ed : o.data = .dict es ep) :
    Turn P w K (.Tuple elts kk pos) (Iti d o) [it] it (fun i h => ∃ ok ov, IsItemIter h it d i es.size ep ok ov) where
  mem := by simp
  obj := fun i h st b hb => by
    obtain rfl : b = it := by simpa using hb
    obtain ⟨_, _, e⟩ := st
    exact ⟨_, e, fun v q => by cases q⟩
  keep := fun i h h' ⟨ok, ov, st⟩ k => ⟨ok, ov, k it (by simp) _ st⟩
  item := by
    intro X hP hw hK hc i pins s σ H E I hf st hg
    subst hP hw hK
    obtain ⟨kvs, g1, g2⟩ := hg
    obtain ⟨ok, ov, st⟩ := st
    obtain ⟨_, ho, _, es', ep', xs, ed', r, em⟩ := frzU_at I.hok g1
    rw [ed] at ed'; cases ed'
    have hk := List.getElem?_eq_getElem g2
    obtain ⟨u, hu, ru⟩ := r.nth hk
    have hx : es[i]? = some (entryOfKey (tupleKind (mixKind X.prog X.w)) (kvs[i].1, kvs[i].2.1, u)) := by rw [entry_at em, hu]; rfl
    refine itemsR_next st ho ed hx fun h' c1 c2 c3 => ⟨_, rfl, wpAny_letOwnedTupleGo_items c1 fun h2 c4 c5 => ?_⟩
    have ni : s.heap.objs.size ≠ it := Nat.ne_of_gt (Heap.lt_size st)
    have k2 : ∀ b o, b ∉ [it] → s.heap.get? b = some o → h2.get? b = some o := fun b o hb eo => by
      have hb : b ≠ it := by simpa using hb
      exact c5.extBut _ _ hb (c3 b o hb eo)
    have hT : h2.IsTuple s.heap.objs.size #[.ref kvs[i].2.1, u] := ⟨_, c5.extBut _ _ ni c2, rfl, _, rfl⟩
    have I2 := I.turnedT (tk := s.toks) (wr := [it]) (xs := [.ref kvs[i].2.1, kvs[i].2.2]) k2 hf (Nat.le_refl _) hT (.cons rfl (.cons ru .nil)) (small_line (by show 2 ≤ 1000; decide))
    refine ⟨.ref s.heap.objs.size, _, I2, rfl, ⟨kvs, _, _, g1, I.hok.fresh (Nat.le_refl _), hk, rfl, rfl⟩, ⟨_, _, c4⟩, fun b hb => ?_⟩
    obtain rfl : b = it := by simpa using hb
    rw [upd_ne ni.symm]
    exact (hf b hb).1
  done := by
    intro X hP hw hK hc i pins s σ H E I hf st hg
    subst hP hw hK
    obtain ⟨kvs, g1, g2⟩ := hg
    obtain ⟨ok, ov, st⟩ := st
    obtain ⟨_, ho, _, es', ep', xs, ed', r, em⟩ := frzU_at I.hok g1
    rw [ed] at ed'; cases ed'
    refine itemsR_end (I.ok.hd hc) st ho ed (by rw [← Array.length_toList, em, List.length_map, ← r.len]; exact g2) fun h' eb => ⟨rfl, ?_⟩
    exact I.turnedL (tk := s.toks) (wr := [it]) (fun b o hb e => eb b o (by simpa using hb) e) hf
  self := fun _ _ _ _ _ ⟨_, _, st⟩ h => PySem.W.kcp_self st h
section
variable {X : Cx} {elts : List Expr} {kk : Nat} {tpos apos cpos : Pos} {o : Expr}
def iItems (tl : TE) : TI := fun σ H R => tl σ H fun v H1 => ∃ a ob kvs, v = .ref a ∧ H1 a = some (.frz ob (.dU kvs)) ∧ R (Iti a ob) H1
theorem pi_items {tl : TE} (hb : attributeBase o "items" X.env (eval o X.env) = eval o X.env) (hline : (apos.endLine == cpos.line) = true) (hl : PE X o tl) : PI X (.Tuple elts kk tpos) (.Call (.Attribute o "items" apos) [] [] cpos) (iItems tl) := by
  intro pins s σ H R I h
  refine wpAny_Call_method (T := "dict") (id := "dict.items") hb rfl hline F.plainAttrs_dict F.slot_dict_items F.type_dict_items (thn (hl pins s σ H _ I h) fun v s1 ⟨x, H1, I1, r1, q1⟩ => ?_)
  obtain ⟨a, ob, kvs, e, hd, q⟩ := q1
  subst e
  cases r1
  obtain ⟨z, ho, hx, es, ep, xs, ed, r, em⟩ := frzU_at I1.hok hd
  have hT : s1.TypeIs (.ref a) "dict" := ⟨ob, ho, hx.1⟩
  refine ⟨hT, fun o' e' => ?_, ?_⟩
  · cases e'; exact ⟨ob, ho, hx.2.1⟩
  show wpAny _ _ (callWith cpos (.builtin "dict.items") [.ref a] [] []) _ _ s1
  refine method_meetsIn F.slot_dict_items F.entry_dict_items rfl (PySem.evalArgs_none ⟨rfl, hT, F.args_dict_items_1 _, (fun _ R s => s = s1 ∧ R (.ok (.ret (.ref s.heap.objs.size))) { s with heap := s.heap.push { cls := .type "dict_items", data := .fields #[.ref a] } }), ?_, ⟨rfl, ?_⟩⟩)
  · refine .of_wp fun A R s ⟨es, h⟩ => ?_
    obtain rfl : s = s1 := es
    unfold Builtin.«dict.items»; refine wpAny_bind ?_; unfold Builtin.Dict.noArgs; refine wpAny_bind (wpAny_notOrdered_dict hT ?_)
    show wpAny _ _ (pure a) _ _ s; refine wpAny_pure ?_; show wpAny _ _ (Builtin.Dict.showsAll a >>= _) _ _ s; unfold Builtin.Dict.showsAll
    rw [if_neg (by rw [z]; exact Bool.false_ne_true)]; exact wpAny_bind (wpAny_pure (wpAny_bind (wpAny_newObj_type (wpAny_pure ⟨_, rfl, h⟩))))
  have I2 : Inv X pins σ H1 { s1 with heap := s1.heap.push { cls := .type "dict_items", data := .fields #[.ref a] } } := I1.kept (t' := s1.toks) fun b o e => Heap.get?_push_of_some _ e
  refine itemsR_iter (s := { s1 with heap := s1.heap.push { cls := .type "dict_items", data := .fields #[.ref a] } }) (d := a) ⟨_, Heap.get?_push_size _ rfl, rfl, rfl⟩ (Heap.get?_push_of_some _ ho) ed ?_
  refine ⟨_, [_], _, _, H1, rfl, I2.kept (t' := s1.toks) fun b o e => Heap.get?_push_of_some _ e, turn_items a _ ob es ep ed, ⟨_, _, Heap.get?_push_size _ rfl⟩, fun b hb => ?_, q⟩
  obtain rfl := List.mem_singleton.mp hb
  exact I2.fpOk (Nat.le_refl _) (I2.hok.fresh (Nat.le_refl _))
def pairsT (ks : List (List Key)) (l : List D) : List D := (ks.zip l).map fun p => D.tup [keyT p.1, p.2]
theorem itok_items {K : PySem.W.Frag} {S : Addr → Prop} {H : Hp} {a : Addr} {ob : Obj} {kvs : List (List Key × Addr × V)} {ks : List (List Key)} {l : List D} (hk : kvs.map (·.1) = ks) (h : H a = some (.frz ob (.dU kvs))) (hs : KsOk K H kvs) (hr : Reps K S H l (kvs.map (·.2.2))) : ItOk K S H (Iti a ob) (pairsT ks l) := by
  refine ⟨.fT ob ks l, .ref a, by simp only [Rep]; exact ⟨a, kvs, rfl, h, hk, hs, hr⟩, fun S H' q i => ?_⟩
  simp only [Rep] at q
  obtain ⟨b, kvs', eb, q, k2, s2, r2⟩ := q
  cases eb
  unfold pairsT
  rw [List.getElem?_map]
  have hl : l.length = kvs'.length := by rw [← r2.len, List.length_map]
  subst k2
  refine ⟨fun d e => ?_, fun e => ⟨kvs', q, ?_⟩⟩
  · obtain ⟨⟨x, y⟩, e3, rfl⟩ := Option.map_eq_some_iff.mp e
    rw [List.getElem?_zip_eq_some, List.getElem?_map] at e3
    obtain ⟨e3, e4⟩ := e3
    obtain ⟨kv, e5, rfl⟩ := Option.map_eq_some_iff.mp e3
    refine ⟨⟨kvs', q, (List.getElem?_eq_some_iff.mp e5).1⟩, fun z H'' ⟨kvs2, T, e6, q2, hT, e7, ez, eH⟩ => ?_⟩
    subst ez eH
    rw [q] at q2; cases q2
    rw [e5] at e7; cases e7
    obtain ⟨u, eu, ru⟩ := r2.get e4
    rw [List.getElem?_map, e5] at eu
    cases eu
    refine ⟨.new hT, ?_⟩
    simp only [Rep]
    refine ⟨T, _, rfl, SqT.of upd_same, ?_⟩
    simp only [Reps]
    exact ⟨_, _, rfl, Rep.go (Goes.same (.new hT)) _ _ (keyT_rep.mpr ⟨_, rfl, s2 kv (List.mem_of_getElem? e5)⟩), _, _, rfl, Rep.go (Goes.same (.new hT)) _ _ ru, rfl⟩
  · have e4 := List.getElem?_eq_none_iff.mp (Option.map_eq_none_iff.mp e)
    rw [List.length_zip, List.length_map] at e4
    omega
def iIT (E : DTE) : DTI := fun ρ q => E ρ fun d ρ' => ∃ ob ks l, d = .fT ob ks l ∧ q (pairsT ks l) ρ'
theorem diIT {κ : List SK} {pu : Bool} {E : DTE} (hb : attributeBase o "items" X.env (eval o X.env) = eval o X.env) (hline : (apos.endLine == cpos.line) = true) (h : DE X κ pu .cl o E) : DI X κ pu false (.Tuple elts kk tpos) (.Call (.Attribute o "items" apos) [] [] cpos) (iIT E) := by
  refine ⟨(pi_items hb hline h.h).weak fun σ H R ⟨G, O, ρ, q, hE, hq, k⟩ => ⟨G, O, ρ, _, hE, hq, fun v H1 d ρ1 O1 fp s1 e1 vo p1 ⟨ob, ks, l, ed, hq1⟩ => ?_⟩⟩
  subst ed
  have r := vo.2
  simp only [Rep] at r
  obtain ⟨a, kvs, rfl, hH, hk, hs, hr⟩ := r
  exact ⟨a, ob, kvs, rfl, hH, k _ H1 _ ρ1 O1 s1 e1.drop p1 (itok_items hk hH hs hr) hq1⟩
theorem pi_fk {tg l : Expr} {tl : TE} (hl : PE X l tl) : PI X tg l (fun σ H R => tl σ H fun v H1 => ∃ a ob kvs, v = .ref a ∧ H1 a = some (.frz ob (.dK kvs)) ∧ R (Itd a ob kvs) H1) := by
  intro pins s σ H R I h
  refine thn (hl pins s σ H _ I h) fun v s1 ⟨x, H1, I1, r1, q1⟩ => ?_
  obtain ⟨a, ob, kvs, e, hd, q⟩ := q1
  subst e
  cases r1
  obtain ⟨z1, z2, z3, vs, r, o, es, ep, h1, h2, h3, h4⟩ := (show ObjOk X.prog X.w H1 s1.heap a (.frz ob (.dK kvs)) from I1.hok a _ hd)
  rw [z1] at h1; cases h1
  refine wpAny_pyIter_dict z3 (⟨_, es, z1, h2, h3, h4⟩ : s1.heap.DictAt (mixKind X.prog X.w) a vs ep) ?_
  refine ⟨s1.heap.objs.size, [s1.heap.objs.size], _, _, H1, rfl, I1.kept (t' := s1.toks) fun b o e => Heap.get?_push_of_some _ e, turn_dk a _ ob kvs es ep h3, ⟨_, Heap.get?_push_size _ rfl, rfl, by rw [r.len]; rfl⟩, fun b hb => ?_, q⟩
  obtain rfl : b = s1.heap.objs.size := by simpa using hb
  exact I1.fpOk (Nat.le_refl _) (I1.hok.fresh (Nat.le_refl _))
def iFK (E : DTE) : DTI := fun ρ q => E ρ fun d ρ' => ∃ ob ks l, d = .fK ob ks l ∧ q (ks.map keyD) ρ'
theorem diFK {κ : List SK} {pu : Bool} {tg l : Expr} {E : DTE} (h : DE X κ pu .cl l E) : DI X κ pu false tg l (iFK E) := by
  refine ⟨(pi_fk h.h).weak fun σ H R ⟨G, O, ρ, q, hE, hq, k⟩ => ⟨G, O, ρ, _, hE, hq, fun v H1 d ρ1 O1 fp s1 e1 vo p1 ⟨ob, ks, l, ed, hq1⟩ => ?_⟩⟩
  subst ed
  have r := vo.2
  simp only [Rep] at r
  obtain ⟨a, kvs, rfl, hH, hk, hr⟩ := r
  exact ⟨a, ob, kvs, rfl, hH, k _ H1 _ ρ1 O1 s1 e1.drop p1 (itok_dk hk hH) hq1⟩
end
section
variable {X : Cx} {pins : List (Addr × Obj)} {σ : List (Option V)} {H : Hp} {s : Shared}
theorem Inv.freezeM {a : Addr} {o : Obj} {u : HO} (hu : isM u) (I : Inv X pins σ H s) (e : H a = some u) (eo : s.heap.get? a = some o) : Inv X pins σ (upd H a (.frz o u)) s := by
  have ne : ∀ b, H b = none → b ≠ a := fun b z q => by rw [q, e] at z; cases z
  have nu : ∀ b, H b = none → upd H a (.frz o u) b = none := fun b z => by rw [upd_ne (ne b z)]; exact z
  have nt : ∀ {b : Addr} {w : HO}, H b = some w → ¬ isM w → b ≠ a := fun z n q => by rw [q, e] at z; cases z; exact n hu
  have B := I.base
  refine ⟨I.ok, I.os, I.bare, ⟨B.keep, B.slot, fun b ob q n x => nu b (B.free b ob q n x), B.there, fun b xs q => ?_, fun b ob u q => ?_, fun b ps q => ?_⟩, I.loc, I.cell, nu _ I.free, fun x c q => nu _ (I.freeC x c q), fun p hp => ?_, fun b v q => ?_, I.len⟩
  · have z := B.tups b xs q
    rw [upd_ne (nt z (fun h => h))]; exact z
  · have z := B.frzs b ob u q
    rw [upd_ne (nt z (fun h => h))]; exact z
  · obtain ⟨more, z⟩ := B.tbls b ps q
    exact ⟨more, by rw [upd_ne (nt z (fun h => h))]; exact z⟩
  · obtain ⟨z1, z2, z3⟩ := I.pin p hp
    exact ⟨z1, nu _ z2, z3⟩
  · have go : ∀ b v, ObjOk X.prog X.w H s.heap b v → ObjOk X.prog X.w (upd H a (.frz o u)) s.heap b v := fun b v z => z.stay (fun _ _ _ q => q) (fun c q => by
      rw [upd_ne (nt q (fun h => h))]; exact q) (fun c xs q => by
      rw [upd_ne (nt q (fun h => h))]; exact q)
    by_cases hb : b = a
    · subst hb
      rw [upd_same] at q
      cases q
      exact ⟨eo, go _ _ (I.hok _ _ e)⟩
    · rw [upd_ne hb] at q
      exact go _ _ (I.hok _ _ q)
theorem pe_frz {e : Expr} {t : TE} (h : PE X e t) : PE X e (fun σ H Q => t σ H fun v H1 => ∃ a u, v = .ref a ∧ H1 a = some u ∧ isM u ∧ ∀ o, Q v (upd H1 a (.frz o u))) := by
  intro pins s σ H Q I q
  refine thn (h pins s σ H _ I q) fun v s1 ⟨x, H1, I1, r1, a, u, ex, e1, hm, q1⟩ => ?_
  obtain ⟨o, eo⟩ : ∃ o, s1.heap.get? a = some o := by
    have := I1.hok a u e1
    cases u with
    | lst xs => obtain ⟨_, _, _, _, e⟩ := this; exact ⟨_, e⟩
    | dK kvs => obtain ⟨_, _, _, _, o, _, _, e, _⟩ := this; exact ⟨_, e⟩
    | dU kvs => obtain ⟨_, _, _, _, o, _, _, e, _⟩ := this; exact ⟨_, e⟩
    | _ => exact hm.elim
  exact ⟨x, _, I1.freezeM hm e1 eo, r1, q1 o⟩
end
def eFrzT (E : DTE) : DTE := fun ρ q => E ρ fun d ρ' => ∃ ks l, d = .dT ks l ∧ ∀ o, q (.fT o ks l) ρ'
def eFrzK (E : DTE) : DTE := fun ρ q => E ρ fun d ρ' => ∃ ks l, d = .dK ks l ∧ ∀ o, q (.fK o ks l) ρ'
section
variable {X : Cx} {κ : List SK} {md : SK} {pu : Bool} {e : Expr} {E : DTE} {pos : Pos}
theorem frz_step {G : G0} {O O1 : Addr → Prop} {ρ ρ1 : EnvD} {σ : St} {H H1 : Hp} {fp : List Addr} {a : Addr} {u w : HO} (hE : EnvOk X.K κ G O ρ σ H) (s1 : Step O O1 H H1) (e1 : EnvOk X.K κ (G.plus fp) O1 ρ1 σ H1) (p1 : Pu pu ρ ρ1 O O1 H H1) (ha : a ∈ fp) (f1 : H a = none) (hH : H1 a = some u) (hm : isM u) :
    Step O O1 H (upd H1 a w) ∧ EnvOk X.K κ G O1 ρ1 σ (upd H1 a w) ∧ Pu pu ρ ρ1 O O1 H (upd H1 a w) := by
  have h0 : G.H0 a = none := by
    obtain ⟨F, f⟩ := hE
    cases z : G.H0 a with
    | none => rfl
    | some o => exact absurd f1 (f.dom a (by rw [z]; simp))
  have ne : ∀ b o, H b = some o → b ≠ a := fun b o z w => by rw [w, f1] at z; cases z
  refine ⟨⟨fun b u n z => by rw [upd_ne (ne b u z)]; exact s1.keep b u n z, s1.own, fun b z => ?_⟩, (e1.updS (o := w) (by exact .inr ha) hH hm h0).drop, fun z => ?_⟩
  · by_cases hb : b = a
    · rw [hb, upd_same]; simp
    · rw [upd_ne hb]; exact s1.dom b z
  · obtain ⟨z1, z2, z3⟩ := p1 z
    exact ⟨fun b u q => by rw [upd_ne (ne b u q)]; exact z1 b u q, z2, z3⟩
theorem DE.frzT (h : DE X κ pu (.ow 1) e E) : DE X κ pu .cl e (eFrzT E) := by
  refine ⟨(pe_frz h.h).weak fun σ H Q ⟨G, O, ρ, q, hE, hq, k⟩ => ⟨G, O, ρ, _, hE, hq, fun v H1 d ρ1 O1 fp s1 e1 vo p1 ⟨ks, l, ed, hq1⟩ => ?_⟩⟩
  subst ed
  obtain ⟨nd, hf, ho⟩ := vo
  obtain ⟨a, kvs, rfl, rfl, hH, hk, hs, r⟩ := own1_du ho
  obtain ⟨f1, f2, f3⟩ := hf a (by simp)
  refine ⟨a, _, rfl, hH, trivial, fun o => ?_⟩
  obtain ⟨z1, z2, z3⟩ := frz_step (w := .frz o (.dU kvs)) hE s1 e1 p1 (by simp) f1 hH trivial
  have gU : Goes (uni (uni G.S0 (fpS [a])) O1) (uni G.S0 O1) H1 (upd H1 a (.frz o (.dU kvs))) := by
    have g1 := Goes.upd (S := uni (uni G.S0 (fpS [a])) O1) (o := .frz o (.dU kvs)) hH trivial (.inl (.inr (by simp [fpS])))
    exact ⟨g1.tup, fun b u n q => ⟨(g1.obj b u n q).1, fun z => n (z.elim (fun z => .inl (.inl z)) .inr)⟩, g1.frz⟩
  refine k _ _ (.fT o ks l) ρ1 O1 [] z1 (by rw [plus_nil]; exact z2) ⟨rfl, ?_⟩ z3 (hq1 o)
  simp only [Rep]
  exact ⟨a, kvs, rfl, upd_same, hk, fun x hx => (hs x hx).upd hH, Reps.go gU l _ r⟩
theorem DE.frzK (h : DE X κ pu (.ow 2) e E) : DE X κ pu .cl e (eFrzK E) := by
  refine ⟨(pe_frz h.h).weak fun σ H Q ⟨G, O, ρ, q, hE, hq, k⟩ => ⟨G, O, ρ, _, hE, hq, fun v H1 d ρ1 O1 fp s1 e1 vo p1 ⟨ks, l, ed, hq1⟩ => ?_⟩⟩
  subst ed
  obtain ⟨nd, hf, ho⟩ := vo
  unfold Own at ho
  obtain ⟨a, fps, rfl, rfl, ho⟩ := ho
  rcases ho with ⟨_, _, ee, _⟩ | ⟨ks', l', kvs, ee, hH, hk, n1, n2, n3⟩ | ⟨_, _, _, ee, _⟩
  · cases ee
  · cases ee
    obtain ⟨f1, f2, f3⟩ := hf a (by simp)
    refine ⟨a, _, rfl, hH, trivial, fun o => ?_⟩
    obtain ⟨z1, z2, z3⟩ := frz_step (w := .frz o (.dK kvs)) hE s1 e1 p1 (by simp) f1 hH trivial
    refine k _ _ (.fK o ks l) ρ1 O1 [] z1 (by rw [plus_nil]; exact z2) ⟨rfl, ?_⟩ z3 (hq1 o)
    have gU : Goes (uni (uni G.S0 O1) (· = a)) (uni G.S0 O1) H1 (upd H1 a (.frz o (.dK kvs))) := by
      have g1 := Goes.upd (S := uni (uni G.S0 O1) (· = a)) (o := .frz o (.dK kvs)) hH trivial (.inr rfl)
      exact ⟨g1.tup, fun b u n q => ⟨(g1.obj b u n q).1, fun z => n (.inl z)⟩, g1.frz⟩
    simp only [Rep]
    refine ⟨a, kvs, rfl, upd_same, hk, Reps.go gU l _ (Reps.of_all l _ (by rw [List.length_map]; exact n2) fun i x u e2 e3 => ?_)⟩
    have hi := (List.getElem?_eq_some_iff.mp e2).1
    have ef : fps[i]? = some (fps[i]'(by omega)) := List.getElem?_eq_getElem _
    refine Own.rep 1 _ x u (fun b hb z => ?_) (fun b z => ?_) (n3 i _ x u ef e2 e3)
    · have hb' : b ∈ fps.flatten := List.mem_flatten.mpr ⟨_, List.mem_of_getElem? ef, hb⟩
      obtain ⟨y1, y2, y3⟩ := hf b (List.mem_cons_of_mem _ hb')
      rcases z with (z | z) | z
      · exact hE.s0 b z y1
      · exact y2 z
      · exact (List.nodup_cons.mp nd).1 (z ▸ hb')
    · rcases z with (z | z) | z
      · exact .inl (.inl z)
      · exact .inr z
      · exact .inl (.inr (by rw [z]; simp [fpS]))
  · cases ee
def eGetF (E Ek Ef : DTE) : DTE := fun ρ q => E ρ fun d ρ1 => ∃ o ks l, d = .fK o ks l ∧ Ek ρ1 fun y ρ2 => Ef ρ2 fun z ρ3 => ∃ k, y = keyD k ∧ q ((lookD ks l k).getD z) ρ3
theorem lookD_none {k : Key} : ∀ {kvs : List (Key × V)} {l : List D}, l.length = kvs.length → lookD (kvs.map (·.1)) l k = none → valV kvs k = none
  | [], l, _, e => rfl
  | kv :: kvs, [], h, e => by simp at h
  | kv :: kvs, x :: l, h, e => by
    simp only [List.map_cons, lookD] at e
    by_cases z : kv.1 = k
    · rw [if_pos z] at e; cases e
    · rw [if_neg z] at e
      rw [valV_neg z]
      exact lookD_none (by simpa using h) e
theorem dgetF {o f : Expr} {Ek Ef : DTE} {apos cpos : Pos} (hu : X.A.units + 1 < cLine) (m : M2 X o "get" apos e f cpos) (ho : DE X κ true .cl o E) (he : DE X κ true .cl e Ek) (hf : DE X κ true .cl f Ef) : DE X κ true .cl (.Call (.Attribute o "get" apos) [e, f] [] cpos) (eGetF E Ek Ef) := by
  refine ⟨(pe_dget2 hu ho.h he.h hf.h m).weak fun σ H Q ⟨G, O, ρ, q, hE, hq, kk⟩ => ⟨G, O, ρ, _, hE, hq, fun v H1 d ρ1 O1 fp s1 e1 vo p1 ⟨ob, ks, l, ed, hq1⟩ => ?_⟩⟩
  obtain ⟨sm1, er1, eO1⟩ := p1 rfl
  subst er1 eO1 ed
  obtain ⟨rfl, r1⟩ := vo
  rw [plus_nil] at e1
  simp only [Rep] at r1
  obtain ⟨a, kvs, rfl, hH, rfl, hr⟩ := r1
  refine ⟨a, rfl, .inl ⟨kvs, .inr ⟨ob, hH⟩⟩, G, _, _, _, e1, hq1, fun v2 H2 d2 ρ2 O2 fp2 s2 e2 vo2 p2 hq2 => ⟨G, O2, ρ2, _, e2.drop, hq2, fun v3 H3 d3 ρ3 O3 fp3 s3 e3 vo3 p3 ⟨k, ek, hq3⟩ => ?_⟩⟩
  obtain ⟨sm2, er2, eO2⟩ := p2 rfl
  obtain ⟨sm3, er3, eO3⟩ := p3 rfl
  subst er3 eO3
  subst er2 eO2 ek
  have smA : Same H1 H3 := sm2.trans sm3
  have hk := keyD_rep.mp vo2.2
  subst hk
  refine ⟨valV kvs k, .inl ⟨kvs, k, .inr ⟨ob, smA _ _ hH⟩, rfl, rfl⟩, ?_⟩
  refine kk _ H3 _ _ _ [] (Step.of_same (sm1.trans smA)) (by rw [plus_nil]; exact e3.drop) ⟨rfl, ?_⟩ (fun _ => ⟨sm1.trans smA, rfl, rfl⟩) hq3
  cases hl : lookD (kvs.map (·.1)) l k with
  | none =>
    rw [lookD_none (by rw [← hr.len, List.length_map]) hl]
    exact vo3.2
  | some x =>
    obtain ⟨u, g1, g2⟩ := lookD_val hr hl
    rw [g1]
    exact Rep.go (Goes.same smA) _ _ g2
end
def tSdef (td ty tx : TE) : TE := fun σ H Q => td σ H fun x H1 => ∃ a, x = .ref a ∧ IsD H1 a ∧ ty σ H1 fun y H2 => tx σ H2 fun z H3 => ∃ kvs k, H3 a = some (.dK kvs) ∧ y = kV k ∧ kvs.length < sizeLine ∧
  (∀ v, valV kvs k = some v → Q v H3) ∧ (valV kvs k = none → Q z (upd H3 a (.dK (putK kvs k z))))
section
variable {X : Cx} {o e f : Expr} {apos cpos : Pos} {td ty tx : TE}
theorem pe_sdef (ho : PE X o td) (he : PE X e ty) (hf : PE X f tx) (m : M2 X o "setdefault" apos e f cpos) : PE X (.Call (.Attribute o "setdefault" apos) [e, f] [] cpos) (tSdef td ty tx) := by
  intro pins s σ H Q I h
  refine wpAny_Call_method m.base m.few m.line PySem.F.plainAttrs_dict PySem.F.slot_dict_setdefault PySem.F.type_dict_setdefault (thn (ho pins s σ H _ I h) fun u s1 ⟨x, H1, I1, rx, a, ex, d, q1⟩ => ?_)
  subst ex
  obtain rfl : u = Value.ref a := rx
  obtain ⟨t1, t2, _⟩ := isD_at I1 d
  refine ⟨t1, t2, ?_⟩; rw [m.trees]
  refine Calls.callWith_builtin rfl (Calls.evalArgs_plain (Calls.spliced_cons (thn (he pins s1 σ H1 _ I1 q1) fun iv s2 ⟨y, H2, I2, ry, q2⟩ => Calls.spliced_cons (thn (hf pins s2 σ H2 _ I2 q2) fun fv s3 ⟨z, H3, I3, rz, kvs, k, e3, ey, hl, q3, q4⟩ => Calls.spliced_nil ?_))))
  subst ey
  obtain ⟨zz, hd, vs, rel, dd⟩ := dk_of I3.hok e3
  have hz : vs.length ≤ sizeLine := by rw [← rel.length]; exact zz
  have rv := rel.val k
  refine call_meetsIn PySem.F.slot_dict_setdefault dd.typeIs PySem.F.entry_dict_setdefault (PySem.F.args_dict_setdefault_3 _ _ _) (kt_meets_setdefault (mixKind X.prog X.w) a (kV_is ry) hd fv) ⟨vs, dd, hz, fun w hw => ?_, fun hw h' dd' hs => ?_⟩
  · rw [hw] at rv
    cases e5 : valV kvs k with
    | none => rw [e5] at rv; exact rv.elim
    | some v =>
      rw [e5] at rv
      exact ⟨v, H3, I3.tok _, rv, q3 v e5⟩
  · rw [hw] at rv
    cases e5 : valV kvs k with
    | some v => rw [e5] at rv; exact rv.elim
    | none =>
      have he : ∃ q, h'.get? a = some q := let ⟨q, _, _, hq, _⟩ := dd'; ⟨q, hq⟩
      have hl2 : (putK kvs k z).length ≤ sizeLine := by have := length_putK kvs k z; omega
      exact ⟨z, _, d_write I3 (by rw [e3]; exact True.intro) hs he (dk_new hl2 hd (rel.put k rz) dd'), rz, q4 e5⟩
end
def posK : List Key → Key → Option Nat
  | k' :: ks, k => if k' = k then some 0 else (posK ks k).map (· + 1)
  | [], _ => none
theorem posK_some {k : Key} : ∀ {kvs : List (Key × V)} {j : Nat}, posK (kvs.map (·.1)) k = some j → ∃ v, kvs[j]? = some (k, v) ∧ valV kvs k = some v
  | [], j, e => by simp [posK] at e
  | kv :: kvs, j, e => by
    simp only [List.map_cons, posK] at e
    by_cases z : kv.1 = k
    · rw [if_pos z] at e; cases e
      exact ⟨kv.2, by rw [← z]; rfl, valV_pos z⟩
    · rw [if_neg z] at e
      obtain ⟨i, e1, rfl⟩ := Option.map_eq_some_iff.mp e
      obtain ⟨v, h1, h2⟩ := posK_some e1
      exact ⟨v, by simpa using h1, by rw [valV_neg z]; exact h2⟩
theorem posK_none {k : Key} : ∀ {kvs : List (Key × V)}, posK (kvs.map (·.1)) k = none → valV kvs k = none ∧ ∀ v, putK kvs k v = kvs ++ [(k, v)] := by
  intro kvs e
  have h : ∀ {kvs : List (Key × V)}, posK (kvs.map (·.1)) k = none → ∀ kv ∈ kvs, kv.1 ≠ k := by
    intro kvs
    induction kvs with
    | nil => intro _ kv h; simp at h
    | cons x r ih =>
      intro e kv hkv
      simp only [List.map_cons, posK] at e
      by_cases z : x.1 = k
      · rw [if_pos z] at e; cases e
      · rw [if_neg z] at e
        rcases List.mem_cons.mp hkv with rfl | hkv
        · exact z
        · exact ih (Option.map_eq_none_iff.mp e) kv hkv
  have hn := h e
  constructor
  · unfold valV
    rw [List.find?_eq_none.mpr (fun kv hkv => by simpa using hn kv hkv)]; rfl
  · intro v
    unfold putK
    rw [if_neg]
    simp only [List.any_eq_true, decide_eq_true_eq, not_exists, not_and]
    exact hn
section
variable {K : PySem.W.Frag} {κ : List SK} {G : G0} {O : Addr → Prop} {ρ : EnvD} {σ : St} {H : Hp}
theorem EnvOk.chgD2 {i : Nat} {ks : List Key} {l : List D} (h : EnvOk K κ G O ρ σ H) (hd : dep (kd κ i) = some 2) (e : ρ[i]? = some (some (.dK ks l))) : ∃ a kvs, σ[i]? = some (some (.ref a)) ∧ H a = some (.dK kvs) ∧ kvs.map (·.1) = ks ∧
    (∀ j l2, l[j]? = some (.lst l2) → ∃ b ws, (kvs.map (·.2))[j]? = some (.ref b) ∧ H b = some (.lst ws) ∧ Reps K (uni G.S0 O) H l2 ws ∧
      ∀ l' ws', Reps K (uni G.S0 O) H l' ws' → EnvOk K κ G O (kl κ (ρ.set i (some (.dK ks (l.set j (.lst l')))))) σ (upd H b (.lst ws'))) ∧
    ∀ p k l' ws', H p = none → Reps K (uni G.S0 O) H l' ws' → ∃ O', EnvOk K κ G O' (kl κ (ρ.set i (some (.dK (ks ++ [k]) (l ++ [.lst l']))))) σ (upd (upd H a (.dK (kvs ++ [(k, .ref p)]))) p (.lst ws')) := by
  obtain ⟨F, f⟩ := id h
  obtain ⟨v, h1, h2⟩ := slot_own f hd e
  unfold Own at h2
  obtain ⟨a, fps, rfl, hF, h2⟩ := h2
  rcases h2 with ⟨_, _, ee, _⟩ | ⟨ks', l', kvs, ee, hH, hk, n1, n2, n3⟩ | ⟨_, _, _, ee, _⟩
  · cases ee
  · cases ee
    have ndF := f.nd i
    rw [hF] at ndF
    have aF : a ∈ F i := by rw [hF]; simp
    have hOa : O a := (f.own a).mpr ⟨i, aF⟩
    have e0 : uni G.S0 (fpS []) = G.S0 := by funext c; simp [uni, fpS]
    refine ⟨a, kvs, h1, hH, hk, fun j l2 ej => ?_, fun p k m ws' hp r' => ?_⟩
    · have hj : j < l.length := (List.getElem?_eq_some_iff.mp ej).1
      have ef : fps[j]? = some (fps[j]'(by omega)) := List.getElem?_eq_getElem _
      have ev : (kvs.map (·.2))[j]? = some ((kvs.map (·.2))[j]'(by rw [List.length_map]; omega)) := List.getElem?_eq_getElem _
      obtain ⟨b, ws, eb, efb, hb, rb⟩ := own1_lst (n3 j _ _ _ ef ej ev)
      rw [efb] at ef
      rw [eb] at ev
      have inF : b ∈ F i := by rw [hF]; exact List.mem_cons_of_mem _ (List.mem_flatten.mpr ⟨[b], List.mem_of_getElem? ef, by simp⟩)
      have hO : O b := (f.own b).mpr ⟨i, inF⟩
      have nab : a ≠ b := by
        rintro rfl
        exact (List.nodup_cons.mp ndF).1 (List.mem_flatten.mpr ⟨[a], List.mem_of_getElem? ef, by simp⟩)
      refine ⟨b, ws, ev, hb, rb, fun m ws' r' => ?_⟩
      have gU : Goes (uni G.S0 O) (uni G.S0 O) H (upd H b (.lst ws')) := Goes.upd hb trivial (.inr hO)
      have q := EnvF.chg (H' := upd H b (.lst ws')) (f' := F i) (fp := []) (d' := .dK ks (l.set j (.lst m))) (v := .ref a) f hd (fun c o nc ec => by
          have hne : c ≠ b := by rintro rfl; exact nc inF
          rw [upd_ne hne]; exact ec) (fun c ec => by
          by_cases hc : c = b
          · rw [hc, upd_same]; simp
          · rw [upd_ne hc]; exact ec) (f.nd i) (fun c hc => ⟨.inl hc, by
            by_cases hcb : c = b
            · rw [hcb]; exact ⟨_, upd_same, trivial⟩
            · obtain ⟨_, o, eo, m⟩ := f.mu i c hc
              exact ⟨o, by rw [upd_ne hcb]; exact eo, m⟩⟩) (fun c hc => absurd hc (by simp)) h1 (by
            rw [OF_self f, e0]
            unfold Own
            refine ⟨a, fps, rfl, hF, .inr (.inl ⟨ks, _, kvs, rfl, by rw [upd_ne nab]; exact hH, hk, by rw [List.length_set]; exact n1, by rw [List.length_set]; exact n2, fun y fj x u e1 e2 e3 => ?_⟩)⟩
            by_cases hjk : y = j
            · subst hjk
              rw [List.getElem?_set_self hj] at e2
              cases e2
              rw [ef] at e1; cases e1
              rw [ev] at e3; cases e3
              exact own1_mk upd_same (Reps.go gU m ws' r')
            · rw [List.getElem?_set_ne (Ne.symm hjk)] at e2
              refine Own.go gU 1 fj x u (fun c hc o ec => ?_) (n3 y fj x u e1 e2 e3)
              have hne : c ≠ b := by rintro rfl; exact flat_apart (List.nodup_cons.mp ndF).2 e1 ef hjk hc (by simp)
              rw [upd_ne hne]; exact ec)
      rw [OF_self f, plus_nil] at q
      exact ⟨_, q.1⟩
    · have npa : p ≠ a := fun z => by rw [z, hH] at hp; cases hp
      have pF : ∀ y, p ∉ F y := fun y z => by obtain ⟨_, o, eo, _⟩ := f.mu y p z; rw [hp] at eo; cases eo
      have f'nd : (a :: (fps ++ [[p]]).flatten).Nodup := by
        rw [List.flatten_append]
        rw [show a :: (fps.flatten ++ [[p]].flatten) = F i ++ [p] by rw [hF]; simp]
        refine List.nodup_append.mpr ⟨f.nd i, by simp, fun x hx y hy => ?_⟩
        have : y = p := by simpa using hy
        rw [this]; rintro rfl; exact pF i hx
      have inf' : ∀ c, c ∈ a :: (fps ++ [[p]]).flatten ↔ c ∈ F i ∨ c = p := fun c => by rw [hF, List.flatten_append]; simp [or_left_comm, or_comm]
      have OFe : ∀ c, OF (setF F i (a :: (fps ++ [[p]]).flatten)) c ↔ O c ∨ c = p := fun c => by
        constructor
        · rintro ⟨y, hy⟩
          by_cases hyi : y = i
          · rw [hyi, setF_at] at hy
            exact ((inf' c).mp hy).imp (fun z => (f.own c).mpr ⟨i, z⟩) id
          · rw [setF_ne hyi] at hy; exact .inl ((f.own c).mpr ⟨y, hy⟩)
        · rintro (z | z)
          · obtain ⟨y, hy⟩ := (f.own c).mp z
            by_cases hyi : y = i
            · exact ⟨i, by rw [setF_at]; exact (inf' c).mpr (.inl (hyi ▸ hy))⟩
            · exact ⟨y, by rw [setF_ne hyi]; exact hy⟩
          · exact ⟨i, by rw [setF_at]; exact (inf' c).mpr (.inr z)⟩
      have g1 : Goes (uni G.S0 O) (uni G.S0 O) H (upd H a (.dK (kvs ++ [(k, .ref p)]))) := Goes.upd hH trivial (.inr hOa)
      have hp1 : upd H a (.dK (kvs ++ [(k, .ref p)])) p = none := by rw [upd_ne npa]; exact hp
      have g2 := Goes.fresh (S := uni G.S0 O) (o := .lst ws') hp1
      have gU : Goes (uni G.S0 O) (uni G.S0 (OF (setF F i (a :: (fps ++ [[p]]).flatten)))) H (upd (upd H a (.dK (kvs ++ [(k, .ref p)]))) p (.lst ws')) :=
        ⟨fun b xs z => g2.tup b xs (g1.tup b xs z), fun b u n z => ⟨(g2.obj b u n (g1.obj b u n z).1).1, fun y => (g2.obj b u n (g1.obj b u n z).1).2 (by
          rcases y with y | y
          · exact .inl (.inl y)
          · exact ((OFe b).mp y).elim (fun y => .inl (.inr y)) .inr)⟩, fun b o u z => g2.frz b o u (g1.frz b o u z)⟩
      have q := EnvF.chg (H' := upd (upd H a (.dK (kvs ++ [(k, .ref p)]))) p (.lst ws')) (f' := a :: (fps ++ [[p]]).flatten) (fp := []) (d' := .dK (ks ++ [k]) (l ++ [.lst m])) (v := .ref a) f hd (fun c o nc ec => by
          have hne : c ≠ a := by rintro rfl; exact nc aF
          have hnp : c ≠ p := by rintro rfl; rw [hp] at ec; cases ec
          rw [upd_ne hnp, upd_ne hne]; exact ec) (fun c ec => by
          by_cases hc : c = p
          · rw [hc, upd_same]; simp
          · rw [upd_ne hc]
            by_cases hca : c = a
            · rw [hca, upd_same]; simp
            · rw [upd_ne hca]; exact ec) f'nd (fun c hc => by
            rcases (inf' c).mp hc with hc2 | rfl
            · refine ⟨.inl hc2, ?_⟩
              have hnp : c ≠ p := fun z => pF i (z ▸ hc2)
              rw [upd_ne hnp]
              by_cases hca : c = a
              · rw [hca, upd_same]; exact ⟨_, rfl, trivial⟩
              · obtain ⟨_, o, eo, m⟩ := f.mu i c hc2
                exact ⟨o, by rw [upd_ne hca]; exact eo, m⟩
            · exact ⟨.inr hp, _, upd_same, trivial⟩) (fun c hc => absurd hc (by simp)) h1 (by
            rw [e0]
            unfold Own
            refine ⟨a, fps ++ [[p]], rfl, rfl, .inr (.inl ⟨_, _, kvs ++ [(k, .ref p)], rfl, by rw [upd_ne npa.symm, upd_same], by rw [List.map_append, hk]; rfl, by simp [n1], by simp [n2], fun y fj x u e1 e2 e3 => ?_⟩)⟩
            rw [List.map_append] at e3
            by_cases hy : y < l.length
            · rw [List.getElem?_append_left (by omega)] at e1
              rw [List.getElem?_append_left hy] at e2
              rw [List.getElem?_append_left (by rw [List.length_map]; omega)] at e3
              refine Own.go gU 1 fj x u (fun c hc o ec => ?_) (n3 y fj x u e1 e2 e3)
              have hcF : c ∈ fps.flatten := List.mem_flatten.mpr ⟨fj, List.mem_of_getElem? e1, hc⟩
              have hca : c ≠ a := by rintro rfl; exact (List.nodup_cons.mp ndF).1 hcF
              have hcp : c ≠ p := by rintro rfl; exact pF i (by rw [hF]; exact List.mem_cons_of_mem _ hcF)
              rw [upd_ne hcp, upd_ne hca]; exact ec
            · have hyl : y = l.length := by
                have := (List.getElem?_eq_some_iff.mp e2).1
                rw [List.length_append, List.length_singleton] at this; omega
              subst hyl
              rw [List.getElem?_append_right (by omega), n1, Nat.sub_self] at e1
              rw [List.getElem?_append_right (by omega), Nat.sub_self] at e2
              rw [List.getElem?_append_right (by rw [List.length_map]; omega), List.length_map, n2, Nat.sub_self] at e3
              cases e1; cases e2; cases e3
              exact own1_mk upd_same (Reps.go gU m ws' r'))
      rw [plus_nil] at q
      exact ⟨_, _, q.1⟩
  · cases ee
end
def sSda (κ : List SK) (i ik jn : Nat) : DTS := fun De ρ => ∃ ks l kk d, ρ[i]? = some (some (.dK ks l)) ∧ ρ[ik]? = some (some (keyD kk)) ∧ ρ[jn]? = some (some d) ∧ ks.length < sizeLine ∧
  (∀ j, posK ks kk = some j → ∃ m, l[j]? = some (.lst m) ∧ m.length < sizeLine ∧ De.nx (kl κ (ρ.set i (some (.dK ks (l.set j (.lst (m ++ [d])))))))) ∧ (posK ks kk = none → De.nx (kl κ (ρ.set i (some (.dK (ks ++ [kk]) (l ++ [.lst [d]]))))))
theorem dsda {X : Cx} {κ : List SK} {md : SK} {i ik jn : Nat} {x y z : Str} {p1 p2 p3 p4 a1 a2 c1 c2 pos : Pos} (hs : swapsWith (.Call (.Attribute (.Call (.Attribute (.Name x p1) "setdefault" a1) [.Name y p2, .List [] p3] [] c1) "append" a2) [.Name z p4] [] c2) none pos.line X.env = pure false)
    (hline : (a2.endLine == c2.line) = true) (hbase : attributeBase (.Call (.Attribute (.Name x p1) "setdefault" a1) [.Name y p2, .List [] p3] [] c1) "append" X.env (eval (.Call (.Attribute (.Name x p1) "setdefault" a1) [.Name y p2, .List [] p3] [] c1) X.env) = eval (.Call (.Attribute (.Name x p1) "setdefault" a1) [.Name y p2, .List [] p3] [] c1) X.env)
    (m : M2 X (.Name x p1) "setdefault" a1 (.Name y p2) (.List [] p3) c1) (hk : dep (kd κ i) = some 2) (hky : kd κ ik = .cl) (hkz : kd κ jn = .cl)
    (hN : X.N[i]? = some x) (hv : Vis X.env.scope x) (hd : (x == ("__debug__" : Str)) = false) (hcd : (x == ("__classdict__" : Str)) = false)
    (hN2 : X.N[ik]? = some y) (hv2 : Vis X.env.scope y) (hd2 : (y == ("__debug__" : Str)) = false) (hcd2 : (y == ("__classdict__" : Str)) = false)
    (hN3 : X.N[jn]? = some z) (hv3 : Vis X.env.scope z) (hd3 : (z == ("__debug__" : Str)) = false) (hcd3 : (z == ("__classdict__" : Str)) = false) :
    DS X κ md (.Expr (.Call (.Attribute (.Call (.Attribute (.Name x p1) "setdefault" a1) [.Name y p2, .List [] p3] [] c1) "append" a2) [.Name z p4] [] c2) pos) (sSda κ i ik jn) := by
  refine ⟨(ps_expr (PE.bm (by simp [plainE]) (by simp) hline hbase PySem.F.plainAttrs_list PySem.F.slot_list_append PySem.F.type_list_append mt_append (pe_sdef (pe_var hN hv hd hcd) (pe_var hN2 hv2 hd2 hcd2) (pe_lst pa_nil) m) (pac rfl (pe_var hN3 hv3 hd3 hcd3) pa_nil)) hs).weak
    fun Dn σ H ⟨G, O, ρ, De, hE, ⟨ks, l, kk, d, r1, r2, r3, hl, there, new⟩, nx, bk, ct, rt⟩ => ?_⟩
  obtain ⟨F, f⟩ := id hE
  obtain ⟨a, kvs, g1, g2, g3, g4, g5⟩ := hE.chgD2 hk r1
  obtain ⟨vk, k1, k2⟩ := f.slot ik _ r2
  rw [hky] at k2
  have k2 := keyD_rep.mp k2
  subst k2
  obtain ⟨vz, z1, z2⟩ := f.slot jn _ r3
  rw [hkz] at z2
  subst g3
  refine ⟨.ref a, g1, a, rfl, .inl ⟨kvs, .inl g2⟩, _, k1, by rw [sizeLine_eq]; show 0 ≤ _; omega, fun p hp => ?_⟩
  have npa : p ≠ a := fun z => by rw [z, g2] at hp; cases hp
  have sp : Same H (upd H p (.lst [])) := .new hp
  refine ⟨kvs, kk, by rw [upd_ne npa.symm]; exact g2, rfl, by rw [List.length_map] at hl; exact hl, fun v hv => ?_, fun hv => ?_⟩
  · cases hj : posK (kvs.map (·.1)) kk with
    | none => rw [(posK_none hj).1] at hv; cases hv
    | some j =>
      obtain ⟨v', q1, q2⟩ := posK_some hj
      rw [hv] at q2; cases q2
      obtain ⟨mm, q3, q4, q5⟩ := there j hj
      obtain ⟨a', kvs', g1', g2', g3', g4', _⟩ := (hE.same0 sp).chgD2 hk r1
      rw [g1] at g1'; cases g1'
      rw [sp _ _ g2] at g2'; cases g2'
      obtain ⟨b, ws, t1, t2, t3, t4⟩ := g4' j mm q3
      rw [List.getElem?_map, q1] at t1
      have t1 : v = .ref b := by simpa using t1
      subst t1
      refine ⟨.inl ⟨rfl, ws, .inl (.inl t2)⟩, vz, z1, b, ws, vz, rfl, rfl, t2, by rw [t3.len]; exact q4, ?_⟩
      exact nx σ _ _ O (t4 _ _ (t3.snoc (Rep.go (Goes.same sp) _ _ z2))) q5
  · cases hj : posK (kvs.map (·.1)) kk with
    | some j =>
      obtain ⟨v', q1, q2⟩ := posK_some hj
      rw [hv] at q2; cases q2
    | none =>
      rw [(posK_none hj).2]
      obtain ⟨O', en⟩ := g5 p kk [d] [vz] hp (by simp only [Reps]; exact ⟨_, _, rfl, z2, rfl⟩)
      have eH : upd (upd (upd H p (.lst [])) a (.dK (kvs ++ [(kk, .ref p)]))) p (.lst ([] ++ [vz])) = upd (upd H a (.dK (kvs ++ [(kk, .ref p)]))) p (.lst [vz]) := by
        funext c
        simp only [upd]
        split <;> simp_all
      have hP : upd (upd H p (.lst [])) a (.dK (kvs ++ [(kk, .ref p)])) p = some (.lst []) := by rw [upd_ne npa, upd_same]
      refine ⟨.inl ⟨rfl, [], .inl (.inl hP)⟩, vz, z1, p, [], vz, rfl, rfl, hP, by rw [sizeLine_eq]; show 0 < _; omega, ?_⟩
      rw [eH]
      exact nx σ _ _ O' en (new hj)
def lexF (e r : Nat → Bool) (fin : Bool) : List Nat → Bool
  | [] => fin
  | j :: js => if e j = true then lexF e r fin js else r j
def RlAt (A : Around) (s : Shared) (x y : Value) (k : Bool) : Prop := ∀ (prog : Program) (w : World) (E : Value → Shared → Prop) (Q : Value → Shared → Prop), Q (.bool k) s → wpAny (model prog w) A (richCompare .Lt x y) Q E s
open AutoSeq1 (wpAny_loadPart') in
theorem tuple_ltAt (l b : Addr) (xs ys : Array Value) (n n2 : Nat) (dd dd2 : Option Addr) (sl sl2 : Array (Option Value)) (e r : Nat → Bool) :
    Meets (Builtin.«tuple.__lt__» ⟨[.ref l, .ref b], []⟩) (fun A R s => s.heap.get? l = some { cls := .type "tuple", dict := dd, data := .seq xs n, slots := sl } ∧ s.heap.get? b = some { cls := .type "tuple", dict := dd2, data := .seq ys n2, slots := sl2 } ∧
        (∀ j (h1 : j < xs.size) (h2 : j < ys.size), SeqAt.EqAt A.in1 s xs[j] ys[j] (e j)) ∧ (∀ j (h1 : j < xs.size) (h2 : j < ys.size), RlAt A.in1 s xs[j] ys[j] (r j)) ∧ R (.ok (.ret (.bool (lexF e r (decide (xs.size < ys.size)) (List.range (min xs.size ys.size)))))) s) :=
  .of_wp fun prog w A R s h => by
    obtain ⟨hp, g, d, tk, os⟩ := s; obtain ⟨hl, hb, he, hr, h⟩ := h
    have f2 := AutoSeq1.sub_tuple_tuple
    have hZ : (xs.toList.zip ys.toList).length = min xs.size ys.size := by simp
    wp_walk using wpAny_loadPart' hl, wpAny_loadPart' hb, wpAny_forIn_list _ (fun rest b s' => b.1 = none ∧ s' = ⟨hp, g, d, tk, os⟩ ∧ ∃ i, rest = (xs.toList.zip ys.toList).drop i ∧ R (.ok (.ret (.bool (lexF e r (decide (xs.size < ys.size)) ((List.range (min xs.size ys.size)).drop i))))) ⟨hp, g, d, tk, os⟩) _
    case turn =>
      rintro ⟨y, x⟩ rest b s' ⟨hb', rfl, i, hz, hR⟩
      have hlt : i < (xs.toList.zip ys.toList).length := by
        rcases Nat.lt_or_ge i (xs.toList.zip ys.toList).length with h' | h'
        · exact h'
        · rw [List.drop_of_length_le h'] at hz; cases hz
      have hm : i < min xs.size ys.size := hZ ▸ hlt
      have h1 : i < xs.size := Nat.lt_of_lt_of_le hm (Nat.min_le_left _ _)
      have h2 : i < ys.size := Nat.lt_of_lt_of_le hm (Nat.min_le_right _ _)
      rw [List.drop_eq_getElem_cons hlt] at hz
      injection hz with hyx hrest
      have hy : y = xs[i] := by have := congrArg Prod.fst hyx; simpa using this
      have hx : x = ys[i] := by have := congrArg Prod.snd hyx; simpa using this
      subst hy hx
      have hd : (List.range (min xs.size ys.size)).drop i = i :: (List.range (min xs.size ys.size)).drop (i + 1) := by simp [List.drop_eq_getElem_cons, hm]
      rw [hd, lexF] at hR
      refine wpAny_bind (he i h1 h2 prog w _ _ ?_)
      cases hy : e i with
      | true =>
        rw [hy, if_pos rfl] at hR
        wp_walk
        exact ⟨rfl, rfl, i + 1, hrest, hR⟩
      | false =>
        rw [hy, if_neg Bool.false_ne_true] at hR
        simp only [Bool.not_false, if_true]
        refine wpAny_bind (wpAny_rule (wpAny_bind (hr i h1 h2 prog w _ _ ?_)))
        wp_walk
        exact ⟨_, rfl, hR⟩
    case fin =>
      rintro ⟨b1, b2⟩ s' ⟨hb', rfl, i, hz, hR⟩
      simp only at hb'
      subst hb'
      have hge : min xs.size ys.size ≤ i := by
        rcases Nat.lt_or_ge i (xs.toList.zip ys.toList).length with h' | h'
        · rw [List.drop_eq_getElem_cons h'] at hz; cases hz
        · exact hZ ▸ h'
      rw [List.drop_of_length_le (by simpa using hge)] at hR
      wp_walk
      exact ⟨_, rfl, by simpa [Builtin.Tuple.tupleCompareSizes, lexF] using hR⟩
    case h =>
      exact ⟨rfl, rfl, 0, rfl, by simpa using h⟩
section
variable {A : Around} {s : Shared}
theorem RlAt.tuples {l b : Addr} {xs ys : Array Value} {e r : Nat → Bool} (hl : s.heap.IsTuple l xs) (hb : s.heap.IsTuple b ys) (hu : A.units < cLine) (he : ∀ j (h1 : j < xs.size) (h2 : j < ys.size), SeqAt.EqAt A.in1 s xs[j] ys[j] (e j))
    (hr : ∀ j (h1 : j < xs.size) (h2 : j < ys.size), RlAt A.in1 s xs[j] ys[j] (r j)) : RlAt A s (.ref l) (.ref b) (lexF e r (decide (xs.size < ys.size)) (List.range (min xs.size ys.size))) := fun prog w E Q h => by
  obtain ⟨⟨cls, dd, data, sl⟩, ho, hc, n, hd⟩ := id hl
  obtain ⟨⟨cls2, dd2, data2, sl2⟩, ho2, hc2, n2, hd2⟩ := id hb
  simp only at hc hd hc2 hd2; subst hc hd hc2 hd2
  exact richCompare_meets_room (op := .Lt) ⟨_, ho, rfl⟩ ⟨_, ho2, rfl⟩ F.slot_tuple_lt F.entry_tuple_lt (F.args_tuple_lt_2 _ _) (tuple_ltAt l b xs ys n n2 dd dd2 sl sl2 e r) ⟨ho, ho2, he, hr, show Value.bool _ ≠ Value.notImplemented ∧ Q (.bool _) s from ⟨(fun x => nomatch x), h⟩⟩ hu
theorem RlAt.ints (a b : Int) (t u : Tok) : RlAt A s (.int a t) (.int b u) (decide (a < b)) := fun prog w E Q h =>
  richCompare_gives (op := .Lt) (typeIs_int s _ t) (typeIs_int s _ u) F.slot_int_lt F.entry_int_lt (F.args_int_lt_2 _ _) (gives_int_lt _ _ t u) (fun x => nomatch x) h
end
def ltI (ns ms : List Int) : Bool := lexF (fun j => decide (ns.getD j 0 = ms.getD j 0)) (fun j => decide (ns.getD j 0 < ms.getD j 0)) (decide (ns.length < ms.length)) (List.range (min ns.length ms.length))
def wayD (c : Int) (l : List Int) : D := .tup [.int c, .tup (l.map D.int)]
def ltW (c : Int) (l : List Int) (c' : Int) (l' : List Int) : Bool := if c = c' then (if l = l' then false else ltI l l') else decide (c < c')
theorem ltW_le {c c' : Int} {l l' : List Int} : (ltW c l c' l' = true → c ≤ c') ∧ (ltW c l c' l' = false → c' ≤ c) := by
  unfold ltW
  by_cases h : c = c'
  · subst h; simp
  · rw [if_neg h]
    constructor
    · intro z; have := of_decide_eq_true z; omega
    · intro z; have := of_decide_eq_false z; omega
section
variable {X : Cx} {pins : List (Addr × Obj)} {σ : St} {H : Hp} {s : Shared} {S1 S2 : Addr → Prop}
theorem vals_ints_at {ns : List Int} {its : List Value} (h : Vals (ns.map V.int) its) {j : Nat} (hj : j < its.length) : ∃ t, its[j] = .int (ns.getD j 0) t := by
  obtain ⟨x, e, r⟩ := h.get2 (j := j) (u := its[j]) (List.getElem?_eq_getElem hj)
  rw [List.getElem?_map] at e
  obtain ⟨n, e1, rfl⟩ := Option.map_eq_some_iff.mp e
  obtain ⟨t, q⟩ := r
  exact ⟨t, by rw [q, List.getD_eq_getElem?_getD, e1]; rfl⟩
theorem ltI_h {A : Around} (hu : A.units < cLine) {a b : Addr} {ns ms : List Int} {its jts : List Value} (p1 : s.heap.IsTuple a its.toArray) (p2 : s.heap.IsTuple b jts.toArray) (rv : Vals (ns.map V.int) its) (rw' : Vals (ms.map V.int) jts) : RlAt A s (.ref a) (.ref b) (ltI ns ms) := by
  have l1 : ns.length = its.toArray.size := by rw [List.size_toArray, ← rv.length, List.length_map]
  have l2 : ms.length = jts.toArray.size := by rw [List.size_toArray, ← rw'.length, List.length_map]
  unfold ltI
  rw [l1, l2]
  refine RlAt.tuples p1 p2 hu (fun j j1 j2 => ?_) (fun j j1 j2 => ?_)
  · obtain ⟨t, e1⟩ := vals_ints_at rv (j := j) (by simpa using j1)
    obtain ⟨t', e2⟩ := vals_ints_at rw' (j := j) (by simpa using j2)
    rw [List.getElem_toArray, List.getElem_toArray, e1, e2]
    exact SeqAt.EqAt.int_int _ _ _ _
  · obtain ⟨t, e1⟩ := vals_ints_at rv (j := j) (by simpa using j1)
    obtain ⟨t', e2⟩ := vals_ints_at rw' (j := j) (by simpa using j2)
    rw [List.getElem_toArray, List.getElem_toArray, e1, e2]
    exact RlAt.ints _ _ _ _
theorem vals_inj : ∀ {ns ms : List Int} {its : List Value}, Vals (ns.map V.int) its → Vals (ms.map V.int) its → ns = ms
  | [], [], _, _, _ => rfl
  | [], _ :: _, _, h, h' => by cases h; cases h'
  | _ :: _, [], _, h, h' => by cases h; cases h'
  | n :: ns, m :: ms, _, .cons ⟨t, e⟩ r, .cons ⟨t', e'⟩ r' => by
    subst e
    cases e'
    rw [vals_inj r r']
theorem eqI_h {A : Around} (hu : A.units < cLine) {a b : Addr} {ns ms : List Int} {its jts : List Value} (p1 : s.heap.IsTuple a its.toArray) (p2 : s.heap.IsTuple b jts.toArray) (rv : Vals (ns.map V.int) its) (rw' : Vals (ms.map V.int) jts) : SeqAt.EqAt A s (.ref a) (.ref b) (decide (ns = ms)) := by
  by_cases hab : a = b
  · subst hab
    obtain ⟨o, e1, _, n1, d1⟩ := p1
    obtain ⟨o', e2, _, n2, d2⟩ := p2
    rw [e1] at e2; cases e2
    rw [d1] at d2
    have : its = jts := by have := (Data.seq.inj d2).1; simpa using this
    subst this
    rw [vals_inj rv rw', decide_eq_true rfl]
    exact .same _
  · refine .of_refs hab ?_
    have l1 : ns.length = its.toArray.size := by rw [List.size_toArray, ← rv.length, List.length_map]
    have l2 : ms.length = jts.toArray.size := by rw [List.size_toArray, ← rw'.length, List.length_map]
    have q := SeqAt.RcAt.tuples (A := A) (e := fun j => decide (ns.getD j 0 = ms.getD j 0)) p1 p2 hu (fun j j1 j2 => by
      obtain ⟨t, e1⟩ := vals_ints_at rv (j := j) (by simpa using j1)
      obtain ⟨t', e2⟩ := vals_ints_at rw' (j := j) (by simpa using j2)
      rw [List.getElem_toArray, List.getElem_toArray, e1, e2]
      exact SeqAt.EqAt.int_int _ _ _ _)
    have e : decide (ns = ms) = ((List.range (min its.toArray.size jts.toArray.size)).all (fun j => decide (ns.getD j 0 = ms.getD j 0)) && its.toArray.size == jts.toArray.size) := by
      rw [← l1, ← l2, Bool.eq_iff_iff, decide_eq_true_eq, Bool.and_eq_true, List.all_eq_true, beq_iff_eq]
      constructor
      · rintro rfl; exact ⟨fun x _ => decide_eq_true rfl, rfl⟩
      · rintro ⟨h1, h2⟩
        refine List.ext_getElem h2 fun j j1 j2 => ?_
        have := of_decide_eq_true (h1 j (by rw [List.mem_range]; omega))
        rw [List.getD_eq_getElem?_getD, List.getD_eq_getElem?_getD, List.getElem?_eq_getElem j1, List.getElem?_eq_getElem j2] at this
        exact this
    rw [e]
    exact q
def WayAt (K : PySem.W.Frag) (H : Hp) (v : V) (c : Int) (l : List Int) : Prop := ∃ a b, v = .ref a ∧ SqT K H a [.int c, .ref b] ∧ SqT K H b (l.map V.int)
theorem way_rep {K : PySem.W.Frag} {S : Addr → Prop} {H : Hp} {c : Int} {l : List Int} {v : V} : Rep K S H (wayD c l) v ↔ WayAt K H v c l := by
  have all : ∀ {l : List Int} {vs : List V}, vs = l.map V.int → Reps K S H (l.map D.int) vs := by
    intro l
    induction l with
    | nil => rintro vs rfl; simp only [List.map_nil, Reps]
    | cons x r ih => rintro vs rfl; simp only [List.map_cons, Reps]; exact ⟨_, _, rfl, by simp only [Rep], ih rfl⟩
  unfold wayD WayAt
  simp only [Rep, Reps]
  constructor
  · rintro ⟨a, vs, rfl, q, v, r, rfl, rfl, v2, r2, rfl, ⟨b, ws, rfl, q2, r3⟩, rfl⟩
    cases reps_args r3
    exact ⟨a, b, rfl, q, q2⟩
  · rintro ⟨a, b, rfl, q, q2⟩
    exact ⟨a, _, rfl, q, _, _, rfl, rfl, _, _, rfl, ⟨b, _, rfl, q2, all rfl⟩, rfl⟩
def WayH (h : Heap) (u : Value) (c : Int) (l : List Int) : Prop := ∃ a b t its, u = .ref a ∧ h.IsTuple a #[.int c t, .ref b] ∧ h.IsTuple b (List.toArray its) ∧ Vals (l.map V.int) its
theorem WayH.keep {h h' : Heap} {u : Value} {c : Int} {l : List Int} (k : ∀ b o, h.get? b = some o → h'.get? b = some o) : WayH h u c l → WayH h' u c l := by
  rintro ⟨a, b, t, its, rfl, ⟨o, e, r⟩, ⟨o', e', r'⟩, v⟩
  exact ⟨a, b, t, its, rfl, ⟨o, k _ _ e, r⟩, ⟨o', k _ _ e', r'⟩, v⟩
theorem WayAt.heap (I : Inv X pins σ H s) {v : V} {u : Value} {c : Int} {l : List Int} (h1 : WayAt X.K H v c l) (r1 : RelV v u) : WayH s.heap u c l := by
  obtain ⟨a, b, rfl, q1, q2⟩ := h1
  cases r1
  obtain ⟨its, rv, p1, _⟩ := I.tuple q1
  obtain ⟨jts, rw', p2, _⟩ := I.tuple q2
  obtain ⟨u1, u2, rfl, ⟨t1, rfl⟩, e2⟩ := vals2 rv
  cases e2
  exact ⟨a, b, t1, jts, rfl, p1, p2, rw'⟩
theorem ltW_h {A : Around} (hu : A.units + 2 < cLine) {u u' : Value} {c c' : Int} {l l' : List Int} (h1 : WayH s.heap u c l) (h2 : WayH s.heap u' c' l') : RlAt A s u u' (ltW c l c' l') := by
  obtain ⟨a, b, t1, its, rfl, p1, p3, v1⟩ := h1
  obtain ⟨a', b', t2, jts, rfl, p2, p4, v2⟩ := h2
  have q := RlAt.tuples (A := A) (e := fun j => if j = 0 then decide (c = c') else decide (l = l')) (r := fun j => if j = 0 then decide (c < c') else ltI l l') p1 p2 (by omega) (fun j j1 j2 => ?_) (fun j j1 j2 => ?_)
  · have e : ltW c l c' l' = lexF (fun j => if j = 0 then decide (c = c') else decide (l = l')) (fun j => if j = 0 then decide (c < c') else ltI l l') (decide (#[Value.int c t1, .ref b].size < #[Value.int c' t2, .ref b'].size)) (List.range (min #[Value.int c t1, .ref b].size #[Value.int c' t2, .ref b'].size)) := by
      show _ = lexF _ _ (decide (2 < 2)) [0, 1]
      unfold ltW
      simp only [lexF]
      by_cases h : c = c'
      · by_cases h' : l = l' <;> simp [h, h']
      · simp [h]
    rw [e]
    exact q
  · match j, j1, j2 with
    | 0, _, _ => exact SeqAt.EqAt.int_int _ _ _ _
    | 1, _, _ => exact eqI_h (by show A.units + 1 < cLine; omega) p3 p4 v1 v2
  · match j, j1, j2 with
    | 0, _, _ => exact RlAt.ints _ _ _ _
    | 1, _, _ => exact ltI_h (by show A.units + 1 < cLine; omega) p3 p4 v1 v2
end
abbrev oLtW : DR2 := fun x y q => ∃ c l c' l', x = wayD c l ∧ y = wayD c' l' ∧ q (.bl (ltW c l c' l'))
theorem do_ltW {X : Cx} (hu : X.A.units + 12 < cLine) : DOp X .cl (compareOp .Lt) oLtW := by
  refine ⟨fun x y H Q => ∃ c l c' l', WayAt X.K H x c l ∧ WayAt X.K H y c' l' ∧ Q (.bl (ltW c l c' l')) H, ?_, fun S H dx dy vx vy q Q rx ry ⟨c, l, c', l', e1, e2, hq⟩ k => ?_⟩
  · intro pins s σ H x y v u Q I rx ry ⟨c, l, c', l', h1, h2, q⟩
    exact ltW_h (by omega) (h1.heap I rx) (h2.heap I ry) _ _ _ _ ⟨.bl _, H, I, rfl, q⟩
  · subst e1 e2
    exact ⟨c, l, c', l', way_rep.mp rx, way_rep.mp ry, k _ H _ [] (.refl _) ⟨rfl, by simp only [Rep]⟩ hq⟩
section
variable {prog : Program} {w : World} {A : Around} {R : Result → Shared → Prop} {I : Addr} {fp wr : List Addr} {n : Nat} {P : Nat → Value → Prop} {St : Nat → Heap → Prop}
def CmpH (prog : Program) (w : World) (A : Around) (h0 : Heap) (P : Nat → Value → Prop) (bt : Nat → Nat → Bool) : Prop :=
  ∀ i j vi vj (s : Shared) (Q : Value → Shared → Prop) (E : Value → Shared → Prop), (∀ b o, h0.get? b = some o → s.heap.get? b = some o) → P i vi → P j vj → Q (.bool (bt i j)) s → wpAny (model prog w) A (richCompare .Lt vi vj) Q E s
theorem minH_loop (W : Walks prog w A.in1 I fp wr n P St) (bt : Nat → Nat → Bool) {h0 : Heap} (hcmp : CmpH prog w A.in1 h0 P bt) (S : Addr) (hSf : S ∉ fp) (h0w : ∀ b o, h0.get? b = some o → b ∉ wr ∧ b ≠ S) :
    ∀ (k j : Nat) (s : Shared) (vb : Value) (c : Nat), n - (j + 1) = k → j + 1 ≤ n → (∀ b o, h0.get? b = some o → s.heap.get? b = some o) → St (j + 1) s.heap → P (argBest bt j) vb → s.heap.get? S = some { cls := .type "list", dict := none, data := .seq #[vb, vb] c, slots := #[] } →
    (∀ v h' tk, P (argBest bt (n - 1)) v → (∀ b o, b ∉ wr → b ≠ S → s.heap.get? b = some o → h'.get? b = some o) → R (.ok (.ret v)) { s with heap := h', toks := tk }) → codeAny (model prog w) A (.builtin "min.loop" ⟨[.ref I, .none, .ref S], []⟩) R s := by
  have hSw : S ∉ wr := fun h => hSf (W.sub _ h)
  have hname : (toString "min" ++ toString ".loop" : String) = "min.loop" := by decide
  intro k
  induction k with
  | zero =>
    intro j s vb c hk hj h0s hst hPb hS hR
    have hin : j + 1 = n := by omega
    refine codeAny_builtin F.entry_min_loop ?_; rw [Around.under_plainId F.plain_min_loop _]; show wpAny _ A.in1 (seqItems? (.ref S) >>= _) _ _ s; refine wpAny_bind (wpAny_seqItems hS rfl ?_)
    show wpAny _ A.in1 (tryCatch (pyNext (.ref I)) _ >>= _) _ _ s; refine wpAny_bind (wpAny_tryCatch (W.done s _ _ (hin ▸ hst) fun h' tk hk' => ?_))
    have hS' := hk' S _ hSw hS
    show wpAny _ A.in1 (updateSeq S (fun _ => #[]) >>= _) _ _ _; refine wpAny_bind (wpAny_updateSeq hS' rfl (wpAny_bind (wpAny_letGo (wpAny_pure ?_))))
    exact hR vb _ tk (by rw [← hin]; exact hPb) fun b o hbw hbS e => (Heap.get?_update_other _ _ (Ne.symm hbS)).trans (hk' b o hbw e)
  | succ k ih =>
    intro j s vb c hk hj h0s hst hPb hS hR
    have hlt : j + 1 < n := by omega
    refine codeAny_builtin F.entry_min_loop ?_; rw [Around.under_plainId F.plain_min_loop _]; show wpAny _ A.in1 (seqItems? (.ref S) >>= _) _ _ s; refine wpAny_bind (wpAny_seqItems hS rfl ?_)
    show wpAny _ A.in1 (tryCatch (pyNext (.ref I)) _ >>= _) _ _ s; refine wpAny_bind (wpAny_tryCatch (W.item (j + 1) s _ _ hlt hst fun v h' tk hP hst' hk' => ?_))
    have hS' := hk' S _ hSw hS
    have h0' : ∀ b o, h0.get? b = some o → h'.get? b = some o := fun b o e => hk' b o (h0w b o e).1 (h0s b o e)
    show wpAny _ A.in1 (tryCatch (holding [v, v] (richCompare .Lt v vb >>= _)) _ >>= _) _ _ _; refine wpAny_bind (wpAny_tryCatch (wpAny_holding (wpAny_bind (hcmp (j + 1) (argBest bt j) v vb _ _ _ h0' hP hPb ?_))))
    refine wpAny_bind (wpAny_holding (wpAny_truthy_bool (wpAny_bind (wpAny_letGo (wpAny_pure ?_)))))
    cases hb : bt (j + 1) (argBest bt j) with
    | true =>
      simp only [if_true]; refine wpAny_bind (wpAny_updateSeq hS' rfl (wpAny_bind (wpAny_letGo ?_))); rw [hname]
      refine wpAny_pure ⟨plainId_quiet F.plain_min_loop _, ih (j + 1) _ v _ (by omega) hlt (fun b o e => (Heap.get?_update_other _ _ (Ne.symm (h0w b o e).2)).trans (h0' b o e)) (W.frame _ _ _ hst' fun b hbf o e => ?_) (by simp only [argBest, hb, if_true]; exact hP) (Heap.get?_update_self _ hS' rfl) fun v' h'' tk'' hP' hk'' => ?_⟩
      · exact (Heap.get?_update_other _ _ (fun z : S = b => hSf (z ▸ hbf))).trans e
      · exact hR v' h'' tk'' hP' fun b o hbw hbS e => hk'' b o hbw hbS ((Heap.get?_update_other _ _ (Ne.symm hbS)).trans (hk' b o hbw e))
    | false =>
      simp only [Bool.false_eq_true, if_false]; refine wpAny_bind (wpAny_letGo ?_); rw [hname]
      refine wpAny_pure ⟨plainId_quiet F.plain_min_loop _, ih (j + 1) _ vb c (by omega) hlt h0' hst' (by simp only [argBest, hb, Bool.false_eq_true, if_false]; exact hPb) hS' fun v' h'' tk'' hP' hk'' => hR v' h'' tk'' hP' fun b o hbw hbS e => hk'' b o hbw hbS (hk' b o hbw e)⟩
theorem minH_list {E : Value → Shared → Prop} {s : Shared} {l : Addr} {xs : Array Value} {Q : Value → Shared → Prop} (hh : A.handled = none) (hl : s.heap.IsList l xs) (bt : Nat → Nat → Bool) (hne : 0 < xs.size) (hcmp : CmpH prog w A.in1 s.heap (fun i v => xs[i]? = some v) bt)
    (h : ∀ v h' tk, xs[argBest bt (xs.size - 1)]? = some v → (∀ b o, s.heap.get? b = some o → h'.get? b = some o) → Q v { s with heap := h', toks := tk }) : wpAny (model prog w) A (call (.builtin "min") [.ref l]) Q E s := by
  have hname : (toString "min" ++ toString ".loop" : String) = "min.loop" := by decide
  have hlt : l < s.heap.objs.size := by obtain ⟨_, e, _⟩ := hl; exact Heap.lt_size e
  refine call_function_tree F.kind_min F.plain_min F.entry_min (F.args_min1 _) ?_; show wpAny _ A.in1 (Builtin.Builtins.bindParams "min" ["key", "default"] 0 ⟨[], []⟩ >>= _) _ _ s
  refine wpAny_bind (wpAny_of_eq (show Builtin.Builtins.bindParams "min" ["key", "default"] 0 ⟨[], []⟩ = pure [none, none] from rfl) (wpAny_bind (wpAny_pure (wpAny_bind (wpAny_pyIter_list hl ?_)))))
  generalize hg : s.heap.push { cls := .type "list_iterator", data := .fields #[.ref l, .int 0 0] } = h1
  have n1 : h1.objs.size = s.heap.objs.size + 1 := by rw [← hg]; exact Heap.size_push ..
  have k1 : ∀ b o, s.heap.get? b = some o → h1.get? b = some o := fun b o e => by rw [← hg]; exact Heap.get?_push_of_some _ e
  have it1 : h1.IsListIter s.heap.objs.size l 0 := by rw [← hg]; exact ⟨_, Heap.get?_push_size _ rfl, rfl, rfl⟩
  have il1 : h1.IsList l xs := by rw [← hg]; exact hl.push _
  refine wpAny_bind (wpAny_newObj_type ?_); rw [hname]
  have W := Walks.list (prog := prog) (w := w) (A := A.in1) hh s.heap.objs.size l (Nat.ne_of_lt hlt) xs
  generalize hg2 : h1.push { cls := .type "list", data := .seq #[] } = h2
  have k2 : ∀ b o, h1.get? b = some o → h2.get? b = some o := fun b o e => by rw [← hg2]; exact Heap.get?_push_of_some _ e
  have hS : h2.get? h1.objs.size = some { cls := .type "list", dict := none, data := .seq #[] 0, slots := #[] } := by rw [← hg2]; exact Heap.get?_push_size _ rfl
  have ns : h1.objs.size ≠ s.heap.objs.size := by rw [n1]; exact Nat.succ_ne_self _
  have hSf : h1.objs.size ∉ [s.heap.objs.size, l] := by
    simp only [List.mem_cons, List.not_mem_nil, or_false, not_or]
    exact ⟨ns, Nat.ne_of_gt (by rw [n1]; exact Nat.lt_succ_of_lt hlt)⟩
  have h0w : ∀ b o, s.heap.get? b = some o → b ∉ [s.heap.objs.size] ∧ b ≠ h1.objs.size := fun b o e => by
    have hb := Heap.lt_size e
    exact ⟨by simpa using Nat.ne_of_lt hb, Nat.ne_of_lt (by rw [n1]; exact Nat.lt_succ_of_lt hb)⟩
  have hSw : h1.objs.size ∉ [s.heap.objs.size] := by simpa using ns
  refine wpAny_pure ⟨plainId_quiet F.plain_min_loop _, ?_⟩
  refine codeAny_builtin F.entry_min_loop ?_; rw [Around.under_plainId F.plain_min_loop _]; show wpAny _ A.in1 (seqItems? (.ref h1.objs.size) >>= _) _ _ _; refine wpAny_bind (wpAny_seqItems hS rfl ?_)
  show wpAny _ A.in1 (tryCatch (pyNext (.ref s.heap.objs.size)) _ >>= _) _ _ _
  refine wpAny_bind (wpAny_tryCatch (W.item 0 _ _ _ hne (W.frame 0 _ _ ⟨it1, il1⟩ fun b _ o e => k2 b o e) fun v h' tk hP hst' hk' => ?_))
  have hS' := hk' _ _ hSw hS
  show wpAny _ A.in1 (updateSeq h1.objs.size (fun _ => #[v, v]) >>= _) _ _ _; refine wpAny_bind (wpAny_updateSeq hS' rfl ?_); rw [hname]
  have k3 : ∀ (u : Obj → Obj) b o, s.heap.get? b = some o → (h'.update h1.objs.size u).get? b = some o := fun u b o e => (Heap.get?_update_other _ _ (Ne.symm (h0w b o e).2)).trans (hk' b o (h0w b o e).1 (k2 b o (k1 b o e)))
  refine wpAny_pure ⟨plainId_quiet F.plain_min_loop _, minH_loop W bt hcmp h1.objs.size hSf h0w _ 0 _ v _ rfl hne (k3 _) (W.frame _ _ _ hst' fun b hbf o e => ?_) hP (Heap.get?_update_self _ hS' rfl) fun v' h'' tk'' hP' hk'' => ?_⟩
  · exact (Heap.get?_update_other _ _ (fun z : h1.objs.size = b => hSf (z ▸ hbf))).trans e
  · exact h v' h'' tk'' hP' fun b o e => hk'' b o (h0w b o e).1 (h0w b o e).2 (k3 _ b o e)
end
section
variable {X : Cx}
theorem argBest_of {bt : Nat → Nat → Bool} {c : Nat → Int} (h1 : ∀ i j, bt i j = true → c i ≤ c j) (h2 : ∀ i j, bt i j = false → c j ≤ c i) : ∀ k, argBest bt k ≤ k ∧ ∀ j, j ≤ k → c (argBest bt k) ≤ c j
  | 0 => ⟨Nat.le_refl _, fun j hj => by have : j = 0 := by omega
                                        subst this; exact Int.le_refl _⟩
  | k + 1 => by
    obtain ⟨a, b⟩ := argBest_of h1 h2 k
    simp only [argBest]
    cases e : bt (k + 1) (argBest bt k) with
    | true =>
      rw [if_pos rfl]
      refine ⟨Nat.le_refl _, fun j hj => ?_⟩
      by_cases z : j = k + 1
      · subst z; exact Int.le_refl _
      · exact Int.le_trans (h1 _ _ e) (b j (by omega))
    | false =>
      rw [if_neg Bool.false_ne_true]
      refine ⟨by omega, fun j hj => ?_⟩
      by_cases z : j = k + 1
      · subst z; exact h2 _ _ e
      · exact b j (by omega)
abbrev cMinW : DRn := fun ds q => ∃ ws : List (Int × List Int), ds = [.lst (ws.map fun p => wayD p.1 p.2)] ∧ 0 < ws.length ∧ ∀ p ∈ ws, (∀ p' ∈ ws, p.1 ≤ p'.1) → q (wayD p.1 p.2)
theorem call_minW (hc : X.calm = true) (hu : X.A.units + 12 < cLine) : CallR X (.builtin "min") (fun xs H Q => ∃ (p : Addr) (vs : List V) (ws : List (Int × List Int)), xs = [.ref p] ∧ SqL X.K H p vs ∧ vs.length = ws.length ∧ (∀ (i : Nat) (v : V) (w : Int × List Int), vs[i]? = some v → ws[i]? = some w → WayAt X.K H v w.1 w.2) ∧ 0 < ws.length ∧
    ∀ (i : Nat) (v : V) (w : Int × List Int), vs[i]? = some v → ws[i]? = some w → (∀ w' ∈ ws, w.1 ≤ w'.1) → Q v H) := by
  intro pins s σ H xs us Q I r h
  obtain ⟨p, vs, ws, rfl, hp, hl, hw, hn, q⟩ := h
  obtain ⟨u, rfl, ru⟩ := vals1 r
  cases (show u = Value.ref p from ru)
  obtain ⟨its, hv, pl, hz⟩ := I.list hp
  have hil : its.length = ws.length := by rw [← hv.length]; exact hl
  let c : Nat → Int := fun i => (ws.getD i (0, [])).1
  let m : Nat → List Int := fun i => (ws.getD i (0, [])).2
  have wd : ∀ {i : Nat} {w : Int × List Int}, ws[i]? = some w → ws.getD i (0, []) = w := fun e => by rw [List.getD_eq_getElem?_getD, e]; rfl
  have way : ∀ (i : Nat) (u : Value), its[i]? = some u → WayH s.heap u (c i) (m i) := fun i u e => by
    obtain ⟨v, e1, r1⟩ := hv.get2 e
    have hi : i < ws.length := by rw [← hil]; exact (List.getElem?_eq_some_iff.mp e).1
    have e2 := List.getElem?_eq_getElem hi
    have := (hw i v _ e1 e2).heap I r1
    show WayH s.heap u (ws.getD i (0, [])).1 (ws.getD i (0, [])).2
    rw [wd e2]; exact this
  refine minH_list (I.ok.hd hc) pl.isList (fun i j => ltW (c i) (m i) (c j) (m j)) (by rw [List.size_toArray, hil]; exact hn) (fun i j vi vj s' Q' E' k h1 h2 hq => ?_) fun v h' tk hv' hk => ?_
  · have w1 := (way i vi (by simpa using h1)).keep k
    have w2 := (way j vj (by simpa using h2)).keep k
    exact ltW_h (s := s') (by show X.A.units + 1 + 2 < cLine; omega) w1 w2 _ _ _ _ hq
  · obtain ⟨b1, b2⟩ := argBest_of (bt := fun i j => ltW (c i) (m i) (c j) (m j)) (c := c) (fun i j => ltW_le.1) (fun i j => ltW_le.2) (its.toArray.size - 1)
    have hv2 : its[argBest (fun i j => ltW (c i) (m i) (c j) (m j)) (its.toArray.size - 1)]? = some v := by simpa using hv'
    obtain ⟨x, e1, r1⟩ := hv.get2 hv2
    have hi : argBest (fun i j => ltW (c i) (m i) (c j) (m j)) (its.toArray.size - 1) < ws.length := by rw [← hil]; exact (List.getElem?_eq_some_iff.mp hv2).1
    have e2 := List.getElem?_eq_getElem hi
    refine ⟨x, H, I.kept (t' := tk) hk, r1, q _ x _ e1 e2 fun w' hw' => ?_⟩
    obtain ⟨j, hj, rfl⟩ := List.getElem_of_mem hw'
    have := b2 j (by rw [List.size_toArray, hil]; omega)
    have e3 : c (argBest (fun i j => ltW (c i) (m i) (c j) (m j)) (its.toArray.size - 1)) = ws[argBest (fun i j => ltW (c i) (m i) (c j) (m j)) (its.toArray.size - 1)].1 := congrArg Prod.fst (wd e2)
    have e4 : c j = ws[j].1 := congrArg Prod.fst (wd (List.getElem?_eq_getElem hj))
    rw [e3, e4] at this
    exact this
theorem dc_minW (hc : X.calm = true) (hu : X.A.units + 12 < cLine) : DCall X .cl (.builtin "min") cMinW := by
  refine ⟨_, call_minW hc hu, fun S H ds vs q Q rv ⟨ws, e, h1, hq⟩ k => ?_⟩
  subst e
  obtain ⟨v, rfl, r⟩ := reps1 rv
  simp only [Rep] at r
  obtain ⟨a, xs, rfl, _, h3, r1⟩ := r
  refine ⟨a, xs, ws, rfl, .inl h3, by rw [r1.len, List.length_map], fun i v w e1 e2 => ?_, h1, fun i v w e1 e2 hb => ?_⟩
  · obtain ⟨x, e3, e4⟩ := r1.get' e1
    rw [List.getElem?_map, e2] at e3
    cases e3
    exact way_rep.mp e4
  · obtain ⟨x, e3, e4⟩ := r1.get' e1
    rw [List.getElem?_map, e2] at e3
    cases e3
    exact k _ H _ [] (.refl _) ⟨rfl, e4⟩ (hq w (List.mem_of_getElem? e2) hb)
theorem call_minL (hc : X.calm = true) : CallR X (.builtin "min") (fun xs H Q => ∃ (p : Addr) (ns : List Int), xs = [.ref p] ∧ SqL X.K H p (ns.map V.int) ∧ 0 < ns.length ∧ ∀ m, m ∈ ns → (∀ n ∈ ns, m ≤ n) → Q (.int m) H) := by
  intro pins s σ H xs us Q I r h
  obtain ⟨p, ns, rfl, hp, hn, q⟩ := h
  obtain ⟨u, rfl, ru⟩ := vals1 r
  cases (show u = Value.ref p from ru)
  obtain ⟨its, hv, pl, hz⟩ := I.list hp
  have hil : its.length = ns.length := by rw [← hv.length, List.length_map]
  refine minH_list (I.ok.hd hc) pl.isList (fun i j => decide (ns.getD i 0 < ns.getD j 0)) (by rw [List.size_toArray, hil]; exact hn) (fun i j vi vj s' Q' E' k h1 h2 hq => ?_) fun v h' tk hv' hk => ?_
  · have h1' : its[i]? = some vi := by simpa using h1
    have h2' : its[j]? = some vj := by simpa using h2
    obtain ⟨i1, i2⟩ := List.getElem?_eq_some_iff.mp h1'
    obtain ⟨j1, j2⟩ := List.getElem?_eq_some_iff.mp h2'
    obtain ⟨t, e1⟩ := vals_ints_at hv (j := i) i1
    obtain ⟨t', e2⟩ := vals_ints_at hv (j := j) j1
    rw [← i2, ← j2, e1, e2]
    exact RlAt.ints _ _ _ _ _ _ _ _ hq
  · obtain ⟨b1, b2⟩ := argBest_of (bt := fun i j => decide (ns.getD i 0 < ns.getD j 0)) (c := fun i => ns.getD i 0) (fun i j z => by have := of_decide_eq_true z; omega) (fun i j z => by have := of_decide_eq_false z; omega) (its.toArray.size - 1)
    have hv2 : its[argBest (fun i j => decide (ns.getD i 0 < ns.getD j 0)) (its.toArray.size - 1)]? = some v := by simpa using hv'
    obtain ⟨i1, i2⟩ := List.getElem?_eq_some_iff.mp hv2
    obtain ⟨t, e1⟩ := vals_ints_at hv i1
    rw [i2] at e1
    have hb : ∀ n ∈ ns, ns.getD (argBest (fun i j => decide (ns.getD i 0 < ns.getD j 0)) (its.toArray.size - 1)) 0 ≤ n := fun n hn => by
      obtain ⟨j, hj, rfl⟩ := List.getElem_of_mem hn
      have := b2 j (by rw [List.size_toArray, hil]; omega)
      rw [List.getD_eq_getElem?_getD (i := j), List.getElem?_eq_getElem hj] at this
      exact this
    refine ⟨.int _, H, I.kept (t' := tk) hk, ⟨t, e1⟩, q _ ?_ hb⟩
    rw [List.getD_eq_getElem?_getD, List.getElem?_eq_getElem (by rw [← hil]; exact i1)]
    exact List.getElem_mem _
abbrev cMinL : DRn := fun ds q => ∃ ns : List Int, ds = [.lst (ns.map D.int)] ∧ 0 < ns.length ∧ ∀ m, m ∈ ns → (∀ n ∈ ns, m ≤ n) → q (.int m)
theorem dc_minL (hc : X.calm = true) : DCall X .cl (.builtin "min") cMinL := by
  refine ⟨_, call_minL hc, fun S H ds vs q Q rv ⟨ns, e, h1, hq⟩ k => ?_⟩
  subst e
  obtain ⟨v, rfl, r⟩ := reps1 rv
  simp only [Rep] at r
  obtain ⟨a, xs, rfl, _, h3, r1⟩ := r
  cases reps_ints r1
  exact ⟨a, ns, rfl, .inl h3, h1, fun m hm hb => k _ H _ [] (.refl _) ⟨rfl, by simp only [Rep]⟩ (hq m hm hb)⟩
end
section
variable {X : Cx}
theorem mt_index (hu : X.A.units + 12 < cLine) : MtR X "list.index" (fun x vs H Q => ∃ S l y v a ws, x = .ref a ∧ vs = [v] ∧ SqL X.K H a ws ∧ Reps X.K S H l ws ∧ Rep X.K S H y v ∧ okE 11 y = true ∧ l.all (okE 11) = true ∧ ∃ (j : Nat) (z : D), l[j]? = some z ∧ pyEq z y = true ∧ (∀ (i : Nat) (x : D), i < j → l[i]? = some x → pyEq x y = false) ∧ Q (.int (j : Int)) H) := by
  intro pins s σ H x vs v us Q I rx rv h
  obtain ⟨S, l, y, w, a, ws, rfl, rfl, hq, rl, ry, oy, ol, j, z, ej, hz1, hz2, q⟩ := h
  cases rx
  obtain ⟨u, rfl, ru⟩ := vals1 rv
  obtain ⟨its, r, pl, hz⟩ := I.list hq
  obtain ⟨g1, g2⟩ := in_go I hu oy ol ry ru rl r
  obtain ⟨o, ho, hc, n, hd⟩ := pl.isList
  have at_ : ∀ (i : Nat) (x : D), l[i]? = some x → ∃ t, its[i]? = some t ∧ inU X.K S H y t = pyEq x y := fun i x e => by
    obtain ⟨v1, e1, r1⟩ := rl.get e
    obtain ⟨t, e2, r2⟩ := r.get e1
    exact ⟨t, e2, inU_of I (List.all_eq_true.mp ol x (List.mem_of_getElem? e)) r1 r2⟩
  obtain ⟨t, et, pt⟩ := at_ j z ej
  have hj : j < its.toArray.size := by simpa using (List.getElem?_eq_some_iff.mp et).1
  have hl : l.length = its.length := by rw [← rl.len, r.length]
  refine call_meets PySem.F.slot_list_index ⟨o, ho, hc⟩ PySem.F.entry_list_index (PySem.F.args_list_index_2 _ _) (SeqAt.list_indexAt a its.toArray n o.dict o.slots u (inU X.K S H y) j hj ?_ ?_ ?_) ⟨?_, g1, ?_⟩
  · have h1 : its.length ≤ sizeLine := by rw [← r.length]; exact hz
    rw [sizeLine_eq] at h1
    have h2 : j < its.length := by simpa using hj
    omega
  · have : its.toArray[j] = t := by
      have := (List.getElem?_eq_some_iff.mp et).2
      simpa using this
    rw [this, pt, hz1]
  · intro m hm hmj
    have hm' : m < l.length := by rw [hl]; simpa using hm
    obtain ⟨t', et', pt'⟩ := at_ m _ (List.getElem?_eq_getElem hm')
    have : its.toArray[m] = t' := by
      have := (List.getElem?_eq_some_iff.mp et').2
      simpa using this
    rw [this, pt']
    exact hz2 m _ hmj (List.getElem?_eq_getElem hm')
  · rw [ho, ← hc, ← hd]
  · exact ⟨.int _, H, I.tok _, ⟨_, rfl⟩, q⟩
variable {κ : List SK} {md m : SK} {pu puo : Bool} {o e : Expr} {Eo E : DTE} {apos cpos pos : Pos}
def eIdx (Eo E : DTE) : DTE := fun ρ q => Eo ρ fun x ρ1 => ∃ l, x = .lst l ∧ E ρ1 fun y ρ2 => okE 11 y = true ∧ l.all (okE 11) = true ∧ ∃ (j : Nat) (z : D), l[j]? = some z ∧ pyEq z y = true ∧ (∀ (i : Nat) (x : D), i < j → l[i]? = some x → pyEq x y = false) ∧ q (.int (j : Int)) ρ2
theorem dindex (hu : X.A.units + 12 < cLine) (hp : plainE e = true) (hline : (apos.endLine == cpos.line) = true) (hbase : attributeBase o "index" X.env (eval o X.env) = eval o X.env) (hm : isV m)
    (ho : DE X κ puo m o Eo) (he : DE X κ true .cl e E) : DE X κ puo .cl (.Call (.Attribute o "index" apos) [e] [] cpos) (eIdx Eo E) := by
  refine ⟨(PE.bm (by simp [hp]) (by simp) hline hbase PySem.F.plainAttrs_list PySem.F.slot_list_index PySem.F.type_list_index (mt_index hu) ho.h (pac hp he.h pa_nil)).weak fun σ H Q ⟨G, O, ρ, q, hE, hq, k⟩ => ⟨G, O, ρ, _, hE, hq, fun v H1 d ρ1 O1 fp s1 e1 vo p1 ⟨l, el, hq1⟩ => ?_⟩⟩
  subst el
  have r := vo.now (lo := loB m) hm (fun z => by rw [z]; rfl)
  have r0 := r
  simp only [Rep] at r
  obtain ⟨a, ws, rfl, nS, hrd, hr⟩ := r
  refine ⟨.inl ⟨rfl, ws, .inl hrd⟩, G, O1, ρ1, _, e1.drop, hq1, fun v2 H2 y ρ2 O2 fp2 s2 e2 vo2 p2 ⟨oy, ol, j, z, hj1, hj2, hj3, hq2⟩ => ?_⟩
  obtain ⟨z1, z2, z3⟩ := p2 rfl
  subst z2 z3
  have r2 := Rep.go (Goes.same z1) _ _ r0
  simp only [Rep] at r2
  obtain ⟨a', ws', ea, _, hrd2, hr2⟩ := r2
  cases ea
  have ry : Rep X.K (Sx (loB m) G.S0 O2) H2 y v2 := by
    rcases hm with rfl | rfl
    · exact vo2.2
    · exact Rep.go (.less fun b hb => .inl hb) _ _ vo2.2
  refine ⟨_, l, y, v2, a, ws', rfl, rfl, .inl hrd2, hr2, ry, oy, ol, j, z, hj1, hj2, hj3, ?_⟩
  refine k _ H2 _ ρ2 O2 [] (s1.trans s2) (by rw [plus_nil]; exact e2.drop) ⟨rfl, by simp only [Rep]⟩ (fun z => ?_) hq2
  obtain ⟨y1, y2, y3⟩ := p1 z
  exact ⟨y1.trans z1, y2, y3⟩
def tDisp1 (K : PySem.W.Frag) (tk tv : TE) : TE := fun σ H Q => ∀ p, H p = none → tk σ (upd H p (.dU [])) fun y H1 => tv σ H1 fun z H2 => ∃ b k, y = .ref b ∧ SqT K H2 b (List.map kV k) ∧ H2 p = some (.dU []) ∧ Q (.ref p) (upd H2 p (.dU [(k, b, z)]))
theorem pe_disp1 {k v : Expr} {tk tv : TE} (hu : X.A.units + 1 < cLine) (hk : PE X k tk) (hv : PE X v tv) : PE X (.Dict [some k] [v] pos) (tDisp1 X.K tk tv) := by
  intro pins s σ H Q I q
  have hn := I.hok.fresh (Nat.le_refl s.heap.objs.size)
  obtain ⟨z1, z2, xs0, z3, o0, es0, ep0, z4⟩ := dt_empty (P := X.prog) (w := X.w) (H := upd H s.heap.objs.size (.dT [])) s.heap I.big
  cases z3
  have I1 := I.laid (a := s.heap.objs.size) (o := .dU []) (h' := s.heap.push { cls := .type "dict", data := .dict #[] }) (t' := s.toks) (fun _ _ q => Heap.get?_push_of_some _ q) (Nat.le_refl _) ⟨z1, z2, [], .nil, o0, es0, ep0, z4⟩
  rw [arm_eval_Dict]
  have hsh : (evalEachOpt [some k] X.env).zip ((evalEach [v] X.env).map fun v => do let x ← v; standAt pos; pure x) = [((eval k X.env), (do let x ← eval v X.env; standAt pos; pure x))].map fun p => (some p.1, p.2) := by rfl
  rw [hsh, dictDisplay_pairs _ (by simp) (by simp)]
  refine wpAny_bind (wpAny_standAt (wpAny_bind ?_))
  unfold subDict
  refine wpAny_bind (wpAny_alloc (wpAny_bind (wpAny_holding ?_)))
  rw [if_pos (by simp)]
  refine wpAny_bind (evalPairs_cons (thn (hk pins _ σ _ _ I1 (q _ hn)) fun kv s2 ⟨y, H2, I2, ry, q2⟩ => wpAny_bind (thn (hv pins s2 σ H2 _ I2 q2) fun vv s3 ⟨z, H3, I3, rz, b, kk, ey, hb, e3, q3⟩ => wpAny_bind (wpAny_standAt (wpAny_pure (evalPairs_nil ?_))))))
  subst ey
  obtain rfl : kv = Value.ref b := ry
  refine wpAny_holding ?_
  rw [List.forIn_cons]
  obtain ⟨zz, hd, xs, rel, dd⟩ := du_rd I3 (.inl e3) (fun e he => absurd he (by simp))
  cases rel
  refine wpAny_bind ?_
  refine wpAny_bind ?_
  show wpAny _ _ (dictSet s.heap.objs.size (.ref b) vv >>= _) _ _ _
  refine wpAny_bind (wpAny_dictSet_heap (hsz := by simp) (show X.A.units < cLine by omega) (key_sq I3 hb) dd fun h' dd' hs => wpAny_pure ?_)
  dsimp only
  rw [List.forIn_nil]
  refine wpAny_pure (wpAny_pure (wpAny_pure (wpAny_pure ⟨.ref s.heap.objs.size, _, ?_, rfl, q3⟩)))
  obtain ⟨qo, es, ep, hq, h2, h3, h4, _, h5⟩ := dd'
  exact d_write (ob := .dU [(kk, b, z)]) I3 (by rw [e3]; exact True.intro) hs ⟨qo, hq⟩ ⟨by rw [sizeLine_eq]; show 1 ≤ _; omega, hd, _, .cons ⟨rfl, rfl, rz⟩ .nil, qo, es, ep, hq, h2, h3, h4, h5⟩
def eDisp1 (Ek Ev : DTE) : DTE := fun ρ q => Ek ρ fun y ρ1 => Ev ρ1 fun z ρ2 => ∃ k, y = keyT k ∧ q (.dT [k] [z]) ρ2
theorem ddisp1 {k v : Expr} {Ek Ev : DTE} (hu : X.A.units + 1 < cLine) (hk : DE X κ true .cl k Ek) (hv : DE X κ true .cl v Ev) : DE X κ true (.ow 1) (.Dict [some k] [v] pos) (eDisp1 Ek Ev) := by
  refine ⟨(pe_disp1 hu hk.h hv.h).weak fun σ H Q ⟨G, O, ρ, q, hE, hq, kk⟩ => fun p hp => ?_⟩
  have sp : Same H (upd H p (.dU [])) := .new hp
  have h0 : G.H0 p = none := by
    obtain ⟨F, f⟩ := hE
    cases z : G.H0 p with
    | none => rfl
    | some o => exact absurd hp (f.dom p (by rw [z]; simp))
  refine ⟨G.plus [p], O, ρ, _, hE.same sp (fun a ha => by obtain rfl : a = p := by simpa using ha
                                                          exact ⟨hp, by rw [upd_same]; simp⟩), hq, fun y H1 dy ρ1 O1 fp s1 e1 vo p1 hq1 => ⟨G.plus [p], O1, ρ1, _, e1.drop, hq1, fun z H2 dz ρ2 O2 fp2 s2 e2 vo2 p2 ⟨k, ek, hq2⟩ => ?_⟩⟩
  obtain ⟨sm1, er1, eO1⟩ := p1 rfl
  obtain ⟨sm2, er2, eO2⟩ := p2 rfl
  subst er2 eO2
  subst er1 eO1 ek
  have smA : Same (upd H p (.dU [])) H2 := sm1.trans sm2
  obtain ⟨b, rfl, hb⟩ := keyT_rep.mp (Rep.go (Goes.same sm2) _ _ vo.2)
  have hP : H2 p = some (.dU []) := smA _ _ upd_same
  have np : ¬ O2 p := fun z => by obtain ⟨o, e, _⟩ := hE.mutO p z; rw [hp] at e; cases e
  have sm3 : Same H (upd H2 p (.dU [(k, b, z)])) := fun c o ec => by
    have : c ≠ p := fun w => by rw [w, hp] at ec; cases ec
    rw [upd_ne this]; exact smA c o (sp c o ec)
  refine ⟨b, k, rfl, hb, hP, ?_⟩
  have gU : Goes (uni (uni G.S0 (fpS [p])) O2) (uni (uni G.S0 (fpS [p])) O2) H2 (upd H2 p (.dU [(k, b, z)])) := Goes.upd hP trivial (.inl (.inr (by simp [fpS])))
  refine kk _ _ (.dT [k] [dz]) _ _ [p] (Step.of_same sm3) (e2.drop.updS (o := .dU [(k, b, z)]) (.inr (by simp [fpS])) hP trivial h0) ⟨by simp, fun a ha => ?_, ?_⟩ (fun _ => ⟨sm3, rfl, rfl⟩) hq2
  · obtain rfl : a = p := by simpa using ha
    exact ⟨hp, np, _, upd_same, trivial⟩
  · refine own1_mkU upd_same rfl (fun e he => ?_) ?_
    · have : e = (k, b, z) := by simpa using he
      rw [this]; exact hb.upd hP
    · simp only [List.map_cons, List.map_nil, Reps]
      exact ⟨_, _, rfl, Rep.go gU _ _ vo2.2, rfl⟩
end
end L2
namespace L2
open PySem PySem.Spec PyProof.Rows PySem.W
theorem exc0_of_in {K : Frag} {h : Heap} {C : Addr} {bmB : List Value} {newId : String} (X : K.In h) (q : excIn K C bmB newId = true) :
    ∃ bm N nm qn bs hd sn sub ab col dd k0 k1 k2 k3 k5 mN, h.get? C = some (excClassObj nm qn C N bs bm hd sn sub ab col dd k0 k1 k2 k3 k5 newId) ∧ h.Ns N mN ∧ mN "__init__" = none ∧ OwnTail h bmB bm := by
  unfold excIn at q
  split at q
  · rename_i dd cd sl ho
    split at q
    · rename_i C' bm k0 k1 k2 k3 n k5 hm hs
      simp only [Bool.and_eq_true, beq_iff_eq, Bool.not_eq_true'] at q
      obtain ⟨⟨⟨⟨⟨rfl, rfl⟩, hdel⟩, ht⟩, hok⟩, hni⟩ := q
      obtain ⟨nm, bs, mro, ns, qn, hd, sn, sub, ab, col, del⟩ := cd
      dsimp only at hm hdel hok hni; subst hm hdel
      have hsl : sl = #[k0, k1, k2, k3, some (.builtin n), k5] := by
        obtain ⟨l⟩ := sl
        simp only at hs
        rw [hs]
      subst hsl
      exact ⟨bm, ns, nm, qn, bs, hd, sn, sub, ab, col, dd, k0, k1, k2, k3, k5, _, X _ _ ho, .of_isNs (isNs_of_in X hok), nsMap_none_of_in X hok hni, tail_of_in X ht⟩
    · cases q
  · cases q
section
variable {X : Cx} {C : Addr} {x : Str} {e : Expr} {te : TE} {np cpos pos : Pos}
theorem ps_raise0 (hx : excIn X.K C vErr "ValueError.__new__" = true) (hc : X.calm = true) (hg : Gl X x) (hm : X.mg x = some (.ref C)) (he : PE X e te) (hdb : (x == ("__debug__" : Str)) = false)
    (hse : backTo cpos (starEach [e] X.env) = [(false, eval e X.env)]) : PS X (.Raise (some (.Call (.Name x np) [e] [] cpos)) none pos) (tRaise X C te) := by
  intro pins s σ H D I h
  obtain ⟨bm, N, nm, qn, bs, hd, sn, sub, ab, col, dd, k0, k1, k2, k3, k5, mN, hC, hN, hni, T⟩ := exc0_of_in I.ok.mod.kin hx
  refine wpAny_Raise_call_subU (C := C) (nm := nm) (q := qn) (N := N) (bs := bs) (bm := bm) (hdct := hd) (sn := sn) (sub := sub) (ab := ab) (col := col) (dd := dd) (k0 := k0) (k1 := k1) (k2 := k2) (k3 := k3) (k5 := k5) (newId := "ValueError.__new__") (mN := mN)
    PySem.F.excBase_ValueError PySem.F.excBase_ValueError.hasB PySem.F.excBase_ValueError (T.hasType PySem.F.excBase_ValueError.hasBase) (I.ok.hd hc) (by rw [hse]; rfl) hni (ld_glob I hg hm ⟨rfl, ?_⟩ hdb)
  rw [hse]
  refine Calls.evalArgs_plain (Calls.spliced_cons (thn (he pins s σ H _ I h) fun u s1 ⟨v, H1, I1, r, q⟩ => Calls.spliced_nil ?_))
  have q : Raises X H1 C := q.2
  have hb := I1.bk
  refine ⟨rfl, by rw [sizeLine_eq]; show 1 ≤ _; omega, hb _ _ hC, hN.keeps hb, T.keeps hb, fun h' ex hm => ?_⟩
  obtain ⟨t, ht, _, _⟩ := hm.there
  exact q pins σ s1 h' s1.toks ex t none I1 hm.keeps hm.new ht
end
section
variable {X : Cx} {κ : List SK} {md : SK} {pu pu1 pu2 : Bool} {a1 a2 e a : Expr} {as : List Expr} {E E1 E2 : DTE} {A : DTA} {pos p p2 np cpos cpos2 : Pos} {x y : Str}
theorem draise0 {Cl : Addr} {xs : Nat → Prop} {i : Nat} (hY : excIn X.K Cl vErr "ValueError.__new__" = true) (hc : X.calm = true) (hg : Gl X x) (hm : X.mg x = some (.ref Cl)) (hdb : (x == ("__debug__" : Str)) = false)
    (hse : backTo cpos (starEach [e] X.env) = [(false, eval e X.env)]) (hx : ∀ H', Same X.H₀ H' → xs i → Raises X H' Cl) (he : DE X κ pu .cl e E) : DSx X κ md (.Raise (some (.Call (.Name x np) [e] [] cpos)) none pos) (sRaise xs i E) :=
  ⟨(ps_raise0 hY hc hg hm he.h hdb hse).weak fun D σ H ⟨G, O, ρ, De, g, hE, hT, nx, bk, ct, rt⟩ => ⟨G, O, ρ, _, hE, hT, fun v H' d ρ' O' fp s1 e1 vo p1 hq => ⟨rfl, hx H' (EnvOk.from0 g e1.drop) hq⟩⟩⟩
def sRetN (sf : List D → (D → Prop) → Prop) (E1 E2 : DTE) (sd : SDX) (A : DTA) (x : Nat → Prop) : DTS := fun De ρ => E1 ρ fun d1 ρ1 => E2 ρ1 fun d2 ρ2 => A ρ2 fun ds ρ3 => sd ds (fun d3 => sf [d1, d2, d3] fun d => De.rt d ρ3) x
variable {sd : SDX} {sf : List D → (D → Prop) → Prop} {k k' : Nat} {g f : Addr} {fd fd' : FuncData} {ps ps' : List Str} {cl : List Addr}
theorem dretNx {CX : CXT} {E' Ef : XK} {xs : Nat → Prop} (F : FnOk X.prog X.w X.K X.mg X.base (CX1 X.prog X.w) k g fd ps (spPx X.K ps.length .cl cl sd)) (hr : Room k X.A) (hg : Gl X x) (hm : X.mg x = some (.ref g)) (hk : keepIn X.K (.ref g) = true) (hb : Binds X.K fd ps [])
    (hx : Passes (CX1 X.prog X.w) X E') (hE : ∀ i c H', cl[i]? = some c → Same X.H₀ H' → xs i → E' (.ref c) none H') (hdb : (x == ("__debug__" : Str)) = false) (hp : (a :: as).all plainE = true) (hlen : (a :: as).length = ps.length) (ha : DA X κ pu false (a :: as) A)
    (F' : FnOk X.prog X.w X.K X.mg X.base CX k' f fd' ps' (spP X.K 3 .cl sf)) (hr' : Room k' X.A) (hg' : Gl X y) (hm' : X.mg y = some (.ref f)) (hk' : keepIn X.K (.ref f) = true) (hb' : Binds X.K fd' ps' []) (hx' : Passes CX X Ef) (hdb' : (y == ("__debug__" : Str)) = false)
    (hp1 : plainE a1 = true) (hp2 : plainE a2 = true) (h1 : DE X κ true .cl a1 E1) (h2 : DE X κ true .cl a2 E2) :
    DSx X κ .cl (.Return (some (.Call (.Name y p2) [a1, a2, .Call (.Name x p) (a :: as) [] cpos] [] cpos2)) pos) (sRetN sf E1 E2 sd (eLen (a :: as).length A) xs) := by
  refine ⟨(ps_ret (pcl (by rw [List.all_cons, List.all_cons, hp1, hp2]; rfl) hdb' F' hr' hg' hm' hk' hb' .nil hx' (pac hp1 h1.h (pac hp2 h2.h (pac rfl (pcl hp hdb F hr hg hm hk hb .nil hx ha.h) pa_nil))))).weak fun D σ H ⟨G, O, ρ, De, g, hE0, hT, nx, bk, ct, rt⟩ => ⟨G, O, ρ, _, hE0, hT, fun v1 H1 d1 ρ1 O1 fp1 s1 e1 vo1 p1 hq1 => ⟨G, O1, ρ1, _, e1.drop, hq1, fun v2 H2 d2 ρ2 O2 fp2 s2 e2 vo2 p2 hq2 => ⟨G, O2, ρ2, _, e2.drop, hq2, fun vs H3 ds ρ3 O3 s3 e3 r3 p3 ⟨hl, hq3⟩ => ?_⟩⟩⟩⟩
  refine ⟨Sx false G.S0 O3, ds, _, _, by rw [List.append_nil, r3.len]; exact hl.trans hlen, Sx_dom e3, by rw [List.append_nil]; exact r3, hq3, fun v H' d fp sm vr hz => ?_, fun i c H' hi sm hz => hE i c H' hi (fun b o e => sm b o (EnvOk.from0 g e3 b o e)) hz⟩
  have e4 := e3.same0 sm
  have r1 : Rep X.K (uni G.S0 O3) H' d1 v1 := Rep.go (Goes.same sm) _ _ (Rep.go (Goes.step e2.drop.mutO s3) _ _ (Rep.go (Goes.step e1.drop.mutO s2) _ _ vo1.2))
  have r2 : Rep X.K (uni G.S0 O3) H' d2 v2 := Rep.go (Goes.same sm) _ _ (Rep.go (Goes.step e2.drop.mutO s3) _ _ vo2.2)
  refine ⟨Sx false G.S0 O3, [d1, d2, d], _, rfl, Sx_dom e4, ?_, hz, fun v' H'' d' fp' sm' vr' hz' => ?_⟩
  · simp only [List.append_nil, Reps]
    exact ⟨_, _, rfl, r1, _, _, rfl, r2, _, _, rfl, vr.2, rfl⟩
  · obtain ⟨fp2', st, en, vo⟩ := VRes.fin e4 (((s1.trans s2).trans s3).trans (.of_same sm)) sm' vr' (by simp)
    exact rt v' H'' d' ρ3 O3 fp2' σ en (vo.based hE0.dom) hz'
end
section
variable {X : Cx} {k : Nat} {g : Addr} {fd : FuncData} {ps : List Str} {sp : Sp} {x y : Str} {p pos cpos epos hpos rpos rpos2 py py2 : Pos} {a t : Expr} {as : List Expr} {ta : TA} {b : Bool} {i j : Nat}
def tTryA (sp : Sp) (ta : TA) (ok : Addr → Prop) (i : Nat) : TS := fun D σ H => ta σ H fun vs H1 => sp vs H1 (fun v H' => D.nx (σ.set i (some v)) H') (fun cls _ H' => (∃ C, cls = .ref C ∧ ok C) ∧ D.nx (σ.set i (some .non)) H')
theorem ps_tryA {ok : Addr → Prop} (hN : X.N.Nodup) (hi : X.N[i]? = some y) (hx : Loc X.env.scope y) (hf : X.fn y = true ∨ X.env.scope.names.lookup y = some .local) (F : FnOk X.prog X.w X.K X.mg X.base (CX1 X.prog X.w) k g fd ps sp) (hr : Room k X.A) (hg : Gl X x) (hm : X.mg x = some (.ref g)) (hk : keepIn X.K (.ref g) = true) (hb : Binds X.K fd ps [])
    (hst : X.stack = X.env :: X.outer ∧ X.env.frame = some X.env.locals) (ha : ∀ E, PA (X.wish E) (a :: as) ta) (hc : X.Ok → ∀ C, ok C → Catches X t C) (hdb : (x == ("__debug__" : Str)) = false)
    (he : starEach (a :: as) X.env = (false, eval a X.env) :: starEach as X.env) (hpl : (backTo cpos (starEach as X.env)).any (·.1) = false) (hs : swapsWith (.Call (.Name x p) (a :: as) [] cpos) (some (.Name y py)) epos.line X.env = pure false) (hs2 : swapsWith (.Constant .none j rpos) (some (.Name y py2)) rpos2.line X.env = pure false) :
    PS X (.Try [.Assign [.Name y py] (.Call (.Name x p) (a :: as) [] cpos) epos] [.ExceptHandler (some t) none [.Assign [.Name y py2] (.Constant .none j rpos) rpos2] hpos] [] [] pos) (tTryA sp ta ok i) := by
  intro pins s σ H D I h
  have key : ∀ (QQ : Value → Shared → Prop) (KX : Value → Shared → Prop), (∀ v u H' s', Inv X pins σ H' s' → RelV v u → D.nx (σ.set i (some v)) H' → QQ u s') → (∀ H1 s1 ev s', Inv X pins σ H1 s1 → CX1 X.prog X.w X.stack H1 s1 (fun cls _ H' => (∃ C, cls = .ref C ∧ ok C) ∧ D.nx (σ.set i (some .non)) H') ev s' → KX ev s') →
      wpAny (model X.prog X.w) X.A (eval (.Call (.Name x p) (a :: as) [] cpos) X.env) QQ KX s := by
    intro QQ KX hQQ hKX
    refine wpAny_Call_Name_kw (ld_glob I hg hm ?_ hdb)
    refine callWith_K (h₀ := X.base) I.ok.mod.kin hk (thn (ha KX cpos pins s σ H _ (I.wish KX) h) fun us s1 ⟨vs, H1, I1w, r, q⟩ => ⟨I1w.kIn, ?_⟩) he hpl
    have I1 : Inv X pins σ H1 s1 := I1w.unwish
    have hl : us.length = ps.length := by rw [← r.length]; exact F.len _ _ _ _ q
    have hbt : BindsTo s1 fd ⟨us, []⟩ (ps.zip us) := by
      have := hb s1 us I1.kIn (by rw [List.append_nil]; exact hl)
      rwa [List.append_nil] at this
    refine wpAny_call (codeAny_mono (F.run X.A X.stack s1 H1 ⟨us, []⟩ us vs _ _ hr I1.env0 hbt r q) fun r s' hq => ?_)
    cases r with
    | ok fl =>
      cases fl with
      | ret u =>
        obtain ⟨v, H', I2, rv, q2⟩ := I1.after hq
        exact hQQ v u H' s' I2 rv q2
      | next => exact False.elim hq
      | brk => exact False.elim hq
      | cont => exact False.elim hq
    | error ev => exact hKX H1 s1 ev s' I1 hq
  refine wpAny_Try_except (wpAny_execs_cons (wpAny_mono (wpAny_Assign_Name (Q := fun f s' => f = .next ∧ SP X pins D .next s') (key _ _ (fun v u H' s' I2 rv q2 => store_ok I2 hN hi hx rv (fun s2 I3 => ⟨rfl, _, H', I3, q2⟩) hf) ?_) hs) (fun f s' h' => ?_) fun _ _ q => q))
  · rintro H1 s1 ev s' I1 ⟨e, cls, a0, H', B, rfl, Fl, ⟨C, rfl, hC⟩, hrt⟩
    obtain ⟨st1, st2⟩ := hst
    have hfr : X.A.frames = some (X.env :: X.outer) := by rw [← st1]; exact I.ok.frames
    have fly0 : Heap.FlyingW B (X.env :: X.outer) e (.ref C) a0 s'.heap := by rw [← st1]; exact Fl.fly
    refine wpAny_looks_onW (base := B) hfr st2 fly0 fun h4 held up4 => ?_
    refine wpAny_landsW held fun h5 fl5 up5 => ?_
    have inv : ∀ (h'' : Heap) (tk : Nat), B.StaysIn h'' → s'.heap.UpToSlots h'' → Inv X pins σ H' { s' with heap := h'', toks := tk } := fun h'' tk st up => by
      obtain ⟨un2, hok2⟩ := Fl.after st up
      exact I1.call' Fl.os un2 hok2 Fl.bare fun b z => absurd z (by simp)
    have I5 := inv h5 s'.toks fl5.1 (up4.trans up5)
    refine wpAny_handleBy_cons (codeAny_handlers_test (hc I.ok C hC e _ _ _ _ fl5.there I5.bk fun cv h6 k6 lk6 => ?_)) (by intro q; cases q)
    refine lk6.here (s := { s' with heap := h6 }) ?_
    refine codeAny_handlers_suite (lands_againW (flying_keeps fl5 k6) fun h7 fl7 up7 => ?_)
    refine wpAny_execs_cons (wpAny_Assign_Name (Constant_none ?_) hs2)
    refine store_ok (v := .non) (inv h7 s'.toks fl7.1 (((up4.trans up5).trans (.of_keeps k6)).trans up7)) hN hi hx rfl (fun s2 I3 => ?_) hf
    exact wpAny_execs_nil ⟨_, H', I3, hrt⟩
  · obtain ⟨rfl, q⟩ := h'
    exact wpAny_execs_nil (wpAny_execs_nil q)
end
def sTryA (sd : SDX) (A : DTA) (i : Nat) : DTS := fun De ρ => A ρ fun ds ρ' => sd ds (fun d => De.nx (ρ'.set i (some d))) fun _ => De.nx (ρ'.set i (some .non))
section
variable {X : Cx} {κ : List SK} {md : SK} {pu lo : Bool} {a t : Expr} {as : List Expr} {A : DTA} {pos p cpos epos hpos rpos rpos2 py py2 : Pos} {x y : Str} {sd : SDX} {k i j : Nat} {g : Addr} {fd : FuncData} {ps : List Str} {cl : List Addr}
theorem ftryA {np : Nat} (hN : X.N.Nodup) (hi : X.N[i]? = some y) (hx : Loc X.env.scope y) (hf : X.fn y = true ∨ X.env.scope.names.lookup y = some .local) (hki : kd κ i = .cl) (hp : (a :: as).all plainE = true) (hdb : (x == ("__debug__" : Str)) = false) (F : FnOk X.prog X.w X.K X.mg X.base (CX1 X.prog X.w) k g fd ps (spPx X.K np .cl cl sd)) (hn : np = ps.length) (hlen : (a :: as).length = ps.length) (hr : Room k X.A) (hg : Gl X x) (hm : X.mg x = some (.ref g)) (hk : keepIn X.K (.ref g) = true) (hb : Binds X.K fd ps [])
    (hst : X.stack = X.env :: X.outer ∧ X.env.frame = some X.env.locals) (hs : swapsWith (.Call (.Name x p) (a :: as) [] cpos) (some (.Name y py)) epos.line X.env = pure false) (hs2 : swapsWith (.Constant .none j rpos) (some (.Name y py2)) rpos2.line X.env = pure false) (hc : X.Ok → ∀ (i : Nat) (Cl : Addr), cl[i]? = some Cl → Catches X t Cl) (ha : ∀ W, DA (X.wish W) κ pu false (a :: as) A) :
    DS X κ md (.Try [.Assign [.Name y py] (.Call (.Name x p) (a :: as) [] cpos) epos] [.ExceptHandler (some t) none [.Assign [.Name y py2] (.Constant .none j rpos) rpos2] hpos] [] [] pos) (sTryA sd (eLen (a :: as).length A) i) := by
  subst hn
  rw [List.all_cons, Bool.and_eq_true] at hp
  refine ⟨(ps_tryA (ok := fun Cl => ∃ i, cl[i]? = some Cl) hN hi hx hf F hr hg hm hk hb hst (ta := tDA X.K κ pu false A) (fun W => (ha W).h) (fun o Cl ⟨i, h2⟩ => hc o i Cl h2) hdb (star_plain hp.1) (star_any hp.2) hs hs2).weak fun D σ H ⟨G, O, ρ, De, hE, hT, nx, bk, ct, rt⟩ => ?_⟩
  refine ⟨G, O, ρ, _, hE, hT, fun vs H1 ds ρ1 O1 s1 e1 r1 p1 ⟨hl, hq1⟩ => ?_⟩
  refine ⟨Sx false G.S0 O1, ds, _, _, by rw [r1.len]; exact hl.trans hlen, Sx_dom e1, r1, hq1, fun v H' d fp sm vr hz => nx _ H' _ O1 ((e1.same0 sm).put (.inl ⟨hki, vr.2⟩)) hz, fun i' c H' hi' sm hz => ⟨⟨c, rfl, i', hi'⟩, ?_⟩⟩
  exact nx _ H' _ O1 ((e1.same0 sm).put (.inl ⟨hki, by simp only [Rep]⟩)) hz
end
theorem FnOk.vac {P : Program} {w : World} {K : Frag} {mg : Str → Option Value} {base : Heap} {k n : Nat} {f : Addr} {fd : FuncData} {ps : List Str} {md : SK} {sd : List D → (D → Prop) → Prop} (h : ∀ ds q, ¬ sd ds q) : FnOk P w K mg base CX0 k f fd ps (spP K n md sd) :=
  ⟨fun vs H Q E ⟨_, ds, q, _, _, _, z, _⟩ => absurd z (h ds q), fun A outer s H args us vs Q E hr he hb hv ⟨_, ds, q, _, _, _, z, _⟩ => absurd z (h ds q)⟩
section
variable {X : Cx} {κ : List SK} {pos : Pos}
theorem dnewK2 : DE X κ true (.ow 2) (.Dict [] [] pos) eNewK := by
  refine ⟨pe_dnewK.weak fun σ H Q ⟨G, O, ρ, q, hE, hq, k⟩ => fun p hp => ?_⟩
  have vr : VRes X.K (uni G.S0 O) H (upd H p (.dK [])) [p] (.ow 2) (.dK [] []) (.ref p) := by
    refine ⟨by simp, fun a ha => ?_, ?_⟩
    · obtain rfl : a = p := by simpa using ha
      exact ⟨hp, _, upd_same, trivial⟩
    · unfold Own
      exact ⟨p, [], rfl, rfl, .inr (.inl ⟨[], [], [], rfl, upd_same, rfl, rfl, rfl, fun i f x u e => by simp at e⟩)⟩
  obtain ⟨fp', st, en, vo⟩ := VRes.fin (lo := false) hE (Step.refl O H) (.new hp) vr (by simp)
  exact k _ _ _ ρ O fp' st en vo (fun _ => ⟨.new hp, rfl, rfl⟩) hq
end
end L2
set_option maxHeartbeats 4000000
namespace Rc
open PySem L2
def top (i : Nat) : Stmt := PySem.Challenge.pw_ribboncast_k21_laid_out_by_all_ways.main.body.getD i (.Pass ⟨0, 0, 0, 0⟩)
abbrev s_filled_cells : Stmt := top 6
abbrev s_cams_in : Stmt := top 8
abbrev s_names_by_width : Stmt := top 9
abbrev s_rows_for : Stmt := top 10
abbrev s_with_rows_of : Stmt := top 11
abbrev s_best_lifts : Stmt := top 12
abbrev s_cells_with_units : Stmt := top 13
abbrev s_case_by_lifts : Stmt := top 14
abbrev s_lay_out : Stmt := top 15
abbrev s_d_law_cell : Stmt := top 17
abbrev s_d_law_bag : Stmt := top 18
abbrev s_d_law_take : Stmt := top 19
abbrev s_d_law_least : Stmt := top 20
abbrev s_d_law_all_units : Stmt := top 21
abbrev s_d_law_due : Stmt := top 22
abbrev s_d_law_said : Stmt := top 23
abbrev s_law : Stmt := top 24
set_option genInjectivity false in
structure Adr where
  f_filled_cells : Addr
  d_filled_cells : FuncData
  f_cams_in : Addr
  d_cams_in : FuncData
  f_names_by_width : Addr
  d_names_by_width : FuncData
  f_rows_for : Addr
  d_rows_for : FuncData
  f_with_rows_of : Addr
  d_with_rows_of : FuncData
  f_best_lifts : Addr
  d_best_lifts : FuncData
  f_cells_with_units : Addr
  d_cells_with_units : FuncData
  f_case_by_lifts : Addr
  d_case_by_lifts : FuncData
  f_lay_out : Addr
  d_lay_out : FuncData
  f_d_law_cell : Addr
  d_d_law_cell : FuncData
  f_d_law_bag : Addr
  d_d_law_bag : FuncData
  f_d_law_take : Addr
  d_d_law_take : FuncData
  f_d_law_least : Addr
  d_d_law_least : FuncData
  f_d_law_all_units : Addr
  d_d_law_all_units : FuncData
  f_d_law_due : Addr
  d_d_law_due : FuncData
  f_d_law_said : Addr
  d_d_law_said : FuncData
  f_law : Addr
  d_law : FuncData
  x_NoLayout : Addr
structure Txt (K : PySem.W.Frag) (mg : Str → Option Value) (t : Adr) : Prop where
  Y_NoLayout : PySem.W.excIn K t.x_NoLayout vErr "ValueError.__new__" = true
  mx_NoLayout : mg "NoLayout" = some (.ref t.x_NoLayout)
  ca_0_0 : PySem.W.exmOne K (.ref t.x_NoLayout) (.ref t.x_NoLayout) = some true
  F_filled_cells : Fun K "filled_cells" "filled_cells" s_filled_cells t.f_filled_cells t.d_filled_cells
  m_filled_cells : mg "filled_cells" = some (.ref t.f_filled_cells)
  k_filled_cells : PySem.W.keepIn K (.ref t.f_filled_cells) = true
  b_filled_cells : Binds K t.d_filled_cells ["case"] []
  F_cams_in : Fun K "cams_in" "cams_in" s_cams_in t.f_cams_in t.d_cams_in
  m_cams_in : mg "cams_in" = some (.ref t.f_cams_in)
  k_cams_in : PySem.W.keepIn K (.ref t.f_cams_in) = true
  b_cams_in : Binds K t.d_cams_in ["case"] []
  F_names_by_width : Fun K "names_by_width" "names_by_width" s_names_by_width t.f_names_by_width t.d_names_by_width
  m_names_by_width : mg "names_by_width" = some (.ref t.f_names_by_width)
  k_names_by_width : PySem.W.keepIn K (.ref t.f_names_by_width) = true
  b_names_by_width : Binds K t.d_names_by_width ["letters"] []
  F_rows_for : Fun K "rows_for" "rows_for" s_rows_for t.f_rows_for t.d_rows_for
  m_rows_for : mg "rows_for" = some (.ref t.f_rows_for)
  k_rows_for : PySem.W.keepIn K (.ref t.f_rows_for) = true
  b_rows_for : Binds K t.d_rows_for ["many", "wide"] []
  F_with_rows_of : Fun K "with_rows_of" "with_rows_of" s_with_rows_of t.f_with_rows_of t.d_with_rows_of
  m_with_rows_of : mg "with_rows_of" = some (.ref t.f_with_rows_of)
  k_with_rows_of : PySem.W.keepIn K (.ref t.f_with_rows_of) = true
  b_with_rows_of : Binds K t.d_with_rows_of ["units", "ways", "names", "size"] []
  F_best_lifts : Fun K "best_lifts" "best_lifts" s_best_lifts t.f_best_lifts t.d_best_lifts
  m_best_lifts : mg "best_lifts" = some (.ref t.f_best_lifts)
  k_best_lifts : PySem.W.keepIn K (.ref t.f_best_lifts) = true
  b_best_lifts : Binds K t.d_best_lifts ["size", "names"] []
  F_cells_with_units : Fun K "cells_with_units" "cells_with_units" s_cells_with_units t.f_cells_with_units t.d_cells_with_units
  m_cells_with_units : mg "cells_with_units" = some (.ref t.f_cells_with_units)
  k_cells_with_units : PySem.W.keepIn K (.ref t.f_cells_with_units) = true
  b_cells_with_units : Binds K t.d_cells_with_units ["units", "names", "came", "lift"] []
  F_case_by_lifts : Fun K "case_by_lifts" "case_by_lifts" s_case_by_lifts t.f_case_by_lifts t.d_case_by_lifts
  m_case_by_lifts : mg "case_by_lifts" = some (.ref t.f_case_by_lifts)
  k_case_by_lifts : PySem.W.keepIn K (.ref t.f_case_by_lifts) = true
  b_case_by_lifts : Binds K t.d_case_by_lifts ["size", "names", "lifts"] []
  F_lay_out : Fun K "lay_out" "lay_out" s_lay_out t.f_lay_out t.d_lay_out
  m_lay_out : mg "lay_out" = some (.ref t.f_lay_out)
  k_lay_out : PySem.W.keepIn K (.ref t.f_lay_out) = true
  b_lay_out : Binds K t.d_lay_out ["size", "letters"] []
  F_d_law_cell : Fun K "_law_cell" "_law_cell" s_d_law_cell t.f_d_law_cell t.d_d_law_cell
  m_d_law_cell : mg "_law_cell" = some (.ref t.f_d_law_cell)
  k_d_law_cell : PySem.W.keepIn K (.ref t.f_d_law_cell) = true
  b_d_law_cell : Binds K t.d_d_law_cell ["_law_script", "_law_k"] []
  F_d_law_bag : Fun K "_law_bag" "_law_bag" s_d_law_bag t.f_d_law_bag t.d_d_law_bag
  m_d_law_bag : mg "_law_bag" = some (.ref t.f_d_law_bag)
  k_d_law_bag : PySem.W.keepIn K (.ref t.f_d_law_bag) = true
  b_d_law_bag : Binds K t.d_d_law_bag ["_law_script", "_law_at"] []
  F_d_law_take : Fun K "_law_take" "_law_take" s_d_law_take t.f_d_law_take t.d_d_law_take
  m_d_law_take : mg "_law_take" = some (.ref t.f_d_law_take)
  k_d_law_take : PySem.W.keepIn K (.ref t.f_d_law_take) = true
  b_d_law_take : Binds K t.d_d_law_take ["_law_bag_here", "_law_many"] []
  F_d_law_least : Fun K "_law_least" "_law_least" s_d_law_least t.f_d_law_least t.d_d_law_least
  m_d_law_least : mg "_law_least" = some (.ref t.f_d_law_least)
  k_d_law_least : PySem.W.keepIn K (.ref t.f_d_law_least) = true
  b_d_law_least : Binds K t.d_d_law_least ["_law_widths", "_law_units", "_law_room"] []
  F_d_law_all_units : Fun K "_law_all_units" "_law_all_units" s_d_law_all_units t.f_d_law_all_units t.d_d_law_all_units
  m_d_law_all_units : mg "_law_all_units" = some (.ref t.f_d_law_all_units)
  k_d_law_all_units : PySem.W.keepIn K (.ref t.f_d_law_all_units) = true
  b_d_law_all_units : Binds K t.d_d_law_all_units ["_law_low", "_law_high", "_law_many"] []
  F_d_law_due : Fun K "_law_due" "_law_due" s_d_law_due t.f_d_law_due t.d_d_law_due
  m_d_law_due : mg "_law_due" = some (.ref t.f_d_law_due)
  k_d_law_due : PySem.W.keepIn K (.ref t.f_d_law_due) = true
  b_d_law_due : Binds K t.d_d_law_due ["_law_size", "_law_widths"] []
  F_d_law_said : Fun K "_law_said" "_law_said" s_d_law_said t.f_d_law_said t.d_d_law_said
  m_d_law_said : mg "_law_said" = some (.ref t.f_d_law_said)
  k_d_law_said : PySem.W.keepIn K (.ref t.f_d_law_said) = true
  b_d_law_said : Binds K t.d_d_law_said ["_law_size", "_law_letters"] []
  F_law : Fun K "law" "law" s_law t.f_law t.d_law
  m_law : mg "law" = some (.ref t.f_law)
  k_law : PySem.W.keepIn K (.ref t.f_law) = true
  b_law : Binds K t.d_law ["_law_script"] []
  n_abs : mg "abs" = none
  n_all : mg "all" = none
  n_bool : mg "bool" = none
  n_enumerate : mg "enumerate" = none
  n_int : mg "int" = none
  n_isinstance : mg "isinstance" = none
  n_len : mg "len" = none
  n_max : mg "max" = none
  n_min : mg "min" = none
  n_range : mg "range" = none
  n_tuple : mg "tuple" = none
  c_BLANK : ∃ tk, mg "BLANK" = some (.str " " tk)
  c_GREATEST_UNITS : ∃ tk, mg "GREATEST_UNITS" = some (.int 30 tk)
theorem sc_filled_cells : FnScope ["case"] ["case"] (defScope s_filled_cells) := ⟨rfl, rfl, rfl, by decide +kernel, rfl, by decide +kernel, by decide +kernel⟩
def κ_filled_cells : List SK := [SK.cl]
theorem kl_filled_cells (ρ : EnvD) : kl κ_filled_cells ρ = ρ := rfl
theorem sc_cams_in : FnScope ["case"] ["case"] (defScope s_cams_in) := ⟨rfl, rfl, rfl, by decide +kernel, rfl, by decide +kernel, by decide +kernel⟩
def κ_cams_in : List SK := [SK.cl]
theorem kl_cams_in (ρ : EnvD) : kl κ_cams_in ρ = ρ := rfl
theorem sc_names_by_width : FnScope ["letters", "names", "name", "width"] ["letters"] (defScope s_names_by_width) := ⟨rfl, rfl, rfl, by decide +kernel, rfl, by decide +kernel, by decide +kernel⟩
def κ_names_by_width : List SK := [SK.cl, SK.ow 2, SK.cl, SK.cl]
theorem kl_names_by_width (ρ : EnvD) : kl κ_names_by_width ρ = ρ := rfl
theorem sc_rows_for : FnScope ["many", "wide"] ["many", "wide"] (defScope s_rows_for) := ⟨rfl, rfl, rfl, by decide +kernel, rfl, by decide +kernel, by decide +kernel⟩
def κ_rows_for : List SK := [SK.cl, SK.cl]
theorem kl_rows_for (ρ : EnvD) : kl κ_rows_for ρ = ρ := rfl
theorem sc_with_rows_of : FnScope ["units", "ways", "names", "size", "wide", "high", "own", "upper", "best", "rows", "came", "cams", "lifts", "left", "lift", "taken", "way"] ["units", "ways", "names", "size"] (defScope s_with_rows_of) := ⟨rfl, rfl, rfl, by decide +kernel, rfl, by decide +kernel, by decide +kernel⟩
def κ_with_rows_of : List SK := [SK.cl, SK.cl, SK.cl, SK.cl, SK.cl, SK.cl, SK.cl, SK.cl, SK.ow 1, SK.cl, SK.cl, SK.cl, SK.cl, SK.cl, SK.cl, SK.cl, SK.cl]
theorem kl_with_rows_of (ρ : EnvD) : kl κ_with_rows_of ρ = ρ := rfl
theorem sc_best_lifts : FnScope ["size", "names", "ways", "units", "last", "whole", "cams", "lifts"] ["size", "names"] (defScope s_best_lifts) := ⟨rfl, rfl, rfl, by decide +kernel, rfl, by decide +kernel, by decide +kernel⟩
def κ_best_lifts : List SK := [SK.cl, SK.cl, SK.cl, SK.cl, SK.cl, SK.cl, SK.cl, SK.cl]
theorem kl_best_lifts (ρ : EnvD) : kl κ_best_lifts ρ = ρ := rfl
theorem sc_cells_with_units : FnScope ["units", "names", "came", "lift", "lower", "own", "upper", "cells"] ["units", "names", "came", "lift"] (defScope s_cells_with_units) := ⟨rfl, rfl, rfl, by decide +kernel, rfl, by decide +kernel, by decide +kernel⟩
def κ_cells_with_units : List SK := [SK.cl, SK.cl, SK.cl, SK.cl, SK.cl, SK.cl, SK.cl, SK.ow 1]
theorem kl_cells_with_units (ρ : EnvD) : kl κ_cells_with_units ρ = ρ := rfl
theorem sc_case_by_lifts : FnScope ["size", "names", "lifts", "wide", "high", "rows", "cells", "units", "filled", "many"] ["size", "names", "lifts"] (defScope s_case_by_lifts) := ⟨rfl, rfl, rfl, by decide +kernel, rfl, by decide +kernel, by decide +kernel⟩
def κ_case_by_lifts : List SK := [SK.cl, SK.cl, SK.cl, SK.cl, SK.cl, SK.ow 1, SK.ow 1, SK.cl, SK.cl, SK.cl]
theorem kl_case_by_lifts (ρ : EnvD) : kl κ_case_by_lifts ρ = ρ := rfl
theorem sc_lay_out : FnScope ["size", "letters", "wide", "high", "names"] ["size", "letters"] (defScope s_lay_out) := ⟨rfl, rfl, rfl, by decide +kernel, rfl, by decide +kernel, by decide +kernel⟩
def κ_lay_out : List SK := [SK.cl, SK.cl, SK.cl, SK.cl, SK.cl]
theorem kl_lay_out (ρ : EnvD) : kl κ_lay_out ρ = ρ := rfl
theorem sc_d_law_cell : FnScope ["_law_script", "_law_k"] ["_law_script", "_law_k"] (defScope s_d_law_cell) := ⟨rfl, rfl, rfl, by decide +kernel, rfl, by decide +kernel, by decide +kernel⟩
def κ_d_law_cell : List SK := [SK.cl, SK.cl]
theorem kl_d_law_cell (ρ : EnvD) : kl κ_d_law_cell ρ = ρ := rfl
theorem sc_d_law_bag : FnScope ["_law_script", "_law_at", "_law_cell_here", "_law_mix", "_law_k"] ["_law_script", "_law_at"] (defScope s_d_law_bag) := ⟨rfl, rfl, rfl, by decide +kernel, rfl, by decide +kernel, by decide +kernel⟩
def κ_d_law_bag : List SK := [SK.cl, SK.cl, SK.cl, SK.cl, SK.cl]
theorem kl_d_law_bag (ρ : EnvD) : kl κ_d_law_bag ρ = ρ := rfl
theorem sc_d_law_take : FnScope ["_law_bag_here", "_law_many", "_law_digit"] ["_law_bag_here", "_law_many"] (defScope s_d_law_take) := ⟨rfl, rfl, rfl, by decide +kernel, rfl, by decide +kernel, by decide +kernel⟩
def κ_d_law_take : List SK := [SK.io 1, SK.cl, SK.cl]
theorem kl_d_law_take (ρ : EnvD) : kl κ_d_law_take ρ = ρ := rfl
theorem sc_d_law_least : FnScope ["_law_widths", "_law_units", "_law_room", "_law_best", "_law_row", "_law_cam", "_law_less", "_law_more"] ["_law_widths", "_law_units", "_law_room"] (defScope s_d_law_least) := ⟨rfl, rfl, rfl, by decide +kernel, rfl, by decide +kernel, by decide +kernel⟩
def κ_d_law_least : List SK := [SK.cl, SK.cl, SK.cl, SK.cl, SK.cl, SK.cl, SK.cl, SK.cl]
theorem kl_d_law_least (ρ : EnvD) : kl κ_d_law_least ρ = ρ := rfl
theorem sc_d_law_all_units : FnScope ["_law_low", "_law_high", "_law_many", "_law_found", "_law_units"] ["_law_low", "_law_high", "_law_many"] (defScope s_d_law_all_units) := ⟨rfl, rfl, rfl, by decide +kernel, rfl, by decide +kernel, by decide +kernel⟩
def κ_d_law_all_units : List SK := [SK.cl, SK.cl, SK.cl, SK.ow 1, SK.cl]
theorem kl_d_law_all_units (ρ : EnvD) : kl κ_d_law_all_units ρ = ρ := rfl
theorem sc_d_law_due : FnScope ["_law_size", "_law_widths", "_law_best", "_law_units", "_law_told"] ["_law_size", "_law_widths"] (defScope s_d_law_due) := ⟨rfl, rfl, rfl, by decide +kernel, rfl, by decide +kernel, by decide +kernel⟩
def κ_d_law_due : List SK := [SK.cl, SK.cl, SK.cl, SK.cl, SK.cl]
theorem kl_d_law_due (ρ : EnvD) : kl κ_d_law_due ρ = ρ := rfl
theorem sc_d_law_said : FnScope ["_law_size", "_law_letters", "_law_found"] ["_law_size", "_law_letters"] (defScope s_d_law_said) := ⟨rfl, rfl, rfl, by decide +kernel, rfl, by decide +kernel, by decide +kernel⟩
def κ_d_law_said : List SK := [SK.cl, SK.cl, SK.cl]
theorem kl_d_law_said (ρ : EnvD) : kl κ_d_law_said ρ = ρ := rfl
theorem sc_law : FnScope ["_law_script", "_law_k", "_law_bag_here", "_law_size", "_law_many", "_law_among", "_law_least_here", "_law_letters", "_law_due_here", "_law_found", "_law_told"] ["_law_script"] (defScope s_law) := ⟨rfl, rfl, rfl, by decide +kernel, rfl, by decide +kernel, by decide +kernel⟩
def κ_law : List SK := [SK.cl, SK.cl, SK.ow 1, SK.cl, SK.cl, SK.cl, SK.cl, SK.cl, SK.cl, SK.cl, SK.cl]
theorem kl_law (ρ : EnvD) : kl κ_law ρ = ρ := rfl
def ab (x : Int) : Int := if x < 0 then -x else x
def mn0 (c : Int) : Int := if 0 < c then 0 else c
def mx0 (c : Int) : Int := if 0 > c then 0 else c
theorem ab_nonneg (x : Int) : 0 ≤ ab x := by unfold ab; split <;> omega
theorem ab_mx (x : Int) : ab x = mx0 x + mx0 (-x) := by
  unfold ab mx0
  repeat' split
  all_goals omega
theorem mx0_sub (x : Int) : mx0 x - mx0 (-x) = x := by
  unfold mx0
  repeat' split
  all_goals omega
theorem mx0_nonneg (x : Int) : 0 ≤ mx0 x := by unfold mx0; split <;> omega
theorem mx0_zero : mx0 0 = 0 := rfl
inductive Asg : List Int → List Int → List Int → Int → Prop
  | nil {us rm : List Int} : Asg [] us rm 0
  | cons {w : Int} {ws us rm : List Int} {u m c : Int} (r : Nat) (hu : us[r]? = some u) (hm : rm[r]? = some m) (pos : 0 < m) (near : ab (w - u) < 2) (h : Asg ws us (rm.set r (m - 1)) c) : Asg (w :: ws) us rm (ab (w - u) + c)
def need (own : Int → Int) (w : Int) (u : Nat) (c lift : Int) : Int := (own ((u : Int) + 1) + c - lift + w - 1) / w
inductive Pth (own : Int → Int) (w h : Int) : Nat → Int → Int → Int → List Int → Prop
  | zero : Pth own w h 0 0 0 0 [0]
  | step {u : Nat} {r c k : Int} {L : List Int} (lift : Int) (p : Pth own w h u r c k L) (h1 : -(own ((u : Int) + 2)) ≤ lift) (h2 : lift ≤ own ((u : Int) + 1) + mn0 c) (h3 : r + need own w u c lift ≤ h) : Pth own w h (u + 1) (r + need own w u c lift) lift (k + ab lift) (L ++ [lift])
def cn (ws : List Int) (i : Int) : Int := (ws.count i : Nat)
theorem cn_nonneg (ws : List Int) (i : Int) : 0 ≤ cn ws i := by unfold cn; omega
theorem cn_cons (w : Int) (ws : List Int) (i : Int) : cn (w :: ws) i = cn ws i + if w = i then 1 else 0 := by
  unfold cn
  rw [List.count_cons]
  by_cases h : w = i <;> simp [h]
def roomOf : List Int → List Int → Int → Int
  | u :: us, m :: rm, U => (if u = U then m else 0) + roomOf us rm U
  | _, _, _ => 0
theorem roomOf_set {U u m : Int} : ∀ {us rm : List Int} {r : Nat} (x : Int), us[r]? = some u → rm[r]? = some m → roomOf us (rm.set r x) U = roomOf us rm U + if u = U then x - m else 0
  | [], _, r, x, h, _ => by simp at h
  | _ :: _, [], r, x, _, h => by simp at h
  | v :: us, n :: rm, 0, x, h1, h2 => by
    simp at h1 h2
    subst h1 h2
    simp only [List.set_cons_zero, roomOf]
    split <;> omega
  | v :: us, n :: rm, r + 1, x, h1, h2 => by
    simp only [List.getElem?_cons_succ] at h1 h2
    simp only [List.set_cons_succ, roomOf, roomOf_set (U := U) x h1 h2]
    omega
theorem roomOf_pos {U : Int} : ∀ {us rm : List Int}, (∀ m ∈ rm, 0 ≤ m) → 0 < roomOf us rm U → ∃ (r : Nat) (m : Int), us[r]? = some U ∧ rm[r]? = some m ∧ 0 < m
  | [], _, _, h => by simp [roomOf] at h
  | _ :: _, [], _, h => by simp [roomOf] at h
  | u :: us, m :: rm, hn, h => by
    simp only [roomOf] at h
    by_cases e : u = U ∧ 0 < m
    · exact ⟨0, m, by simp [e.1], rfl, e.2⟩
    · have hm := hn m (by simp)
      have : 0 < roomOf us rm U := by
        by_cases e1 : u = U
        · rw [if_pos e1] at h
          have : ¬ 0 < m := fun z => e ⟨e1, z⟩
          omega
        · rw [if_neg e1] at h; omega
      obtain ⟨r, m', h1, h2, h3⟩ := roomOf_pos (fun x hx => hn x (by simp [hx])) this
      exact ⟨r + 1, m', by simpa using h1, by simpa using h2, h3⟩
def cp (A : List (Int × Int)) (i j : Int) : Int := (A.count (i, j) : Nat)
theorem cp_nonneg (A : List (Int × Int)) (i j : Int) : 0 ≤ cp A i j := by unfold cp; omega
theorem cp_cons (p : Int × Int) (A : List (Int × Int)) (i j : Int) : cp (p :: A) i j = cp A i j + if p.1 = i ∧ p.2 = j then 1 else 0 := by
  unfold cp
  rw [List.count_cons]
  by_cases h : p.1 = i ∧ p.2 = j
  · rw [if_pos h, if_pos (by obtain ⟨a, b⟩ := p; simp at h; simp [h])]; omega
  · rw [if_neg h, if_neg (by obtain ⟨a, b⟩ := p; simp at h ⊢; exact h)]; omega
theorem asg_pairs {ws us rm : List Int} {c : Int} (h : Asg ws us rm c) : (∀ m ∈ rm, 0 ≤ m) → ∃ A : List (Int × Int), A.map (·.1) = ws ∧ (∀ p ∈ A, ab (p.1 - p.2) < 2 ∧ p.2 ∈ us) ∧ (A.map fun p => ab (p.1 - p.2)).sum = c ∧ ∀ U, ((A.map (·.2)).count U : Nat) ≤ roomOf us rm U := by
  induction h with
  | nil =>
    intro hn
    refine ⟨[], rfl, fun p hp => by simp at hp, rfl, fun U => ?_⟩
    have : ∀ {us rm : List Int}, (∀ m ∈ rm, 0 ≤ m) → 0 ≤ roomOf us rm U := by
      intro us
      induction us with
      | nil => intro rm _; simp [roomOf]
      | cons u us ih =>
        intro rm hn
        cases rm with
        | nil => simp [roomOf]
        | cons m rm =>
          simp only [roomOf]
          have h1 := ih (rm := rm) fun x hx => hn x (by simp [hx])
          have h2 := hn m (by simp)
          split <;> omega
    simpa using this hn
  | @cons w ws us rm u m c r hu hm pos near h ih =>
    intro hn
    obtain ⟨A, h1, h2, h3, h4⟩ := ih fun x hx => by
      rcases List.mem_or_eq_of_mem_set hx with z | z
      · exact hn x z
      · rw [z]; omega
    refine ⟨(w, u) :: A, by rw [List.map_cons, h1], fun p hp => ?_, by rw [List.map_cons, List.sum_cons, h3], fun U => ?_⟩
    · rcases List.mem_cons.mp hp with rfl | hp
      · exact ⟨near, List.mem_of_getElem? hu⟩
      · exact h2 p hp
    · have := h4 U
      rw [roomOf_set (m - 1) hu hm] at this
      rw [List.map_cons, List.count_cons]
      by_cases e : u = U
      · rw [if_pos e] at this
        simp [e]; omega
      · rw [if_neg e] at this
        simp [e]; omega
def sm (f : Nat → Int) : Nat → Int
  | 0 => 0
  | n + 1 => sm f n + f n
theorem sm_add (f g : Nat → Int) (n : Nat) : sm (fun i => f i + g i) n = sm f n + sm g n := by
  induction n with
  | zero => rfl
  | succ n ih => simp only [sm, ih]; omega
theorem sm_le {f g : Nat → Int} {n : Nat} (h : ∀ i, i < n → f i ≤ g i) : sm f n ≤ sm g n := by
  induction n with
  | zero => exact Int.le_refl _
  | succ n ih =>
    have := ih fun i hi => h i (by omega)
    have := h n (by omega)
    simp only [sm]; omega
theorem sm_eq {f g : Nat → Int} {n : Nat} (h : ∀ i, i < n → f i = g i) : sm f n = sm g n := by
  have h1 := sm_le (n := n) fun i hi => Int.le_of_eq (h i hi)
  have h2 := sm_le (n := n) fun i hi => Int.le_of_eq (h i hi).symm
  omega
theorem sm_zero (n : Nat) : sm (fun _ => 0) n = 0 := by
  induction n with
  | zero => rfl
  | succ n ih => simp only [sm, ih]; rfl
theorem cross_le (A : List (Int × Int)) (n : Nat) : sm (fun i => cp A i ((i : Int) + 1) + cp A ((i : Int) + 1) i) n ≤ (A.map fun p => ab (p.1 - p.2)).sum := by
  induction A with
  | nil =>
    rw [sm_eq (g := fun _ => 0) fun i _ => by simp [cp], sm_zero]; simp
  | cons p A ih =>
    rw [List.map_cons, List.sum_cons, sm_eq (g := fun i => (cp A i ((i : Int) + 1) + cp A ((i : Int) + 1) i) + ((if p.1 = i ∧ p.2 = (i : Int) + 1 then 1 else 0) + (if p.1 = (i : Int) + 1 ∧ p.2 = i then 1 else 0))) fun i _ => by rw [cp_cons, cp_cons]; omega, sm_add]
    have : ∀ n : Nat, sm (fun i => (if p.1 = i ∧ p.2 = (i : Int) + 1 then 1 else 0) + (if p.1 = (i : Int) + 1 ∧ p.2 = i then 1 else 0)) n = if (p.2 = p.1 + 1 ∧ 0 ≤ p.1 ∧ p.1 < n) ∨ (p.1 = p.2 + 1 ∧ 0 ≤ p.2 ∧ p.2 < n) then 1 else 0 := by
      intro n
      induction n with
      | zero => simp only [sm]; rw [if_neg (by omega)]
      | succ n ih =>
        simp only [sm, ih]
        repeat' split
        all_goals omega
    have h2 : (if (p.2 = p.1 + 1 ∧ 0 ≤ p.1 ∧ p.1 < n) ∨ (p.1 = p.2 + 1 ∧ 0 ≤ p.2 ∧ p.2 < n) then (1 : Int) else 0) ≤ ab (p.1 - p.2) := by
      unfold ab
      split <;> split <;> omega
    rw [this]
    omega
theorem by_rows {A : List (Int × Int)} (near : ∀ p ∈ A, ab (p.1 - p.2) < 2) (U : Int) : ((A.map (·.2)).count U : Nat) = cp A U U + cp A (U - 1) U + cp A (U + 1) U ∧ ((A.map (·.1)).count U : Nat) = cp A U U + cp A U (U + 1) + cp A U (U - 1) := by
  induction A with
  | nil => simp [cp]
  | cons p A ih =>
    obtain ⟨i1, i2⟩ := ih fun q hq => near q (by simp [hq])
    have hp := near p (by simp)
    obtain ⟨a, b⟩ := p
    rw [List.map_cons, List.map_cons, List.count_cons, List.count_cons]
    simp only [cp_cons, beq_iff_eq]
    unfold ab at hp
    simp only at hp
    constructor
    · rw [Int.natCast_add, i1]
      repeat' split
      all_goals simp_all
      all_goals omega
    · rw [Int.natCast_add, i2]
      repeat' split
      all_goals simp_all
      all_goals omega
theorem room_rep {U w : Int} : ∀ (us : List Int), roomOf us (List.replicate us.length w) U = (us.count U : Nat) * w
  | [] => by simp [roomOf]
  | u :: us => by
    rw [List.length_cons, List.replicate_succ, roomOf, room_rep us, List.count_cons]
    by_cases e : u = U
    · simp only [e, beq_self_eq_true, if_true]
      rw [Int.natCast_add, Int.add_mul]; omega
    · simp only [beq_iff_eq, e, if_false]
      rw [Nat.add_zero]; omega
theorem count_rows_le (us : List Int) (n : Nat) : sm (fun i => ((us.count ((i : Int) + 1) : Nat) : Int)) n ≤ us.length := by
  induction us with
  | nil => rw [sm_eq (g := fun _ => 0) fun i _ => by simp, sm_zero]; simp
  | cons u us ih =>
    rw [sm_eq (g := fun i => ((us.count ((i : Int) + 1) : Nat) : Int) + (if u = (i : Int) + 1 then 1 else 0)) fun i _ => by
      rw [List.count_cons]; simp only [beq_iff_eq]; split <;> omega, sm_add, List.length_cons]
    have : ∀ n : Nat, sm (fun i => if u = (i : Int) + 1 then 1 else 0) n = if 1 ≤ u ∧ u ≤ n then 1 else 0 := by
      intro n
      induction n with
      | zero => simp only [sm]; rw [if_neg (by omega)]
      | succ n ih =>
        simp only [sm, ih]
        repeat' split
        all_goals omega
    rw [this]
    split <;> omega
theorem ceil_le {a w n : Int} (hw : 0 < w) (h : a ≤ n * w) : (a + w - 1) / w ≤ n := by
  have : (a + w - 1) / w < n + 1 := Int.ediv_lt_of_lt_mul hw (by rw [Int.add_mul]; omega)
  omega
theorem math_b {ws us : List Int} {w h c : Int} (hw : 0 < w) (hw1 : ∀ x ∈ ws, 1 ≤ x ∧ x ≤ 30) (hu : ∀ u ∈ us, 1 ≤ u ∧ u ≤ 30) (hl : (us.length : Int) = h) (ha : Asg ws us (List.replicate us.length w) c) : ∃ r k L, Pth (cn ws) w h 30 r 0 k L ∧ k ≤ c := by
  obtain ⟨A, rfl, h2, h3, h4⟩ := asg_pairs ha fun m hm => by rw [List.eq_of_mem_replicate hm]; omega
  have near : ∀ p ∈ A, ab (p.1 - p.2) < 2 := fun p hp => (h2 p hp).1
  have lf : ∀ u : Nat, u ≤ 30 → ∃ r k L, Pth (cn (A.map (·.1))) w h u r (cp A u ((u : Int) + 1) - cp A ((u : Int) + 1) u) k L ∧ r ≤ sm (fun i => ((us.count ((i : Int) + 1) : Nat) : Int)) u ∧ k ≤ sm (fun i => cp A i ((i : Int) + 1) + cp A ((i : Int) + 1) i) (u + 1) := by
    intro u
    induction u with
    | zero =>
      intro _
      have e1 : cp A 0 1 = 0 := by
        unfold cp
        rw [List.count_eq_zero.mpr]; rfl
        intro z; have := hw1 0 (List.mem_map.mpr ⟨_, z, rfl⟩); omega
      have e2 : cp A 1 0 = 0 := by
        unfold cp
        rw [List.count_eq_zero.mpr]; rfl
        intro z; have := hu 0 (h2 _ z).2; omega
      refine ⟨0, 0, [0], ?_, Int.le_refl _, ?_⟩
      · show Pth _ _ _ 0 0 (cp A 0 1 - cp A 1 0) 0 [0]
        rw [e1, e2]; exact .zero
      · show (0 : Int) ≤ 0 + (cp A 0 1 + cp A 1 0)
        rw [e1, e2]; omega
    | succ u ih =>
      intro hu30
      obtain ⟨r, k, L, p, hr, hk⟩ := ih (by omega)
      obtain ⟨q1, q2⟩ := by_rows near ((u : Int) + 1)
      obtain ⟨q3, q4⟩ := by_rows near ((u : Int) + 2)
      have h5 := h4 ((u : Int) + 1)
      rw [room_rep] at h5
      have n1 := cp_nonneg A ((u : Int) + 1) ((u : Int) + 1)
      have n2 := cp_nonneg A u ((u : Int) + 1)
      have n3 := cp_nonneg A ((u : Int) + 1) u
      have n4 := cp_nonneg A ((u : Int) + 1) ((u : Int) + 2)
      have n5 := cp_nonneg A ((u : Int) + 2) ((u : Int) + 1)
      have n6 := cp_nonneg A ((u : Int) + 2) ((u : Int) + 2)
      have n7 := cp_nonneg A ((u : Int) + 2) ((u : Int) + 3)
      rw [show (u : Int) + 1 - 1 = u by omega, show (u : Int) + 1 + 1 = u + 2 by omega] at q1 q2
      rw [show (u : Int) + 2 - 1 = u + 1 by omega, show (u : Int) + 2 + 1 = u + 3 by omega] at q3 q4
      have hneed : need (cn (A.map (·.1))) w u (cp A u ((u : Int) + 1) - cp A ((u : Int) + 1) u) (cp A ((u : Int) + 1) ((u : Int) + 2) - cp A ((u : Int) + 2) ((u : Int) + 1)) ≤ (us.count ((u : Int) + 1) : Nat) := by
        unfold need
        refine ceil_le hw ?_
        unfold cn
        omega
      have htot := count_rows_le us (u + 1)
      simp only [sm] at htot
      have e : ((u + 1 : Nat) : Int) = (u : Int) + 1 := by omega
      have ab1 : ab (cp A ((u : Int) + 1) ((u : Int) + 2) - cp A ((u : Int) + 2) ((u : Int) + 1)) ≤ cp A ((u : Int) + 1) ((u : Int) + 2) + cp A ((u : Int) + 2) ((u : Int) + 1) := by unfold ab; split <;> omega
      have st := Pth.step (cp A ((u : Int) + 1) ((u : Int) + 2) - cp A ((u : Int) + 2) ((u : Int) + 1)) p (by unfold cn; omega) (by unfold cn mn0; split <;> omega) (by omega)
      rw [e, show (u : Int) + 1 + 1 = u + 2 by omega]
      refine ⟨_, _, _, st, ?_, ?_⟩
      · simp only [sm]; omega
      · rw [sm, e, show (u : Int) + 1 + 1 = u + 2 by omega]; omega
  obtain ⟨r, k, L, p, hr, hk⟩ := lf 30 (Nat.le_refl _)
  have e1 : cp A 30 31 = 0 := by
    unfold cp
    rw [List.count_eq_zero.mpr]; rfl
    intro z; have := hu 31 (h2 _ z).2; omega
  have e2 : cp A 31 30 = 0 := by
    unfold cp
    rw [List.count_eq_zero.mpr]; rfl
    intro z; have := hw1 31 (List.mem_map.mpr ⟨_, z, rfl⟩); omega
  have p : Pth (cn (A.map (·.1))) w h 30 r (cp A 30 31 - cp A 31 30) k L := p
  rw [e1, e2] at p
  have := cross_le A 31
  exact ⟨r, k, L, p, Int.le_trans hk (h3 ▸ this)⟩
def dec (f : Int → Int) (x : Int) : Int → Int := fun y => if y = x then f y - 1 else f y
theorem sm_dec {f : Int → Int} {x : Int} : ∀ {n : Nat}, 0 ≤ x → sm (fun i => dec f x i) n = sm (fun i => f i) n - if x < n then 1 else 0
  | 0, h => by simp only [sm]; rw [if_neg (by omega)]; rfl
  | n + 1, h => by
    have e : dec f x n = f n - if (n : Int) = x then 1 else 0 := by unfold dec; split <;> omega
    rw [sm, sm_dec (n := n) h, e, sm]
    repeat' split
    all_goals omega
theorem asg_plan {us : List Int} {N : Nat} : ∀ (ws rm : List Int) (up dn st : Int → Int), (∀ m ∈ rm, 0 ≤ m) → (∀ x ∈ ws, 0 ≤ x ∧ x < N) → (∀ x, 0 ≤ up x ∧ 0 ≤ dn x ∧ 0 ≤ st x ∧ dn x + st x + up x = cn ws x) → (∀ U, st U + up (U - 1) + dn (U + 1) ≤ roomOf us rm U) →
    ∃ c, Asg ws us rm c ∧ c ≤ sm (fun i => up i + dn i) N
  | [], rm, up, dn, st, _, _, h, _ => by
    refine ⟨0, .nil, ?_⟩
    have := sm_le (f := fun _ => 0) (g := fun i : Nat => up i + dn i) (n := N) fun i _ => by have := h i; omega
    rw [sm_zero] at this
    exact this
  | x :: ws, rm, up, dn, st, hn, hx, h, hr => by
    have hx0 := hx x (by simp)
    have go : ∀ (U m c : Int) (r : Nat) (up' dn' st' : Int → Int), us[r]? = some U → rm[r]? = some m → 0 < m → ab (x - U) < 2 → (∀ y, 0 ≤ up' y ∧ 0 ≤ dn' y ∧ 0 ≤ st' y ∧ dn' y + st' y + up' y = cn ws y) → (∀ V, st' V + up' (V - 1) + dn' (V + 1) ≤ roomOf us rm V + if U = V then -1 else 0) →
        ∃ c', Asg (x :: ws) us rm (ab (x - U) + c') ∧ c' ≤ sm (fun i => up' i + dn' i) N := by
      intro U m c r up' dn' st' h1 h2 h3 h4 h5 h6
      obtain ⟨c', a1, a2⟩ := asg_plan ws (rm.set r (m - 1)) up' dn' st' (fun y hy => by
        rcases List.mem_or_eq_of_mem_set hy with z | z
        · exact hn y z
        · rw [z]; omega) (fun y hy => hx y (by simp [hy])) h5 (fun V => by
        rw [roomOf_set (m - 1) h1 h2]
        have := h6 V
        split at this <;> rename_i e
        · rw [if_pos e]; omega
        · rw [if_neg e]; omega)
      exact ⟨c', .cons r h1 h2 h3 h4 a1, a2⟩
    have cx := (h x).2.2.2
    rw [cn_cons, if_pos rfl] at cx
    have c0 := cn_nonneg ws x
    have old : ∀ y, y ≠ x → cn (x :: ws) y = cn ws y := fun y hy => by rw [cn_cons, if_neg (Ne.symm hy)]; omega
    have new : cn (x :: ws) x = cn ws x + 1 := by rw [cn_cons, if_pos rfl]
    by_cases e1 : 0 < st x
    · have hU := hr x
      have p1 := h (x - 1)
      have p2 := h (x + 1)
      obtain ⟨r, m, r1, r2, r3⟩ := roomOf_pos (us := us) (rm := rm) (U := x) hn (by omega)
      obtain ⟨c', a1, a2⟩ := go x m 0 r up dn (dec st x) r1 r2 r3 (by unfold ab; split <;> omega) (fun y => by
        have := h y
        unfold dec
        split <;> rename_i e
        · subst e; omega
        · rw [old y e] at this; omega) (fun V => by
        have := hr V
        unfold dec
        split <;> rename_i e
        · rw [if_pos e.symm]; omega
        · rw [if_neg (Ne.symm e)]; omega)
      refine ⟨_, a1, ?_⟩
      unfold ab; split <;> omega
    · by_cases e2 : 0 < up x
      · have hU := hr (x + 1)
        have p1 := h (x + 1)
        have p2 := h (x + 1 + 1)
        rw [show x + 1 - 1 = x by omega] at hU
        obtain ⟨r, m, r1, r2, r3⟩ := roomOf_pos (us := us) (rm := rm) (U := x + 1) hn (by omega)
        obtain ⟨c', a1, a2⟩ := go (x + 1) m 0 r (dec up x) dn st r1 r2 r3 (by unfold ab; split <;> omega) (fun y => by
          have := h y
          unfold dec
          split <;> rename_i e
          · subst e; omega
          · rw [old y e] at this; omega) (fun V => by
          have := hr V
          unfold dec
          split <;> rename_i e
          · rw [if_pos (by omega)]; omega
          · rw [if_neg (by omega)]; omega)
        refine ⟨_, a1, ?_⟩
        have e5 : sm (fun i => dec up x i + dn i) N = sm (fun i => up i + dn i) N - 1 := by
          rw [sm_add (fun i => dec up x i) (fun i => dn i), sm_add (fun i : Nat => up i) (fun i => dn i), sm_dec hx0.1, if_pos hx0.2]; omega
        rw [e5] at a2
        unfold ab; split <;> omega
      · have e3 : 0 < dn x := by omega
        have hU := hr (x - 1)
        have p1 := h (x - 1)
        have p2 := h (x - 1 - 1)
        rw [show x - 1 + 1 = x by omega] at hU
        obtain ⟨r, m, r1, r2, r3⟩ := roomOf_pos (us := us) (rm := rm) (U := x - 1) hn (by omega)
        obtain ⟨c', a1, a2⟩ := go (x - 1) m 0 r up (dec dn x) st r1 r2 r3 (by unfold ab; split <;> omega) (fun y => by
          have := h y
          unfold dec
          split <;> rename_i e
          · subst e; omega
          · rw [old y e] at this; omega) (fun V => by
          have := hr V
          unfold dec
          split <;> rename_i e
          · rw [if_pos (by omega)]; omega
          · rw [if_neg (by omega)]; omega)
        refine ⟨_, a1, ?_⟩
        have e5 : sm (fun i => up i + dec dn x i) N = sm (fun i => up i + dn i) N - 1 := by
          rw [sm_add (fun i : Nat => up i) (fun i => dec dn x i), sm_add (fun i : Nat => up i) (fun i => dn i), sm_dec hx0.1, if_pos hx0.2]; omega
        rw [e5] at a2
        unfold ab; split <;> omega
def Ris : Int → Int → List Int → Prop
  | _, _, [] => True
  | lo, hi, u :: us => lo ≤ u ∧ u ≤ hi ∧ Ris u hi us
theorem Ris.mem {hi : Int} : ∀ {us : List Int} {lo : Int}, Ris lo hi us → ∀ u ∈ us, lo ≤ u ∧ u ≤ hi
  | [], _, _, u, h => by simp at h
  | v :: us, lo, ⟨h1, h2, h3⟩, u, h => by
    rcases List.mem_cons.mp h with rfl | h
    · exact ⟨h1, h2⟩
    · have := Ris.mem h3 u h; omega
theorem Ris.rep {hi : Int} {l : List Int} {x : Int} : ∀ {n : Nat} {lo : Int}, lo ≤ x → x ≤ hi → Ris x hi l → Ris lo hi (List.replicate (n + 1) x ++ l)
  | 0, lo, h1, h2, h3 => ⟨h1, h2, h3⟩
  | n + 1, lo, h1, h2, h3 => ⟨h1, h2, Ris.rep (Int.le_refl _) h2 h3⟩
def bl (nd : Nat → Nat) (pad : List Int) : Nat → Nat → List Int
  | _, 0 => pad
  | s, n + 1 => List.replicate (nd s) ((s : Int) + 1) ++ bl nd pad (s + 1) n
theorem bl_ris {nd : Nat → Nat} {hi : Int} {p : Nat} : ∀ (n s : Nat) (lo : Int), lo ≤ hi → (∀ i, s ≤ i → i < s + n → 0 < nd i → lo ≤ (i : Int) + 1 ∧ (i : Int) + 1 ≤ hi) → Ris lo hi (bl nd (List.replicate p hi) s n)
  | 0, s, lo, h, _ => by
    unfold bl
    cases p with
    | zero => exact trivial
    | succ p => have := Ris.rep (n := p) (l := []) h (Int.le_refl hi) trivial; rwa [List.append_nil] at this
  | n + 1, s, lo, h, hs => by
    unfold bl
    cases e : nd s with
    | zero => rw [List.replicate_zero, List.nil_append]; exact bl_ris n (s + 1) lo h fun i h1 h2 h3 => hs i (by omega) (by omega) h3
    | succ a =>
      obtain ⟨h1, h2⟩ := hs s (Nat.le_refl _) (by omega) (by omega)
      exact Ris.rep h1 h2 (bl_ris n (s + 1) _ h2 fun i h1 h2 h3 => ⟨by omega, (hs i (by omega) (by omega) h3).2⟩)
theorem bl_count {nd : Nat → Nat} {pad : List Int} : ∀ (n s i : Nat), s ≤ i → i < s + n → nd i ≤ (bl nd pad s n).count ((i : Int) + 1)
  | 0, s, i, h1, h2 => by omega
  | n + 1, s, i, h1, h2 => by
    unfold bl
    rw [List.count_append]
    by_cases e : s = i
    · subst e; rw [List.count_replicate_self]; omega
    · have := bl_count (nd := nd) (pad := pad) n (s + 1) i (by omega) (by omega)
      omega
theorem bl_len {nd : Nat → Nat} {pad : List Int} : ∀ (n s : Nat), ((bl nd pad s n).length : Int) = sm (fun i => (nd i : Int)) (s + n) - sm (fun i => (nd i : Int)) s + pad.length
  | 0, s => by unfold bl; rw [Nat.add_zero]; omega
  | n + 1, s => by
    unfold bl
    rw [List.length_append, List.length_replicate, Int.natCast_add, bl_len n (s + 1), show s + 1 + n = s + (n + 1) by omega, sm]
    omega
theorem pth_exp {own : Int → Int} {w h : Int} {n : Nat} {r c k : Int} {L : List Int} (p : Pth own w h n r c k L) (h0 : 0 ≤ h) : L.length = n + 1 ∧ L.getD 0 0 = 0 ∧ L.getD n 0 = c ∧ k = sm (fun i => ab (L.getD (i + 1) 0)) n ∧ r = sm (fun i => need own w i (L.getD i 0) (L.getD (i + 1) 0)) n ∧ r ≤ h ∧
    ∀ i, i < n → -(own ((i : Int) + 2)) ≤ L.getD (i + 1) 0 ∧ L.getD (i + 1) 0 ≤ own ((i : Int) + 1) + mn0 (L.getD i 0) := by
  induction p with
  | zero => exact ⟨rfl, rfl, rfl, rfl, rfl, h0, fun i hi => by omega⟩
  | @step u r c k L lift p h1 h2 h3 ih =>
    obtain ⟨i1, i2, i3, i4, i5, i6, i7⟩ := ih
    have old : ∀ i, i ≤ u → (L ++ [lift]).getD i 0 = L.getD i 0 := fun i hi => by
      rw [List.getD_eq_getElem?_getD, List.getD_eq_getElem?_getD, List.getElem?_append_left (by omega)]
    have new : (L ++ [lift]).getD (u + 1) 0 = lift := by
      rw [List.getD_eq_getElem?_getD, List.getElem?_append_right (by omega), i1, Nat.sub_self]; rfl
    refine ⟨by simp [i1], by rw [old 0 (by omega)]; exact i2, new, ?_, ?_, h3, fun i hi => ?_⟩
    · have e4 : sm (fun i => ab ((L ++ [lift]).getD (i + 1) 0)) u = sm (fun i => ab (L.getD (i + 1) 0)) u := sm_eq fun i hi => by rw [old (i + 1) (by omega)]
      rw [sm, new, e4, i4]
    · have e5 : sm (fun i => need own w i ((L ++ [lift]).getD i 0) ((L ++ [lift]).getD (i + 1) 0)) u = sm (fun i => need own w i (L.getD i 0) (L.getD (i + 1) 0)) u := sm_eq fun i hi => by rw [old (i + 1) (by omega), old i (by omega)]
      rw [sm, new, old u (Nat.le_refl _), i3, e5, i5]
    · by_cases e : i = u
      · subst e; rw [new, old i (Nat.le_refl _), i3]; exact ⟨h1, h2⟩
      · rw [old (i + 1) (by omega), old i (by omega)]; exact i7 i (by omega)
theorem ceil_ge {a w : Int} (hw : 0 < w) : a ≤ (a + w - 1) / w * w := by
  have h1 := Int.emod_add_mul_ediv (a + w - 1) w
  have h2 := Int.emod_lt_of_pos (a + w - 1) hw
  rw [Int.mul_comm] at h1
  omega
theorem math_a {ws : List Int} {w h r k mn mx : Int} {L : List Int} (hw : 0 < w) (h0 : 0 ≤ h) (hw1 : ∀ x ∈ ws, 1 ≤ x ∧ x ≤ 30) (m1 : mn ∈ ws) (m2 : ∀ x ∈ ws, mn ≤ x) (m3 : mx ∈ ws) (m4 : ∀ x ∈ ws, x ≤ mx) (p : Pth (cn ws) w h 30 r 0 k L) :
    ∃ us c, (us.length : Int) = h ∧ Ris (if mn - 1 > 1 then mn - 1 else 1) (if mx + 1 < 30 then mx + 1 else 30) us ∧ Asg ws us (List.replicate us.length w) c ∧ c ≤ k := by
  obtain ⟨i1, i2, i3, i4, i5, i6, i7⟩ := pth_exp p h0
  let lf : Int → Int := fun i => if 0 ≤ i then L.getD i.toNat 0 else 0
  have lfn : ∀ i : Nat, lf i = L.getD i 0 := fun i => by show (if 0 ≤ (i : Int) then L.getD (i : Int).toNat 0 else 0) = _; rw [if_pos (by omega), Int.toNat_natCast]
  have lf0 : ∀ i : Int, i ≤ 0 ∨ 30 ≤ i → lf i = 0 := fun i hi => by
    show (if 0 ≤ i then L.getD i.toNat 0 else 0) = 0
    split
    · by_cases e : i = 0
      · rw [e]; exact i2
      · by_cases e2 : i = 30
        · rw [e2]; exact i3
        · rw [List.getD_eq_getElem?_getD, List.getElem?_eq_none (by omega)]; rfl
    · rfl
  have ow0 : ∀ i : Int, i ≤ 0 ∨ 31 ≤ i → cn ws i = 0 := fun i hi => by
    unfold cn
    rw [List.count_eq_zero.mpr]; rfl
    intro z; have := hw1 i z; omega
  let up : Int → Int := fun i => mx0 (lf i)
  let dn : Int → Int := fun i => mx0 (-(lf (i - 1)))
  have st0 : ∀ i, up i + dn i ≤ cn ws i := fun i => by
    show mx0 (lf i) + mx0 (-(lf (i - 1))) ≤ cn ws i
    by_cases hi : 1 ≤ i ∧ i ≤ 30
    · obtain ⟨j, rfl⟩ : ∃ j : Nat, i = (j : Int) + 1 := ⟨(i - 1).toNat, by omega⟩
      rw [show (j : Int) + 1 - 1 = j by omega]
      have a1 := i7 j (by omega)
      rw [← lfn (j + 1), ← lfn j, show ((j + 1 : Nat) : Int) = (j : Int) + 1 by omega] at a1
      have a2 : -(cn ws ((j : Int) + 1)) ≤ lf j := by
        cases j with
        | zero => rw [lf0 _ (by omega)]; have := cn_nonneg ws (((0 : Nat) : Int) + 1); omega
        | succ j =>
          have := (i7 j (by omega)).1
          rw [← lfn (j + 1)] at this
          rw [show ((j + 1 : Nat) : Int) + 1 = (j : Int) + 2 by omega]; exact this
      have := cn_nonneg ws ((j : Int) + 1)
      unfold mx0 mn0 at *
      repeat' split
      all_goals (split at a1 <;> omega)
    · rw [lf0 i (by omega), lf0 (i - 1) (by omega), ow0 i (by omega)]; decide
  have bal : ∀ U, cn ws U - up U - dn U + up (U - 1) + dn (U + 1) = cn ws U + lf (U - 1) - lf U := fun U => by
    show cn ws U - mx0 (lf U) - mx0 (-(lf (U - 1))) + mx0 (lf (U - 1)) + mx0 (-(lf (U + 1 - 1))) = _
    rw [show U + 1 - 1 = U by omega]
    have a := mx0_sub (lf U)
    have b := mx0_sub (lf (U - 1))
    omega
  let nd : Nat → Nat := fun i => (need (cn ws) w i (L.getD i 0) (L.getD (i + 1) 0)).toNat
  have ndA : ∀ i : Nat, need (cn ws) w i (L.getD i 0) (L.getD (i + 1) 0) = (cn ws ((i : Int) + 1) + lf ((i : Int) + 1 - 1) - lf ((i : Int) + 1) + w - 1) / w := fun i => by
    unfold need
    rw [show (i : Int) + 1 - 1 = i by omega, lfn i, show (i : Int) + 1 = ((i + 1 : Nat) : Int) by omega, lfn (i + 1)]
  have a0 : ∀ U, 0 ≤ cn ws U + lf (U - 1) - lf U := fun U => by
    rw [← bal U]
    have q1 := st0 U
    have q2 : 0 ≤ up (U - 1) := mx0_nonneg _
    have q3 : 0 ≤ dn (U + 1) := mx0_nonneg _
    omega
  have nd0 : ∀ i : Nat, 0 ≤ need (cn ws) w i (L.getD i 0) (L.getD (i + 1) 0) := fun i => by
    rw [ndA]
    have := a0 ((i : Int) + 1)
    exact Int.ediv_nonneg (by omega) (by omega)
  have ndc : ∀ i, (nd i : Int) = need (cn ws) w i (L.getD i 0) (L.getD (i + 1) 0) := fun i => Int.toNat_of_nonneg (nd0 i)
  have hr : sm (fun i => (nd i : Int)) 30 = r := by rw [i5]; exact sm_eq fun i _ => ndc i
  have lohi : (if mn - 1 > 1 then mn - 1 else 1) ≤ (if mx + 1 < 30 then mx + 1 else 30) := by
    have := m2 mx m3
    have := hw1 mn m1
    have := hw1 mx m3
    repeat' split
    all_goals omega
  generalize hus : bl nd (List.replicate (h - r).toNat (if mx + 1 < 30 then mx + 1 else 30)) 0 30 = us
  have hlen : (us.length : Int) = h := by
    rw [← hus, bl_len 30 0, List.length_replicate, Nat.zero_add, hr]
    simp only [sm]; omega
  have hris : Ris (if mn - 1 > 1 then mn - 1 else 1) (if mx + 1 < 30 then mx + 1 else 30) us := by
    rw [← hus]
    refine bl_ris 30 0 _ lohi fun i _ hi hn => ?_
    have hpos : 0 < cn ws ((i : Int) + 1) + lf ((i : Int) + 1 - 1) - lf ((i : Int) + 1) := by
      have h5 := a0 ((i : Int) + 1)
      rcases Int.lt_or_eq_of_le h5 with z | z
      · exact z
      · have e := ndc i
        rw [ndA, ← z, show (0 : Int) + w - 1 = w - 1 by omega, Int.ediv_eq_zero_of_lt (by omega) (by omega)] at e
        omega
    rw [← bal] at hpos
    have q1 := st0 ((i : Int) + 1)
    have q2 := st0 ((i : Int) + 1 - 1)
    have q3 := st0 ((i : Int) + 1 + 1)
    have z1 : 0 ≤ up ((i : Int) + 1) := mx0_nonneg _
    have z2 : 0 ≤ dn ((i : Int) + 1) := mx0_nonneg _
    have z3 : 0 ≤ dn ((i : Int) + 1 - 1) := mx0_nonneg _
    have z4 : 0 ≤ up ((i : Int) + 1 + 1) := mx0_nonneg _
    have some : ∃ x, x ∈ ws ∧ x - ((i : Int) + 1) ≤ 1 ∧ ((i : Int) + 1) - x ≤ 1 := by
      have pos : ∀ y, 0 < cn ws y → y ∈ ws := fun y hy => by
        unfold cn at hy
        exact List.count_pos_iff.mp (by omega)
      rcases (by omega : 0 < cn ws ((i : Int) + 1) ∨ 0 < cn ws ((i : Int) + 1 - 1) ∨ 0 < cn ws ((i : Int) + 1 + 1)) with z | z | z
      · exact ⟨_, pos _ z, by omega, by omega⟩
      · exact ⟨_, pos _ z, by omega, by omega⟩
      · exact ⟨_, pos _ z, by omega, by omega⟩
    obtain ⟨x, hx, x1, x2⟩ := some
    have := m2 x hx
    have := m4 x hx
    repeat' split
    all_goals omega
  have hcost : sm (fun i : Nat => up i + dn i) 31 = k := by
    have : ∀ n : Nat, sm (fun i : Nat => up i + dn i) (n + 1) = sm (fun i => ab (L.getD (i + 1) 0)) n - mx0 (-(lf n)) := by
      intro n
      induction n with
      | zero =>
        show 0 + (mx0 (lf 0) + mx0 (-(lf (0 - 1)))) = 0 - mx0 (-(lf 0))
        rw [lf0 0 (by omega), lf0 _ (by omega)]; rfl
      | succ n ih =>
        rw [sm, ih, sm, ← lfn (n + 1), ab_mx]
        show _ + (mx0 (lf ((n + 1 : Nat) : Int)) + mx0 (-(lf (((n + 1 : Nat) : Int) - 1)))) = _
        rw [show ((n + 1 : Nat) : Int) - 1 = n by omega]
        omega
    rw [this 30, lf0 _ (by omega), i4]
    simp [mx0_zero]
  obtain ⟨c, a1, a2⟩ := asg_plan (us := us) (N := 31) ws (List.replicate us.length w) up dn (fun i => cn ws i - up i - dn i) (fun m hm => by rw [List.eq_of_mem_replicate hm]; omega) (fun x hx => by have := hw1 x hx; omega)
    (fun x => ⟨mx0_nonneg _, mx0_nonneg _, by have := st0 x; omega, by omega⟩) (fun U => by
      rw [room_rep, bal]
      by_cases hU : 1 ≤ U ∧ U ≤ 30
      · obtain ⟨i, rfl⟩ : ∃ i : Nat, U = (i : Int) + 1 := ⟨(U - 1).toNat, by omega⟩
        have c1 := bl_count (nd := nd) (pad := List.replicate (h - r).toNat (if mx + 1 < 30 then mx + 1 else 30)) 30 0 i (by omega) (by omega)
        rw [hus] at c1
        have c2 := ceil_ge (a := cn ws ((i : Int) + 1) + lf ((i : Int) + 1 - 1) - lf ((i : Int) + 1)) hw
        rw [← ndA, ← ndc] at c2
        have c3 : (nd i : Int) * w ≤ (us.count ((i : Int) + 1) : Nat) * w := Int.mul_le_mul_of_nonneg_right (by omega) (by omega)
        omega
      · rw [ow0 U (by omega), lf0 U (by omega), lf0 (U - 1) (by omega)]
        have : (0 : Int) ≤ (us.count U : Nat) * w := Int.mul_nonneg (by omega) (by omega)
        omega)
  exact ⟨us, c, hlen, hris, a1, by rw [← hcost]; exact a2⟩
section
variable {P : Program} {w : World} {K : PySem.W.Frag} {mg : Str → Option Value} {base : Heap} {t : Adr}
def BagOk (m c : Int) : Prop := 0 ≤ m ∧ 0 ≤ c ∧ (c = 0 ∨ m < 2147483647)
def sd_d_law_cell : List D → (D → Prop) → Prop := fun ds q => ∃ ns k, ds = [.scr ns, .int k] ∧ 0 ≤ k ∧ ∀ n, q (.int n)
def sd_d_law_bag : List D → (D → Prop) → Prop := fun ds q => ∃ ns k, ds = [.scr ns, .int k] ∧ 0 ≤ k ∧ k ≤ 1000 ∧ ∀ m c, BagOk m c → q (.lst [.int m, .int c])
def sd_d_law_take : List D → (D → D → Prop) → Prop := fun ds q => ∃ m c n, ds = [.lst [.int m, .int c], .int n] ∧ BagOk m c ∧ 0 < n ∧ n < 1073741824 ∧ ∀ r m' c', 0 ≤ r → r < n → BagOk m' c' → q (.int r) (.lst [.int m', .int c'])
abbrev Cell := Option (Str × Int)
def cellD : Cell → D
  | none => .non
  | some (n, k) => .tup [.str n, .int k]
structure CaseG (us : List Int) (rows : List (List Cell)) (w h : Nat) : Prop where
  w15 : w ≤ 15
  h15 : h ≤ 15
  rl : rows.length = h
  cl : ∀ r ∈ rows, r.length = w
def gridT (rows : List (List Cell)) : D := .tup (rows.map fun r => .tup (r.map cellD))
def caseD (us : List Int) (rows : List (List Cell)) : D := .tup [.tup (us.map D.int), gridT rows]
abbrev Fc := Str × Nat × Nat × Int
def fcD (f : Fc) : D := .tup [.str f.1, .int f.2.1, .int f.2.2.1, .int f.2.2.2]
def oneF (r c : Nat) : Option Cell → List Fc
  | some (some (n, k)) => [(n, c, r, k)]
  | _ => []
def fRow (r : Nat) (cells : List Cell) : Nat → List Fc
  | 0 => []
  | j + 1 => fRow r cells j ++ oneF r j cells[j]?
def fRows (rows : List (List Cell)) : Nat → List Fc
  | 0 => []
  | i + 1 => fRows rows i ++ (match rows[i]? with
    | some cells => fRow i cells cells.length
    | none => [])
def filled (rows : List (List Cell)) : List Fc := fRows rows rows.length
def sd_filled_cells : List D → (D → Prop) → Prop := fun ds q => ∃ us rows w h, ds = [caseD us rows] ∧ CaseG us rows w h ∧ q (.lst ((filled rows).map fcD))
def cams (l : List Fc) : Nat := (l.filter fun f => !(f.2.2.2 == 0)).length
def sd_cams_in : List D → (D → Prop) → Prop := fun ds q => ∃ us rows w h, ds = [caseD us rows] ∧ CaseG us rows w h ∧ q (.int (cams (filled rows)))
def letD (p : Str × Int) : D := .tup [.str p.1, .int p.2]
def nm (ls : List (Str × Int)) (u : Int) : List Str := (ls.filter fun p => p.2 == u).map (·.1)
def wid (ls : List (Str × Int)) : List Int := ls.map (·.2)
def Szo (w h : Int) : Prop := (w = 2 ∨ w = 3) ∧ (h = 2 ∨ h = 3)
structure LsOk (ls : List (Str × Int)) : Prop where
  len : ls.length ≤ 5
  wid : ∀ p ∈ ls, 1 ≤ p.2 ∧ p.2 ≤ 30
def NamesD (ks : List Key) (l : List D) (ls : List (Str × Int)) : Prop := (∀ u : Int, (lookD ks l (.inl u)).getD (.lst []) = .lst ((nm ls u).map D.str)) ∧ ∀ k ∈ ks, ∃ p, p ∈ ls ∧ k = .inl p.2
def sd_names_by_width : List D → (D → Prop) → Prop := fun ds q => ∃ ls, ds = [.lst (ls.map letD)] ∧ LsOk ls ∧ ∀ ks l, NamesD ks l ls → ks.length ≤ 5 → q (.dK ks l)
def sd_rows_for : List D → (D → Prop) → Prop := fun ds q => ∃ m w, ds = [.int m, .int w] ∧ 0 < w ∧ w < 1073741824 ∧ q (.int ((m + w - 1) / w))
abbrev WayE := (Int × Int) × (Int × List Int)
def keyW (p : Int × Int) : List Key := [.inl p.1, .inl p.2]
def ksW (W : List WayE) : List (List Key) := W.map fun e => keyW e.1
def lW (W : List WayE) : List D := W.map fun e => wayD e.2.1 e.2.2
structure WaysOk (own : Int → Int) (w h : Int) (u : Nat) (W : List WayE) : Prop where
  nd : (W.map (·.1)).Nodup
  so : ∀ e ∈ W, Pth own w h u e.1.1 e.1.2 e.2.1 e.2.2
  co : ∀ r c k L, Pth own w h u r c k L → ∃ e ∈ W, e.1 = (r, c) ∧ e.2.1 ≤ k
def sizeD (w h : Int) : D := .tup [.int w, .int h]
def sd_with_rows_of : List D → (D → Prop) → Prop := fun ds q => ∃ u : Nat, ∃ o W o' ks l ls w h, ds = [.int ((u : Int) + 1), .fT o (ksW W) (lW W), .fK o' ks l, sizeD w h] ∧ u < 30 ∧ LsOk ls ∧ NamesD ks l ls ∧ Szo w h ∧ WaysOk (cn (wid ls)) w h u W ∧
  ∀ W', WaysOk (cn (wid ls)) w h (u + 1) W' → q (.dT (ksW W') (lW W'))
def sd_best_lifts : SDX := fun ds q x => ∃ o ks l ls w h, ds = [sizeD w h, .fK o ks l] ∧ LsOk ls ∧ NamesD ks l ls ∧ Szo w h ∧
  (∀ r k L, Pth (cn (wid ls)) w h 30 r 0 k L → (∀ r' k' L', Pth (cn (wid ls)) w h 30 r' 0 k' L' → k ≤ k') → q (.tup (L.map D.int))) ∧ ((∀ r k L, ¬ Pth (cn (wid ls)) w h 30 r 0 k L) → x 0)
def nz (cs : List (Str × Int)) : Int := ((cs.filter fun p => !(p.2 == 0)).length : Nat)
def sd_cells_with_units : List D → (D → Prop) → Prop := fun ds q => ∃ u : Int, ∃ o ks l ls c t, ds = [.int u, .fK o ks l, .int c, .int t] ∧ LsOk ls ∧ NamesD ks l ls ∧ mx0 c ≤ cn (wid ls) (u - 1) ∧ mx0 (-t) ≤ cn (wid ls) (u + 1) ∧ mx0 (-c) + mx0 t ≤ cn (wid ls) u ∧
  ∀ cs : List (Str × Int), (cs.length : Int) = cn (wid ls) u + c - t → nz cs = mx0 c + mx0 (-t) → q (.lst (cs.map letD))
def sd_case_by_lifts : List D → (D → Prop) → Prop := fun ds q => ∃ o ks l ls w h r k L, ds = [sizeD w h, .fK o ks l, .tup (List.map D.int L)] ∧ LsOk ls ∧ NamesD ks l ls ∧ Szo w h ∧ (ls.length : Int) < w * h ∧ Pth (cn (wid ls)) w h 30 r 0 k L ∧
  ∀ us rows, CaseG us rows w.toNat h.toNat → ((cams (filled rows) : Nat) : Int) = k → q (caseD us rows)
def Fewest (ls : List (Str × Int)) (w h k : Int) : Prop := (∃ r L, Pth (cn (wid ls)) w h 30 r 0 k L) ∧ ∀ r' k' L', Pth (cn (wid ls)) w h 30 r' 0 k' L' → k ≤ k'
def sd_lay_out : SDX := fun ds q x => ∃ ls w h, ds = [sizeD w h, .lst (ls.map letD)] ∧ LsOk ls ∧ Szo w h ∧
  (∀ us rows, CaseG us rows w.toNat h.toNat → (ls.length : Int) < w * h → Fewest ls w h ((cams (filled rows) : Nat) : Int) → q (caseD us rows)) ∧ ((w * h ≤ (ls.length : Int) ∨ ∀ r k L, ¬ Pth (cn (wid ls)) w h 30 r 0 k L) → x 0)
def intsD (ns : List Int) : D := .lst (ns.map D.int)
def sd_d_law_least : Nat → List D → (D → Prop) → Prop
  | 0 => fun _ _ => False
  | n + 1 => fun ds q => ∃ ws us rm, ds = [intsD ws, intsD us, intsD rm] ∧ ws.length ≤ n ∧ us.length ≤ 3 ∧ rm.length = us.length ∧ n ≤ 10 ∧ (∀ c, Asg ws us rm c → (∀ c', Asg ws us rm c' → c ≤ c') → q (.int c)) ∧ ((∀ c, ¬ Asg ws us rm c) → q .non)
def sd_d_law_all_units : Nat → List D → (D → Prop) → Prop
  | 0 => fun _ _ => False
  | n + 1 => fun ds q => ∃ (lo hi : Int) (m : Nat), ds = [.int lo, .int hi, .int m] ∧ m ≤ n ∧ m ≤ 3 ∧ 1 ≤ lo ∧ hi ≤ 30 ∧ hi ≤ lo + 9 ∧ lo ≤ hi + 1 ∧ ∀ L : List (List Int), (∀ us, us ∈ L ↔ us.length = m ∧ Ris lo hi us) → L.length ≤ 10 ^ m → q (.lst (L.map intsD))
def Ways (ws : List Int) (w h c : Int) : Prop := ∃ us mn mx, (us.length : Int) = h ∧ mn ∈ ws ∧ (∀ x ∈ ws, mn ≤ x) ∧ mx ∈ ws ∧ (∀ x ∈ ws, x ≤ mx) ∧ Ris (if mn - 1 > 1 then mn - 1 else 1) (if mx + 1 < 30 then mx + 1 else 30) us ∧ Asg ws us (List.replicate us.length w) c
def sd_d_law_due : List D → (D → Prop) → Prop := fun ds q => ∃ ws w h, ds = [sizeD w h, intsD ws] ∧ Szo w h ∧ ws.length ≤ 5 ∧ (∀ x ∈ ws, 1 ≤ x ∧ x ≤ 30) ∧ (∀ x ∈ ws, ∀ y ∈ ws, x - y ≤ 3) ∧
  (w * h ≤ (ws.length : Int) → q .non) ∧ ((ws.length : Int) < w * h → ws = [] → q (.int 0)) ∧ ((ws.length : Int) < w * h → ws ≠ [] → (∀ c, Ways ws w h c → (∀ c', Ways ws w h c' → c ≤ c') → q (.int c)) ∧ ((∀ c, ¬ Ways ws w h c) → q .non))
def sd_d_law_said : List D → (D → Prop) → Prop := fun ds q => ∃ ls w h, ds = [sizeD w h, .lst (ls.map letD)] ∧ LsOk ls ∧ Szo w h ∧
  (∀ us rows, CaseG us rows w.toNat h.toNat → (ls.length : Int) < w * h → Fewest ls w h ((cams (filled rows) : Nat) : Int) → q (caseD us rows)) ∧ ((w * h ≤ (ls.length : Int) ∨ ∀ r k L, ¬ Pth (cn (wid ls)) w h 30 r 0 k L) → q .non)
def B_d_law_cell : DTS := (sSeq (sIf (eTest (eOp oLt (eVar 1) (eCallB cLen (eCons (eVar 0) eNil)))) (sRet (eOp xScr (eVar 0) (eVar 1))) sNext)
  (sRet (eC (.int 0))))
def B_d_law_bag : DTS := (sSeq (sSet 2 (eOp oMod (eCallB cAbs (eCons (eCall sd_d_law_cell (eLen 2 (eCons (eVar 0) (eCons (eVar 1) eNil)))) eNil)) (eOp oMul (eOp oMul (eOp oPow (eC (.int 10)) (eC (.int 60))) (eOp oPow (eC (.int 10)) (eC (.int 60)))) (eOp oPow (eC (.int 10)) (eC (.int 60))))))
  (sSeq (sIf (eTest (eOp oGe (eVar 2) (eOp oPow (eC (.int 10)) (eC (.int 18))))) (sRet (eLst (eCons (eVar 2) (eCons (eC (.int 0)) eNil)))) sNext)
  (sSeq (sSet 3 (eOp oMod (eOp oAdd (eOp oAdd (eVar 2) (eOp oMul (eC (.int 7919)) (eVar 1))) (eC (.int 17))) (eC (.int 2147483647))))
  (sSeq (sFor (iR1 (eCons (eCallB cMin2 (eCons (eCallB cLen (eCons (eVar 0) eNil)) (eCons (eC (.int 9)) eNil))) eNil)) (gdName 4) (sSet 3 (eOp oMod (eOp oAdd (eOp oAdd (eOp oPow (eVar 3) (eC (.int 5))) (eOp oMod (eOp xScr (eVar 0) (eVar 4)) (eC (.int 2147483629)))) (eOp oMul (eC (.int 31)) (eVar 4))) (eC (.int 2147483647)))))
  (sRet (eLst (eCons (eVar 3) (eCons (eC (.int 1)) eNil))))))))
def B_d_law_take : DTS := (sSeq (sIf (eTest (eOp oEq (eOp xL (eVar 0) (eC (.int 1))) (eC (.int 0)))) (sSeq (sSet 2 (eNoL (eOp oMod (eOp xL (eVar 0) (eC (.int 0))) (eVar 1))))
  (sSeq (sStore κ_d_law_take 0 (eC (.int 0)) (eNoL (eOp oFdiv (eOp xL (eVar 0) (eC (.int 0))) (eVar 1))))
  (sRet (eVar 2)))) sNext)
  (sSeq (sStore κ_d_law_take 0 (eC (.int 0)) (eNoL (eOp oMod (eOp oAdd (eOp oAdd (eOp oPow (eOp xL (eVar 0) (eC (.int 0))) (eC (.int 5))) (eOp oMul (eC (.int 48271)) (eOp xL (eVar 0) (eC (.int 1))))) (eC (.int 11))) (eC (.int 2147483647)))))
  (sSeq (sStore κ_d_law_take 0 (eC (.int 1)) (eNoL (eOp oAdd (eOp xL (eVar 0) (eC (.int 1))) (eC (.int 1)))))
  (sRet (eNoL (eOp oMod (eOp oFdiv (eOp oMod (eOp oMul (eOp xL (eVar 0) (eC (.int 0))) (eC (.int 69621))) (eC (.int 2147483629))) (eC (.int 8))) (eVar 1)))))))
def B_filled_cells : DTS := (sRet (eComp2 [none, none, none, none] (iE (eCons (eOp xT (eVar 0) (eC (.int 1))) eNil)) (gdTup 2 (gdCons (gdName 0) (gdCons (gdName 1) gdNil))) eYes (iE (eCons (eVar 1) eNil)) (gdTup 2 (gdCons (gdName 2) (gdCons (gdName 3) gdNil))) (eTest (eOp oIsnot (eVar 3) (eC .non))) (eTup (eCons (eOp xT (eVar 3) (eC (.int 0))) (eCons (eVar 2) (eCons (eVar 0) (eCons (eOp xT (eVar 3) (eC (.int 1))) eNil)))))))
def B_cams_in : DTS := (sRet (eCallB cLen (eCons (eComp [none, none, none, none] (iL (eCall sd_filled_cells (eLen 1 (eCons (eVar 0) eNil)))) (gdTup 4 (gdCons (gdName 0) (gdCons (gdName 1) (gdCons (gdName 2) (gdCons (gdName 3) gdNil))))) (eTest (eOp oNe (eVar 3) (eC (.int 0)))) (eVar 0)) eNil)))
def B_names_by_width : DTS := (sSeq (sSet 1 eNewK)
  (sSeq (sFor (iL (eVar 0)) (gdTup 2 (gdCons (gdName 2) (gdCons (gdName 3) gdNil))) (sSda κ_names_by_width 1 3 2))
  (sRetO 1)))
def B_rows_for : DTS := (sRet (eOp oFdiv (eOp oSub (eOp oAdd (eVar 0) (eVar 1)) (eC (.int 1))) (eVar 1)))
def B_with_rows_of : DTS := (sSeq (sAsg (eVar 3) (gdTup 2 (gdCons (gdName 4) (gdCons (gdName 5) gdNil))))
  (sSeq (sSet 6 (eCallB cLen (eCons (eGetF (eVar 2) (eVar 0) (eLst eNil)) eNil)))
  (sSeq (sSet 7 (eCallB cLen (eCons (eGetF (eVar 2) (eOp oAdd (eVar 0) (eC (.int 1))) (eLst eNil)) eNil)))
  (sSeq (sSet 8 eNewT)
  (sSeq (sFor (iIT (eVar 1)) (gdTup 2 (gdCons (gdTup 2 (gdCons (gdName 9) (gdCons (gdName 10) gdNil))) (gdCons (gdTup 2 (gdCons (gdName 11) (gdCons (gdName 12) gdNil))) gdNil))) (sSeq (sSet 13 (eOp oAdd (eVar 6) (eCallB cMin2 (eCons (eVar 10) (eCons (eC (.int 0)) eNil)))))
  (sFor (iR2 (eCons (eNeg (eVar 7)) (eCons (eOp oAdd (eVar 13) (eC (.int 1))) eNil))) (gdName 14) (sSeq (sSet 15 (eOp oAdd (eVar 9) (eCall sd_rows_for (eLen 2 (eCons (eOp oSub (eOp oAdd (eVar 6) (eVar 10)) (eVar 14)) (eCons (eVar 4) eNil))))))
  (sSeq (sIf (eTest (eOp oGt (eVar 15) (eVar 5))) (fun De ρ => De.ct ρ) sNext)
  (sSeq (sSet 16 (eTup (eCons (eOp oAdd (eVar 11) (eCallB cAbs (eCons (eVar 14) eNil))) (eCons (eOp oCatT (eVar 12) (eTup (eCons (eVar 14) eNil))) eNil))))
  (sIf (eOrT (eTest (eOp (oInT true) (eTup (eCons (eVar 15) (eCons (eVar 14) eNil))) (eVar 8))) (eTest (eOp oLtW (eVar 16) (eOp xDT (eVar 8) (eTup (eCons (eVar 15) (eCons (eVar 14) eNil))))))) (sPutT κ_with_rows_of 8 (eTup (eCons (eVar 15) (eCons (eVar 14) eNil))) (eVar 16)) sNext)))))))
  (sRetO 8))))))
def B_best_lifts (xs : Nat → Prop) : DTS := (sSeq (sSet 2 (eFrzT (eDisp1 (eTup (eCons (eC (.int 0)) (eCons (eC (.int 0)) eNil))) (eTup (eCons (eC (.int 0)) (eCons (eTup (eCons (eC (.int 0)) eNil)) eNil))))))
  (sSeq (sFor (iR2 (eCons (eC (.int 1)) (eCons (eOp oAdd (eC (.int 30)) (eC (.int 1))) eNil))) (gdName 3) (sSet 2 (eFrzT (eCall sd_with_rows_of (eLen 4 (eCons (eVar 3) (eCons (eVar 2) (eCons (eVar 1) (eCons (eVar 0) eNil)))))))))
  (sSeq (sSet 4 (eNeg (eCallB cLen (eCons (eGetF (eVar 1) (eOp oAdd (eC (.int 30)) (eC (.int 1))) (eLst eNil)) eNil))))
  (sSeq (sSet 5 (eComp [none, none, none, some 4] (iIT (eVar 2)) (gdTup 2 (gdCons (gdTup 2 (gdCons (gdName 1) (gdCons (gdName 2) gdNil))) (gdCons (gdName 0) gdNil))) (eTest (eOp oEq (eVar 2) (eVar 3))) (eVar 0)))
  (sSeq (sIf (eNotT (eTru (eVar 5))) (sRaise xs 0 (eC (.str "the rows are too few for these widths"))) sNext)
  (sSeq (sAsg (eCallB cMinW (eCons (eVar 5) eNil)) (gdTup 2 (gdCons (gdName 6) (gdCons (gdName 7) gdNil))))
  (sRet (eVar 7))))))))
def B_cells_with_units : DTS := (sSeq (sSet 4 (eGetF (eVar 1) (eOp oSub (eVar 0) (eC (.int 1))) (eLst eNil)))
  (sSeq (sSet 5 (eGetF (eVar 1) (eVar 0) (eLst eNil)))
  (sSeq (sSet 6 (eGetF (eVar 1) (eOp oAdd (eVar 0) (eC (.int 1))) (eLst eNil)))
  (sSeq (sSet 7 (eComp [none] (iL (eSl slL (eVar 4) (eOSome (eOp oSub (eCallB cLen (eCons (eVar 4) eNil)) (eCallB cMax2 (eCons (eVar 2) (eCons (eC (.int 0)) eNil))))) eONone)) (gdName 0) eYes (eTup (eCons (eVar 0) (eCons (eNeg (eC (.int 1))) eNil)))))
  (sSeq (sMut κ_cells_with_units 7 (eComp [none] (iL (eSl slL (eVar 5) (eOSome (eCallB cMax2 (eCons (eNeg (eVar 2)) (eCons (eC (.int 0)) eNil)))) (eOSome (eOp oSub (eCallB cLen (eCons (eVar 5) eNil)) (eCallB cMax2 (eCons (eVar 3) (eCons (eC (.int 0)) eNil))))))) (gdName 0) eYes (eTup (eCons (eVar 0) (eCons (eC (.int 0)) eNil)))) fExtend)
  (sSeq (sMut κ_cells_with_units 7 (eComp [none] (iL (eSl slL (eVar 6) eONone (eOSome (eCallB cMax2 (eCons (eNeg (eVar 3)) (eCons (eC (.int 0)) eNil)))))) (gdName 0) eYes (eTup (eCons (eVar 0) (eCons (eC (.int 1)) eNil)))) fExtend)
  (sRetO 7)))))))
def B_case_by_lifts : DTS := (sSeq (sAsg (eVar 0) (gdTup 2 (gdCons (gdName 3) (gdCons (gdName 4) gdNil))))
  (sSeq (sSet 5 (eLst eNil))
  (sSeq (sSet 6 (eLst eNil))
  (sSeq (sFor (iR2 (eCons (eC (.int 1)) (eCons (eOp oAdd (eC (.int 30)) (eC (.int 1))) eNil))) (gdName 7) (sSeq (sSet 8 (eCall sd_cells_with_units (eLen 4 (eCons (eVar 7) (eCons (eVar 1) (eCons (eOp xT (eVar 2) (eOp oSub (eVar 7) (eC (.int 1)))) (eCons (eOp xT (eVar 2) (eVar 7)) eNil)))))))
  (sSeq (sSet 9 (eCall sd_rows_for (eLen 2 (eCons (eCallB cLen (eCons (eVar 8) eNil)) (eCons (eVar 3) eNil)))))
  (sSeq (sMut κ_case_by_lifts 5 (eOp oRep (eLst (eCons (eVar 7) eNil)) (eVar 9)) fExtend)
  (sMut κ_case_by_lifts 6 (eOp oCat (eVar 8) (eOp oRep (eLst (eCons (eC .non) eNil)) (eOp oSub (eOp oMul (eVar 9) (eVar 3)) (eCallB cLen (eCons (eVar 8) eNil))))) fExtend)))))
  (sSeq (sMut κ_case_by_lifts 5 (eNoL1 (eOp oRep (eLst (eCons (eC (.int 1)) eNil)) (eOp oSub (eVar 4) (eCallB cLen (eCons (eVar 5) eNil))))) fExtend)
  (sSeq (sMut κ_case_by_lifts 6 (eNoL1 (eOp oRep (eLst (eCons (eC .non) eNil)) (eOp oSub (eOp oMul (eVar 3) (eVar 4)) (eCallB cLen (eCons (eVar 6) eNil))))) fExtend)
  (sSeq (sStore κ_case_by_lifts 6 (eIdx (eVar 6) (eC .non)) (eTup (eCons (eC (.str " ")) (eCons (eC (.int 0)) eNil))))
  (sRet (eNoL (eTup (eCons (eTupO 5) (eCons (eCallB cTuple (eCons (eComp [none, some 6, some 3] (iR1 (eCons (eVar 4) eNil)) (gdName 0) eYes (eCallB cTuple (eCons (eSl slL (eVar 1) (eOSome (eOp oMul (eVar 2) (eVar 0))) (eOSome (eOp oAdd (eOp oMul (eVar 2) (eVar 0)) (eVar 2)))) eNil))) eNil)) eNil))))))))))))
def B_lay_out (xs : Nat → Prop) : DTS := (sSeq (sAsg (eVar 0) (gdTup 2 (gdCons (gdName 2) (gdCons (gdName 3) gdNil))))
  (sSeq (sIf (eTest (eOp oGe (eCallB cLen (eCons (eVar 1) eNil)) (eOp oMul (eVar 2) (eVar 3)))) (sRaise xs 0 (eC (.str "there is no cell for each letter and one for the blank"))) sNext)
  (sSeq (sSet 4 (eFrzK (eCall sd_names_by_width (eLen 1 (eCons (eVar 1) eNil)))))
  (sSeq (sIf (eNotT (eTest (eCallB cAll (eCons (eComp [none] (iFK (eVar 4)) (gdName 0) eYes (eChain oLe oLe (eC (.int 1)) (eVar 0) (eOp oAdd (eC (.int 30)) (eC (.int 1))))) eNil)))) (sRaise xs 0 (eC (.str "no row can give a letter this width"))) sNext)
  (sRetN sd_case_by_lifts (eVar 0) (eVar 4) sd_best_lifts (eLen 2 (eCons (eVar 0) (eCons (eVar 4) eNil))) xs)))))
def B_d_law_least (n_ : Nat) : DTS := (sSeq (sIf (eTest (eOp oEq (eVar 0) (eLst eNil))) (sRet (eC (.int 0))) sNext)
  (sSeq (sSet 3 (eC .non))
  (sSeq (sFor (iR1 (eCons (eCallB cLen (eCons (eVar 1) eNil)) eNil)) (gdName 4) (sSeq (sSet 5 (eCallB cAbs (eCons (eOp oSub (eOp xL (eVar 0) (eC (.int 0))) (eOp xL (eVar 1) (eVar 4))) eNil)))
  (sIf (eAndT (eTest (eOp oGt (eOp xL (eVar 2) (eVar 4)) (eC (.int 0)))) (eTest (eOp oLt (eVar 5) (eC (.int 2))))) (sSeq (sSet 6 (eOp oCat (eOp oCat (eSl slL (eVar 2) eONone (eOSome (eVar 4))) (eLst (eCons (eOp oSub (eOp xL (eVar 2) (eVar 4)) (eC (.int 1))) eNil))) (eSl slL (eVar 2) (eOSome (eOp oAdd (eVar 4) (eC (.int 1)))) eONone)))
  (sSeq (sSet 7 (eCall (sd_d_law_least n_) (eLen 3 (eCons (eSl slL (eVar 0) (eOSome (eC (.int 1))) eONone) (eCons (eVar 1) (eCons (eVar 6) eNil))))))
  (sIf (eAndT (eTest (eOp oIsnot (eVar 7) (eC .non))) (eOrT (eTest (eOp oIs (eVar 3) (eC .non))) (eTest (eOp oLt (eOp oAdd (eVar 5) (eVar 7)) (eVar 3))))) (sSet 3 (eOp oAdd (eVar 5) (eVar 7))) sNext))) sNext)))
  (sRet (eVar 3)))))
def B_d_law_all_units (n_ : Nat) : DTS := (sSeq (sIf (eTest (eOp oEq (eVar 2) (eC (.int 0)))) (sRet (eLst (eCons (eLst eNil) eNil))) sNext)
  (sSeq (sSet 3 (eLst eNil))
  (sSeq (sFor (iR2 (eCons (eVar 0) (eCons (eOp oAdd (eVar 1) (eC (.int 1))) eNil))) (gdName 4) (sMut κ_d_law_all_units 3 (eComp [none, some 4] (iL (eCall (sd_d_law_all_units n_) (eLen 3 (eCons (eVar 4) (eCons (eVar 1) (eCons (eOp oSub (eVar 2) (eC (.int 1))) eNil)))))) (gdName 0) eYes (eOp oCat (eLst (eCons (eVar 1) eNil)) (eVar 0))) fExtend))
  (sRetO 3))))
def B_d_law_due : DTS := (sSeq (sIf (eTest (eOp oGe (eCallB cLen (eCons (eVar 1) eNil)) (eOp oMul (eOp xT (eVar 0) (eC (.int 0))) (eOp xT (eVar 0) (eC (.int 1)))))) (sRet (eC .non)) sNext)
  (sSeq (sIf (eTest (eOp oEq (eVar 1) (eLst eNil))) (sRet (eC (.int 0))) sNext)
  (sSeq (sSet 2 (eC .non))
  (sSeq (sFor (iL (eCall (sd_d_law_all_units 4) (eLen 3 (eCons (eCallB cMax2 (eCons (eC (.int 1)) (eCons (eOp oSub (eCallB cMinL (eCons (eVar 1) eNil)) (eC (.int 1))) eNil))) (eCons (eCallB cMin2 (eCons (eC (.int 30)) (eCons (eOp oAdd (eCallB cMaxL (eCons (eVar 1) eNil)) (eC (.int 1))) eNil))) (eCons (eOp xT (eVar 0) (eC (.int 1))) eNil)))))) (gdName 3) (sSeq (sSet 4 (eCall (sd_d_law_least 6) (eLen 3 (eCons (eVar 1) (eCons (eVar 3) (eCons (eOp oRep (eLst (eCons (eOp xT (eVar 0) (eC (.int 0))) eNil)) (eOp xT (eVar 0) (eC (.int 1)))) eNil))))))
  (sIf (eAndT (eTest (eOp oIsnot (eVar 4) (eC .non))) (eOrT (eTest (eOp oIs (eVar 2) (eC .non))) (eTest (eOp oLt (eVar 4) (eVar 2))))) (sSet 2 (eVar 4)) sNext)))
  (sRet (eVar 2))))))
def B_d_law_said : DTS := (sSeq (sSet 2 (eC .non))
  (sSeq (sTryA sd_lay_out (eLen 2 (eCons (eVar 0) (eCons (eVar 1) eNil))) 2)
  (sRet (eVar 2))))
def B_law : DTS := (sSeq (sFor (iR1 (eCons (eC (.int 3)) eNil)) (gdName 1) (sSeq (sSet 2 (eCall sd_d_law_bag (eLen 2 (eCons (eVar 0) (eCons (eVar 1) eNil)))))
  (sSeq (sSet 3 (eTup (eCons (eOp oAdd (eC (.int 2)) (eCallX κ_law 2 2 sd_d_law_take (eHere 2 (eCons (eC (.int 2)) eNil)))) (eCons (eOp oAdd (eC (.int 2)) (eCallX κ_law 2 2 sd_d_law_take (eHere 2 (eCons (eC (.int 2)) eNil)))) eNil))))
  (sSeq (sSet 4 (eCallX κ_law 2 2 sd_d_law_take (eHere 2 (eCons (eC (.int 6)) eNil))))
  (sSeq (sSet 5 (eOp oAdd (eC (.int 1)) (eCallX κ_law 2 2 sd_d_law_take (eHere 2 (eCons (eC (.int 4)) eNil)))))
  (sSeq (sSet 6 (eOp oAdd (eC (.int 1)) (eCallX κ_law 2 2 sd_d_law_take (eHere 2 (eCons (eOp oSub (eC (.int 31)) (eVar 5)) eNil)))))
  (sSeq (sSet 7 (eCompX κ_law 2 2 [none, some 6, some 2, some 5] (iR1 (eCons (eVar 4) eNil)) (gdName 0) eYes (eTup (eCons (eOp xS (eC (.str "abcde")) (eVar 0)) (eCons (eOp oAdd (eVar 1) (eCallX ([SK.cl, SK.cl, SK.io 1, SK.cl] : List SK) 2 2 sd_d_law_take (eHere 2 (eCons (eVar 3) eNil)))) eNil)))))
  (sSeq (sSet 8 (eCall sd_d_law_due (eLen 2 (eCons (eVar 3) (eCons (eComp [none, none] (iL (eVar 7)) (gdTup 2 (gdCons (gdName 0) (gdCons (gdName 1) gdNil))) eYes (eVar 1)) eNil)))))
  (sSeq (sSet 9 (eCall sd_d_law_said (eLen 2 (eCons (eVar 3) (eCons (eVar 7) eNil)))))
  (sSeq (sIf (eAndT (eTest (eOp oIs (eVar 8) (eC .non))) (eTest (eOp oIsnot (eVar 9) (eC .non)))) (sRet (eC (.bl false))) sNext)
  (sIf (eTest (eOp oIsnot (eVar 8) (eC .non))) (sSeq (sIf (eTest (eOp oIs (eVar 9) (eC .non))) (sRet (eC (.bl false))) sNext)
  (sSeq (sSet 10 (eCall sd_cams_in (eLen 1 (eCons (eVar 9) eNil))))
  (sIf (eOrT (eNotT (eTest (eCallB cIsi (eCons (eVar 10) (eCons (eC (.ty "int")) eNil))))) (eOrT (eTest (eCallB cIsi (eCons (eVar 10) (eCons (eC (.ty "bool")) eNil)))) (eTest (eOp oNe (eVar 10) (eVar 8))))) (sRet (eC (.bl false))) sNext))) sNext)))))))))))
  (sRet (eC (.bl true))))
end
section
variable {P : Program} {w : World} {K : PySem.W.Frag} {mg : Str → Option Value} {base : Heap} {t : Adr}
theorem at_scr {ns : List Int} {k : Int} (h0 : 0 ≤ k) (h1 : k < ns.length) : ∃ n, atI ns k = some n := by
  obtain ⟨j, rfl⟩ := Int.eq_ofNat_of_zero_le h0
  have hj : j < ns.length := by omega
  exact ⟨ns[j], atI_nat (List.getElem?_eq_getElem hj)⟩
theorem body_d_law_cell : BodyP B_d_law_cell 2 2 .cl sd_d_law_cell := by
  rintro ds q hl ⟨ns, k, rfl, h0, hq⟩
  refine ⟨_, rfl, _, rfl, .inl ⟨ns, rfl, _, _, rfl, rfl, _, rfl, ?_⟩⟩
  refine ite2 (fun hlt => ?_) (fun _ => hq 0)
  obtain ⟨n, hn⟩ := at_scr h0 (by simpa using hlt)
  exact ⟨_, rfl, _, rfl, _, _, n, rfl, rfl, hn, hq n⟩
theorem ok_d_law_cell (T : Txt K mg t) : FnOk P w K mg base CX0 1 t.f_d_law_cell t.d_d_law_cell ["_law_script", "_law_k"] (spP K 2 .cl sd_d_law_cell) := by
  exact fnP (κ := κ_d_law_cell) (T := B_d_law_cell) T.F_d_law_cell sc_d_law_cell (noIo_of rfl) (cl_of rfl) (.inl rfl)
    (fun cdv A outer s H E hr =>
      (dscons (dif (ftcmpC (nomark _) do_lt (dv 1) (fcbC (by rfl) (by decide) (by decide) (by decide) dc_len (by rfl) T.n_len bt_len (facC rfl (dv 0) fanil))) (dsone (dret (fixC (fun _ _ => rfl) dix_scr (dv 0) (dv 1)))) dsnil)
      (dsone (dret dint)))) body_d_law_cell
theorem mod_mix (x : Int) : 0 ≤ x % 2147483647 ∧ x % 2147483647 < 2147483647 := ⟨Int.emod_nonneg _ (by decide), Int.emod_lt_of_pos _ (by decide)⟩
theorem mod_big (x : Int) : 0 ≤ x % (10 ^ (60 : Int).toNat * 10 ^ (60 : Int).toNat * 10 ^ (60 : Int).toNat) := Int.emod_nonneg _ (by decide +kernel)
theorem mok1 : IntMulOk (10 ^ (60 : Int).toNat) (10 ^ (60 : Int).toNat) := by unfold IntMulOk; decide +kernel
theorem mok2 : IntMulOk (10 ^ (60 : Int).toNat * 10 ^ (60 : Int).toNat) (10 ^ (60 : Int).toNat) := by unfold IntMulOk; decide +kernel
theorem mokL {i j : Int} (h1 : -(2 ^ 64) < i) (h2 : i < 2 ^ 64) : IntMulOk i j := (show CMul i j from .inl ⟨h1, h2⟩).ok
theorem mokR {i j : Int} (h1 : -(2 ^ 64) < j) (h2 : j < 2 ^ 64) : IntMulOk i j := (show CMul i j from .inr ⟨h1, h2⟩).ok
theorem pow10 {i j : Int} (h0 : 0 ≤ j) (h1 : j ≤ 1000000) (h2 : i.natAbs < 2 ^ 64) : CPow i j := ⟨h0, h1, h2⟩
theorem body_d_law_bag : BodyP B_d_law_bag 5 2 (.ow 1) sd_d_law_bag := by
  rintro ds q hl ⟨ns, k, rfl, h0, h1, hq⟩
  refine ⟨_, rfl, _, rfl, rfl, ns, k, rfl, h0, fun n => ⟨n, rfl, ?_⟩⟩
  refine ⟨_, _, rfl, rfl, pow10 (by decide) (by decide) (by decide), _, _, rfl, rfl, pow10 (by decide) (by decide) (by decide), _, _, rfl, rfl, mok1, _, _, rfl, rfl, pow10 (by decide) (by decide) (by decide), _, _, rfl, rfl, mok2, _, _, rfl, rfl, (by show (0 : Int) < _; decide +kernel), ?_⟩
  have hb := mod_big (if n < 0 then -n else n)
  dsimp only
  generalize (if n < 0 then -n else n) % (10 ^ (60 : Int).toNat * 10 ^ (60 : Int).toNat * 10 ^ (60 : Int).toNat) = cell at hb ⊢
  refine ⟨_, rfl, _, _, rfl, rfl, pow10 (by decide) (by decide) (by decide), _, _, rfl, rfl, _, rfl, ite2 (fun hge => ?_) (fun hlt => ?_)⟩
  · exact ⟨_, rfl, small_line (by show 2 ≤ 1000; decide), hq cell 0 ⟨hb, by decide, .inl rfl⟩⟩
  · refine ⟨_, rfl, _, rfl, _, _, rfl, rfl, mokL (by decide) (by decide), _, _, rfl, rfl, _, _, rfl, rfl, _, _, rfl, rfl, (by show (0 : Int) < 2147483647; decide), ?_⟩
    have hm := mod_mix (cell + 7919 * k + 17)
    dsimp only
    generalize (cell + 7919 * k + 17) % 2147483647 = mix at hm ⊢
    refine ⟨_, rfl, .inl ⟨ns, rfl, _, _, rfl, ?_⟩⟩
    have hle : (if (9 : Int) < (ns.length : Int) then (9 : Int) else (ns.length : Int)) ≤ ns.length ∧ 0 ≤ (if (9 : Int) < (ns.length : Int) then (9 : Int) else (ns.length : Int)) ∧ (if (9 : Int) < (ns.length : Int) then (9 : Int) else (ns.length : Int)) ≤ 9 := by
      split <;> omega
    generalize (if (9 : Int) < (ns.length : Int) then (9 : Int) else (ns.length : Int)) = z at hle ⊢
    refine ⟨z, rfl, by omega, by omega, ?_⟩
    refine forI (fun j ρ => ∃ (m : Int) (o : Option D), 0 ≤ m ∧ m < 2147483647 ∧ ρ = [some (.scr ns), some (.int k), some (.int cell), some (.int m), o]) ⟨mix, none, hm.1, hm.2, rfl⟩ ?_ ?_
    · rintro j d ρ hd ⟨m, o, h3, h4, rfl⟩
      have hj : j < z.toNat := by
        have := (List.getElem?_eq_some_iff.mp hd).1
        simpa using this
      rw [List.getElem?_map, List.getElem?_range hj] at hd
      simp only [Option.map_some, Option.some.injEq] at hd
      subst hd
      obtain ⟨y, hy⟩ := at_scr (ns := ns) (k := (j : Int)) (by omega) (by omega)
      refine ⟨_, rfl, _, _, rfl, rfl, pow10 (by decide) (by decide) (by omega), _, rfl, _, rfl, _, _, y, rfl, rfl, hy, _, _, rfl, rfl, (by show (0 : Int) < 2147483629; decide), _, _, rfl, rfl, _, rfl, _, _, rfl, rfl, mokL (by decide) (by decide), _, _, rfl, rfl, _, _, rfl, rfl, (by show (0 : Int) < 2147483647; decide), ?_⟩
      exact ⟨_, _, (mod_mix _).1, (mod_mix _).2, rfl⟩
    · rintro ρ ⟨m, o, h3, h4, rfl⟩
      exact ⟨_, rfl, small_line (by show 2 ≤ 1000; decide), hq m 1 ⟨h3, by decide, .inr h4⟩⟩
theorem ok_d_law_bag (T : Txt K mg t) : FnOk P w K mg base CX0 2 t.f_d_law_bag t.d_d_law_bag ["_law_script", "_law_at"] (spP K 2 (.ow 1) sd_d_law_bag) := by
  have G_d_law_cell := ok_d_law_cell (P := P) (w := w) (base := base) T
  exact fnP (κ := κ_d_law_bag) (T := B_d_law_bag) T.F_d_law_bag sc_d_law_bag (noIo_of rfl) (cl_of rfl) (.inr ⟨_, rfl⟩)
    (fun cdv A outer s H E hr =>
      (dscons (dset (i := 2) (by rfl) (.inl rfl) sc_d_law_bag.nd rfl (Or.inl rfl) rfl (fopC (by decide) do_mod (fcbC (by rfl) (by decide) (by decide) (by decide) dc_abs (by rfl) T.n_abs bt_abs (facC rfl (fclC (by rfl) (by decide) (by decide) G_d_law_cell rfl rfl (hr.mono (by decide)) (by rfl) T.m_d_law_cell T.k_d_law_cell T.b_d_law_cell pass0 (facC rfl (dv 0) (facC rfl (dv 1) fanil))) fanil)) (fopC (by decide) do_mul (fopC (by decide) do_mul (fopC (by decide) do_pow dint dint) (fopC (by decide) do_pow dint dint)) (fopC (by decide) do_pow dint dint))))
      (dscons (dif (ftcmpC (nomark _) do_ge (dv 2) (fopC (by decide) do_pow dint dint)) (dsone (dret (flstC (facC rfl (dv 2) (facC rfl dint fanil))))) dsnil)
      (dscons (dset (i := 3) (by rfl) (.inl rfl) sc_d_law_bag.nd rfl (Or.inl rfl) rfl (fopC (by decide) do_mod (fopC (by decide) do_add (fopC (by decide) do_add (dv 2) (fopC (by decide) do_mul dint (dv 1))) dint) dint))
      (dscons (dfor (by intro _; rfl) PassesOwn.never rfl (diR1 rfl (by rfl) T.n_range (facC rfl (fcbC (by rfl) (by decide) (by decide) (by decide) (dc_min2 rfl) (by rfl) T.n_min bt_min (facC rfl (fcbC (by rfl) (by decide) (by decide) (by decide) dc_len (by rfl) T.n_len bt_len (facC rfl (dv 0) fanil)) (facC rfl dint fanil))) fanil)) (dgname (i := 4) (.inl rfl) sc_d_law_bag.nd rfl (Or.inl rfl) (.inl ⟨rfl, rfl⟩)) (dsone (dset (i := 3) (by rfl) (.inl rfl) sc_d_law_bag.nd rfl (Or.inl rfl) rfl (fopC (by decide) do_mod (fopC (by decide) do_add (fopC (by decide) do_add (fopC (by decide) do_pow (dv 3) dint) (fopC (by decide) do_mod (fixC (fun _ _ => rfl) dix_scr (dv 0) (dv 4)) dint)) (fopC (by decide) do_mul dint (dv 4))) dint))))
      (dsone (dret (flstC (facC rfl (dv 3) (facC rfl dint fanil)))))))))) body_d_law_bag
end
section
variable {P : Program} {w : World} {K : PySem.W.Frag} {mg : Str → Option Value} {base : Heap} {t : Adr}
theorem at0 {k : D} {r : List D} : atI (k :: r) (0 : Int) = some k := atI_nat (j := 0) rfl
theorem at1 {k k1 : D} {r : List D} : atI (k :: k1 :: r) (1 : Int) = some k1 := atI_nat (j := 1) rfl
theorem body_d_law_take : BodyX B_d_law_take 3 2 0 .cl sd_d_law_take := by
  rintro ds q hl ⟨m, c, n, rfl, ⟨hm, hc, hmc⟩, hn, hn2, hq⟩
  have hn0 : n ≠ 0 := by omega
  refine ⟨_, rfl, _, _, _, rfl, rfl, at1, rfl, rfl, _, rfl, ?_⟩
  refine ite2 (fun h => ?_) (fun h => ?_)
  · have hc0 : c = 0 := by simpa [pyEq] using h
    subst hc0
    refine ⟨_, rfl, _, _, _, rfl, rfl, at0, _, rfl, _, _, rfl, rfl, hn, rfl, ?_⟩
    refine ⟨⟨_, rfl⟩, _, rfl, _, _, _, rfl, rfl, at0, _, rfl, _, _, rfl, rfl, ⟨hn, hn2⟩, rfl, _, _, _, rfl, rfl, rfl, ?_⟩
    refine ⟨_, rfl, _, rfl, hq _ _ _ (Int.emod_nonneg _ hn0) (Int.emod_lt_of_pos _ hn) ⟨Int.ediv_nonneg hm (by omega), Int.le_refl _, .inl rfl⟩⟩
  · have hc0 : c ≠ 0 := by simpa [pyEq] using h
    have hm2 : m < 2147483647 := by omega
    refine ⟨⟨_, rfl⟩, _, rfl, _, _, _, rfl, rfl, at0, _, _, rfl, rfl, pow10 (by decide) (by decide) (by omega), _, rfl, _, _, _, rfl, rfl, at1, _, _, rfl, rfl, mokL (by decide) (by decide), _, _, rfl, rfl, _, _, rfl, rfl, _, _, rfl, rfl, (by show (0 : Int) < 2147483647; decide), rfl, _, _, _, rfl, rfl, rfl, ?_⟩
    have hx := mod_mix (m ^ (5 : Int).toNat + 48271 * c + 11)
    dsimp only
    generalize (m ^ (5 : Int).toNat + 48271 * c + 11) % 2147483647 = x at hx ⊢
    refine ⟨⟨_, rfl⟩, _, rfl, _, _, _, rfl, rfl, at1, _, _, rfl, rfl, rfl, _, _, _, rfl, rfl, rfl, ?_⟩
    refine ⟨_, rfl, _, _, _, rfl, rfl, at0, _, _, rfl, rfl, mokR (by decide) (by decide), _, _, rfl, rfl, (by show (0 : Int) < 2147483629; decide), _, _, rfl, rfl, ⟨by decide, by decide⟩, _, rfl, _, _, rfl, rfl, hn, rfl, ?_⟩
    exact ⟨_, rfl, hq _ _ _ (Int.emod_nonneg _ hn0) (Int.emod_lt_of_pos _ hn) ⟨hx.1, by omega, .inr hx.2⟩⟩
theorem ok_d_law_take (T : Txt K mg t) : FnOk P w K mg base CX0 1 t.f_d_law_take t.d_d_law_take ["_law_bag_here", "_law_many"] (spX K 2 0 1 .cl sd_d_law_take) := by
  exact fnX (κ := κ_d_law_take) (T := B_d_law_take) T.F_d_law_take sc_d_law_take rfl (by decide) (io_of rfl) (clx_of rfl) (.inl rfl)
    (fun cdv A outer s H E hr =>
      (dscons (dif (ftcmpL (nomark _) (do_eq (room12 hr)) (fixL (fun _ _ => rfl) dix_l (dvl 0) (DE.loose dint)) (DE.loose dint)) (dscons (dset (i := 2) (by rfl) (.inl rfl) sc_d_law_take.nd rfl (Or.inl rfl) rfl (DE.nol (fopL (by decide) do_mod (fixL (fun _ _ => rfl) dix_l (dvl 0) (DE.loose dint)) (DE.loose (dv 1)))))
      (dscons (dstore (i := 0) (by rfl) (by rfl) (by rfl) (by intro _; rfl) rfl (by first | exact Or.inl rfl | exact Or.inr (Or.inl rfl) | exact Or.inr (Or.inr rfl)) (by decide) (by decide) rfl (DE.nol (fopL (by decide) do_fdiv (fixL (fun _ _ => rfl) dix_l (dvl 0) (DE.loose dint)) (DE.loose (dv 1)))) dint)
      (dsone (dret (dv 2))))) dsnil)
      (dscons (dstore (i := 0) (by rfl) (by rfl) (by rfl) (by intro _; rfl) rfl (by first | exact Or.inl rfl | exact Or.inr (Or.inl rfl) | exact Or.inr (Or.inr rfl)) (by decide) (by decide) rfl (DE.nol (fopL (by decide) do_mod (fopL (by decide) do_add (fopL (by decide) do_add (fopL (by decide) do_pow (fixL (fun _ _ => rfl) dix_l (dvl 0) (DE.loose dint)) (DE.loose dint)) (fopL (by decide) do_mul (DE.loose dint) (fixL (fun _ _ => rfl) dix_l (dvl 0) (DE.loose dint)))) (DE.loose dint)) (DE.loose dint))) dint)
      (dscons (dstore (i := 0) (by rfl) (by rfl) (by rfl) (by intro _; rfl) rfl (by first | exact Or.inl rfl | exact Or.inr (Or.inl rfl) | exact Or.inr (Or.inr rfl)) (by decide) (by decide) rfl (DE.nol (fopL (by decide) do_add (fixL (fun _ _ => rfl) dix_l (dvl 0) (DE.loose dint)) (DE.loose dint))) dint)
      (dsone (dret (DE.nol (fopL (by decide) do_mod (fopL (by decide) do_fdiv (fopL (by decide) do_mod (fopL (by decide) do_mul (fixL (fun _ _ => rfl) dix_l (dvl 0) (DE.loose dint)) (DE.loose dint)) (DE.loose dint)) (DE.loose dint)) (DE.loose (dv 1)))))))))) body_d_law_take
end
section
variable {P : Program} {w : World} {K : PySem.W.Frag} {mg : Str → Option Value} {base : Heap} {t : Adr}
theorem oneF_len (r c : Nat) (x : Option Cell) : (oneF r c x).length ≤ 1 := by
  unfold oneF; split <;> simp
theorem fRow_len (r : Nat) (cells : List Cell) (j : Nat) : (fRow r cells j).length ≤ j := by
  induction j with
  | zero => simp [fRow]
  | succ j ih => rw [fRow, List.length_append]; have := oneF_len r j cells[j]?; omega
theorem fRows_len {rows : List (List Cell)} {w : Nat} (hw : ∀ r ∈ rows, r.length = w) (i : Nat) : (fRows rows i).length ≤ i * w := by
  induction i with
  | zero => simp [fRows]
  | succ i ih =>
    rw [fRows, List.length_append, Nat.add_one_mul]
    cases e : rows[i]? with
    | none => simp only [List.length_nil]; omega
    | some cells =>
      have h1 := fRow_len i cells cells.length
      have h2 := hw cells (List.mem_of_getElem? e)
      simp only
      omega
theorem CaseG.few {us : List Int} {rows : List (List Cell)} {w h i j : Nat} {cells : List Cell} (G : CaseG us rows w h) (hi : i < h) (hj : j ≤ w) : (fRows rows i ++ fRow i cells j).length ≤ 240 := by
  rw [List.length_append]
  have a := fRows_len G.cl i
  have b := fRow_len i cells j
  have c := G.w15
  have d := G.h15
  have e : i * w ≤ 14 * 15 := Nat.mul_le_mul (by omega) c
  omega
theorem enum_at {α : Type} {f : α → D} {l : List α} {j : Nat} {d : D} (h : ((List.range (l.map f).length).map fun (k : Nat) => D.tup [.int (k : Int), (l.map f).getD k .non])[j]? = some d) : ∃ x, l[j]? = some x ∧ d = .tup [.int (j : Int), f x] := by
  rw [List.length_map] at h
  have hj : j < l.length := by
    have := (List.getElem?_eq_some_iff.mp h).1
    simpa using this
  rw [List.getElem?_map, List.getElem?_range hj] at h
  simp only [Option.map_some, Option.some.injEq] at h
  subst h
  refine ⟨l[j], List.getElem?_eq_getElem hj, ?_⟩
  rw [List.getD_eq_getElem?_getD, List.getElem?_map, List.getElem?_eq_getElem hj]
  rfl
theorem body_filled_cells : BodyP B_filled_cells 1 1 (.ow 1) sd_filled_cells := by
  rintro ds q hl ⟨us, rows, w, h, rfl, G, hq⟩
  refine ⟨_, rfl, _, _, _, rfl, rfl, at1, _, rfl, ?_⟩
  refine compY2 (fun i acc ρ => ∃ o0 o1 o2 o3, acc = (fRows rows i).map fcD ∧ ρ = [o0, o1, o2, o3]) ⟨none, none, none, none, rfl, rfl⟩ ?_ ?_
  · rintro i d acc ρ hd ⟨o0, o1, o2, o3, rfl, rfl⟩
    obtain ⟨cells, hr, rfl⟩ := enum_at hd
    have hi : i < h := by rw [← G.rl]; exact (List.getElem?_eq_some_iff.mp hr).1
    have hcl : cells.length = w := G.cl cells (List.mem_of_getElem? hr)
    refine ⟨_, rfl, rfl, _, _, rfl, _, _, rfl, rfl, _, rfl, _, rfl, ?_⟩
    refine compI (fun j acc ρ => ∃ o2 o3, acc = (fRows rows i ++ fRow i cells j).map fcD ∧ ρ = [some (.int i), some (.tup (cells.map cellD)), o2, o3]) ⟨o2, o3, ?_, rfl⟩ ?_ ?_
    · show _ = List.map fcD (_ ++ [])
      rw [List.append_nil]
    · rintro j d acc ρ hd ⟨o2, o3, rfl, rfl⟩
      obtain ⟨x, hx, rfl⟩ := enum_at hd
      have hj : j < w := by rw [← hcl]; exact (List.getElem?_eq_some_iff.mp hx).1
      refine ⟨_, rfl, rfl, _, _, rfl, _, _, rfl, rfl, _, rfl, ?_⟩
      have few : ((fRows rows i ++ fRow i cells j).map fcD).length < sizeLine := by
        rw [List.length_map]; have := G.few (cells := cells) hi (j := j) (by omega); exact small1000 (by omega)
      cases x with
      | none =>
        refine ⟨rfl, _, rfl, iteF ⟨_, _, ?_, rfl⟩⟩
        have e0 : oneF i j (some none) = [] := rfl
        rw [fRow, hx, e0, List.append_nil]
      | some p =>
        obtain ⟨n, k⟩ := p
        refine ⟨rfl, _, rfl, iteT ⟨_, rfl, _, _, _, rfl, rfl, at0, _, rfl, _, rfl, _, rfl, _, _, _, rfl, rfl, at1, small_line (by show 4 ≤ 1000; decide), few, _, _, ?_, rfl⟩⟩
        rw [fRow, hx, oneF, ← List.append_assoc, List.map_append (l₂ := [(n, j, i, k)])]
        rfl
    · rintro acc ρ ⟨o2, o3, rfl, rfl⟩
      rw [List.length_map, List.length_range, List.length_map]
      refine ⟨_, _, _, _, ?_, rfl⟩
      rw [fRows, hr]
  · rintro acc ρ ⟨o0, o1, o2, o3, rfl, rfl⟩
    rw [List.length_map, List.length_range, List.length_map]
    exact hq
theorem ok_filled_cells (T : Txt K mg t) : FnOk P w K mg base CX0 1 t.f_filled_cells t.d_filled_cells ["case"] (spP K 1 (.ow 1) sd_filled_cells) := by
  exact fnP (κ := κ_filled_cells) (T := B_filled_cells) T.F_filled_cells sc_filled_cells (noIo_of rfl) (cl_of rfl) (.inr ⟨_, rfl⟩)
    (fun cdv A outer s H E hr =>
      (dsone (dret (dcomp2 (lo := false) (by intro _; rfl) rfl (fun _ => cap_of rfl) (fun h => by cases h) (diE rfl (by rfl) T.n_enumerate (facC rfl (fixC (fun _ _ => rfl) dix_t (dv 0) dint) fanil)) (compSc_of (N := ["case"]) (sc := defScope s_filled_cells) (Nc := ["row", "cells", "column", "cell"]) (js := [none, none, none, none]) rfl rfl (by decide +kernel)) (fun pins_ fp_ H_ s_ C_ => ⟨(dgtup (by rfl) (by rfl) rfl (dgcons (by rfl) (dgname (i := 0) (.inr rfl) (show (["row", "cells", "column", "cell"] : List Str).Nodup by decide +kernel) rfl (Or.inl rfl) (.inl ⟨rfl, rfl⟩)) (dgcons (by rfl) (dgname (i := 1) (.inr rfl) (show (["row", "cells", "column", "cell"] : List Str).Nodup by decide +kernel) rfl (Or.inl rfl) (.inl ⟨rfl, rfl⟩)) dgnil))), dif0, ⟨(diE rfl (by rfl) T.n_enumerate (facC rfl (dv 1) fanil)), (dgtup (by rfl) (by rfl) rfl (dgcons (by rfl) (dgname (i := 2) (.inr rfl) (show (["row", "cells", "column", "cell"] : List Str).Nodup by decide +kernel) rfl (Or.inl rfl) (.inl ⟨rfl, rfl⟩)) (dgcons (by rfl) (dgname (i := 3) (.inr rfl) (show (["row", "cells", "column", "cell"] : List Str).Nodup by decide +kernel) rfl (Or.inl rfl) (.inl ⟨rfl, rfl⟩)) dgnil))), (dif1 (ftcmpC (nomark _) do_isnot (dv 3) dnon))⟩, (by intro _; rfl), (ftupC (facC rfl (fixC (fun _ _ => rfl) dix_t (dv 3) dint) (facC rfl (dv 2) (facC rfl (dv 0) (facC rfl (fixC (fun _ _ => rfl) dix_t (dv 3) dint) fanil)))))⟩))))) body_filled_cells
end
section
variable {P : Program} {w : World} {K : PySem.W.Frag} {mg : Str → Option Value} {base : Heap} {t : Adr}
theorem cams_app (a b : List Fc) : cams (a ++ b) = cams a + cams b := by
  unfold cams
  rw [List.filter_append, List.length_append]
theorem cams_snoc (a : List Fc) (f : Fc) : cams (a ++ [f]) = cams a + if f.2.2.2 = 0 then 0 else 1 := by
  rw [cams_app]
  congr 1
  unfold cams
  by_cases h : f.2.2.2 = 0
  · simp [h]
  · simp [h]
theorem body_cams_in : BodyP B_cams_in 1 1 .cl sd_cams_in := by
  rintro ds q hl ⟨us, rows, w, h, rfl, G, hq⟩
  refine ⟨_, rfl, rfl, us, rows, w, h, rfl, G, _, rfl, ?_⟩
  refine compI (fun j acc ρ => ∃ o0 o1 o2 o3, acc.length = cams ((filled rows).take j) ∧ ρ = [o0, o1, o2, o3]) ⟨none, none, none, none, rfl, rfl⟩ ?_ ?_
  · rintro j d acc ρ hd ⟨o0, o1, o2, o3, hac, rfl⟩
    rw [List.getElem?_map] at hd
    obtain ⟨f, hf, rfl⟩ := Option.map_eq_some_iff.mp hd
    obtain ⟨n, c, r, k⟩ := f
    refine ⟨_, rfl, rfl, _, _, rfl, _, _, rfl, _, _, rfl, _, _, rfl, rfl, _, rfl, rfl, rfl, _, rfl, ?_⟩
    have small : acc.length < sizeLine := by
      rw [hac]
      refine small1000 (Nat.le_trans (List.length_filter_le _ _) (Nat.le_trans (List.length_take_le' _ _) ?_))
      have a := fRows_len G.cl rows.length
      have b : rows.length * w ≤ 15 * 15 := Nat.mul_le_mul (by rw [G.rl]; exact G.h15) G.w15
      exact Nat.le_trans a (Nat.le_trans b (by decide))
    have step : cams ((filled rows).take (j + 1)) = cams ((filled rows).take j) + if k = 0 then 0 else 1 := by
      rw [List.take_succ, hf]
      exact cams_snoc _ (n, c, r, k)
    by_cases hk : k = 0
    · subst hk
      exact iteF ⟨_, _, _, _, by rw [step, hac]; rfl, rfl⟩
    · have hb : (!pyEq (.int k) (.int 0)) = true := by simp [pyEq, hk]
      refine ite2 (fun _ => ⟨_, rfl, small, _, _, _, _, by rw [step, List.length_append, hac, if_neg hk]; rfl, rfl⟩) (fun z => absurd hb z)
  · rintro acc ρ ⟨o0, o1, o2, o3, hac, rfl⟩
    rw [List.length_map, List.take_length] at hac
    refine .inr (.inl ⟨acc, rfl, ?_⟩)
    rw [hac]
    exact hq
theorem ok_cams_in (T : Txt K mg t) : FnOk P w K mg base CX0 2 t.f_cams_in t.d_cams_in ["case"] (spP K 1 .cl sd_cams_in) := by
  have G_filled_cells := ok_filled_cells (P := P) (w := w) (base := base) T
  exact fnP (κ := κ_cams_in) (T := B_cams_in) T.F_cams_in sc_cams_in (noIo_of rfl) (cl_of rfl) (.inl rfl)
    (fun cdv A outer s H E hr =>
      (dsone (dret (fcbC (by rfl) (by decide) (by decide) (by decide) dc_len (by rfl) T.n_len bt_len (facC rfl (DE.clean (dcomp (lo := false) (by intro _; rfl) rfl (fun _ => cap_of rfl) (fun h => by cases h) (diL vcl (DE.clean (fclC (by rfl) (by decide) (by decide) G_filled_cells rfl rfl (hr.mono (by decide)) (by rfl) T.m_filled_cells T.k_filled_cells T.b_filled_cells pass0 (facC rfl (dv 0) fanil)))) (compSc_of (N := ["case"]) (sc := defScope s_cams_in) (Nc := ["name", "column", "row", "cam"]) (js := [none, none, none, none]) rfl rfl (by decide +kernel)) (fun pins_ fp_ H_ s_ C_ => ⟨(dgtup (by rfl) (by rfl) rfl (dgcons (by rfl) (dgname (i := 0) (.inr rfl) (show (["name", "column", "row", "cam"] : List Str).Nodup by decide +kernel) rfl (Or.inl rfl) (.inl ⟨rfl, rfl⟩)) (dgcons (by rfl) (dgname (i := 1) (.inr rfl) (show (["name", "column", "row", "cam"] : List Str).Nodup by decide +kernel) rfl (Or.inl rfl) (.inl ⟨rfl, rfl⟩)) (dgcons (by rfl) (dgname (i := 2) (.inr rfl) (show (["name", "column", "row", "cam"] : List Str).Nodup by decide +kernel) rfl (Or.inl rfl) (.inl ⟨rfl, rfl⟩)) (dgcons (by rfl) (dgname (i := 3) (.inr rfl) (show (["name", "column", "row", "cam"] : List Str).Nodup by decide +kernel) rfl (Or.inl rfl) (.inl ⟨rfl, rfl⟩)) dgnil))))), (dif1 (ftcmpC (nomark _) (do_ne (room12 hr)) (dv 3) dint)), (dv 0)⟩))) fanil))))) body_cams_in
end
section
variable {P : Program} {w : World} {K : PySem.W.Frag} {mg : Str → Option Value} {base : Heap} {t : Adr}
theorem look_pos {k : Key} : ∀ {ks : List Key} {l : List D} {j : Nat}, l.length = ks.length → posK ks k = some j → lookD ks l k = l[j]?
  | [], l, j, _, h => by simp [posK] at h
  | k' :: ks, [], j, hl, _ => by simp at hl
  | k' :: ks, x :: l, j, hl, h => by
    simp only [posK] at h
    simp only [lookD]
    by_cases e : k' = k
    · rw [if_pos e] at h ⊢; cases h; rfl
    · rw [if_neg e] at h ⊢
      obtain ⟨i, e1, rfl⟩ := Option.map_eq_some_iff.mp h
      rw [List.getElem?_cons_succ]
      exact look_pos (by simpa using hl) e1
theorem pos_lt {k : Key} : ∀ {ks : List Key} {j : Nat}, posK ks k = some j → j < ks.length
  | [], j, h => by simp [posK] at h
  | k' :: ks, j, h => by
    simp only [posK] at h
    by_cases e : k' = k
    · rw [if_pos e] at h; cases h; simp
    · rw [if_neg e] at h
      obtain ⟨i, e1, rfl⟩ := Option.map_eq_some_iff.mp h
      have := pos_lt e1
      simp; omega
theorem look_none {k : Key} : ∀ {ks : List Key} {l : List D}, posK ks k = none → lookD ks l k = none
  | [], l, h => by simp [lookD]
  | k' :: ks, [], _ => by simp [lookD]
  | k' :: ks, x :: l, h => by
    simp only [posK] at h
    simp only [lookD]
    by_cases e : k' = k
    · rw [if_pos e] at h; cases h
    · rw [if_neg e] at h ⊢
      exact look_none (Option.map_eq_none_iff.mp h)
theorem look_set {k : Key} {x : D} (k' : Key) : ∀ {ks : List Key} {l : List D} {j : Nat}, l.length = ks.length → posK ks k = some j → lookD ks (l.set j x) k' = if k' = k then some x else lookD ks l k'
  | [], l, j, _, h => by simp [posK] at h
  | c :: ks, [], j, hl, _ => by simp at hl
  | c :: ks, y :: l, j, hl, h => by
    simp only [posK] at h
    by_cases e : c = k
    · rw [if_pos e] at h; cases h
      subst e
      simp only [List.set_cons_zero, lookD]
      by_cases e2 : c = k'
      · rw [if_pos e2, if_pos e2.symm]
      · rw [if_neg e2, if_neg (Ne.symm e2), if_neg e2]
    · rw [if_neg e] at h
      obtain ⟨i, e1, rfl⟩ := Option.map_eq_some_iff.mp h
      simp only [List.set_cons_succ, lookD]
      by_cases e2 : c = k'
      · rw [if_pos e2, if_pos e2, if_neg (fun z => e (e2.trans z))]
      · rw [if_neg e2, if_neg e2]
        exact look_set k' (by simpa using hl) e1
theorem look_app {k : Key} {x : D} (k' : Key) : ∀ {ks : List Key} {l : List D}, l.length = ks.length → posK ks k = none → lookD (ks ++ [k]) (l ++ [x]) k' = if k' = k then some x else lookD ks l k'
  | [], [], _, _ => by
    simp only [List.nil_append, lookD]
    by_cases e : k = k'
    · rw [if_pos e, if_pos e.symm]
    · rw [if_neg e, if_neg (Ne.symm e)]
  | [], _ :: _, hl, _ => by simp at hl
  | _ :: _, [], hl, _ => by simp at hl
  | c :: ks, y :: l, hl, h => by
    simp only [posK] at h
    by_cases e : c = k
    · rw [if_pos e] at h; cases h
    · rw [if_neg e] at h
      simp only [List.cons_append, lookD]
      by_cases e2 : c = k'
      · rw [if_pos e2, if_pos e2, if_neg (fun z => e (e2.trans z))]
      · rw [if_neg e2, if_neg e2]
        exact look_app k' (by simpa using hl) (Option.map_eq_none_iff.mp h)
theorem nm_snoc (ls : List (Str × Int)) (p : Str × Int) (u : Int) : nm (ls ++ [p]) u = nm ls u ++ if u = p.2 then [p.1] else [] := by
  unfold nm
  rw [List.filter_append, List.map_append]
  congr 1
  by_cases e : p.2 = u
  · simp [e]
  · simp [e, Ne.symm e]
theorem nm_len (ls : List (Str × Int)) (u : Int) : ((nm ls u).length : Int) = cn (wid ls) u := by
  unfold nm cn wid
  rw [List.length_map]
  congr 1
  induction ls with
  | nil => rfl
  | cons p ls ih =>
    rw [List.filter_cons, List.map_cons, List.count_cons]
    by_cases e : p.2 = u
    · simp [e, ih]
    · simp [e, ih]
theorem nm_le (ls : List (Str × Int)) (u : Int) : (nm ls u).length ≤ ls.length := by
  unfold nm; rw [List.length_map]; exact List.length_filter_le _ _
theorem body_names_by_width : BodyP B_names_by_width 4 1 (.ow 2) sd_names_by_width := by
  rintro ds q hl ⟨ls, rfl, ok, hq⟩
  refine ⟨_, rfl, _, rfl, ?_⟩
  refine forI (fun j ρ => ∃ ks l o1 o2, ρ = [some (.lst (ls.map letD)), some (.dK ks l), o1, o2] ∧ NamesD ks l (ls.take j) ∧ l.length = ks.length ∧ ks.length ≤ j) ⟨[], [], none, none, rfl, ⟨fun u => rfl, fun k hk => by simp at hk⟩, rfl, Nat.le_refl _⟩ ?_ ?_
  · rintro j d ρ hd ⟨ks, l, o1, o2, rfl, ⟨hn1, hn2⟩, hlk, hj⟩
    rw [List.getElem?_map] at hd
    obtain ⟨p, hp, rfl⟩ := Option.map_eq_some_iff.mp hd
    have hjl : j < ls.length := (List.getElem?_eq_some_iff.mp hp).1
    have htk : ls.take (j + 1) = ls.take j ++ [p] := by rw [List.take_succ, hp]; rfl
    have hlen := ok.len
    refine ⟨_, rfl, rfl, _, _, rfl, _, _, rfl, rfl, ?_⟩
    have key : ∀ ks' l', (∀ k', lookD ks' l' k' = if k' = Sum.inl p.2 then some (.lst ((nm (ls.take j) p.2).map D.str ++ [.str p.1])) else lookD ks l k') → (∀ u : Int, (lookD ks' l' (.inl u)).getD (.lst []) = .lst ((nm (ls.take (j + 1)) u).map D.str)) := fun ks' l' h u => by
      rw [h, htk, nm_snoc]
      by_cases e : u = p.2
      · subst e
        rw [if_pos rfl, if_pos rfl, List.map_append]; rfl
      · rw [if_neg (fun z => e (Sum.inl.inj z)), if_neg e, List.append_nil]; exact hn1 u
    refine ⟨ks, l, .inl p.2, .str p.1, rfl, rfl, rfl, small1000 (by omega), fun i hi => ?_, fun hi => ?_⟩
    · have e1 := look_pos hlk hi
      have hil := pos_lt hi
      have e2 := List.getElem?_eq_getElem (l := l) (i := i) (by omega)
      have e3 := hn1 p.2
      rw [e1, e2, Option.getD_some] at e3
      rw [e3] at e2
      refine ⟨_, e2, ?_, ks, _, _, _, rfl, ⟨key _ _ fun k' => look_set k' hlk hi, fun k hk => ?_⟩, by rw [List.length_set]; exact hlk, by omega⟩
      · rw [List.length_map]
        have := nm_le (ls.take j) p.2
        rw [List.length_take] at this
        exact small1000 (by omega)
      · obtain ⟨p', h1, h2⟩ := hn2 k hk
        exact ⟨p', by rw [htk]; exact List.mem_append_left _ h1, h2⟩
    · have e3 := hn1 p.2
      rw [look_none hi, Option.getD_none] at e3
      have e4 : (nm (ls.take j) p.2).map D.str = [] := by injection e3 with z; exact z.symm
      refine ⟨ks ++ [.inl p.2], _, _, _, rfl, ⟨key _ _ fun k' => by rw [look_app k' hlk hi, e4]; rfl, fun k hk => ?_⟩, by simp [hlk], by simp; omega⟩
      rcases List.mem_append.mp hk with hk | hk
      · obtain ⟨p', h1, h2⟩ := hn2 k hk
        exact ⟨p', by rw [htk]; exact List.mem_append_left _ h1, h2⟩
      · exact ⟨p, by rw [htk]; simp, by simpa using hk⟩
  · rintro ρ ⟨ks, l, o1, o2, rfl, hn, hlk, hj⟩
    rw [List.length_map] at hj
    rw [List.length_map, List.take_length] at hn
    exact ⟨_, rfl, hq ks l hn (Nat.le_trans hj ok.len)⟩
theorem ok_names_by_width (T : Txt K mg t) : FnOk P w K mg base CX0 1 t.f_names_by_width t.d_names_by_width ["letters"] (spP K 1 (.ow 2) sd_names_by_width) := by
  exact fnP (κ := κ_names_by_width) (T := B_names_by_width) T.F_names_by_width sc_names_by_width (noIo_of rfl) (cl_of rfl) (.inr ⟨_, rfl⟩)
    (fun cdv A outer s H E hr =>
      (dscons (dsetO (i := 1) (by rfl) (.inl rfl) sc_names_by_width.nd rfl (Or.inl rfl) rfl dnewK2)
      (dscons (dfor (by intro _; rfl) PassesOwn.never rfl (diL vcl (dv 0)) (dgtup (by rfl) (by rfl) rfl (dgcons (by rfl) (dgname (i := 2) (.inl rfl) sc_names_by_width.nd rfl (Or.inl rfl) (.inl ⟨rfl, rfl⟩)) (dgcons (by rfl) (dgname (i := 3) (.inl rfl) sc_names_by_width.nd rfl (Or.inl rfl) (.inl ⟨rfl, rfl⟩)) dgnil))) (dsone (dsda (i := 1) (ik := 3) (jn := 2) (by rfl) (by rfl) (by rfl) ⟨by rfl, by rfl, by rfl, by rfl⟩ rfl rfl rfl rfl (by first | exact Or.inl rfl | exact Or.inr (Or.inl rfl) | exact Or.inr (Or.inr rfl)) (by decide) (by decide) rfl (by first | exact Or.inl rfl | exact Or.inr (Or.inl rfl) | exact Or.inr (Or.inr rfl)) (by decide) (by decide) rfl (by first | exact Or.inl rfl | exact Or.inr (Or.inl rfl) | exact Or.inr (Or.inr rfl)) (by decide) (by decide))))
      (dsone (dretO (i := 1) (noLo_of rfl) rfl rfl (by first | exact Or.inl rfl | exact Or.inr (Or.inl rfl) | exact Or.inr (Or.inr rfl)) (by decide) (by decide)))))) body_names_by_width
theorem body_rows_for : BodyP B_rows_for 2 2 .cl sd_rows_for := by
  rintro ds q hl ⟨m, w, rfl, h1, h2, hq⟩
  exact ⟨_, rfl, _, rfl, _, _, rfl, rfl, _, _, rfl, rfl, _, rfl, _, _, rfl, rfl, ⟨h1, h2⟩, hq⟩
theorem ok_rows_for (T : Txt K mg t) : FnOk P w K mg base CX0 1 t.f_rows_for t.d_rows_for ["many", "wide"] (spP K 2 .cl sd_rows_for) := by
  exact fnP (κ := κ_rows_for) (T := B_rows_for) T.F_rows_for sc_rows_for (noIo_of rfl) (cl_of rfl) (.inl rfl)
    (fun cdv A outer s H E hr =>
      (dsone (dret (fopC (by decide) do_fdiv (fopC (by decide) do_sub (fopC (by decide) do_add (dv 0) (dv 1)) dint) (dv 1))))) body_rows_for
end
section
variable {P : Program} {w : World} {K : PySem.W.Frag} {mg : Str → Option Value} {base : Heap} {t : Adr}
theorem nodup_len : ∀ (n : Nat) (l : List Nat), l.Nodup → (∀ x ∈ l, x < n) → l.length ≤ n
  | 0, l, _, h => by
    cases l with
    | nil => exact Nat.le_refl _
    | cons a r => have := h a (by simp); omega
  | n + 1, l, nd, h => by
    have := nodup_len n (l.erase n) (nd.erase n) fun x hx => by
      have := (nd.mem_erase_iff).mp hx
      have := h x this.2
      omega
    rw [List.length_erase] at this
    split at this <;> omega
theorem cn_le (ws : List Int) (i : Int) : cn ws i ≤ ws.length := by
  unfold cn
  have := List.count_le_length (a := i) (l := ws)
  omega
theorem pth_box {ws : List Int} {w h : Int} {u : Nat} {r c k : Int} {L : List Int} (hw : 0 < w) (h0 : 0 ≤ h) (p : Pth (cn ws) w h u r c k L) : 0 ≤ r ∧ r ≤ h ∧ -(cn ws ((u : Int) + 1)) ≤ c ∧ c ≤ cn ws u ∧ 0 ≤ k ∧ L.length = u + 1 := by
  induction p with
  | zero =>
    have a := cn_nonneg ws 0
    have b := cn_nonneg ws 1
    exact ⟨Int.le_refl _, h0, by show -(cn ws 1) ≤ 0; omega, a, Int.le_refl _, rfl⟩
  | @step u r c k L lift p h1 h2 h3 ih =>
    obtain ⟨i1, i2, i3, i4, i5, i6⟩ := ih
    have e : ((u + 1 : Nat) : Int) = (u : Int) + 1 := by omega
    have n0 : 0 ≤ need (cn ws) w u c lift := by
      unfold need
      refine Int.ediv_nonneg ?_ (by omega)
      unfold mn0 at h2
      split at h2 <;> omega
    have := ab_nonneg lift
    have mc : mn0 c ≤ 0 := by unfold mn0; split <;> omega
    refine ⟨by omega, h3, ?_, ?_, by omega, by simp [i6]⟩
    · rw [e, show (u : Int) + 1 + 1 = u + 2 by omega]; exact h1
    · rw [e]; omega
theorem ways_few {ls : List (Str × Int)} {w h : Int} {u : Nat} {B : List WayE} (ok : LsOk ls) (hs : Szo w h) (nd : (B.map (·.1)).Nodup) (so : ∀ e ∈ B, Pth (cn (wid ls)) w h u e.1.1 e.1.2 e.2.1 e.2.2) : B.length ≤ 44 := by
  obtain ⟨hs1, hs2⟩ := hs
  have box : ∀ e ∈ B, 0 ≤ e.1.1 ∧ e.1.1 ≤ 3 ∧ -5 ≤ e.1.2 ∧ e.1.2 ≤ 5 := fun e he => by
    obtain ⟨a, b, c, d, _⟩ := pth_box (by omega) (by omega) (so e he)
    have l1 := cn_le (wid ls) ((u : Int) + 1)
    have l2 := cn_le (wid ls) u
    have l3 := ok.len
    have l4 : (wid ls).length = ls.length := by unfold wid; simp
    omega
  have := nodup_len 44 (B.map fun e => (e.1.1 * 11 + (e.1.2 + 5)).toNat) (by
    unfold List.Nodup
    rw [List.pairwise_map]
    unfold List.Nodup at nd
    rw [List.pairwise_map] at nd
    refine List.Pairwise.imp_of_mem (fun {a b} ha hb hab hc => hab ?_) nd
    have ba := box a ha
    have bb := box b hb
    refine Prod.ext ?_ ?_ <;> omega) (fun x hx => by
    obtain ⟨e, he, rfl⟩ := List.mem_map.mp hx
    have := box e he
    omega)
  rwa [List.length_map] at this
theorem nodup_key : ∀ {B : List WayE} {a b : WayE}, (B.map (·.1)).Nodup → a ∈ B → b ∈ B → a.1 = b.1 → a = b
  | [], _, _, _, h, _, _ => by simp at h
  | x :: B, a, b, nd, ha, hb, e => by
    rw [List.map_cons, List.nodup_cons] at nd
    rcases List.mem_cons.mp ha with h1 | h1
    · rcases List.mem_cons.mp hb with h2 | h2
      · rw [h1, h2]
      · rw [h1] at e
        exact absurd (List.mem_map.mpr ⟨b, h2, e.symm⟩) nd.1
    · rcases List.mem_cons.mp hb with h2 | h2
      · rw [h2] at e
        exact absurd (List.mem_map.mpr ⟨a, h1, e⟩) nd.1
      · exact nodup_key nd.2 h1 h2 e
def putW (B : List WayE) (p : Int × Int) (v : Int × List Int) : List WayE := if B.any (fun e => decide (e.1 = p)) = true then B.map (fun e => if e.1 = p then (p, v) else e) else B ++ [(p, v)]
theorem keyW_inj {p q : Int × Int} : keyW p = keyW q ↔ p = q := by
  obtain ⟨a, b⟩ := p
  obtain ⟨c, d⟩ := q
  simp [keyW]
theorem hasW (B : List WayE) (p : Int × Int) : hasT (ksW B) (keyW p) = B.any fun e => decide (e.1 = p) := by
  unfold hasT ksW
  rw [List.any_map]
  congr 1
  funext e
  simp only [Function.comp, keyW_inj]
theorem lookW {p : Int × Int} : ∀ {B : List WayE}, (B.any fun e => decide (e.1 = p)) = true → ∃ e, e ∈ B ∧ e.1 = p ∧ lookT (ksW B) (lW B) (keyW p) = some (wayD e.2.1 e.2.2)
  | [], h => by simp at h
  | b :: B, h => by
    rw [List.any_cons, Bool.or_eq_true] at h
    by_cases e : b.1 = p
    · refine ⟨b, by simp, e, ?_⟩
      show (if keyW b.1 = keyW p then some (wayD b.2.1 b.2.2) else _) = _
      rw [if_pos (keyW_inj.mpr e)]
    · obtain ⟨x, h1, h2, h3⟩ := lookW (p := p) (B := B) (h.resolve_left (by simpa using e))
      refine ⟨x, by simp [h1], h2, ?_⟩
      show (if keyW b.1 = keyW p then some (wayD b.2.1 b.2.2) else lookT (ksW B) (lW B) (keyW p)) = _
      rw [if_neg (fun z => e (keyW_inj.mp z))]; exact h3
theorem replW (p : Int × Int) (v : Int × List Int) : ∀ (B : List WayE), replT (keyW p) (wayD v.1 v.2) (ksW B) (lW B) = lW (B.map fun e => if e.1 = p then (p, v) else e)
  | [] => rfl
  | b :: B => by
    show (if keyW b.1 = keyW p then wayD v.1 v.2 else wayD b.2.1 b.2.2) :: replT (keyW p) (wayD v.1 v.2) (ksW B) (lW B) = _
    rw [replW p v B]
    show _ = wayD (if b.1 = p then (p, v) else b).2.1 (if b.1 = p then (p, v) else b).2.2 :: _
    by_cases e : b.1 = p
    · rw [if_pos (keyW_inj.mpr e), if_pos e]; rfl
    · rw [if_neg (fun z => e (keyW_inj.mp z)), if_neg e]; rfl
theorem putW_is (B : List WayE) (p : Int × Int) (v : Int × List Int) : putT (ksW B) (lW B) (keyW p) (wayD v.1 v.2) = .dT (ksW (putW B p v)) (lW (putW B p v)) := by
  unfold putT putW
  rw [hasW]
  by_cases e : (B.any fun e => decide (e.1 = p)) = true
  · rw [if_pos e, if_pos e, replW]
    congr 1
    unfold ksW
    rw [List.map_map]
    apply List.map_congr_left
    intro b _
    by_cases z : b.1 = p
    · simp [z]
    · simp [z]
  · rw [if_neg e, if_neg e]
    unfold ksW lW
    rw [List.map_append, List.map_append]; rfl
theorem putW_ok {own : Int → Int} {w h : Int} {u : Nat} {B : List WayE} {p : Int × Int} {v : Int × List Int} (nd : (B.map (·.1)).Nodup) (so : ∀ e ∈ B, Pth own w h u e.1.1 e.1.2 e.2.1 e.2.2) (hp : Pth own w h u p.1 p.2 v.1 v.2) (hle : ∀ e ∈ B, e.1 = p → v.1 ≤ e.2.1) :
    ((putW B p v).map (·.1)).Nodup ∧ (∀ e ∈ putW B p v, Pth own w h u e.1.1 e.1.2 e.2.1 e.2.2) ∧ (∀ e ∈ B, ∃ e' ∈ putW B p v, e'.1 = e.1 ∧ e'.2.1 ≤ e.2.1) ∧ ∃ e ∈ putW B p v, e.1 = p ∧ e.2.1 ≤ v.1 := by
  unfold putW
  by_cases a : (B.any fun e => decide (e.1 = p)) = true
  · rw [if_pos a]
    have em : (B.map fun e => if e.1 = p then (p, v) else e).map (·.1) = B.map (·.1) := by
      rw [List.map_map]
      apply List.map_congr_left
      intro b _
      by_cases z : b.1 = p <;> simp [z]
    refine ⟨by rw [em]; exact nd, fun e he => ?_, fun e he => ?_, ?_⟩
    · obtain ⟨b, hb, rfl⟩ := List.mem_map.mp he
      by_cases z : b.1 = p
      · rw [if_pos z]; exact hp
      · rw [if_neg z]; exact so b hb
    · refine ⟨_, List.mem_map.mpr ⟨e, he, rfl⟩, ?_⟩
      by_cases z : e.1 = p
      · rw [if_pos z]; exact ⟨z.symm, hle e he z⟩
      · rw [if_neg z]; exact ⟨rfl, Int.le_refl _⟩
    · obtain ⟨b, hb, z⟩ := List.any_eq_true.mp a
      have z := of_decide_eq_true z
      exact ⟨_, List.mem_map.mpr ⟨b, hb, rfl⟩, by rw [if_pos z], by rw [if_pos z]; exact Int.le_refl _⟩
  · rw [if_neg a]
    have nn : ∀ b ∈ B, b.1 ≠ p := fun b hb z => a (List.any_eq_true.mpr ⟨b, hb, decide_eq_true z⟩)
    refine ⟨?_, fun e he => ?_, fun e he => ⟨e, List.mem_append_left _ he, rfl, Int.le_refl _⟩, (p, v), by simp, rfl, Int.le_refl _⟩
    · rw [List.map_append]
      refine List.nodup_append.mpr ⟨nd, by simp, fun x hx y hy => ?_⟩
      obtain ⟨b, hb, rfl⟩ := List.mem_map.mp hx
      have : y = p := by simpa using hy
      rw [this]; exact nn b hb
    · rcases List.mem_append.mp he with he | he
      · exact so e he
      · have : e = (p, v) := by simpa using he
        rw [this]; exact hp
theorem pair_at {W : List WayE} {j : Nat} {d : D} (h : (pairsT (ksW W) (lW W))[j]? = some d) : ∃ e, W[j]? = some e ∧ d = .tup [keyT (keyW e.1), wayD e.2.1 e.2.2] := by
  unfold pairsT ksW lW at h
  rw [List.zip_map', List.map_map, List.getElem?_map] at h
  obtain ⟨e, h1, h2⟩ := Option.map_eq_some_iff.mp h
  exact ⟨e, h1, h2.symm⟩
theorem pairs_len (W : List WayE) : (pairsT (ksW W) (lW W)).length = W.length := by
  unfold pairsT ksW lW
  rw [List.length_map, List.length_zip, List.length_map, List.length_map, Nat.min_self]
end
section
variable {P : Program} {w : World} {K : PySem.W.Frag} {mg : Str → Option Value} {base : Heap} {t : Adr}
def SeenA (cf : Int → Int) (w h : Int) (u : Nat) (own upper : Int) (P B : List WayE) : Prop := ∀ e ∈ P, ∀ lift, -upper ≤ lift → lift ≤ own + mn0 e.1.2 → e.1.1 + need cf w u e.1.2 lift ≤ h → ∃ b ∈ B, b.1 = (e.1.1 + need cf w u e.1.2 lift, lift) ∧ b.2.1 ≤ e.2.1 + ab lift
def SeenB (cf : Int → Int) (w h : Int) (u : Nat) (upper r c k : Int) (i : Nat) (B : List WayE) : Prop := ∀ lift, -upper ≤ lift → lift < -upper + i → r + need cf w u c lift ≤ h → ∃ b ∈ B, b.1 = (r + need cf w u c lift, lift) ∧ b.2.1 ≤ k + ab lift
theorem seen_on {cf : Int → Int} {w h : Int} {u : Nat} {own upper r c k lift : Int} {i : Nat} {P B B' : List WayE} (co : SeenA cf w h u own upper P B) (ci : SeenB cf w h u upper r c k i B) (hlf : -upper + (i : Int) = lift) (hk : ∀ e ∈ B, ∃ e' ∈ B', e'.1 = e.1 ∧ e'.2.1 ≤ e.2.1)
    (hn : r + need cf w u c lift ≤ h → ∃ e ∈ B', e.1 = (r + need cf w u c lift, lift) ∧ e.2.1 ≤ k + ab lift) : SeenA cf w h u own upper P B' ∧ SeenB cf w h u upper r c k (i + 1) B' := by
  constructor
  · intro e he lf a1 a2 a3
    obtain ⟨b, b1, b2, b3⟩ := co e he lf a1 a2 a3
    obtain ⟨b', c1, c2, c3⟩ := hk b b1
    exact ⟨b', c1, c2.trans b2, by omega⟩
  · intro lf a1 a2 a3
    by_cases z : lf = lift
    · subst z; exact hn a3
    · obtain ⟨b, b1, b2, b3⟩ := ci lf a1 (by omega) a3
      obtain ⟨b', c1, c2, c3⟩ := hk b b1
      exact ⟨b', c1, c2.trans b2, by omega⟩
def WGood (ls : List (Str × Int)) (w h : Int) (u : Nat) (B : List WayE) : Prop := (B.map (·.1)).Nodup ∧ ∀ e ∈ B, Pth (cn (wid ls)) w h (u + 1) e.1.1 e.1.2 e.2.1 e.2.2
set_option genInjectivity false in
structure WP where
  u : Nat
  o : Obj
  o' : Obj
  W : List WayE
  ks : List Key
  l : List D
  ls : List (Str × Int)
  w : Int
  h : Int
  own : Int
  upper : Int
def WP.env (p : WP) (B : List WayE) (r : EnvD) : EnvD := some (.int ((p.u : Int) + 1)) :: some (.fT p.o (ksW p.W) (lW p.W)) :: some (.fK p.o' p.ks p.l) :: some (sizeD p.w p.h) :: some (.int p.w) :: some (.int p.h) :: some (.int p.own) :: some (.int p.upper) :: some (.dT (ksW B) (lW B)) :: r
def wOut (p : WP) (j : Nat) (ρ : EnvD) : Prop := ∃ B o9 o10 o11 o12 o13 o14 o15 o16, ρ = p.env B [o9, o10, o11, o12, o13, o14, o15, o16] ∧ WGood p.ls p.w p.h p.u B ∧ SeenA (cn (wid p.ls)) p.w p.h p.u p.own p.upper (p.W.take j) B
def wIn (p : WP) (j : Nat) (r c k : Int) (L : List Int) (left : Int) (i : Nat) (ρ : EnvD) : Prop := ∃ B o14 o15 o16, ρ = p.env B [some (.int r), some (.int c), some (.int k), some (.tup (L.map D.int)), some (.int left), o14, o15, o16] ∧ WGood p.ls p.w p.h p.u B ∧ SeenA (cn (wid p.ls)) p.w p.h p.u p.own p.upper (p.W.take j) B ∧ SeenB (cn (wid p.ls)) p.w p.h p.u p.upper r c k i B
theorem small_box {ls : List (Str × Int)} (ok : LsOk ls) (i : Int) : 0 ≤ cn (wid ls) i ∧ cn (wid ls) i ≤ 5 := by
  have := cn_nonneg (wid ls) i
  have := cn_le (wid ls) i
  have := ok.len
  have : (wid ls).length = ls.length := by unfold wid; simp
  omega
theorem body_with_rows_of : BodyP B_with_rows_of 17 4 (.ow 1) sd_with_rows_of := by
  rintro ds q hl ⟨u, o, W, o', ks, l, ls, w, h, rfl, hu, ok, hN, hs, hW, hq⟩
  have hw : 0 < w := by obtain ⟨a, b⟩ := hs; omega
  have hwl : w < 1073741824 := by obtain ⟨a, b⟩ := hs; omega
  have h0 : 0 ≤ h := by obtain ⟨a, b⟩ := hs; omega
  refine ⟨_, rfl, _, rfl, rfl, _, _, rfl, _, _, rfl, rfl, ?_⟩
  refine ⟨_, rfl, o', ks, l, rfl, _, rfl, small_line (by show 0 ≤ 1000; decide), .inl ((u : Int) + 1), rfl, ?_⟩
  rw [hN.1]
  refine .inr (.inl ⟨_, rfl, ?_⟩)
  rw [List.length_map, nm_len]
  refine ⟨_, rfl, o', ks, l, rfl, _, rfl, _, _, rfl, rfl, small_line (by show 0 ≤ 1000; decide), .inl ((u : Int) + 1 + 1), rfl, ?_⟩
  rw [hN.1]
  refine .inr (.inl ⟨_, rfl, ?_⟩)
  rw [List.length_map, nm_len, show (u : Int) + 1 + 1 = u + 2 by omega]
  have own0 := small_box ok ((u : Int) + 1)
  have upp0 := small_box ok ((u : Int) + 2)
  generalize hown : cn (wid ls) ((u : Int) + 1) = own at own0 ⊢
  generalize hupp : cn (wid ls) ((u : Int) + 2) = upper at upp0 ⊢
  refine ⟨_, rfl, _, _, _, rfl, ?_⟩
  refine forI (wOut ⟨u, o, o', W, ks, l, ls, w, h, own, upper⟩) (by
    unfold wOut
    exact ⟨[], none, none, none, none, none, none, none, none, rfl, ⟨List.nodup_nil, fun e he => by simp at he⟩, fun e he => by simp at he⟩) ?_ ?_
  · rintro j d ρ hd ⟨B, o9, o10, o11, o12, o13, o14, o15, o16, rfl, nd, co⟩
    obtain ⟨⟨⟨r, c⟩, k, L⟩, he, rfl⟩ := pair_at hd
    have hp : Pth (cn (wid ls)) w h u r c k L := hW.so _ (List.mem_of_getElem? he)
    obtain ⟨x1, x2, x3, x4, x5, x6⟩ := pth_box hw h0 hp
    have htk : W.take (j + 1) = W.take j ++ [((r, c), k, L)] := by rw [List.take_succ, he]; rfl
    have cb := small_box ok u
    rw [hown] at x3
    refine ⟨_, rfl, rfl, _, _, rfl, _, rfl, rfl, _, _, rfl, _, _, rfl, rfl, _, _, rfl, _, rfl, rfl, _, _, rfl, _, _, rfl, rfl, rfl, ?_⟩
    refine ⟨_, rfl, _, rfl, _, _, rfl, _, _, rfl, rfl, ?_⟩
    have hm0 : own + (if 0 < c then 0 else c) = own + mn0 c := rfl
    have mb : -5 ≤ own + mn0 c ∧ own + mn0 c ≤ 5 := by unfold mn0; split <;> omega
    unfold WP.env
    dsimp only [kl_with_rows_of, startD, List.map_cons, List.map_nil, List.length_cons, List.length_nil, Nat.reduceAdd, Nat.reduceSub, List.replicate_succ, List.replicate_zero, List.cons_append, List.nil_append, List.set_cons_zero, List.set_cons_succ]
    rw [hm0]
    generalize hleft : own + mn0 c = left at mb ⊢
    refine ⟨_, rfl, _, rfl, _, rfl, _, _, rfl, rfl, _, _, rfl, ⟨by omega, by omega, by omega, by omega⟩, ?_⟩
    refine forI (wIn ⟨u, o, o', W, ks, l, ls, w, h, own, upper⟩ j r c k L left) (by
      unfold wIn
      exact ⟨B, _, _, _, rfl, nd, co, fun lift h1 h2 => by omega⟩) ?_ ?_
    · rintro i d ρ hd ⟨B, o14, o15, o16, rfl, ⟨nd, so⟩, co, ci⟩
      have hi : i < (left + 1 - -upper).toNat := by
        have := (List.getElem?_eq_some_iff.mp hd).1
        simpa using this
      rw [List.getElem?_map, List.getElem?_range hi] at hd
      simp only [Option.map_some, Option.some.injEq] at hd
      subst hd
      generalize hlf : -upper + (i : Int) = lift
      have l1 : -upper ≤ lift := by omega
      have l2 : lift ≤ left := by omega
      refine ⟨_, rfl, _, rfl, _, rfl, _, _, rfl, rfl, _, rfl, _, _, rfl, rfl, _, rfl, rfl, _, _, rfl, hw, hwl, _, _, rfl, rfl, ?_⟩
      have hnd : (own + c - lift + w - 1) / w = need (cn (wid ls)) w u c lift := by unfold need; rw [hown]
      unfold WP.env
      dsimp only [kl_with_rows_of, startD, List.map_cons, List.map_nil, List.length_cons, List.length_nil, Nat.reduceAdd, Nat.reduceSub, List.replicate_succ, List.replicate_zero, List.cons_append, List.nil_append, List.set_cons_zero, List.set_cons_succ]
      rw [hnd]
      have same : ∀ e ∈ B, ∃ e' ∈ B, e'.1 = e.1 ∧ e'.2.1 ≤ e.2.1 := fun e he => ⟨e, he, rfl, Int.le_refl _⟩
      refine ⟨_, rfl, _, rfl, _, _, rfl, rfl, _, rfl, ite2 (fun hgt => ?_) (fun hle => ?_)⟩
      · have hgt := of_decide_eq_true hgt
        obtain ⟨k1, k2⟩ := seen_on co ci hlf same fun z => absurd hgt (Int.not_lt.mpr z)
        unfold wIn
        exact ⟨B, _, _, _, rfl, ⟨nd, so⟩, k1, k2⟩
      · have hle : r + need (cn (wid ls)) w u c lift ≤ h := by simpa using hle
        have stp : Pth (cn (wid ls)) w h (u + 1) (r + need (cn (wid ls)) w u c lift) lift (k + ab lift) (L ++ [lift]) := Pth.step lift hp (by rw [hupp]; exact l1) (by rw [hown, hleft]; exact l2) hle
        have few := ways_few ok hs nd so
        have hwy : D.tup [.int (k + ab lift), .tup (L.map D.int ++ [.int lift])] = wayD (k + ab lift) (L ++ [lift]) := by unfold wayD; rw [List.map_append]; rfl
        have hab : k + (if lift < 0 then -lift else lift) = k + ab lift := rfl
        refine ⟨_, rfl, _, rfl, _, rfl, _, _, rfl, rfl, _, rfl, _, rfl, small_line (by show 1 ≤ 1000; decide), _, _, rfl, rfl, small_line (by rw [List.length_map, x6]; show u + 1 + 1 ≤ 1000; omega), small_line (by show 2 ≤ 1000; decide), ?_⟩
        dsimp only [kl_with_rows_of, startD, List.map_cons, List.map_nil, List.length_cons, List.length_nil, Nat.reduceAdd, Nat.reduceSub, List.replicate_succ, List.replicate_zero, List.cons_append, List.nil_append, List.set_cons_zero, List.set_cons_succ]
        rw [hab, hwy]
        have keep := fun B' => seen_on (B' := B') co ci hlf
        generalize r + need (cn (wid ls)) w u c lift = t at stp keep hle ⊢
        have hsz : (ksW B).length < sizeLine := small1000 (by unfold ksW; rw [List.length_map]; omega)
        have put : (∀ e ∈ B, e.1 = (t, lift) → k + ab lift ≤ e.2.1) → ∀ o16, wIn ⟨u, o, o', W, ks, l, ls, w, h, own, upper⟩ j r c k L left (i + 1) (some (.int ((u : Int) + 1)) :: some (.fT o (ksW W) (lW W)) :: some (.fK o' ks l) :: some (sizeD w h) :: some (.int w) :: some (.int h) :: some (.int own) :: some (.int upper) :: some (putT (ksW B) (lW B) (keyW (t, lift)) (wayD (k + ab lift) (L ++ [lift]))) :: [some (.int r), some (.int c), some (.int k), some (.tup (L.map D.int)), some (.int left), some (.int lift), some (.int t), o16]) := fun hlow o16 => by
          obtain ⟨q1, q2, q3, q4⟩ := putW_ok (p := (t, lift)) (v := (k + ab lift, L ++ [lift])) nd so stp hlow
          obtain ⟨k1, k2⟩ := keep _ q3 fun _ => q4
          have e : putT (ksW B) (lW B) (keyW (t, lift)) (wayD (k + ab lift) (L ++ [lift])) = _ := putW_is B (t, lift) (k + ab lift, L ++ [lift])
          rw [e]
          unfold wIn WP.env
          exact ⟨putW B (t, lift) (k + ab lift, L ++ [lift]), _, _, _, rfl, ⟨q1, q2⟩, k1, k2⟩
        refine ⟨_, rfl, _, rfl, small_line (by show 2 ≤ 1000; decide), _, rfl, keyW (t, lift), _, _, rfl, rfl, _, rfl, ite2 (fun hnot => ?_) (fun hin => ?_)⟩
        · refine iteT ⟨⟨_, _, rfl⟩, _, rfl, _, rfl, _, rfl, small_line (by show 2 ≤ 1000; decide), _, _, keyW (t, lift), rfl, rfl, hsz, put (fun e he z => ?_) _⟩
          rw [hasW, List.any_eq_true.mpr ⟨e, he, decide_eq_true z⟩] at hnot
          simp at hnot
        · rw [hasW] at hin
          have hin : (B.any fun e => decide (e.1 = (t, lift))) = true := by simpa using hin
          obtain ⟨b, hb, b1, b2⟩ := lookW hin
          refine ⟨_, rfl, _, rfl, _, rfl, _, rfl, small_line (by show 2 ≤ 1000; decide), _, _, keyW (t, lift), _, rfl, rfl, b2, _, _, _, _, rfl, rfl, _, rfl, ite2 (fun hlt => ?_) (fun hge => ?_)⟩
          · refine ⟨⟨_, _, rfl⟩, _, rfl, _, rfl, _, rfl, small_line (by show 2 ≤ 1000; decide), _, _, keyW (t, lift), rfl, rfl, hsz, put (fun e he z => ?_) _⟩
            rw [nodup_key nd he hb (z.trans b1.symm)]
            exact ltW_le.1 hlt
          · have hge : ltW (k + ab lift) (L ++ [lift]) b.2.1 b.2.2 = false := by simpa using hge
            obtain ⟨k1, k2⟩ := keep B same fun _ => ⟨b, hb, b1, ltW_le.2 hge⟩
            unfold wIn
            exact ⟨B, _, _, _, rfl, ⟨nd, so⟩, k1, k2⟩
    · rintro ρ ⟨B, o14, o15, o16, rfl, nd, co, ci⟩
      unfold wOut
      refine ⟨B, _, _, _, _, _, _, _, _, rfl, nd, fun e he lift a1 a2 a3 => ?_⟩
      rw [htk] at he
      rcases List.mem_append.mp he with he | he
      · exact co e he lift a1 a2 a3
      · have : e = ((r, c), k, L) := by simpa using he
        subst this
        refine ci lift a1 ?_ a3
        rw [List.length_map, List.length_range]
        have : lift ≤ left := by rw [← hleft]; exact a2
        show lift < -upper + _
        omega
  · rintro ρ ⟨B, o9, o10, o11, o12, o13, o14, o15, o16, rfl, ⟨nd, so⟩, co⟩
    rw [pairs_len, List.take_length] at co
    refine ⟨_, rfl, hq B ⟨nd, so, fun r c k L p => ?_⟩⟩
    cases p with
    | @step u' r' c' k' L' lift p h1 h2 h3 =>
      obtain ⟨e, he, e1, e2⟩ := hW.co _ _ _ _ p
      have e11 : e.1.1 = r' := by rw [e1]
      have e12 : e.1.2 = c' := by rw [e1]
      obtain ⟨b, hb, b1, b2⟩ := co e he c (by show -upper ≤ c; rw [← hupp]; exact h1) (by show c ≤ own + _; rw [← hown, e12]; exact h2) (by rw [e11, e12]; exact h3)
      exact ⟨b, hb, by rw [b1, e11, e12], by omega⟩
theorem ok_with_rows_of (T : Txt K mg t) : FnOk P w K mg base CX0 2 t.f_with_rows_of t.d_with_rows_of ["units", "ways", "names", "size"] (spP K 4 (.ow 1) sd_with_rows_of) := by
  have G_rows_for := ok_rows_for (P := P) (w := w) (base := base) T
  exact fnP (κ := κ_with_rows_of) (T := B_with_rows_of) T.F_with_rows_of sc_with_rows_of (noIo_of rfl) (cl_of rfl) (.inr ⟨_, rfl⟩)
    (fun cdv A outer s H E hr =>
      (dscons (fasg (by rfl) (by rfl) (by rfl) (.inl rfl) (dv 3) (dgtup (by rfl) (by rfl) rfl (dgcons (by rfl) (dgname (i := 4) (.inl rfl) sc_with_rows_of.nd rfl (Or.inl rfl) (.inl ⟨rfl, rfl⟩)) (dgcons (by rfl) (dgname (i := 5) (.inl rfl) sc_with_rows_of.nd rfl (Or.inl rfl) (.inl ⟨rfl, rfl⟩)) dgnil))))
      (dscons (dset (i := 6) (by rfl) (.inl rfl) sc_with_rows_of.nd rfl (Or.inl rfl) rfl (fcbC (by rfl) (by decide) (by decide) (by decide) dc_len (by rfl) T.n_len bt_len (facC rfl (dgetF (room1 hr) ⟨by rfl, by rfl, by rfl, by rfl⟩ (dv 2) (dv 0) (DE.clean (flstC (fanil (pu := true))))) fanil)))
      (dscons (dset (i := 7) (by rfl) (.inl rfl) sc_with_rows_of.nd rfl (Or.inl rfl) rfl (fcbC (by rfl) (by decide) (by decide) (by decide) dc_len (by rfl) T.n_len bt_len (facC rfl (dgetF (room1 hr) ⟨by rfl, by rfl, by rfl, by rfl⟩ (dv 2) (fopC (by decide) do_add (dv 0) dint) (DE.clean (flstC (fanil (pu := true))))) fanil)))
      (dscons (dsetO (i := 8) (by rfl) (.inl rfl) sc_with_rows_of.nd rfl (Or.inl rfl) rfl dnewT)
      (dscons (dfor (by intro _; rfl) PassesOwn.never rfl (diIT (by rfl) (by rfl) (dv 1)) (dgtup (by rfl) (by rfl) rfl (dgcons (by rfl) (dgtup (by rfl) (by rfl) rfl (dgcons (by rfl) (dgname (i := 9) (.inl rfl) sc_with_rows_of.nd rfl (Or.inl rfl) (.inl ⟨rfl, rfl⟩)) (dgcons (by rfl) (dgname (i := 10) (.inl rfl) sc_with_rows_of.nd rfl (Or.inl rfl) (.inl ⟨rfl, rfl⟩)) dgnil))) (dgcons (by rfl) (dgtup (by rfl) (by rfl) rfl (dgcons (by rfl) (dgname (i := 11) (.inl rfl) sc_with_rows_of.nd rfl (Or.inl rfl) (.inl ⟨rfl, rfl⟩)) (dgcons (by rfl) (dgname (i := 12) (.inl rfl) sc_with_rows_of.nd rfl (Or.inl rfl) (.inl ⟨rfl, rfl⟩)) dgnil))) dgnil))) (dscons (dset (i := 13) (by rfl) (.inl rfl) sc_with_rows_of.nd rfl (Or.inl rfl) rfl (fopC (by decide) do_add (dv 6) (fcbC (by rfl) (by decide) (by decide) (by decide) (dc_min2 rfl) (by rfl) T.n_min bt_min (facC rfl (dv 10) (facC rfl dint fanil)))))
      (dsone (dfor (by intro _; rfl) PassesOwn.never rfl (diR2 rfl rfl (by rfl) T.n_range (facC rfl (fneg (dv 7)) (facC rfl (fopC (by decide) do_add (dv 13) dint) fanil))) (dgname (i := 14) (.inl rfl) sc_with_rows_of.nd rfl (Or.inl rfl) (.inl ⟨rfl, rfl⟩)) (dscons (dset (i := 15) (by rfl) (.inl rfl) sc_with_rows_of.nd rfl (Or.inl rfl) rfl (fopC (by decide) do_add (dv 9) (fclC (by rfl) (by decide) (by decide) G_rows_for rfl rfl (hr.mono (by decide)) (by rfl) T.m_rows_for T.k_rows_for T.b_rows_for pass0 (facC rfl (fopC (by decide) do_sub (fopC (by decide) do_add (dv 6) (dv 10)) (dv 14)) (facC rfl (dv 4) fanil)))))
      (dscons (dif (ftcmpC (nomark _) do_gt (dv 15) (dv 5)) (dsone dcont) dsnil)
      (dscons (dset (i := 16) (by rfl) (.inl rfl) sc_with_rows_of.nd rfl (Or.inl rfl) rfl (ftupC (facC rfl (fopC (by decide) do_add (dv 11) (fcbC (by rfl) (by decide) (by decide) (by decide) dc_abs (by rfl) T.n_abs bt_abs (facC rfl (dv 14) fanil))) (facC rfl (fopC (by decide) do_catT (dv 12) (ftupC (facC rfl (dv 14) fanil))) fanil))))
      (dsone (dif (dtw (fwor (ftcmpL (by rfl) (do_notinT (room1 hr)) (DE.loose (ftupC (facC rfl (dv 15) (facC rfl (dv 14) fanil)))) (dvl 8)) (dwor1 (ftcmpL (nomark _) (do_ltW (room12 hr)) (DE.loose (dv 16)) (fixL (fun _ _ => rfl) (dix_u (room1 hr)) (dvl 8) (DE.loose (ftupC (facC rfl (dv 15) (facC rfl (dv 14) fanil))))))))) (dsone (dputT (i := 8) (room1 hr) (by rfl) rfl (by first | exact Or.inl rfl | exact Or.inr (Or.inl rfl) | exact Or.inr (Or.inr rfl)) (by decide) (by decide) rfl (dv 16) (ftupC (facC rfl (dv 15) (facC rfl (dv 14) fanil))))) dsnil)))))))))
      (dsone (dretO (i := 8) (noLo_of rfl) rfl rfl (by first | exact Or.inl rfl | exact Or.inr (Or.inl rfl) | exact Or.inr (Or.inr rfl)) (by decide) (by decide))))))))) body_with_rows_of
end
section
variable {P : Program} {w : World} {K : PySem.W.Frag} {mg : Str → Option Value} {base : Heap} {t : Adr}
theorem cn31 {ls : List (Str × Int)} (ok : LsOk ls) : cn (wid ls) 31 = 0 := by
  unfold cn wid
  rw [List.count_eq_zero.mpr]; rfl
  intro z
  obtain ⟨p, hp, e⟩ := List.mem_map.mp z
  have := ok.wid p hp
  omega
def whl (W : List WayE) : List (Int × List Int) := (W.filter fun e => e.1.2 == 0).map (·.2)
theorem body_best_lifts : BodyPx B_best_lifts 8 2 sd_best_lifts := by
  rintro ds q x hl ⟨o, ks, l, ls, w, h, rfl, ok, hN, hs, hq, hx⟩
  have h0 : 0 ≤ h := by obtain ⟨a, b⟩ := hs; omega
  refine ⟨small_line (by show 2 ≤ 1000; decide), small_line (by show 1 ≤ 1000; decide), small_line (by show 2 ≤ 1000; decide), keyW (0, 0), rfl, _, _, rfl, fun o2 => ?_⟩
  refine ⟨_, _, rfl, rfl, _, _, rfl, ⟨by decide, by decide, by decide, by decide⟩, ?_⟩
  refine forI (fun j ρ => ∃ o2 W o3, ρ = [some (sizeD w h), some (.fK o ks l), some (.fT o2 (ksW W) (lW W)), o3, none, none, none, none] ∧ WaysOk (cn (wid ls)) w h j W) ⟨o2, [((0, 0), (0, [0]))], none, rfl, ?_⟩ ?_ ?_
  · refine ⟨by simp, fun e he => ?_, fun r c k L p => ?_⟩
    · have : e = ((0, 0), (0, [0])) := by simpa using he
      subst this; exact .zero
    · cases p; exact ⟨((0, 0), (0, [0])), by simp, rfl, Int.le_refl _⟩
  · rintro j d ρ hd ⟨o2, W, o3, rfl, hW⟩
    have hj : j < 30 := by
      have := (List.getElem?_eq_some_iff.mp hd).1
      simpa using this
    rw [List.getElem?_map, List.getElem?_range (by simpa using hj)] at hd
    simp only [Option.map_some, Option.some.injEq] at hd
    obtain rfl : d = .int ((j : Int) + 1) := by rw [← hd, Int.add_comm]
    refine ⟨_, rfl, _, rfl, _, rfl, _, rfl, rfl, j, _, W, _, ks, l, ls, w, h, rfl, hj, ok, hN, hs, hW, fun W' hW' => ⟨_, _, rfl, fun o4 => ⟨o4, W', _, rfl, hW'⟩⟩⟩
  · rintro ρ ⟨o2, W, o3, rfl, hW⟩
    have hlen : ((List.range ((30 : Int) + 1 - 1).toNat).map fun (k : Nat) => D.int (1 + (k : Int))).length = 30 := by rw [List.length_map, List.length_range]; rfl
    rw [hlen] at hW
    refine ⟨_, rfl, o, ks, l, rfl, _, _, rfl, rfl, small_line (by show 0 ≤ 1000; decide), .inl (30 + 1), rfl, ?_⟩
    rw [hN.1]
    refine .inr (.inl ⟨_, rfl, _, rfl, ?_⟩)
    rw [List.length_map, nm_len, show (30 : Int) + 1 = 31 by rfl, cn31 ok]
    have few := ways_few ok hs hW.nd hW.so
    refine ⟨_, rfl, _, _, _, rfl, ?_⟩
    refine compI (fun j acc ρ => ∃ o0 o1 o2, acc = (whl (W.take j)).map (fun p => wayD p.1 p.2) ∧ ρ = [o0, o1, o2, some (.int 0)]) ⟨none, none, none, rfl, rfl⟩ ?_ ?_
    · rintro j d acc ρ hd ⟨p0, p1, p2, rfl, rfl⟩
      obtain ⟨⟨⟨r, c⟩, k, L⟩, he, rfl⟩ := pair_at hd
      have htk : W.take (j + 1) = W.take j ++ [((r, c), k, L)] := by rw [List.take_succ, he]; rfl
      have hw1 : whl (W.take (j + 1)) = whl (W.take j) ++ if c = 0 then [(k, L)] else [] := by
        rw [htk]
        unfold whl
        rw [List.filter_append, List.map_append]
        congr 1
        by_cases e : c = 0 <;> simp [e]
      refine ⟨_, rfl, rfl, _, _, rfl, _, rfl, rfl, _, _, rfl, _, _, rfl, rfl, _, _, rfl, rfl, _, rfl, _, rfl, rfl, rfl, _, rfl, ite2 (fun hc => ?_) (fun hc => ?_)⟩
      · have hc : c = 0 := by simpa [pyEq, keyD] using hc
        refine ⟨_, rfl, ?_, _, _, _, ?_, rfl⟩
        · rw [List.length_map]
          refine small1000 ?_
          unfold whl
          rw [List.length_map]
          have := List.length_filter_le (fun e : WayE => e.1.2 == 0) (W.take j)
          have := List.length_take_le' j W
          omega
        · rw [hw1, if_pos hc, List.map_append]; rfl
      · have hc : c ≠ 0 := by simpa [pyEq, keyD] using hc
        exact ⟨_, _, _, by rw [hw1, if_neg hc, List.append_nil], rfl⟩
    · rintro acc ρ ⟨p0, p1, p2, rfl, rfl⟩
      rw [pairs_len, List.take_length]
      have mem : ∀ r k L, Pth (cn (wid ls)) w h 30 r 0 k L → ∃ p ∈ whl W, p.1 ≤ k := fun r k L p => by
        obtain ⟨e, he, e1, e2⟩ := hW.co r 0 k L p
        exact ⟨e.2, List.mem_map.mpr ⟨e, List.mem_filter.mpr ⟨he, by rw [e1]; rfl⟩, rfl⟩, e2⟩
      have mem2 : ∀ p ∈ whl W, ∃ r, Pth (cn (wid ls)) w h 30 r 0 p.1 p.2 := fun p hp => by
        obtain ⟨e, he, rfl⟩ := List.mem_map.mp hp
        obtain ⟨he, hc⟩ := List.mem_filter.mp he
        have hc : e.1.2 = 0 := by simpa using hc
        have := hW.so e he
        rw [hc] at this
        exact ⟨_, this⟩
      refine ⟨_, rfl, _, .inl rfl, ite2 (fun hemp => ?_) (fun hne => ?_)⟩
      · refine hx fun r k L p => ?_
        obtain ⟨p', hp', _⟩ := mem r k L p
        have : (whl W).map (fun p => wayD p.1 p.2) = [] := by simpa using hemp
        rw [List.map_eq_nil_iff] at this
        rw [this] at hp'
        simp at hp'
      · have hne : whl W ≠ [] := by simpa using hne
        refine ⟨_, rfl, whl W, rfl, List.length_pos_iff.mpr hne, fun p hp hmin => ⟨_, rfl, rfl, _, _, rfl, _, _, rfl, rfl, _, rfl, ?_⟩⟩
        obtain ⟨r, hr⟩ := mem2 p hp
        refine hq r p.1 p.2 hr fun r' k' L' p' => ?_
        obtain ⟨p2, h2, h3⟩ := mem r' k' L' p'
        have := hmin p2 h2
        omega
theorem ok_best_lifts (T : Txt K mg t) : FnOk P w K mg base (CX1 P w) 3 t.f_best_lifts t.d_best_lifts ["size", "names"] (spPx K 2 .cl [t.x_NoLayout] sd_best_lifts) := by
  have G_with_rows_of := ok_with_rows_of (P := P) (w := w) (base := base) T
  exact fnPx (κ := κ_best_lifts) (T := B_best_lifts) T.F_best_lifts sc_best_lifts (cl_of rfl)
    (fun cdv A outer s H E xs hX hr =>
      (dsconsx (dsx (dset (i := 2) (by rfl) (.inl rfl) sc_best_lifts.nd rfl (Or.inl rfl) rfl (DE.frzT (ddisp1 (room1 hr) (ftupC (facC rfl dint (facC rfl dint fanil))) (ftupC (facC rfl dint (facC rfl (ftupC (facC rfl dint fanil)) fanil)))))))
      (dsconsx (dsx (dfor (by intro _; rfl) PassesOwn.leaving rfl (diR2 rfl rfl (by rfl) T.n_range (facC rfl dint (facC rfl (fopC (by decide) do_add (dgint (by decide) (by rfl) T.c_GREATEST_UNITS) dint) fanil))) (dgname (i := 3) (.inl rfl) sc_best_lifts.nd rfl (Or.inl rfl) (.inl ⟨rfl, rfl⟩)) (dsone (dset (i := 2) (by rfl) (.inl rfl) sc_best_lifts.nd rfl (Or.inl rfl) rfl (DE.frzT (fclC (by rfl) (by decide) (by decide) G_with_rows_of rfl rfl (hr.mono (by decide)) (by rfl) T.m_with_rows_of T.k_with_rows_of T.b_with_rows_of pass0 (facC rfl (dv 3) (facC rfl (dv 2) (facC rfl (dv 1) (facC rfl (dv 0) fanil))))))))))
      (dsconsx (dsx (dset (i := 4) (by rfl) (.inl rfl) sc_best_lifts.nd rfl (Or.inr rfl) rfl (fneg (fcbC (by rfl) (by decide) (by decide) (by decide) dc_len (by rfl) T.n_len bt_len (facC rfl (dgetF (room1 hr) ⟨by rfl, by rfl, by rfl, by rfl⟩ (dv 1) (fopC (by decide) do_add (dgint (by decide) (by rfl) T.c_GREATEST_UNITS) dint) (DE.clean (flstC (fanil (pu := true))))) fanil)))))
      (dsconsx (dsx (dsetC (i := 5) (lo := false) (.inl ⟨rfl, .inl rfl⟩) (by rfl) (by intro _; rfl) rfl sc_best_lifts.nd rfl rfl (fun _ => cap_of rfl) (fun h => by cases h) (diIT (by rfl) (by rfl) (dv 2)) (compSc_of (N := ["size", "names", "ways", "units", "last", "whole", "cams", "lifts"]) (sc := defScope s_best_lifts) (Nc := ["way", "taken", "lift", "last"]) (js := [none, none, none, some 4]) rfl rfl (by decide +kernel)) (fun pins_ fp_ H_ s_ C_ => ⟨(dgtup (by rfl) (by rfl) rfl (dgcons (by rfl) (dgtup (by rfl) (by rfl) rfl (dgcons (by rfl) (dgname (i := 1) (.inr rfl) (show (["way", "taken", "lift", "last"] : List Str).Nodup by decide +kernel) rfl (Or.inl rfl) (.inl ⟨rfl, rfl⟩)) (dgcons (by rfl) (dgname (i := 2) (.inr rfl) (show (["way", "taken", "lift", "last"] : List Str).Nodup by decide +kernel) rfl (Or.inl rfl) (.inl ⟨rfl, rfl⟩)) dgnil))) (dgcons (by rfl) (dgname (i := 0) (.inr rfl) (show (["way", "taken", "lift", "last"] : List Str).Nodup by decide +kernel) rfl (Or.inl rfl) (.inl ⟨rfl, rfl⟩)) dgnil))), (dif1 (ftcmpC (nomark _) (do_eq (room12 hr)) (dv 2) (dv 3))), (dv 0)⟩)))
      (dsconsx (difX (dtnot (dtru vcl (by intro _; rfl) (dv 5))) (dsonex (draise0 (xs := xs) (i := 0) T.Y_NoLayout rfl (by rfl) T.mx_NoLayout (by decide) (by rfl) (fun H_ sm_ hz_ => raises_of (hX 0 _ H_ rfl sm_ hz_)) dstr)) dsnilx)
      (dsconsx (dsx (fasg (by rfl) (by rfl) (by rfl) (.inl rfl) (fcbC (by rfl) (by decide) (by decide) (by decide) (dc_minW rfl (room12 hr)) (by rfl) T.n_min bt_min (facC rfl (dv 5) fanil)) (dgtup (by rfl) (by rfl) rfl (dgcons (by rfl) (dgname (i := 6) (.inl rfl) sc_best_lifts.nd rfl (Or.inl rfl) (.inl ⟨rfl, rfl⟩)) (dgcons (by rfl) (dgname (i := 7) (.inl rfl) sc_best_lifts.nd rfl (Or.inl rfl) (.inl ⟨rfl, rfl⟩)) dgnil)))))
      (dsonex (dsx (dret (dv 7))))))))))) body_best_lifts
end
section
variable {P : Program} {w : World} {K : PySem.W.Frag} {mg : Str → Option Value} {base : Heap} {t : Adr}
theorem sIxp {n d : Nat} {v : Int} (h : 0 ≤ v) : HT.sIx n d (some v) = min v.toNat n := by
  show (if v < 0 then (v + (n : Int)).toNat else min v.toNat n) = _
  rw [if_neg (by omega)]
def cutS (l : List Str) (lo hi : Option Int) : List Str := (l.drop (HT.sIx l.length 0 lo)).take (HT.sIx l.length l.length hi - HT.sIx l.length 0 lo)
theorem cut_strs (l : List Str) (lo hi : Option Int) : cutD (l.map D.str) lo hi = (cutS l lo hi).map D.str := by
  unfold cutD cutS
  rw [List.length_map, List.map_take, List.map_drop]
theorem cut_nat {l : List Str} {a b : Nat} (h1 : a ≤ b) (h2 : b ≤ l.length) : (cutS l (some (a : Int)) (some (b : Int))).length = b - a := by
  unfold cutS
  rw [HT.sIx_nat, HT.sIx_nat, Nat.min_eq_left h2, Nat.min_eq_left (Nat.le_trans h1 h2), List.length_take, List.length_drop]
  exact Nat.min_eq_left (Nat.sub_le_sub_right h2 _)
theorem cut_mid {l : List Str} {a b : Int} (ha : 0 ≤ a) (hb : 0 ≤ b) (h : a + b ≤ l.length) : (cutS l (some a) (some ((l.length : Int) - b))).length = ((l.length : Int) - b - a).toNat := by
  obtain ⟨x, rfl⟩ := Int.eq_ofNat_of_zero_le ha
  obtain ⟨y, e⟩ := Int.eq_ofNat_of_zero_le (show 0 ≤ (l.length : Int) - b by omega)
  rw [e, cut_nat (by omega) (by omega)]; omega
theorem cut_last {l : List Str} {c : Int} (h0 : 0 ≤ c) (h1 : c ≤ l.length) : (cutS l (some ((l.length : Int) - c)) none).length = c.toNat := by
  have e : cutS l (some ((l.length : Int) - c)) none = cutS l (some ((l.length : Int) - c)) (some ((l.length : Int) - 0)) := by
    unfold cutS
    rw [HT.sIx_none, Int.sub_zero, HT.sIx_nat, Nat.min_self]
  rw [e, cut_mid (by omega) (Int.le_refl _) (by omega)]; omega
theorem cut_first {l : List Str} {c : Int} (h0 : 0 ≤ c) (h1 : c ≤ l.length) : (cutS l none (some c)).length = c.toNat := by
  have e : cutS l none (some c) = cutS l (some ((0 : Nat) : Int)) (some ((l.length : Int) - ((l.length : Int) - c))) := by
    unfold cutS
    rw [HT.sIx_none, HT.sIx_nat, Nat.min_eq_left (Nat.zero_le _), show (l.length : Int) - ((l.length : Int) - c) = c by omega]
  rw [e, cut_mid (by omega) (by omega) (by omega)]; omega
theorem cut_len (l : List Str) (lo hi : Option Int) : (cutS l lo hi).length ≤ l.length := by
  unfold cutS
  rw [List.length_take, List.length_drop]; omega
theorem comp_cells {K : Int} {E : DTE} {q : List D → EnvD → Prop} {zs : List Str} {ρ0 : EnvD} (hE : ∀ (s : Str) (q' : D → EnvD → Prop), q' (.tup [.str s, .int K]) [some (.str s)] → E [some (.str s)] q') (hs : zs.length ≤ 100) (h0 : ρ0 = [none]) (h : ∀ ρ, q ((zs.map fun s => (s, K)).map letD) ρ) : compGo (gdName 0) eYes E (zs.map D.str) [] ρ0 q := by
  subst h0
  refine compY (fun j acc ρ => ∃ o0, acc = ((zs.take j).map fun s => (s, K)).map letD ∧ ρ = [o0]) ⟨none, rfl, rfl⟩ ?_ ?_
  · rintro j d acc ρ hd ⟨o0, rfl, rfl⟩
    rw [List.getElem?_map] at hd
    obtain ⟨s, hs2, rfl⟩ := Option.map_eq_some_iff.mp hd
    refine hE s _ ⟨?_, _, ?_, rfl⟩
    · rw [List.length_map, List.length_map]
      have := List.length_take_le' j zs
      exact small1000 (by omega)
    · rw [List.take_succ, hs2, List.map_append, List.map_append]; rfl
  · rintro acc ρ ⟨o0, rfl, rfl⟩
    rw [List.length_map, List.take_length]
    exact h _
theorem nz_app (a b : List (Str × Int)) : nz (a ++ b) = nz a + nz b := by
  unfold nz
  rw [List.filter_append, List.length_append]; omega
theorem nz_all {l : List Str} {K : Int} (h : K ≠ 0) : nz (l.map fun s => (s, K)) = l.length := by
  unfold nz
  rw [List.filter_eq_self.mpr (fun p hp => by obtain ⟨s, _, rfl⟩ := List.mem_map.mp hp; simpa using h), List.length_map]
theorem nz_none {l : List Str} : nz (l.map fun s => (s, (0 : Int))) = 0 := by
  unfold nz
  rw [List.filter_eq_nil_iff.mpr (fun p hp => by obtain ⟨s, _, rfl⟩ := List.mem_map.mp hp; simp)]; rfl
theorem body_cells_with_units : BodyP B_cells_with_units 8 4 (.ow 1) sd_cells_with_units := by
  rintro ds q hl ⟨u, o, ks, l, ls, c, t, rfl, ok, hN, hc1, hc2, hc3, hq⟩
  have nl : ∀ v, (nm ls v).length ≤ 5 := fun v => Nat.le_trans (nm_le ls v) ok.len
  refine ⟨_, rfl, o, ks, l, rfl, _, rfl, _, _, rfl, rfl, small_line (by show 0 ≤ 1000; decide), .inl (u - 1), rfl, ?_⟩
  refine ⟨_, rfl, o, ks, l, rfl, _, rfl, small_line (by show 0 ≤ 1000; decide), .inl u, rfl, ?_⟩
  refine ⟨_, rfl, o, ks, l, rfl, _, rfl, _, _, rfl, rfl, small_line (by show 0 ≤ 1000; decide), .inl (u + 1), rfl, ?_⟩
  dsimp only [kl_cells_with_units, startD, List.map_cons, List.map_nil, List.length_cons, List.length_nil, Nat.reduceAdd, Nat.reduceSub, List.replicate_succ, List.replicate_zero, List.cons_append, List.nil_append, List.set_cons_zero, List.set_cons_succ]
  rw [hN.1, hN.1, hN.1]
  have a1 := nm_len ls (u - 1)
  have a2 := nm_len ls u
  have a3 := nm_len ls (u + 1)
  have z1 := mx0_nonneg c
  have z2 := mx0_nonneg (-c)
  have z3 := mx0_nonneg t
  have z4 := mx0_nonneg (-t)
  have e1 : ((nm ls (u - 1)).map D.str).length = (nm ls (u - 1)).length := List.length_map ..
  have e2 : ((nm ls u).map D.str).length = (nm ls u).length := List.length_map ..
  have l1 := cut_last (l := nm ls (u - 1)) z1 (by rw [a1]; exact hc1)
  have l2 := cut_mid (l := nm ls u) z2 z3 (by rw [a2]; exact hc3)
  have l3 := cut_first (l := nm ls (u + 1)) z4 (by rw [a3]; exact hc2)
  have b1 := nl (u - 1)
  have b2 := nl u
  have b3 := nl (u + 1)
  have k1 := cut_len (nm ls (u - 1)) (some (((nm ls (u - 1)).length : Int) - mx0 c)) none
  have k2 := cut_len (nm ls u) (some (mx0 (-c))) (some (((nm ls u).length : Int) - mx0 t))
  have k3 := cut_len (nm ls (u + 1)) none (some (mx0 (-t)))
  refine ⟨_, rfl, _, rfl, .inr (.inl ⟨_, rfl, _, rfl, _, _, rfl, _, _, rfl, rfl, _, rfl, _, rfl, _, rfl, ?_⟩)⟩
  rw [e1]
  show compGo _ _ _ (cutD ((nm ls (u - 1)).map D.str) (some (((nm ls (u - 1)).length : Int) - mx0 c)) none) _ _ _
  rw [cut_strs]
  refine comp_cells (K := -1) (fun s q' h' => ⟨_, rfl, _, rfl, small_line (by show 2 ≤ 1000; decide), h'⟩) (by omega) rfl fun _ => ?_
  refine ⟨⟨_, rfl⟩, _, rfl, _, rfl, _, rfl, _, _, rfl, _, rfl, _, rfl, .inr (.inl ⟨_, rfl, _, rfl, _, _, rfl, _, _, rfl, rfl, _, rfl, _, rfl, _, rfl, ?_⟩)⟩
  rw [e2]
  show compGo _ _ _ (cutD ((nm ls u).map D.str) (some (mx0 (-c))) (some (((nm ls u).length : Int) - mx0 t))) _ _ _
  rw [cut_strs]
  refine comp_cells (K := 0) (fun s q' h' => ⟨_, rfl, small_line (by show 2 ≤ 1000; decide), h'⟩) (by omega) rfl fun _ => ?_
  refine ⟨_, rfl, _, rfl, small_line (by rw [List.length_map, List.length_map, List.length_map, List.length_map]; omega), ?_⟩
  refine ⟨⟨_, rfl⟩, _, rfl, _, rfl, _, rfl, _, _, rfl, _, rfl, _, rfl, _, rfl, ?_⟩
  show compGo _ _ _ (cutD ((nm ls (u + 1)).map D.str) none (some (mx0 (-t)))) _ _ _
  rw [cut_strs]
  refine comp_cells (K := 1) (fun s q' h' => ⟨_, rfl, small_line (by show 2 ≤ 1000; decide), h'⟩) (by omega) rfl fun _ => ?_
  refine ⟨_, rfl, _, rfl, small_line (by rw [List.length_append]; simp only [List.length_map]; omega), ?_⟩
  refine ⟨_, rfl, ?_⟩
  rw [← List.map_append, ← List.map_append]
  have s1 := mx0_sub c
  have s2 := mx0_sub t
  refine hq _ ?_ ?_
  · rw [List.length_append, List.length_append, List.length_map, List.length_map, List.length_map, l1, l2, l3]; omega
  · rw [nz_app, nz_app, nz_all (by decide), nz_none, nz_all (by decide), l1, l3]; omega
theorem ok_cells_with_units (T : Txt K mg t) : FnOk P w K mg base CX0 1 t.f_cells_with_units t.d_cells_with_units ["units", "names", "came", "lift"] (spP K 4 (.ow 1) sd_cells_with_units) := by
  exact fnP (κ := κ_cells_with_units) (T := B_cells_with_units) T.F_cells_with_units sc_cells_with_units (noIo_of rfl) (cl_of rfl) (.inr ⟨_, rfl⟩)
    (fun cdv A outer s H E hr =>
      (dscons (dset (i := 4) (by rfl) (.inl rfl) sc_cells_with_units.nd rfl (Or.inl rfl) rfl (dgetF (room1 hr) ⟨by rfl, by rfl, by rfl, by rfl⟩ (dv 1) (fopC (by decide) do_sub (dv 0) dint) (DE.clean (flstC (fanil (pu := true))))))
      (dscons (dset (i := 5) (by rfl) (.inl rfl) sc_cells_with_units.nd rfl (Or.inl rfl) rfl (dgetF (room1 hr) ⟨by rfl, by rfl, by rfl, by rfl⟩ (dv 1) (dv 0) (DE.clean (flstC (fanil (pu := true))))))
      (dscons (dset (i := 6) (by rfl) (.inl rfl) sc_cells_with_units.nd rfl (Or.inl rfl) rfl (dgetF (room1 hr) ⟨by rfl, by rfl, by rfl, by rfl⟩ (dv 1) (fopC (by decide) do_add (dv 0) dint) (DE.clean (flstC (fanil (pu := true))))))
      (dscons (dsetC (i := 7) (lo := false) (.inl ⟨rfl, .inr rfl⟩) (by rfl) (by intro _; rfl) rfl sc_cells_with_units.nd rfl rfl (fun _ => cap_of rfl) (fun h => by cases h) (diL vcl (DE.clean (fslC (by decide) dsl_l (dv 4) (dosome (fopC (by decide) do_sub (fcbC (by rfl) (by decide) (by decide) (by decide) dc_len (by rfl) T.n_len bt_len (facC rfl (dv 4) fanil)) (fcbC (by rfl) (by decide) (by decide) (by decide) (dc_max2 rfl) (by rfl) T.n_max bt_max (facC rfl (dv 2) (facC rfl dint fanil))))) fono))) (compSc_of (N := ["units", "names", "came", "lift", "lower", "own", "upper", "cells"]) (sc := defScope s_cells_with_units) (Nc := ["name"]) (js := [none]) rfl rfl (by decide +kernel)) (fun pins_ fp_ H_ s_ C_ => ⟨(dgname (i := 0) (.inr rfl) (show (["name"] : List Str).Nodup by decide +kernel) rfl (Or.inl rfl) (.inl ⟨rfl, rfl⟩)), dif0, (ftupC (facC rfl (dv 0) (facC rfl (fneg dint) fanil)))⟩))
      (dscons (dextend (i := 7) (by rfl) rfl (by rfl) (by rfl) rfl (by first | exact Or.inl rfl | exact Or.inr (Or.inl rfl) | exact Or.inr (Or.inr rfl)) (by decide) (by decide) rfl (DE.clean (dcomp (lo := false) (by intro _; rfl) rfl (fun _ => cap_of rfl) (fun h => by cases h) (diL vcl (DE.clean (fslC (by decide) dsl_l (dv 5) (dosome (fcbC (by rfl) (by decide) (by decide) (by decide) (dc_max2 rfl) (by rfl) T.n_max bt_max (facC rfl (fneg (dv 2)) (facC rfl dint fanil)))) (dosome (fopC (by decide) do_sub (fcbC (by rfl) (by decide) (by decide) (by decide) dc_len (by rfl) T.n_len bt_len (facC rfl (dv 5) fanil)) (fcbC (by rfl) (by decide) (by decide) (by decide) (dc_max2 rfl) (by rfl) T.n_max bt_max (facC rfl (dv 3) (facC rfl dint fanil)))))))) (compSc_of (N := ["units", "names", "came", "lift", "lower", "own", "upper", "cells"]) (sc := defScope s_cells_with_units) (Nc := ["name"]) (js := [none]) rfl rfl (by decide +kernel)) (fun pins_ fp_ H_ s_ C_ => ⟨(dgname (i := 0) (.inr rfl) (show (["name"] : List Str).Nodup by decide +kernel) rfl (Or.inl rfl) (.inl ⟨rfl, rfl⟩)), dif0, (ftupC (facC rfl (dv 0) (facC rfl dint fanil)))⟩))))
      (dscons (dextend (i := 7) (by rfl) rfl (by rfl) (by rfl) rfl (by first | exact Or.inl rfl | exact Or.inr (Or.inl rfl) | exact Or.inr (Or.inr rfl)) (by decide) (by decide) rfl (DE.clean (dcomp (lo := false) (by intro _; rfl) rfl (fun _ => cap_of rfl) (fun h => by cases h) (diL vcl (DE.clean (fslC (by decide) dsl_l (dv 6) fono (dosome (fcbC (by rfl) (by decide) (by decide) (by decide) (dc_max2 rfl) (by rfl) T.n_max bt_max (facC rfl (fneg (dv 3)) (facC rfl dint fanil))))))) (compSc_of (N := ["units", "names", "came", "lift", "lower", "own", "upper", "cells"]) (sc := defScope s_cells_with_units) (Nc := ["name"]) (js := [none]) rfl rfl (by decide +kernel)) (fun pins_ fp_ H_ s_ C_ => ⟨(dgname (i := 0) (.inr rfl) (show (["name"] : List Str).Nodup by decide +kernel) rfl (Or.inl rfl) (.inl ⟨rfl, rfl⟩)), dif0, (ftupC (facC rfl (dv 0) (facC rfl dint fanil)))⟩))))
      (dsone (dretO (i := 7) (noLo_of rfl) rfl rfl (by first | exact Or.inl rfl | exact Or.inr (Or.inl rfl) | exact Or.inr (Or.inr rfl)) (by decide) (by decide)))))))))) body_cells_with_units
end
section
variable {P : Program} {w : World} {K : PySem.W.Frag} {mg : Str → Option Value} {base : Heap} {t : Adr}
theorem pth_caps {ws : List Int} {w h : Int} {n : Nat} {r c k : Int} {L : List Int} (p : Pth (cn ws) w h n r c k L) (h0 : 0 ≤ h) {i : Nat} (hi : i < n) : mx0 (L.getD i 0) ≤ cn ws i ∧ mx0 (-(L.getD (i + 1) 0)) ≤ cn ws ((i : Int) + 2) ∧ mx0 (-(L.getD i 0)) + mx0 (L.getD (i + 1) 0) ≤ cn ws ((i : Int) + 1) := by
  obtain ⟨i1, i2, i3, i4, i5, i6, i7⟩ := pth_exp p h0
  obtain ⟨a1, a2⟩ := i7 i hi
  have n0 := cn_nonneg ws i
  have n1 := cn_nonneg ws ((i : Int) + 1)
  have n2 := cn_nonneg ws ((i : Int) + 2)
  have b : L.getD i 0 ≤ cn ws i ∧ -(cn ws ((i : Int) + 1)) ≤ L.getD i 0 := by
    cases i with
    | zero => rw [i2]; omega
    | succ j =>
      obtain ⟨c1, c2⟩ := i7 j (by omega)
      have m : mn0 (L.getD j 0) ≤ 0 := by unfold mn0; split <;> omega
      rw [show ((j + 1 : Nat) : Int) = (j : Int) + 1 by omega]
      rw [show (j : Int) + 1 + 1 = j + 2 by omega]
      exact ⟨by omega, c1⟩
  refine ⟨?_, ?_, ?_⟩
  · unfold mx0; split <;> omega
  · unfold mx0; split <;> omega
  · unfold mx0 mn0 at *
    repeat' split
    all_goals (split at a2 <;> omega)
def nzB : Cell → Bool
  | some (_, k) => !(k == 0)
  | none => false
def nzc (cs : List Cell) : Int := ((cs.filter nzB).length : Nat)
def fcn (cs : List Cell) : Int := ((cs.filter (·.isSome)).length : Nat)
theorem nzc_app (a b : List Cell) : nzc (a ++ b) = nzc a + nzc b := by unfold nzc; rw [List.filter_append, List.length_append]; omega
theorem fcn_app (a b : List Cell) : fcn (a ++ b) = fcn a + fcn b := by unfold fcn; rw [List.filter_append, List.length_append]; omega
theorem nzc_none (n : Nat) : nzc (List.replicate n none) = 0 := by
  unfold nzc; rw [List.filter_eq_nil_iff.mpr (fun x hx => by rw [List.eq_of_mem_replicate hx]; simp [nzB])]; rfl
theorem fcn_none (n : Nat) : fcn (List.replicate n none) = 0 := by
  unfold fcn; rw [List.filter_eq_nil_iff.mpr (fun x hx => by rw [List.eq_of_mem_replicate hx]; simp)]; rfl
theorem nzc_some (cs : List (Str × Int)) : nzc (cs.map some) = nz cs := by
  unfold nzc nz
  congr 1
  induction cs with
  | nil => rfl
  | cons p cs ih =>
    rw [List.map_cons, List.filter_cons, List.filter_cons]
    show (if (!(p.2 == 0)) = true then _ else _ : List Cell).length = (if (!(p.2 == 0)) = true then _ else _ : List (Str × Int)).length
    split
    · simp [ih]
    · exact ih
theorem fcn_some (cs : List (Str × Int)) : fcn (cs.map some) = cs.length := by
  unfold fcn
  rw [List.filter_eq_self.mpr (fun x hx => by obtain ⟨p, _, rfl⟩ := List.mem_map.mp hx; rfl), List.length_map]
theorem cells_some (cs : List (Str × Int)) : cs.map letD = (cs.map some).map cellD := by
  rw [List.map_map]; rfl
theorem none_in : ∀ {cs : List Cell}, fcn cs < cs.length → ∃ j, cs[j]? = some none ∧ ∀ (i : Nat) (x : Cell), i < j → cs[i]? = some x → x ≠ none
  | [], h => by simp [fcn] at h
  | none :: cs, h => ⟨0, rfl, fun i x hi => by omega⟩
  | some p :: cs, h => by
    obtain ⟨j, h1, h2⟩ := none_in (cs := cs) (by
      unfold fcn at h ⊢
      rw [List.filter_cons_of_pos (by rfl), List.length_cons, List.length_cons] at h
      omega)
    refine ⟨j + 1, by simpa using h1, fun i x hi hx => ?_⟩
    cases i with
    | zero => simp at hx; rw [← hx]; simp
    | succ i => exact h2 i x (by omega) (by simpa using hx)
theorem nzc_set : ∀ {cs : List Cell} {j : Nat}, cs[j]? = some none → nzc (cs.set j (some ((" " : Str), 0))) = nzc cs
  | [], j, h => by simp at h
  | x :: cs, 0, h => by
    simp at h; subst h
    rw [List.set_cons_zero]
    unfold nzc
    rw [List.filter_cons_of_neg (by simp [nzB]), List.filter_cons_of_neg (by simp [nzB])]
  | x :: cs, j + 1, h => by
    rw [List.set_cons_succ]
    have := nzc_set (cs := cs) (j := j) (by simpa using h)
    rw [show x :: cs.set j (some ((" " : Str), 0)) = [x] ++ cs.set j (some ((" " : Str), 0)) from rfl, show x :: cs = [x] ++ cs from rfl, nzc_app, nzc_app, this]
theorem cams_row (r : Nat) (cells : List Cell) : ∀ j, j ≤ cells.length → ((cams (fRow r cells j) : Nat) : Int) = nzc (cells.take j)
  | 0, _ => rfl
  | j + 1, h => by
    have e := List.getElem?_eq_getElem (l := cells) (i := j) (by omega)
    rw [fRow, cams_app, Int.natCast_add, cams_row r cells j (by omega), List.take_succ, e, nzc_app]
    congr 1
    cases cells[j] with
    | none => rfl
    | some p =>
      obtain ⟨n, k⟩ := p
      show ((cams [(n, j, r, k)] : Nat) : Int) = nzc [some (n, k)]
      unfold cams nzc
      by_cases z : k = 0
      · subst z; rfl
      · rw [List.filter_cons_of_pos (by simpa using z), List.filter_cons_of_pos (by simpa [nzB] using z)]; rfl
def chunks (cs : List Cell) (w h : Nat) : List (List Cell) := (List.range h).map fun i => (cs.drop (w * i)).take w
theorem chunk_at {cs : List Cell} {w h i : Nat} (hi : i < h) : (chunks cs w h)[i]? = some ((cs.drop (w * i)).take w) := by
  unfold chunks
  rw [List.getElem?_map, List.getElem?_range hi]; rfl
theorem cams_chunks {cs : List Cell} {w h : Nat} : ∀ i, i ≤ h → ((cams (fRows (chunks cs w h) i) : Nat) : Int) = nzc (cs.take (w * i))
  | 0, _ => rfl
  | i + 1, hi => by
    rw [fRows, chunk_at (by omega), cams_app, Int.natCast_add, cams_chunks i (by omega), Nat.mul_add, Nat.mul_one, List.take_add, nzc_app]
    congr 1
    show ((cams (fRow i ((cs.drop (w * i)).take w) ((cs.drop (w * i)).take w).length) : Nat) : Int) = _
    rw [cams_row _ _ _ (Nat.le_refl _), List.take_length]
theorem chunks_case {us : List Int} {cs : List Cell} {w h : Nat} (h1 : w ≤ 15) (h2 : h ≤ 15) (hl : cs.length = w * h) : CaseG us (chunks cs w h) w h := by
  refine ⟨h1, h2, by unfold chunks; rw [List.length_map, List.length_range], fun r hr => ?_⟩
  unfold chunks at hr
  obtain ⟨i, hi, rfl⟩ := List.mem_map.mp hr
  have hi := List.mem_range.mp hi
  rw [List.length_take, List.length_drop, hl]
  have : w * (i + 1) ≤ w * h := Nat.mul_le_mul_left w (by omega)
  rw [Nat.mul_add, Nat.mul_one] at this
  omega
theorem cams_case {cs : List Cell} {w h : Nat} (hl : cs.length = w * h) : ((cams (filled (chunks cs w h)) : Nat) : Int) = nzc cs := by
  unfold filled
  have e : (chunks cs w h).length = h := by unfold chunks; rw [List.length_map, List.length_range]
  rw [e, cams_chunks h (Nat.le_refl _), ← hl, List.take_length]
theorem cut_cells {cs : List Cell} {w i : Nat} (h : w * i + w ≤ cs.length) : cutD (cs.map cellD) (some ((w : Int) * i)) (some ((w : Int) * i + w)) = ((cs.drop (w * i)).take w).map cellD := by
  unfold cutD
  rw [List.length_map, show (w : Int) * i = ((w * i : Nat) : Int) by rw [Int.natCast_mul], show ((w * i : Nat) : Int) + w = ((w * i + w : Nat) : Int) by rw [Int.natCast_add], HT.sIx_nat, HT.sIx_nat, ← List.map_drop, ← List.map_take]
  rw [Nat.min_eq_left h, Nat.min_eq_left (Nat.le_trans (Nat.le_add_right _ _) h), Nat.add_sub_cancel_left]
theorem noL_cell (x : Cell) : noL (cellD x) = true := by
  cases x with
  | none => rfl
  | some p => rfl
theorem noLs_map {α : Type} {f : α → D} (h : ∀ x, noL (f x) = true) : ∀ l : List α, noLs (l.map f) = true
  | [] => rfl
  | x :: l => by rw [List.map_cons, noLs, h, noLs_map h l]; rfl
theorem noL_case (us : List Int) (rows : List (List Cell)) : noL (caseD us rows) = true := by
  unfold caseD gridT
  simp only [noL, noLs, noLs_map (f := D.int) (fun _ => rfl) us, noLs_map (f := fun r => D.tup (List.map cellD r)) (fun r => by simp only [noL]; exact noLs_map noL_cell r) rows, Bool.and_self]
theorem rep1 (n : Nat) (x : D) : (List.replicate n [x]).flatten = List.replicate n x := by
  induction n with
  | zero => rfl
  | succ n ih => rw [List.replicate_succ, List.flatten_cons, ih]; rfl
end
section
variable {P : Program} {w : World} {K : PySem.W.Frag} {mg : Str → Option Value} {base : Heap} {t : Adr}
theorem need_mul {own : Int → Int} {w : Int} {u : Nat} {c t : Int} (hw : 0 < w) (h : 0 ≤ own ((u : Int) + 1) + c - t) : own ((u : Int) + 1) + c - t ≤ need own w u c t * w ∧ 0 ≤ need own w u c t := by
  unfold need
  exact ⟨ceil_ge hw, Int.ediv_nonneg (by omega) (by omega)⟩
def nsum (ls : List (Str × Int)) (w : Int) (L : List Int) (j : Nat) : Int := sm (fun i => need (cn (wid ls)) w i (L.getD i 0) (L.getD (i + 1) 0)) j
theorem nsum_in {ls : List (Str × Int)} {w h : Int} {L : List Int} (need0 : ∀ i, i < 30 → 0 ≤ need (cn (wid ls)) w i (L.getD i 0) (L.getD (i + 1) 0)) (h30 : nsum ls w L 30 ≤ h) (n : Nat) (hn : n ≤ 30) : 0 ≤ nsum ls w L n ∧ nsum ls w L n ≤ h := by
  have pos : ∀ m, m ≤ 30 → 0 ≤ nsum ls w L m := fun m hm => by
    have := sm_le (f := fun _ => 0) (g := fun i => need (cn (wid ls)) w i (L.getD i 0) (L.getD (i + 1) 0)) (n := m) fun i hi => need0 i (by omega)
    rwa [sm_zero] at this
  refine ⟨pos n hn, ?_⟩
  have mono : ∀ d, n + d ≤ 30 → nsum ls w L n ≤ nsum ls w L (n + d) := fun d => by
    induction d with
    | zero => intro _; exact Int.le_refl _
    | succ d ih =>
      intro hd
      exact Int.le_trans (ih (by omega)) (Int.le_add_of_nonneg_right (need0 (n + d) (by omega)))
  have := mono (30 - n) (by omega)
  rw [show n + (30 - n) = 30 by omega] at this
  exact Int.le_trans this h30
def cInv (o : Obj) (ks : List Key) (l : List D) (ls : List (Str × Int)) (w h : Int) (L : List Int) (j : Nat) (ρ : EnvD) : Prop := ∃ (us : List Int) (cs : List Cell) (o7 o8 o9 : Option D), ρ = [some (sizeD w h), some (.fK o ks l), some (.tup (L.map D.int)), some (.int w), some (.int h), some (.lst (us.map D.int)), some (.lst (cs.map cellD)), o7, o8, o9] ∧
  (us.length : Int) = nsum ls w L j ∧ (cs.length : Int) = nsum ls w L j * w ∧ nzc cs = sm (fun i => ab (L.getD (i + 1) 0)) j - mx0 (L.getD j 0) ∧ fcn cs = sm (fun i => cn (wid ls) ((i : Int) + 1)) j - L.getD j 0
theorem body_case_by_lifts : BodyP B_case_by_lifts 10 3 .cl sd_case_by_lifts := by
  rintro ds q hl ⟨o, ks, l, ls, w, h, r, k, L, rfl, ok, hN, hs, hlt, hp, hq⟩
  have hw : 0 < w ∧ w ≤ 3 := by obtain ⟨a, b⟩ := hs; omega
  have hh : 0 ≤ h ∧ h ≤ 3 := by obtain ⟨a, b⟩ := hs; omega
  have hwh : 0 ≤ w * h ∧ w * h ≤ 9 := by
    obtain ⟨a | a, b | b⟩ := hs <;> subst a b <;> decide
  obtain ⟨i1, i2, i3, i4, i5, i6, i7⟩ := pth_exp hp hh.1
  have caps := fun i hi => pth_caps (i := i) hp hh.1 hi
  have need0 : ∀ i, i < 30 → 0 ≤ need (cn (wid ls)) w i (L.getD i 0) (L.getD (i + 1) 0) := fun i hi => by
    obtain ⟨c1, c2, c3⟩ := caps i hi
    refine (need_mul hw.1 ?_).2
    have s1 := mx0_sub (L.getD i 0)
    have s2 := mx0_sub (L.getD (i + 1) 0)
    have := mx0_nonneg (L.getD i 0)
    have := mx0_nonneg (-(L.getD (i + 1) 0))
    omega
  have nsum' := nsum_in need0 (by rw [show nsum ls w L 30 = r from i5.symm]; exact i6)
  have latI : ∀ j : Nat, j ≤ 30 → atI (L.map D.int) (j : Int) = some (.int (L.getD j 0)) := fun j hj => atI_nat (by
    rw [List.getElem?_map, List.getElem?_eq_getElem (by omega), List.getD_eq_getElem?_getD, List.getElem?_eq_getElem (by omega)]; rfl)
  refine ⟨_, rfl, _, rfl, rfl, _, _, rfl, _, _, rfl, rfl, small_line (by show 0 ≤ 1000; decide), small_line (by show 0 ≤ 1000; decide), ?_⟩
  refine ⟨_, _, rfl, rfl, _, _, rfl, ⟨by decide, by decide, by decide, by decide⟩, ?_⟩
  refine forI (cInv o ks l ls w h L) (by
    unfold cInv
    exact ⟨[], [], none, none, none, rfl, rfl, by simp [nsum, sm], by rw [i2]; rfl, by rw [i2]; rfl⟩) ?_ ?_
  · rintro j d ρ hd ⟨us, cs, o7, o8, o9, rfl, h1, h2, h3, h4⟩
    have hj : j < 30 := by
      have := (List.getElem?_eq_some_iff.mp hd).1
      simpa using this
    rw [List.getElem?_map, List.getElem?_range (by simpa using hj)] at hd
    simp only [Option.map_some, Option.some.injEq] at hd
    obtain rfl : d = .int ((j : Int) + 1) := by rw [← hd, Int.add_comm]
    obtain ⟨c1, c2, c3⟩ := caps j hj
    have s1 := mx0_sub (L.getD j 0)
    have s2 := mx0_sub (L.getD (j + 1) 0)
    have p1 := mx0_nonneg (L.getD j 0)
    have p2 := mx0_nonneg (-(L.getD (j + 1) 0))
    have p3 := ab_mx (L.getD (j + 1) 0)
    obtain ⟨n1, n2⟩ := nsum' j (by omega)
    obtain ⟨n3, n4⟩ := nsum' (j + 1) (by omega)
    have nS : nsum ls w L (j + 1) = nsum ls w L j + need (cn (wid ls)) w j (L.getD j 0) (L.getD (j + 1) 0) := rfl
    rw [nS] at n3 n4
    have n5 := need0 j hj
    have n6 := (need_mul (own := cn (wid ls)) (u := j) (c := L.getD j 0) (t := L.getD (j + 1) 0) hw.1 (by omega)).1
    refine ⟨_, rfl, _, rfl, _, rfl, _, rfl, _, _, rfl, rfl, _, _, _, rfl, rfl, (by rw [show (j : Int) + 1 - 1 = (j : Int) by omega]; exact latI j (by omega)), _, rfl, _, rfl, _, _, _, rfl, rfl, (by rw [show (j : Int) + 1 = ((j + 1 : Nat) : Int) by omega]; exact latI (j + 1) (by omega)), rfl,
      (j : Int) + 1, _, ks, l, ls, _, _, rfl, ok, hN, (by rw [show (j : Int) + 1 - 1 = (j : Int) by omega]; exact c1), (by rw [show (j : Int) + 1 + 1 = (j : Int) + 2 by omega]; exact c2), c3, fun fs hf1 hf2 => ?_⟩
    have fl : (fs.map letD).length = fs.length := List.length_map ..
    have hneed : ((fs.length : Int) + w - 1) / w = need (cn (wid ls)) w j (L.getD j 0) (L.getD (j + 1) 0) := by unfold need; rw [hf1]
    refine ⟨_, rfl, .inr (.inl ⟨_, rfl, _, rfl, rfl, _, _, rfl, hw.1, by omega, ?_⟩)⟩
    dsimp only [kl_case_by_lifts, startD, List.map_cons, List.map_nil, List.length_cons, List.length_nil, Nat.reduceAdd, Nat.reduceSub, List.replicate_succ, List.replicate_zero, List.cons_append, List.nil_append, List.set_cons_zero, List.set_cons_succ]
    rw [fl, hneed]
    generalize hnd : need (cn (wid ls)) w j (L.getD j 0) (L.getD (j + 1) 0) = nd at n3 n4 n5 n6 nS
    have nd3 : nd ≤ 3 := by omega
    have ndw : 0 ≤ nd * w ∧ nd * w ≤ 9 := ⟨Int.mul_nonneg n5 (by omega), by
      have := Int.mul_le_mul_of_nonneg_right nd3 (show 0 ≤ w by omega)
      omega⟩
    have csl : (cs.length : Int) ≤ 9 := by
      rw [h2]
      have := Int.mul_le_mul_of_nonneg_right (show nsum ls w L j ≤ 3 by omega) (show 0 ≤ w by omega)
      omega
    refine ⟨⟨_, rfl⟩, _, rfl, small_line (by show 1 ≤ 1000; decide), _, rfl, _, _, rfl, rfl, by omega, by omega, small_line (by show 1 * nd.toNat ≤ 1000; omega), _, rfl, _, rfl, small_line (by rw [rep1, List.length_map, List.length_replicate]; omega), ?_⟩
    refine ⟨⟨_, rfl⟩, _, rfl, small_line (by show 1 ≤ 1000; decide), _, rfl, _, rfl, _, _, rfl, rfl, mokR (by omega) (by omega), _, rfl, .inr (.inl ⟨_, rfl, _, _, rfl, rfl, _, _, rfl, rfl, ?_, ?_, ?_, _, _, rfl, rfl, ?_, _, rfl, _, rfl, ?_, ?_⟩)⟩
    · rw [fl]; omega
    · rw [fl]; omega
    · refine small_line ?_
      rw [fl]
      show 1 * (nd * w - (fs.length : Int)).toNat ≤ 1000
      omega
    · refine small_line ?_
      rw [rep1, fl, List.length_replicate]; omega
    · refine small_line ?_
      rw [rep1, List.length_append, fl, List.length_replicate, List.length_map]; omega
    · rw [rep1, rep1, fl]
      unfold cInv
      refine ⟨us ++ List.replicate nd.toNat ((j : Int) + 1), cs ++ (fs.map some ++ List.replicate (nd * w - (fs.length : Int)).toNat none), some (.int ((j : Int) + 1)), some (.lst (fs.map letD)), some (.int nd), ?_, ?_, ?_, ?_, ?_⟩
      · rw [List.map_append, List.map_replicate, List.map_append, List.map_append, List.map_replicate, ← cells_some]; rfl
      · rw [List.length_append, List.length_replicate, Int.natCast_add, h1, nS]; omega
      · rw [List.length_append, List.length_append, List.length_map, List.length_replicate, Int.natCast_add, h2, nS, Int.add_mul]
        omega
      · rw [nzc_app, nzc_app, nzc_some, nzc_none, h3, hf2, sm]; omega
      · rw [fcn_app, fcn_app, fcn_some, fcn_none, h4, hf1, sm]; omega
  · rintro ρ ⟨us, cs, o7, o8, o9, rfl, h1, h2, h3, h4⟩
    have hlen : ((List.range ((30 : Int) + 1 - 1).toNat).map fun (k : Nat) => D.int (1 + (k : Int))).length = 30 := by rw [List.length_map, List.length_range]; rfl
    rw [hlen] at h1 h2 h3 h4
    rw [show nsum ls w L 30 = r from i5.symm] at h1 h2
    rw [← i4, i3, mx0_zero] at h3
    rw [i3] at h4
    have r0 : 0 ≤ r := by omega
    have rw1 : r * w ≤ w * h := by rw [Int.mul_comm w h]; exact Int.mul_le_mul_of_nonneg_right i6 (by omega)
    have cl9 : (cs.length : Int) ≤ w * h := by rw [h2]; exact rw1
    have fc : fcn cs ≤ ls.length := by
      have := count_rows_le (wid ls) 30
      have e : (wid ls).length = ls.length := by unfold wid; simp
      rw [e] at this
      have e2 : sm (fun i => cn (wid ls) ((i : Int) + 1)) 30 = sm (fun i => (((wid ls).count ((i : Int) + 1) : Nat) : Int)) 30 := rfl
      omega
    have ul : (us.map D.int).length = us.length := List.length_map ..
    have cll : (cs.map cellD).length = cs.length := List.length_map ..
    refine ⟨⟨_, rfl⟩, small_line (by show 1 ≤ 1000; decide), _, rfl, _, rfl, .inr (.inl ⟨_, rfl, _, _, rfl, rfl, _, _, rfl, rfl, by rw [ul]; omega, by rw [ul]; omega, small_line (by rw [ul]; show 1 * (h - (us.length : Int)).toNat ≤ 1000; omega), ?_, _, rfl, _, rfl, small_line (by rw [rep1, ul, List.length_replicate]; omega), ?_⟩)⟩
    · rw [rep1]
      show noLs (List.replicate _ (D.int 1)) = true
      rw [← List.map_replicate]; exact noLs_map (fun _ => rfl) _
    refine ⟨⟨_, rfl⟩, small_line (by show 1 ≤ 1000; decide), _, rfl, _, rfl, _, _, rfl, rfl, mokR (by omega) (by omega), _, rfl, .inr (.inl ⟨_, rfl, _, _, rfl, rfl, _, _, rfl, rfl, by rw [cll]; omega, by rw [cll]; omega, small_line (by rw [cll]; show 1 * (w * h - (cs.length : Int)).toNat ≤ 1000; omega), ?_, _, rfl, _, rfl, small_line (by rw [rep1, cll, List.length_replicate]; omega), ?_⟩)⟩
    · rw [rep1]
      show noLs (List.replicate _ D.non) = true
      rw [show D.non = cellD none from rfl, ← List.map_replicate]; exact noLs_map noL_cell _
    have hcat : cs.map cellD ++ List.replicate (w * h - (cs.length : Int)).toNat D.non = (cs ++ List.replicate (w * h - (cs.length : Int)).toNat none).map cellD := by rw [List.map_append, List.map_replicate]; rfl
    rw [rep1, rep1, cll, ul, hcat]
    generalize hcs : cs ++ List.replicate (w * h - (cs.length : Int)).toNat none = cs1
    have c1l : (cs1.length : Int) = w * h := by rw [← hcs, List.length_append, List.length_replicate]; omega
    have c1z : nzc cs1 = k := by rw [← hcs, nzc_app, nzc_none, h3]; omega
    have c1f : fcn cs1 < cs1.length := by rw [← hcs, fcn_app, fcn_none, hcs]; omega
    obtain ⟨j, hj1, hj2⟩ := none_in c1f
    have hjl : j < cs1.length := (List.getElem?_eq_some_iff.mp hj1).1
    refine ⟨⟨_, rfl⟩, small_line (by show 2 ≤ 1000; decide), _, rfl, _, rfl, rfl, ?_, j, .non, ?_, rfl, fun i x hi hx => ?_, _, _, _, rfl, rfl, (by rw [List.length_map]; unfold ixN; rw [if_pos (by omega), if_pos (by omega), Int.toNat_natCast]), ?_⟩
    · rw [List.all_map, List.all_eq_true]
      intro x _
      cases x with
      | none => rfl
      | some p => rfl
    · rw [List.getElem?_map, hj1]; rfl
    · rw [List.getElem?_map] at hx
      obtain ⟨y, hy, rfl⟩ := Option.map_eq_some_iff.mp hx
      have := hj2 i y hi hy
      cases y with
      | none => exact absurd rfl this
      | some p => rfl
    have hset : (cs1.map cellD).set j (.tup [.str " ", .int 0]) = (cs1.set j (some ((" " : Str), 0))).map cellD := by rw [List.map_set]; rfl
    dsimp only [kl_case_by_lifts, startD, List.map_cons, List.map_nil, List.length_cons, List.length_nil, Nat.reduceAdd, Nat.reduceSub, List.replicate_succ, List.replicate_zero, List.cons_append, List.nil_append, List.set_cons_zero, List.set_cons_succ]
    rw [hset]
    have c2l : ((cs1.set j (some ((" " : Str), 0))).length : Int) = w * h := by rw [List.length_set]; exact c1l
    have c2z : nzc (cs1.set j (some ((" " : Str), 0))) = k := by rw [nzc_set hj1]; exact c1z
    generalize cs1.set j (some ((" " : Str), 0)) = cs2 at c2l c2z ⊢
    obtain ⟨W, hW⟩ : ∃ W : Nat, w = W := ⟨w.toNat, by omega⟩
    obtain ⟨Hh, hH⟩ : ∃ Hh : Nat, h = Hh := ⟨h.toNat, by omega⟩
    have c2n : cs2.length = W * Hh := by rw [hW, hH] at c2l; exact_mod_cast c2l
    refine ⟨_, rfl, _, rfl, _, rfl, by omega, by omega, ?_⟩
    refine compY (fun i acc ρ => ∃ o0, acc = (List.range i).map (fun n => D.tup (((cs2.drop (W * n)).take W).map cellD)) ∧ ρ = [o0, some (.lst (cs2.map cellD)), some (.int w)]) ⟨none, rfl, rfl⟩ ?_ ?_
    · rintro i d acc ρ hd ⟨o0, rfl, rfl⟩
      have hi : i < h.toNat := by
        have := (List.getElem?_eq_some_iff.mp hd).1
        simpa using this
      rw [List.getElem?_map, List.getElem?_range hi] at hd
      simp only [Option.map_some, Option.some.injEq] at hd
      subst hd
      have hcut : cutD (cs2.map cellD) (some (w * (i : Int))) (some (w * (i : Int) + w)) = ((cs2.drop (W * i)).take W).map cellD := by
        rw [hW]
        refine cut_cells ?_
        rw [c2n]
        have : W * (i + 1) ≤ W * Hh := Nat.mul_le_mul_left W (by omega)
        rwa [Nat.mul_add, Nat.mul_one] at this
      refine ⟨_, rfl, _, rfl, _, rfl, _, _, rfl, rfl, mokL (by omega) (by omega), _, rfl, _, rfl, _, rfl, _, _, rfl, rfl, mokL (by omega) (by omega), _, rfl, _, _, rfl, rfl, _, rfl, _, rfl, _, .inl rfl, ?_, _, ?_, rfl⟩
      · rw [List.length_map, List.length_range]; exact small1000 (by omega)
      · rw [hcut, List.range_succ, List.map_append]; rfl
    · rintro acc ρ ⟨o0, rfl, rfl⟩
      rw [List.length_map, List.length_range]
      have hgrid : D.tup ((List.range h.toNat).map fun n => D.tup (((cs2.drop (W * n)).take W).map cellD)) = gridT (chunks cs2 W h.toNat) := by unfold gridT chunks; rw [List.map_map]; rfl
      have hus : us.map D.int ++ (List.replicate (h - (us.length : Int)).toNat (D.int 1)) = (us ++ List.replicate (h - (us.length : Int)).toNat 1).map D.int := by rw [List.map_append, List.map_replicate]
      refine ⟨_, .inl rfl, small_line (by show 2 ≤ 1000; decide), ?_⟩
      rw [hgrid, hus]
      have hWn : W = w.toNat := by omega
      have hHn : Hh = h.toNat := by omega
      have c2m : cs2.length = W * h.toNat := by rw [← hHn]; exact c2n
      refine ⟨noL_case _ _, hq _ _ ?_ ?_⟩
      · rw [← hWn]; exact chunks_case (by omega) (by omega) c2m
      · rw [cams_case c2m]; exact c2z
theorem ok_case_by_lifts (T : Txt K mg t) : FnOk P w K mg base CX0 2 t.f_case_by_lifts t.d_case_by_lifts ["size", "names", "lifts"] (spP K 3 .cl sd_case_by_lifts) := by
  have G_cells_with_units := ok_cells_with_units (P := P) (w := w) (base := base) T
  have G_rows_for := ok_rows_for (P := P) (w := w) (base := base) T
  exact fnP (κ := κ_case_by_lifts) (T := B_case_by_lifts) T.F_case_by_lifts sc_case_by_lifts (noIo_of rfl) (cl_of rfl) (.inl rfl)
    (fun cdv A outer s H E hr =>
      (dscons (fasg (by rfl) (by rfl) (by rfl) (.inl rfl) (dv 0) (dgtup (by rfl) (by rfl) rfl (dgcons (by rfl) (dgname (i := 3) (.inl rfl) sc_case_by_lifts.nd rfl (Or.inr rfl) (.inl ⟨rfl, rfl⟩)) (dgcons (by rfl) (dgname (i := 4) (.inl rfl) sc_case_by_lifts.nd rfl (Or.inl rfl) (.inl ⟨rfl, rfl⟩)) dgnil))))
      (dscons (dsetO (i := 5) (by rfl) (.inl rfl) sc_case_by_lifts.nd rfl (Or.inl rfl) rfl (flstC (fanil (pu := true))))
      (dscons (dsetO (i := 6) (by rfl) (.inl rfl) sc_case_by_lifts.nd rfl (Or.inr rfl) rfl (flstC (fanil (pu := true))))
      (dscons (dfor (by intro _; rfl) PassesOwn.never rfl (diR2 rfl rfl (by rfl) T.n_range (facC rfl dint (facC rfl (fopC (by decide) do_add (dgint (by decide) (by rfl) T.c_GREATEST_UNITS) dint) fanil))) (dgname (i := 7) (.inl rfl) sc_case_by_lifts.nd rfl (Or.inl rfl) (.inl ⟨rfl, rfl⟩)) (dscons (dset (i := 8) (by rfl) (.inl rfl) sc_case_by_lifts.nd rfl (Or.inl rfl) rfl (DE.clean (fclC (by rfl) (by decide) (by decide) G_cells_with_units rfl rfl (hr.mono (by decide)) (by rfl) T.m_cells_with_units T.k_cells_with_units T.b_cells_with_units pass0 (facC rfl (dv 7) (facC rfl (dv 1) (facC rfl (fixC (fun _ _ => rfl) dix_t (dv 2) (fopC (by decide) do_sub (dv 7) dint)) (facC rfl (fixC (fun _ _ => rfl) dix_t (dv 2) (dv 7)) fanil)))))))
      (dscons (dset (i := 9) (by rfl) (.inl rfl) sc_case_by_lifts.nd rfl (Or.inl rfl) rfl (fclC (by rfl) (by decide) (by decide) G_rows_for rfl rfl (hr.mono (by decide)) (by rfl) T.m_rows_for T.k_rows_for T.b_rows_for pass0 (facC rfl (fcbC (by rfl) (by decide) (by decide) (by decide) dc_len (by rfl) T.n_len bt_len (facC rfl (dv 8) fanil)) (facC rfl (dv 3) fanil))))
      (dscons (dextend (i := 5) (by rfl) rfl (by rfl) (by rfl) rfl (by first | exact Or.inl rfl | exact Or.inr (Or.inl rfl) | exact Or.inr (Or.inr rfl)) (by decide) (by decide) rfl (DE.clean (fopC (by decide) do_rep (DE.clean (flstC (facC rfl (dv 7) fanil))) (dv 9))))
      (dsone (dextend (i := 6) (by rfl) rfl (by rfl) (by rfl) rfl (by first | exact Or.inl rfl | exact Or.inr (Or.inl rfl) | exact Or.inr (Or.inr rfl)) (by decide) (by decide) rfl (DE.clean (fopC (by decide) do_cat (dv 8) (DE.clean (fopC (by decide) do_rep (DE.clean (flstC (facC rfl dnon fanil))) (fopC (by decide) do_sub (fopC (by decide) do_mul (dv 9) (dv 3)) (fcbC (by rfl) (by decide) (by decide) (by decide) dc_len (by rfl) T.n_len bt_len (facC rfl (dv 8) fanil)))))))))))))
      (dscons (dextend (i := 5) (by rfl) rfl (by rfl) (by rfl) rfl (by first | exact Or.inl rfl | exact Or.inr (Or.inl rfl) | exact Or.inr (Or.inr rfl)) (by decide) (by decide) rfl (DE.clean (fopLO do_rep (DE.loose (DE.clean (flstC (facC rfl dint fanil)))) (fopL (by decide) do_sub (DE.loose (dv 4)) (fcbL (by rfl) (by decide) (by decide) (by decide) dc_len (by rfl) T.n_len bt_len (facL rfl (dvl 5) fanilL))))))
      (dscons (dextend (i := 6) (by rfl) rfl (by rfl) (by rfl) rfl (by first | exact Or.inl rfl | exact Or.inr (Or.inl rfl) | exact Or.inr (Or.inr rfl)) (by decide) (by decide) rfl (DE.clean (fopLO do_rep (DE.loose (DE.clean (flstC (facC rfl dnon fanil)))) (fopL (by decide) do_sub (DE.loose (fopC (by decide) do_mul (dv 3) (dv 4))) (fcbL (by rfl) (by decide) (by decide) (by decide) dc_len (by rfl) T.n_len bt_len (facL rfl (dvl 6) fanilL))))))
      (dscons (dstore (i := 6) (by rfl) (by rfl) (by rfl) (by intro _; rfl) rfl (by first | exact Or.inl rfl | exact Or.inr (Or.inl rfl) | exact Or.inr (Or.inr rfl)) (by decide) (by decide) rfl (ftupC (facC rfl (dgstr (by decide) (by rfl) T.c_BLANK) (facC rfl dint fanil))) (dindex (room12 hr) rfl (by rfl) (by rfl) vlo (dvl 6) dnon))
      (dsone (dret (DE.nol (ftupL (facL rfl (DE.loose (dtupO 5 rfl rfl (by first | exact Or.inl rfl | exact Or.inr (Or.inl rfl) | exact Or.inr (Or.inr rfl)) (by decide) (by decide) (by rfl) T.n_tuple)) (facL rfl (fctL (by rfl) (by decide) (by decide) (by decide) dc_tuple (by rfl) T.n_tuple bt_tuple (facL rfl (dcomp (lo := true) (by intro _; rfl) rfl (fun h => by cases h) (fun _ => rfl) (diR1 rfl (by rfl) T.n_range (facC rfl (dv 4) fanil)) (compSc_of (N := ["size", "names", "lifts", "wide", "high", "rows", "cells", "units", "filled", "many"]) (sc := defScope s_case_by_lifts) (Nc := ["row", "cells", "wide"]) (js := [none, some 6, some 3]) rfl rfl (by decide +kernel)) (fun pins_ fp_ H_ s_ C_ => ⟨(dgname (i := 0) (.inr rfl) (show (["row", "cells", "wide"] : List Str).Nodup by decide +kernel) rfl (Or.inl rfl) (.inl ⟨rfl, rfl⟩)), dif0, (fctC (by rfl) (by decide) (by decide) (by decide) dc_tuple (by rfl) T.n_tuple bt_tuple (facC rfl (DE.clean (fslC (by decide) dsl_l (dv 1) (dosome (fopC (by decide) do_mul (dv 2) (dv 0))) (dosome (fopC (by decide) do_add (fopC (by decide) do_mul (dv 2) (dv 0)) (dv 2))))) fanil))⟩)) fanilL)) fanilL)))))))))))))) body_case_by_lifts
end
section
variable {P : Program} {w : World} {K : PySem.W.Frag} {mg : Str → Option Value} {base : Heap} {t : Adr}
theorem body_lay_out : BodyPx B_lay_out 5 2 sd_lay_out := by
  rintro ds q x hl ⟨ls, w, h, rfl, ok, hs, hq, hx⟩
  have hw : 0 < w ∧ w ≤ 3 := by obtain ⟨a, b⟩ := hs; omega
  have ll : (ls.map letD).length = ls.length := List.length_map ..
  refine ⟨_, rfl, _, rfl, rfl, _, _, rfl, _, _, rfl, rfl, ?_⟩
  refine ⟨_, rfl, .inr (.inl ⟨_, rfl, _, rfl, _, rfl, _, _, rfl, rfl, mokL (by omega) (by omega), _, _, rfl, rfl, _, rfl, ite2 (fun hge => ?_) (fun hlt => ?_)⟩)⟩
  · refine hx (.inl ?_)
    have := of_decide_eq_true hge
    rw [ll] at this
    exact this
  have hlt : (ls.length : Int) < w * h := by
    have : ¬ ((ls.map letD).length : Int) ≥ w * h := fun z => hlt (decide_eq_true z)
    rw [ll] at this
    omega
  refine ⟨_, rfl, rfl, ls, rfl, ok, fun ks l hN hkl => ⟨_, _, rfl, fun o => ?_⟩⟩
  refine ⟨_, rfl, _, _, _, rfl, ?_⟩
  refine compY (fun j acc ρ => ∃ o0, acc = ((ks.take j).map fun _ => true).map D.bl ∧ ρ = [o0]) ⟨none, rfl, rfl⟩ ?_ ?_
  · rintro j d acc ρ hd ⟨o0, rfl, rfl⟩
    rw [List.getElem?_map] at hd
    obtain ⟨k, hk, rfl⟩ := Option.map_eq_some_iff.mp hd
    obtain ⟨p, hp, rfl⟩ := hN.2 k (List.mem_of_getElem? hk)
    have hb := ok.wid p hp
    refine ⟨_, rfl, _, _, rfl, rfl, _, rfl, ite2 (fun _ => ?_) (fun z => absurd (decide_eq_true hb.1) z)⟩
    refine ⟨_, _, rfl, rfl, _, _, rfl, rfl, ?_, _, ?_, rfl⟩
    · rw [List.length_map, List.length_map]
      have := List.length_take_le' j ks
      exact small1000 (by omega)
    · rw [List.take_succ, hk, List.map_append, List.map_append]
      have : decide (p.2 ≤ (30 : Int) + 1) = true := decide_eq_true (by omega)
      dsimp only
      rw [this]; rfl
  · rintro acc ρ ⟨o0, rfl, rfl⟩
    rw [List.length_map, List.take_length]
    refine ⟨_, rfl, _, rfl, ?_⟩
    have : (ks.map fun _ => true).all id = true := by rw [List.all_map]; exact List.all_eq_true.mpr fun _ _ => rfl
    rw [this]
    refine iteF ?_
    exact ⟨_, rfl, _, rfl, _, rfl, _, rfl, rfl, o, ks, l, ls, w, h, rfl, ok, hN, hs, fun r k L hp hmin => ⟨o, ks, l, ls, w, h, r, k, L, rfl, ok, hN, hs, hlt, hp, fun us rows hc hk => hq us rows hc hlt ⟨⟨r, L, hk ▸ hp⟩, hk ▸ hmin⟩⟩, fun hno => hx (.inr hno)⟩
theorem ok_lay_out (T : Txt K mg t) : FnOk P w K mg base (CX1 P w) 4 t.f_lay_out t.d_lay_out ["size", "letters"] (spPx K 2 .cl [t.x_NoLayout] sd_lay_out) := by
  have G_names_by_width := ok_names_by_width (P := P) (w := w) (base := base) T
  have G_case_by_lifts := ok_case_by_lifts (P := P) (w := w) (base := base) T
  have G_best_lifts := ok_best_lifts (P := P) (w := w) (base := base) T
  exact fnPx (κ := κ_lay_out) (T := B_lay_out) T.F_lay_out sc_lay_out (cl_of rfl)
    (fun cdv A outer s H E xs hX hr =>
      (dsconsx (dsx (fasg (by rfl) (by rfl) (by rfl) (.inl rfl) (dv 0) (dgtup (by rfl) (by rfl) rfl (dgcons (by rfl) (dgname (i := 2) (.inl rfl) sc_lay_out.nd rfl (Or.inl rfl) (.inl ⟨rfl, rfl⟩)) (dgcons (by rfl) (dgname (i := 3) (.inl rfl) sc_lay_out.nd rfl (Or.inl rfl) (.inl ⟨rfl, rfl⟩)) dgnil)))))
      (dsconsx (difX (ftcmpC (nomark _) do_ge (fcbC (by rfl) (by decide) (by decide) (by decide) dc_len (by rfl) T.n_len bt_len (facC rfl (dv 1) fanil)) (fopC (by decide) do_mul (dv 2) (dv 3))) (dsonex (draise0 (xs := xs) (i := 0) T.Y_NoLayout rfl (by rfl) T.mx_NoLayout (by decide) (by rfl) (fun H_ sm_ hz_ => raises_of (hX 0 _ H_ rfl sm_ hz_)) dstr)) dsnilx)
      (dsconsx (dsx (dset (i := 4) (by rfl) (.inl rfl) sc_lay_out.nd rfl (Or.inl rfl) rfl (DE.frzK (fclC (by rfl) (by decide) (by decide) G_names_by_width rfl rfl (hr.mono (by decide)) (by rfl) T.m_names_by_width T.k_names_by_width T.b_names_by_width pass0 (facC rfl (dv 1) fanil)))))
      (dsconsx (difX (dtnot (dtval (by intro _; rfl) (fcbC (by rfl) (by decide) (by decide) (by decide) (dc_all rfl) (by rfl) T.n_all bt_all (facC rfl (DE.clean (dcomp (lo := false) (by intro _; rfl) rfl (fun _ => cap_of rfl) (fun h => by cases h) (diFK (dv 4)) (compSc_of (N := ["size", "letters", "wide", "high", "names"]) (sc := defScope s_lay_out) (Nc := ["width"]) (js := [none]) rfl rfl (by decide +kernel)) (fun pins_ fp_ H_ s_ C_ => ⟨(dgname (i := 0) (.inr rfl) (show (["width"] : List Str).Nodup by decide +kernel) rfl (Or.inl rfl) (.inl ⟨rfl, rfl⟩)), dif0, (fchain (by with_unfolding_all rfl) do_le do_le dint (dv 0) (fopC (by decide) do_add (dgint (by decide) (by rfl) T.c_GREATEST_UNITS) dint))⟩))) fanil)))) (dsonex (draise0 (xs := xs) (i := 0) T.Y_NoLayout rfl (by rfl) T.mx_NoLayout (by decide) (by rfl) (fun H_ sm_ hz_ => raises_of (hX 0 _ H_ rfl sm_ hz_)) dstr)) dsnilx)
      (dsonex (dretNx (xs := xs) G_best_lifts (hr.mono (by decide)) (by rfl) T.m_best_lifts T.k_best_lifts T.b_best_lifts (passx hX) (fun i_ c_ H_ h1_ h2_ h3_ => ⟨i_, c_, h1_, rfl, h3_, h2_⟩) (by decide) (by rfl) rfl (facC rfl (dv 0) (facC rfl (dv 4) fanil)) G_case_by_lifts (hr.mono (by decide)) (by rfl) T.m_case_by_lifts T.k_case_by_lifts T.b_case_by_lifts pass0 (by decide) rfl rfl (dv 0) (dv 4)))))))) body_lay_out
theorem body_d_law_said : BodyP B_d_law_said 3 2 .cl sd_d_law_said := by
  rintro ds q hl ⟨ls, w, h, rfl, ok, hs, hq, hx⟩
  exact ⟨_, rfl, _, rfl, rfl, ls, w, h, rfl, ok, hs, fun us rows hc hlt hf => ⟨_, rfl, hq us rows hc hlt hf⟩, fun hno => ⟨_, rfl, hx hno⟩⟩
theorem ok_d_law_said (T : Txt K mg t) : FnOk P w K mg base CX0 5 t.f_d_law_said t.d_d_law_said ["_law_size", "_law_letters"] (spP K 2 .cl sd_d_law_said) := by
  have G_lay_out := ok_lay_out (P := P) (w := w) (base := base) T
  exact fnP (κ := κ_d_law_said) (T := B_d_law_said) T.F_d_law_said sc_d_law_said (noIo_of rfl) (cl_of rfl) (.inl rfl)
    (fun cdv A outer s H E hr =>
      (dscons (dset (i := 2) (by rfl) (.inl rfl) sc_d_law_said.nd rfl (Or.inl rfl) rfl dnon)
      (dscons (ftryA (i := 2) sc_d_law_said.nd rfl (Or.inl rfl) (.inl rfl) rfl (by rfl) (by decide) G_lay_out rfl rfl (hr.mono (by decide)) (by rfl) T.m_lay_out T.k_lay_out T.b_lay_out ⟨rfl, rfl⟩ (by rfl) (by rfl) (fun ok_ i_ C_ hc_ => match i_, hc_ with | 0, hc_ => (Option.some.inj hc_) ▸ catches_name ok_ (by rfl) T.mx_NoLayout (by decide) T.ca_0_0 | (n_ + 1), hc_ => nomatch hc_) (fun W_ => (facC rfl (dv 0) (facC rfl (dv 1) fanil))))
      (dsone (dret (dv 2)))))) body_d_law_said
end
section
variable {P : Program} {w : World} {K : PySem.W.Frag} {mg : Str → Option Value} {base : Heap} {t : Adr}
def optD : Option Int → D
  | none => .non
  | some c => .int c
theorem okE_ints (ns : List Int) : okE 12 (intsD ns) = true := by
  unfold intsD
  simp only [okE, List.all_map, List.all_eq_true]
  intro x _; rfl
theorem ints_nil (ns : List Int) : pyEq (intsD ns) (.lst []) = true ↔ ns = [] := by
  unfold intsD
  cases ns with
  | nil => simp [pyEq, pyEqs]
  | cons a r => simp [pyEq, pyEqs]
theorem cut_set {rm : List Int} {i : Nat} {m x : Int} (h : rm[i]? = some m) : (cutD (rm.map D.int) none (some (i : Int)) ++ [D.int x]) ++ cutD (rm.map D.int) (some ((i : Int) + 1)) none = (rm.set i x).map D.int := by
  have hi : i < rm.length := (List.getElem?_eq_some_iff.mp h).1
  unfold cutD
  rw [HT.sIx_none, HT.sIx_none, show (i : Int) + 1 = ((i + 1 : Nat) : Int) by omega, HT.sIx_nat, HT.sIx_nat, List.length_map, Nat.min_eq_left (by omega), Nat.min_eq_left (by omega), List.drop_zero, Nat.sub_zero, List.set_eq_take_append_cons_drop, if_pos hi, List.map_append, List.map_cons, List.map_take, List.map_drop]
  rw [List.take_of_length_le (l := List.drop (i + 1) (List.map D.int rm)) (by rw [List.length_drop, List.length_map]; omega)]
  simp
theorem cut_tail (w : Int) (ws : List Int) : cutD ((w :: ws).map D.int) (some 1) none = ws.map D.int := by
  unfold cutD
  rw [HT.sIx_none, show (1 : Int) = ((1 : Nat) : Int) from rfl, HT.sIx_nat, List.length_map, List.length_cons, Nat.min_eq_left (by omega), List.map_cons, List.drop_succ_cons, List.drop_zero, Nat.add_sub_cancel]
  exact List.take_of_length_le (by rw [List.length_map]; omega)
theorem at_i {ns : List Int} {i : Nat} {n : Int} (h : ns[i]? = some n) : atI (ns.map D.int) (i : Int) = some (.int n) := atI_nat (by rw [List.getElem?_map, h]; rfl)
def AsgTo (w0 : Int) (ws us rm : List Int) (j : Nat) (c : Int) : Prop := ∃ (r : Nat) (u m c' : Int), r < j ∧ us[r]? = some u ∧ rm[r]? = some m ∧ 0 < m ∧ ab (w0 - u) < 2 ∧ Asg ws us (rm.set r (m - 1)) c' ∧ c = ab (w0 - u) + c'
theorem asg_to {w0 : Int} {ws us rm : List Int} {c : Int} : Asg (w0 :: ws) us rm c ↔ AsgTo w0 ws us rm us.length c := by
  constructor
  · intro h
    cases h with
    | cons r hu hm pos near h => exact ⟨r, _, _, _, (List.getElem?_eq_some_iff.mp hu).1, hu, hm, pos, near, h, rfl⟩
  · rintro ⟨r, u, m, c', _, hu, hm, pos, near, h, rfl⟩
    exact .cons r hu hm pos near h
theorem asg_step {w0 : Int} {ws us rm : List Int} {j : Nat} {u m c : Int} (hu : us[j]? = some u) (hm : rm[j]? = some m) : AsgTo w0 ws us rm (j + 1) c ↔ AsgTo w0 ws us rm j c ∨ (0 < m ∧ ab (w0 - u) < 2 ∧ ∃ c', Asg ws us (rm.set j (m - 1)) c' ∧ c = ab (w0 - u) + c') := by
  constructor
  · rintro ⟨r, u', m', c', hr, h1, h2, h3, h4, h5, h6⟩
    by_cases e : r = j
    · subst e
      rw [hu] at h1; cases h1
      rw [hm] at h2; cases h2
      exact .inr ⟨h3, h4, c', h5, h6⟩
    · exact .inl ⟨r, u', m', c', by omega, h1, h2, h3, h4, h5, h6⟩
  · rintro (⟨r, u', m', c', hr, h⟩ | ⟨h3, h4, c', h5, h6⟩)
    · exact ⟨r, u', m', c', by omega, h⟩
    · exact ⟨j, u, m, c', by omega, hu, hm, h3, h4, h5, h6⟩
def LeastO (S : Int → Prop) (b : Option Int) : Prop := (∀ c, b = some c → S c) ∧ ∀ c, S c → ∃ x, b = some x ∧ x ≤ c
theorem body_d_law_least (n_ : Nat) : BodyP (B_d_law_least n_) 8 3 .cl (sd_d_law_least (n_ + 1)) := by
  rintro ds q hl ⟨ws, us, rm, rfl, hn, hu3, hrl, hn10, hq1, hq2⟩
  refine ⟨_, rfl, small_line (by show 0 ≤ 1000; decide), okE_ints ws, rfl, _, rfl, ite2 (fun he => ?_) (fun he => ?_)⟩
  · have he := (ints_nil ws).mp he
    subst he
    exact hq1 0 .nil fun c' h => by cases h; exact Int.le_refl _
  have he : ws ≠ [] := fun z => he ((ints_nil ws).mpr z)
  obtain ⟨w0, ws, rfl⟩ := List.exists_cons_of_ne_nil he
  obtain ⟨n, rfl⟩ : ∃ n, n_ = n + 1 := ⟨n_ - 1, by rw [List.length_cons] at hn; omega⟩
  have ul : (us.map D.int).length = us.length := List.length_map ..
  refine ⟨_, rfl, .inr (.inl ⟨_, rfl, _, rfl, by rw [ul]; omega, by rw [ul]; omega, ?_⟩)⟩
  refine forI (fun j ρ => ∃ (b : Option Int) (o4 o5 o6 o7 : Option D), ρ = [some (intsD (w0 :: ws)), some (intsD us), some (intsD rm), some (optD b), o4, o5, o6, o7] ∧ LeastO (AsgTo w0 ws us rm j) b) ⟨none, none, none, none, none, rfl, ⟨fun c h => by simp at h, fun c ⟨r, _, _, _, hr, _⟩ => by omega⟩⟩ ?_ ?_
  · rintro j d ρ hd ⟨b, o4, o5, o6, o7, rfl, hb1, hb2⟩
    have hj : j < us.length := by
      have := (List.getElem?_eq_some_iff.mp hd).1
      simpa using this
    rw [List.getElem?_map, List.getElem?_range (by rw [ul]; simpa using hj)] at hd
    simp only [Option.map_some, Option.some.injEq] at hd
    subst hd
    obtain ⟨u, hu⟩ : ∃ u, us[j]? = some u := ⟨_, List.getElem?_eq_getElem hj⟩
    obtain ⟨m, hm⟩ : ∃ m, rm[j]? = some m := ⟨_, List.getElem?_eq_getElem (by omega)⟩
    have stay : (∀ c, ¬ (0 < m ∧ ab (w0 - u) < 2 ∧ ∃ c', Asg ws us (rm.set j (m - 1)) c' ∧ c = ab (w0 - u) + c')) → LeastO (AsgTo w0 ws us rm (j + 1)) b := fun h =>
      ⟨fun c hc => (asg_step hu hm).mpr (.inl (hb1 c hc)), fun c hc => hb2 c (((asg_step hu hm).mp hc).resolve_right (h c))⟩
    refine ⟨_, rfl, _, _, _, rfl, rfl, at0, _, rfl, _, rfl, _, _, _, rfl, rfl, at_i hu, _, _, rfl, rfl, _, rfl, ?_⟩
    have hab : (if w0 - u < 0 then -(w0 - u) else w0 - u) = ab (w0 - u) := rfl
    dsimp only [kl_d_law_least, startD, List.map_cons, List.map_nil, List.length_cons, List.length_nil, Nat.reduceAdd, Nat.reduceSub, List.replicate_succ, List.replicate_zero, List.cons_append, List.nil_append, List.set_cons_zero, List.set_cons_succ]
    rw [hab]
    refine ⟨_, rfl, _, rfl, _, _, _, rfl, rfl, at_i hm, _, _, rfl, rfl, _, rfl, ite2 (fun hm0 => ⟨_, rfl, _, _, rfl, rfl, _, rfl, ite2 (fun hc2 => ?_) (fun hc2 => ?_)⟩) (fun hm0 => iteF ?_)⟩
    · have hm0 : 0 < m := by have := of_decide_eq_true hm0; omega
      have hc2 : ab (w0 - u) < 2 := of_decide_eq_true hc2
      have c1 : (cutD (rm.map D.int) none (some (j : Int))).length ≤ rm.length := by unfold cutD; rw [List.length_take, List.length_drop, List.length_map]; omega
      have c2 : (cutD (rm.map D.int) (some ((j : Int) + 1)) none).length ≤ rm.length := by unfold cutD; rw [List.length_take, List.length_drop, List.length_map]; omega
      refine ⟨_, rfl, _, rfl, _, rfl, _, rfl, _, rfl, _, rfl, _, _, _, rfl, rfl, at_i hm, _, _, rfl, rfl, small_line (by show 1 ≤ 1000; decide), _, _, rfl, rfl, small_line (by show _ + 1 ≤ 1000; omega), _, rfl, _, rfl, _, _, rfl, rfl, _, rfl, _, rfl, _, _, rfl, rfl, small_line (by rw [List.length_append]; show _ + 1 + _ ≤ 1000; omega), ?_⟩
      rw [cut_set hm]
      refine ⟨_, rfl, _, rfl, _, rfl, ?_⟩
      rw [cut_tail]
      have fin : ∀ (t : Option Int) (b' : Option Int), LeastO (Asg ws us (rm.set j (m - 1))) t → b' = (match t with | none => b | some c => match b with | none => some (ab (w0 - u) + c) | some x => if ab (w0 - u) + c < x then some (ab (w0 - u) + c) else some x) → LeastO (AsgTo w0 ws us rm (j + 1)) b' := by
        rintro t b' ⟨t1, t2⟩ rfl
        cases t with
        | none => exact stay fun c ⟨_, _, c', h, _⟩ => by obtain ⟨x, hx, _⟩ := t2 c' h; cases hx
        | some c =>
          have hc := t1 c rfl
          have new : AsgTo w0 ws us rm (j + 1) (ab (w0 - u) + c) := (asg_step hu hm).mpr (.inr ⟨hm0, hc2, c, hc, rfl⟩)
          have low : ∀ z, (0 < m ∧ ab (w0 - u) < 2 ∧ ∃ c', Asg ws us (rm.set j (m - 1)) c' ∧ z = ab (w0 - u) + c') → ab (w0 - u) + c ≤ z := fun z ⟨_, _, c', h, e⟩ => by
            obtain ⟨x, hx, hle⟩ := t2 c' h
            cases hx; omega
          cases b with
          | none =>
            refine ⟨fun z hz => by cases hz; exact new, fun z hz => ⟨_, rfl, ?_⟩⟩
            rcases (asg_step hu hm).mp hz with h | h
            · obtain ⟨x, hx, _⟩ := hb2 z h; cases hx
            · exact low z h
          | some x =>
            show LeastO _ (if ab (w0 - u) + c < x then some (ab (w0 - u) + c) else some x)
            split
            · refine ⟨fun z hz => by cases hz; exact new, fun z hz => ⟨_, rfl, ?_⟩⟩
              rcases (asg_step hu hm).mp hz with h | h
              · obtain ⟨y, hy, hle⟩ := hb2 z h; cases hy; omega
              · exact low z h
            · refine ⟨fun z hz => by cases hz; exact (asg_step hu hm).mpr (.inl (hb1 _ rfl)), fun z hz => ⟨_, rfl, ?_⟩⟩
              rcases (asg_step hu hm).mp hz with h | h
              · obtain ⟨y, hy, hle⟩ := hb2 z h; cases hy; exact hle
              · have := low z h; omega
      refine ⟨_, rfl, _, rfl, rfl, ws, us, rm.set j (m - 1), rfl, by rw [List.length_cons] at hn; omega, hu3, by rw [List.length_set]; exact hrl, by omega, fun c hc hmin => ?_, fun hno => ?_⟩
      · have ht : LeastO (Asg ws us (rm.set j (m - 1))) (some c) := ⟨fun z hz => by cases hz; exact hc, fun z hz => ⟨c, rfl, hmin z hz⟩⟩
        refine ⟨_, rfl, rfl, _, rfl, iteT ⟨_, rfl, rfl, _, rfl, ?_⟩⟩
        cases b with
        | none =>
          refine iteT (iteT ⟨_, rfl, _, rfl, _, _, rfl, rfl, some (ab (w0 - u) + c), _, _, _, _, rfl, fin _ _ ht rfl⟩)
        | some x =>
          refine iteF ⟨_, rfl, _, rfl, _, _, rfl, rfl, _, rfl, _, _, rfl, rfl, _, rfl, ite2 (fun hlt => ?_) (fun hge => ?_)⟩
          · have hlt := of_decide_eq_true hlt
            exact ⟨_, rfl, _, rfl, _, _, rfl, rfl, some (ab (w0 - u) + c), _, _, _, _, rfl, fin _ _ ht (by show _ = if _ then _ else _; rw [if_pos hlt])⟩
          · have hge : ¬ ab (w0 - u) + c < x := fun z => hge (decide_eq_true z)
            exact ⟨some x, _, _, _, _, rfl, fin _ _ ht (by show _ = if _ then _ else _; rw [if_neg hge])⟩
      · have ht : LeastO (Asg ws us (rm.set j (m - 1))) none := ⟨fun z hz => by simp at hz, fun z hz => absurd hz (hno z)⟩
        exact ⟨_, rfl, rfl, _, rfl, iteF (iteF ⟨b, _, _, _, _, rfl, fin _ _ ht rfl⟩)⟩
    · have hc2 : ¬ ab (w0 - u) < 2 := fun z => hc2 (decide_eq_true z)
      exact ⟨b, _, _, _, _, rfl, stay fun c h => hc2 h.2.1⟩
    · have hm0 : ¬ m > 0 := fun z => hm0 (decide_eq_true z)
      exact ⟨b, _, _, _, _, rfl, stay fun c h => hm0 h.1⟩
  · rintro ρ ⟨b, o4, o5, o6, o7, rfl, hb1, hb2⟩
    rw [List.length_map, List.length_range, ul, Int.toNat_natCast] at hb1 hb2
    refine ⟨_, rfl, ?_⟩
    cases b with
    | none => exact hq2 fun c hc => by obtain ⟨x, hx, _⟩ := hb2 c (asg_to.mp hc); cases hx
    | some c => exact hq1 c (asg_to.mpr (hb1 c rfl)) fun c' hc' => by obtain ⟨x, hx, hle⟩ := hb2 c' (asg_to.mp hc'); cases hx; exact hle
theorem ok_d_law_least (T : Txt K mg t) : ∀ n, FnOk P w K mg base CX0 (n + 1) t.f_d_law_least t.d_d_law_least ["_law_widths", "_law_units", "_law_room"] (spP K 3 .cl (sd_d_law_least n)) := by
  intro n
  induction n with
  | zero => exact FnOk.vac (fun _ _ h => h)
  | succ n_ G_d_law_least =>
    exact fnP (κ := κ_d_law_least) (T := B_d_law_least n_) T.F_d_law_least sc_d_law_least (noIo_of rfl) (cl_of rfl) (.inl rfl)
      (fun cdv A outer s H E hr =>
      (dscons (dif (ftcmpC (nomark _) (do_eq (room12 hr)) (dv 0) (DE.clean (flstC (fanil (pu := true))))) (dsone (dret dint)) dsnil)
      (dscons (dset (i := 3) (by rfl) (.inl rfl) sc_d_law_least.nd rfl (Or.inl rfl) rfl dnon)
      (dscons (dfor (by intro _; rfl) PassesOwn.never rfl (diR1 rfl (by rfl) T.n_range (facC rfl (fcbC (by rfl) (by decide) (by decide) (by decide) dc_len (by rfl) T.n_len bt_len (facC rfl (dv 1) fanil)) fanil)) (dgname (i := 4) (.inl rfl) sc_d_law_least.nd rfl (Or.inl rfl) (.inl ⟨rfl, rfl⟩)) (dscons (dset (i := 5) (by rfl) (.inl rfl) sc_d_law_least.nd rfl (Or.inl rfl) rfl (fcbC (by rfl) (by decide) (by decide) (by decide) dc_abs (by rfl) T.n_abs bt_abs (facC rfl (fopC (by decide) do_sub (fixC (fun _ _ => rfl) dix_l (dv 0) dint) (fixC (fun _ _ => rfl) dix_l (dv 1) (dv 4))) fanil)))
      (dsone (dif (dtw (fwand (ftcmpC (nomark _) do_gt (fixC (fun _ _ => rfl) dix_l (dv 2) (dv 4)) dint) (dwand1 (ftcmpC (nomark _) do_lt (dv 5) dint)))) (dscons (dset (i := 6) (by rfl) (.inl rfl) sc_d_law_least.nd rfl (Or.inl rfl) rfl (DE.clean (fopC (by decide) do_cat (DE.clean (fopC (by decide) do_cat (DE.clean (fslC (by decide) dsl_l (dv 2) fono (dosome (dv 4)))) (DE.clean (flstC (facC rfl (fopC (by decide) do_sub (fixC (fun _ _ => rfl) dix_l (dv 2) (dv 4)) dint) fanil))))) (DE.clean (fslC (by decide) dsl_l (dv 2) (dosome (fopC (by decide) do_add (dv 4) dint)) fono)))))
      (dscons (dset (i := 7) (by rfl) (.inl rfl) sc_d_law_least.nd rfl (Or.inl rfl) rfl (fclC (by rfl) (by decide) (by decide) G_d_law_least rfl rfl hr (by rfl) T.m_d_law_least T.k_d_law_least T.b_d_law_least pass0 (facC rfl (DE.clean (fslC (by decide) dsl_l (dv 0) (dosome dint) fono)) (facC rfl (dv 1) (facC rfl (dv 6) fanil)))))
      (dsone (dif (dtw (fwand (ftcmpC (nomark _) do_isnot (dv 7) dnon) (dwand1 (dtw (fwor (ftcmpC (nomark _) do_is (dv 3) dnon) (dwor1 (ftcmpC (nomark _) do_lt (fopC (by decide) do_add (dv 5) (dv 7)) (dv 3)))))))) (dsone (dset (i := 3) (by rfl) (.inl rfl) sc_d_law_least.nd rfl (Or.inl rfl) rfl (fopC (by decide) do_add (dv 5) (dv 7)))) dsnil)))) dsnil))))
      (dsone (dret (dv 3))))))) (body_d_law_least n_)
end
section
variable {P : Program} {w : World} {K : PySem.W.Frag} {mg : Str → Option Value} {base : Heap} {t : Adr}
theorem body_d_law_all_units (n_ : Nat) : BodyP (B_d_law_all_units n_) 5 3 (.ow 1) (sd_d_law_all_units (n_ + 1)) := by
  rintro ds q hl ⟨lo, hi, m, rfl, hmn, hm3, hlo, hhi, hspan, hle, hq⟩
  refine ⟨_, rfl, rfl, rfl, _, rfl, ite2 (fun he => ?_) (fun he => ?_)⟩
  · have he : m = 0 := by
      have : (m : Int) = 0 := by simpa [pyEq] using he
      omega
    subst he
    refine ⟨small_line (by show 0 ≤ 1000; decide), small_line (by show 1 ≤ 1000; decide), hq [[]] (fun us => ?_) (Nat.le_refl _)⟩
    constructor
    · intro h
      have : us = [] := by simpa using h
      subst this; exact ⟨rfl, trivial⟩
    · rintro ⟨h, _⟩
      rw [List.length_eq_zero_iff.mp h]; simp
  have he : m ≠ 0 := fun z => he (by rw [z]; rfl)
  obtain ⟨m, rfl⟩ : ∃ m', m = m' + 1 := ⟨m - 1, by omega⟩
  obtain ⟨n, rfl⟩ : ∃ n, n_ = n + 1 := ⟨n_ - 1, by omega⟩
  have p10 : 10 ^ m ≤ 100 := by
    have : m = 0 ∨ m = 1 ∨ m = 2 := by omega
    rcases this with rfl | rfl | rfl <;> decide
  refine ⟨small_line (by show 0 ≤ 1000; decide), _, rfl, _, rfl, _, _, rfl, rfl, _, _, rfl, ⟨by omega, by omega, by omega, by omega⟩, ?_⟩
  refine forI (fun j ρ => ∃ (F : List (List Int)) (o4 : Option D), ρ = [some (.int lo), some (.int hi), some (.int ((m + 1 : Nat) : Int)), some (.lst (F.map intsD)), o4] ∧ (∀ us, us ∈ F ↔ ∃ u rest, us = u :: rest ∧ lo ≤ u ∧ u < lo + j ∧ rest.length = m ∧ Ris u hi rest) ∧ F.length ≤ j * 10 ^ m)
    ⟨[], none, rfl, fun us => ⟨fun h => by simp at h, fun ⟨u, rest, _, h1, h2, _⟩ => by omega⟩, by simp⟩ ?_ ?_
  · rintro j d ρ hd ⟨F, o4, rfl, hF, hFl⟩
    have hj : j < (hi + 1 - lo).toNat := by
      have := (List.getElem?_eq_some_iff.mp hd).1
      simpa using this
    rw [List.getElem?_map, List.getElem?_range hj] at hd
    simp only [Option.map_some, Option.some.injEq] at hd
    subst hd
    have hj10 : j * 10 ^ m ≤ 9 * 100 := Nat.mul_le_mul (by omega) p10
    refine ⟨⟨_, rfl⟩, _, rfl, _, rfl, _, rfl, _, _, rfl, rfl, rfl, lo + (j : Int), hi, m, (by show [D.int (lo + (j : Int)), D.int hi, D.int (((m + 1 : Nat) : Int) - 1)] = _; rw [show ((m + 1 : Nat) : Int) - 1 = (m : Int) by omega]), by omega, by omega, by omega, hhi, by omega, by omega, fun L hL hLl => ⟨_, rfl, ?_⟩⟩
    refine compY (fun i acc ρ => ∃ o0, acc = ((L.take i).map fun r => (lo + (j : Int)) :: r).map intsD ∧ ρ = [o0, some (.int (lo + (j : Int)))]) ⟨none, rfl, rfl⟩ ?_ ?_
    · rintro i d acc ρ hd ⟨o0, rfl, rfl⟩
      rw [List.getElem?_map] at hd
      obtain ⟨rest, hr, rfl⟩ := Option.map_eq_some_iff.mp hd
      have hrl := ((hL rest).mp (List.mem_of_getElem? hr)).1
      refine ⟨_, rfl, small_line (by show 1 ≤ 1000; decide), _, rfl, _, _, rfl, rfl, small_line (by rw [List.length_map, hrl]; show 1 + m ≤ 1000; omega), ?_, _, ?_, rfl⟩
      · rw [List.length_map, List.length_map]
        have := List.length_take_le' i L
        exact small1000 (by omega)
      · rw [List.take_succ, hr, List.map_append, List.map_append]; rfl
    · rintro acc ρ ⟨o0, rfl, rfl⟩
      rw [List.length_map, List.take_length]
      refine ⟨_, rfl, _, rfl, small_line (by rw [List.length_map, List.length_map, List.length_map]; omega), ?_⟩
      rw [← List.map_append]
      refine ⟨_, _, rfl, fun us => ?_, ?_⟩
      · rw [List.mem_append, hF, List.mem_map]
        constructor
        · rintro (⟨u, rest, rfl, h1, h2, h3, h4⟩ | ⟨rest, hr, rfl⟩)
          · exact ⟨u, rest, rfl, h1, by omega, h3, h4⟩
          · obtain ⟨h3, h4⟩ := (hL rest).mp hr
            exact ⟨_, rest, rfl, by omega, by omega, h3, h4⟩
        · rintro ⟨u, rest, rfl, h1, h2, h3, h4⟩
          by_cases e : u = lo + (j : Int)
          · subst e
            exact .inr ⟨rest, (hL rest).mpr ⟨h3, h4⟩, rfl⟩
          · exact .inl ⟨u, rest, rfl, h1, by omega, h3, h4⟩
      · rw [List.length_append, List.length_map, Nat.add_one_mul]; omega
  · rintro ρ ⟨F, o4, rfl, hF, hFl⟩
    rw [List.length_map, List.length_range] at hF hFl
    refine ⟨_, rfl, hq F (fun us => ?_) ?_⟩
    · rw [hF]
      constructor
      · rintro ⟨u, rest, rfl, h1, h2, h3, h4⟩
        exact ⟨by rw [List.length_cons, h3], h1, by omega, h4⟩
      · rintro ⟨h1, h2⟩
        cases us with
        | nil => simp at h1
        | cons u rest =>
          obtain ⟨a, b, c⟩ := h2
          exact ⟨u, rest, rfl, a, by omega, by simpa using h1, c⟩
    · refine Nat.le_trans hFl ?_
      rw [Nat.pow_succ, Nat.mul_comm (10 ^ m) 10]
      exact Nat.mul_le_mul_right _ (by omega)
theorem ok_d_law_all_units (T : Txt K mg t) : ∀ n, FnOk P w K mg base CX0 (n + 1) t.f_d_law_all_units t.d_d_law_all_units ["_law_low", "_law_high", "_law_many"] (spP K 3 (.ow 1) (sd_d_law_all_units n)) := by
  intro n
  induction n with
  | zero => exact FnOk.vac (fun _ _ h => h)
  | succ n_ G_d_law_all_units =>
    exact fnP (κ := κ_d_law_all_units) (T := B_d_law_all_units n_) T.F_d_law_all_units sc_d_law_all_units (noIo_of rfl) (cl_of rfl) (.inr ⟨_, rfl⟩)
      (fun cdv A outer s H E hr =>
      (dscons (dif (ftcmpC (nomark _) (do_eq (room12 hr)) (dv 2) dint) (dsone (dret (flstC (facC rfl (DE.clean (flstC (fanil (pu := true)))) fanil)))) dsnil)
      (dscons (dsetO (i := 3) (by rfl) (.inl rfl) sc_d_law_all_units.nd rfl (Or.inl rfl) rfl (flstC (fanil (pu := true))))
      (dscons (dfor (by intro _; rfl) PassesOwn.never rfl (diR2 rfl rfl (by rfl) T.n_range (facC rfl (dv 0) (facC rfl (fopC (by decide) do_add (dv 1) dint) fanil))) (dgname (i := 4) (.inl rfl) sc_d_law_all_units.nd rfl (Or.inr rfl) (.inl ⟨rfl, rfl⟩)) (dsone (dextend (i := 3) (by rfl) rfl (by rfl) (by rfl) rfl (by first | exact Or.inl rfl | exact Or.inr (Or.inl rfl) | exact Or.inr (Or.inr rfl)) (by decide) (by decide) rfl (DE.clean (dcomp (lo := false) (by intro _; rfl) rfl (fun _ => cap_of rfl) (fun h => by cases h) (diL vcl (DE.clean (fclC (by rfl) (by decide) (by decide) G_d_law_all_units rfl rfl hr (by rfl) T.m_d_law_all_units T.k_d_law_all_units T.b_d_law_all_units pass0 (facC rfl (dv 4) (facC rfl (dv 1) (facC rfl (fopC (by decide) do_sub (dv 2) dint) fanil)))))) (compSc_of (N := ["_law_low", "_law_high", "_law_many", "_law_found", "_law_units"]) (sc := defScope s_d_law_all_units) (Nc := ["_law_rest", "_law_units"]) (js := [none, some 4]) rfl rfl (by decide +kernel)) (fun pins_ fp_ H_ s_ C_ => ⟨(dgname (i := 0) (.inr rfl) (show (["_law_rest", "_law_units"] : List Str).Nodup by decide +kernel) rfl (Or.inl rfl) (.inl ⟨rfl, rfl⟩)), dif0, (DE.clean (fopC (by decide) do_cat (DE.clean (flstC (facC rfl (dv 1) fanil))) (dv 0)))⟩))))))
      (dsone (dretO (i := 3) (noLo_of rfl) rfl rfl (by first | exact Or.inl rfl | exact Or.inr (Or.inl rfl) | exact Or.inr (Or.inr rfl)) (by decide) (by decide))))))) (body_d_law_all_units n_)
end
section
variable {P : Program} {w : World} {K : PySem.W.Frag} {mg : Str → Option Value} {base : Heap} {t : Adr}
theorem body_d_law_due : BodyP B_d_law_due 5 2 .cl sd_d_law_due := by
  rintro ds q hl ⟨ws, w, h, rfl, hs, hlen, hwid, hspan, hq1, hq2, hq3⟩
  have hw : 0 < w ∧ w ≤ 3 := by obtain ⟨a, b⟩ := hs; omega
  have hh : 2 ≤ h ∧ h ≤ 3 := by obtain ⟨a, b⟩ := hs; omega
  have wl : (ws.map D.int).length = ws.length := List.length_map ..
  refine ⟨_, rfl, .inr (.inl ⟨_, rfl, _, rfl, _, _, _, rfl, rfl, at0, _, rfl, _, _, _, rfl, rfl, at1, _, _, rfl, rfl, mokL (by omega) (by omega), _, _, rfl, rfl, _, rfl, ite2 (fun hge => ?_) (fun hlt => ?_)⟩)⟩
  · have hge := of_decide_eq_true hge
    rw [wl] at hge
    exact hq1 hge
  have hlt : (ws.length : Int) < w * h := by
    have : ¬ ((ws.map D.int).length : Int) ≥ w * h := fun z => hlt (decide_eq_true z)
    rw [wl] at this
    omega
  refine ⟨_, rfl, small_line (by show 0 ≤ 1000; decide), okE_ints ws, rfl, _, rfl, ite2 (fun he => ?_) (fun he => ?_)⟩
  · exact hq2 hlt ((ints_nil ws).mp he)
  have he : ws ≠ [] := fun z => he ((ints_nil ws).mpr z)
  obtain ⟨hq3, hq4⟩ := hq3 hlt he
  have hpos := List.length_pos_iff.mpr he
  obtain ⟨Hh, hH⟩ : ∃ Hh : Nat, h = Hh := ⟨h.toNat, by omega⟩
  refine ⟨_, rfl, ws, rfl, hpos, fun mn m1 m2 => ⟨_, _, rfl, rfl, _, _, rfl, _, rfl, ws, rfl, hpos, fun mx m3 m4 => ⟨_, _, rfl, rfl, _, _, rfl, _, rfl, _, _, _, rfl, rfl, at1, rfl, ?_⟩⟩⟩
  have b1 := hwid mn m1
  have b2 := hwid mx m3
  have b3 := hspan mx m3 mn m1
  have b4 := m2 mx m3
  refine ⟨(if mn - 1 > 1 then mn - 1 else 1), (if mx + 1 < 30 then mx + 1 else 30), Hh, (by rw [← hH]), (by show Hh ≤ 3; omega), by omega, by split <;> omega, by split <;> omega, by split <;> split <;> omega, by split <;> split <;> omega, fun L hL hLl => ⟨_, rfl, ?_⟩⟩
  have way : ∀ us c, us ∈ L → Asg ws us (List.replicate us.length w) c → Ways ws w h c := fun us c hu ha => by
    obtain ⟨a, b⟩ := (hL us).mp hu
    exact ⟨us, mn, mx, by omega, m1, m2, m3, m4, b, ha⟩
  have way2 : ∀ c, Ways ws w h c → ∃ us, us ∈ L ∧ Asg ws us (List.replicate us.length w) c := fun c ⟨us, mn', mx', a1, a2, a3, a4, a5, a6, a7⟩ => by
    have e1 : mn' = mn := by have := a3 mn m1; have := m2 mn' a2; omega
    have e2 : mx' = mx := by have := a5 mx m3; have := m4 mx' a4; omega
    subst e1 e2
    exact ⟨us, (hL us).mpr ⟨by omega, a6⟩, a7⟩
  refine forI (fun j ρ => ∃ (b : Option Int) (o3 o4 : Option D), ρ = [some (sizeD w h), some (intsD ws), some (optD b), o3, o4] ∧ LeastO (fun c => ∃ us, us ∈ L.take j ∧ Asg ws us (List.replicate us.length w) c) b) ⟨none, none, none, rfl, ⟨fun c h => by simp at h, fun c ⟨us, hu, _⟩ => by simp at hu⟩⟩ ?_ ?_
  · rintro j d ρ hd ⟨b, o3, o4, rfl, hb1, hb2⟩
    rw [List.getElem?_map] at hd
    obtain ⟨us, hu, rfl⟩ := Option.map_eq_some_iff.mp hd
    have htk : L.take (j + 1) = L.take j ++ [us] := by rw [List.take_succ, hu]; rfl
    have hul := ((hL us).mp (List.mem_of_getElem? hu)).1
    have stp : ∀ c, (∃ us', us' ∈ L.take (j + 1) ∧ Asg ws us' (List.replicate us'.length w) c) ↔ (∃ us', us' ∈ L.take j ∧ Asg ws us' (List.replicate us'.length w) c) ∨ Asg ws us (List.replicate us.length w) c := fun c => by
      rw [htk]
      constructor
      · rintro ⟨us', h1, h2⟩
        rcases List.mem_append.mp h1 with h1 | h1
        · exact .inl ⟨us', h1, h2⟩
        · have : us' = us := by simpa using h1
          subst this; exact .inr h2
      · rintro (⟨us', h1, h2⟩ | h2)
        · exact ⟨us', List.mem_append_left _ h1, h2⟩
        · exact ⟨us, by simp, h2⟩
    have fin : ∀ (t : Option Int) (b' : Option Int), LeastO (Asg ws us (List.replicate us.length w)) t → b' = (match t with | none => b | some c => match b with | none => some c | some x => if c < x then some c else some x) → LeastO (fun c => ∃ us, us ∈ L.take (j + 1) ∧ Asg ws us (List.replicate us.length w) c) b' := by
      rintro t b' ⟨t1, t2⟩ rfl
      cases t with
      | none =>
        refine ⟨fun c hc => (stp c).mpr (.inl (hb1 c hc)), fun c hc => ?_⟩
        rcases (stp c).mp hc with z | z
        · exact hb2 c z
        · obtain ⟨x, hx, _⟩ := t2 c z; cases hx
      | some c =>
        have new := (stp c).mpr (.inr (t1 c rfl))
        cases b with
        | none =>
          refine ⟨fun z hz => by cases hz; exact new, fun z hz => ⟨_, rfl, ?_⟩⟩
          rcases (stp z).mp hz with y | y
          · obtain ⟨x, hx, _⟩ := hb2 z y; cases hx
          · obtain ⟨x, hx, hle⟩ := t2 z y; cases hx; exact hle
        | some x =>
          show LeastO _ (if c < x then some c else some x)
          split
          · refine ⟨fun z hz => by cases hz; exact new, fun z hz => ⟨_, rfl, ?_⟩⟩
            rcases (stp z).mp hz with y | y
            · obtain ⟨x', hx, hle⟩ := hb2 z y; cases hx; omega
            · obtain ⟨x', hx, hle⟩ := t2 z y; cases hx; exact hle
          · refine ⟨fun z hz => by cases hz; exact (stp _).mpr (.inl (hb1 _ rfl)), fun z hz => ⟨_, rfl, ?_⟩⟩
            rcases (stp z).mp hz with y | y
            · obtain ⟨x', hx, hle⟩ := hb2 z y; cases hx; exact hle
            · obtain ⟨x', hx, hle⟩ := t2 z y; cases hx; omega
    have hrep : (List.replicate h.toNat [D.int w]).flatten = (List.replicate us.length w).map D.int := by
      rw [rep1, List.map_replicate, hul, hH, Int.toNat_natCast]
    refine ⟨_, rfl, _, rfl, _, rfl, _, _, _, rfl, rfl, at0, small_line (by show 1 ≤ 1000; decide), _, rfl, _, _, _, rfl, rfl, at1, _, _, rfl, rfl, by omega, by omega, small_line (by show 1 * h.toNat ≤ 1000; omega), ?_⟩
    rw [hrep]
    refine ⟨rfl, ws, us, List.replicate us.length w, rfl, hlen, by omega, by rw [List.length_replicate], by decide, fun c hc hmin => ?_, fun hno => ?_⟩
    · have ht : LeastO (Asg ws us (List.replicate us.length w)) (some c) := ⟨fun z hz => by cases hz; exact hc, fun z hz => ⟨c, rfl, hmin z hz⟩⟩
      refine ⟨_, rfl, rfl, _, rfl, iteT ⟨_, rfl, rfl, _, rfl, ?_⟩⟩
      cases b with
      | none => exact iteT (iteT ⟨_, rfl, some c, _, _, rfl, fin _ _ ht rfl⟩)
      | some x =>
        refine iteF ⟨_, rfl, _, rfl, _, _, rfl, rfl, _, rfl, ite2 (fun hlt => ?_) (fun hge => ?_)⟩
        · have hlt := of_decide_eq_true hlt
          exact ⟨_, rfl, some c, _, _, rfl, fin _ _ ht (by show _ = if _ then _ else _; rw [if_pos hlt])⟩
        · have hge : ¬ c < x := fun z => hge (decide_eq_true z)
          exact ⟨some x, _, _, rfl, fin _ _ ht (by show _ = if _ then _ else _; rw [if_neg hge])⟩
    · have ht : LeastO (Asg ws us (List.replicate us.length w)) none := ⟨fun z hz => by simp at hz, fun z hz => absurd hz (hno z)⟩
      exact ⟨_, rfl, rfl, _, rfl, iteF (iteF ⟨b, _, _, rfl, fin _ _ ht rfl⟩)⟩
  · rintro ρ ⟨b, o3, o4, rfl, hb1, hb2⟩
    rw [List.length_map, List.take_length] at hb1 hb2
    refine ⟨_, rfl, ?_⟩
    cases b with
    | none => exact hq4 fun c hc => by obtain ⟨x, hx, _⟩ := hb2 c (way2 c hc); cases hx
    | some c =>
      obtain ⟨us, hu, ha⟩ := hb1 c rfl
      exact hq3 c (way us c hu ha) fun c' hc' => by obtain ⟨x, hx, hle⟩ := hb2 c' (way2 c' hc'); cases hx; exact hle
theorem ok_d_law_due (T : Txt K mg t) : FnOk P w K mg base CX0 8 t.f_d_law_due t.d_d_law_due ["_law_size", "_law_widths"] (spP K 2 .cl sd_d_law_due) := by
  have G_d_law_all_units := ok_d_law_all_units (P := P) (w := w) (base := base) T 4
  have G_d_law_least := ok_d_law_least (P := P) (w := w) (base := base) T 6
  exact fnP (κ := κ_d_law_due) (T := B_d_law_due) T.F_d_law_due sc_d_law_due (noIo_of rfl) (cl_of rfl) (.inl rfl)
    (fun cdv A outer s H E hr =>
      (dscons (dif (ftcmpC (nomark _) do_ge (fcbC (by rfl) (by decide) (by decide) (by decide) dc_len (by rfl) T.n_len bt_len (facC rfl (dv 1) fanil)) (fopC (by decide) do_mul (fixC (fun _ _ => rfl) dix_t (dv 0) dint) (fixC (fun _ _ => rfl) dix_t (dv 0) dint))) (dsone (dret dnon)) dsnil)
      (dscons (dif (ftcmpC (nomark _) (do_eq (room12 hr)) (dv 1) (DE.clean (flstC (fanil (pu := true))))) (dsone (dret dint)) dsnil)
      (dscons (dset (i := 2) (by rfl) (.inl rfl) sc_d_law_due.nd rfl (Or.inl rfl) rfl dnon)
      (dscons (dfor (by intro _; rfl) PassesOwn.never rfl (diL vcl (DE.clean (fclC (by rfl) (by decide) (by decide) G_d_law_all_units rfl rfl (hr.mono (by decide)) (by rfl) T.m_d_law_all_units T.k_d_law_all_units T.b_d_law_all_units pass0 (facC rfl (fcbC (by rfl) (by decide) (by decide) (by decide) (dc_max2 rfl) (by rfl) T.n_max bt_max (facC rfl dint (facC rfl (fopC (by decide) do_sub (fcbC (by rfl) (by decide) (by decide) (by decide) (dc_minL rfl) (by rfl) T.n_min bt_min (facC rfl (dv 1) fanil)) dint) fanil))) (facC rfl (fcbC (by rfl) (by decide) (by decide) (by decide) (dc_min2 rfl) (by rfl) T.n_min bt_min (facC rfl dint (facC rfl (fopC (by decide) do_add (fcbC (by rfl) (by decide) (by decide) (by decide) (dc_maxL rfl) (by rfl) T.n_max bt_max (facC rfl (dv 1) fanil)) dint) fanil))) (facC rfl (fixC (fun _ _ => rfl) dix_t (dv 0) dint) fanil)))))) (dgname (i := 3) (.inl rfl) sc_d_law_due.nd rfl (Or.inl rfl) (.inl ⟨rfl, rfl⟩)) (dscons (dset (i := 4) (by rfl) (.inl rfl) sc_d_law_due.nd rfl (Or.inl rfl) rfl (fclC (by rfl) (by decide) (by decide) G_d_law_least rfl rfl (hr.mono (by decide)) (by rfl) T.m_d_law_least T.k_d_law_least T.b_d_law_least pass0 (facC rfl (dv 1) (facC rfl (dv 3) (facC rfl (DE.clean (fopC (by decide) do_rep (DE.clean (flstC (facC rfl (fixC (fun _ _ => rfl) dix_t (dv 0) dint) fanil))) (fixC (fun _ _ => rfl) dix_t (dv 0) dint))) fanil)))))
      (dsone (dif (dtw (fwand (ftcmpC (nomark _) do_isnot (dv 4) dnon) (dwand1 (dtw (fwor (ftcmpC (nomark _) do_is (dv 2) dnon) (dwor1 (ftcmpC (nomark _) do_lt (dv 4) (dv 2)))))))) (dsone (dset (i := 2) (by rfl) (.inl rfl) sc_d_law_due.nd rfl (Or.inl rfl) rfl (dv 4))) dsnil))))
      (dsone (dret (dv 2)))))))) body_d_law_due
end
section
variable {P : Program} {w : World} {K : PySem.W.Frag} {mg : Str → Option Value} {base : Heap} {t : Adr}
def DueIs (ws : List Int) (w h : Int) (due : Option Int) : Prop := (w * h ≤ (ws.length : Int) ∧ due = none) ∨ ((ws.length : Int) < w * h ∧ ((ws = [] ∧ due = some 0) ∨ (ws ≠ [] ∧ LeastO (Ways ws w h) due)))
theorem due_of {ws : List Int} {w h : Int} {q : D → Prop} (hs : Szo w h) (h1 : ws.length ≤ 5) (h2 : ∀ x ∈ ws, 1 ≤ x ∧ x ≤ 30) (h3 : ∀ x ∈ ws, ∀ y ∈ ws, x - y ≤ 3) (hk : ∀ due, DueIs ws w h due → q (optD due)) : sd_d_law_due [sizeD w h, intsD ws] q :=
  ⟨ws, w, h, rfl, hs, h1, h2, h3, fun a => hk none (.inl ⟨a, rfl⟩), fun a b => hk (some 0) (.inr ⟨a, .inl ⟨b, rfl⟩⟩), fun a b => ⟨fun c x y => hk (some c) (.inr ⟨a, .inr ⟨b, fun z hz => by cases hz; exact x, fun z hz => ⟨c, rfl, y z hz⟩⟩⟩), fun x => hk none (.inr ⟨a, .inr ⟨b, fun z hz => by simp at hz, fun z hz => absurd hz (x z)⟩⟩)⟩⟩
def SaidIs (ls : List (Str × Int)) (w h : Int) (f : D) : Prop := (∃ us rows, f = caseD us rows ∧ CaseG us rows w.toNat h.toNat ∧ (ls.length : Int) < w * h ∧ Fewest ls w h ((cams (filled rows) : Nat) : Int)) ∨ (f = .non ∧ (w * h ≤ (ls.length : Int) ∨ ∀ r k L, ¬ Pth (cn (wid ls)) w h 30 r 0 k L))
theorem said_of {ls : List (Str × Int)} {w h : Int} {q : D → Prop} (hs : Szo w h) (ok : LsOk ls) (hk : ∀ f, SaidIs ls w h f → q f) : sd_d_law_said [sizeD w h, .lst (ls.map letD)] q :=
  ⟨ls, w, h, rfl, ok, hs, fun us rows a b c => hk _ (.inl ⟨us, rows, rfl, a, b, c⟩), fun a => hk _ (.inr ⟨rfl, a⟩)⟩
theorem agree {ls : List (Str × Int)} {w h : Int} {due : Option Int} {f : D} (hs : Szo w h) (ok : LsOk ls) (hd : DueIs (wid ls) w h due) (hf : SaidIs ls w h f) : (due = none ∧ f = .non) ∨ ∃ us rows, f = caseD us rows ∧ CaseG us rows w.toNat h.toNat ∧ due = some ((cams (filled rows) : Nat) : Int) := by
  have hw : 0 < w := by obtain ⟨a, b⟩ := hs; omega
  have h0 : 0 ≤ h := by obtain ⟨a, b⟩ := hs; omega
  have wl : (wid ls).length = ls.length := by unfold wid; simp
  have w1 : ∀ x ∈ wid ls, 1 ≤ x ∧ x ≤ 30 := fun x hx => by
    obtain ⟨p, hp, rfl⟩ := List.mem_map.mp hx
    exact ok.wid p hp
  have back : ∀ c, Ways (wid ls) w h c → ∃ r k L, Pth (cn (wid ls)) w h 30 r 0 k L ∧ k ≤ c := fun c ⟨us, mn, mx, a1, a2, a3, a4, a5, a6, a7⟩ =>
    math_b hw w1 (fun u hu => by
      have := a6.mem u hu
      have b1 := w1 mn a2
      have b2 := w1 mx a4
      split at this <;> split at this <;> omega) a1 a7
  rcases hd with ⟨hge, rfl⟩ | ⟨hlt, hd⟩
  · rcases hf with ⟨us, rows, rfl, _, hlt, _⟩ | ⟨rfl, _⟩
    · rw [wl] at hge; omega
    · exact .inl ⟨rfl, rfl⟩
  · rw [wl] at hlt
    rcases hd with ⟨he, rfl⟩ | ⟨hne, l1, l2⟩
    · obtain ⟨r, k, L, p, hk⟩ := math_b (ws := wid ls) (us := List.replicate h.toNat 1) (h := h) (c := 0) hw w1 (fun u hu => by rw [List.eq_of_mem_replicate hu]; decide) (by rw [List.length_replicate]; omega) (by rw [he]; exact .nil)
      rcases hf with ⟨us, rows, rfl, hc, _, hF⟩ | ⟨rfl, hno⟩
      · refine .inr ⟨us, rows, rfl, hc, ?_⟩
        have := hF.2 r k L p
        have : ((cams (filled rows) : Nat) : Int) = 0 := by omega
        rw [this]
      · rcases hno with z | z
        · omega
        · exact absurd p (z r k L)
    · rcases hf with ⟨us, rows, rfl, hc, _, ⟨r, L, p⟩, hmin⟩ | ⟨rfl, hno⟩
      · refine .inr ⟨us, rows, rfl, hc, ?_⟩
        obtain ⟨mn, m1, m2⟩ : ∃ mn, mn ∈ wid ls ∧ ∀ x ∈ wid ls, mn ≤ x := by
          have : ∀ {l : List Int}, l ≠ [] → ∃ mn, mn ∈ l ∧ ∀ x ∈ l, mn ≤ x := by
            intro l
            induction l with
            | nil => intro h; exact absurd rfl h
            | cons a t ih =>
              intro _
              by_cases e : t = []
              · subst e; exact ⟨a, by simp, fun x hx => by rw [List.mem_singleton.mp hx]; exact Int.le_refl _⟩
              · obtain ⟨b, h1, h2⟩ := ih e
                by_cases z : a ≤ b
                · exact ⟨a, by simp, fun x hx => by
                    rcases List.mem_cons.mp hx with rfl | hx
                    · exact Int.le_refl _
                    · have := h2 x hx; omega⟩
                · exact ⟨b, by simp [h1], fun x hx => by
                    rcases List.mem_cons.mp hx with rfl | hx
                    · omega
                    · exact h2 x hx⟩
          exact this hne
        obtain ⟨mx, m3, m4⟩ : ∃ mx, mx ∈ wid ls ∧ ∀ x ∈ wid ls, x ≤ mx := by
          have : ∀ {l : List Int}, l ≠ [] → ∃ mx, mx ∈ l ∧ ∀ x ∈ l, x ≤ mx := by
            intro l
            induction l with
            | nil => intro h; exact absurd rfl h
            | cons a t ih =>
              intro _
              by_cases e : t = []
              · subst e; exact ⟨a, by simp, fun x hx => by rw [List.mem_singleton.mp hx]; exact Int.le_refl _⟩
              · obtain ⟨b, h1, h2⟩ := ih e
                by_cases z : b ≤ a
                · exact ⟨a, by simp, fun x hx => by
                    rcases List.mem_cons.mp hx with rfl | hx
                    · exact Int.le_refl _
                    · have := h2 x hx; omega⟩
                · exact ⟨b, by simp [h1], fun x hx => by
                    rcases List.mem_cons.mp hx with rfl | hx
                    · omega
                    · exact h2 x hx⟩
          exact this hne
        obtain ⟨us', c, a1, a2, a3, a4⟩ := math_a hw h0 w1 m1 m2 m3 m4 p
        obtain ⟨x, rfl, hx⟩ := l2 c ⟨us', mn, mx, a1, m1, m2, m3, m4, a2, a3⟩
        obtain ⟨r', k', L', p', hk'⟩ := back x (l1 x rfl)
        have := hmin r' k' L' p'
        have : x = ((cams (filled rows) : Nat) : Int) := by omega
        rw [this]
      · refine .inl ⟨?_, rfl⟩
        cases due with
        | none => rfl
        | some x =>
          obtain ⟨r', k', L', p', hk'⟩ := back x (l1 x rfl)
          rcases hno with z | z
          · omega
          · exact absurd p' (z r' k' L')
theorem abc_at {i : Nat} (h : i < 5) : ∃ ch, atI ("abcde" : Str).cps.toList (i : Int) = some ch := by
  have : i < ("abcde" : Str).cps.toList.length := h
  exact ⟨_, atI_nat (List.getElem?_eq_getElem this)⟩
end
section
variable {P : Program} {w : World} {K : PySem.W.Frag} {mg : Str → Option Value} {base : Heap} {t : Adr}
theorem body_law : BodyP B_law 11 1 .cl sd_law := by
  rintro ds q hl ⟨ns, rfl, hn, hq⟩
  refine ⟨3, rfl, by decide, by decide, ?_⟩
  refine forI (fun j ρ => ∃ o1 o2 o3 o4 o5 o6 o7 o8 o9 o10, ρ = [some (.scr ns), o1, o2, o3, o4, o5, o6, o7, o8, o9, o10]) ⟨_, _, _, _, _, _, _, _, _, _, rfl⟩ ?_ ?_
  · rintro j d ρ hd ⟨o1, o2, o3, o4, o5, o6, o7, o8, o9, o10, rfl⟩
    have hj : j < 3 := by
      have := (List.getElem?_eq_some_iff.mp hd).1
      simpa using this
    rw [List.getElem?_map, List.getElem?_range (by simpa using hj)] at hd
    simp only [Option.map_some, Option.some.injEq] at hd
    subst hd
    refine ⟨_, rfl, _, rfl, rfl, ns, j, rfl, by omega, by omega, fun m c hb => ?_⟩
    dsimp only [kl_law, startD, List.map_cons, List.map_nil, List.length_cons, List.length_nil, Nat.reduceAdd, Nat.reduceSub, List.replicate_succ, List.replicate_zero, List.cons_append, List.nil_append, List.set_cons_zero, List.set_cons_succ]
    refine ⟨_, rfl, _, rfl, rfl, m, c, 2, rfl, hb, by decide, by decide, fun a m1 c1 a0 a1 hb1 => ?_⟩
    dsimp only [kl_law, startD, List.map_cons, List.map_nil, List.length_cons, List.length_nil, Nat.reduceAdd, Nat.reduceSub, List.replicate_succ, List.replicate_zero, List.cons_append, List.nil_append, List.set_cons_zero, List.set_cons_succ]
    refine ⟨_, _, rfl, rfl, _, rfl, _, rfl, rfl, m1, c1, 2, rfl, hb1, by decide, by decide, fun b m2 c2 b0 b1 hb2 => ?_⟩
    dsimp only [kl_law, startD, List.map_cons, List.map_nil, List.length_cons, List.length_nil, Nat.reduceAdd, Nat.reduceSub, List.replicate_succ, List.replicate_zero, List.cons_append, List.nil_append, List.set_cons_zero, List.set_cons_succ]
    refine ⟨_, _, rfl, rfl, small_line (by show 2 ≤ 1000; decide), ?_⟩
    dsimp only [kl_law, startD, List.map_cons, List.map_nil, List.length_cons, List.length_nil, Nat.reduceAdd, Nat.reduceSub, List.replicate_succ, List.replicate_zero, List.cons_append, List.nil_append, List.set_cons_zero, List.set_cons_succ]
    refine ⟨_, rfl, _, rfl, rfl, m2, c2, 6, rfl, hb2, by decide, by decide, fun n m3 c3 n0 n1 hb3 => ?_⟩
    dsimp only [kl_law, startD, List.map_cons, List.map_nil, List.length_cons, List.length_nil, Nat.reduceAdd, Nat.reduceSub, List.replicate_succ, List.replicate_zero, List.cons_append, List.nil_append, List.set_cons_zero, List.set_cons_succ]
    refine ⟨_, rfl, _, rfl, rfl, m3, c3, 4, rfl, hb3, by decide, by decide, fun g m4 c4 g0 g1 hb4 => ?_⟩
    dsimp only [kl_law, startD, List.map_cons, List.map_nil, List.length_cons, List.length_nil, Nat.reduceAdd, Nat.reduceSub, List.replicate_succ, List.replicate_zero, List.cons_append, List.nil_append, List.set_cons_zero, List.set_cons_succ]
    refine ⟨_, _, rfl, rfl, ?_⟩
    dsimp only [kl_law, startD, List.map_cons, List.map_nil, List.length_cons, List.length_nil, Nat.reduceAdd, Nat.reduceSub, List.replicate_succ, List.replicate_zero, List.cons_append, List.nil_append, List.set_cons_zero, List.set_cons_succ]
    refine ⟨_, rfl, _, rfl, _, _, rfl, rfl, _, rfl, rfl, m4, c4, 31 - (1 + g), rfl, hb4, by omega, by omega, fun t m5 c5 t0 t1 hb5 => ?_⟩
    dsimp only [kl_law, startD, List.map_cons, List.map_nil, List.length_cons, List.length_nil, Nat.reduceAdd, Nat.reduceSub, List.replicate_succ, List.replicate_zero, List.cons_append, List.nil_append, List.set_cons_zero, List.set_cons_succ]
    refine ⟨_, _, rfl, rfl, ?_⟩
    dsimp only [kl_law, startD, List.map_cons, List.map_nil, List.length_cons, List.length_nil, Nat.reduceAdd, Nat.reduceSub, List.replicate_succ, List.replicate_zero, List.cons_append, List.nil_append, List.set_cons_zero, List.set_cons_succ]
    have hsz : Szo (2 + a) (2 + b) := ⟨by omega, by omega⟩
    generalize hW : 2 + a = w at hsz ⊢
    generalize hH : 2 + b = h at hsz ⊢
    generalize hlh : 1 + t = lh
    generalize hag : 1 + g = among
    refine ⟨_, rfl, _, rfl, by omega, by omega, ?_⟩
    refine compY (fun i acc ρ => ∃ (ls : List (Str × Int)) (m c : Int) (o0 : Option D), acc = ls.map letD ∧ ls.length = i ∧ (∀ p ∈ ls, lh ≤ p.2 ∧ p.2 < lh + among) ∧ BagOk m c ∧ ρ = [o0, some (.int lh), some (.lst [.int m, .int c]), some (.int among)]) ⟨[], m5, c5, none, rfl, rfl, fun p hp => by simp at hp, hb5, rfl⟩ ?_ ?_
    · rintro i d acc ρ hd ⟨ls, m, c, o0, rfl, hll, hlw, hb, rfl⟩
      have hi : i < n.toNat := by
        have := (List.getElem?_eq_some_iff.mp hd).1
        simpa using this
      rw [List.getElem?_map, List.getElem?_range hi] at hd
      simp only [Option.map_some, Option.some.injEq] at hd
      subst hd
      obtain ⟨ch, hch⟩ := abc_at (i := i) (by omega)
      refine ⟨_, rfl, _, _, ch, rfl, rfl, small_line (by show 5 ≤ 1000; decide), hch, _, rfl, _, rfl, _, rfl, _, rfl, rfl, m, c, among, rfl, hb, by omega, by omega, fun r m' c' r0 r1 hb' => ?_⟩
      refine ⟨_, _, rfl, rfl, small_line (by show 2 ≤ 1000; decide), ?_, ls ++ [(⟨#[ch]⟩, lh + r)], m', c', some (.int (i : Int)), ?_, ?_, ?_, hb', rfl⟩
      · rw [List.length_map]; exact small1000 (by omega)
      · rw [List.map_append]; rfl
      · rw [List.length_append, hll]; rfl
      · intro p hp
        rcases List.mem_append.mp hp with hp | hp
        · exact hlw p hp
        · have : p = (⟨#[ch]⟩, lh + r) := by simpa using hp
          subst this
          show lh ≤ lh + r ∧ lh + r < lh + among
          omega
    · rintro acc ρ ⟨ls, m6, c6, o0, rfl, hll, hlw, hb6, rfl⟩
      rw [List.length_map, List.length_range] at hll
      have ok : LsOk ls := ⟨by omega, fun p hp => by have := hlw p hp; omega⟩
      refine ⟨_, rfl, ?_⟩
      dsimp only [kl_law, startD, List.map_cons, List.map_nil, List.length_cons, List.length_nil, Nat.reduceAdd, Nat.reduceSub, List.replicate_succ, List.replicate_zero, List.cons_append, List.nil_append, List.set_cons_zero, List.set_cons_succ]
      refine ⟨_, rfl, _, rfl, _, rfl, ?_⟩
      refine compY (fun i acc ρ => ∃ o0 o1, acc = ((wid ls).take i).map D.int ∧ ρ = [o0, o1]) ⟨none, none, rfl, rfl⟩ ?_ ?_
      · rintro i d acc ρ hd ⟨p0, p1, rfl, rfl⟩
        rw [List.getElem?_map] at hd
        obtain ⟨p, hp, rfl⟩ := Option.map_eq_some_iff.mp hd
        refine ⟨_, rfl, rfl, _, _, rfl, _, _, rfl, rfl, _, rfl, ?_, _, _, ?_, rfl⟩
        · rw [List.length_map]
          have := List.length_take_le' i (wid ls)
          have e : (wid ls).length = ls.length := by unfold wid; simp
          exact small1000 (by omega)
        · have : (wid ls)[i]? = some p.2 := by unfold wid; rw [List.getElem?_map, hp]; rfl
          rw [List.take_succ, this, List.map_append]; rfl
      · rintro acc ρ ⟨p0, p1, rfl, rfl⟩
        have e : (ls.map letD).length = (wid ls).length := by unfold wid; simp
        rw [e, List.take_length]
        have e2 : (wid ls).length = ls.length := by unfold wid; simp
        refine ⟨rfl, due_of hsz (by omega) (fun x hx => ?_) (fun x hx y hy => ?_) fun due hdue => ?_⟩
        · obtain ⟨p, hp, rfl⟩ := List.mem_map.mp hx
          exact ok.wid p hp
        · obtain ⟨p, hp, rfl⟩ := List.mem_map.mp hx
          obtain ⟨p', hp', rfl⟩ := List.mem_map.mp hy
          have := hlw p hp
          have := hlw p' hp'
          omega
        dsimp only [kl_law, startD, List.map_cons, List.map_nil, List.length_cons, List.length_nil, Nat.reduceAdd, Nat.reduceSub, List.replicate_succ, List.replicate_zero, List.cons_append, List.nil_append, List.set_cons_zero, List.set_cons_succ]
        refine ⟨_, rfl, _, rfl, rfl, said_of hsz ok fun f hf => ?_⟩
        dsimp only [kl_law, startD, List.map_cons, List.map_nil, List.length_cons, List.length_nil, Nat.reduceAdd, Nat.reduceSub, List.replicate_succ, List.replicate_zero, List.cons_append, List.nil_append, List.set_cons_zero, List.set_cons_succ]
        rcases agree hsz ok hdue hf with ⟨rfl, rfl⟩ | ⟨us, rows, rfl, G, rfl⟩
        · exact ⟨_, rfl, rfl, _, rfl, iteT ⟨_, rfl, rfl, _, rfl, iteF ⟨_, rfl, rfl, _, rfl, iteF ⟨_, _, _, _, _, _, _, _, _, _, rfl⟩⟩⟩⟩
        · refine ⟨_, rfl, rfl, _, rfl, iteF (iteF ⟨_, rfl, rfl, _, rfl, iteT ⟨_, rfl, rfl, _, rfl, iteF ⟨_, rfl, rfl, us, rows, _, _, rfl, G, ?_⟩⟩⟩)⟩
          dsimp only [kl_law, startD, List.map_cons, List.map_nil, List.length_cons, List.length_nil, Nat.reduceAdd, Nat.reduceSub, List.replicate_succ, List.replicate_zero, List.cons_append, List.nil_append, List.set_cons_zero, List.set_cons_succ]
          refine ⟨_, rfl, _, _, rfl, rfl, by decide, _, rfl, iteF ⟨_, rfl, _, _, rfl, rfl, by decide, _, rfl, iteF ⟨_, rfl, _, rfl, rfl, rfl, _, rfl, ?_⟩⟩⟩
          have e9 : (!pyEq (.int (cams (filled rows))) (optD (some (cams (filled rows))))) = false := by simp [pyEq, optD]
          rw [e9]
          exact iteF ⟨_, _, _, _, _, _, _, _, _, _, rfl⟩
  · rintro ρ ⟨o1, o2, o3, o4, o5, o6, o7, o8, o9, o10, rfl⟩
    exact hq
theorem ok_law (T : Txt K mg t) : FnOk P w K mg base CX0 9 t.f_law t.d_law ["_law_script"] (spP K 1 .cl sd_law) := by
  have G_d_law_bag := ok_d_law_bag (P := P) (w := w) (base := base) T
  have G_d_law_take := ok_d_law_take (P := P) (w := w) (base := base) T
  have G_d_law_due := ok_d_law_due (P := P) (w := w) (base := base) T
  have G_d_law_said := ok_d_law_said (P := P) (w := w) (base := base) T
  have G_cams_in := ok_cams_in (P := P) (w := w) (base := base) T
  exact fnP (κ := κ_law) (T := B_law) T.F_law sc_law (noIo_of rfl) (cl_of rfl) (.inl rfl)
    (fun cdv A outer s H E hr =>
      (dscons (dfor (by intro _; rfl) PassesOwn.never rfl (diR1 rfl (by rfl) T.n_range (facC rfl dint fanil)) (dgname (i := 1) (.inl rfl) sc_law.nd rfl (Or.inl rfl) (.inl ⟨rfl, rfl⟩)) (dscons (dsetO (i := 2) (by rfl) (.inl rfl) sc_law.nd rfl (Or.inr rfl) rfl (fclC (by rfl) (by decide) (by decide) G_d_law_bag rfl rfl (hr.mono (by decide)) (by rfl) T.m_d_law_bag T.k_d_law_bag T.b_d_law_bag pass0 (facC rfl (dv 0) (facC rfl (dv 1) fanil))))
      (dscons (dset (i := 3) (by rfl) (.inl rfl) sc_law.nd rfl (Or.inl rfl) rfl (ftupC (facC rfl (fopC (by decide) do_add (DE.dirty dint) (fclx (by rfl) (by decide) G_d_law_take rfl (hr.mono (by decide)) (by rfl) T.m_d_law_take T.k_d_law_take T.b_d_law_take pass0 rfl (.inl rfl) (dax_here (i := 2) rfl (by first | exact Or.inl rfl | exact Or.inr (Or.inl rfl) | exact Or.inr (Or.inr rfl)) (by decide) (by decide) (facC rfl dint fanil)))) (facC rfl (fopC (by decide) do_add (DE.dirty dint) (fclx (by rfl) (by decide) G_d_law_take rfl (hr.mono (by decide)) (by rfl) T.m_d_law_take T.k_d_law_take T.b_d_law_take pass0 rfl (.inl rfl) (dax_here (i := 2) rfl (by first | exact Or.inl rfl | exact Or.inr (Or.inl rfl) | exact Or.inr (Or.inr rfl)) (by decide) (by decide) (facC rfl dint fanil)))) fanil))))
      (dscons (dset (i := 4) (by rfl) (.inl rfl) sc_law.nd rfl (Or.inl rfl) rfl (fclx (by rfl) (by decide) G_d_law_take rfl (hr.mono (by decide)) (by rfl) T.m_d_law_take T.k_d_law_take T.b_d_law_take pass0 rfl (.inl rfl) (dax_here (i := 2) rfl (by first | exact Or.inl rfl | exact Or.inr (Or.inl rfl) | exact Or.inr (Or.inr rfl)) (by decide) (by decide) (facC rfl dint fanil))))
      (dscons (dset (i := 5) (by rfl) (.inl rfl) sc_law.nd rfl (Or.inr rfl) rfl (fopC (by decide) do_add (DE.dirty dint) (fclx (by rfl) (by decide) G_d_law_take rfl (hr.mono (by decide)) (by rfl) T.m_d_law_take T.k_d_law_take T.b_d_law_take pass0 rfl (.inl rfl) (dax_here (i := 2) rfl (by first | exact Or.inl rfl | exact Or.inr (Or.inl rfl) | exact Or.inr (Or.inr rfl)) (by decide) (by decide) (facC rfl dint fanil)))))
      (dscons (dset (i := 6) (by rfl) (.inl rfl) sc_law.nd rfl (Or.inr rfl) rfl (fopC (by decide) do_add (DE.dirty dint) (fclx (by rfl) (by decide) G_d_law_take rfl (hr.mono (by decide)) (by rfl) T.m_d_law_take T.k_d_law_take T.b_d_law_take pass0 rfl (.inl rfl) (dax_here (i := 2) rfl (by first | exact Or.inl rfl | exact Or.inr (Or.inl rfl) | exact Or.inr (Or.inr rfl)) (by decide) (by decide) (facC rfl (fopC (by decide) do_sub dint (dv 5)) fanil)))))
      (dscons (dsetCX (i := 7) (.inl rfl) (by rfl) (by intro _; rfl) rfl sc_law.nd rfl rfl rfl rfl rfl (kc_of rfl) (capx_of rfl) (diR1 rfl (by rfl) T.n_range (facC rfl (dv 4) fanil)) (compSc_of (N := ["_law_script", "_law_k", "_law_bag_here", "_law_size", "_law_many", "_law_among", "_law_least_here", "_law_letters", "_law_due_here", "_law_found", "_law_told"]) (sc := defScope s_law) (Nc := ["_law_j", "_law_least_here", "_law_bag_here", "_law_among"]) (js := [none, some 6, some 2, some 5]) rfl rfl (by decide +kernel)) (fun pins_ fp_ H_ s_ C_ => ⟨(dgname (i := 0) (.inr rfl) (show (["_law_j", "_law_least_here", "_law_bag_here", "_law_among"] : List Str).Nodup by decide +kernel) rfl (Or.inl rfl) (.inl ⟨rfl, rfl⟩)), dif0, (ftupC (facC rfl (DE.dirty (fixC (fun _ _ => rfl) dix_s dstr (dv 0))) (facC rfl (fopC (by decide) do_add (DE.dirty (dv 1)) (fclx (by rfl) (by decide) G_d_law_take rfl (hr.mono (by decide)) (by rfl) T.m_d_law_take T.k_d_law_take T.b_d_law_take pass0 rfl (.inl rfl) (dax_here (i := 2) rfl (by first | exact Or.inl rfl | exact Or.inr (Or.inl rfl) | exact Or.inr (Or.inr rfl)) (by decide) (by decide) (facC rfl (dv 3) fanil)))) fanil)))⟩))
      (dscons (dset (i := 8) (by rfl) (.inl rfl) sc_law.nd rfl (Or.inl rfl) rfl (fclC (by rfl) (by decide) (by decide) G_d_law_due rfl rfl (hr.mono (by decide)) (by rfl) T.m_d_law_due T.k_d_law_due T.b_d_law_due pass0 (facC rfl (dv 3) (facC rfl (DE.clean (dcomp (lo := false) (by intro _; rfl) rfl (fun _ => cap_of rfl) (fun h => by cases h) (diL vcl (dv 7)) (compSc_of (N := ["_law_script", "_law_k", "_law_bag_here", "_law_size", "_law_many", "_law_among", "_law_least_here", "_law_letters", "_law_due_here", "_law_found", "_law_told"]) (sc := defScope s_law) (Nc := ["_law_name", "_law_width"]) (js := [none, none]) rfl rfl (by decide +kernel)) (fun pins_ fp_ H_ s_ C_ => ⟨(dgtup (by rfl) (by rfl) rfl (dgcons (by rfl) (dgname (i := 0) (.inr rfl) (show (["_law_name", "_law_width"] : List Str).Nodup by decide +kernel) rfl (Or.inl rfl) (.inl ⟨rfl, rfl⟩)) (dgcons (by rfl) (dgname (i := 1) (.inr rfl) (show (["_law_name", "_law_width"] : List Str).Nodup by decide +kernel) rfl (Or.inl rfl) (.inl ⟨rfl, rfl⟩)) dgnil))), dif0, (dv 1)⟩))) fanil))))
      (dscons (dset (i := 9) (by rfl) (.inl rfl) sc_law.nd rfl (Or.inl rfl) rfl (fclC (by rfl) (by decide) (by decide) G_d_law_said rfl rfl (hr.mono (by decide)) (by rfl) T.m_d_law_said T.k_d_law_said T.b_d_law_said pass0 (facC rfl (dv 3) (facC rfl (dv 7) fanil))))
      (dscons (dif (dtw (fwand (ftcmpC (nomark _) do_is (dv 8) dnon) (dwand1 (ftcmpC (nomark _) do_isnot (dv 9) dnon)))) (dsone (dret dbl)) dsnil)
      (dsone (dif (ftcmpC (nomark _) do_isnot (dv 8) dnon) (dscons (dif (ftcmpC (nomark _) do_is (dv 9) dnon) (dsone (dret dbl)) dsnil)
      (dscons (dset (i := 10) (by rfl) (.inl rfl) sc_law.nd rfl (Or.inl rfl) rfl (fclC (by rfl) (by decide) (by decide) G_cams_in rfl rfl (hr.mono (by decide)) (by rfl) T.m_cams_in T.k_cams_in T.b_cams_in pass0 (facC rfl (dv 9) fanil)))
      (dsone (dif (dtw (fwor (dtnot (dtval (by intro _; rfl) (fcbC (by rfl) (by decide) (by decide) (by decide) dc_isi (by rfl) T.n_isinstance bt_isinstance (facC rfl (dv 10) (facC rfl (dty (pty_int (by rfl) T.n_int)) fanil))))) (fwor (dtval (by intro _; rfl) (fcbC (by rfl) (by decide) (by decide) (by decide) dc_isi (by rfl) T.n_isinstance bt_isinstance (facC rfl (dv 10) (facC rfl (dty (pty_bool (by rfl) T.n_bool)) fanil)))) (dwor1 (ftcmpC (nomark _) (do_ne (room12 hr)) (dv 10) (dv 8)))))) (dsone (dret dbl)) dsnil)))) dsnil))))))))))))
      (dsone (dret dbl)))) body_law
end
def LawD (t : Adr) : Prop := ∃ (kV dc pm : Value) (an : Option Addr) (cd ct : Value), t.d_law = PySem.W.fnOf "law" "law" (defArgs s_law) (defBody s_law) (defScope s_law) .none kV dc pm an cd ct
theorem txt_mk {w : World} {K : PySem.W.Frag} {h : Heap} {mg : Str → Option Value} {f0 f1 f2 f3 f4 f5 f6 f7 f8 f9 f10 f11 f12 f13 f14 f15 f16 : Addr} (X : K.In h) (G : h.Ns mainGlobals mg)
    {od0 an0 : Option Addr} {sl0 : Array (Option Value)} {oc0 kV0 dc0 pm0 cd0 ct0 : Value}
    {od1 an1 : Option Addr} {sl1 : Array (Option Value)} {oc1 kV1 dc1 pm1 cd1 ct1 : Value}
    {od2 an2 : Option Addr} {sl2 : Array (Option Value)} {oc2 kV2 dc2 pm2 cd2 ct2 : Value}
    {od3 an3 : Option Addr} {sl3 : Array (Option Value)} {oc3 kV3 dc3 pm3 cd3 ct3 : Value}
    {od4 an4 : Option Addr} {sl4 : Array (Option Value)} {oc4 kV4 dc4 pm4 cd4 ct4 : Value}
    {od5 an5 : Option Addr} {sl5 : Array (Option Value)} {oc5 kV5 dc5 pm5 cd5 ct5 : Value}
    {od6 an6 : Option Addr} {sl6 : Array (Option Value)} {oc6 kV6 dc6 pm6 cd6 ct6 : Value}
    {od7 an7 : Option Addr} {sl7 : Array (Option Value)} {oc7 kV7 dc7 pm7 cd7 ct7 : Value}
    {od8 an8 : Option Addr} {sl8 : Array (Option Value)} {oc8 kV8 dc8 pm8 cd8 ct8 : Value}
    {od9 an9 : Option Addr} {sl9 : Array (Option Value)} {oc9 kV9 dc9 pm9 cd9 ct9 : Value}
    {od10 an10 : Option Addr} {sl10 : Array (Option Value)} {oc10 kV10 dc10 pm10 cd10 ct10 : Value}
    {od11 an11 : Option Addr} {sl11 : Array (Option Value)} {oc11 kV11 dc11 pm11 cd11 ct11 : Value}
    {od12 an12 : Option Addr} {sl12 : Array (Option Value)} {oc12 kV12 dc12 pm12 cd12 ct12 : Value}
    {od13 an13 : Option Addr} {sl13 : Array (Option Value)} {oc13 kV13 dc13 pm13 cd13 ct13 : Value}
    {od14 an14 : Option Addr} {sl14 : Array (Option Value)} {oc14 kV14 dc14 pm14 cd14 ct14 : Value}
    {od15 an15 : Option Addr} {sl15 : Array (Option Value)} {oc15 kV15 dc15 pm15 cd15 ct15 : Value}
    {od16 an16 : Option Addr} {sl16 : Array (Option Value)} {oc16 kV16 dc16 pm16 cd16 ct16 : Value}
    {tk0 : Tok}
    {tk1 : Tok}
    {cX_NoLayout : Addr} (xa_NoLayout : PySem.W.nsIn K mainGlobals "NoLayout" = some (some (.ref cX_NoLayout))) (xe_NoLayout : PySem.W.excIn K cX_NoLayout vErr "ValueError.__new__" = true)
    (xca_0_0 : PySem.W.exmOne K (.ref cX_NoLayout) (.ref cX_NoLayout) = some true)
    (a0 : PySem.W.nsIn K mainGlobals "filled_cells" = some (some (.ref f0))) (l0 : K.lookup f0 = some ⟨oc0, od0, .func (PySem.W.fnOf "filled_cells" "filled_cells" (defArgs s_filled_cells) (defBody s_filled_cells) (defScope s_filled_cells) .none kV0 dc0 pm0 an0 cd0 ct0), sl0⟩) (c0 : PySem.W.codeIn K cd0 "filled_cells" = true) (k0 : PySem.W.keepIn K (.ref f0) = true)
    (a1 : PySem.W.nsIn K mainGlobals "cams_in" = some (some (.ref f1))) (l1 : K.lookup f1 = some ⟨oc1, od1, .func (PySem.W.fnOf "cams_in" "cams_in" (defArgs s_cams_in) (defBody s_cams_in) (defScope s_cams_in) .none kV1 dc1 pm1 an1 cd1 ct1), sl1⟩) (c1 : PySem.W.codeIn K cd1 "cams_in" = true) (k1 : PySem.W.keepIn K (.ref f1) = true)
    (a2 : PySem.W.nsIn K mainGlobals "names_by_width" = some (some (.ref f2))) (l2 : K.lookup f2 = some ⟨oc2, od2, .func (PySem.W.fnOf "names_by_width" "names_by_width" (defArgs s_names_by_width) (defBody s_names_by_width) (defScope s_names_by_width) .none kV2 dc2 pm2 an2 cd2 ct2), sl2⟩) (c2 : PySem.W.codeIn K cd2 "names_by_width" = true) (k2 : PySem.W.keepIn K (.ref f2) = true)
    (a3 : PySem.W.nsIn K mainGlobals "rows_for" = some (some (.ref f3))) (l3 : K.lookup f3 = some ⟨oc3, od3, .func (PySem.W.fnOf "rows_for" "rows_for" (defArgs s_rows_for) (defBody s_rows_for) (defScope s_rows_for) .none kV3 dc3 pm3 an3 cd3 ct3), sl3⟩) (c3 : PySem.W.codeIn K cd3 "rows_for" = true) (k3 : PySem.W.keepIn K (.ref f3) = true)
    (a4 : PySem.W.nsIn K mainGlobals "with_rows_of" = some (some (.ref f4))) (l4 : K.lookup f4 = some ⟨oc4, od4, .func (PySem.W.fnOf "with_rows_of" "with_rows_of" (defArgs s_with_rows_of) (defBody s_with_rows_of) (defScope s_with_rows_of) .none kV4 dc4 pm4 an4 cd4 ct4), sl4⟩) (c4 : PySem.W.codeIn K cd4 "with_rows_of" = true) (k4 : PySem.W.keepIn K (.ref f4) = true)
    (a5 : PySem.W.nsIn K mainGlobals "best_lifts" = some (some (.ref f5))) (l5 : K.lookup f5 = some ⟨oc5, od5, .func (PySem.W.fnOf "best_lifts" "best_lifts" (defArgs s_best_lifts) (defBody s_best_lifts) (defScope s_best_lifts) .none kV5 dc5 pm5 an5 cd5 ct5), sl5⟩) (c5 : PySem.W.codeIn K cd5 "best_lifts" = true) (k5 : PySem.W.keepIn K (.ref f5) = true)
    (a6 : PySem.W.nsIn K mainGlobals "cells_with_units" = some (some (.ref f6))) (l6 : K.lookup f6 = some ⟨oc6, od6, .func (PySem.W.fnOf "cells_with_units" "cells_with_units" (defArgs s_cells_with_units) (defBody s_cells_with_units) (defScope s_cells_with_units) .none kV6 dc6 pm6 an6 cd6 ct6), sl6⟩) (c6 : PySem.W.codeIn K cd6 "cells_with_units" = true) (k6 : PySem.W.keepIn K (.ref f6) = true)
    (a7 : PySem.W.nsIn K mainGlobals "case_by_lifts" = some (some (.ref f7))) (l7 : K.lookup f7 = some ⟨oc7, od7, .func (PySem.W.fnOf "case_by_lifts" "case_by_lifts" (defArgs s_case_by_lifts) (defBody s_case_by_lifts) (defScope s_case_by_lifts) .none kV7 dc7 pm7 an7 cd7 ct7), sl7⟩) (c7 : PySem.W.codeIn K cd7 "case_by_lifts" = true) (k7 : PySem.W.keepIn K (.ref f7) = true)
    (a8 : PySem.W.nsIn K mainGlobals "lay_out" = some (some (.ref f8))) (l8 : K.lookup f8 = some ⟨oc8, od8, .func (PySem.W.fnOf "lay_out" "lay_out" (defArgs s_lay_out) (defBody s_lay_out) (defScope s_lay_out) .none kV8 dc8 pm8 an8 cd8 ct8), sl8⟩) (c8 : PySem.W.codeIn K cd8 "lay_out" = true) (k8 : PySem.W.keepIn K (.ref f8) = true)
    (a9 : PySem.W.nsIn K mainGlobals "_law_cell" = some (some (.ref f9))) (l9 : K.lookup f9 = some ⟨oc9, od9, .func (PySem.W.fnOf "_law_cell" "_law_cell" (defArgs s_d_law_cell) (defBody s_d_law_cell) (defScope s_d_law_cell) .none kV9 dc9 pm9 an9 cd9 ct9), sl9⟩) (c9 : PySem.W.codeIn K cd9 "_law_cell" = true) (k9 : PySem.W.keepIn K (.ref f9) = true)
    (a10 : PySem.W.nsIn K mainGlobals "_law_bag" = some (some (.ref f10))) (l10 : K.lookup f10 = some ⟨oc10, od10, .func (PySem.W.fnOf "_law_bag" "_law_bag" (defArgs s_d_law_bag) (defBody s_d_law_bag) (defScope s_d_law_bag) .none kV10 dc10 pm10 an10 cd10 ct10), sl10⟩) (c10 : PySem.W.codeIn K cd10 "_law_bag" = true) (k10 : PySem.W.keepIn K (.ref f10) = true)
    (a11 : PySem.W.nsIn K mainGlobals "_law_take" = some (some (.ref f11))) (l11 : K.lookup f11 = some ⟨oc11, od11, .func (PySem.W.fnOf "_law_take" "_law_take" (defArgs s_d_law_take) (defBody s_d_law_take) (defScope s_d_law_take) .none kV11 dc11 pm11 an11 cd11 ct11), sl11⟩) (c11 : PySem.W.codeIn K cd11 "_law_take" = true) (k11 : PySem.W.keepIn K (.ref f11) = true)
    (a12 : PySem.W.nsIn K mainGlobals "_law_least" = some (some (.ref f12))) (l12 : K.lookup f12 = some ⟨oc12, od12, .func (PySem.W.fnOf "_law_least" "_law_least" (defArgs s_d_law_least) (defBody s_d_law_least) (defScope s_d_law_least) .none kV12 dc12 pm12 an12 cd12 ct12), sl12⟩) (c12 : PySem.W.codeIn K cd12 "_law_least" = true) (k12 : PySem.W.keepIn K (.ref f12) = true)
    (a13 : PySem.W.nsIn K mainGlobals "_law_all_units" = some (some (.ref f13))) (l13 : K.lookup f13 = some ⟨oc13, od13, .func (PySem.W.fnOf "_law_all_units" "_law_all_units" (defArgs s_d_law_all_units) (defBody s_d_law_all_units) (defScope s_d_law_all_units) .none kV13 dc13 pm13 an13 cd13 ct13), sl13⟩) (c13 : PySem.W.codeIn K cd13 "_law_all_units" = true) (k13 : PySem.W.keepIn K (.ref f13) = true)
    (a14 : PySem.W.nsIn K mainGlobals "_law_due" = some (some (.ref f14))) (l14 : K.lookup f14 = some ⟨oc14, od14, .func (PySem.W.fnOf "_law_due" "_law_due" (defArgs s_d_law_due) (defBody s_d_law_due) (defScope s_d_law_due) .none kV14 dc14 pm14 an14 cd14 ct14), sl14⟩) (c14 : PySem.W.codeIn K cd14 "_law_due" = true) (k14 : PySem.W.keepIn K (.ref f14) = true)
    (a15 : PySem.W.nsIn K mainGlobals "_law_said" = some (some (.ref f15))) (l15 : K.lookup f15 = some ⟨oc15, od15, .func (PySem.W.fnOf "_law_said" "_law_said" (defArgs s_d_law_said) (defBody s_d_law_said) (defScope s_d_law_said) .none kV15 dc15 pm15 an15 cd15 ct15), sl15⟩) (c15 : PySem.W.codeIn K cd15 "_law_said" = true) (k15 : PySem.W.keepIn K (.ref f15) = true)
    (a16 : PySem.W.nsIn K mainGlobals "law" = some (some (.ref f16))) (l16 : K.lookup f16 = some ⟨oc16, od16, .func (PySem.W.fnOf "law" "law" (defArgs s_law) (defBody s_law) (defScope s_law) .none kV16 dc16 pm16 an16 cd16 ct16), sl16⟩) (c16 : PySem.W.codeIn K cd16 "law" = true) (k16 : PySem.W.keepIn K (.ref f16) = true)
    (z_abs : PySem.W.nsIn K mainGlobals "abs" = some none)
    (z_all : PySem.W.nsIn K mainGlobals "all" = some none)
    (z_bool : PySem.W.nsIn K mainGlobals "bool" = some none)
    (z_enumerate : PySem.W.nsIn K mainGlobals "enumerate" = some none)
    (z_int : PySem.W.nsIn K mainGlobals "int" = some none)
    (z_isinstance : PySem.W.nsIn K mainGlobals "isinstance" = some none)
    (z_len : PySem.W.nsIn K mainGlobals "len" = some none)
    (z_max : PySem.W.nsIn K mainGlobals "max" = some none)
    (z_min : PySem.W.nsIn K mainGlobals "min" = some none)
    (z_range : PySem.W.nsIn K mainGlobals "range" = some none)
    (z_tuple : PySem.W.nsIn K mainGlobals "tuple" = some none)
    (q_BLANK : PySem.W.nsIn K mainGlobals "BLANK" = some (some (.str " " tk0)))
    (q_GREATEST_UNITS : PySem.W.nsIn K mainGlobals "GREATEST_UNITS" = some (some (.int 30 tk1))) :
    ∃ t : Adr, Txt K mg t ∧ LawD t := by
  have F0 := fun_mk (st := s_filled_cells) l0 c0 k0
  have F1 := fun_mk (st := s_cams_in) l1 c1 k1
  have F2 := fun_mk (st := s_names_by_width) l2 c2 k2
  have F3 := fun_mk (st := s_rows_for) l3 c3 k3
  have F4 := fun_mk (st := s_with_rows_of) l4 c4 k4
  have F5 := fun_mk (st := s_best_lifts) l5 c5 k5
  have F6 := fun_mk (st := s_cells_with_units) l6 c6 k6
  have F7 := fun_mk (st := s_case_by_lifts) l7 c7 k7
  have F8 := fun_mk (st := s_lay_out) l8 c8 k8
  have F9 := fun_mk (st := s_d_law_cell) l9 c9 k9
  have F10 := fun_mk (st := s_d_law_bag) l10 c10 k10
  have F11 := fun_mk (st := s_d_law_take) l11 c11 k11
  have F12 := fun_mk (st := s_d_law_least) l12 c12 k12
  have F13 := fun_mk (st := s_d_law_all_units) l13 c13 k13
  have F14 := fun_mk (st := s_d_law_due) l14 c14 k14
  have F15 := fun_mk (st := s_d_law_said) l15 c15 k15
  have F16 := fun_mk (st := s_law) l16 c16 k16
  refine ⟨⟨f0, _, f1, _, f2, _, f3, _, f4, _, f5, _, f6, _, f7, _, f8, _, f9, _, f10, _, f11, _, f12, _, f13, _, f14, _, f15, _, f16, _, cX_NoLayout⟩, ⟨
    xe_NoLayout, PySem.W.mg_of X G xa_NoLayout,
    xca_0_0,
    F0, PySem.W.mg_of X G a0, k0, F0.binds (ps := ["case"]) fun _ _ _ _ _ _ us hl => match us, hl with | [_], _ => rfl,
    F1, PySem.W.mg_of X G a1, k1, F1.binds (ps := ["case"]) fun _ _ _ _ _ _ us hl => match us, hl with | [_], _ => rfl,
    F2, PySem.W.mg_of X G a2, k2, F2.binds (ps := ["letters"]) fun _ _ _ _ _ _ us hl => match us, hl with | [_], _ => rfl,
    F3, PySem.W.mg_of X G a3, k3, F3.binds (ps := ["many", "wide"]) fun _ _ _ _ _ _ us hl => match us, hl with | [_, _], _ => rfl,
    F4, PySem.W.mg_of X G a4, k4, F4.binds (ps := ["units", "ways", "names", "size"]) fun _ _ _ _ _ _ us hl => match us, hl with | [_, _, _, _], _ => rfl,
    F5, PySem.W.mg_of X G a5, k5, F5.binds (ps := ["size", "names"]) fun _ _ _ _ _ _ us hl => match us, hl with | [_, _], _ => rfl,
    F6, PySem.W.mg_of X G a6, k6, F6.binds (ps := ["units", "names", "came", "lift"]) fun _ _ _ _ _ _ us hl => match us, hl with | [_, _, _, _], _ => rfl,
    F7, PySem.W.mg_of X G a7, k7, F7.binds (ps := ["size", "names", "lifts"]) fun _ _ _ _ _ _ us hl => match us, hl with | [_, _, _], _ => rfl,
    F8, PySem.W.mg_of X G a8, k8, F8.binds (ps := ["size", "letters"]) fun _ _ _ _ _ _ us hl => match us, hl with | [_, _], _ => rfl,
    F9, PySem.W.mg_of X G a9, k9, F9.binds (ps := ["_law_script", "_law_k"]) fun _ _ _ _ _ _ us hl => match us, hl with | [_, _], _ => rfl,
    F10, PySem.W.mg_of X G a10, k10, F10.binds (ps := ["_law_script", "_law_at"]) fun _ _ _ _ _ _ us hl => match us, hl with | [_, _], _ => rfl,
    F11, PySem.W.mg_of X G a11, k11, F11.binds (ps := ["_law_bag_here", "_law_many"]) fun _ _ _ _ _ _ us hl => match us, hl with | [_, _], _ => rfl,
    F12, PySem.W.mg_of X G a12, k12, F12.binds (ps := ["_law_widths", "_law_units", "_law_room"]) fun _ _ _ _ _ _ us hl => match us, hl with | [_, _, _], _ => rfl,
    F13, PySem.W.mg_of X G a13, k13, F13.binds (ps := ["_law_low", "_law_high", "_law_many"]) fun _ _ _ _ _ _ us hl => match us, hl with | [_, _, _], _ => rfl,
    F14, PySem.W.mg_of X G a14, k14, F14.binds (ps := ["_law_size", "_law_widths"]) fun _ _ _ _ _ _ us hl => match us, hl with | [_, _], _ => rfl,
    F15, PySem.W.mg_of X G a15, k15, F15.binds (ps := ["_law_size", "_law_letters"]) fun _ _ _ _ _ _ us hl => match us, hl with | [_, _], _ => rfl,
    F16, PySem.W.mg_of X G a16, k16, F16.binds (ps := ["_law_script"]) fun _ _ _ _ _ _ us hl => match us, hl with | [_], _ => rfl,
    PySem.W.mg_none_of X G z_abs,
    PySem.W.mg_none_of X G z_all,
    PySem.W.mg_none_of X G z_bool,
    PySem.W.mg_none_of X G z_enumerate,
    PySem.W.mg_none_of X G z_int,
    PySem.W.mg_none_of X G z_isinstance,
    PySem.W.mg_none_of X G z_len,
    PySem.W.mg_none_of X G z_max,
    PySem.W.mg_none_of X G z_min,
    PySem.W.mg_none_of X G z_range,
    PySem.W.mg_none_of X G z_tuple,
    ⟨_, PySem.W.mg_of X G q_BLANK⟩,
    ⟨_, PySem.W.mg_of X G q_GREATEST_UNITS⟩⟩, _, _, _, _, _, _, rfl⟩
theorem walk {l : PySem.W.OpenLaw} {q : Program} {loose : List Str} {XP : (Str → Option Value) → Heap → Prop} {YP : World → Heap → Prop} {d : DefRec} {K : Params → PySem.W.Frag} (hn : l.most = some 63) (hdf : d.params.defaults = [])
    (hY : ∀ (w : World) (h : Heap), YP w h → (K w.params).In h)
    (F : ∀ (w : World) (mg : Str → Option Value) (fa : Addr) (h : Heap), (K w.params).In h → h.Ns mainGlobals mg → mg d.name = some (.ref fa) →
      ∃ fd : FuncData, (∀ (s : Shared) (u : Value), BindsTo s fd ⟨[u], []⟩ [("_law_script", u)]) ∧ ∀ base : Heap, (K w.params).In base → base.Ns mainGlobals mg → FnOk l.prog w (K w.params) mg base CX0 9 fa fd ["_law_script"] (spP (K w.params) 1 .cl sd_law)) :
    PySem.W.WalkO q loose XP YP l.row.toRowW d [] (fun f vs => PySem.call f vs) :=
  L2.walk_of (n := 63) (k := 9) (x := "_law_script") (CX := fun _ => CX0) (sp := fun w => spP (K w.params) 1 .cl sd_law) hn (by decide) hdf ⟨rfl, by decide, by decide⟩ hY F (fun _ _ a ns hl hO hS => spLaw hl hO hS) fun _ _ _ _ _ z => z
end Rc
open PySem PySem.W PyProof.Rows
set_option maxRecDepth 100000 in
set_option maxHeartbeats 0 in
theorem PySem.Challenge.cw_ribboncast_k21_laid_out_by_all_ways_holds : PySem.Challenge.rw_ribboncast_k21_laid_out_by_all_ways.Holds := by
  w_on; o_law; k_head; (case hw => w_witness2)
  k_fill
  refine Rc.walk (l := PySem.Challenge.rw_ribboncast_k21_laid_out_by_all_ways) rfl rfl (fun w h Y => PySem.W.kIn_of Y) ?F
  case F =>
    intro w mg fa h KX G hmg
    have T : ∃ t : Rc.Adr, Rc.Txt (L2.KOf KX) mg t ∧ Rc.LawD t := by
      dsimp only [L2.KOf]
      refine' Rc.txt_mk (w := w) KX G ?xa_NoLayout ?xe_NoLayout ?xca_0_0 ?a0 ?l0 ?c0 ?k0 ?a1 ?l1 ?c1 ?k1 ?a2 ?l2 ?c2 ?k2 ?a3 ?l3 ?c3 ?k3 ?a4 ?l4 ?c4 ?k4 ?a5 ?l5 ?c5 ?k5 ?a6 ?l6 ?c6 ?k6 ?a7 ?l7 ?c7 ?k7 ?a8 ?l8 ?c8 ?k8 ?a9 ?l9 ?c9 ?k9 ?a10 ?l10 ?c10 ?k10 ?a11 ?l11 ?c11 ?k11 ?a12 ?l12 ?c12 ?k12 ?a13 ?l13 ?c13 ?k13 ?a14 ?l14 ?c14 ?k14 ?a15 ?l15 ?c15 ?k15 ?a16 ?l16 ?c16 ?k16 ?z_abs ?z_all ?z_bool ?z_enumerate ?z_int ?z_isinstance ?z_len ?z_max ?z_min ?z_range ?z_tuple ?q_BLANK ?q_GREATEST_UNITS
      (case xa_NoLayout => k_is)
      (case xe_NoLayout => kernel_rfl)
      (case xca_0_0 => kernel_rfl)
      (case a0 => k_is)
      (case l0 => k_is)
      (case c0 => k_is)
      (case k0 => k_is)
      (case a1 => k_is)
      (case l1 => k_is)
      (case c1 => k_is)
      (case k1 => k_is)
      (case a2 => k_is)
      (case l2 => k_is)
      (case c2 => k_is)
      (case k2 => k_is)
      (case a3 => k_is)
      (case l3 => k_is)
      (case c3 => k_is)
      (case k3 => k_is)
      (case a4 => k_is)
      (case l4 => k_is)
      (case c4 => k_is)
      (case k4 => k_is)
      (case a5 => k_is)
      (case l5 => k_is)
      (case c5 => k_is)
      (case k5 => k_is)
      (case a6 => k_is)
      (case l6 => k_is)
      (case c6 => k_is)
      (case k6 => k_is)
      (case a7 => k_is)
      (case l7 => k_is)
      (case c7 => k_is)
      (case k7 => k_is)
      (case a8 => k_is)
      (case l8 => k_is)
      (case c8 => k_is)
      (case k8 => k_is)
      (case a9 => k_is)
      (case l9 => k_is)
      (case c9 => k_is)
      (case k9 => k_is)
      (case a10 => k_is)
      (case l10 => k_is)
      (case c10 => k_is)
      (case k10 => k_is)
      (case a11 => k_is)
      (case l11 => k_is)
      (case c11 => k_is)
      (case k11 => k_is)
      (case a12 => k_is)
      (case l12 => k_is)
      (case c12 => k_is)
      (case k12 => k_is)
      (case a13 => k_is)
      (case l13 => k_is)
      (case c13 => k_is)
      (case k13 => k_is)
      (case a14 => k_is)
      (case l14 => k_is)
      (case c14 => k_is)
      (case k14 => k_is)
      (case a15 => k_is)
      (case l15 => k_is)
      (case c15 => k_is)
      (case k15 => k_is)
      (case a16 => k_is)
      (case l16 => k_is)
      (case c16 => k_is)
      (case k16 => k_is)
      (case z_abs => k_is)
      (case z_all => k_is)
      (case z_bool => k_is)
      (case z_enumerate => k_is)
      (case z_int => k_is)
      (case z_isinstance => k_is)
      (case z_len => k_is)
      (case z_max => k_is)
      (case z_min => k_is)
      (case z_range => k_is)
      (case z_tuple => k_is)
      (case q_BLANK => k_is)
      (case q_GREATEST_UNITS => k_is)
    obtain ⟨t, T, _, _, _, _, _, _, e2⟩ := T
    dsimp only [L2.KOf] at T
    have e0 := hmg.symm.trans T.m_law
    cases e0
    refine ⟨t.d_law, fun s u => ?_, fun base _ _ => Rc.ok_law T⟩
    rw [e2]; exact .of_eq rfl
#print axioms PySem.Challenge.cw_ribboncast_k21_laid_out_by_all_ways_holds
