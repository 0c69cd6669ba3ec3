import PyProof.Rows.All
import Wide.All
import OpenK.AllK
import Wide.FinOn
import Lean
import PyProof.EqAt
import PyProof.EqKinds
import PyProof.TupleCall
import PyProof.NeKinds
import PyProof.Draws
import PyProof.EnumMake
import PyProof.DictWalks
import PyProof.Rows.SortStr
import PyProof.SumWalk
import PyProof.ZipIter
import PyProof.Rows.ZipGen
import KE.KDictSum
import PyProof.DictCompW
import PyProof.Rows.FStr
import PyProof.Rows.FStrParts
import PyProof.Rows.StrIntSpec
import PyProof.StrOps2
import PyProof.StrWalks
import PyProof.FString5
import PyProof.Rows.SetFrom
import PyProof.StrCalls2
import PyProof.StrLawsTight
import PyProof.StrLawsChain
import KE.KIntText
import PyProof.DictItems
import KE.KPairComp
import KE.KDictLaws
import PyProof.MinMaxWalk
import PyProof.WalkInts
import PySem.Challenge.RW_ribboncast_k10_whole_case_to_holes
set_option Elab.async false
set_option linter.all false
set_option maxRecDepth 100000
namespace L2
open PySem PySem.Spec PyProof.Rows
noncomputable abbrev Key := Sum Int Str
noncomputable def keyIs : Key → Value → Bool
  | .inl k, v => Value.isInt k v
  | .inr x, v => Value.isStrOf x v
noncomputable def keyH (w : World) : Key → Int
  | .inl k => hashInt k
  | .inr x => hashStr w x
theorem keyIs_shape : ∀ {k : Key} {v : Value}, keyIs k v = true → (∃ i t, k = Sum.inl i ∧ v = Value.int i t) ∨ (∃ x t, k = Sum.inr x ∧ v = Value.str x t)
  | .inl i, v, h => by
    obtain ⟨t, e⟩ := Value.isInt_shape (k := i) (v := v) h
    exact .inl ⟨i, t, rfl, e⟩
  | .inr x, v, h => by
    obtain ⟨t, e⟩ := Value.isStrOf_shape (x := x) (v := v) h
    exact .inr ⟨x, t, rfl, e⟩
theorem keyIs_int (i : Int) (t : Tok) : keyIs (.inl i) (.int i t) = true := by simp [keyIs, Value.isInt]
theorem keyIs_str (x : Str) (t : Tok) : keyIs (.inr x) (.str x t) = true := by simp [keyIs, Value.isStrOf]
theorem key_ll (a b : Int) : decide ((Sum.inl a : Key) = Sum.inl b) = (a == b) := by
  by_cases e : a = b
  · subst e; simp
  · have h : ¬ (Sum.inl a : Key) = Sum.inl b := fun q => e (Sum.inl.inj q)
    rw [decide_eq_false h]
    exact (beq_eq_false_iff_ne.mpr e).symm
theorem key_rr (a b : Str) : decide ((Sum.inr a : Key) = Sum.inr b) = decide (a = b) := by
  by_cases e : a = b
  · subst e; simp
  · have h : ¬ (Sum.inr a : Key) = Sum.inr b := fun q => e (Sum.inr.inj q)
    rw [decide_eq_false h, decide_eq_false e]
theorem key_lr (a : Int) (b : Str) : decide ((Sum.inl a : Key) = Sum.inr b) = false := decide_eq_false (fun q => nomatch q)
theorem key_rl (a : Str) (b : Int) : decide ((Sum.inr a : Key) = Sum.inl b) = false := decide_eq_false (fun q => nomatch q)
noncomputable def mixKind (prog : Program) (w : World) : PySem.KeyKind prog w Key where
  is := keyIs
  hash := keyH w
  inj := fun v a b ha hb => by
    rcases keyIs_shape ha with ⟨i, t, rfl, rfl⟩ | ⟨x, t, rfl, rfl⟩
    · rcases keyIs_shape hb with ⟨j, u, rfl, e⟩ | ⟨y, u, rfl, e⟩
      · injection e with e1 _; rw [e1]
      · exact nomatch e
    · rcases keyIs_shape hb with ⟨j, u, rfl, e⟩ | ⟨y, u, rfl, e⟩
      · exact nomatch e
      · injection e with e1 _; rw [e1]
  byValue := fun k v h => by
    rcases keyIs_shape h with ⟨i, t, rfl, rfl⟩ | ⟨x, t, rfl, rfl⟩ <;> rfl
  pyHash := fun hv h => by
    rcases keyIs_shape hv with ⟨i, t, rfl, rfl⟩ | ⟨x, t, rfl, rfl⟩
    · exact wpAny_pyHash_int h
    · exact wpAny_pyHash_str h
  eqBool := fun hu hv h => by
    rcases keyIs_shape hu with ⟨i, t, rfl, rfl⟩ | ⟨x, t, rfl, rfl⟩
    · rcases keyIs_shape hv with ⟨j, u, rfl, rfl⟩ | ⟨y, u, rfl, rfl⟩
      · rw [key_ll] at h; exact wpAny_eqBool_int h
      · rw [key_lr] at h; exact SeqAt.EqAt.int_str i t y u _ _ _ _ h
    · rcases keyIs_shape hv with ⟨j, u, rfl, rfl⟩ | ⟨y, u, rfl, rfl⟩
      · rw [key_rl] at h; exact SeqAt.EqAt.str_int x t j u _ _ _ _ h
      · rw [key_rr] at h; exact wpAny_eqBool_str h
  «strs» := fun k x t v h => by
    rcases keyIs_shape h with ⟨i, u, rfl, e⟩ | ⟨y, u, rfl, e⟩
    · exact nomatch e
    · injection e with e1 _
      subst e1
      cases v <;> rfl
theorem mixKind_int (prog : Program) (w : World) (i : Int) (t : Tok) : (mixKind prog w).is (.inl i) (.int i t) = true := keyIs_int i t
theorem mixKind_str (prog : Program) (w : World) (x : Str) (t : Tok) : (mixKind prog w).is (.inr x) (.str x t) = true := keyIs_str x t
inductive V where
  | non | bl (b : Bool) | int (i : Int) | str (x : Str) | byt (b : Array UInt8) | flt (b : UInt64) | ref (a : Addr) | ty (n : String)
  deriving DecidableEq
noncomputable def RelV : V → Value → Prop
  | .non, u => u = Value.none
  | .bl b, u => u = Value.bool b
  | .int i, u => ∃ t, u = Value.int i t
  | .str x, u => ∃ t, u = Value.str x t
  | .byt b, u => ∃ t, u = Value.bytes b t
  | .flt b, u => ∃ t, u = Value.float b t
  | .ref a, u => u = Value.ref a
  | .ty n, u => u = Value.type n
noncomputable abbrev Vals : List V → List Value → Prop := Paired RelV
theorem Vals.length {xs : List V} {us : List Value} (r : Vals xs us) : xs.length = us.length := Paired.length r
theorem Vals.get : ∀ {xs : List V} {us : List Value} {i : Nat} {x : V}, Vals xs us → xs[i]? = some x → ∃ u, us[i]? = some u ∧ RelV x u
  | _, _, _, _, .nil, e => by simp at e
  | _, _, 0, _, .cons r _, e => by simp at e; subst e; exact ⟨_, rfl, r⟩
  | _, _, i + 1, x, .cons _ t, e => by
    obtain ⟨u, h1, h2⟩ := Vals.get (i := i) (x := x) t (by simpa using e)
    exact ⟨u, by simpa using h1, h2⟩
theorem Vals.set {x : V} {u : Value} (r : RelV x u) : ∀ {xs : List V} {us : List Value} (i : Nat), Vals xs us → Vals (xs.set i x) (us.set i u)
  | _, _, _, .nil => .nil
  | _, _, 0, .cons _ t => .cons r t
  | _, _, i + 1, .cons q t => .cons q (Vals.set r i t)
theorem Vals.append : ∀ {xs ys : List V} {us ws : List Value}, Vals xs us → Vals ys ws → Vals (xs ++ ys) (us ++ ws)
  | _, _, _, _, .nil, s => s
  | _, _, _, _, .cons r t, s => .cons r (Vals.append t s)
theorem Vals.take : ∀ {xs : List V} {us : List Value} (n : Nat), Vals xs us → Vals (xs.take n) (us.take n)
  | _, _, 0, _ => .nil
  | _, _, _ + 1, .nil => .nil
  | _, _, n + 1, .cons r t => .cons r (Vals.take n t)
theorem Vals.drop : ∀ {xs : List V} {us : List Value} (n : Nat), Vals xs us → Vals (xs.drop n) (us.drop n)
  | _, _, 0, r => r
  | _, _, _ + 1, .nil => .nil
  | _, _, n + 1, .cons _ t => Vals.drop n t
noncomputable def RelO : Option V → Option Value → Prop
  | some v, some u => RelV v u
  | none, none => True
  | _, _ => False
noncomputable def KV {κ : Type} : List (κ × V) → List (κ × Value) → Prop := Paired fun (p : κ × V) (q : κ × Value) => p.1 = q.1 ∧ RelV p.2 q.2
noncomputable def kV : Key → V
  | .inl i => .int i
  | .inr x => .str x
inductive HO where
  | lst (xs : List V)
  | tup (xs : List V)
  | dK (kvs : List (Key × V)) | dT (kvs : List (List Key × V))
  | set (S : Int → Bool) (n : Nat)
  | ins (C dx : Addr) (fs : List (Str × V))
  | own (x : Addr)
  | xd (fs : List (Str × V))
  | met (f x : Addr)
  | rng (lo hi : Int)
  | frz (o : Obj) (u : HO)
  | tbl (ps : Array Value)
  | ext (φ : Heap → Prop)
  | dU (kvs : List (List Key × Addr × V))
noncomputable abbrev Hp := Addr → Option HO
noncomputable def upd (H : Hp) (a : Addr) (o : HO) : Hp := fun b => if b = a then some o else H b
theorem upd_same {H : Hp} {a : Addr} {o : HO} : upd H a o a = some o := by unfold upd; rw [if_pos rfl]
theorem upd_ne {H : Hp} {a b : Addr} {o : HO} (h : b ≠ a) : upd H a o b = H b := by unfold upd; rw [if_neg h]
theorem ne_of_none {H : Hp} {a b : Addr} {o : HO} (h : H a = some o) (h' : H b = none) : a ≠ b := by
  intro e; subst e; rw [h] at h'; cases h'
section
variable (P : Program) (w : World)
noncomputable def ObjOk (H : Hp) (h : Heap) (a : Addr) : HO → Prop
  | .lst xs => xs.length ≤ sizeLine ∧ ∃ (its : List Value) (n : Nat), Vals xs its ∧ h.get? a = some { cls := .type "list", data := .seq its.toArray n }
  | .tup xs => xs.length ≤ sizeLine ∧ ∃ its : List Value, Vals xs its ∧ IsTup h a its.toArray
  | .dK kvs => kvs.length ≤ sizeLine ∧ (a == sysModules) = false ∧ ∃ vs, KV kvs vs ∧ h.DictOf (mixKind P w) a vs
  | .dT kvs => kvs.length ≤ sizeLine ∧ (a == sysModules) = false ∧ ∃ xs : List (List Key × Addr × Value),
      Paired (fun (p : List Key × V) (q : List Key × Addr × Value) => p.1 = q.1 ∧ H q.2.1 = some (.tup (p.1.map kV)) ∧ RelV p.2 q.2.2) kvs xs ∧
      ∃ o es ep, h.get? a = some o ∧ o.ExactDict ∧ o.data = .dict es ep ∧ es.toList = xs.map (entryOfKey (tupleKind (mixKind P w))) ∧ (xs.map (·.1)).Nodup
  | .set S n => h.SetOf (intKind P w) a S n
  | .ins C dx fs => H dx = some (.own a) ∧ fs.length ≤ 1000 ∧ dx ≠ a ∧ h.get? a = some (PySem.W.instObj C dx) ∧
      ∃ mA, h.Ns1 dx mA ∧ (∀ f, RelO (fs.lookup f) (mA f)) ∧ PySem.Within mA (fs.map (·.1))
  | .own _ => ∃ o, h.get? a = some o
  | .xd fs => ∃ mA, h.Ns1 a mA ∧ ∀ f, RelO (fs.lookup f) (mA f)
  | .rng lo hi => ∃ t u v, h.get? a = some { cls := .type "range", data := .fields #[.int lo t, .int hi u, .int 1 v] }
  | .frz o u => h.get? a = some o ∧ ObjOk H h a u
  | .tbl ps => h.get? a = some { cls := .none, data := .fields ps }
  | .met f x => h.get? a = some (PySem.W.methodObj (.ref f) (.ref x))
  | .ext φ => φ h ∧ (∃ o, h.get? a = some o) ∧ ∀ h1 h2 : Heap, φ h1 → (∀ o, h1.get? a = some o → h2.get? a = some o) → φ h2
  | .dU kvs => kvs.length ≤ sizeLine ∧ (a == sysModules) = false ∧ ∃ xs : List (List Key × Addr × Value), Paired (fun (p : List Key × Addr × V) (q : List Key × Addr × Value) => p.1 = q.1 ∧ p.2.1 = q.2.1 ∧ RelV p.2.2 q.2.2) kvs xs ∧
      ∃ o es ep, h.get? a = some o ∧ o.ExactDict ∧ o.data = .dict es ep ∧ es.toList = xs.map (entryOfKey (tupleKind (mixKind P w))) ∧ (xs.map (·.1)).Nodup
noncomputable def HOk (H : Hp) (h : Heap) : Prop := ∀ a o, H a = some o → ObjOk P w H h a o
end
section
variable {P : Program} {w : World} {H H' : Hp} {h h' : Heap} {a : Addr} {o : HO}
theorem ObjOk.lt (x : ObjOk P w H h a o) : a < h.objs.size := by
  cases o with
  | lst xs => obtain ⟨_, _, _, _, e⟩ := x; exact Heap.lt_size e
  | tup xs => obtain ⟨_, _, _, p⟩ := x; exact p.lt
  | dK kvs => obtain ⟨_, _, _, _, o, _, _, e, _⟩ := x; exact Heap.lt_size e
  | dT kvs => obtain ⟨_, _, _, _, o, _, _, e, _⟩ := x; exact Heap.lt_size e
  | set S n => obtain ⟨o, _, _, _, e, _⟩ := x; exact Heap.lt_size e
  | ins C dx fs => obtain ⟨_, _, _, e, _⟩ := x; exact Heap.lt_size e
  | own y => obtain ⟨_, e⟩ := x; exact Heap.lt_size e
  | xd fs => obtain ⟨_, ⟨_, _, _, e, _⟩, _⟩ := x; exact Heap.lt_size e
  | rng lo hi => obtain ⟨_, _, _, e⟩ := x; exact Heap.lt_size e
  | frz ob u => obtain ⟨e, _⟩ := x; exact Heap.lt_size e
  | tbl ps => exact Heap.lt_size (show h.get? a = some _ from x)
  | met f y => exact Heap.lt_size (show h.get? a = some _ from x)
  | ext φ => obtain ⟨_, ⟨_, e⟩, _⟩ := x; exact Heap.lt_size e
  | dU kvs => obtain ⟨_, _, _, _, o, _, _, e, _⟩ := x; exact Heap.lt_size e
theorem Paired.mapP {α β : Type} {F G : α → β → Prop} : ∀ {l₁ : List α} {l₂ : List β}, Paired F l₁ l₂ → (∀ a b, F a b → G a b) → Paired G l₁ l₂
  | _, _, .nil, _ => .nil
  | _, _, .cons r t, f => .cons (f _ _ r) (Paired.mapP t f)
theorem ObjOk.stay (x : ObjOk P w H h a o) (k : ∀ b u, (b = a ∨ H b = some (.own a)) → h.get? b = some u → h'.get? b = some u)
    (ho : ∀ b, H b = some (.own a) → H' b = some (.own a)) (ht : ∀ b xs, H b = some (.tup xs) → H' b = some (.tup xs)) : ObjOk P w H' h' a o := by
  induction o with
  | lst xs => obtain ⟨z, its, n, r, e⟩ := x; exact ⟨z, its, n, r, k _ _ (.inl rfl) e⟩
  | tup xs => obtain ⟨z, its, r, ob, e, c⟩ := x; exact ⟨z, its, r, ob, k _ _ (.inl rfl) e, c⟩
  | dK kvs => obtain ⟨z, y, vs, r, ob, es, ep, e, c⟩ := x; exact ⟨z, y, vs, r, ob, es, ep, k _ _ (.inl rfl) e, c⟩
  | dT kvs =>
    obtain ⟨z, y, xs, r, ob, es, ep, e, c⟩ := x
    exact ⟨z, y, xs, Paired.mapP r fun p q z => ⟨z.1, ht _ _ z.2.1, z.2.2⟩, ob, es, ep, k _ _ (.inl rfl) e, c⟩
  | set S n => obtain ⟨ob, es, ep, t, e, c⟩ := x; exact ⟨ob, es, ep, t, k _ _ (.inl rfl) e, c⟩
  | ins C dx fs =>
    obtain ⟨d, z, ne, e, mA, ⟨od, es, ep, e2, c⟩, r⟩ := x
    exact ⟨ho _ d, z, ne, k _ _ (.inl rfl) e, mA, ⟨od, es, ep, k _ _ (.inr d) e2, c⟩, r⟩
  | own y => obtain ⟨ob, e⟩ := x; exact ⟨ob, k _ _ (.inl rfl) e⟩
  | xd fs => obtain ⟨mA, ⟨od, es, ep, e, c⟩, r⟩ := x; exact ⟨mA, ⟨od, es, ep, k _ _ (.inl rfl) e, c⟩, r⟩
  | rng lo hi => obtain ⟨t, u, v, e⟩ := x; exact ⟨t, u, v, k _ _ (.inl rfl) e⟩
  | frz ob u ih => obtain ⟨e, q⟩ := x; exact ⟨k _ _ (.inl rfl) e, ih q⟩
  | tbl ps =>
    have e : h.get? a = some { cls := .none, data := .fields ps } := x
    show h'.get? a = some { cls := .none, data := .fields ps }
    exact k a _ (.inl rfl) e
  | met f y =>
    have e : h.get? a = some (PySem.W.methodObj (.ref f) (.ref y)) := x
    show h'.get? a = some (PySem.W.methodObj (.ref f) (.ref y))
    exact k a _ (.inl rfl) e
  | ext φ => obtain ⟨p, ⟨o, e⟩, st⟩ := x; exact ⟨st _ _ p fun o q => k _ _ (.inl rfl) q, ⟨o, k _ _ (.inl rfl) e⟩, st⟩
  | dU kvs => obtain ⟨z, y, xs, r, ob, es, ep, e, c⟩ := x; exact ⟨z, y, xs, r, ob, es, ep, k _ _ (.inl rfl) e, c⟩
theorem HOk.lt (x : HOk P w H h) (e : H a = some o) : a < h.objs.size := (x a o e).lt
theorem HOk.fresh (x : HOk P w H h) (e : h.objs.size ≤ a) : H a = none := by
  cases q : H a with
  | none => rfl
  | some u => exact absurd (Nat.lt_of_lt_of_le (x.lt q) e) (Nat.lt_irrefl _)
theorem HOk.kept (x : HOk P w H h) (k : ∀ b u, h.get? b = some u → h'.get? b = some u) : HOk P w H h' := fun a o e =>
  (x a o e).stay (fun b u _ q => k b u q) (fun _ q => q) fun _ _ q => q
theorem HOk.laid (x : HOk P w H h) (k : ∀ b u, h.get? b = some u → h'.get? b = some u) (hp : h.objs.size ≤ a) (new : ObjOk P w (upd H a o) h' a o) : HOk P w (upd H a o) h' := fun b u e => by
  have hn := x.fresh hp
  by_cases hb : b = a
  · subst hb; rw [upd_same] at e; cases e; exact new
  · rw [upd_ne hb] at e
    exact (x b u e).stay (fun c v _ q => k c v q) (fun c q => by rw [upd_ne (ne_of_none q hn)]; exact q) fun c xs q => by rw [upd_ne (ne_of_none q hn)]; exact q
end
noncomputable def Rd (H : Hp) (a : Addr) (u : HO) : Prop := H a = some u ∨ ∃ o, H a = some (.frz o u)
theorem Rd.ok {P : Program} {w : World} {H : Hp} {h : Heap} {a : Addr} {u : HO} (r : Rd H a u) (x : HOk P w H h) : ObjOk P w H h a u := by
  rcases r with r | ⟨o, r⟩
  · exact x a u r
  · obtain ⟨_, q⟩ := x a _ r
    exact q
noncomputable def Mut : Option HO → Prop
  | some (.lst _) => True
  | some (.dK _) => True
  | some (.dT _) => True
  | some (.set _ _) => True
  | some (.ins _ _ _) => True
  | some (.ext _) => True
  | some (.dU _) => True
  | _ => False
section
variable {P : Program} {w : World} {H : Hp} {h h' : Heap} {x e : Addr} {o' : HO}
theorem HOk.write (ok : HOk P w H h) (mu : Mut (H x)) (he : e = x ∨ H e = some (.own x)) (k : ∀ b u, b ≠ e → h.get? b = some u → h'.get? b = some u) (heo : ∃ u, h'.get? e = some u)
    (new : ObjOk P w (upd H x o') h' x o') : HOk P w (upd H x o') h' := fun b u q => by
  have nown : ∀ c y, H c = some (.own y) → c ≠ x := fun c y r z => by subst z; rw [r] at mu; exact mu
  have ntup : ∀ c xs, H c = some (.tup xs) → c ≠ x := fun c xs r z => by subst z; rw [r] at mu; exact mu
  by_cases hb : b = x
  · subst hb; rw [upd_same] at q; cases q; exact new
  · rw [upd_ne hb] at q
    by_cases hbe : b = e
    · have q' : H b = some (.own x) := by
        rcases he with z | z
        · exact absurd (hbe.trans z) hb
        · rw [hbe]; exact z
      rw [q] at q'; cases q'
      obtain ⟨v, hv⟩ := heo
      exact ⟨v, by rw [hbe]; exact hv⟩
    · refine (ok b u q).stay (fun c v hc r => k c v ?_ r) (fun c r => by rw [upd_ne (nown c b r)]; exact r) fun c xs r => by rw [upd_ne (ntup c xs r)]; exact r
      rcases hc with rfl | hc
      · exact hbe
      · rintro rfl
        rcases he with z | z
        · exact nown c b hc z
        · rw [hc] at z; cases z; exact hb rfl
end
structure Un (fs ex : List Addr) (H H' : Hp) (h h' : Heap) : Prop where
  keep : ∀ b o, h.get? b = some o → H b = none → b ∉ fs → b ∉ ex → h'.get? b = some o
  slot : ∀ b o, h.get? b = some o → H b = none → b ∈ fs → b ∉ ex → ∃ sl, h'.get? b = some { o with slots := sl }
  free : ∀ b o, h.get? b = some o → H b = none → b ∉ ex → H' b = none
  there : ∀ b o, h.get? b = some o → b ∉ ex → ∃ o', h'.get? b = some o'
  tups : ∀ b xs, H b = some (.tup xs) → H' b = some (.tup xs)
  frzs : ∀ b o u, H b = some (.frz o u) → H' b = some (.frz o u)
  tbls : ∀ b ps, H b = some (.tbl ps) → ∃ more, H' b = some (.tbl (ps ++ more))
section
variable {fs fs' ex ex' : List Addr} {H H1 H2 : Hp} {h h1 h2 h' : Heap} {a x e : Addr} {o : HO}
theorem Un.any (u : Un fs ex H H1 h h1) {b : Addr} {ob : Obj} (q : h.get? b = some ob) (n : H b = none) (hx : b ∉ ex) : ∃ sl, h1.get? b = some { ob with slots := sl } := by
  by_cases hb : b ∈ fs
  · exact u.slot b ob q n hb hx
  · exact ⟨ob.slots, u.keep b ob q n hb hx⟩
theorem Un.kept (k : ∀ b u, h.get? b = some u → h'.get? b = some u) : Un fs ex H H h h' :=
  ⟨fun b ob q _ _ _ => k b ob q, fun b ob q _ _ _ => ⟨ob.slots, k b ob q⟩, fun _ _ _ n _ => n, fun b ob q _ => ⟨ob, k b ob q⟩, fun _ _ q => q, fun _ _ _ q => q, fun _ ps q => ⟨#[], by rw [q]; simp⟩⟩
theorem Un.refl : Un fs ex H H h h := Un.kept fun _ _ q => q
theorem Un.laid (k : ∀ b u, h.get? b = some u → h'.get? b = some u) (hp : h.objs.size ≤ a) (hn : H a = none) : Un fs ex H (upd H a o) h h' where
  keep := fun b u q _ _ _ => k b u q
  slot := fun b u q _ _ _ => ⟨u.slots, k b u q⟩
  free := fun b u q n _ => by rw [upd_ne (Nat.ne_of_lt (Nat.lt_of_lt_of_le (Heap.lt_size q) hp))]; exact n
  there := fun b u q _ => ⟨u, k b u q⟩
  tups := fun b xs q => by rw [upd_ne (ne_of_none q hn)]; exact q
  frzs := fun b u xs q => by rw [upd_ne (ne_of_none q hn)]; exact q
  tbls := fun b ps q => ⟨#[], by rw [upd_ne (ne_of_none q hn), q]; simp⟩
theorem Un.write (mu : Mut (H x)) (he : e = x ∨ H e = some (.own x)) (k : ∀ b u, b ≠ e → h.get? b = some u → h'.get? b = some u) (heo : ∃ u, h'.get? e = some u) : Un fs ex H (upd H x o) h h' := by
  have hx : ∀ b, H b = none → b ≠ x := fun b n z => by subst z; rw [n] at mu; exact mu
  have hb : ∀ b, H b = none → b ≠ e := fun b n z => by
    subst z
    rcases he with r | r
    · exact hx b n r
    · rw [n] at r; cases r
  have hm : ∀ b u, H b = some u → ¬ Mut (some u) → b ≠ x := fun b u q nm z => by subst z; rw [q] at mu; exact nm mu
  refine ⟨fun b u q n _ _ => k b u (hb b n) q, fun b u q n _ _ => ⟨u.slots, k b u (hb b n) q⟩, fun b u q n _ => by rw [upd_ne (hx b n)]; exact n, fun b u q _ => ?_,
    fun b xs q => by rw [upd_ne (hm b _ q fun z => z)]; exact q, fun b u xs q => by rw [upd_ne (hm b _ q fun z => z)]; exact q, fun b ps q => ⟨#[], by rw [upd_ne (hm b _ q fun z => z), q]; simp⟩⟩
  by_cases hbe : b = e
  · subst hbe; exact heo
  · exact ⟨u, k b u hbe q⟩
end
noncomputable def trk (h : Heap) (H : Hp) : List Addr := (List.range h.objs.size).filter fun a => (H a).isSome
noncomputable def hidT (h : Heap) (H : Hp) : Heap := PySem.W.hideAll h (trk h H)
theorem hidT_size (h : Heap) (H : Hp) : (hidT h H).objs.size = h.objs.size := PySem.W.hideAll_size _ _
theorem hidT_get {h : Heap} {H : Hp} {b : Addr} {o : Obj} (e : h.get? b = some o) (n : H b = none) : (hidT h H).get? b = some o :=
  PySem.W.hideAll_get _ e fun hm => by
    have q : (H b).isSome = true := (List.mem_filter.mp hm).2
    rw [n] at q; simp at q
theorem of_hidT {h : Heap} {H : Hp} {b : Addr} {o : Obj} (e : (hidT h H).get? b = some o) : h.get? b = some o ∧ H b = none := by
  have e' : h.get? b = some o := PySem.W.of_hideAll (trk h H) e
  refine ⟨e', ?_⟩
  cases q : H b with
  | none => rfl
  | some x =>
    have hm : b ∈ trk h H := List.mem_filter.mpr ⟨List.mem_range.mpr (Heap.lt_size e'), by simp [q]⟩
    have z : (hidT h H).get? b = none := PySem.W.hideAll_none (trk h H) hm
    rw [z] at e; cases e
structure Mod (K : PySem.W.Frag) (mg : Str → Option Value) (base : Heap) : Prop where
  kin : K.In base
  glob : base.Ns mainGlobals mg
  blt : ∃ mb, base.Ns builtinsNs mb ∧ ∀ x : Str, x ≠ "__name__" → mb x = bootBuiltins x
  nolimit : base.NoLimit
structure Cx where
  prog : Program
  w : World
  K : PySem.W.Frag
  mg : Str → Option Value
  base : Heap
  A : Around
  N : List Str
  s₀ : Shared
  H₀ : Hp
  env : Env
  outer : List Env
  stack : List Env
  ex : List Addr
  fn : Str → Bool
  calm : Bool
  pn : List (Addr × Obj)
  xe : Value → Shared → Prop
noncomputable def frs (l : List Env) : List Addr := l.filterMap (·.frame)
noncomputable abbrev Cx.fs (X : Cx) : List Addr := frs X.outer
noncomputable def Vis (sc : Scope) (x : Str) : Prop := sc.names.lookup x = some .local ∨ sc.names.lookup x = some .cell ∨ sc.names.lookup x = some .free
noncomputable def Loc (sc : Scope) (x : Str) : Prop := sc.names.lookup x = some .local ∨ sc.names.lookup x = some .cell
noncomputable def Look (env : Env) (h : Heap) (m : Str → Option Value) (x : Str) (u : Value) : Prop :=
  (env.kindOf x = some .local ∧ m x = some u) ∨ ((env.kindOf x = some .cell ∨ env.kindOf x = some .free) ∧ ∃ c, env.cells.lookup x = some c ∧ h.IsCell c (some u))
structure Cx.Ok (X : Cx) : Prop where
  mod : Mod X.K X.mg X.base
  kind : X.env.scope.kind = .function
  glob : X.env.globals = mainGlobals
  blt : X.env.builtins = builtinsNs
  above : X.s₀.heap.objs.size ≤ X.env.locals
  inj : ∀ x y c, X.env.cells.lookup x = some c → X.env.cells.lookup y = some c → x = y
  has : ∀ x, (X.env.kindOf x = some .cell ∨ X.env.kindOf x = some .free) → ∃ c, X.env.cells.lookup x = some c
  cab : ∀ x c, X.fn x = true → X.env.cells.lookup x = some c → X.s₀.heap.objs.size ≤ c
  hd : X.calm = true → X.A.handled = none
  frames : X.A.frames = some X.stack
  stk : X.stack = X.outer ∨ (X.stack = X.env :: X.outer ∧ X.env.frame = some X.env.locals)
  exf : ∀ b ∈ X.ex, b ≠ X.env.locals ∧ ∀ x c, X.env.cells.lookup x = some c → c ≠ b
  bs : ∀ b o, X.base.get? b = some o → X.s₀.heap.get? b = some o ∧ X.H₀ b = none
  bsz : X.base.objs.size ≤ X.s₀.heap.objs.size
  noex : ∀ b o, X.base.get? b = some o → b ∉ X.ex
  exfs : ∀ b ∈ X.ex, b ∉ X.fs
  funs : X.s₀.heap.FunFrames X.base X.outer
  frf : ∀ b ∈ X.fs, X.H₀ b = none
structure Inv (X : Cx) (pins : List (Addr × Obj)) (σ : List (Option V)) (H : Hp) (s : Shared) : Prop where
  ok : X.Ok
  os : s.os = X.s₀.os
  bare : AllBare s.gens
  base : Un X.fs X.ex X.H₀ H X.s₀.heap s.heap
  loc : ∃ m, s.heap.Ns X.env.locals m ∧ ∀ (i : Nat) (x : Str) (v : V), X.N[i]? = some x → σ[i]? = some (some v) → Vis X.env.scope x → ∃ u, RelV v u ∧ Look X.env s.heap m x u
  cell : ∀ x c, X.env.cells.lookup x = some c → ∃ v, s.heap.IsCell c v
  free : H X.env.locals = none
  freeC : ∀ x c, X.env.cells.lookup x = some c → H c = none
  pin : ∀ p ∈ X.pn ++ pins, s.heap.get? p.1 = some p.2 ∧ H p.1 = none ∧ p.1 ≠ X.env.locals ∧ p.1 ∉ X.fs ∧ ∀ v, p.2.data ≠ .cell v
  hok : HOk X.prog X.w H s.heap
  len : σ.length = X.N.length
section
variable {X : Cx} {pins : List (Addr × Obj)} {σ : List (Option V)} {H H' : Hp} {s : Shared} {h' : Heap}
theorem Cx.Ok.nofr (ok : X.Ok) {b : Addr} {o : Obj} (e : X.base.get? b = some o) : b ∉ X.fs := fun hb => by
  have := (ok.funs.mem hb).1
  rw [e] at this; cases this
theorem Inv.bs (I : Inv X pins σ H s) : ∀ b o, X.base.get? b = some o → s.heap.get? b = some o ∧ H b = none := fun b o e =>
  ⟨I.base.keep b o (I.ok.bs b o e).1 (I.ok.bs b o e).2 (I.ok.nofr e) (I.ok.noex b o e), I.base.free b o (I.ok.bs b o e).1 (I.ok.bs b o e).2 (I.ok.noex b o e)⟩
theorem Inv.bk (I : Inv X pins σ H s) : ∀ b o, X.base.get? b = some o → s.heap.get? b = some o := fun b o e => (I.bs b o e).1
theorem Inv.mod (I : Inv X pins σ H s) : Mod X.K X.mg X.base := I.ok.mod
theorem Inv.kIn (I : Inv X pins σ H s) : X.K.In s.heap := I.ok.mod.kin.keeps I.bk
theorem Inv.lt (I : Inv X pins σ H s) : X.env.locals < s.heap.objs.size := let ⟨_, hn, _⟩ := I.loc; hn.lt
theorem Inv.sz (I : Inv X pins σ H s) : X.s₀.heap.objs.size ≤ s.heap.objs.size := Nat.le_trans I.ok.above (Nat.le_of_lt I.lt)
theorem Inv.nofs (I : Inv X pins σ H s) {a : Addr} (h : s.heap.objs.size ≤ a) : a ∉ X.fs := fun hb => by
  obtain ⟨_, o, ho, _⟩ := I.ok.funs.mem hb
  exact absurd (Nat.lt_of_lt_of_le (Heap.lt_size ho) (Nat.le_trans I.sz h)) (Nat.lt_irrefl _)
theorem Inv.cne (I : Inv X pins σ H s) : ∀ x c, X.env.cells.lookup x = some c → c ≠ X.env.locals := fun x c e z => by
  obtain ⟨v, o, ho, hd⟩ := I.cell x c e
  obtain ⟨m, ⟨o', es, ep, ho', hd', _⟩, _⟩ := I.loc
  rw [z, ho'] at ho; cases ho; rw [hd'] at hd; cases hd
theorem Inv.funs (I : Inv X pins σ H s) : s.heap.FunFrames X.base X.outer := by
  have all : ∀ (l : List Env), (∀ b ∈ frs l, b ∈ X.fs) → X.s₀.heap.FunFrames X.base l → s.heap.FunFrames X.base l := by
    intro l
    induction l with
    | nil => intro _ _; trivial
    | cons env r ih =>
      intro hs hl
      obtain ⟨hk, ⟨L, o, hf, hn, ho, hd⟩, hr⟩ := hl
      have hL : L ∈ X.fs := hs L (by unfold frs; rw [List.filterMap_cons, hf]; exact List.mem_cons_self)
      obtain ⟨sl, e⟩ := I.base.slot L o ho (I.ok.frf L hL) hL fun z => I.ok.exfs L z hL
      exact ⟨hk, ⟨L, _, hf, hn, e, hd⟩, ih (fun b hb => hs b (by unfold frs; rw [List.filterMap_cons, hf]; exact List.mem_cons_of_mem _ hb)) hr⟩
  exact all X.outer (fun _ hb => hb) I.ok.funs
theorem Inv.stack (I : Inv X pins σ H s) : s.heap.FunFrames X.base X.stack := by
  rcases I.ok.stk with e | ⟨e, hf⟩
  · rw [e]; exact I.funs
  · rw [e]
    obtain ⟨m, hn, _⟩ := I.loc
    refine .cons (by rw [I.ok.kind]; decide) hf hn ?_ I.funs
    exact Heap.get?_none_of_le (Nat.le_trans I.ok.bsz I.ok.above)
theorem Inv.stkSub (I : Inv X pins σ H s) : ∀ b ∈ frs X.stack, b ∈ X.env.locals :: X.fs := fun b hb => by
  rcases I.ok.stk with e | ⟨e, hf⟩
  · rw [e] at hb; exact List.mem_cons_of_mem _ hb
  · rw [e] at hb
    unfold frs at hb
    rw [List.filterMap_cons, hf] at hb
    exact hb
theorem Inv.stkFree (I : Inv X pins σ H s) : ∀ b ∈ frs X.stack, H b = none := fun b hb => by
  rcases List.mem_cons.mp (I.stkSub b hb) with e | hb
  · rw [e]; exact I.free
  · obtain ⟨_, o, ho, _⟩ := I.ok.funs.mem hb
    exact I.base.free b o ho (I.ok.frf b hb) fun z => I.ok.exfs b z hb
theorem Inv.step {g' : Array GenState} {t' : Nat} {d' : Drawn} {ch : List Addr} (I : Inv X pins σ H s)
    (hch : ∀ b ∈ ch, (b ∈ X.ex ∨ X.s₀.heap.objs.size ≤ b) ∧ b ≠ X.env.locals ∧ (∀ x c, X.env.cells.lookup x = some c → c ≠ b) ∧ ∀ p ∈ X.pn ++ pins, p.1 ≠ b)
    (keep : ∀ b o, b ≠ X.env.locals → b ∉ X.fs → b ∉ ch → s.heap.get? b = some o → H b = none → h'.get? b = some o)
    (slot : ∀ b o, b ≠ X.env.locals → b ∈ X.fs → b ∉ ch → s.heap.get? b = some o → H b = none → ∃ sl, h'.get? b = some { o with slots := sl }) (free : ∀ b o, b ∉ ch → s.heap.get? b = some o → H b = none → H' b = none)
    (there : ∀ b o, b ∉ ch → s.heap.get? b = some o → ∃ o', h'.get? b = some o')
    (tups : ∀ b xs, H b = some (.tup xs) → H' b = some (.tup xs)) (frzs : ∀ b o u, H b = some (.frz o u) → H' b = some (.frz o u)) (tbls : ∀ b ps, H b = some (.tbl ps) → ∃ more, H' b = some (.tbl (ps ++ more)))
    (ns : ∀ m, s.heap.Ns X.env.locals m → h'.Ns X.env.locals m) (hok : HOk X.prog X.w H' h') (hg : AllBare g') :
    Inv X pins σ H' { s with heap := h', gens := g', drawn := d', toks := t' } := by
  have neL : ∀ b o, X.s₀.heap.get? b = some o → b ≠ X.env.locals := fun b o e => Nat.ne_of_lt (Nat.lt_of_lt_of_le (Heap.lt_size e) I.ok.above)
  have neC : ∀ b o, X.s₀.heap.get? b = some o → b ∉ X.ex → b ∉ ch := fun b o e hx hb => by
    rcases (hch b hb).1 with z | z
    · exact hx z
    · exact absurd (Nat.lt_of_lt_of_le (Heap.lt_size e) z) (Nat.lt_irrefl _)
  have cellK : ∀ x c, X.env.cells.lookup x = some c → ∀ v, s.heap.IsCell c v → h'.IsCell c v := fun x c e v ⟨o, ho, hd⟩ => by
    have nch : c ∉ ch := fun z => (hch c z).2.2.1 x c e rfl
    by_cases hc : c ∈ X.fs
    · obtain ⟨sl, q⟩ := slot c o (I.cne x c e) hc nch ho (I.freeC x c e)
      exact ⟨_, q, hd⟩
    · exact ⟨o, keep c o (I.cne x c e) hc nch ho (I.freeC x c e), hd⟩
  refine ⟨I.ok, I.os, hg, ⟨fun b o e n hb hx => ?_, fun b o e n hb hx => ?_, fun b o e n hx => ?_, fun b o e hx => ?_, fun b xs e => tups b xs (I.base.tups b xs e), fun b o xs e => frzs b o xs (I.base.frzs b o xs e), fun b ps e => ?_⟩, ?_, fun x c e => ?_, ?_, fun x c e => ?_, fun p hp => ?_, hok, I.len⟩
  · exact keep b o (neL b o e) hb (neC b o e hx) (I.base.keep b o e n hb hx) (I.base.free b o e n hx)
  · obtain ⟨sl, e1⟩ := I.base.slot b o e n hb hx
    obtain ⟨sl', e2⟩ := slot b _ (neL b o e) hb (neC b o e hx) e1 (I.base.free b o e n hx)
    exact ⟨sl', e2⟩
  · obtain ⟨o', e1⟩ := I.base.there b o e hx
    exact free b o' (neC b o e hx) e1 (I.base.free b o e n hx)
  · obtain ⟨o', e1⟩ := I.base.there b o e hx
    exact there b o' (neC b o e hx) e1
  · obtain ⟨m1, e1⟩ := I.base.tbls b ps e
    obtain ⟨m2, e2⟩ := tbls b _ e1
    exact ⟨m1 ++ m2, by rw [e2, Array.append_assoc]⟩
  · obtain ⟨m, hn, hl⟩ := I.loc
    refine ⟨m, ns m hn, fun i x v e1 e2 e3 => ?_⟩
    obtain ⟨u, r, l⟩ := hl i x v e1 e2 e3
    refine ⟨u, r, ?_⟩
    rcases l with l | ⟨k, c, e, z⟩
    · exact .inl l
    · exact .inr ⟨k, c, e, cellK x c e _ z⟩
  · obtain ⟨v, z⟩ := I.cell x c e
    exact ⟨v, cellK x c e v z⟩
  · obtain ⟨m, ⟨o, _, _, ho, _⟩, _⟩ := I.loc
    exact free _ o (fun z => (hch _ z).2.1 rfl) ho I.free
  · obtain ⟨v, o, ho, hd⟩ := I.cell x c e
    exact free c o (fun z => (hch c z).2.2.1 x c e rfl) ho (I.freeC x c e)
  · obtain ⟨e, n, ne, nf, d⟩ := I.pin p hp
    have nch : p.1 ∉ ch := fun z => (hch p.1 z).2.2.2 p hp rfl
    exact ⟨keep p.1 p.2 ne nf nch e n, free p.1 p.2 nch e n, ne, nf, d⟩
theorem Inv.un {t' : Nat} (I : Inv X pins σ H s) (u : Un X.fs [] H H' s.heap h') (hok : HOk X.prog X.w H' h') : Inv X pins σ H' { s with heap := h', toks := t' } := by
  obtain ⟨m, ⟨o, es, ep, ho, r⟩, _⟩ := id I.loc
  obtain ⟨sl, hL⟩ := u.any ho I.free (by simp)
  exact I.step (g' := s.gens) (d' := s.drawn) (ch := []) (fun _ z => nomatch z) (fun b o _ hb _ e n => u.keep b o e n hb (by simp)) (fun b o _ hb _ e n => u.slot b o e n hb (by simp)) (fun b o _ e n => u.free b o e n (by simp)) (fun b o _ e => u.there b o e (by simp)) u.tups u.frzs u.tbls (fun m' hm => by
    obtain ⟨o', es', ep', ho', r'⟩ := hm
    rw [ho] at ho'; cases ho'
    exact ⟨_, es', ep', hL, r'⟩) hok I.bare
theorem Inv.call {g' : Array GenState} {t' : Nat} {d' : Drawn} {ch : List Addr} (I : Inv X pins σ H s) (u : Un (frs X.stack) ch H H' s.heap h') (hok : HOk X.prog X.w H' h') (hg : AllBare g')
    (hch : ∀ b ∈ ch, (b ∈ X.ex ∨ X.s₀.heap.objs.size ≤ b) ∧ b ≠ X.env.locals ∧ (∀ x c, X.env.cells.lookup x = some c → c ≠ b) ∧ ∀ p ∈ X.pn ++ pins, p.1 ≠ b) :
    Inv X pins σ H' { s with heap := h', gens := g', drawn := d', toks := t' } := by
  obtain ⟨m, ⟨o, es, ep, ho, r⟩, _⟩ := id I.loc
  obtain ⟨sl, hL⟩ := u.any ho I.free fun z => (hch _ z).2.1 rfl
  exact I.step (ch := ch) hch (fun b o hL hb hc e n => u.keep b o e n (fun z => (List.mem_cons.mp (I.stkSub b z)).elim hL hb) hc) (fun b o _ _ hc e n => u.any e n hc) (fun b o hc e n => u.free b o e n hc) (fun b o hc e => u.there b o e hc) u.tups u.frzs u.tbls (fun m' hm => by
    obtain ⟨o', es', ep', ho', r'⟩ := hm
    rw [ho] at ho'; cases ho'
    exact ⟨_, es', ep', hL, r'⟩) hok hg
theorem Inv.turned {t' : Nat} {it : Addr} (I : Inv X pins σ H s) (k : ∀ b o, b ≠ it → s.heap.get? b = some o → h'.get? b = some o) (hn : H it = none) (hL : it ≠ X.env.locals)
    (h1 : it ∈ X.ex ∨ X.s₀.heap.objs.size ≤ it) (h2 : ∀ x c, X.env.cells.lookup x = some c → c ≠ it) (h3 : ∀ p ∈ X.pn ++ pins, p.1 ≠ it) : Inv X pins σ H { s with heap := h', toks := t' } := by
  have nit : ∀ b u, H b = some u → b ≠ it := fun b u e z => by rw [z, hn] at e; cases e
  refine I.step (g' := s.gens) (d' := s.drawn) (ch := [it]) (fun b hb => ?_) (fun b o _ _ hc e _ => k b o (fun z => hc (by simp [z])) e) (fun b o _ _ hc e _ => ⟨o.slots, k b o (fun z => hc (by simp [z])) e⟩) (fun _ _ _ _ n => n)
    (fun b o hc e => ⟨o, k b o (fun z => hc (by simp [z])) e⟩) (fun _ _ e => e) (fun _ _ _ e => e) (fun b ps e => ⟨#[], by rw [e]; simp⟩) (fun m hm => ?_) (fun b u e => ?_) I.bare
  · have e : b = it := by simpa using hb
    subst e
    exact ⟨h1, hL, h2, h3⟩
  · obtain ⟨o, es, ep, ho, r⟩ := hm
    exact ⟨o, es, ep, k _ o (Ne.symm hL) ho, r⟩
  · refine (I.hok b u e).stay (fun c v hc q => k c v ?_ q) (fun _ q => q) fun _ _ q => q
    rcases hc with z | z
    · rw [z]; exact nit b u e
    · exact nit c _ z
theorem Inv.tok (I : Inv X pins σ H s) (t : Nat) : Inv X pins σ H { s with toks := t } := I.un (h' := s.heap) (t' := t) Un.refl I.hok
theorem Inv.kept {t' : Nat} (I : Inv X pins σ H s) (k : ∀ b u, s.heap.get? b = some u → h'.get? b = some u) : Inv X pins σ H { s with heap := h', toks := t' } := I.un (Un.kept k) (I.hok.kept k)
theorem Inv.laid {a : Addr} {o : HO} {t' : Nat} (I : Inv X pins σ H s) (k : ∀ b u, s.heap.get? b = some u → h'.get? b = some u) (hp : s.heap.objs.size ≤ a) (new : ObjOk X.prog X.w (upd H a o) h' a o) :
    Inv X pins σ (upd H a o) { s with heap := h', toks := t' } := I.un (Un.laid k hp (I.hok.fresh hp)) (I.hok.laid k hp new)
theorem Inv.write {x e : Addr} {o : HO} {t' : Nat} (I : Inv X pins σ H s) (mu : Mut (H x)) (he : e = x ∨ H e = some (.own x)) (k : ∀ b u, b ≠ e → s.heap.get? b = some u → h'.get? b = some u) (heo : ∃ u, h'.get? e = some u)
    (new : ObjOk X.prog X.w (upd H x o) h' x o) : Inv X pins σ (upd H x o) { s with heap := h', toks := t' } := I.un (Un.write mu he k heo) (I.hok.write mu he k heo new)
theorem Inv.pins_of {pins' : List (Addr × Obj)} (I : Inv X pins σ H s) (h : ∀ p ∈ pins', s.heap.get? p.1 = some p.2 ∧ H p.1 = none ∧ p.1 ≠ X.env.locals ∧ p.1 ∉ X.fs ∧ ∀ v, p.2.data ≠ .cell v) : Inv X pins' σ H s :=
  ⟨I.ok, I.os, I.bare, I.base, I.loc, I.cell, I.free, I.freeC, fun p hp => (List.mem_append.mp hp).elim (fun z => I.pin p (List.mem_append_left _ z)) (h p), I.hok, I.len⟩
theorem nodup_ix {N : List Str} (hN : N.Nodup) {i j : Nat} {x : Str} (a : N[i]? = some x) (b : N[j]? = some x) : i = j := by
  obtain ⟨h1, e1⟩ := List.getElem?_eq_some_iff.mp a
  obtain ⟨h2, e2⟩ := List.getElem?_eq_some_iff.mp b
  exact (List.getElem_inj hN).mp (e1.trans e2.symm)
theorem store_ok2 {M : Model} {A : Around} {E : Value → Shared → Prop} {i : Nat} {x : Str} {v : V} {u : Value} {Q : Unit → Shared → Prop} (I : Inv X pins σ H s) (hN : X.N.Nodup) (hi : X.N[i]? = some x) (hx : Loc X.env.scope x) (r : RelV v u)
    (h : ∀ s', Inv X pins (σ.set i (some v)) H s' → (∃ a, Heap.SameBut a s.heap s'.heap ∧ (a = X.env.locals ∨ X.env.cells.lookup x = some a)) → Q () s') (hf : X.fn x = true ∨ X.env.scope.names.lookup x = some .local := by first | exact .inl rfl | exact .inr rfl | assumption) : wpAny M A (storeName X.env x u) Q E s := by
  obtain ⟨m, hn, hl⟩ := id I.loc
  have hcls : (X.env.scope.kind == .class || (X.env.scope.kind == .module && X.env.locals != X.env.globals)) = false := by rw [I.ok.kind]; rfl
  have hiσ : i < σ.length := by rw [I.len]; exact (List.getElem?_eq_some_iff.mp hi).1
  have cne := I.cne
  have tracked : ∀ {a : Addr} {h' : Heap}, (∃ o, s.heap.get? a = some o ∧ H a = none) → Heap.SameBut a s.heap h' → HOk X.prog X.w H h' := fun {a h'} ha hs b ob e => by
    obtain ⟨_, _, hfree⟩ := ha
    refine (I.hok b ob e).stay (fun c w' hc q => (hs.2 c ?_).trans q) (fun _ q => q) fun _ _ q => q
    rintro rfl
    rcases hc with rfl | hc
    · rw [hfree] at e; cases e
    · rw [hfree] at hc; cases hc
  rcases hx with hk | hk
  · refine wpAny_storeName_local hk hn (fun h' hn' hs => ?_) hcls
    obtain ⟨oL, _, _, hoL, _⟩ := id hn
    refine h _ ⟨I.ok, I.os, I.bare, ⟨fun b o e n hb hx => ?_, fun b o e n hb hx => ?_, I.base.free, fun b o e hx => ?_, I.base.tups, I.base.frzs, I.base.tbls⟩, ⟨_, hn', fun j y v' e1 e2 e3 => ?_⟩, fun y c e => ?_, I.free, I.freeC, fun p hp => ?_, tracked ⟨oL, hoL, I.free⟩ hs, by simpa using I.len⟩ ⟨_, hs, .inl rfl⟩
    · exact (hs.2 b (Nat.ne_of_lt (Nat.lt_of_lt_of_le (Heap.lt_size e) I.ok.above))).trans (I.base.keep b o e n hb hx)
    · obtain ⟨sl, e1⟩ := I.base.slot b o e n hb hx
      exact ⟨sl, (hs.2 b (Nat.ne_of_lt (Nat.lt_of_lt_of_le (Heap.lt_size e) I.ok.above))).trans e1⟩
    · obtain ⟨o', e1⟩ := I.base.there b o e hx
      exact ⟨o', (hs.2 b (Nat.ne_of_lt (Nat.lt_of_lt_of_le (Heap.lt_size e) I.ok.above))).trans e1⟩
    · by_cases hj : j = i
      · subst hj
        rw [hi] at e1; cases e1
        rw [List.getElem?_set_self hiσ] at e2
        cases e2
        exact ⟨u, r, .inl ⟨hk, by simp⟩⟩
      · rw [List.getElem?_set_ne (Ne.symm hj)] at e2
        obtain ⟨u', r', q⟩ := hl j y v' e1 e2 e3
        refine ⟨u', r', ?_⟩
        rcases q with ⟨k, e⟩ | ⟨k, c, e, z⟩
        · refine .inl ⟨k, ?_⟩
          have : y ≠ x := fun e => hj (nodup_ix hN e1 (e ▸ hi))
          simp [this, e]
        · exact .inr ⟨k, c, e, z.sameBut hs (cne y c e)⟩
    · obtain ⟨w', z⟩ := I.cell y c e
      exact ⟨w', z.sameBut hs (cne y c e)⟩
    · obtain ⟨e, n, ne, nf, d⟩ := I.pin p hp
      exact ⟨(hs.2 p.1 ne).trans e, n, ne, nf, d⟩
  · have hfn : X.fn x = true := by
      rcases hf with z | z
      · exact z
      · rw [z] at hk; cases hk
    obtain ⟨c, hc⟩ := I.ok.has x (.inl hk)
    obtain ⟨w', z⟩ := I.cell x c hc
    refine wpAny_storeName_cell I.ok.kind hk hc z (fun h' hc' hs => ?_)
    obtain ⟨oc, hoc, hocd⟩ := id z
    refine h { s with heap := h' } ⟨I.ok, I.os, I.bare, ⟨fun b o e n hb hx => ?_, fun b o e n hb hx => ?_, I.base.free, fun b o e hx => ?_, I.base.tups, I.base.frzs, I.base.tbls⟩, ⟨m, hn.sameBut hs (Ne.symm (cne x c hc)), fun j y v' e1 e2 e3 => ?_⟩, fun y c' e => ?_, I.free, I.freeC, fun p hp => ?_, tracked ⟨oc, hoc, I.freeC x c hc⟩ hs, by simpa using I.len⟩ ⟨c, hs, .inr hc⟩
    · exact (hs.2 b (Nat.ne_of_lt (Nat.lt_of_lt_of_le (Heap.lt_size e) (I.ok.cab x c hfn hc)))).trans (I.base.keep b o e n hb hx)
    · obtain ⟨sl, e1⟩ := I.base.slot b o e n hb hx
      exact ⟨sl, (hs.2 b (Nat.ne_of_lt (Nat.lt_of_lt_of_le (Heap.lt_size e) (I.ok.cab x c hfn hc)))).trans e1⟩
    · obtain ⟨o', e1⟩ := I.base.there b o e hx
      exact ⟨o', (hs.2 b (Nat.ne_of_lt (Nat.lt_of_lt_of_le (Heap.lt_size e) (I.ok.cab x c hfn hc)))).trans e1⟩
    · by_cases hj : j = i
      · subst hj
        rw [hi] at e1; cases e1
        rw [List.getElem?_set_self hiσ] at e2
        cases e2
        exact ⟨u, r, .inr ⟨.inl hk, c, hc, hc'⟩⟩
      · rw [List.getElem?_set_ne (Ne.symm hj)] at e2
        obtain ⟨u', r', q⟩ := hl j y v' e1 e2 e3
        refine ⟨u', r', ?_⟩
        rcases q with q | ⟨k, c', e, z'⟩
        · exact .inl q
        · refine .inr ⟨k, c', e, z'.sameBut hs ?_⟩
          rintro rfl
          exact hj (nodup_ix hN e1 (I.ok.inj _ _ _ e hc ▸ hi))
    · by_cases hcc : c' = c
      · subst hcc; exact ⟨_, hc'⟩
      · obtain ⟨w2, z2⟩ := I.cell y c' e
        exact ⟨w2, z2.sameBut hs hcc⟩
    · obtain ⟨e, n, ne, nf, d⟩ := I.pin p hp
      refine ⟨(hs.2 p.1 ?_).trans e, n, ne, nf, d⟩
      intro q
      rw [q, hoc] at e
      have q' : oc = p.2 := Option.some.inj e
      exact d w' (by rw [← q']; exact hocd)
theorem store_ok {M : Model} {A : Around} {E : Value → Shared → Prop} {i : Nat} {x : Str} {v : V} {u : Value} {Q : Unit → Shared → Prop} (I : Inv X pins σ H s) (hN : X.N.Nodup) (hi : X.N[i]? = some x) (hx : Loc X.env.scope x) (r : RelV v u)
    (h : ∀ s', Inv X pins (σ.set i (some v)) H s' → Q () s') (hf : X.fn x = true ∨ X.env.scope.names.lookup x = some .local := by first | exact .inl rfl | exact .inr rfl | assumption) : wpAny M A (storeName X.env x u) Q E s :=
  store_ok2 I hN hi hx r (fun s' I' _ => h s' I') hf
theorem Inv.call' {s' : Shared} {ch : List Addr} (I : Inv X pins σ H s) (ho : s'.os = s.os) (u : Un (frs X.stack) ch H H' s.heap s'.heap) (hok : HOk X.prog X.w H' s'.heap) (hg : AllBare s'.gens)
    (hch : ∀ b ∈ ch, (b ∈ X.ex ∨ X.s₀.heap.objs.size ≤ b) ∧ b ≠ X.env.locals ∧ (∀ x c, X.env.cells.lookup x = some c → c ≠ b) ∧ ∀ p ∈ X.pn ++ pins, p.1 ≠ b) : Inv X pins σ H' s' := by
  obtain ⟨h', g', d', t', o'⟩ := s'
  have e : o' = s.os := ho
  subst e
  exact I.call (g' := g') (t' := t') (d' := d') u hok hg hch
end
noncomputable abbrev XK := Value → Option Addr → Hp → Prop
noncomputable abbrev St := List (Option V)
noncomputable abbrev VK := V → Hp → Prop
noncomputable abbrev TE := St → Hp → VK → Prop
noncomputable abbrev TT := St → Hp → (Bool → Hp → Prop) → Prop
noncomputable abbrev TA := St → Hp → (List V → Hp → Prop) → Prop
structure Ends where
  nx : St → Hp → Prop
  rt : VK
  bk : St → Hp → Prop := fun _ _ => False
  ct : St → Hp → Prop := fun _ _ => False
noncomputable abbrev TS := Ends → St → Hp → Prop
noncomputable def EP (X : Cx) (pins : List (Addr × Obj)) (σ : St) (Q : VK) (u : Value) (s' : Shared) : Prop := ∃ v H', Inv X pins σ H' s' ∧ RelV v u ∧ Q v H'
noncomputable def TP (X : Cx) (pins : List (Addr × Obj)) (σ : St) (Q : Bool → Hp → Prop) (b : Bool) (s' : Shared) : Prop := ∃ H', Inv X pins σ H' s' ∧ Q b H'
noncomputable def AP (X : Cx) (pins : List (Addr × Obj)) (σ : St) (Q : List V → Hp → Prop) (us : List Value) (s' : Shared) : Prop := ∃ vs H', Inv X pins σ H' s' ∧ Vals vs us ∧ Q vs H'
noncomputable def SP (X : Cx) (pins : List (Addr × Obj)) (D : Ends) (f : Flow) (s' : Shared) : Prop :=
  match f with
  | .next => ∃ σ' H', Inv X pins σ' H' s' ∧ D.nx σ' H'
  | .brk => ∃ σ' H', Inv X pins σ' H' s' ∧ D.bk σ' H'
  | .cont => ∃ σ' H', Inv X pins σ' H' s' ∧ D.ct σ' H'
  | .ret u => ∃ v σ' H', Inv X pins σ' H' s' ∧ RelV v u ∧ D.rt v H'
noncomputable def PE (X : Cx) (e : Expr) (t : TE) : Prop :=
  ∀ (pins : List (Addr × Obj)) (s : Shared) (σ : St) (H : Hp) (Q : VK), Inv X pins σ H s → t σ H Q → wpAny (model X.prog X.w) X.A (eval e X.env) (EP X pins σ Q) X.xe s
noncomputable def PT (X : Cx) (e : Expr) (t : TT) : Prop :=
  ∀ (pins : List (Addr × Obj)) (s : Shared) (σ : St) (H : Hp) (Q : Bool → Hp → Prop), Inv X pins σ H s → t σ H Q → wpAny (model X.prog X.w) X.A (isTrue e X.env (eval e X.env)) (TP X pins σ Q) X.xe s
noncomputable def PW (X : Cx) (e : Expr) (t : TT) : Prop :=
  ∀ (whole : Sem Value) (pins : List (Addr × Obj)) (s : Shared) (σ : St) (H : Hp) (Q : Bool → Hp → Prop), Inv X pins σ H s → t σ H Q → wpAny (model X.prog X.w) X.A (isTrue e X.env whole) (TP X pins σ Q) X.xe s
theorem PW.pt {X : Cx} {e : Expr} {t : TT} (h : PW X e t) : PT X e t := h _
noncomputable def PA (X : Cx) (es : List Expr) (t : TA) : Prop :=
  ∀ (pos : Pos) (pins : List (Addr × Obj)) (s : Shared) (σ : St) (H : Hp) (Q : List V → Hp → Prop), Inv X pins σ H s → t σ H Q → wpAny (model X.prog X.w) X.A (spliced (backTo pos (starEach es X.env))) (AP X pins σ Q) X.xe s
noncomputable def PS (X : Cx) (st : Stmt) (t : TS) : Prop :=
  ∀ (pins : List (Addr × Obj)) (s : Shared) (σ : St) (H : Hp) (D : Ends), Inv X pins σ H s → t D σ H → wpAny (model X.prog X.w) X.A (exec st X.env) (SP X pins D) X.xe s
noncomputable def PSs (X : Cx) (st : List Stmt) (t : TS) : Prop :=
  ∀ (pins : List (Addr × Obj)) (s : Shared) (σ : St) (H : Hp) (D : Ends), Inv X pins σ H s → t D σ H → wpAny (model X.prog X.w) X.A (execs st X.env) (SP X pins D) X.xe s
theorem thn {α : Type} {t : Sem α} {Q Q' : α → Shared → Prop} {M : Model} {A : Around} {E : Value → Shared → Prop} {s : Shared} (h : wpAny M A t Q E s) (hQ : ∀ a s, Q a s → Q' a s) : wpAny M A t Q' E s := wpAny_mono h hQ fun _ _ x => x
section
variable {X : Cx}
noncomputable def tVar (i : Nat) : TE := fun σ H Q => ∃ v, σ[i]? = some (some v) ∧ Q v H
noncomputable def tC (v : V) : TE := fun _ H Q => Q v H
theorem pe_var {i : Nat} {x : Str} {pos : Pos} (hN : X.N[i]? = some x) (hv : Vis X.env.scope x) (hd : (x == ("__debug__" : Str)) = false := by decide) (hcd : (x == ("__classdict__" : Str)) = false := by decide) : PE X (.Name x pos) (tVar i) := by
  intro pins s σ H Q I h
  obtain ⟨v, e, h⟩ := h
  obtain ⟨m, hn, hl⟩ := I.loc
  obtain ⟨u, r, l⟩ := hl i x v hN e hv
  have fin : EP X pins σ Q u s := ⟨v, H, I, r, h⟩
  rcases l with ⟨hk, hm⟩ | ⟨hk, c, hc, hcell⟩
  · exact wpAny_Name (wpAny_loadName_local I.ok.kind hk hn hm fin) hd
  · rcases hk with hk | hk
    · exact wpAny_Name (wpAny_loadName_cell I.ok.kind hk hc hcell fin) hd
    · exact wpAny_Name (wpAny_loadName_free I.ok.kind hk hc hcell fin hcd) hd
theorem pe_int {i j pos} : PE X (.Constant (.int i) j pos) (tC (.int i)) := fun _ _ _ H _ I h => wpAny_Constant_int ⟨.int i, H, I.tok _, ⟨_, rfl⟩, h⟩
theorem pe_bl {b j pos} : PE X (.Constant (.bool b) j pos) (tC (.bl b)) := fun _ _ _ H _ I h => Constant_bool ⟨.bl b, H, I, rfl, h⟩
theorem pe_non {j pos} : PE X (.Constant .none j pos) (tC .non) := fun _ _ _ H _ I h => Constant_none ⟨.non, H, I, rfl, h⟩
theorem pe_str {x j pos} : PE X (.Constant (.str x) j pos) (tC (.str x)) := fun _ _ _ H _ I h => Calls.Constant_str ⟨.str x, H, I.tok _, ⟨_, rfl⟩, h⟩
noncomputable def Gl (X : Cx) (x : Str) : Prop := X.env.kindOf x = some .globalImplicit
theorem ld_glob {E : Value → Shared → Prop} {pins : List (Addr × Obj)} {s : Shared} {σ : St} {H : Hp} {x : Str} {u : Value} {pos : Pos} {Q : Value → Shared → Prop} (I : Inv X pins σ H s) (hg : Gl X x) (hm : X.mg x = some u) (h : Q u s)
    (hd : (x == ("__debug__" : Str)) = false := by decide) : wpAny (model X.prog X.w) X.A (eval (.Name x pos) X.env) Q E s :=
  Calls.Name_function_global I.ok.kind hg (Calls.loadGlobal_global (by rw [I.ok.glob]; exact I.mod.glob.keeps I.bk) hm h) hd
theorem ld_blt {E : Value → Shared → Prop} {pins : List (Addr × Obj)} {s : Shared} {σ : St} {H : Hp} {x : Str} {u : Value} {pos : Pos} {Q : Value → Shared → Prop} (I : Inv X pins σ H s) (hg : Gl X x) (hm : X.mg x = none) (hv : bootBuiltins x = some u) (h : Q u s)
    (hn : x ≠ "__name__" := by decide) (hd : (x == ("__debug__" : Str)) = false := by decide) : wpAny (model X.prog X.w) X.A (eval (.Name x pos) X.env) Q E s := by
  obtain ⟨mb, h1, h2⟩ := I.mod.blt
  exact Calls.Name_function_global I.ok.kind hg (Calls.loadGlobal_builtin (by rw [I.ok.glob]; exact I.mod.glob.keeps I.bk) hm (by rw [I.ok.blt]; exact h1.keeps I.bk) ((h2 x hn).trans hv) h) hd
theorem pe_glob {x : Str} {v : V} {u : Value} {pos : Pos} (hg : Gl X x) (hm : X.mg x = some u) (r : RelV v u) (hd : (x == ("__debug__" : Str)) = false := by decide) : PE X (.Name x pos) (tC v) :=
  fun _ _ _ H _ I h => ld_glob I hg hm ⟨v, H, I, r, h⟩ hd
theorem pe_bltn {x : Str} {v : V} {u : Value} {pos : Pos} (hg : Gl X x) (hm : X.mg x = none) (hv : bootBuiltins x = some u) (r : RelV v u) (hn : x ≠ "__name__" := by decide) (hd : (x == ("__debug__" : Str)) = false := by decide) : PE X (.Name x pos) (tC v) :=
  fun _ _ _ H _ I h => ld_blt I hg hm hv ⟨v, H, I, r, h⟩ hn hd
variable {a b : Expr} {ta tb : TE} {pos : Pos}
noncomputable def tB (t : TE) : TT := fun σ H Q => t σ H fun x H1 => ∃ c, x = .bl c ∧ Q c H1
theorem pt_val {e : Expr} {t : TE} (h : PE X e t) (he : ∀ whole, isTrue e X.env whole = (do let v ← whole; standAt e.pos; holding [v] (truthy v)) := by intro _; rfl) : PT X e (tB t) := by
  intro pins s σ H Q I hw
  refine isTrue_plain (thn (h pins s σ H _ I hw) fun v s1 ⟨x, H1, I1, r1, q1⟩ => ?_) (he _)
  obtain ⟨d, rfl, q⟩ := q1
  cases r1
  exact wpAny_truthy_bool ⟨H1, I1, q⟩
variable {tA tB' : TT} {rest : List Expr}
noncomputable def tAnd (t u : TT) : TT := fun σ H Q => t σ H fun c H1 => if c = true then u σ H1 Q else Q false H1
noncomputable def tOr (t u : TT) : TT := fun σ H Q => t σ H fun c H1 => if c = true then Q true H1 else u σ H1 Q
noncomputable def tNot (t : TT) : TT := fun σ H Q => t σ H fun c H1 => Q (!c) H1
theorem pw_and1 (ha : PT X a tA) : PW X (.BoolOp .And [a] pos) tA := by
  intro wh pins s σ H Q I h
  refine isTrue_and (thn (ha pins s σ H Q I h) fun c s1 e => ?_)
  cases c with
  | true => exact isTrue_and_nil e
  | false => exact e
theorem pw_or1 (ha : PT X a tA) : PW X (.BoolOp .Or [a] pos) tA := by
  intro wh pins s σ H Q I h
  refine isTrue_or (thn (ha pins s σ H Q I h) fun c s1 e => ?_)
  cases c with
  | false => exact isTrue_or_nil e
  | true => exact e
theorem pw_and (ha : PT X a tA) (hb : PW X (.BoolOp .And (b :: rest) pos) tB') : PW X (.BoolOp .And (a :: b :: rest) pos) (tAnd tA tB') := by
  intro wh pins s σ H Q I h
  refine isTrue_and (thn (ha pins s σ H _ I h) fun c s1 ⟨H1, I1, q1⟩ => ?_)
  cases c with
  | true => exact hb wh pins s1 σ H1 Q I1 q1
  | false => exact ⟨H1, I1, q1⟩
theorem pw_or (ha : PT X a tA) (hb : PW X (.BoolOp .Or (b :: rest) pos) tB') : PW X (.BoolOp .Or (a :: b :: rest) pos) (tOr tA tB') := by
  intro wh pins s σ H Q I h
  refine isTrue_or (thn (ha pins s σ H _ I h) fun c s1 ⟨H1, I1, q1⟩ => ?_)
  cases c with
  | true => exact ⟨H1, I1, q1⟩
  | false => exact hb wh pins s1 σ H1 Q I1 q1
theorem pt_not (ha : PT X a tA) : PT X (.UnaryOp .Not a pos) (tNot tA) := by
  intro pins s σ H Q I h
  exact isTrue_not (ha pins s σ H (fun c H1 => Q (!c) H1) I h)
noncomputable def tAndV (ta tb : TE) : TE := fun σ H Q => ta σ H fun x H1 => ∃ c, x = .bl c ∧ if c = true then tb σ H1 Q else Q (.bl false) H1
noncomputable def tNotV (ta : TE) : TE := fun σ H Q => ta σ H fun x H1 => ∃ c, x = .bl c ∧ Q (.bl (!c)) H1
theorem pe_one {op} {t : TE} (h : PE X a t) : PE X (.BoolOp op [a] pos) t := fun pins s σ H Q I hw => BoolOp_one (h pins s σ H Q I hw)
theorem pe_and (ha : PE X a ta) (hb : PE X (.BoolOp .And (b :: rest) pos) tb) : PE X (.BoolOp .And (a :: b :: rest) pos) (tAndV ta tb) := by
  intro pins s σ H Q I h
  refine BoolOp_and (thn (ha pins s σ H _ I h) fun v s1 ⟨x, H1, I1, r1, q1⟩ => ?_)
  obtain ⟨c, rfl, q1⟩ := q1
  cases r1
  refine wpAny_truthy_bool ?_
  cases c with
  | true => exact hb pins s1 σ H1 Q I1 q1
  | false => exact ⟨.bl false, H1, I1, rfl, q1⟩
theorem pe_not (ha : PE X a ta) : PE X (.UnaryOp .Not a pos) (tNotV ta) := by
  intro pins s σ H Q I h
  refine UnaryOp_ (thn (ha pins s σ H _ I h) fun v s1 ⟨x, H1, I1, r1, q1⟩ => ?_)
  obtain ⟨c, rfl, q1⟩ := q1
  cases r1
  exact not_of (wpAny_truthy_bool ⟨.bl (!c), H1, I1, rfl, q1⟩)
noncomputable def tIf (t : TT) (ta tb : TE) : TE := fun σ H Q => t σ H fun c H1 => if c = true then ta σ H1 Q else tb σ H1 Q
theorem pe_ifExp {c : Expr} (hc : PT X c tA) (ha : PE X a ta) (hb : PE X b tb) : PE X (.IfExp c a b pos) (tIf tA ta tb) := by
  intro pins s σ H Q I h
  refine wpAny_IfExp (thn (hc pins s σ H _ I h) fun d s1 ⟨H1, I1, q1⟩ => ?_)
  cases d with
  | true => exact ha pins s1 σ H1 Q I1 q1
  | false => exact hb pins s1 σ H1 Q I1 q1
end
noncomputable def SqL (K : PySem.W.Frag) (H : Hp) (a : Addr) (xs : List V) : Prop :=
  Rd H a (.lst xs) ∨
    ∃ (o : Obj) (its : Array Value) (n : Nat), K.lookup a = some o ∧ o.cls = .type "list" ∧ o.dict = none ∧ o.data = .seq its n ∧ its.size ≤ sizeLine ∧ Vals xs its.toList
noncomputable def SqT (K : PySem.W.Frag) (H : Hp) (a : Addr) (xs : List V) : Prop :=
  Rd H a (.tup xs) ∨
    ∃ (o : Obj) (its : Array Value) (n : Nat), K.lookup a = some o ∧ o.cls = .type "tuple" ∧ o.data = .seq its n ∧ its.size ≤ sizeLine ∧ Vals xs its.toList
noncomputable def absV : Value → Option V
  | .none => some .non
  | .bool b => some (.bl b)
  | .int i _ => some (.int i)
  | .str x _ => some (.str x)
  | .bytes b _ => some (.byt b)
  | .float b _ => some (.flt b)
  | .ref a => some (.ref a)
  | .type n => some (.ty n)
  | _ => none
theorem RelV.abs {x : V} {u : Value} (r : RelV x u) : absV u = some x := by
  cases x with
  | non => cases r; rfl
  | bl _ => cases r; rfl
  | int _ => obtain ⟨t, rfl⟩ := r; rfl
  | str _ => obtain ⟨t, rfl⟩ := r; rfl
  | byt _ => obtain ⟨t, rfl⟩ := r; rfl
  | flt _ => obtain ⟨t, rfl⟩ := r; rfl
  | ref _ => cases r; rfl
  | ty _ => cases r; rfl
theorem RelV.inj {x y : V} {u : Value} (r : RelV x u) (q : RelV y u) : x = y := Option.some.inj (r.abs.symm.trans q.abs)
theorem Vals.inj : ∀ {xs ys : List V} {us : List Value}, Vals xs us → Vals ys us → xs = ys
  | _, _, _, .nil, .nil => rfl
  | _, _, _, .cons r t, .cons r' t' => by rw [r.inj r', Vals.inj t t']
section
variable {X : Cx} {pins : List (Addr × Obj)} {σ : St} {H : Hp} {s : Shared} {a : Addr} {xs ys : List V}
theorem SqT.of {K : PySem.W.Frag} (h : H a = some (.tup xs)) : SqT K H a xs := .inl (.inl h)
theorem Inv.list (I : Inv X pins σ H s) (h : SqL X.K H a xs) : ∃ its : List Value, Vals xs its ∧ PlainL s.heap a its.toArray ∧ xs.length ≤ sizeLine := by
  rcases h with h | ⟨o, its, n, hk, hc, hd, hs, hz, r⟩
  · obtain ⟨z, its, n, r, e⟩ := h.ok I.hok
    exact ⟨its, r, ⟨_, n, e, rfl, rfl, rfl⟩, z⟩
  · refine ⟨its.toList, r, ⟨o, n, I.kIn a o hk, hc, hd, by simpa using hs⟩, ?_⟩
    have e := r.length
    simp only [Array.length_toList] at e
    omega
theorem Inv.tuple (I : Inv X pins σ H s) (h : SqT X.K H a xs) : ∃ its : List Value, Vals xs its ∧ IsTup s.heap a its.toArray ∧ xs.length ≤ sizeLine := by
  rcases h with h | ⟨o, its, n, hk, hc, hs, hz, r⟩
  · obtain ⟨z, its, r, p⟩ := h.ok I.hok
    exact ⟨its, r, p, z⟩
  · refine ⟨its.toList, r, ⟨o, I.kIn a o hk, hc, n, by simpa using hs⟩, ?_⟩
    have e := r.length
    simp only [Array.length_toList] at e
    omega
theorem Inv.list_inj (I : Inv X pins σ H s) (h : SqL X.K H a xs) (h' : SqL X.K H a ys) : xs = ys := by
  obtain ⟨its, r, ⟨o, n, e, _, _, d⟩, _⟩ := I.list h
  obtain ⟨its', r', ⟨o', n', e', _, _, d'⟩, _⟩ := I.list h'
  rw [e] at e'; cases e'
  rw [d] at d'
  injection d' with d1 _
  have : its = its' := by simpa using congrArg Array.toList d1
  subst this
  exact r.inj r'
theorem Inv.tuple_inj (I : Inv X pins σ H s) (h : SqT X.K H a xs) (h' : SqT X.K H a ys) : xs = ys := by
  obtain ⟨its, r, ⟨o, e, _, n, d⟩, _⟩ := I.tuple h
  obtain ⟨its', r', ⟨o', e', _, n', d'⟩, _⟩ := I.tuple h'
  rw [e] at e'; cases e'
  rw [d] at d'
  injection d' with d1 _
  have : its = its' := by simpa using congrArg Array.toList d1
  subst this
  exact r.inj r'
end
noncomputable abbrev Cx.wish (X : Cx) (E : Value → Shared → Prop) : Cx := { X with xe := E }
noncomputable abbrev Cx.nox (X : Cx) : Cx := X.wish fun _ _ => False
theorem Cx.Ok.wish {X : Cx} (ok : X.Ok) (E : Value → Shared → Prop) : (X.wish E).Ok :=
  ⟨ok.mod, ok.kind, ok.glob, ok.blt, ok.above, ok.inj, ok.has, ok.cab, ok.hd, ok.frames, ok.stk, ok.exf, ok.bs, ok.bsz, ok.noex, ok.exfs, ok.funs, ok.frf⟩
theorem Cx.Ok.unwish {X : Cx} {E : Value → Shared → Prop} (ok : (X.wish E).Ok) : X.Ok :=
  ⟨ok.mod, ok.kind, ok.glob, ok.blt, ok.above, ok.inj, ok.has, ok.cab, ok.hd, ok.frames, ok.stk, ok.exf, ok.bs, ok.bsz, ok.noex, ok.exfs, ok.funs, ok.frf⟩
section
variable {X : Cx} {pins : List (Addr × Obj)} {σ : St} {H : Hp} {s : Shared} {E : Value → Shared → Prop}
theorem Inv.wish (I : Inv X pins σ H s) (E : Value → Shared → Prop) : Inv (X.wish E) pins σ H s := ⟨I.ok.wish E, I.os, I.bare, I.base, I.loc, I.cell, I.free, I.freeC, I.pin, I.hok, I.len⟩
theorem Inv.unwish (I : Inv (X.wish E) pins σ H s) : Inv X pins σ H s := ⟨I.ok.unwish, I.os, I.bare, I.base, I.loc, I.cell, I.free, I.freeC, I.pin, I.hok, I.len⟩
theorem SP.unwish {D : Ends} {f : Flow} {s' : Shared} (h : SP (X.wish E) pins D f s') : SP X pins D f s' := by
  cases f with
  | next => obtain ⟨σ', H', I, q⟩ := h; exact ⟨σ', H', I.unwish, q⟩
  | brk => obtain ⟨σ', H', I, q⟩ := h; exact ⟨σ', H', I.unwish, q⟩
  | cont => obtain ⟨σ', H', I, q⟩ := h; exact ⟨σ', H', I.unwish, q⟩
  | ret u => obtain ⟨v, σ', H', I, r, q⟩ := h; exact ⟨v, σ', H', I.unwish, r, q⟩
theorem PSs.nox {st : List Stmt} {t : TS} (h : PSs X.nox st t) : PSs X st t := fun pins s σ H D I hw =>
  wpAny_mono (h pins s σ H D (I.wish _) hw) (fun _ _ q => q.unwish) fun _ _ z => False.elim z
end
section
variable {X : Cx} {st : Stmt} {rest : List Stmt} {t u : TS} {e : Expr} {te : TE} {pos : Pos}
noncomputable def tNext : TS := fun D σ H => D.nx σ H
noncomputable def tSeq (t u : TS) : TS := fun D σ H => t { D with nx := u D } σ H
theorem pss_nil : PSs X [] tNext := fun _ _ σ H _ I h => wpAny_execs_nil ⟨σ, H, I, h⟩
theorem pss_cons (h1 : PS X st t) (h2 : PSs X rest u) : PSs X (st :: rest) (tSeq t u) := by
  intro pins s σ H D I h
  refine wpAny_execs_cons (thn (h1 pins s σ H { D with nx := u D } I h) fun f s1 q => ?_)
  cases f with
  | next =>
    obtain ⟨σ', H', I', q⟩ := q
    exact h2 pins s1 σ' H' D I' q
  | ret v => exact q
  | brk => exact q
  | cont => exact q
theorem pss_one (h1 : PS X st t) : PSs X [st] t := by
  intro pins s σ H D I h
  refine wpAny_execs_cons (thn (h1 pins s σ H D I h) fun f s1 q => ?_)
  cases f with
  | next => exact wpAny_execs_nil q
  | ret v => exact q
  | brk => exact q
  | cont => exact q
theorem Inv.quiet {pins : List (Addr × Obj)} {σ : St} {H : Hp} {s : Shared} (I : Inv X pins σ H s) : interactive X.env = false := by simp [interactive, I.ok.kind]
noncomputable def tDrop (te : TE) : TS := fun D σ H => te σ H fun _ H1 => D.nx σ H1
theorem ps_expr (he : PE X e te) (hs : swapsWith e none pos.line X.env = pure false := by rfl) : PS X (.Expr e pos) (tDrop te) := by
  intro pins s σ H D I h
  exact wpAny_Expr_any (thn (he pins s σ H _ I h) fun v s1 ⟨x, H1, I1, r1, q1⟩ => ⟨σ, H1, I1, q1⟩) I.quiet hs
noncomputable def tRet (te : TE) : TS := fun D σ H => te σ H D.rt
theorem ps_ret (he : PE X e te) : PS X (.Return (some e) pos) (tRet te) := by
  intro pins s σ H D I h
  exact wpAny_Return_some (thn (he pins s σ H _ I h) fun v s1 ⟨x, H1, I1, r1, q1⟩ => ⟨x, σ, H1, I1, r1, q1⟩)
noncomputable def tIfS (c : TT) (t u : TS) : TS := fun D σ H => c σ H fun b H1 => if b = true then t D σ H1 else u D σ H1
theorem ps_if {c : Expr} {a b : List Stmt} {tc : TT} (hc : PT X c tc) (ha : PSs X a t) (hb : PSs X b u) : PS X (.If c a b pos) (tIfS tc t u) := by
  intro pins s σ H D I h
  refine wpAny_If (thn (hc pins s σ H _ I h) fun d s1 ⟨H1, I1, q1⟩ => ?_)
  cases d with
  | true => exact ha pins s1 σ H1 D I1 q1
  | false => exact hb pins s1 σ H1 D I1 q1
noncomputable def tNever : TS := fun _ _ _ => False
theorem ps_never : PS X st tNever := fun _ _ _ _ _ _ h => h.elim
end
noncomputable abbrev TG := V → St → Hp → (St → Hp → Prop) → Prop
noncomputable abbrev TGs := List V → St → Hp → (St → Hp → Prop) → Prop
noncomputable def PG (X : Cx) (target : Expr) (t : TG) : Prop :=
  ∀ (pins : List (Addr × Obj)) (s : Shared) (σ : St) (H : Hp) (v : V) (u : Value) (Q : St → Hp → Prop), Inv X pins σ H s → RelV v u → t v σ H Q →
    wpAny (model X.prog X.w) X.A (assign target X.env u) (fun _ s' => ∃ σ' H', Inv X pins σ' H' s' ∧ Q σ' H') X.xe s
noncomputable def PGs (X : Cx) (ts : List Expr) (t : TGs) : Prop :=
  ∀ (pins : List (Addr × Obj)) (s : Shared) (σ : St) (H : Hp) (vs : List V) (us : List Value) (Q : St → Hp → Prop), Inv X pins σ H s → Vals vs us → t vs σ H Q →
    wpAny (model X.prog X.w) X.A (assignInOrder ((assignEach ts X.env).map (·.2)) us) (fun _ s' => ∃ σ' H', Inv X pins σ' H' s' ∧ Q σ' H') X.xe s
noncomputable abbrev TSet := V → V → V → Hp → (Hp → Prop) → Prop
noncomputable def PSet (X : Cx) (t : TSet) : Prop :=
  ∀ (pins : List (Addr × Obj)) (s : Shared) (σ : St) (H : Hp) (o i v : V) (ov iv u : Value) (Q : Hp → Prop), Inv X pins σ H s → RelV o ov → RelV i iv → RelV v u → t o i v H Q →
    wpAny (model X.prog X.w) X.A (setItem ov iv u) (fun _ s' => ∃ H', Inv X pins σ H' s' ∧ Q H') X.xe s
section
variable {X : Cx} {pos : Pos}
noncomputable def gName (i : Nat) : TG := fun v σ H Q => Q (σ.set i (some v)) H
theorem pg_name {i : Nat} {x : Str} (hN : X.N.Nodup) (hi : X.N[i]? = some x) (hx : Loc X.env.scope x) (hf : X.fn x = true ∨ X.env.scope.names.lookup x = some .local := by first | exact .inl rfl | exact .inr rfl | assumption) : PG X (.Name x pos) (gName i) := by
  intro pins s σ H v u Q I r h
  exact wpAny_assign_Name (store_ok I hN hi hx r (fun s' I' => ⟨_, H, I', h⟩) hf)
noncomputable def gNil : TGs := fun vs σ H Q => vs = [] ∧ Q σ H
noncomputable def gCons (t : TG) (u : TGs) : TGs := fun vs σ H Q => ∃ v r, vs = v :: r ∧ t v σ H fun σ' H' => u r σ' H' Q
theorem pgs_nil : PGs X [] gNil := by
  intro pins s σ H vs us Q I r h
  obtain ⟨e, h⟩ := h
  subst e
  cases r
  exact assignInOrder_nil ⟨σ, H, I, h⟩
theorem pgs_cons {e : Expr} {es : List Expr} {t : TG} {u : TGs} (h1 : PG X e t) (h2 : PGs X es u)
    (hs : (assignEach (e :: es) X.env).map (·.2) = assign e X.env :: (assignEach es X.env).map (·.2) := by rfl) : PGs X (e :: es) (gCons t u) := by
  intro pins s σ H vs us Q I r h
  obtain ⟨v, vr, e1, h⟩ := h
  subst e1
  cases r with
  | cons r rr =>
    rw [hs]
    refine assignInOrder_cons (thn (h1 pins s σ H _ _ _ I r h) fun _ s1 ⟨σ1, H1, I1, q1⟩ => ?_)
    exact h2 pins s1 σ1 H1 _ _ Q I1 rr q1
noncomputable def gTup (K : PySem.W.Frag) (n : Nat) (t : TGs) : TG := fun v σ H Q => ∃ a xs, v = .ref a ∧ SqT K H a xs ∧ xs.length = n ∧ t xs σ H Q
theorem pg_tup {es : List Expr} {k : Nat} {t : TGs} {n : Nat} (hc : X.calm = true) (h : PGs X es t)
    (hn : (assignEach es X.env).length = n := by rfl) (hst : (assignEach es X.env).findIdx? (·.1) = none := by rfl) : PG X (.Tuple es k pos) (gTup X.K n t) := by
  intro pins s σ H v u Q I r hw
  obtain ⟨a, xs, e1, hq, hl, hw⟩ := hw
  subst e1
  cases r
  obtain ⟨its, rv, ht, hz⟩ := I.tuple hq
  refine assign_Tuple_tuple (I.ok.hd hc) ht (by simp [hn, ← hl, rv.length]) hst fun h' hx => ?_
  have I1 : Inv X pins σ H { s with heap := h' } := I.kept (t' := s.toks) fun b o e => hx b o (Nat.ne_of_lt (Heap.lt_size e)) e
  exact h pins _ σ H xs _ Q I1 (by simpa using rv) hw
noncomputable def gSub (to ti : TE) (t : TSet) : TG := fun v σ H Q => to σ H fun o H1 => ti σ H1 fun i H2 => t o i v H2 fun H3 => Q σ H3
theorem pg_sub {o i : Expr} {to ti : TE} {t : TSet} (ho : PE X o to) (hi : PE X i ti) (hs : PSet X t)
    (ha : ∀ v, assign (.Subscript o i pos) X.env v = (do
      let ov ← holding [v] (eval o X.env)
      let iv ← holding [v, ov] (eval i X.env)
      standAt pos
      holding [v, ov, iv] (setItem ov iv v)
      release [v, ov, iv] []) := by intro _; rfl) : PG X (.Subscript o i pos) (gSub to ti t) := by
  intro pins s σ H v u Q I r h
  rw [ha]
  refine wpAny_bind (wpAny_holding (thn (ho pins s σ H _ I h) fun ov s1 ⟨x, H1, I1, r1, q1⟩ => ?_))
  refine wpAny_bind (wpAny_holding (thn (hi pins s1 σ H1 _ I1 q1) fun iv s2 ⟨y, H2, I2, r2, q2⟩ => ?_))
  refine wpAny_bind (wpAny_standAt (wpAny_bind (wpAny_holding (thn (hs pins s2 σ H2 x y v ov iv u _ I2 r1 r2 r q2) fun _ s3 ⟨H3, I3, q3⟩ => ?_))))
  exact wpAny_release ⟨σ, H3, I3, q3⟩
noncomputable def tAsg (te : TE) (g : TG) : TS := fun D σ H => te σ H fun x H1 => g x σ H1 D.nx
theorem ps_asg {tg e : Expr} {te : TE} {g : TG} (he : PE X e te) (hg : PG X tg g) (hs : swapsWithSole [tg] e pos.line X.env = pure false := by rfl) (hw : swappedStores [tg] e X.env = pure none := by rfl)
    (h1 : (assignEach [tg] X.env).map (·.2) = [assign tg X.env] := by rfl) : PS X (.Assign [tg] e pos) (tAsg te g) := by
  intro pins s σ H D I h
  refine wpAny_Assign_stores (thn (he pins s σ H _ I h) fun v s1 ⟨x, H1, I1, r1, q1⟩ => ?_) hs hw
  rw [h1]
  exact thn (hg pins s1 σ H1 x v _ I1 r1 q1) fun _ s2 q => q
theorem ps_set {i : Nat} {x : Str} {e : Expr} {te : TE} {pos' : Pos} (hN : X.N.Nodup) (hi : X.N[i]? = some x) (hx : Loc X.env.scope x) (he : PE X e te) (hs : swapsWith e (some (.Name x pos')) pos.line X.env = pure false := by rfl) (hf : X.fn x = true ∨ X.env.scope.names.lookup x = some .local := by first | exact .inl rfl | exact .inr rfl | assumption) :
    PS X (.Assign [.Name x pos'] e pos) (tAsg te (gName i)) := by
  intro pins s σ H D I h
  refine wpAny_Assign_Name (thn (he pins s σ H _ I h) fun v s1 ⟨y, H1, I1, r1, q1⟩ => ?_) hs
  exact store_ok I1 hN hi hx r1 (fun s2 I2 => ⟨_, H1, I2, q1⟩) hf
end
structure It where
  go : Nat → Hp → Prop
  yld : Nat → Hp → V → Hp → Prop
  stop : Nat → Hp → Prop
noncomputable def FpOk (X : Cx) (pins : List (Addr × Obj)) (H : Hp) (b : Addr) : Prop :=
  H b = none ∧ b ≠ X.env.locals ∧ b ∉ X.fs ∧ (b ∈ X.ex ∨ X.s₀.heap.objs.size ≤ b) ∧ (∀ x c, X.env.cells.lookup x = some c → c ≠ b) ∧ ∀ p ∈ X.pn ++ pins, p.1 ≠ b
theorem Inv.fpOk {X : Cx} {pins : List (Addr × Obj)} {σ : St} {H H' : Hp} {s : Shared} {b : Addr} (I : Inv X pins σ H s) (hb : s.heap.objs.size ≤ b) (hn : H' b = none) : FpOk X pins H' b := by
  refine ⟨hn, Nat.ne_of_gt (Nat.lt_of_lt_of_le I.lt hb), I.nofs hb, .inr (Nat.le_trans I.sz hb), fun x c e z => ?_, fun p hp z => ?_⟩
  · obtain ⟨v, q⟩ := I.cell x c e
    exact absurd (Nat.lt_of_lt_of_le q.lt (by rw [z]; exact hb)) (Nat.lt_irrefl _)
  · exact absurd (Nat.lt_of_lt_of_le (Heap.lt_size (I.pin p hp).1) (by rw [z]; exact hb)) (Nat.lt_irrefl _)
structure Turn (P : Program) (w : World) (K : PySem.W.Frag) (tg : Expr) (J : It) (fp : List Addr) (it : Addr) (tn : Nat → Heap → Prop) : Prop where
  mem : it ∈ fp
  obj : ∀ i h, tn i h → ∀ b ∈ fp, ∃ o, h.get? b = some o ∧ ∀ v, o.data ≠ .cell v
  keep : ∀ i h h', tn i h → (∀ b ∈ fp, ∀ o, h.get? b = some o → h'.get? b = some o) → tn i h'
  item : ∀ (X : Cx), X.prog = P → X.w = w → X.K = K → X.calm = true → ∀ (i : Nat) (pins : List (Addr × Obj)) (s : Shared) (σ : St) (H : Hp) (E : Value → Shared → Prop), Inv X pins σ H s → (∀ b ∈ fp, FpOk X pins H b) → tn i s.heap → J.go i H →
    wpAny (model P w) X.A (pyNext (.ref it)) (fun r s1 => ∃ u, r = some u ∧
      wpAny (model P w) X.A (letOwnedTupleGo tg (.ref it) u) (fun _ s2 => ∃ x H', Inv X pins σ H' s2 ∧ RelV x u ∧ J.yld i H x H' ∧ tn (i + 1) s2.heap ∧ ∀ b ∈ fp, H' b = none) E s1) E s
  done : ∀ (X : Cx), X.prog = P → X.w = w → X.K = K → X.calm = true → ∀ (i : Nat) (pins : List (Addr × Obj)) (s : Shared) (σ : St) (H : Hp) (E : Value → Shared → Prop), Inv X pins σ H s → (∀ b ∈ fp, FpOk X pins H b) → tn i s.heap → J.stop i H →
    wpAny (model P w) X.A (pyNext (.ref it)) (fun r s1 => r = none ∧ Inv X pins σ H s1) E s
  self : ∀ (A : Around) (i : Nat) (s : Shared) (Q : Value → Shared → Prop) (E : Value → Shared → Prop), tn i s.heap → Q (.ref it) s → wpAny (model P w) A (pyIter (.ref it)) Q E s
noncomputable abbrev TI := St → Hp → (It → Hp → Prop) → Prop
noncomputable def PIE (X : Cx) (pins : List (Addr × Obj)) (σ : St) (tg : Expr) (R : It → Hp → Prop) (itv : Value) (s2 : Shared) : Prop :=
  ∃ (it : Addr) (fp : List Addr) (tn : Nat → Heap → Prop) (J : It) (H' : Hp), itv = .ref it ∧ Inv X pins σ H' s2 ∧ Turn X.prog X.w X.K tg J fp it tn ∧ tn 0 s2.heap ∧ (∀ b ∈ fp, FpOk X pins H' b) ∧ R J H'
noncomputable def PI (X : Cx) (tg iter : Expr) (wi : TI) : Prop :=
  ∀ (pins : List (Addr × Obj)) (s : Shared) (σ : St) (H : Hp) (R : It → Hp → Prop), Inv X pins σ H s → wi σ H R →
    wpAny (model X.prog X.w) X.A (eval iter X.env) (fun v s1 => wpAny (model X.prog X.w) X.A (pyIter v) (PIE X pins σ tg R) X.xe s1) X.xe s
theorem go_of {M : Model} {A : Around} {E : Value → Shared → Prop} {s : Shared} {tg : Expr} {it : Addr} {u : Value} {o : Obj} {n : String} {vs : Array Value} {Q : Unit → Shared → Prop} (ho : s.heap.get? it = some o) (hc : o.cls = .type n) (hd : o.data = .fields vs)
    (hn : ["enumerate", "zip", "dict_itemiterator", "dict_reverseitemiterator", "odict_iterator", "itertools.zip_longest", "itertools.pairwise"].contains n = false) (hQ : Q () s) : wpAny M A (letOwnedTupleGo tg (.ref it) u) Q E s := by
  unfold letOwnedTupleGo
  cases tg <;> first
    | exact wpAny_pure hQ
    | (cases u <;> first
        | exact wpAny_pure hQ
        | (refine wpAny_bind (wpAny_load ho ?_)
           rw [hc, hd]
           show wpAny M A (if (["enumerate", "zip", "dict_itemiterator", "dict_reverseitemiterator", "odict_iterator", "itertools.zip_longest", "itertools.pairwise"].contains n && vs[0]? == some (rawInt _)) = true then _ else _) Q E s
           rw [if_neg (by intro h; rw [hn, Bool.false_and] at h; cases h)]
           exact wpAny_pure hQ))
noncomputable def Itl (K : PySem.W.Frag) (a : Addr) : It :=
  ⟨fun i H => ∃ xs x, SqL K H a xs ∧ xs[i]? = some x, fun i H x H' => H' = H ∧ ∀ xs, SqL K H a xs → xs[i]? = some x, fun i H => ∃ xs, SqL K H a xs ∧ xs.length ≤ i⟩
noncomputable def Itt (K : PySem.W.Frag) (a : Addr) : It :=
  ⟨fun i H => ∃ xs x, SqT K H a xs ∧ xs[i]? = some x, fun i H x H' => H' = H ∧ ∀ xs, SqT K H a xs → xs[i]? = some x, fun i H => ∃ xs, SqT K H a xs ∧ xs.length ≤ i⟩
noncomputable def Itr (lo : Int) (n : Nat) : It := ⟨fun i _ => i < n, fun i H x H' => H' = H ∧ x = .int (lo + i), fun i _ => n ≤ i⟩
theorem turn_list {P : Program} {w : World} {K : PySem.W.Frag} {tg : Expr} (a it : Addr) : Turn P w K tg (Itl K a) [it] it (fun i h => h.IsListIter it a i) where
  mem := by simp
  obj := fun i h st b hb => by
    have e : b = it := by simpa using hb
    subst e
    obtain ⟨o, e, c, d⟩ := st
    exact ⟨o, e, fun v z => by rw [d] at z; cases z⟩
  keep := fun i h h' st k => st.at fun o e => k it (by simp) o e
  item := by
    intro X hP hw hK hc i pins s σ H E I hf st hg
    subst hP hw hK
    obtain ⟨xs, x, hq, hx⟩ := hg
    obtain ⟨its, rv, p, hz⟩ := I.list hq
    obtain ⟨u, hu, ru⟩ := rv.get hx
    obtain ⟨f0, f1, f2, f3, f4, f5⟩ := hf it (by simp)
    refine wpAny_pyNext_list_item st p.isList (x := u) (by simpa using hu) fun h' st' sb => ?_
    have I1 : Inv X pins σ H { s with heap := h' } := I.turned (t' := s.toks) (fun b o hb e => (sb.2 b hb).trans e) f0 f1 f3 f4 f5
    obtain ⟨o, e, c, d⟩ := id st'
    exact ⟨u, rfl, go_of (s := { s with heap := h' }) e c d (by decide) ⟨x, H, I1, ru, ⟨rfl, fun ys hy => by rw [I.list_inj hy hq]; exact hx⟩, st', fun b hb => (hf b hb).1⟩⟩
  done := by
    intro X hP hw hK hc i pins s σ H E I hf st hg
    subst hP hw hK
    obtain ⟨xs, hq, hx⟩ := hg
    obtain ⟨its, rv, p, hz⟩ := I.list hq
    obtain ⟨f0, f1, f2, f3, f4, f5⟩ := hf it (by simp)
    have hl := rv.length
    exact wpAny_pyNext_list_end (I.ok.hd hc) st p.isList (by simp; omega) fun h' eb => ⟨rfl, I.turned (t' := s.toks) (fun b o hb e => eb b o hb e) f0 f1 f3 f4 f5⟩
  self := fun _ _ _ _ _ st h => wpAny_pyIter_listiter st h
theorem turn_tuple {P : Program} {w : World} {K : PySem.W.Frag} {tg : Expr} (a it : Addr) : Turn P w K tg (Itt K a) [it] it (fun i h => h.IsTupleIter it a i) where
  mem := by simp
  obj := fun i h st b hb => by
    have e : b = it := by simpa using hb
    subst e
    obtain ⟨o, e, c, d⟩ := st
    exact ⟨o, e, fun v z => by rw [d] at z; cases z⟩
  keep := fun i h h' st k => st.at fun o e => k it (by simp) o e
  item := by
    intro X hP hw hK hc i pins s σ H E I hf st hg
    subst hP hw hK
    obtain ⟨xs, x, hq, hx⟩ := hg
    obtain ⟨its, rv, p, hz⟩ := I.tuple hq
    obtain ⟨u, hu, ru⟩ := rv.get hx
    obtain ⟨f0, f1, f2, f3, f4, f5⟩ := hf it (by simp)
    refine wpAny_pyNext_tuple_item st (show s.heap.IsTuple a its.toArray from p) (x := u) (by simpa using hu) fun h' st' sb => ?_
    have I1 : Inv X pins σ H { s with heap := h' } := I.turned (t' := s.toks) (fun b o hb e => (sb.2 b hb).trans e) f0 f1 f3 f4 f5
    obtain ⟨o, e, c, d⟩ := id st'
    exact ⟨u, rfl, go_of (s := { s with heap := h' }) e c d (by decide) ⟨x, H, I1, ru, ⟨rfl, fun ys hy => by rw [I.tuple_inj hy hq]; exact hx⟩, st', fun b hb => (hf b hb).1⟩⟩
  done := by
    intro X hP hw hK hc i pins s σ H E I hf st hg
    subst hP hw hK
    obtain ⟨xs, hq, hx⟩ := hg
    obtain ⟨its, rv, p, hz⟩ := I.tuple hq
    obtain ⟨f0, f1, f2, f3, f4, f5⟩ := hf it (by simp)
    have hl := rv.length
    exact wpAny_pyNext_tuple_end (I.ok.hd hc) st (show s.heap.IsTuple a its.toArray from p) (by simp; omega) fun h' eb => ⟨rfl, I.turned (t' := s.toks) (fun b o hb e => eb b o hb e) f0 f1 f3 f4 f5⟩
  self := fun _ _ _ _ _ st h => wpAny_pyIter_tupleiter st h
theorem turn_range {P : Program} {w : World} {K : PySem.W.Frag} {tg : Expr} (it : Addr) (lo : Int) (n : Nat) : Turn P w K tg (Itr lo n) [it] it (fun i h => IsRangeIter h it (lo + (i : Nat) * 1) ((n : Int) - (i : Nat)) 1) where
  mem := by simp
  obj := fun i h st b hb => by
    have e : b = it := by simpa using hb
    subst e
    exact ⟨_, st, fun v z => by
      have z' : Data.fields _ = Data.cell v := z
      cases z'⟩
  keep := fun i h h' st k => k it (by simp) _ st
  item := by
    intro X hP hw hK hc i pins s σ H E I hf st hg
    subst hP hw hK
    obtain ⟨f0, f1, f2, f3, f4, f5⟩ := hf it (by simp)
    have W := Walks.range (prog := X.prog) (w := X.w) (I.ok.hd hc) it lo 1 n
    refine W.item i s _ _ hg st fun v h' tk hv st' kk => ?_
    obtain ⟨t, rfl⟩ := hv
    have I1 : Inv X pins σ H { s with heap := h', toks := tk } := I.turned (fun b o hb e => kk b o (by simpa using hb) e) f0 f1 f3 f4 f5
    refine ⟨_, rfl, go_of (s := { s with heap := h', toks := tk }) (n := "range_iterator") st' rfl rfl (by decide) ⟨.int (lo + i), H, I1, ⟨t, ?_⟩, ⟨rfl, rfl⟩, st', fun b hb => (hf b hb).1⟩⟩
    rw [Int.mul_one]
  done := by
    intro X hP hw hK hc i pins s σ H E I hf st hg
    subst hP hw hK
    obtain ⟨f0, f1, f2, f3, f4, f5⟩ := hf it (by simp)
    exact wpAny_pyNext_range_end (I.ok.hd hc) st (by have : n ≤ i := hg; omega) fun h' eb => ⟨rfl, I.turned (t' := s.toks) (fun b o hb e => eb b o hb e) f0 f1 f3 f4 f5⟩
  self := fun _ _ _ _ _ st h => wpAny_pyIter_rangeiter st h
section
variable {X : Cx} {tg : Expr}
noncomputable def iList (K : PySem.W.Frag) (tl : TE) : TI := fun σ H R => tl σ H fun x H1 => ∃ a, x = .ref a ∧ (∃ xs, SqL K H1 a xs) ∧ R (Itl K a) H1
noncomputable def iTup (K : PySem.W.Frag) (tl : TE) : TI := fun σ H R => tl σ H fun x H1 => ∃ a, x = .ref a ∧ (∃ xs, SqT K H1 a xs) ∧ R (Itt K a) H1
theorem pi_list {l : Expr} {tl : TE} (hl : PE X l tl) : PI X tg l (iList X.K tl) := by
  intro pins s σ H R I h
  refine thn (hl pins s σ H _ I h) fun v s1 ⟨x, H1, I1, r1, q1⟩ => ?_
  obtain ⟨a, e, ⟨xs, hq⟩, q⟩ := q1
  subst e
  cases r1
  obtain ⟨its, rv, p, hz⟩ := I1.list hq
  refine wpAny_pyIter_list p.isList ?_
  refine ⟨s1.heap.objs.size, [s1.heap.objs.size], _, _, H1, rfl, I1.kept (t' := s1.toks) fun b o e => Heap.get?_push_of_some _ e, turn_list a _, ⟨_, Heap.get?_push_size _ rfl, rfl, rfl⟩, fun b hb => ?_, q⟩
  have e : b = s1.heap.objs.size := by simpa using hb
  subst e
  exact I1.fpOk (Nat.le_refl _) (I1.hok.fresh (Nat.le_refl _))
theorem pi_tup {l : Expr} {tl : TE} (hl : PE X l tl) : PI X tg l (iTup X.K tl) := by
  intro pins s σ H R I h
  refine thn (hl pins s σ H _ I h) fun v s1 ⟨x, H1, I1, r1, q1⟩ => ?_
  obtain ⟨a, e, ⟨xs, hq⟩, q⟩ := q1
  subst e
  cases r1
  obtain ⟨its, rv, p, hz⟩ := I1.tuple hq
  refine wpAny_pyIter_tuple (show s1.heap.IsTuple a its.toArray from p) ?_
  refine ⟨s1.heap.objs.size, [s1.heap.objs.size], _, _, H1, rfl, I1.kept (t' := s1.toks) fun b o e => Heap.get?_push_of_some _ e, turn_tuple a _, ⟨_, Heap.get?_push_size _ rfl, rfl, rfl⟩, fun b hb => ?_, q⟩
  have e : b = s1.heap.objs.size := by simpa using hb
  subst e
  exact I1.fpOk (Nat.le_refl _) (I1.hok.fresh (Nat.le_refl _))
theorem range_it {pins : List (Addr × Obj)} {σ : St} {H : Hp} {s : Shared} {R : It → Hp → Prop} {E : Value → Shared → Prop} {lo hi : Int} {t u v : Tok} {tk : Nat} (I : Inv X pins σ H s) (h1 : -(2 ^ 62) ≤ lo) (h2 : lo < 2 ^ 62) (h3 : -(2 ^ 62) ≤ hi) (h4 : hi < 2 ^ 62)
    (q : R (Itr lo (hi - lo).toNat) H) : wpAny (model X.prog X.w) X.A (pyIter (.ref s.heap.objs.size)) (PIE X pins σ tg R) E { s with heap := s.heap.push { cls := .type "range", data := .fields #[.int lo t, .int hi u, .int 1 v] }, toks := tk } := by
  refine wpAny_pyIter_range (IsRange.new ..) (small_one h1 h2 h3 h4) ?_
  have I1 : Inv X pins σ H { s with heap := s.heap.push { cls := .type "range", data := .fields #[.int lo t, .int hi u, .int 1 v] }, toks := tk } := I.kept fun b o e => Heap.get?_push_of_some _ e
  refine ⟨(s.heap.push { cls := .type "range", data := .fields #[.int lo t, .int hi u, .int 1 v] }).objs.size, [(s.heap.push { cls := .type "range", data := .fields #[.int lo t, .int hi u, .int 1 v] }).objs.size], _, _, H, rfl,
    I1.kept (t' := tk) fun b o e => Heap.get?_push_of_some _ e, turn_range _ lo (hi - lo).toNat, ?_, fun b hb => ?_, q⟩
  · have e1 : lo + ((0 : Nat) : Int) * 1 = lo := by simp
    have e2 : (((hi - lo).toNat : Nat) : Int) - ((0 : Nat) : Int) = Builtin.Range.rangeSize lo hi 1 := by rw [rangeSize_one]; split <;> omega
    show IsRangeIter _ _ (lo + ((0 : Nat) : Int) * 1) ((((hi - lo).toNat : Nat) : Int) - ((0 : Nat) : Int)) 1
    rw [e1, e2]
    exact Heap.get?_push_size _ rfl
  · have e : b = (s.heap.push { cls := .type "range", data := .fields #[.int lo t, .int hi u, .int 1 v] }).objs.size := by simpa using hb
    subst e
    exact I1.fpOk (Nat.le_refl _) (I1.hok.fresh (Nat.le_refl _))
noncomputable def iRng1 (ta : TA) : TI := fun σ H R => ta σ H fun vs H1 => ∃ j : Int, vs = [.int j] ∧ -(2 ^ 62) ≤ j ∧ j < 2 ^ 62 ∧ R (Itr 0 j.toNat) H1
theorem pi_range1 {a : Expr} {ta : TA} {p pos : Pos} (hg : Gl X "range") (hm : X.mg "range" = none) (ha : PA X [a] ta) (hs : starEach [a] X.env = [(false, eval a X.env)] := by rfl) : PI X tg (.Call (.Name "range" p) [a] [] pos) (iRng1 ta) := by
  intro pins s σ H R I h
  refine Call_ (ld_blt I hg hm boot_range (PyProof.Rows.callWith_type1 (thn (ha pos pins s σ H _ I h) fun us s1 ⟨vs, H1, I1, r1, q1⟩ => ?_) hs rfl))
  obtain ⟨j, e, q1, q2, q⟩ := q1
  subst e
  cases r1 with
  | cons r rr =>
    cases rr
    obtain ⟨t, rfl⟩ := r
    exact call_range_1 (range_it I1 (by omega) (by omega) q1 q2 (by simpa using q))
noncomputable def tFor (wi : TI) (g : TG) (tb : TS) : TS := fun D σ H => wi σ H fun J H1 => ∃ W : Nat → Nat → St → Hp → Prop, (∃ m, W 0 m σ H1) ∧ ∀ i m σ H, W i m σ H →
  (J.stop i H ∧ D.nx σ H) ∨ (J.go i H ∧ ∃ N : St → Hp → Prop, (∀ σ' H', N σ' H' → ∃ m', m' < m ∧ W (i + 1) m' σ' H') ∧ ∀ x H', J.yld i H x H' → g x σ H' fun σ2 H2 => tb { D with nx := N, ct := N, bk := D.nx } σ2 H2)
noncomputable def pinsAt (fp : List Addr) (h : Heap) : List (Addr × Obj) := fp.filterMap fun b => (h.get? b).map fun o => (b, o)
theorem mem_pinsAt {fp : List Addr} {h : Heap} {b : Addr} {o : Obj} (hb : b ∈ fp) (e : h.get? b = some o) : (b, o) ∈ pinsAt fp h := List.mem_filterMap.mpr ⟨b, hb, by rw [e]; rfl⟩
theorem of_pinsAt {fp : List Addr} {h : Heap} {p : Addr × Obj} (hp : p ∈ pinsAt fp h) : p.1 ∈ fp ∧ h.get? p.1 = some p.2 := by
  obtain ⟨b, hb, e⟩ := List.mem_filterMap.mp hp
  cases q : h.get? b with
  | none => rw [q] at e; cases e
  | some o =>
    rw [q] at e
    have e' : (b, o) = p := Option.some.inj e
    subst e'
    exact ⟨hb, q⟩
theorem Inv.pinned {pins : List (Addr × Obj)} {σ : St} {H : Hp} {s : Shared} {fp : List Addr} (I : Inv X pins σ H s) (hf : ∀ b ∈ fp, FpOk X pins H b) (ho : ∀ b ∈ fp, ∃ o, s.heap.get? b = some o ∧ ∀ v, o.data ≠ .cell v) : Inv X (pins ++ pinsAt fp s.heap) σ H s :=
  I.pins_of fun p hp => (List.mem_append.mp hp).elim (fun z => I.pin p (List.mem_append_right _ z)) fun z => by
    obtain ⟨hb, e⟩ := of_pinsAt z
    obtain ⟨f0, f1, f2, _⟩ := hf p.1 hb
    obtain ⟨o, e', d⟩ := ho p.1 hb
    rw [e] at e'; cases e'
    exact ⟨e, f0, f1, f2, d⟩
theorem Inv.unpinned {pins pl : List (Addr × Obj)} {σ : St} {H : Hp} {s : Shared} (I : Inv X (pins ++ pl) σ H s) : Inv X pins σ H s := I.pins_of fun p hp => I.pin p (List.mem_append_right _ (List.mem_append_left _ hp))
theorem ps_for {iter : Expr} {body : List Stmt} {wi : TI} {g : TG} {tb : TS} {pos : Pos} (hp : PassesOwn (model X.prog X.w) X.A X.env X.xe) (hc : X.calm = true) (hi : PI X tg iter wi) (hg : PG X tg g) (hb : PSs X body tb)
    (hs : ∀ x, foldedSetIterable iter X.env x = pure x := by intro _; rfl) : PS X (.For tg iter body [] pos) (tFor wi g tb) := by
  intro pins s σ H D I h
  refine wpAny_For (thn (hi pins s σ H _ I h) fun v s1 h1 => thn h1 fun itv s2 h2 => ?_) hs
  obtain ⟨it, fp, tn, J, H2, e, I2, T, st2, f2, W, ⟨m0, w0⟩, turn⟩ := h2
  subst e
  -- what stays true of the iterator's objects through the loop
  have stat : ∀ {H' : Hp}, (∀ b ∈ fp, H' b = none) → ∀ b ∈ fp, FpOk X pins H' b := fun hn b hb => ⟨hn b hb, (f2 b hb).2⟩
  refine codeAny_forLoop_any (fun n s' => ∃ i σ' H', Inv X pins σ' H' s' ∧ tn i s'.heap ∧ (∀ b ∈ fp, H' b = none) ∧ W i n σ' H') ?_ m0 ⟨0, σ, H2, I2, st2, fun b hb => (f2 b hb).1, w0⟩
  rintro n s3 ⟨i, σ3, H3, I3, st3, fr3, w3⟩
  rcases turn i n σ3 H3 w3 with ⟨stop, qn⟩ | ⟨go, N, hN, step⟩
  · refine wpAny_passesOwn hp (thn (T.done X rfl rfl rfl hc i pins s3 σ3 H3 X.xe I3 (stat fr3) st3 stop) fun r s4 ⟨hr, I4⟩ => ?_)
    subst hr
    exact wpAny_execs_nil ⟨σ3, H3, I4, qn⟩
  · refine wpAny_passesOwn hp (thn (T.item X rfl rfl rfl hc i pins s3 σ3 H3 X.xe I3 (stat fr3) st3 go) fun r s4 ⟨u, hr, h4⟩ => ?_)
    subst hr
    refine wpAny_passesOwn hp (thn h4 fun _ s5 ⟨x, H5, I5, r5, y5, st5, fr5⟩ => ?_)
    have I5' := I5.pinned (stat fr5) (T.obj _ _ st5)
    refine wpAny_passesOwn hp (thn (hg _ s5 σ3 H5 x u _ I5' r5 (step x H5 y5)) fun _ s6 ⟨σ6, H6, I6, q6⟩ => ?_)
    refine wpAny_passesOwn hp (thn (hb _ s6 σ6 H6 _ I6 q6) fun f s7 q7 => ?_)
    have again : ∀ {σ7 : St} {H7 : Hp}, Inv X (pins ++ pinsAt fp s5.heap) σ7 H7 s7 → N σ7 H7 → ∃ m, m < n ∧ ∃ i σ' H', Inv X pins σ' H' s7 ∧ tn i s7.heap ∧ (∀ b ∈ fp, H' b = none) ∧ W i m σ' H' := fun {σ7 H7} I7 n7 => by
      obtain ⟨m', hm, w7⟩ := hN σ7 H7 n7
      refine ⟨m', hm, i + 1, σ7, H7, I7.unpinned, T.keep _ _ _ st5 fun b hb o e => (I7.pin (b, o) (List.mem_append_right _ (List.mem_append_right _ (mem_pinsAt hb e)))).1, fun b hb => ?_, w7⟩
      obtain ⟨o, e, d⟩ := T.obj _ _ st5 b hb
      exact (I7.pin (b, o) (List.mem_append_right _ (List.mem_append_right _ (mem_pinsAt hb e)))).2.1
    cases f with
    | next => obtain ⟨σ7, H7, I7, n7⟩ := q7; exact again I7 n7
    | cont => obtain ⟨σ7, H7, I7, n7⟩ := q7; exact again I7 n7
    | brk => obtain ⟨σ7, H7, I7, q7⟩ := q7; exact ⟨σ7, H7, I7.unpinned, q7⟩
    | ret v => obtain ⟨x7, σ7, H7, I7, r7, q7⟩ := q7; exact ⟨x7, σ7, H7, I7.unpinned, r7, q7⟩
end
noncomputable abbrev R2 := V → V → Hp → VK → Prop
noncomputable def OpR (X : Cx) (f : Value → Value → Sem Value) (r : R2) : Prop :=
  ∀ (pins : List (Addr × Obj)) (s : Shared) (σ : St) (H : Hp) (x y : V) (v u : Value) (Q : VK), Inv X pins σ H s → RelV x v → RelV y u → r x y H Q →
    wpAny (model X.prog X.w) X.A (f v u) (EP X pins σ Q) X.xe s
noncomputable def UnR (X : Cx) (f : Value → Sem Value) (r : V → Hp → VK → Prop) : Prop :=
  ∀ (pins : List (Addr × Obj)) (s : Shared) (σ : St) (H : Hp) (x : V) (v : Value) (Q : VK), Inv X pins σ H s → RelV x v → r x H Q →
    wpAny (model X.prog X.w) X.A (f v) (EP X pins σ Q) X.xe s
noncomputable def CallR (X : Cx) (f : Value) (r : List V → Hp → VK → Prop) : Prop :=
  ∀ (pins : List (Addr × Obj)) (s : Shared) (σ : St) (H : Hp) (xs : List V) (us : List Value) (Q : VK), Inv X pins σ H s → Vals xs us → r xs H Q →
    wpAny (model X.prog X.w) X.A (call f us) (EP X pins σ Q) X.xe s
noncomputable def tOp (r : R2) (ta tb : TE) : TE := fun σ H Q => ta σ H fun x H1 => tb σ H1 fun y H2 => r x y H2 Q
noncomputable def tUn (r : V → Hp → VK → Prop) (ta : TE) : TE := fun σ H Q => ta σ H fun x H1 => r x H1 Q
noncomputable def rI (C : Int → Int → Prop) (g : Int → Int → V) : R2 := fun x y H Q => ∃ i j, x = .int i ∧ y = .int j ∧ C i j ∧ Q (g i j) H
noncomputable def rI0 (g : Int → Int → V) : R2 := fun x y H Q => ∃ i j, x = .int i ∧ y = .int j ∧ Q (g i j) H
noncomputable def rU (g : Int → V) : V → Hp → VK → Prop := fun x H Q => ∃ i, x = .int i ∧ Q (g i) H
section
variable {X : Cx} {a b c : Expr} {ta tb tc : TE} {pos : Pos}
theorem binT (ha : PE X a ta) (hb : PE X b tb) {pins : List (Addr × Obj)} {s : Shared} {σ : St} {H : Hp} {R : V → V → Hp → Prop} (I : Inv X pins σ H s)
    (h : ta σ H fun x H1 => tb σ H1 fun y H2 => R x y H2) {Q : Value → Shared → Prop} {f : Value → Value → Sem Value}
    (hf : ∀ v u s2 x y H2, Inv X pins σ H2 s2 → RelV x v → RelV y u → R x y H2 → wpAny (model X.prog X.w) X.A (f v u) Q X.xe s2) :
    wpAny (model X.prog X.w) X.A (eval a X.env) (fun v s₁ => wpAny (model X.prog X.w) X.A (eval b X.env) (fun u s₂ => wpAny (model X.prog X.w) X.A (f v u) Q X.xe s₂) X.xe s₁) X.xe s := by
  refine thn (ha pins s σ H _ I h) fun v s1 ⟨x, H1, I1, r1, q1⟩ => ?_
  refine thn (hb pins s1 σ H1 _ I1 q1) fun u s2 ⟨y, H2, I2, r2, q2⟩ => ?_
  exact hf v u s2 x y H2 I2 r1 r2 q2
theorem pe_op {op : Operator} {r : R2} (ho : OpR X (binaryOp op) r) (ha : PE X a ta) (hb : PE X b tb) : PE X (.BinOp a op b pos) (tOp r ta tb) := by
  intro pins s σ H Q I h
  exact wpAny_BinOp (binT ha hb I h fun v u s2 x y H2 I2 rx ry q => ho pins s2 σ H2 x y v u Q I2 rx ry q)
theorem pe_un {op : UnaryOp} {r : V → Hp → VK → Prop} (ho : UnR X (unaryOp op) r) (ha : PE X a ta) : PE X (.UnaryOp op a pos) (tUn r ta) := by
  intro pins s σ H Q I h
  exact UnaryOp_ (thn (ha pins s σ H _ I h) fun v s1 ⟨x, H1, I1, r1, q1⟩ => ho pins s1 σ H1 x v Q I1 r1 q1)
theorem opI {f : Value → Value → Sem Value} {C : Int → Int → Prop} {g : Int → Int → Int}
    (rule : ∀ (i j : Int) (t u : Tok) (s : Shared) (Q : Value → Shared → Prop) (E : Value → Shared → Prop), C i j → Q (.int (g i j) s.toks) { s with toks := s.toks + 1 } → wpAny (model X.prog X.w) X.A (f (.int i t) (.int j u)) Q E s) :
    OpR X f (rI C fun i j => .int (g i j)) := by
  intro pins s σ H x y v u Q I rx ry h
  obtain ⟨i, j, rfl, rfl, hc, q⟩ := h
  obtain ⟨t, rfl⟩ := rx
  obtain ⟨t', rfl⟩ := ry
  exact rule i j t t' s _ _ hc ⟨.int (g i j), H, I.tok _, ⟨_, rfl⟩, q⟩
theorem opI0 {f : Value → Value → Sem Value} {g : Int → Int → Int}
    (rule : ∀ (i j : Int) (t u : Tok) (s : Shared) (Q : Value → Shared → Prop) (E : Value → Shared → Prop), Q (.int (g i j) s.toks) { s with toks := s.toks + 1 } → wpAny (model X.prog X.w) X.A (f (.int i t) (.int j u)) Q E s) :
    OpR X f (rI0 fun i j => .int (g i j)) := by
  intro pins s σ H x y v u Q I rx ry h
  obtain ⟨i, j, rfl, rfl, q⟩ := h
  obtain ⟨t, rfl⟩ := rx
  obtain ⟨t', rfl⟩ := ry
  exact rule i j t t' s _ _ ⟨.int (g i j), H, I.tok _, ⟨_, rfl⟩, q⟩
theorem opB0 {f : Value → Value → Sem Value} {g : Int → Int → Bool}
    (rule : ∀ (i j : Int) (t u : Tok) (s : Shared) (Q : Value → Shared → Prop) (E : Value → Shared → Prop), Q (.bool (g i j)) s → wpAny (model X.prog X.w) X.A (f (.int i t) (.int j u)) Q E s) :
    OpR X f (rI0 fun i j => .bl (g i j)) := by
  intro pins s σ H x y v u Q I rx ry h
  obtain ⟨i, j, rfl, rfl, q⟩ := h
  obtain ⟨t, rfl⟩ := rx
  obtain ⟨t', rfl⟩ := ry
  exact rule i j t t' s _ _ ⟨.bl (g i j), H, I, rfl, q⟩
noncomputable def CDiv (i j : Int) : Prop := 0 < j ∧ j < 1073741824
noncomputable def CPow (i j : Int) : Prop := 0 ≤ j ∧ j ≤ 1000000 ∧ i.natAbs < 2 ^ 64
noncomputable def CMul (i j : Int) : Prop := (-(2 ^ 64) < i ∧ i < 2 ^ 64) ∨ (-(2 ^ 64) < j ∧ j < 2 ^ 64)
theorem CMul.ok {i j : Int} (h : CMul i j) : IntMulOk i j := by
  rcases h with ⟨h1, h2⟩ | ⟨h1, h2⟩
  · exact .of_left (intBits_le_64 h1 h2)
  · exact .of_right (intBits_le_64 h1 h2)
theorem op_add : OpR X (binaryOp .Add) (rI0 fun i j => .int (i + j)) := opI0 fun _ _ _ _ _ _ _ q => add_int q
theorem op_sub : OpR X (binaryOp .Sub) (rI0 fun i j => .int (i - j)) := opI0 fun _ _ _ _ _ _ _ q => sub_int q
theorem op_fdiv : OpR X (binaryOp .FloorDiv) (rI CDiv fun i j => .int (i / j)) := opI fun i j _ _ _ _ _ hc q => by
  have h1 : (0 : Int) < j := hc.1
  have h2 : j < 1073741824 := hc.2
  exact floordiv_int (by omega) (by rw [Int.fdiv_eq_ediv_of_nonneg i (by omega)]; exact q) (.inl (PyProof.noPylong_small (by omega)))
theorem op_mod : OpR X (binaryOp .Mod) (rI (fun _ j => 0 < j) fun i j => .int (i % j)) := opI fun i j _ _ _ _ _ hc q => by
  have h1 : (0 : Int) < j := hc
  exact mod_int' (by omega) (by rw [Int.fmod_eq_emod_of_nonneg i (by omega)]; exact q)
theorem op_pow : OpR X (binaryOp .Pow) (rI CPow fun i j => .int (i ^ j.toNat)) := opI fun _ _ _ _ _ _ _ hc q => pow_int_small hc.1 hc.2.1 hc.2.2 q
theorem unI {f : Value → Sem Value} {g : Int → Int}
    (rule : ∀ (i : Int) (t : Tok) (s : Shared) (Q : Value → Shared → Prop) (E : Value → Shared → Prop), Q (.int (g i) s.toks) { s with toks := s.toks + 1 } → wpAny (model X.prog X.w) X.A (f (.int i t)) Q E s) :
    UnR X f (rU fun i => .int (g i)) := by
  intro pins s σ H x v Q I rx h
  obtain ⟨i, rfl, q⟩ := h
  obtain ⟨t, rfl⟩ := rx
  exact rule i t s _ _ ⟨.int (g i), H, I.tok _, ⟨_, rfl⟩, q⟩
theorem un_neg : UnR X (unaryOp .USub) (rU fun i => .int (-i)) := unI fun _ _ _ _ _ q => neg_int q
end
section
variable {X : Cx} {a b c : Expr} {ta tb tc : TE} {pos : Pos}
theorem fin_bl {pins : List (Addr × Obj)} {σ : St} {H : Hp} {s : Shared} {Q : VK} {k k' : Bool} (I : Inv X pins σ H s) (q : Q (.bl k) H) (e : k = k') : EP X pins σ Q (.bool k') s := by
  subst e
  exact ⟨.bl k, H, I, rfl, q⟩
theorem op_lt : OpR X (compareOp .Lt) (rI0 fun i j => .bl (decide (i < j))) := opB0 fun _ _ _ _ _ _ _ q => lt_int q
theorem op_le : OpR X (compareOp .LtE) (rI0 fun i j => .bl (decide (i ≤ j))) := opB0 fun _ _ _ _ _ _ _ q => le_int q
theorem op_gt : OpR X (compareOp .Gt) (rI0 fun i j => .bl (decide (j < i))) := opB0 fun _ _ _ _ _ _ _ q => gt_int q
theorem op_ge : OpR X (compareOp .GtE) (rI0 fun i j => .bl (decide (j ≤ i))) := opB0 fun _ _ _ _ _ _ _ q => ge_int q
theorem op_isN : OpR X (compareOp .Is) (fun x y H Q => y = .non ∧ Q (.bl (decide (x = .non))) H) := by
  intro pins s σ H x y v u Q I rx ry h
  obtain ⟨rfl, q⟩ := h
  cases ry
  refine is_none_gen (fin_bl I q ?_)
  cases x <;> first
    | (cases rx; rfl)
    | (obtain ⟨t, rfl⟩ := rx; rfl)
theorem op_notN : OpR X (compareOp .IsNot) (fun x y H Q => y = .non ∧ Q (.bl (!decide (x = .non))) H) := by
  intro pins s σ H x y v u Q I rx ry h
  obtain ⟨rfl, q⟩ := h
  cases ry
  refine isnot_none_gen (fin_bl I q ?_)
  cases x <;> first
    | (cases rx; rfl)
    | (obtain ⟨t, rfl⟩ := rx; rfl)
theorem OpR.or {f : Value → Value → Sem Value} {r r' : R2} (h : OpR X f r) (h' : OpR X f r') : OpR X f (fun x y H Q => r x y H Q ∨ r' x y H Q) := by
  intro pins s σ H x y v u Q I rx ry q
  rcases q with q | q
  · exact h pins s σ H x y v u Q I rx ry q
  · exact h' pins s σ H x y v u Q I rx ry q
theorem nomark (b : Expr) {op : CmpOp} (h : op ≠ .In := by decide) (h2 : op ≠ .NotIn := by decide) : behindInMarks op b = false := by
  have e1 : (op == CmpOp.In) = false := by cases op <;> first | rfl | exact absurd rfl h
  have e2 : (op == CmpOp.NotIn) = false := by cases op <;> first | rfl | exact absurd rfl h2
  cases b <;> simp [behindInMarks, e1, e2]
theorem pe_cmpR {op : CmpOp} {r : R2} (ho : OpR X (compareOp op) r) (ha : PE X a ta) (hb : PE X b tb) (hm : behindInMarks op b = false) : PE X (.Compare a [op] [b] pos) (tOp r ta tb) := by
  intro pins s σ H Q I h
  exact wpAny_Compare1 (binT ha hb I h fun v u s2 x y H2 I2 rx ry q => ho pins s2 σ H2 x y v u Q I2 rx ry q) hm
noncomputable def tTest (t : TE) : TT := fun σ H Q => t σ H fun x H' => ∃ k, x = .bl k ∧ Q k H'
theorem pt_cmpR {op : CmpOp} {r : R2} (ho : OpR X (compareOp op) r) (ha : PE X a ta) (hb : PE X b tb) (hm : behindInMarks op b = false) : PT X (.Compare a [op] [b] pos) (tTest (tOp r ta tb)) := by
  intro pins s σ H Q I h
  refine wpAny_isTrue_Compare1 (thn (ha pins s σ H _ I h) fun v s1 ⟨x, H1, I1, r1, q1⟩ => thn (hb pins s1 σ H1 _ I1 q1) fun u s2 ⟨y, H2, I2, r2, q2⟩ =>
    thn (ho pins s2 σ H2 x y v u _ I2 r1 r2 q2) fun c s3 ⟨z, H3, I3, r3, k, e, q3⟩ => ?_) hm
  subst e
  cases r3
  exact wpAny_truthy_bool ⟨H3, I3, q3⟩
noncomputable def tChain (r r' : R2) (ta tb tc : TE) : TE := fun σ H Q => ta σ H fun x H1 => tb σ H1 fun y H2 => r x y H2 fun z H3 => ∃ k, z = .bl k ∧
  (if k = true then tc σ H3 fun w' H4 => r' y w' H4 Q else Q (.bl false) H3)
theorem pe_chain {op op' : CmpOp} {r r' : R2} (ho : OpR X (compareOp op) r) (ho' : OpR X (compareOp op') r') (ha : PE X a ta) (hb : PE X b tb) (hc : PE X c tc)
    (hm : lastMarks [op, op'] [b, c] = false := by with_unfolding_all rfl) : PE X (.Compare a [op, op'] [b, c] pos) (tChain r r' ta tb tc) := by
  intro pins s σ H Q I h
  refine Compare_chain (thn (ha pins s σ H _ I h) fun v s1 ⟨x, H1, I1, r1, q1⟩ => chain_link (thn (hb pins s1 σ H1 _ I1 q1) fun u s2 ⟨y, H2, I2, r2, q2⟩ =>
    thn (ho pins s2 σ H2 x y v u _ I2 r1 r2 q2) fun d s3 ⟨z, H3, I3, r3, k, e, q3⟩ => ?_)) hm
  subst e
  cases r3
  refine wpAny_truthy_bool ?_
  cases k with
  | false => exact ite_ff ⟨.bl false, H3, I3, rfl, q3⟩
  | true => exact ite_tt (chain_last (thn (hc pins s3 σ H3 _ I3 q3) fun w' s4 ⟨z', H4, I4, r4, q4⟩ => ho' pins s4 σ H4 y z' u w' Q I4 r2 r4 q4))
theorem pt_chain {op op' : CmpOp} {r r' : R2} (ho : OpR X (compareOp op) r) (ho' : OpR X (compareOp op') r') (ha : PE X a ta) (hb : PE X b tb) (hc : PE X c tc)
    (hm : lastMarks [op, op'] [b, c] = false := by with_unfolding_all rfl) : PT X (.Compare a [op, op'] [b, c] pos) (tTest (tChain r r' ta tb tc)) := by
  intro pins s σ H Q I h
  refine isTrue_chain (thn (ha pins s σ H _ I h) fun v s1 ⟨x, H1, I1, r1, q1⟩ => test_link (thn (hb pins s1 σ H1 _ I1 q1) fun u s2 ⟨y, H2, I2, r2, q2⟩ =>
    thn (ho pins s2 σ H2 x y v u _ I2 r1 r2 q2) fun d s3 ⟨z, H3, I3, r3, k, e, q3⟩ => ?_)) hm
  subst e
  cases r3
  refine wpAny_truthy_bool ?_
  cases k with
  | false =>
    obtain ⟨k', e', q'⟩ := q3
    cases e'
    exact ite_ff ⟨H3, I3, q'⟩
  | true =>
    refine ite_tt (test_last (thn (hc pins s3 σ H3 _ I3 q3) fun w' s4 ⟨z', H4, I4, r4, q4⟩ => thn (ho' pins s4 σ H4 y z' u w' _ I4 r2 r4 q4) fun d' s5 ⟨z2, H5, I5, r5, k2, e2, q5⟩ => ?_))
    subst e2
    cases r5
    exact wpAny_truthy_bool ⟨H5, I5, q5⟩
theorem line63 : (sizeLine : Nat) < 2 ^ 63 := by rw [sizeLine_eq]; decide
theorem op_add_str : OpR X (binaryOp .Add) (fun x y H Q => ∃ i j, x = .str i ∧ y = .str j ∧ i.length + j.length ≤ sizeLine ∧ Q (.str (i ++ j)) H) := by
  intro pins s σ H x y v u Q I rx ry h
  obtain ⟨i, j, rfl, rfl, hz, q⟩ := h
  obtain ⟨t, rfl⟩ := rx
  obtain ⟨t', rfl⟩ := ry
  exact add_str (fun t' tk => ⟨.str (i ++ j), H, I.tok _, ⟨_, rfl⟩, q⟩) hz
theorem vals1 {x : V} {us : List Value} (r : Vals [x] us) : ∃ u, us = [u] ∧ RelV x u := by
  cases r with
  | cons r1 r2 => cases r2; exact ⟨_, rfl, r1⟩
theorem vals2 {x y : V} {us : List Value} (r : Vals [x, y] us) : ∃ u w', us = [u, w'] ∧ RelV x u ∧ RelV y w' := by
  cases r with
  | cons r1 r2 =>
    cases r2 with
    | cons r3 r4 => cases r4; exact ⟨_, _, rfl, r1, r3⟩
theorem call_abs : CallR X (.builtin "abs") (fun xs H Q => ∃ i, xs = [.int i] ∧ Q (.int (if i < 0 then -i else i)) H) := by
  intro pins s σ H xs us Q I r h
  obtain ⟨i, rfl, q⟩ := h
  obtain ⟨u, rfl, t, rfl⟩ := vals1 r
  exact call_abs_int fun u tk => ⟨.int (if i < 0 then -i else i), H, I.tok _, ⟨_, rfl⟩, q⟩
theorem call_max2 (hc : X.calm = true) : CallR X (.builtin "max") (fun xs H Q => ∃ i j, xs = [.int i, .int j] ∧ Q (.int (if j > i then j else i)) H) := by
  intro pins s σ H xs us Q I r h
  obtain ⟨i, j, rfl, q⟩ := h
  obtain ⟨u, w', rfl, ⟨t, rfl⟩, ⟨t', rfl⟩⟩ := vals2 r
  refine max_two_ints (I.ok.hd hc) fun h' tk k => ⟨_, H, I.kept k, ?_, q⟩
  by_cases hj : j > i
  · rw [if_pos hj, if_pos hj]; exact ⟨_, rfl⟩
  · rw [if_neg hj, if_neg hj]; exact ⟨_, rfl⟩
theorem call_min2 (hc : X.calm = true) : CallR X (.builtin "min") (fun xs H Q => ∃ i j, xs = [.int i, .int j] ∧ Q (.int (if j < i then j else i)) H) := by
  intro pins s σ H xs us Q I r h
  obtain ⟨i, j, rfl, q⟩ := h
  obtain ⟨u, w', rfl, ⟨t, rfl⟩, ⟨t', rfl⟩⟩ := vals2 r
  refine min_two_ints (I.ok.hd hc) fun h' tk k => ⟨_, H, I.kept k, ?_, q⟩
  by_cases hj : j < i
  · rw [if_pos hj, if_pos hj]; exact ⟨_, rfl⟩
  · rw [if_neg hj, if_neg hj]; exact ⟨_, rfl⟩
theorem call_int1 : CallR X (.type "int") (fun xs H Q => (∃ i, xs = [.int i] ∧ Q (.int i) H) ∨ ∃ k, xs = [.bl k] ∧ Q (.int (if k then 1 else 0)) H) := by
  intro pins s σ H xs us Q I r h
  rcases h with ⟨i, rfl, q⟩ | ⟨k, rfl, q⟩
  · obtain ⟨u, rfl, t, rfl⟩ := vals1 r
    exact call_int_int ⟨.int i, H, I, ⟨_, rfl⟩, q⟩
  · obtain ⟨u, rfl, r1⟩ := vals1 r
    cases r1
    exact call_int_bool ⟨.int (if k then 1 else 0), H, I.tok _, ⟨_, rfl⟩, q⟩
end
structure ObjM (h : Heap) (x dx C : Addr) (mA : Str → Option Value) : Prop where
  obj : h.get? x = some (PySem.W.instObj C dx)
  ns : h.Ns1 dx mA
  ne : dx ≠ x
theorem lookIn_ns {h : Heap} {dx : Addr} {mA : Str → Option Value} (n : h.Ns1 dx mA) : ∃ od, h.get? dx = some od ∧ ∀ name, PySem.W.lookIn name od = some (mA name) := by
  obtain ⟨o, es, ep, ho, hd, hk, _, hm⟩ := n
  refine ⟨o, ho, fun name => ?_⟩
  have e := hm name
  unfold nsFind findBy at e
  rw [← Array.find?_toList] at e
  unfold PySem.W.lookIn
  rw [hd]
  dsimp only
  split
  · rename_i y q
    rw [q] at e
    exact congrArg some e
  · rename_i q
    rw [q] at e
    have a : es.toList.any (·.refKey) = false := by
      rw [List.any_eq_false]
      intro y hy
      obtain ⟨z, t, hkey⟩ := hk y (Array.mem_toList_iff.mp hy)
      simp [DictEntry.refKey, hkey]
    have a' : ¬ es.toList.any (·.refKey) = true := by rw [a]; exact Bool.false_ne_true
    rw [if_neg a']
    exact congrArg some e
theorem ObjM.look {h : Heap} {x dx C : Addr} {mA : Str → Option Value} (I : ObjM h x dx C mA) : ∃ od, PySem.W.InstAt h x (PySem.W.instObj C dx) C (some od) ∧ ∀ name, PySem.W.lookIn name od = some (mA name) :=
  let ⟨od, ho, hl⟩ := lookIn_ns I.ns
  ⟨od, ⟨I.obj, rfl, rfl, ho⟩, hl⟩
section
variable {P : Program} {w : World} {H H' : Hp} {h h' : Heap} {a C dx : Addr} {fs fs' : List (Str × V)}
theorem ins_get (hok : HOk P w H h) (e : H a = some (.ins C dx fs)) : ∃ mA, ObjM h a dx C mA ∧ (∀ f, RelO (fs.lookup f) (mA f)) ∧ PySem.Within mA (fs.map (·.1)) ∧ fs.length ≤ 1000 ∧ H dx = some (.own a) := by
  obtain ⟨d, z, ne, ob, mA, n, r, q⟩ := (show ObjOk P w H h a (.ins C dx fs) from hok a _ e)
  exact ⟨mA, ⟨ob, n, ne⟩, r, q, z, d⟩
end
structure Cls (K : PySem.W.Frag) (C : Addr) : Prop where
  pg : PySem.W.plainGet K C Str.empty = true
  hd : PySem.W.hasDictIn K C = true
  po : PySem.W.plainOver K C = true
  sa : PySem.W.findIn K (.ref C) "__setattr__" = some (some (.builtin "object.__setattr__"))
theorem Cls.get {K : PySem.W.Frag} {C : Addr} (c : Cls K C) (f : Str) : PySem.W.plainGet K C f = true := c.pg
section
variable {X : Cx} {pins : List (Addr × Obj)} {σ : St} {H : Hp} {s : Shared} {A : Around} {E : Value → Shared → Prop} {Q : Value → Shared → Prop} {c : Value} {b : Bool}
inductive TyOf (K : PySem.W.Frag) (H : Hp) : V → Value → Prop where
  | non : TyOf K H .non (.type "NoneType")
  | bl (x : Bool) : TyOf K H (.bl x) (.type "bool")
  | int (i : Int) : TyOf K H (.int i) (.type "int")
  | str (x : Str) : TyOf K H (.str x) (.type "str")
  | flt (x : UInt64) : TyOf K H (.flt x) (.type "float")
  | lst {a : Addr} {xs : List V} (e : H a = some (.lst xs)) : TyOf K H (.ref a) (.type "list")
  | frz {a : Addr} {o : Obj} {xs : List V} (e : H a = some (.frz o (.lst xs))) : TyOf K H (.ref a) (.type "list")
  | tup {a : Addr} {xs : List V} (e : H a = some (.tup xs)) : TyOf K H (.ref a) (.type "tuple")
  | dK {a : Addr} {kvs : List (Key × V)} (e : H a = some (.dK kvs)) : TyOf K H (.ref a) (.type "dict")
  | dT {a : Addr} {kvs : List (List Key × V)} (e : H a = some (.dT kvs)) : TyOf K H (.ref a) (.type "dict")
  | ins {a C dx : Addr} {fs : List (Str × V)} (e : H a = some (.ins C dx fs)) (cl : Cls K C) (ha : PySem.W.findIn K (.ref C) "__class__" = some (some (.builtin "object.__class__")))
      (hn : PySem.W.specialIn K (.builtin "object.__class__") "__get__" = some (some (.builtin "getset_descriptor.__get__"))) (htk : PySem.W.takesIn K (.builtin "object.__class__") = some true)
      (hm : PySem.W.mroIn K C (.type "object") = some true) : TyOf K H (.ref a) (.ref C)
theorem isinst_ok {x : V} {u t : Value} (I : Inv X pins σ H s) (rx : RelV x u) (ty : TyOf X.K H x t) (e : PySem.W.kitOne X.K t c = some b) (h : ∀ tk, Q (.bool b) { s with toks := tk }) :
    wpAny (model X.prog X.w) A (call (.builtin "isinstance") [u, c]) Q E s := by
  cases ty with
  | non => cases (show u = Value.none from rx); exact PySem.W.kia_one PySem.W.kitx_none I.kIn True.intro e (fun z => nomatch z) h
  | bl y => cases (show u = Value.bool y from rx); exact PySem.W.kia_one PySem.W.kitx_bool I.kIn True.intro e (fun z => nomatch z) h
  | int i => obtain ⟨t, q⟩ := (show ∃ t, u = Value.int i t from rx); cases q; exact PySem.W.kia_one PySem.W.kitx_int I.kIn True.intro e (fun z => nomatch z) h
  | str y => obtain ⟨t, q⟩ := (show ∃ t, u = Value.str y t from rx); cases q; exact PySem.W.kia_one PySem.W.kitx_str I.kIn True.intro e (fun z => nomatch z) h
  | flt y => obtain ⟨t, q⟩ := (show ∃ t, u = Value.float y t from rx); cases q; exact PySem.W.kia_one PySem.W.kitx_float I.kIn True.intro e (fun z => nomatch z) h
  | @lst a xs ea =>
    cases (show u = Value.ref a from rx)
    obtain ⟨_, _, n, _, h1⟩ := (show ObjOk X.prog X.w H s.heap a (.lst xs) from I.hok a _ ea)
    exact PySem.W.kia_one PySem.W.kitx_list I.kIn ⟨_, h1, rfl⟩ e (fun z => nomatch z) h
  | @frz a ob xs ea =>
    cases (show u = Value.ref a from rx)
    obtain ⟨_, _, _, n, _, h1⟩ := (show ObjOk X.prog X.w H s.heap a (.frz ob (.lst xs)) from I.hok a _ ea)
    exact PySem.W.kia_one PySem.W.kitx_list I.kIn ⟨_, h1, rfl⟩ e (fun z => nomatch z) h
  | @tup a xs ea =>
    cases (show u = Value.ref a from rx)
    obtain ⟨_, _, _, p⟩ := (show ObjOk X.prog X.w H s.heap a (.tup xs) from I.hok a _ ea)
    obtain ⟨o, h1, h2, _⟩ := p
    exact PySem.W.kia_one PySem.W.kitx_tuple I.kIn ⟨o, h1, h2⟩ e (fun z => nomatch z) h
  | @dK a kvs ea =>
    cases (show u = Value.ref a from rx)
    obtain ⟨_, _, vs, _, p⟩ := (show ObjOk X.prog X.w H s.heap a (.dK kvs) from I.hok a _ ea)
    obtain ⟨o, es, ep, h1, h2, _⟩ := p
    exact PySem.W.kia_one PySem.W.kitx_dict I.kIn ⟨o, h1, h2.1⟩ e (fun z => nomatch z) h
  | @dT a kvs ea =>
    cases (show u = Value.ref a from rx)
    obtain ⟨_, _, xs, _, o, es, ep, h1, h2, _⟩ := (show ObjOk X.prog X.w H s.heap a (.dT kvs) from I.hok a _ ea)
    exact PySem.W.kia_one PySem.W.kitx_dict I.kIn ⟨o, h1, h2.1⟩ e (fun z => nomatch z) h
  | @ins a C dx fs ea cl ha hn htk hm =>
    cases (show u = Value.ref a from rx)
    obtain ⟨mA, O, _⟩ := ins_get I.hok ea
    obtain ⟨od, J, _⟩ := O.look
    exact PySem.W.kia_one (PySem.W.kitx_own (cl.get _) cl.hd ha hn htk hm) I.kIn J e (fun z => nomatch z) h
end
structure Room (k : Nat) (A : Around) : Prop where
  hd : A.handled = none
  dp : A.depth + 3 * k + 5 < recursionLimit
  un : A.units + 16 * k + 200 < cLine
theorem Room.mono {j k : Nat} {A : Around} (r : Room k A) (h : j ≤ k) : Room j A := ⟨r.hd, by have := r.dp; omega, by have := r.un; omega⟩
theorem Room.deeper {k : Nat} {A : Around} (r : Room (k + 1) A) (env : Env) : Room k (A.deeper env) :=
  ⟨r.hd, by have := r.dp; show A.depth + 1 + 3 * k + 5 < _; omega, by have := r.un; show A.units + 3 + 16 * k + 200 < _; omega⟩
theorem Room.depth {k : Nat} {A : Around} (r : Room k A) : A.depth < recursionLimit := by have := r.dp; omega
theorem Room.units {k : Nat} {A : Around} (r : Room k A) : A.units + 64 < cLine := by have := r.un; omega
noncomputable def tNil : TA := fun _ H Q => Q [] H
noncomputable def tCons (ta : TE) (tr : TA) : TA := fun σ H Q => ta σ H fun x H1 => tr σ H1 fun xs H2 => Q (x :: xs) H2
section
variable {X : Cx} {e : Expr} {es : List Expr} {te : TE} {t : TA} {pos : Pos}
theorem pa_nil : PA X [] tNil := fun _ _ _ _ H Q I h => Calls.spliced_nil ⟨[], H, I, .nil, h⟩
theorem pa_cons (ha : PE X e te) (hr : PA X es t) (hs : starEach (e :: es) X.env = (false, eval e X.env) :: starEach es X.env := by rfl) : PA X (e :: es) (tCons te t) := by
  intro pos pins s σ H Q I h
  rw [hs]
  show wpAny _ _ (spliced ((false, eval e X.env) :: backTo pos (starEach es X.env))) _ _ s
  refine Calls.spliced_cons (thn (ha pins s σ H _ I h) fun u s1 ⟨x, H1, I1, r1, q1⟩ => ?_)
  exact thn (hr pos pins s1 σ H1 _ I1 q1) fun us s2 ⟨xs, H2, I2, r2, q2⟩ => ⟨x :: xs, H2, I2, .cons r1 r2, q2⟩
noncomputable def tTup (t : TA) : TE := fun σ H Q => t σ H fun xs H1 => xs.length ≤ sizeLine ∧ ∀ p, H1 p = none → Q (.ref p) (upd H1 p (.tup xs))
noncomputable def tLst (t : TA) : TE := fun σ H Q => t σ H fun xs H1 => xs.length ≤ sizeLine ∧ ∀ p, H1 p = none → Q (.ref p) (upd H1 p (.lst xs))
theorem pe_tup {x1} (h : PA X es t) : PE X (.Tuple es x1 pos) (tTup t) := by
  intro pins s σ H Q I hq
  refine wpAny_Tuple_spliced (thn (h pos pins s σ H _ I hq) fun us s1 ⟨xs, H1, I1, r, z, q⟩ => ⟨by rw [← r.length]; exact z, ?_⟩)
  have hf : H1 s1.heap.objs.size = none := I1.hok.fresh (Nat.le_refl _)
  refine ⟨.ref s1.heap.objs.size, upd H1 s1.heap.objs.size (.tup xs), I1.laid (t' := s1.toks) (fun b u e => Heap.get?_push_of_some _ e) (Nat.le_refl _) ?_, rfl, q _ hf⟩
  exact ⟨z, us, r, ⟨_, Heap.get?_push_size _ rfl, rfl, _, rfl⟩⟩
theorem pe_lst (h : PA X es t) : PE X (.List es pos) (tLst t) := by
  intro pins s σ H Q I hq
  refine wpAny_List_spliced (thn (h pos pins s σ H _ I hq) fun us s1 ⟨xs, H1, I1, r, z, q⟩ => ⟨by rw [← r.length]; exact z, ?_⟩)
  have hf : H1 s1.heap.objs.size = none := I1.hok.fresh (Nat.le_refl _)
  refine ⟨.ref s1.heap.objs.size, upd H1 s1.heap.objs.size (.lst xs), I1.laid (t' := s1.toks) (fun b u e => Heap.get?_push_of_some _ e) (Nat.le_refl _) ?_, rfl, q _ hf⟩
  exact ⟨z, us, 0, r, Heap.get?_push_size _ rfl⟩
end
noncomputable abbrev Sp := List V → Hp → VK → XK → Prop
noncomputable abbrev CXT := List Env → Hp → Shared → XK → Value → Shared → Prop
structure Env0 (P : Program) (w : World) (K : PySem.W.Frag) (mg : Str → Option Value) (base : Heap) (A : Around) (outer : List Env) (s : Shared) (H : Hp) : Prop where
  frames : A.frames = some outer
  mod : Mod K mg base
  bs : ∀ b o, base.get? b = some o → s.heap.get? b = some o ∧ H b = none
  bsz : base.objs.size ≤ s.heap.objs.size
  funs : s.heap.FunFrames base outer
  frf : ∀ b ∈ frs outer, H b = none
  hok : HOk P w H s.heap
  bare : AllBare s.gens
noncomputable def CE (outer : List Env) (P : Program) (w : World) (H : Hp) (s : Shared) (Q : VK) (u : Value) (s' : Shared) : Prop :=
  ∃ v H', s'.os = s.os ∧ AllBare s'.gens ∧ Un (frs outer) [] H H' s.heap s'.heap ∧ HOk P w H' s'.heap ∧ RelV v u ∧ Q v H'
noncomputable def CR (CX : CXT) (outer : List Env) (P : Program) (w : World) (H : Hp) (s : Shared) (Q : VK) (E : XK) (r : Result) (s' : Shared) : Prop :=
  match r with
  | .ok (.ret u) => CE outer P w H s Q u s'
  | .ok _ => False
  | .error e => CX outer H s E e s'
structure FnOk (P : Program) (w : World) (K : PySem.W.Frag) (mg : Str → Option Value) (base : Heap) (CX : CXT) (k : Nat) (f : Addr) (fd : FuncData) (ps : List Str) (sp : Sp) : Prop where
  len : ∀ vs H Q E, sp vs H Q E → vs.length = ps.length
  run : ∀ (A : Around) (outer : List Env) (s : Shared) (H : Hp) (args : Args) (us : List Value) (vs : List V) (Q : VK) (E : XK), Room k A → Env0 P w K mg base A outer s H → BindsTo s fd args (ps.zip us) → Vals vs us → sp vs H Q E →
    codeAny (model P w) A (.call (.ref f) args) (CR CX outer P w H s Q E) s
section
variable {X : Cx} {pins : List (Addr × Obj)} {σ : St} {H : Hp} {s s' : Shared}
theorem Inv.env0 (I : Inv X pins σ H s) : Env0 X.prog X.w X.K X.mg X.base X.A X.stack s H :=
  ⟨I.ok.frames, I.ok.mod, I.bs, Nat.le_trans I.ok.bsz I.sz, I.stack, I.stkFree, I.hok, I.bare⟩
theorem Inv.after {Q : VK} {u : Value} (I : Inv X pins σ H s) (h : CE X.stack X.prog X.w H s Q u s') : EP X pins σ Q u s' := by
  obtain ⟨v, H', os, bare, un, hok, r, q⟩ := h
  obtain ⟨hh, g, d, t, os'⟩ := s'
  obtain rfl : os' = s.os := os
  exact ⟨v, H', I.call (h' := hh) (g' := g) (d' := d) (t' := t) (ch := []) un hok bare (fun b z => absurd z (by simp)), r, q⟩
end
noncomputable def tCall (sp : Sp) (dvs : List V) (E : XK) (t : TA) : TE := fun σ H Q => t σ H fun vs H1 => sp (vs ++ dvs) H1 Q E
noncomputable def Binds (K : PySem.W.Frag) (fd : FuncData) (ps : List Str) (ds : List Value) : Prop :=
  ∀ (s : Shared) (us : List Value), K.In s.heap → (us ++ ds).length = ps.length → BindsTo s fd ⟨us, []⟩ (ps.zip (us ++ ds))
theorem Binds.all {K : PySem.W.Frag} {fd : FuncData} {ps : List Str} (h : ∀ us : List Value, us.length = ps.length → bindArgs fd ⟨us, []⟩ = pure (ps.zip us)) : Binds K fd ps [] := fun s us _ hl => by
  rw [List.append_nil] at hl ⊢
  exact .of_eq (h us hl)
noncomputable def Passes (CX : CXT) (X : Cx) (E : XK) : Prop := ∀ (pins : List (Addr × Obj)) (σ : St) (H : Hp) (s : Shared) (e : Value) (s' : Shared), Inv X pins σ H s → CX X.stack H s E e s' → X.xe e s'
section
variable {X : Cx} {CX : CXT} {k : Nat} {f C : Addr} {fd : FuncData} {ps : List Str} {sp : Sp} {dvs : List V} {ds : List Value} {E : XK} {x m : Str} {p pos apos : Pos} {e o : Expr} {es : List Expr} {ta : TE} {t : TA}
theorem run_fn {pins : List (Addr × Obj)} {σ : St} {H : Hp} {s : Shared} {Q : VK} {us : List Value} {vs : List V} (F : FnOk X.prog X.w X.K X.mg X.base CX k f fd ps sp) (hr : Room k X.A) (hb : Binds X.K fd ps ds) (hd : Vals dvs ds) (hx : Passes CX X E)
    (I : Inv X pins σ H s) (r : Vals vs us) (h : sp (vs ++ dvs) H Q E) : wpAny (model X.prog X.w) X.A (call (.ref f) us) (EP X pins σ Q) X.xe s := by
  have r2 : Vals (vs ++ dvs) (us ++ ds) := r.append hd
  have hl : (us ++ ds).length = ps.length := by rw [← r2.length]; exact F.len _ _ _ _ h
  refine wpAny_call (codeAny_mono (F.run X.A X.stack s H ⟨us, []⟩ (us ++ ds) (vs ++ dvs) Q E hr I.env0 (hb s us I.kIn hl) r2 h) fun r s' hq => ?_)
  cases r with
  | error e => exact hx pins σ H s e s' I hq
  | ok fl =>
    cases fl with
    | ret u => exact I.after hq
    | next => exact False.elim hq
    | brk => exact False.elim hq
    | cont => exact False.elim hq
theorem pe_call (F : FnOk X.prog X.w X.K X.mg X.base CX k f fd ps sp) (hr : Room k X.A) (hg : Gl X x) (hm : X.mg x = some (.ref f)) (hk : PySem.W.keepIn X.K (.ref f) = true) (hb : Binds X.K fd ps ds) (hd : Vals dvs ds) (hx : Passes CX X E)
    (ha : PA X (e :: es) t) (hdb : (x == ("__debug__" : Str)) = false := by decide) (he : starEach (e :: es) X.env = (false, eval e X.env) :: starEach es X.env := by rfl) (hpl : (backTo pos (starEach es X.env)).any (·.1) = false := by rfl) :
    PE X (.Call (.Name x p) (e :: es) [] pos) (tCall sp dvs E t) := by
  intro pins s σ H Q I h
  refine wpAny_Call_Name_kw (ld_glob I hg hm ?_ hdb)
  refine PySem.W.callWith_K (h₀ := X.base) I.ok.mod.kin hk (thn (ha pos pins s σ H _ I h) fun us s1 ⟨vs, H1, I1, r, q⟩ => ⟨I1.kIn, ?_⟩) he hpl
  exact run_fn F hr hb hd hx I1 r q
end
structure FnScope (N P : List Str) (sc : Scope) : Prop where
  kind : sc.kind = .function
  co : sc.isCoroutine = false
  gen : sc.isGenerator = false
  nd : N.Nodup
  pre : N.take P.length = P
  par : ∀ x ∈ P, sc.names.lookup x = some .local ∨ sc.names.lookup x = some .cell
  nofree : ∀ y ∈ sc.names, y.2 ≠ .free
theorem bindL_out {kindOf : Str → Option NameKind} {x : Str} : ∀ {binds : List (Str × Value)} {m : Str → Option Value}, (∀ v, (x, v) ∉ binds) → bindL kindOf binds m x = m x
  | [], _, _ => rfl
  | (n, v) :: r, m, h => by
    unfold bindL
    rw [bindL_out fun w hw => h w (List.mem_cons_of_mem _ hw)]
    split
    · have : x ≠ n := by rintro rfl; exact h v List.mem_cons_self
      simp [this]
    · rfl
theorem bindC_out {kindOf : Str → Option NameKind} {x : Str} : ∀ {binds : List (Str × Value)} {m : Str → Option Value}, (∀ v, (x, v) ∉ binds) → bindC kindOf binds m x = m x
  | [], _, _ => rfl
  | (n, v) :: r, m, h => by
    unfold bindC
    rw [bindC_out fun w hw => h w (List.mem_cons_of_mem _ hw)]
    split
    · rfl
    · have : x ≠ n := by rintro rfl; exact h v List.mem_cons_self
      simp [this]
theorem bindL_get {kindOf : Str → Option NameKind} {x : Str} {v : Value} : ∀ {P : List Str} {vs : List Value} {i : Nat} {m : Str → Option Value}, P.Nodup → P[i]? = some x → vs[i]? = some v → kindOf x = some .local →
    bindL kindOf (P.zip vs) m x = some v
  | [], _, _, _, _, h, _, _ => by simp at h
  | _ :: _, [], _, _, _, _, h, _ => by simp at h
  | p :: P, w :: vs, 0, m, nd, h1, h2, hk => by
    simp at h1 h2; subst h1; subst h2
    show bindL kindOf ((p, w) :: P.zip vs) m p = _
    unfold bindL
    rw [bindL_out fun v hv => (List.nodup_cons.mp nd).1 (List.of_mem_zip hv).1, if_pos hk]
    simp
  | p :: P, w :: vs, i + 1, m, nd, h1, h2, hk => by
    show bindL kindOf ((p, w) :: P.zip vs) m x = _
    unfold bindL
    exact bindL_get (i := i) (List.nodup_cons.mp nd).2 (by simpa using h1) (by simpa using h2) hk
theorem bindC_get {kindOf : Str → Option NameKind} {x : Str} {v : Value} : ∀ {P : List Str} {vs : List Value} {i : Nat} {m : Str → Option Value}, P.Nodup → P[i]? = some x → vs[i]? = some v → kindOf x ≠ some .local →
    bindC kindOf (P.zip vs) m x = some v
  | [], _, _, _, _, h, _, _ => by simp at h
  | _ :: _, [], _, _, _, _, h, _ => by simp at h
  | p :: P, w :: vs, 0, m, nd, h1, h2, hk => by
    simp at h1 h2; subst h1; subst h2
    show bindC kindOf ((p, w) :: P.zip vs) m p = _
    unfold bindC
    rw [bindC_out fun v hv => (List.nodup_cons.mp nd).1 (List.of_mem_zip hv).1, if_neg hk]
    simp
  | p :: P, w :: vs, i + 1, m, nd, h1, h2, hk => by
    show bindC kindOf ((p, w) :: P.zip vs) m x = _
    unfold bindC
    exact bindC_get (i := i) (List.nodup_cons.mp nd).2 (by simpa using h1) (by simpa using h2) hk
noncomputable def start (N : List Str) (vs : List V) : St := vs.map some ++ List.replicate (N.length - vs.length) none
noncomputable def cxOf (CX : CXT) (P : Program) (w : World) (K : PySem.W.Frag) (mg : Str → Option Value) (base : Heap) (N : List Str) (qual : Str) (scope : Scope) (f : Addr) (cd : Value) (A : Around) (outer : List Env) (s : Shared) (H : Hp) (E : XK) : Cx where
  prog := P
  w := w
  K := K
  mg := mg
  base := base
  A := A.deeper (envOfC qual scope s.heap.objs.size f cd)
  N := N
  s₀ := s
  H₀ := H
  env := envOfC qual scope s.heap.objs.size f cd
  outer := outer
  stack := envOfC qual scope s.heap.objs.size f cd :: outer
  ex := []
  calm := true
  fn := fun _ => true
  pn := []
  xe := fun e s' => wpAny (model P w) (A.deeper (envOfC qual scope s.heap.objs.size f cd)) (leaving (envOfC qual scope s.heap.objs.size f cd) e) (fun _ s'' => CX outer H s E e s'') (fun e' s'' => CX outer H s E e' s'') s'
theorem cell_has {sc : Scope} {n : Nat} {x : Str} (h : sc.names.lookup x = some .cell) : ∃ c, (cellsFrom n sc.names []).lookup x = some c := by
  have q := PySem.W.cellsFrom_some sc.names n [] (.inl h)
  exact Option.isSome_iff_exists.mp q
theorem inv_start {CX : CXT} {P : Program} {w : World} {K : PySem.W.Frag} {mg : Str → Option Value} {base : Heap} {N ps : List Str} {qual : Str} {scope : Scope} {f : Addr} {cd : Value} {A : Around} {outer : List Env} {s s1 : Shared} {H : Hp} {E : XK} {us : List Value} {vs : List V}
    (S : FnScope N ps scope) (hd : A.handled = none) (e0 : Env0 P w K mg base A outer s H) (hl : vs.length = ps.length) (r : Vals vs us)
    (x : InCallC s s.heap.objs.size (bindL (envOfC qual scope s.heap.objs.size f cd).kindOf (ps.zip us) fun _ => none) (cellsFrom (s.heap.objs.size + 1) scope.names []) (bindC (envOfC qual scope s.heap.objs.size f cd).kindOf (ps.zip us) fun _ => none) s1) :
    Inv (cxOf CX P w K mg base N qual scope f cd A outer s H E) [] (start N vs) H s1 := by
  have hpl : ps.length ≤ N.length := by have := congrArg List.length S.pre; rw [List.length_take] at this; omega
  obtain ⟨h1, tk, rfl, hk⟩ := x.done
  have noA : ∀ b : Addr, b ∉ (cxOf CX P w K mg base N qual scope f cd A outer s H E).ex := fun b z => absurd (show b ∈ ([] : List Addr) from z) (by simp)
  refine ⟨⟨e0.mod, S.kind, rfl, rfl, Nat.le_refl _, fun y z c h1 h2 => ?_, fun y hy => ?_, fun y c _ h => ?_, fun _ => hd, Around.frames_deeper e0.frames, .inr ⟨rfl, rfl⟩, fun b z => absurd z (noA b), e0.bs, e0.bsz, fun b _ _ => noA b, fun b z => absurd z (noA b), e0.funs, e0.frf⟩,
    rfl, e0.bare, Un.kept hk, ⟨_, x.toInCall.ns, fun i y v h1 h2 h3 => ?_⟩, fun y c h => ⟨_, x.cell y c h⟩, e0.hok.fresh (Nat.le_refl _), fun y c h => ?_, fun p hp => absurd (show p ∈ ([] : List (Addr × Obj)) from hp) (by simp), e0.hok.kept hk, ?_⟩
  · exact name_of_addr x.apart (PySem.mem_of_lookup h1) (PySem.mem_of_lookup h2)
  · have hy : scope.names.lookup y = some .cell ∨ scope.names.lookup y = some .free := hy
    rcases hy with hy | hy
    · exact cell_has hy
    · exact absurd rfl (S.nofree _ (PySem.mem_of_lookup hy))
  · exact Nat.le_of_lt (x.above y c (PySem.mem_of_lookup h))
  · have hi : i < vs.length := by
      unfold start at h2
      by_cases hi : i < vs.length
      · exact hi
      · rw [List.getElem?_append_right (by simpa using hi)] at h2
        rw [List.getElem?_replicate] at h2
        split at h2 <;> cases h2
    have ha : vs[i]? = some v := by
      unfold start at h2
      rw [List.getElem?_append_left (by simpa using hi), List.getElem?_map] at h2
      cases e : vs[i]? with
      | none => rw [e] at h2; cases h2
      | some a => rw [e] at h2; cases h2; rfl
    obtain ⟨u, hu, rv⟩ := r.get ha
    have hp : ps[i]? = some y := by
      rw [← S.pre, List.getElem?_take_of_lt (by omega)]; exact h1
    have ndP : ps.Nodup := by rw [← S.pre]; exact S.nd.sublist (List.take_sublist _ _)
    refine ⟨u, rv, ?_⟩
    rcases S.par y (List.mem_of_getElem? hp) with k | k
    · exact .inl ⟨k, bindL_get ndP hp hu k⟩
    · obtain ⟨c, e⟩ := cell_has (n := s.heap.objs.size + 1) k
      refine .inr ⟨.inl k, c, e, ?_⟩
      have q := x.cell y c e
      rw [bindC_get ndP hp hu (by show scope.names.lookup y ≠ _; rw [k]; decide)] at q
      exact q
  · exact e0.hok.fresh (Nat.le_of_lt (x.above y c (PySem.mem_of_lookup h)))
  · unfold start
    show _ = N.length
    rw [List.length_append, List.length_map, List.length_replicate]
    omega
theorem fn_of {CX : CXT} {P : Program} {w : World} {K : PySem.W.Frag} {mg : Str → Option Value} {base : Heap} {k : Nat} {f : Addr} {name qual : Str} {params : Arguments} {body : List Stmt} {scope : Scope} {dV kV doc pm cdv ct oc : Value} {an od : Option Addr}
    {osl : Array (Option Value)} {N ps : List Str} {sp : Sp} (lk : K.lookup f = some ⟨oc, od, .func (PySem.W.fnOf name qual params body scope dV kV doc pm an cdv ct), osl⟩) (hcd : PySem.W.codeIn K cdv qual = true) (S : FnScope N ps scope)
    (len : ∀ vs H Q E, sp vs H Q E → vs.length = ps.length)
    (hbody : ∀ (A : Around) (outer : List Env) (s : Shared) (H : Hp) (vs : List V) (Q : VK) (E : XK), Room k (A.deeper (envOfC qual scope s.heap.objs.size f cdv)) → sp vs H Q E →
      ∃ t, PSs (cxOf CX P w K mg base N qual scope f cdv A outer s H E) body t ∧ t { nx := fun _ H' => Q .non H', rt := Q } (start N vs) H) :
    FnOk P w K mg base CX (k + 1) f (PySem.W.fnOf name qual params body scope dV kV doc pm an cdv ct) ps sp := by
  refine ⟨len, fun A outer s H args us vs Q E hr e0 hb r hsp => ?_⟩
  have hl := len _ _ _ _ hsp
  have KX : K.In s.heap := e0.mod.kin.keeps fun b o e => (e0.bs b o e).1
  have lim : s.heap.NoLimit := e0.mod.nolimit.keeps fun b o e => (e0.bs b o e).1
  have hkind : ∀ y ∈ ps.zip us, scope.names.lookup y.1 = some .local ∨ (scope.names.lookup y.1 = some .cell ∧ ((cellsFrom (s.heap.objs.size + 1) scope.names []).lookup y.1).isSome = true) := fun ⟨n, v⟩ hy => by
    rcases S.par n (List.of_mem_zip hy).1 with q | q
    · exact .inl q
    · exact .inr ⟨q, PySem.W.cellsFrom_some _ _ _ (.inl q)⟩
  refine codeAny_call_function hr.depth (KX _ _ lk) rfl S.co S.gen rfl (PySem.W.codeRec_of KX hcd) (hb _ _ _ _ ?_)
  refine wpAny_newFunctionEnv_cells S.kind hkind fun env he s1 x => ?_
  subst he
  refine ⟨lim.keeps x.toInCall.keep, codeAny_func ?_⟩
  obtain ⟨t, ht, hq⟩ := hbody A outer s H vs Q E (hr.deeper _) hsp
  have I : Inv (cxOf CX P w K mg base N qual scope f cdv A outer s H E) [] (start N vs) H s1 := inv_start S hr.hd e0 hl r x
  refine wpAny_mono (ht [] s1 (start N vs) H _ I hq) (fun fl s' hs => ?_) fun e s' hs => hs
  have fin : ∀ {σ' : St} {H' : Hp} {v : V} {u : Value}, Inv (cxOf CX P w K mg base N qual scope f cdv A outer s H E) [] σ' H' s' → RelV v u → Q v H' → CE outer P w H s Q u s' :=
    fun {σ' H' v u} J rv q => ⟨v, H', J.os, J.bare, J.base, J.hok, rv, q⟩
  cases fl with
  | ret u =>
    obtain ⟨v, σ', H', J, rv, q⟩ := hs
    exact fin J rv q
  | next =>
    obtain ⟨σ', H', J, q⟩ := hs
    exact fin (v := V.non) (u := Value.none) J rfl q
  | brk =>
    obtain ⟨_, _, _, q⟩ := hs
    exact False.elim q
  | cont =>
    obtain ⟨_, _, _, q⟩ := hs
    exact False.elim q
section
variable {X : Cx} {x : Str} {p pos : Pos} {e : Expr} {es : List Expr} {t : TA} {id T : String} {r : List V → Hp → VK → Prop}
noncomputable def tCB (r : List V → Hp → VK → Prop) (t : TA) : TE := fun σ H Q => t σ H fun vs H1 => r vs H1 Q
theorem pe_callB (hc : CallR X (.builtin id) r) (hg : Gl X x) (hm : X.mg x = none) (hv : bootBuiltins x = some (.builtin id)) (ha : PA X (e :: es) t) (hn : x ≠ "__name__" := by decide) (hdb : (x == ("__debug__" : Str)) = false := by decide)
    (he : starEach (e :: es) X.env = (false, eval e X.env) :: starEach es X.env := by rfl) (hpl : (backTo pos (starEach es X.env)).any (·.1) = false := by rfl) : PE X (.Call (.Name x p) (e :: es) [] pos) (tCB r t) := by
  intro pins s σ H Q I h
  refine wpAny_Call_Name_kw (ld_blt I hg hm hv ?_ hn hdb)
  exact PyProof.Rows.callWith_builtin1 (thn (ha pos pins s σ H _ I h) fun us s1 ⟨vs, H1, I1, r1, q1⟩ => hc pins s1 σ H1 vs us Q I1 r1 q1) he hpl
theorem pe_callTy (hc : CallR X (.type T) r) (hg : Gl X x) (hm : X.mg x = none) (hv : bootBuiltins x = some (.type T)) (ha : PA X (e :: es) t) (hn : x ≠ "__name__" := by decide) (hdb : (x == ("__debug__" : Str)) = false := by decide)
    (he : starEach (e :: es) X.env = (false, eval e X.env) :: starEach es X.env := by rfl) (hpl : (backTo pos (starEach es X.env)).any (·.1) = false := by rfl) : PE X (.Call (.Name x p) (e :: es) [] pos) (tCB r t) := by
  intro pins s σ H Q I h
  refine wpAny_Call_Name_kw (ld_blt I hg hm hv ?_ hn hdb)
  exact PyProof.Rows.callWith_type1 (thn (ha pos pins s σ H _ I h) fun us s1 ⟨vs, H1, I1, r1, q1⟩ => hc pins s1 σ H1 vs us Q I1 r1 q1) he hpl
end
end L2
namespace HT
open PySem PyProof.Rows
section
variable {prog : Program} {w : World} {A : Around} {E : Value → Shared → Prop} {s : Shared}
theorem cat_tup {t b : Addr} {vs ws : List Value} {Q : Value → Shared → Prop} (ht : IsTup s.heap t vs.toArray) (hb : IsTup s.heap b ws.toArray) (hv : vs ≠ [])
    (h1 : ws = [] → Q (.ref t) s) (h2 : ws ≠ [] → Q (.ref s.heap.objs.size) { s with heap := s.heap.push { cls := .type "tuple", data := .seq (vs ++ ws).toArray } })
    (hsz : vs.length + ws.length ≤ sizeLine) : wpAny (model prog w) A (binaryOp .Add (.ref t) (.ref b)) Q E s := by
  obtain ⟨⟨cls, dd, data, sl⟩, ho, hc, n, hd⟩ := id ht
  obtain ⟨⟨cls2, dd2, data2, sl2⟩, ho2, hc2, n2, hd2⟩ := id hb
  simp only at hc hd hc2 hd2
  subst hc hd hc2 hd2
  have e : vs.toArray ++ ws.toArray = (vs ++ ws).toArray := by simp
  by_cases hw : ws = []
  · exact concat_meets ⟨_, ho, rfl⟩ ⟨_, ho2, rfl⟩ noFill_tuple_add seq_tuple_add PySem.F.slot_tuple_add PySem.F.entry_tuple_add (PySem.F.args_tuple_add_2 _ _)
      (tuple_addW1 t b vs.toArray ws.toArray n n2 dd dd2 sl sl2 (by simpa using hv) (by simp [hw])) ⟨ho, ho2, h1 hw⟩
  · refine concat_meets ⟨_, ho, rfl⟩ ⟨_, ho2, rfl⟩ noFill_tuple_add seq_tuple_add PySem.F.slot_tuple_add PySem.F.entry_tuple_add (PySem.F.args_tuple_add_2 _ _)
      (tuple_addW2 t b vs.toArray ws.toArray n n2 dd dd2 sl sl2 (by simpa using hv) (by simpa using hw) (by rw [List.size_toArray, List.size_toArray]; exact hsz)) ⟨ho, ho2, ?_⟩
    rw [e]
    exact h2 hw
noncomputable def sIx (n d : Nat) : Option Int → Nat
  | none => d
  | some v => if v < 0 then (v + (n : Int)).toNat else min v.toNat n
theorem sIx_none (n d : Nat) : sIx n d none = d := rfl
theorem sIx_nat (n d k : Nat) : sIx n d (some (k : Int)) = min k n := by
  show (if (k : Int) < 0 then ((k : Int) + (n : Int)).toNat else min (k : Int).toNat n) = min k n
  rw [if_neg (by omega), Int.toNat_natCast]
theorem sIx_le (n d : Nat) (hd : d ≤ n) (o : Option Int) : sIx n d o ≤ n := by
  cases o with
  | none => exact hd
  | some v =>
    show (if v < 0 then (v + (n : Int)).toNat else min v.toNat n) ≤ n
    by_cases hv : v < 0
    · rw [if_pos hv]; omega
    · rw [if_neg hv]; exact Nat.min_le_right _ _
theorem clip_eq (v : Int) (n d : Nat) : (if v < 0 then max (v + (n : Int)) 0 else min v (n : Int)) = ((sIx n d (some v) : Nat) : Int) := by
  show (if v < 0 then max (v + (n : Int)) 0 else min v (n : Int)) = (((if v < 0 then (v + (n : Int)).toNat else min v.toNat n) : Nat) : Int)
  by_cases hv : v < 0
  · simp only [if_pos hv]; omega
  · simp only [if_neg hv]; omega
theorem adjust_gen (lo hi : Option Int) (n : Nat) : Builtin.Slice.sliceAdjust lo hi 1 (n : Int) = (((sIx n 0 lo : Nat) : Int), ((sIx n n hi : Nat) : Int)) := by
  have h1 : ¬ ((1 : Int) < 0) := by omega
  unfold Builtin.Slice.sliceAdjust
  simp only [h1, if_false]
  refine Prod.ext ?_ ?_
  · cases lo with
    | none => rfl
    | some v => exact clip_eq v n 0
  · cases hi with
    | none => rfl
    | some v => exact clip_eq v n n
theorem places_gen (i j : Nat) : Builtin.Slice.slicePlaces (i : Int) (j : Int) 1 = j - i := by
  unfold Builtin.Slice.slicePlaces
  have h1 : (1 : Int) > 0 := by omega
  simp only [h1, if_true, Int.ediv_one]
  split <;> omega
theorem slicePart_ {v : Value} {o : Option Int} {Q : Option Int → Shared → Prop} (p : IsPart v o) (h : Q o s) : wpAny (model prog w) A (Builtin.Slice.slicePartIndex v) Q E s := by
  cases p with
  | none => exact slicePart_none h
  | int i t => exact slicePart_int h
theorem sliceApplied_gen {sl : Addr} {vl vu : Value} {lo hi : Option Int} {n : Nat} {Q : Int × Int × Nat → Shared → Prop} (hs : s.heap.IsSliceOf sl vl vu .none) (pl : IsPart vl lo) (pu : IsPart vu hi)
    (h : Q (((sIx n 0 lo : Nat) : Int), 1, sIx n n hi - sIx n 0 lo) s) : wpAny (model prog w) A (Builtin.Slice.sliceApplied (.ref sl) (pure (n : Int))) Q E s := by
  obtain ⟨os, hos, hcs, hds⟩ := id hs
  unfold Builtin.Slice.sliceApplied Builtin.Slice.sliceFields
  refine wpAny_bind (wpAny_bind (wpAny_field hos hds (x := vl) rfl (wpAny_bind (wpAny_field hos hds (x := vu) rfl (wpAny_bind (wpAny_field hos hds (x := .none) rfl (wpAny_pure ?_)))))))
  refine wpAny_bind (slicePart_none ?_)
  show wpAny _ _ (if ((1 : Int) == 0) = true then _ else _) _ _ s
  rw [if_neg (by decide)]
  refine wpAny_bind (slicePart_ pl (wpAny_bind (slicePart_ pu (wpAny_bind (wpAny_pure ?_)))))
  show wpAny _ _ (match Builtin.Slice.sliceAdjust lo hi 1 (n : Int) with | (lo, hi) => pure (lo, (1 : Int), Builtin.Slice.slicePlaces lo hi 1)) _ _ s
  rw [adjust_gen lo hi n]
  show wpAny _ _ (pure (((sIx n 0 lo : Nat) : Int), (1 : Int), Builtin.Slice.slicePlaces ((sIx n 0 lo : Nat) : Int) ((sIx n n hi : Nat) : Int) 1)) _ _ s
  rw [places_gen]
  exact wpAny_pure h
theorem pick_gen (xs : Array Value) (i k : Nat) : ((List.range k).filterMap fun (m : Nat) => xs[((i : Int) + (m : Int) * 1).toNat]?).toArray = ((xs.toList.drop i).take k).toArray := by
  have e : (fun (m : Nat) => xs[((i : Int) + (m : Int) * 1).toNat]?) = fun m => xs[i + m]? := by
    funext m
    have : ((i : Int) + (m : Int) * 1).toNat = i + m := by omega
    rw [this]
  rw [e]
  have := pick_run xs i k
  rw [List.filterMap_map] at this
  have e2 : ((fun x => xs[x]?) ∘ fun x => i + x) = fun m => xs[i + m]? := rfl
  rw [e2] at this
  rw [this]
theorem getItem_tuple_cut {t sl : Addr} {items : Array Value} {vl vu : Value} {lo hi : Option Int} {Q : Value → Shared → Prop} (ht : IsTup s.heap t items) (hs : s.heap.IsSliceOf sl vl vu .none) (pl : IsPart vl lo) (pu : IsPart vu hi)
    (hw : ¬ (sIx items.size 0 lo = 0 ∧ sIx items.size items.size hi = items.size))
    (h : Q (.ref s.heap.objs.size) { s with heap := s.heap.push { cls := .type "tuple", data := .seq ((items.toList.drop (sIx items.size 0 lo)).take (sIx items.size items.size hi - sIx items.size 0 lo)).toArray } })
    (hsz : items.size ≤ sizeLine) : wpAny (model prog w) A (getItem (.ref t) (.ref sl)) Q E s := by
  have htake : sizeOk (.seq ((items.toList.drop (sIx items.size 0 lo)).take (sIx items.size items.size hi - sIx items.size 0 lo)).toArray) := by
    show ((items.toList.drop (sIx items.size 0 lo)).take (sIx items.size items.size hi - sIx items.size 0 lo)).toArray.size ≤ sizeLine
    rw [List.size_toArray, List.length_take, List.length_drop, Array.length_toList]
    omega
  have hj : sIx items.size items.size hi ≤ items.size := sIx_le _ _ (Nat.le_refl _) hi
  obtain ⟨os, hos, hcs, hds⟩ := id hs
  have hTs : s.TypeIs (.ref sl) "slice" := ⟨os, hos, hcs⟩
  unfold getItem
  try with_reducible refine wpAny_holding ?_
  first | refine wpAny_bind (wpAny_pure ?_) | skip
  refine wpAny_bind (wpAny_sequenceKey ht.typeIs (by decide) ?_)
  refine wpAny_bind (wpAny_callSpecial?_slot (name := Str.ofString "__getitem__") ht.typeIs PyProof.Rows.slot_tuple_getitem
    (wpAny_call_entry PyProof.Rows.slot_tuple_getitem ht.typeIs entry_tuple_getitem ?_ (args_tuple_getitem _ _)))
  show wpAny _ _ (Builtin.Tuple.tupleItemsOf (.ref t) >>= _) _ _ s
  refine wpAny_bind (tupleItemsOf_ ht ?_)
  refine wpAny_bind (wpAny_typeOf hTs ?_)
  rw [if_pos (by decide)]
  refine wpAny_bind (sliceApplied_gen hs pl pu ?_)
  have hno : ¬ ((((sIx items.size 0 lo : Nat) : Int) == 0 && (1 : Int) == 1 && (sIx items.size items.size hi - sIx items.size 0 lo) == items.size) = true) := by
    intro q
    rw [Bool.and_eq_true, Bool.and_eq_true] at q
    have q1 : ((sIx items.size 0 lo : Nat) : Int) = 0 := eq_of_beq q.1.1
    have q2 : sIx items.size items.size hi - sIx items.size 0 lo = items.size := eq_of_beq q.2
    exact hw ⟨by omega, by omega⟩
  show wpAny _ _ (if (((sIx items.size 0 lo : Nat) : Int) == 0 && (1 : Int) == 1 && (sIx items.size items.size hi - sIx items.size 0 lo) == items.size) = true then _ else _) _ _ s
  rw [if_neg hno, pick_gen]
  first
    | exact wpAny_bind (m := Builtin.Tuple.tupleExact _) (wpAny_newObj_type (wpAny_pure ⟨_, rfl, wpAny_pure h⟩) htake)
    | exact wpAny_bind (m := Builtin.Tuple.tupleExact _) (wpAny_newObj_type (wpAny_bind (wpAny_pure (wpAny_pure ⟨_, rfl, wpAny_pure h⟩))) htake)
    | exact wpAny_bind (wpAny_bind (m := Builtin.Tuple.tupleExact _) (wpAny_newObj_type (wpAny_pure (wpAny_pure ⟨_, rfl, wpAny_pure h⟩)) htake))
    | exact wpAny_bind (wpAny_bind (m := Builtin.Tuple.tupleExact _) (wpAny_newObj_type (wpAny_pure ⟨_, rfl, wpAny_pure h⟩) htake))
end
end HT
namespace L2
open PySem PySem.Spec PyProof.Rows
noncomputable abbrev TO := St → Hp → (Option Int → Hp → Prop) → Prop
noncomputable def PO (X : Cx) (e : Option Expr) (t : TO) : Prop :=
  ∀ (pins : List (Addr × Obj)) (s : Shared) (σ : St) (H : Hp) (Q : Option Int → Hp → Prop), Inv X pins σ H s → t σ H Q →
    wpAny (model X.prog X.w) X.A (evalPart e X.env) (fun u s' => ∃ o H', Inv X pins σ H' s' ∧ IsPart u o ∧ Q o H') X.xe s
noncomputable def tNoPart : TO := fun _ H Q => Q none H
noncomputable def tPart (t : TE) : TO := fun σ H Q => t σ H fun x H1 => ∃ i, x = .int i ∧ Q (some i) H1
section
variable {X : Cx} {e : Expr} {te : TE} {lo hi : Option Expr} {tl th : TO} {pos p2 : Pos}
theorem po_none : PO X none tNoPart := by
  intro pins s σ H Q I h
  rw [evalPart_none]
  exact wpAny_pure ⟨none, H, I, .none, h⟩
theorem po_some (h : PE X e te) : PO X (some e) (tPart te) := by
  intro pins s σ H Q I hw
  rw [evalPart_some]
  refine thn (h pins s σ H _ I hw) fun u s1 ⟨x, H1, I1, r1, q1⟩ => ?_
  obtain ⟨i, rfl, q⟩ := q1
  obtain ⟨t, rfl⟩ := r1
  exact ⟨some i, H1, I1, .int i t, q⟩
noncomputable def SlR (X : Cx) (r : V → Option Int → Option Int → Hp → VK → Prop) : Prop :=
  ∀ (pins : List (Addr × Obj)) (s : Shared) (σ : St) (H : Hp) (x : V) (v vl vu : Value) (lo hi : Option Int) (sl : Addr) (Q : VK), Inv X pins σ H s → RelV x v → s.heap.IsSliceOf sl vl vu .none → IsPart vl lo → IsPart vu hi → r x lo hi H Q →
    ∃ T id, typeLookup (.type T) "__getitem__" = pure (some (.builtin id)) ∧ s.TypeIs v T ∧ wpAny (model X.prog X.w) X.A (getItem v (.ref sl)) (EP X pins σ Q) X.xe s
theorem SlR.or {r r' : V → Option Int → Option Int → Hp → VK → Prop} (h : SlR X r) (h' : SlR X r') : SlR X (fun x lo hi H Q => r x lo hi H Q ∨ r' x lo hi H Q) := by
  intro pins s σ H x v vl vu lo hi sl Q I rx hs pl pu q
  rcases q with q | q
  · exact h pins s σ H x v vl vu lo hi sl Q I rx hs pl pu q
  · exact h' pins s σ H x v vl vu lo hi sl Q I rx hs pl pu q
noncomputable def tSl (r : V → Option Int → Option Int → Hp → VK → Prop) (te : TE) (tl th : TO) : TE := fun σ H Q => te σ H fun x H1 => tl σ H1 fun l H2 => th σ H2 fun u H3 => r x l u H3 Q
theorem pe_slice {r : V → Option Int → Option Int → Hp → VK → Prop} (hr : SlR X r) (he : PE X e te) (hl : PO X lo tl) (hu : PO X hi th) : PE X (.Subscript e (.Slice lo hi none p2) pos) (tSl r te tl th) := by
  intro pins s σ H Q I h
  refine Subscript_ (thn (he pins s σ H _ I h) fun v s1 ⟨x, H1, I1, r1, q1⟩ => ?_)
  refine wpAny_Slice (thn (hl pins s1 σ H1 _ I1 q1) fun vl s2 ⟨l, H2, I2, pl, q2⟩ => thn (hu pins s2 σ H2 _ I2 q2) fun vu s3 ⟨u, H3, I3, pu, q3⟩ => ?_)
  rw [evalPart_none]
  refine wpAny_pure ?_
  have I4 : Inv X pins σ H3 { s3 with heap := s3.heap.push { cls := .type "slice", data := .fields #[vl, vu, .none] } } := I3.kept (t' := s3.toks) fun b ob q => Heap.get?_push_of_some _ q
  obtain ⟨T, id, hT, ht, hg⟩ := hr pins { s3 with heap := s3.heap.push { cls := .type "slice", data := .fields #[vl, vu, .none] } } σ H3 x v vl vu l u s3.heap.objs.size Q I4 r1 (Heap.IsSliceOf.new ..) pl pu q3
  show wpAny (model X.prog X.w) X.A (subscriptTail e (.Slice lo hi none p2) v (.ref s3.heap.objs.size)) (EP X pins σ Q) X.xe { s3 with heap := s3.heap.push { cls := .type "slice", data := .fields #[vl, vu, .none] } }
  exact tail_any (ops := [.ref s3.heap.objs.size, v]) ht hT hg (by with_unfolding_all rfl)
noncomputable def cutV (xs : List V) (lo hi : Option Int) : List V := (xs.drop (HT.sIx xs.length 0 lo)).take (HT.sIx xs.length xs.length hi - HT.sIx xs.length 0 lo)
theorem cutV_length (xs : List V) (lo hi : Option Int) : (cutV xs lo hi).length ≤ xs.length := by
  unfold cutV
  rw [List.length_take, List.length_drop]
  omega
noncomputable def rSlT (K : PySem.W.Frag) : V → Option Int → Option Int → Hp → VK → Prop := fun x lo hi H Q => ∃ a xs, x = .ref a ∧ SqT K H a xs ∧
  ¬ (HT.sIx xs.length 0 lo = 0 ∧ HT.sIx xs.length xs.length hi = xs.length) ∧ ∀ p, H p = none → Q (.ref p) (upd H p (.tup (cutV xs lo hi)))
theorem sl_tup : SlR X (rSlT X.K) := by
  intro pins s σ H x v vl vu lo hi sl Q I rx hs pl pu h
  obtain ⟨a, xs, rfl, hx, hw, q⟩ := h
  cases rx
  obtain ⟨its, r, ht, hz⟩ := I.tuple hx
  have hlen : its.toArray.size = xs.length := by rw [List.size_toArray]; exact r.length.symm
  refine ⟨"tuple", _, PyProof.Rows.slot_tuple_getitem.lookup, ht.typeIs, ?_⟩
  refine HT.getItem_tuple_cut ht hs pl pu (by rw [hlen]; exact hw) ?_ (by rw [hlen]; exact hz)
  rw [hlen]
  refine ⟨.ref s.heap.objs.size, _, I.laid (t' := s.toks) (o := .tup (cutV xs lo hi)) (fun b ob q => Heap.get?_push_of_some _ q) (Nat.le_refl _) ?_, rfl, q _ (I.hok.fresh (Nat.le_refl _))⟩
  exact ⟨Nat.le_trans (cutV_length xs lo hi) hz, _, (r.drop (HT.sIx xs.length 0 lo)).take (HT.sIx xs.length xs.length hi - HT.sIx xs.length 0 lo), IsTup.new _ _⟩
noncomputable def rCatT (K : PySem.W.Frag) : R2 := fun x y H Q => ∃ a b xs ys, x = .ref a ∧ y = .ref b ∧ SqT K H a xs ∧ SqT K H b ys ∧ xs ≠ [] ∧ xs.length + ys.length ≤ sizeLine ∧
  (ys = [] → Q (.ref a) H) ∧ (ys ≠ [] → ∀ p, H p = none → Q (.ref p) (upd H p (.tup (xs ++ ys))))
theorem Vals.nil_iff {xs : List V} {us : List Value} (r : Vals xs us) : us = [] ↔ xs = [] := by
  cases r with
  | nil => simp
  | cons _ _ => simp
theorem op_catT : OpR X (binaryOp .Add) (rCatT X.K) := by
  intro pins s σ H x y v u Q I rx ry h
  obtain ⟨a, b, xs, ys, rfl, rfl, ha, hb, hx, hz, q1, q2⟩ := h
  cases rx
  cases ry
  obtain ⟨its, r1, p1, _⟩ := I.tuple ha
  obtain ⟨its2, r2, p2, _⟩ := I.tuple hb
  refine HT.cat_tup p1 p2 (fun z => hx (r1.nil_iff.mp z)) (fun z => ⟨.ref a, H, I, rfl, q1 (r2.nil_iff.mp z)⟩) (fun z => ?_) (by rw [← r1.length, ← r2.length]; exact hz)
  refine ⟨.ref s.heap.objs.size, _, I.laid (t' := s.toks) (o := .tup (xs ++ ys)) (fun b ob q => Heap.get?_push_of_some _ q) (Nat.le_refl _) ?_, rfl, q2 (fun w => z (r2.nil_iff.mpr w)) _ (I.hok.fresh (Nat.le_refl _))⟩
  exact ⟨by rw [List.length_append]; exact hz, _, r1.append r2, IsTup.new _ _⟩
end
noncomputable def ixN (n : Nat) (i : Int) : Option Nat := if 0 ≤ i then (if i < n then some i.toNat else none) else if -(n : Int) ≤ i then some (i + n).toNat else none
noncomputable def atI {α : Type} (xs : List α) (i : Int) : Option α := (ixN xs.length i).bind fun j => xs[j]?
theorem ixN_seq {n : Nat} {i : Int} {j : Nat} (h : ixN n i = some j) : seqIndex? i n = some j ∧ j < n ∧ -(n : Int) ≤ i ∧ i < n := by
  unfold ixN at h
  by_cases h0 : 0 ≤ i
  · rw [if_pos h0] at h
    by_cases h1 : i < n
    · rw [if_pos h1] at h
      have e : i.toNat = j := Option.some.inj h
      exact ⟨by rw [seqIndex_of h0 h1, e], by omega, by omega, h1⟩
    · rw [if_neg h1] at h; cases h
  · rw [if_neg h0] at h
    by_cases h1 : -(n : Int) ≤ i
    · rw [if_pos h1] at h
      have e : (i + n).toNat = j := Option.some.inj h
      exact ⟨by rw [seqIndex_neg (by omega) h1, e], by omega, h1, by omega⟩
    · rw [if_neg h1] at h; cases h
theorem atI_get {α : Type} {xs : List α} {i : Int} {v : α} (h : atI xs i = some v) : ∃ j, seqIndex? i xs.length = some j ∧ xs[j]? = some v ∧ j < xs.length ∧ -(xs.length : Int) ≤ i ∧ i < xs.length := by
  unfold atI at h
  cases e : ixN xs.length i with
  | none => rw [e] at h; cases h
  | some j =>
    rw [e] at h
    obtain ⟨h1, h2, h3, h4⟩ := ixN_seq e
    exact ⟨j, h1, h, h2, h3, h4⟩
theorem atI_nat {α : Type} {xs : List α} {j : Nat} {v : α} (h : xs[j]? = some v) : atI xs (j : Int) = some v := by
  have hj : j < xs.length := (List.getElem?_eq_some_iff.mp h).1
  have e : ixN xs.length (j : Int) = some j := by
    unfold ixN
    rw [if_pos (by omega), if_pos (by omega)]; simp
  unfold atI; rw [e]; exact h
noncomputable def PlainIx (b : Expr) : Prop := ∀ o i, subscripted b false o i = operate [o, i] (getItem o i)
noncomputable def IxR (X : Cx) (r : R2) : Prop :=
  ∀ (value slice : Expr) (pins : List (Addr × Obj)) (s : Shared) (σ : St) (H : Hp) (x y : V) (v u : Value) (Q : VK), Inv X pins σ H s → RelV x v → RelV y u → r x y H Q →
    subscripted slice false v u = operate [v, u] (getItem v u) → wpAny (model X.prog X.w) X.A (subscriptTail value slice v u) (EP X pins σ Q) X.xe s
noncomputable def MtR (X : Cx) (id : String) (r : V → List V → Hp → VK → Prop) : Prop :=
  ∀ (pins : List (Addr × Obj)) (s : Shared) (σ : St) (H : Hp) (x : V) (xs : List V) (v : Value) (us : List Value) (Q : VK), Inv X pins σ H s → RelV x v → Vals xs us → r x xs H Q →
    wpAny (model X.prog X.w) X.A (call (.builtin id) (v :: us)) (EP X pins σ Q) X.xe s
section
variable {X : Cx} {a b : Expr} {ta tb : TE} {pos : Pos}
theorem pe_ix {r : R2} (hr : IxR X r) (ha : PE X a ta) (hb : PE X b tb) (hs : PlainIx b) : PE X (.Subscript a b pos) (tOp r ta tb) := by
  intro pins s σ H Q I h
  exact Subscript_ (binT ha hb I h fun v u s2 x y H2 I2 rx ry q => hr a b pins s2 σ H2 x y v u Q I2 rx ry q (hs _ _))
noncomputable def rIxL (K : PySem.W.Frag) : R2 := fun x y H Q => ∃ p xs i v, x = .ref p ∧ y = .int i ∧ SqL K H p xs ∧ atI xs i = some v ∧ Q v H
noncomputable def rIxT (K : PySem.W.Frag) : R2 := fun x y H Q => ∃ p xs i v, x = .ref p ∧ y = .int i ∧ SqT K H p xs ∧ atI xs i = some v ∧ Q v H
noncomputable def rIxS : R2 := fun x y H Q => ∃ z i c, x = .str z ∧ y = .int i ∧ z.length ≤ sizeLine ∧ atI z.cps.toList i = some c ∧ Q (.str ⟨#[c]⟩) H
theorem ix_list : IxR X (rIxL X.K) := by
  intro value slice pins s σ H x y v u Q I rx ry h hs
  obtain ⟨p, xs, i, z, rfl, rfl, hq, he, q⟩ := h
  cases rx
  obtain ⟨t, rfl⟩ := ry
  obtain ⟨its, r, pl, hz⟩ := I.list hq
  obtain ⟨j, h1, h2, h3, h4, h5⟩ := atI_get he
  obtain ⟨w, ew, rw'⟩ := r.get h2
  have hl := r.length
  have hn := line63
  have fin : EP X pins σ Q w s := ⟨z, H, I, rw', q⟩
  by_cases h0 : 0 ≤ i
  · have hj : i.toNat = j := by
      rw [seqIndex_of h0 h5] at h1
      exact Option.some.inj h1
    exact item_listR pl.isList h0 (by omega) (by rw [hj]; simpa using ew) fin hs
  · have hj : (i + (its.toArray.size : Int)).toNat = j := by
      rw [seqIndex_neg (by omega) h4] at h1
      rw [List.size_toArray, ← hl]
      exact Option.some.inj h1
    exact subscriptTail_builtinR (x := w) pl.isList.typeIs slot_list_getitem.lookup
      (wpAny_getItem_list_neg (Q := fun r s' => r = w ∧ EP X pins σ Q r s') pl.isList (by omega) (by rw [List.size_toArray] <;> omega) (by omega) (by rw [hj]; simpa using ew) ⟨rfl, fin⟩) hs
theorem ix_tup : IxR X (rIxT X.K) := by
  intro value slice pins s σ H x y v u Q I rx ry h hs
  obtain ⟨p, xs, i, z, rfl, rfl, hq, he, q⟩ := h
  cases rx
  obtain ⟨t, rfl⟩ := ry
  obtain ⟨its, r, pl, hz⟩ := I.tuple hq
  obtain ⟨j, h1, h2, h3, h4, h5⟩ := atI_get he
  obtain ⟨w, ew, rw'⟩ := r.get h2
  have hl := r.length
  have hn := line63
  have fin : EP X pins σ Q w s := ⟨z, H, I, rw', q⟩
  exact subscriptTail_builtinR (x := w) pl.typeIs slot_tuple_getitem.lookup
    (getItem_tuple (j := j) (Q := fun r s' => r = w ∧ EP X pins σ Q r s') pl (by omega) (by omega) (by rw [List.size_toArray, ← hl]; exact h1) (by simpa using ew) ⟨rfl, fin⟩) hs
theorem ix_str : IxR X rIxS := by
  intro value slice pins s σ H x y v u Q I rx ry h hs
  obtain ⟨z, i, c, rfl, rfl, hz, he, q⟩ := h
  obtain ⟨t, rfl⟩ := rx
  obtain ⟨t', rfl⟩ := ry
  obtain ⟨j, h1, h2, h3, h4, h5⟩ := atI_get he
  have hl : z.cps.toList.length = z.length := by simp [Str.length]
  rw [hl] at h1 h4 h5
  have hn := line63
  exact tail_any (typeIs_str s z t) slot_str_getitem.lookup (getItem_str (c := c) (by
    have e1 : decide (i < -(2 ^ 63 : Int)) = false := decide_eq_false (by omega)
    have e2 : decide (i ≥ 2 ^ 63) = false := decide_eq_false (by omega)
    rw [e1, e2, Bool.or_false]) (by rw [h1]; simpa using h2) ⟨.str ⟨#[c]⟩, H, I.tok _, ⟨_, rfl⟩, q⟩) hs
theorem mapSeq_set (its : List Value) (n j : Nat) (u : Value) : Obj.mapSeq (·.setIfInBounds j u) { cls := .type "list", data := .seq its.toArray n } = { cls := .type "list", data := .seq (its.set j u).toArray n } := by
  simp [Obj.mapSeq]
theorem Inv.lst {pins : List (Addr × Obj)} {σ : St} {H : Hp} {s : Shared} {p : Addr} {xs : List V} (I : Inv X pins σ H s) (h : H p = some (.lst xs)) :
    ∃ (its : List Value) (n : Nat), Vals xs its ∧ s.heap.get? p = some { cls := .type "list", data := .seq its.toArray n } ∧ xs.length ≤ sizeLine := by
  obtain ⟨z, its, n, r, e⟩ := I.hok p _ h
  exact ⟨its, n, r, e, z⟩
theorem Inv.lstUpd {pins : List (Addr × Obj)} {σ : St} {H : Hp} {s : Shared} {p : Addr} {xs ys : List V} {its its' : List Value} {n n' : Nat} {f : Obj → Obj} (I : Inv X pins σ H s) (h : H p = some (.lst xs))
    (ho : s.heap.get? p = some { cls := .type "list", data := .seq its.toArray n }) (hf : f { cls := .type "list", data := .seq its.toArray n } = { cls := .type "list", data := .seq its'.toArray n' }) (r : Vals ys its') (hz : ys.length ≤ sizeLine) (t : Nat) :
    Inv X pins σ (upd H p (.lst ys)) { s with heap := s.heap.update p f, toks := t } := by
  have e : (s.heap.update p f).get? p = some { cls := .type "list", data := .seq its'.toArray n' } := by
    rw [Heap.get?_update_self f ho (by rw [hf] <;> rfl), hf]
  refine I.write (x := p) (e := p) (by rw [h]; trivial) (.inl rfl) (fun b u hb q => (Heap.get?_update_other _ _ (Ne.symm hb)).trans q) ⟨_, e⟩ ?_
  exact ⟨hz, its', n', r, e⟩
noncomputable def rSetL : V → V → V → Hp → (Hp → Prop) → Prop := fun o i v H Q => ∃ p xs k j, o = .ref p ∧ i = .int k ∧ H p = some (.lst xs) ∧ ixN xs.length k = some j ∧ Q (upd H p (.lst (xs.set j v)))
theorem set_list : PSet X rSetL := by
  intro pins s σ H o i v ov iv u Q I ro ri rv h
  obtain ⟨p, xs, k, j, rfl, rfl, hp, hj, q⟩ := h
  cases ro
  obtain ⟨t, rfl⟩ := ri
  obtain ⟨its, n, r, ho, hz⟩ := I.lst hp
  obtain ⟨h1, h2, h3, h4⟩ := ixN_seq hj
  have hl := r.length
  have hn := line63
  have I' : Inv X pins σ (upd H p (.lst (xs.set j v))) { s with heap := s.heap.update p (Obj.mapSeq (·.setIfInBounds j u)) } :=
    I.lstUpd hp ho (mapSeq_set its n j u) (r.set rv j) (by rw [List.length_set]; exact hz) s.toks
  by_cases h0 : 0 ≤ k
  · have hk : k.toNat = j := by
      rw [seqIndex_of h0 h4] at h1
      exact Option.some.inj h1
    exact PySem.W.ki_setAt ho h0 (by omega) (by rw [List.size_toArray, ← hl]; exact h4) (by rw [hk]; exact ⟨_, I', q⟩)
  · have hk : (k + (its.toArray.size : Int)).toNat = j := by
      rw [seqIndex_neg (by omega) h3] at h1
      rw [List.size_toArray, ← hl]
      exact Option.some.inj h1
    exact PySem.W.ki_setBack ho (by omega) (by rw [List.size_toArray, ← hl]; exact h3) (by omega) (by rw [hk]; exact ⟨_, I', q⟩)
noncomputable def flatV : V → Bool
  | .non => true
  | .bl _ => true
  | .int _ => true
  | .str _ => true
  | _ => false
noncomputable def eqV : V → V → Bool
  | .non, .non => true
  | .bl a, .bl b => a == b
  | .bl a, .int b => (if a then 1 else 0) == b
  | .int a, .bl b => a == (if b then 1 else 0)
  | .int a, .int b => a == b
  | .str a, .str b => a == b
  | _, _ => false
theorem eqAt_V {A : Around} {s : Shared} {y x : V} {u v : Value} (ry : RelV y u) (rx : RelV x v) (fy : flatV y = true) (fx : flatV x = true) : SeqAt.EqAt A s u v (eqV y x) := by
  cases y with
  | non =>
    cases ry
    cases x with
    | non => cases rx; exact SeqAt.EqAt.same _
    | bl b => cases rx; exact SeqAt.EqAt.none_bool b
    | int b => obtain ⟨t, rfl⟩ := rx; exact SeqAt.EqAt.none_int b t
    | str b => obtain ⟨t, rfl⟩ := rx; exact SeqAt.EqAt.none_str b t
    | _ => exact absurd (show false = true from fx) Bool.false_ne_true
  | bl a =>
    cases ry
    cases x with
    | non => cases rx; exact SeqAt.EqAt.bool_none a
    | bl b => cases rx; exact SeqAt.EqAt.bool_bool a b
    | int b => obtain ⟨t, rfl⟩ := rx; exact SeqAt.EqAt.bool_int a b t
    | str b => obtain ⟨t, rfl⟩ := rx; exact SeqAt.EqAt.bool_str a b t
    | _ => exact absurd (show false = true from fx) Bool.false_ne_true
  | int a =>
    obtain ⟨t', rfl⟩ := ry
    cases x with
    | non => cases rx; exact SeqAt.EqAt.int_none a t'
    | bl b => cases rx; exact SeqAt.EqAt.int_bool a t' b
    | int b => obtain ⟨t, rfl⟩ := rx; exact SeqAt.EqAt.int_int a t' b t
    | str b => obtain ⟨t, rfl⟩ := rx; exact SeqAt.EqAt.int_str a t' b t
    | _ => exact absurd (show false = true from fx) Bool.false_ne_true
  | str a =>
    obtain ⟨t', rfl⟩ := ry
    cases x with
    | non => cases rx; exact SeqAt.EqAt.str_none a t'
    | bl b => cases rx; exact SeqAt.EqAt.str_bool a t' b
    | int b => obtain ⟨t, rfl⟩ := rx; exact SeqAt.EqAt.str_int a t' b t
    | str b => obtain ⟨t, rfl⟩ := rx; exact SeqAt.EqAt.str_str a t' b t
    | _ => exact absurd (show false = true from fx) Bool.false_ne_true
  | _ => exact absurd (show false = true from fy) Bool.false_ne_true
theorem call_len_seq : CallR X (.builtin "len") (fun xs H Q => ∃ p ys, xs = [.ref p] ∧ (SqL X.K H p ys ∨ SqT X.K H p ys) ∧ Q (.int ys.length) H) := by
  intro pins s σ H xs us Q I r h
  obtain ⟨p, ys, rfl, hq, q⟩ := h
  obtain ⟨u, rfl, rx⟩ := vals1 r
  cases rx
  have hn := line63
  rcases hq with hq | hq
  · obtain ⟨its, r', pl, hz⟩ := I.list hq
    have hlen := r'.length
    exact Calls.call_len_list pl.isList (by simp only [List.size_toArray] <;> omega) ⟨.int ys.length, H, I.tok _, ⟨s.toks + 1, by rw [List.size_toArray, hlen]⟩, q⟩
  · obtain ⟨its, r', pl, hz⟩ := I.tuple hq
    have hlen := r'.length
    exact len_tuple pl (by simp only [List.size_toArray] <;> omega) ⟨.int ys.length, H, I.tok _, ⟨s.toks + 1, by rw [List.size_toArray, hlen]⟩, q⟩
theorem call_len_str : CallR X (.builtin "len") (fun xs H Q => ∃ z, xs = [.str z] ∧ z.length ≤ sizeLine ∧ Q (.int z.length) H) := by
  intro pins s σ H xs us Q I r h
  obtain ⟨z, rfl, hz, q⟩ := h
  obtain ⟨u, rfl, t, rfl⟩ := vals1 r
  have hn := line63
  exact len_str (by omega) ⟨.int z.length, H, I.tok _, ⟨_, rfl⟩, q⟩
theorem CallR.or {f : Value} {r r' : List V → Hp → VK → Prop} (h : CallR X f r) (h' : CallR X f r') : CallR X f (fun xs H Q => r xs H Q ∨ r' xs H Q) := by
  intro pins s σ H xs us Q I rs q
  rcases q with q | q
  · exact h pins s σ H xs us Q I rs q
  · exact h' pins s σ H xs us Q I rs q
theorem call_tuple_of : CallR X (.type "tuple") (fun xs H Q => ∃ p ys, xs = [.ref p] ∧ ((SqL X.K H p ys ∧ ∀ l, H l = none → Q (.ref l) (upd H l (.tup ys))) ∨ (SqT X.K H p ys ∧ Q (.ref p) H))) := by
  intro pins s σ H xs us Q I r h
  obtain ⟨p, ys, rfl, h⟩ := h
  obtain ⟨u, rfl, rx⟩ := vals1 r
  cases rx
  rcases h with ⟨hq, q⟩ | ⟨hq, q⟩
  · obtain ⟨its, r', pl, hz⟩ := I.list hq
    have hlen := r'.length
    refine call_tuple_list pl.isList (fun h' kp => ?_) (by simp only [List.size_toArray] <;> omega)
    have I1 : Inv X pins σ H { s with heap := h' } := I.kept (t' := s.toks) kp
    have I2 : Inv X pins σ (upd H h'.objs.size (.tup ys)) { s with heap := h'.push { cls := .type "tuple", data := .seq its.toArray } } :=
      I1.laid (t' := s.toks) (fun b o e => Heap.get?_push_of_some _ e) (Nat.le_refl _) (show ObjOk X.prog X.w _ _ _ (.tup ys) from ⟨hz, its, r', IsTup.new _ _⟩)
    exact ⟨.ref h'.objs.size, _, I2, rfl, q _ (I1.hok.fresh (Nat.le_refl _))⟩
  · obtain ⟨its, r', pl, hz⟩ := I.tuple hq
    exact call_tuple_same pl ⟨.ref p, H, I, rfl, q⟩
noncomputable def tyV (K : PySem.W.Frag) (T : String) (x : V) (H : Hp) : Prop := match x with
  | .str _ => T = "str"
  | .int _ => T = "int"
  | .ref p => (T = "list" ∧ ∃ xs, SqL K H p xs) ∨ (T = "tuple" ∧ ∃ o, K.lookup p = some o ∧ o.cls = .type "tuple" ∧ o.dict = none) ∨
      (T = "dict" ∧ ((∃ kvs, H p = some (.dK kvs)) ∨ ∃ kvs, H p = some (.dT kvs))) ∨ (T = "set" ∧ ∃ S n, H p = some (.set S n))
  | _ => False
theorem tyV_is {pins : List (Addr × Obj)} {σ : St} {H : Hp} {s : Shared} {T : String} {x : V} {v : Value} (I : Inv X pins σ H s) (r : RelV x v) (ty : tyV X.K T x H) :
    s.TypeIs v T ∧ ∀ a, v = .ref a → ∃ ob, s.heap.get? a = some ob ∧ ob.dict = none := by
  cases x with
  | str z =>
    obtain ⟨t, rfl⟩ := r
    cases (show T = "str" from ty)
    exact ⟨typeIs_str s z t, fun _ e => nomatch e⟩
  | int i =>
    obtain ⟨t, rfl⟩ := r
    cases (show T = "int" from ty)
    exact ⟨typeIs_int s i t, fun _ e => nomatch e⟩
  | ref p =>
    cases r
    rcases ty with ⟨rfl, xs, hq⟩ | ⟨rfl, o, hk, hc, hd⟩ | ⟨rfl, hk⟩ | ⟨rfl, S, n, hk⟩
    · obtain ⟨its, _, pl, _⟩ := I.list hq
      refine ⟨pl.isList.typeIs, fun a e => ?_⟩
      cases e
      obtain ⟨o, n, e, c, hd, _⟩ := pl
      exact ⟨o, e, hd⟩
    · refine ⟨⟨o, I.kIn p o hk, hc⟩, fun a e => ?_⟩
      cases e
      exact ⟨o, I.kIn _ o hk, hd⟩
    · have z : ∃ o, s.heap.get? p = some o ∧ o.ExactDict := by
        rcases hk with ⟨kvs, hk⟩ | ⟨kvs, hk⟩
        · obtain ⟨_, _, _, _, o, _, _, e, ex, _⟩ := I.hok p _ hk
          exact ⟨o, e, ex⟩
        · obtain ⟨_, _, _, _, o, _, _, e, ex, _⟩ := I.hok p _ hk
          exact ⟨o, e, ex⟩
      obtain ⟨o, e, ex⟩ := z
      refine ⟨⟨o, e, ex.1⟩, fun a e2 => ?_⟩
      cases e2
      exact ⟨o, e, ex.2.1⟩
    · obtain ⟨o, _, _, _, e, ex, _⟩ := I.hok p _ hk
      refine ⟨⟨o, e, ex.1⟩, fun a e2 => ?_⟩
      cases e2
      exact ⟨o, e, ex.2.1⟩
  | _ => exact False.elim ty
noncomputable def tBM (K : PySem.W.Frag) (T : String) (r : V → List V → Hp → VK → Prop) (to : TE) (t : TA) : TE := fun σ H Q => to σ H fun x H1 => tyV K T x H1 ∧ t σ H1 fun xs H2 => r x xs H2 Q
variable {o e : Expr} {es : List Expr} {to : TE} {t : TA} {name : Str} {apos cpos : Pos} {T id : String} {r : V → List V → Hp → VK → Prop}
theorem pe_bm (pa : PlainAttrs T) (slot : Slot T name id) (hty : typeOf (.builtin id) = pure (.type "method_descriptor")) (hm : MtR X id r) (ho : PE X o to) (ha : PA X (e :: es) t)
    (hbase : attributeBase o name X.env (eval o X.env) = eval o X.env := by rfl)
    (hfew : ((backTo cpos (starEach (e :: es) X.env)).all (fun x => !x.1) && (backToKw cpos (keywordEach [] X.env)).all (fun x => x.1.isSome)
      && decide ((e :: es).length + ([] : List Keyword).length + (if ([] : List Keyword).isEmpty then 0 else 1) < 30)) = true := by rfl)
    (hline : (apos.endLine == cpos.line) = true := by rfl) (hs : starEach (e :: es) X.env = (false, eval e X.env) :: starEach es X.env := by rfl) (hplain : (backTo cpos (starEach es X.env)).any (·.1) = false := by rfl) :
    PE X (.Call (.Attribute o name apos) (e :: es) [] cpos) (tBM X.K T r to t) := by
  intro pins s σ H Q I h
  refine wpAny_Call_method_late hbase hfew hline rfl (thn (ho pins s σ H _ I h) fun v s1 ⟨x, H1, I1, r1, ty, q1⟩ => ?_)
  obtain ⟨h1, h2⟩ := tyV_is I1 r1 ty
  refine ⟨T, id, pa, slot, hty, h1, h2, ?_⟩
  have hA := ha cpos pins s1 σ H1 _ I1 q1
  rw [hs] at hA ⊢
  refine Calls.callWith_builtin (by show (false || (backTo cpos (starEach es X.env)).any (·.1)) = false; rw [hplain] <;> rfl) (Calls.evalArgs_plain ?_)
  exact thn hA fun us s2 ⟨vs, H2, I2, r2, q2⟩ => hm pins s2 σ H2 x vs v us Q I2 r1 r2 q2
/- xs.append(e), list.index on a module's tuple .. are MtR facts of 06m -/
end
noncomputable def MtM (X : Cx) (id : String) (r : V → List V → Hp → VK → Prop) : Prop :=
  ∀ (pins : List (Addr × Obj)) (s : Shared) (σ : St) (H : Hp) (x : V) (xs : List V) (v : Value) (us : List Value) (Q : VK), Inv X pins σ H s → RelV x v → Vals xs us → r x xs H Q →
    wpAny (model X.prog X.w) X.A (call (.builtin id) (v :: us)) (EP X pins σ Q) X.xe s
theorem Vals.one : ∀ {x : V} {us : List Value}, Vals [x] us → ∃ u, us = [u] ∧ RelV x u
  | _, _, .cons r .nil => ⟨_, rfl, r⟩
theorem Vals.rep {xs : List V} {us : List Value} (h : Vals xs us) : ∀ k : Nat, Vals (List.replicate k xs).flatten (List.replicate k us).flatten
  | 0 => .nil
  | k + 1 => by
    rw [List.replicate_succ, List.replicate_succ, List.flatten_cons, List.flatten_cons]
    exact Vals.append h (Vals.rep h k)
theorem foldl_rep (its : List Value) : ∀ (k : Nat) (acc : List Value),
    List.foldl (fun x1 x2 => x1 ++ x2) acc.toArray (List.replicate k its.toArray) = (acc ++ (List.replicate k its).flatten).toArray
  | 0, acc => by simp
  | k + 1, acc => by
    have e : acc.toArray ++ its.toArray = (acc ++ its).toArray := by simp
    have e2 : (acc ++ its) ++ (List.replicate k its).flatten = acc ++ (List.replicate (k + 1) its).flatten := by
      rw [List.replicate_succ, List.flatten_cons, List.append_assoc]
    rw [← e2, ← foldl_rep its k (acc ++ its), ← e, List.replicate_succ, List.foldl_cons]
section
variable {X : Cx} {pins : List (Addr × Obj)} {σ : St} {H : Hp} {s : Shared} {l b : Addr} {xs ys zs : List V}
theorem Inv.lset {its its' : List Value} {n : Nat} {f : Array Value → Array Value} {t' : Nat} (I : Inv X pins σ H s) (hH : H l = some (.lst xs))
    (e : s.heap.get? l = some { cls := .type "list", data := .seq its.toArray n }) (hf : f its.toArray = its'.toArray) (hv : Vals ys its') (hz : ys.length ≤ sizeLine) :
    Inv X pins σ (upd H l (.lst ys)) { s with heap := s.heap.update l (Obj.mapSeq f), toks := t' } := by
  have q := PySem.IsL.update e f
  rw [hf] at q
  refine I.write (x := l) (e := l) (by rw [hH]; exact trivial) (.inl rfl) (fun b' u hb hu => (Heap.get?_update_other s.heap (Obj.mapSeq f) (Ne.symm hb)).trans hu) ⟨_, q⟩ ?_
  exact ⟨hz, its', _, hv, q⟩
theorem Inv.lnew {its : List Value} {t' : Nat} (I : Inv X pins σ H s) (hv : Vals ys its) (hz : ys.length ≤ sizeLine) :
    Inv X pins σ (upd H s.heap.objs.size (.lst ys)) { s with heap := s.heap.push { cls := .type "list", data := .seq its.toArray }, toks := t' } :=
  I.laid (fun _ _ q => Heap.get?_push_of_some _ q) (Nat.le_refl _) ⟨hz, its, 0, hv, Heap.get?_push_size _ rfl⟩
theorem Inv.fresh (I : Inv X pins σ H s) : H s.heap.objs.size = none := I.hok.fresh (Nat.le_refl _)
theorem Inv.lstM (I : Inv X pins σ H s) (hH : H l = some (.lst xs)) : xs.length ≤ sizeLine ∧ ∃ (its : List Value) (n : Nat), Vals xs its ∧ xs.length = its.length ∧ s.heap.get? l = some { cls := .type "list", data := .seq its.toArray n } := by
  obtain ⟨z, its, n, r, e⟩ := I.hok l _ hH
  exact ⟨z, its, n, r, r.length, e⟩
theorem notLongL {n : Nat} (h : n ≤ sizeLine) : Builtin.List.listTooLong n = false := by
  unfold Builtin.List.listTooLong
  exact decide_eq_false (by omega)
end
section
variable {X : Cx}
noncomputable def rAppend : V → List V → Hp → VK → Prop := fun x vs H Q => ∃ l xs y, x = .ref l ∧ vs = [y] ∧ H l = some (.lst xs) ∧ xs.length < sizeLine ∧ Q .non (upd H l (.lst (xs ++ [y])))
theorem mt_append : MtM X "list.append" rAppend := by
  intro pins s σ H x vs v us Q I rx rv h
  obtain ⟨l, xs, y, rfl, rfl, hH, hz, q⟩ := h
  cases rx
  obtain ⟨u, rfl, ru⟩ := rv.one
  obtain ⟨z, its, n, r, hl, e⟩ := I.lstM hH
  refine call_meets F.slot_list_append ⟨_, e, rfl⟩ F.entry_list_append (F.args_list_append_2 _ _) (PySem.list_append l its.toArray n u (by rw [List.size_toArray]; omega)) ⟨e, ?_⟩
  refine ⟨.non, _, I.lset (its' := its ++ [u]) hH e (by simp) (r.append (.cons ru .nil)) ?_, rfl, q⟩
  rw [List.length_append, List.length_singleton]
  omega
theorem len_rep {α : Type} (xs : List α) (k : Nat) : (List.replicate k xs).flatten.length = k * xs.length := by
  induction k with
  | zero => simp
  | succ k ih => rw [List.replicate_succ, List.flatten_cons, List.length_append, ih, Nat.succ_mul, Nat.add_comm]
end
section
variable {κ : Type} [DecidableEq κ]
theorem RelO.isSome_eq {o : Option V} {u : Option Value} (r : RelO o u) : o.isSome = u.isSome := by
  cases o with
  | none => cases u with
    | none => rfl
    | some _ => exact (show False from r).elim
  | some _ => cases u with
    | none => exact (show False from r).elim
    | some _ => rfl
end
theorem kV_is {P : Program} {w : World} {k : Key} {u : Value} (r : RelV (kV k) u) : (mixKind P w).is k u = true := by
  cases k with
  | inl i => obtain ⟨t, e⟩ := (show ∃ t, u = Value.int i t from r); subst e; exact mixKind_int P w i t
  | inr x => obtain ⟨t, e⟩ := (show ∃ t, u = Value.str x t from r); subst e; exact mixKind_str P w x t
theorem items_are {P : Program} {w : World} : ∀ {ks : List Key} {us : List Value}, Vals (ks.map kV) us → ItemsAre (mixKind P w) ks us
  | [], _, r => by rw [List.map_nil] at r; cases r; exact .nil
  | k :: ks, _, r => by
    rw [List.map_cons] at r
    cases r with
    | cons h t => exact .cons (kV_is h) (items_are t)
section
variable {P : Program} {w : World} {H : Hp} {h : Heap} {a : Addr}
theorem rd_of {u : HO} (ok : HOk P w H h) (e : Rd H a u) : ObjOk P w H h a u := e.ok ok
end
section
variable {X : Cx} {pins : List (Addr × Obj)} {σ : St} {H : Hp} {s : Shared} {a : Addr} {y v : V} {u r : Value} {o : Option V} {A : Around} {E : Value → Shared → Prop}
theorem Inv.big (I : Inv X pins σ H s) : sysModules < s.heap.objs.size := by
  have h : mainGlobals < s.heap.objs.size := (I.mod.glob.keeps I.bk).lt
  exact Nat.lt_trans (by decide) h
theorem d_write {h' : Heap} {t' : Nat} {ob : HO} (I : Inv X pins σ H s) (mu : Mut (H a)) (hs : Heap.SameBut a s.heap h') (he : ∃ q, h'.get? a = some q) (new : ObjOk X.prog X.w (upd H a ob) h' a ob) :
    Inv X pins σ (upd H a ob) { s with heap := h', toks := t' } :=
  I.write (x := a) (e := a) mu (.inl rfl) (fun b q hb z => (hs.2 b hb).trans z) he new
end
theorem dt_empty {P : Program} {w : World} {H : Hp} (h : Heap) (hb : sysModules < h.objs.size) : ObjOk P w H (h.push { cls := .type "dict", data := .dict #[] }) h.objs.size (.dT []) :=
  ⟨Nat.zero_le _, beq_eq_false_iff_ne.mpr (Ne.symm (Nat.ne_of_lt hb)), [], .nil, _, #[], 0, Heap.get?_push_size _ rfl, ⟨rfl, rfl, rfl⟩, rfl, rfl, List.nodup_nil⟩
end L2
namespace Att
open PySem PySem.W PySem.Calls PyProof.Rows
theorem ints_of_wellAll {P : Params} {h : Heap} : ∀ (ns : List Int) (vs : List Value), WellAll P h vs (ns.map WData.int) → IntsAre vs ns := by
  intro ns
  induction ns with
  | nil =>
    intro vs w
    rw [List.map_nil] at w
    cases w
    exact .nil
  | cons n ns ih =>
    intro vs w
    rw [List.map_cons] at w
    cases w with
    | cons a b =>
      cases a
      exact .cons _ _ (ih _ b)
theorem script_of {l : OpenLaw} {n : Nat} (hn : l.most = some n) {P : Params} {h : Heap} {args : List WData} {vals : List Value}
    (hpre : l.row.toRowW.claim.pre args = true) (hwl : WellAll P h vals args) :
    ∃ a vs ns, vals = [Value.ref a] ∧ args = [WData.list (ns.map WData.int)] ∧ h.get? a = some { cls := .type "list", data := .seq vs.toArray } ∧ IntsAre vs ns ∧ ns.length ≤ n := by
  have hsh : WShape.hasAll [] args [.list .int] = true := (pre_splitW hpre).1
  have hc : l.pre.holds [] { args := args } = true := (pre_splitW hpre).2
  obtain ⟨d, r, rfl, h1, h2⟩ := hasAllW_cons hsh
  obtain rfl := hasAllW_nil h2
  obtain ⟨xs, rfl, h3⟩ := hasW_list h1
  obtain ⟨ns, rfl⟩ := items_int h3
  have hlen : ns.length ≤ n := by
    unfold OpenLaw.pre at hc
    have h4 : (WTm.not (.lt (.lit (.int (n : Int))) (.len (.arg 0)))).holds [] { args := [.list (ns.map .int)] } = true := by
      have h4 := (holds_andW hc).1
      rw [hn] at h4
      exact h4
    have h5 := condW_of h4 (w_not (w_lt w_lit (w_len_list (w_arg rfl))))
    rw [List.length_map] at h5
    refine Nat.le_of_not_lt fun q => ?_
    have q' : (n : Int) < ((ns.length : Nat) : Int) := by omega
    first
      | (rw [decide_eq_true q'] at h5; exact absurd h5 (by decide))
      | (simp at h5; omega)
  cases hwl with
  | cons w1 w2 =>
    cases w2
    cases w1 with
    | list ho hall => exact ⟨_, _, ns, rfl, rfl, ho, ints_of_wellAll ns _ hall, hlen⟩
theorem post_true (l : OpenLaw) (args : List WData) : l.row.toRowW.claim.post args (.bool true) args = true :=
  postW_of (r := l.row.toRowW) (X := (true == true))
    (show WShape.has [] (.bool true) .bool = true by first | rfl | decide | simp [WShape.has, WShape.arms, WShape.armsAll])
    (show (WTm.eq .res (.lit (.bool true))).value [] { args := args, res := some (.bool true), after := args } = some (.bool (true == true)) from w_eq_bool (w_res rfl) w_lit) rfl
theorem attach_call {l : OpenLaw} {n : Nat} {q : Program} {loose : List Str} {XP : (Str → Option Value) → Heap → Prop} {YP : World → Heap → Prop} {d : DefRec}
    (hn : l.most = some n) (hdf : d.params.defaults = [])
    (call : ∀ (w : World) (s₀ s₁ : Shared) (mg mb : Str → Option Value) (fa : Addr) (o : Obj) (pm cd doc : Value) (a : Addr) (vs : List Value) (ns : List Int),
      Ground q loose [] XP w s₀ mg mb s₁.heap → YP w s₁.heap →
      s₁.heap.get? fa = some o → o.data = .func (docDef d.name d.params d.body d.scope pm cd doc) → s₁.heap.CodeRec cd d.name → mg d.name = some (.ref fa) →
      s₁.heap.get? a = some { cls := .type "list", data := .seq vs.toArray } → IntsAre vs ns → ns.length ≤ n → s₁.gens = #[] →
      codeAny (model l.prog w) callerA (.call (.ref fa) ⟨[.ref a], []⟩) (fun r s' => r = .ok (.ret (.bool true)) ∧ OldK s₁.heap s'.heap ∧ s'.os = s₁.os ∧ AllBare s'.gens) s₁) :
    WalkO q loose XP YP l.row.toRowW d [] (fun f vs => PySem.call f vs) := by
  intro w s₀ s₁ mg mb G Y fa o pm cd doc dV kV ho hd hcd hD hmg hg args vals as hpre hlay hrd hwl hlo
  obtain rfl : dV = .none := Dflts.none hD hdf
  obtain rfl : kV = .none := Dflts.noKw hD
  obtain ⟨a, vs, ns, rfl, rfl, hobj, hints, hlen⟩ := script_of hn hpre hwl
  refine enter_call (codeAny_mono (call w s₀ s₁ mg mb fa o pm cd doc a vs ns G Y ho (fd_plain hd) hcd hmg hobj hints hlen hg) fun r s' hq => ?_)
  obtain ⟨rfl, h2, h3, h4⟩ := hq
  exact ⟨.inl ⟨.bool true, .bool true, [], rfl, fun _ => rfl, .bool true, post_true l _, fun _ => ⟨List.Pairwise.nil, fun _ hm => (nomatch hm)⟩⟩, h2, h3, h4⟩
end Att
namespace L2
open PySem PySem.Spec PyProof.Rows
theorem vals_ints : ∀ {vs : List Value} {ns : List Int}, IntsAre vs ns → Vals (ns.map V.int) vs
  | _, _, .nil => .nil
  | _, _, .cons n t h => .cons ⟨t, rfl⟩ (vals_ints h)
noncomputable def Only (H : Hp) : Prop := ∀ b, H b = none ∨ ∃ o xs, H b = some (.frz o (.lst xs))
theorem law_call {P : Program} {w : World} {K : PySem.W.Frag} {mg mb : Str → Option Value} {CX : CXT} {k : Nat} {fa a : Addr} {fd : FuncData} {x : Str} {sp : Sp} {s₁ : Shared} {vs : List Value} {ns : List Int}
    (KX : K.In s₁.heap) (hns : s₁.heap.Ns mainGlobals mg) (hb : s₁.heap.Ns builtinsNs mb) (hbb : ∀ x : Str, x ≠ "__name__" → mb x = bootBuiltins x) (hlim : s₁.heap.NoLimit) (hg : s₁.gens = #[])
    (ha : s₁.heap.get? a = some { cls := .type "list", data := .seq vs.toArray }) (hi : IntsAre vs ns) (hl : ns.length ≤ sizeLine) (hr : Room k callerA)
    (F : ∀ base : Heap, K.In base → base.Ns mainGlobals mg → FnOk P w K mg base CX k fa fd [x] sp) (hbind : ∀ (s : Shared) (u : Value), BindsTo s fd ⟨[u], []⟩ [(x, u)])
    (hsp : ∀ H : Hp, Only H → SqL K H a (ns.map V.int) → sp [.ref a] H (fun v _ => v = .bl true) fun _ _ _ => False)
    (hCX : ∀ H e s', CX [] H s₁ (fun _ _ _ => False) e s' → False) :
    codeAny (model P w) callerA (.call (.ref fa) ⟨[.ref a], []⟩) (fun r s' => r = .ok (.ret (.bool true)) ∧ OldK s₁.heap s'.heap ∧ s'.os = s₁.os ∧ AllBare s'.gens) s₁ := by
  have rv := vals_ints hi
  have lenV := hi.length
  -- from an abstract heap in which nothing but the script may be tracked
  have core : ∀ H : Hp, Only H → SqL K H a (ns.map V.int) → HOk P w H s₁.heap → (∀ b, H b ≠ none → b = a) → (H a ≠ none → K.lookup a = none) →
      codeAny (model P w) callerA (.call (.ref fa) ⟨[.ref a], []⟩) (fun r s' => r = .ok (.ret (.bool true)) ∧ OldK s₁.heap s'.heap ∧ s'.os = s₁.os ∧ AllBare s'.gens) s₁ := by
    intro H hO hS hok hA hK
    have base_of : ∀ {b : Addr} {o : Obj}, s₁.heap.get? b = some o → H b = none → (hidT s₁.heap H).get? b = some o := fun e n => hidT_get e n
    have noA : ∀ {b : Addr} {o : Obj} {es : Array DictEntry} {ep : Nat}, s₁.heap.get? b = some o → o.data = .dict es ep → H b = none := fun {b o es ep} e d => by
      cases q : H b with
      | none => rfl
      | some u =>
        have e' : b = a := hA b (by rw [q]; simp)
        subst e'
        rw [ha] at e; cases e
        have d' : Data.seq vs.toArray _ = Data.dict es ep := d
        cases d'
    have nsK : ∀ {b : Addr} {m : Str → Option Value}, s₁.heap.Ns b m → (hidT s₁.heap H).Ns b m := fun {b m} ⟨o, es, ep, e, d, r⟩ => ⟨o, es, ep, base_of e (noA e d), d, r⟩
    have hKb : K.In (hidT s₁.heap H) := fun b o e => base_of (KX b o e) (by
      cases q : H b with
      | none => rfl
      | some u =>
        have e' : b = a := hA b (by rw [q]; simp)
        subst e'
        rw [hK (by rw [q]; simp)] at e; cases e)
    have hM : Mod K mg (hidT s₁.heap H) := ⟨hKb, nsK hns, ⟨mb, nsK hb, hbb⟩, let ⟨mc, h1, h2⟩ := hlim; ⟨mc, nsK h1, h2⟩⟩
    have e0 : Env0 P w K mg (hidT s₁.heap H) callerA [] s₁ H := ⟨rfl, hM, fun b o e => of_hidT e, Nat.le_of_eq (hidT_size _ _), trivial, fun b hb => absurd (show b ∈ ([] : List Addr) from hb) (by simp), hok, .of_eq hg⟩
    refine codeAny_mono ((F _ hKb (nsK hns)).run callerA [] s₁ H ⟨[.ref a], []⟩ [.ref a] [.ref a] _ _ hr e0 (hbind s₁ (.ref a)) (.cons rfl .nil) (hsp H hO hS)) fun r s' h => ?_
    cases r with
    | error e => exact (hCX H e s' h).elim
    | ok fl =>
      cases fl with
      | next => exact False.elim h
      | brk => exact False.elim h
      | cont => exact False.elim h
      | ret u =>
        obtain ⟨v, H', os, bare, un, hok', r', q⟩ := h
        have q' : v = .bl true := q
        subst q'
        obtain rfl : u = Value.bool true := r'
        refine ⟨rfl, OldK.of_keep fun b o e => ?_, os, bare⟩
        cases q : H b with
        | none => exact un.keep b o e q (by intro z; exact absurd (show b ∈ ([] : List Addr) from z) (by simp)) (by simp)
        | some u =>
          rcases hO b with z | ⟨ob, xs, z⟩
          · rw [q] at z; cases z
          · have z2 := un.frzs b ob _ z
            obtain ⟨e1, _⟩ := hok b _ z
            obtain ⟨e2, _⟩ := hok' b _ z2
            rw [e] at e1; cases e1
            exact e2
  cases hk : K.lookup a with
  | some o =>
    -- the script is one of the module's own objects
    have e := KX a o hk
    rw [ha] at e
    cases e
    refine core (fun _ => none) (fun _ => .inl rfl) (.inr ⟨_, vs.toArray, _, hk, rfl, rfl, rfl, by rw [List.size_toArray, lenV]; exact hl, by simpa using rv⟩) (fun b u z => by have z' : (none : Option HO) = some u := z; cases z') (fun b z => absurd rfl z) fun z => absurd rfl z
  | none =>
    refine core (fun b => if b = a then some (.frz { cls := .type "list", data := .seq vs.toArray } (.lst (ns.map V.int))) else none) (fun b => ?_) (.inl (.inr ⟨{ cls := .type "list", data := .seq vs.toArray }, if_pos rfl⟩)) (fun b u z => ?_) (fun b z => ?_) fun _ => hk
    · by_cases hb : b = a
      · exact .inr ⟨_, _, if_pos hb⟩
      · exact .inl (if_neg hb)
    · by_cases hb : b = a
      · have z' := (if_pos hb).symm.trans z
        cases z'
        subst hb
        exact ⟨ha, by rw [List.length_map]; exact hl, vs, _, rv, ha⟩
      · have z' := (if_neg hb).symm.trans z
        cases z'
    · by_cases hb : b = a
      · exact hb
      · exact absurd (if_neg hb) z
noncomputable abbrev KOf {K : PySem.W.Frag} {h : Heap} (_ : K.In h) : PySem.W.Frag := K
theorem walk_of {l : PySem.W.OpenLaw} {n k : Nat} {q : Program} {loose : List Str} {XP : (Str → Option Value) → Heap → Prop} {YP : World → Heap → Prop} {d : DefRec} {K : Params → PySem.W.Frag} {CX : World → CXT} {sp : World → Sp} {x : Str}
    (hn : l.most = some n) (hn2 : n ≤ sizeLine) (hdf : d.params.defaults = []) (hr : Room k callerA)
    (hY : ∀ (w : World) (h : Heap), YP w h → (K w.params).In h)
    (F : ∀ (w : World) (mg : Str → Option Value) (fa : Addr) (h : Heap), (K w.params).In h → h.Ns mainGlobals mg → mg d.name = some (.ref fa) →
      ∃ fd : FuncData, (∀ (s : Shared) (u : Value), BindsTo s fd ⟨[u], []⟩ [(x, u)]) ∧
        ∀ base : Heap, (K w.params).In base → base.Ns mainGlobals mg → FnOk l.prog w (K w.params) mg base (CX w) k fa fd [x] (sp w))
    (hsp : ∀ (w : World) (H : Hp) (a : Addr) (ns : List Int), ns.length ≤ n → Only H → SqL (K w.params) H a (ns.map V.int) → sp w [.ref a] H (fun v _ => v = .bl true) fun _ _ _ => False)
    (hCX : ∀ (w : World) (H : Hp) (s : Shared) (e : Value) (s' : Shared), CX w [] H s (fun _ _ _ => False) e s' → False) :
    PySem.W.WalkO q loose XP YP l.row.toRowW d [] (fun f vs => PySem.call f vs) := by
  refine Att.attach_call hn hdf fun w s₀ s₁ mg mb fa o pm cd doc a vs ns G Y ho hd hcd hmg hobj hints hlen hg => ?_
  have KX := hY w _ Y
  obtain ⟨fd, hb, hF⟩ := F w mg fa _ KX G.T.g hmg
  exact law_call KX G.T.g G.T.b G.T.builtins G.T.nolimit hg hobj hints (Nat.le_trans hlen hn2) hr hF hb (fun H hO hS => hsp w H a ns hlen hO hS) fun H e s' => hCX w H s₁ e s'
noncomputable def defArgs (s : Stmt) : Arguments := match s with
  | .FunctionDef _ a _ _ _ _ _ _ _ _ => a
  | _ => { posonlyargs := [], args := [], vararg := none, kwonlyargs := [], kw_defaults := [], kwarg := none, defaults := [] }
noncomputable def defBody (s : Stmt) : List Stmt := match s with
  | .FunctionDef _ _ b _ _ _ _ _ _ _ => b
  | _ => []
noncomputable def defScope (s : Stmt) : Scope := match s with
  | .FunctionDef _ _ _ _ _ _ sc _ _ _ => sc
  | _ => { kind := .function, names := [], isGenerator := false, isCoroutine := false }
noncomputable abbrev CX0 : CXT := fun _ _ _ _ _ _ => False
noncomputable abbrev E0 : XK := fun _ _ _ => False
theorem pass0 {X : Cx} : Passes CX0 X E0 := fun _ _ _ _ _ _ _ h => h.elim
structure Fun (K : PySem.W.Frag) (x qual : Str) (st : Stmt) (f : Addr) (fd : FuncData) : Prop where
  ex : ∃ (oc : Value) (od : Option Addr) (kV doc pm : Value) (an : Option Addr) (cdv ct : Value) (osl : Array (Option Value)),
    fd = PySem.W.fnOf x qual (defArgs st) (defBody st) (defScope st) .none kV doc pm an cdv ct ∧ K.lookup f = some ⟨oc, od, .func fd, osl⟩ ∧ PySem.W.codeIn K cdv qual = true
  kp : PySem.W.keepIn K (.ref f) = true
section
variable {P : Program} {w : World} {K : PySem.W.Frag} {mg : Str → Option Value} {base : Heap}
theorem Fun.ok {x qual : Str} {st : Stmt} {f : Addr} {fd : FuncData} {N ps : List Str} {k : Nat} {sp : Sp} (F : Fun K x qual st f fd) (S : FnScope N ps (defScope st)) (len : ∀ vs H Q E, sp vs H Q E → vs.length = ps.length)
    (hbody : ∀ (cdv : Value) (A : Around) (outer : List Env) (s : Shared) (H : Hp) (vs : List V) (Q : VK) (E : XK), Room k (A.deeper (envOfC qual (defScope st) s.heap.objs.size f cdv)) → sp vs H Q E →
      ∃ t, PSs (cxOf CX0 P w K mg base N qual (defScope st) f cdv A outer s H E).nox (defBody st) t ∧ t { nx := fun _ H' => Q .non H', rt := Q } (start N vs) H) : FnOk P w K mg base CX0 (k + 1) f fd ps sp := by
  obtain ⟨oc, od, kV, doc, pm, an, cdv, ct, osl, rfl, lk, hcd⟩ := F.ex
  refine fn_of lk hcd S len fun A outer s H vs Q E hr hsp => ?_
  obtain ⟨t, h, q⟩ := hbody cdv A outer s H vs Q E hr hsp
  exact ⟨t, h.nox, q⟩
theorem Fun.binds {x qual : Str} {st : Stmt} {f : Addr} {fd : FuncData} {ps : List Str} (F : Fun K x qual st f fd)
    (h : ∀ (kV doc pm : Value) (an : Option Addr) (cdv ct : Value) (us : List Value), us.length = ps.length → bindArgs (PySem.W.fnOf x qual (defArgs st) (defBody st) (defScope st) .none kV doc pm an cdv ct) ⟨us, []⟩ = pure (ps.zip us)) : Binds K fd ps [] := by
  obtain ⟨oc, od, kV, doc, pm, an, cdv, ct, osl, rfl, lk, hcd⟩ := F.ex
  exact .all (h kV doc pm an cdv ct)
theorem fun_mk {x qual : Str} {st : Stmt} {f : Addr} {oc : Value} {od an : Option Addr} {osl : Array (Option Value)} {kV doc pm cdv ct : Value} (l : K.lookup f = some ⟨oc, od, .func (PySem.W.fnOf x qual (defArgs st) (defBody st) (defScope st) .none kV doc pm an cdv ct), osl⟩)
    (c : PySem.W.codeIn K cdv qual = true) (k : PySem.W.keepIn K (.ref f) = true) : Fun K x qual st f (PySem.W.fnOf x qual (defArgs st) (defBody st) (defScope st) .none kV doc pm an cdv ct) := ⟨⟨oc, od, kV, doc, pm, an, cdv, ct, osl, rfl, l, c⟩, k⟩
end
theorem small1000 {n : Nat} (h : n ≤ 1000) : n < sizeLine := Nat.lt_of_le_of_lt h (by decide)
theorem iteF {A B : Prop} (h : B) : if false = true then A else B := by
  rw [if_neg Bool.false_ne_true]
  exact h
theorem iteT {A B : Prop} (h : A) : if true = true then A else B := by
  rw [if_pos rfl]
  exact h
theorem ite2 {c A B : Prop} [Decidable c] (h1 : c → A) (h2 : ¬ c → B) : if c then A else B := by
  by_cases h : c
  · rw [if_pos h]
    exact h1 h
  · rw [if_neg h]
    exact h2 h
noncomputable def Same (H H' : Hp) : Prop := ∀ b o, H b = some o → H' b = some o
theorem Same.refl (H : Hp) : Same H H := fun _ _ h => h
theorem Same.trans {H H1 H2 : Hp} (a : Same H H1) (b : Same H1 H2) : Same H H2 := fun c o h => b c o (a c o h)
noncomputable def clGo : List (Str × NameKind) → List (Str × Addr) → List (Str × Addr) → List (Str × Addr)
  | [], _, cs => cs
  | (n, k) :: r, cells, cs => clGo r cells (if k == .free then (match cells.lookup n with | some c => (n, c) :: cs | none => cs) else cs)
noncomputable def clOf (scope : Scope) (env : Env) : List (Str × Addr) := clGo scope.names env.cells []
theorem closure_go {env : Env} : ∀ (names : List (Str × NameKind)) (cs : List (Str × Addr)), (∀ y ∈ names, y.2 = .free → ∃ c, env.cells.lookup y.1 = some c) →
    (forIn names cs (fun (x : Str × NameKind) (r : List (Str × Addr)) => (match x with | (name, kind) => if kind == .free then do let c ← cellOf env name; pure (ForInStep.yield ((name, c) :: r)) else pure (ForInStep.yield r) : Sem (ForInStep (List (Str × Addr)))))) = (pure (clGo names env.cells cs) : Sem (List (Str × Addr)))
  | [], cs, _ => rfl
  | (n, k) :: r, cs, h => by
    rw [List.forIn_cons]
    cases e : (k == NameKind.free) with
    | true =>
      obtain ⟨c, hc⟩ := h (n, k) List.mem_cons_self (by simpa using e)
      have hco : cellOf env n = pure c := by unfold cellOf; rw [show env.cells.lookup n = some c from hc]
      have ih := closure_go r ((n, c) :: cs) fun y hy => h y (List.mem_cons_of_mem _ hy)
      show (if k == NameKind.free then (do let c ← cellOf env n; pure (ForInStep.yield ((n, c) :: cs))) else pure (ForInStep.yield cs)) >>= _ = _
      rw [if_pos e, hco]
      unfold clGo
      rw [if_pos e]
      have hc' : List.lookup n env.cells = some c := hc
      rw [hc']
      exact ih
    | false =>
      have ih := closure_go r cs fun y hy => h y (List.mem_cons_of_mem _ hy)
      show (if k == NameKind.free then (do let c ← cellOf env n; pure (ForInStep.yield ((n, c) :: cs))) else pure (ForInStep.yield cs)) >>= _ = _
      rw [if_neg (by rw [e]; exact Bool.false_ne_true)]
      unfold clGo
      rw [if_neg (by rw [e]; exact Bool.false_ne_true)]
      exact ih
theorem closure_of {scope : Scope} {env : Env} (h : ∀ y ∈ scope.names, y.2 = .free → ∃ c, env.cells.lookup y.1 = some c) : closureFor scope env = pure (clOf scope env) := by
  have e := closure_go scope.names [] h
  unfold closureFor clOf
  show (forIn scope.names ([] : List (Str × Addr)) (fun (x : Str × NameKind) (r : List (Str × Addr)) => (match x with | (name, kind) => if kind == .free then do let c ← cellOf env name; pure (ForInStep.yield ((name, c) :: r)) else pure (ForInStep.yield r) : Sem (ForInStep (List (Str × Addr))))) >>= fun r => pure r) = _
  rw [e]
  rfl
theorem clGo_of {cells : List (Str × Addr)} : ∀ (names : List (Str × NameKind)) (cs : List (Str × Addr)) (x : Str) (c : Addr), (clGo names cells cs).lookup x = some c → cells.lookup x = some c ∨ cs.lookup x = some c
  | [], cs, x, c, h => .inr h
  | (n, k) :: r, cs, x, c, h => by
    unfold clGo at h
    rcases clGo_of r _ x c h with q | q
    · exact .inl q
    · split at q
      · cases e : cells.lookup n with
        | none => rw [e] at q; exact .inr q
        | some d =>
          rw [e] at q
          dsimp only at q
          rw [List.lookup_cons] at q
          cases ex : (x == n) with
          | true =>
            rw [ex] at q
            have : x = n := by simpa using ex
            subst this
            exact .inl (e.trans q)
          | false => rw [ex] at q; exact .inr q
      · exact .inr q
theorem clOf_of {scope : Scope} {env : Env} {x : Str} {c : Addr} (h : (clOf scope env).lookup x = some c) : env.cells.lookup x = some c := by
  rcases clGo_of _ _ _ _ h with q | q
  · exact q
  · cases q
theorem clGo_has {cells : List (Str × Addr)} : ∀ (names : List (Str × NameKind)) (cs : List (Str × Addr)) (x : Str) (c : Addr), cells.lookup x = some c → ((x, NameKind.free) ∈ names ∨ cs.lookup x = some c) → (clGo names cells cs).lookup x = some c
  | [], cs, x, c, _, h => by
    rcases h with h | h
    · cases h
    · exact h
  | (n, k) :: r, cs, x, c, hc, h => by
    unfold clGo
    refine clGo_has r _ x c hc ?_
    by_cases hx : (x, NameKind.free) ∈ r
    · exact .inl hx
    · refine .inr ?_
      rcases h with h | h
      · have e : (x, NameKind.free) = (n, k) := (List.mem_cons.mp h).resolve_right hx
        cases e
        rw [if_pos (by rfl), hc]
        dsimp only
        rw [List.lookup_cons]
        simp
      · split
        · cases e : cells.lookup n with
          | none => exact h
          | some d =>
            dsimp only
            rw [List.lookup_cons]
            cases ex : (x == n) with
            | true =>
              have : x = n := by simpa using ex
              subst this
              rw [hc] at e; cases e; rfl
            | false => exact h
        · exact h
theorem clOf_has {scope : Scope} {env : Env} {x : Str} {c : Addr} (hc : env.cells.lookup x = some c) (h : (x, NameKind.free) ∈ scope.names) : (clOf scope env).lookup x = some c :=
  clGo_has _ _ _ _ hc (.inl h)
theorem relabel_of {env : Env} : ∀ {names : List (Str × NameKind)} {x : Str} {k : NameKind},
    (names.map fun (n, k) => if (k == NameKind.free && env.scope.kind == .function && env.kindOf n == some .cell) then (n, NameKind.cell) else (n, k)).lookup x = some k →
    names.lookup x = some k ∨ (names.lookup x = some .free ∧ k = .cell)
  | [], _, _, h => by simp at h
  | (n, j) :: r, x, k, h => by
    have ih := @relabel_of env r x k
    rw [List.map_cons] at h
    dsimp only at h
    cases hx : x == n with
    | true =>
      rw [List.lookup_cons, hx]
      by_cases hc : (j == NameKind.free && env.scope.kind == .function && env.kindOf n == some .cell) = true
      · rw [if_pos hc, List.lookup_cons, hx] at h
        cases h
        have hj : j = .free := by
          rw [Bool.and_eq_true, Bool.and_eq_true] at hc
          simpa using hc.1.1
        exact .inr ⟨by rw [hj], rfl⟩
      · rw [if_neg hc, List.lookup_cons, hx] at h
        exact .inl h
    | false =>
      rw [List.lookup_cons, hx]
      apply ih
      by_cases hc : (j == NameKind.free && env.scope.kind == .function && env.kindOf n == some .cell) = true
      · rw [if_pos hc, List.lookup_cons, hx] at h
        exact h
      · rw [if_neg hc, List.lookup_cons, hx] at h
        exact h
theorem kind_block {scope : Scope} {cl : List (Str × Addr)} {C : Addr} {env : Env} {x : Str} {k : NameKind} (h : (compEnvC scope cl C env).kindOf x = some k) : scope.names.lookup x = some k ∨ (scope.names.lookup x = some .free ∧ k = .cell) :=
  relabel_of h
structure CompSc (X : Cx) (Nc : List Str) (js : List (Option Nat)) (scope : Scope) : Prop where
  kind : scope.kind = .function
  nocell : ∀ y ∈ scope.names, y.2 ≠ .cell
  names : ∀ y ∈ scope.names, y.2 = .local → scope.names.lookup y.1 = some .local
  free : ∀ y ∈ scope.names, y.2 = .free → X.env.kindOf y.1 = some .cell ∨ X.env.kindOf y.1 = some .free
  out : ∀ (i : Nat) (x : Str) (j : Nat), Nc[i]? = some x → js[i]? = some (some j) → X.N[j]? = some x ∧ scope.names.lookup x = some .free
  len : js.length = Nc.length
noncomputable def inSt (js : List (Option Nat)) (σ : St) : St := js.map fun j => match j with | some j => (match σ[j]? with | some v => v | none => none) | none => none
noncomputable def cxComp (X : Cx) (Nc : List Str) (scope : Scope) (pins : List (Addr × Obj)) (fp : List Addr) (H : Hp) (s : Shared) (C : Addr) : Cx where
  prog := X.prog
  w := X.w
  K := X.K
  mg := X.mg
  base := X.base
  A := X.A
  N := Nc
  s₀ := s
  H₀ := H
  env := compEnvC scope (clOf scope X.env) C X.env
  outer := X.stack
  stack := X.stack
  ex := fp
  fn := fun _ => false
  calm := true
  pn := X.pn ++ pins
  xe := fun _ _ => False
section
variable {X : Cx} {pins : List (Addr × Obj)} {σ : St} {H : Hp} {s : Shared} {Nc : List Str} {js : List (Option Nat)} {scope : Scope} {fp : List Addr}
theorem mem_names_of {names : List (Str × NameKind)} {x : Str} {k : NameKind} (h : names.lookup x = some k) : (x, k) ∈ names := PySem.mem_of_lookup h
theorem inv_comp (I : Inv X pins σ H s) (hc : X.calm = true) (S : CompSc X Nc js scope) (hf : ∀ b ∈ fp, FpOk X pins H b) (hfo : ∀ b ∈ fp, b < s.heap.objs.size) {h1 : Heap} {tk : Nat} {C : Addr} (hC : s.heap.objs.size < C)
    (hk : ∀ b o, s.heap.get? b = some o → h1.get? b = some o) (hn : h1.Ns C (fun _ => none)) (hd : h1.get? s.heap.objs.size = some { cls := .type "list", data := .seq ([] : List Value).toArray 0 }) :
    Inv (cxComp X Nc scope pins fp H s C) [] (inSt js σ) (upd H s.heap.objs.size (.lst [])) { s with heap := h1, toks := tk } := by
  have fr0 : H s.heap.objs.size = none := I.hok.fresh (Nat.le_refl _)
  have frC : H C = none := I.hok.fresh (Nat.le_of_lt hC)
  have ltc : ∀ x c, X.env.cells.lookup x = some c → c < s.heap.objs.size := fun x c e => by
    obtain ⟨v, q⟩ := I.cell x c e
    exact q.lt
  have cells : ∀ x c, (cxComp X Nc scope pins fp H s C).env.cells.lookup x = some c → X.env.cells.lookup x = some c := fun x c e => clOf_of e
  have hasO : ∀ x, X.env.kindOf x = some .cell ∨ X.env.kindOf x = some .free → ∃ c, X.env.cells.lookup x = some c := I.ok.has
  refine ⟨⟨I.ok.mod, S.kind, I.ok.glob, I.ok.blt, Nat.le_of_lt hC, fun x y c e1 e2 => I.ok.inj x y c (cells x c e1) (cells y c e2), fun x hx => ?_, fun x c z => (nomatch z), fun _ => I.ok.hd hc, I.ok.frames, .inl rfl, fun b hb => ?_,
    I.bs, Nat.le_trans I.ok.bsz I.sz, fun b o e hb => ?_, fun b hb z => ?_, I.stack, I.stkFree⟩, rfl, I.bare, ?_, ⟨_, hn, fun i x v e1 e2 e3 => ?_⟩, fun x c e => ?_, ?_, fun x c e => ?_, fun p hp => ?_, ?_, ?_⟩
  · -- has
    have hfree : scope.names.lookup x = some .free := by
      rcases hx with hx | hx
      · rcases kind_block hx with q | q
        · exact absurd rfl (S.nocell _ (mem_names_of q))
        · exact q.1
      · rcases kind_block hx with q | q
        · exact q
        · exact q.1
    obtain ⟨c, hcx⟩ := hasO x (S.free _ (mem_names_of hfree) rfl)
    exact ⟨c, clOf_has hcx (mem_names_of hfree)⟩
  · -- exf
    obtain ⟨f0, f1, f2, f3, f4, f5⟩ := hf b hb
    exact ⟨Nat.ne_of_lt (Nat.lt_trans (hfo b hb) hC), fun x c e => f4 x c (cells x c e)⟩
  · -- noex
    obtain ⟨f0, f1, f2, f3, f4, f5⟩ := hf b hb
    rcases f3 with z | z
    · exact I.ok.noex b o e z
    · exact absurd (Nat.lt_of_lt_of_le (Heap.lt_size e) (Nat.le_trans I.ok.bsz z)) (Nat.lt_irrefl _)
  · -- exfs
    obtain ⟨f0, f1, f2, f3, f4, f5⟩ := hf b hb
    rcases List.mem_cons.mp (I.stkSub b z) with e | e
    · exact f1 e
    · exact f2 e
  · -- base
    exact Un.laid hk (Nat.le_refl _) fr0
  · -- loc
    have e2' : (inSt js σ)[i]? = some (some v) := e2
    unfold inSt at e2'
    rw [List.getElem?_map] at e2'
    cases ej : js[i]? with
    | none => rw [ej] at e2'; cases e2'
    | some oj =>
      rw [ej] at e2'
      cases oj with
      | none => cases e2'
      | some j =>
        obtain ⟨hNj, hfr⟩ := S.out i x j e1 ej
        have hσ : σ[j]? = some (some v) := by
          cases q : σ[j]? with
          | none => simp [q] at e2'
          | some w =>
            simp only [q, Option.map_some, Option.some.injEq] at e2'
            rw [e2']
        have hkO := S.free _ (mem_names_of hfr) rfl
        have hVis : Vis X.env.scope x := by
          rcases hkO with q | q
          · exact .inr (.inl q)
          · exact .inr (.inr q)
        obtain ⟨m, _, hl⟩ := I.loc
        obtain ⟨u, r, l⟩ := hl j x v hNj hσ hVis
        refine ⟨u, r, ?_⟩
        rcases l with ⟨hk', _⟩ | ⟨_, c, hcx, hcell⟩
        · rcases hkO with q | q
          · rw [show X.env.kindOf x = some .cell from q] at hk'; cases hk'
          · rw [show X.env.kindOf x = some .free from q] at hk'; cases hk'
        · refine .inr ⟨?_, c, clOf_has hcx (mem_names_of hfr), ?_⟩
          · rcases e3 with q | q
            · rcases kind_block (C := C) (cl := clOf scope X.env) (env := X.env) (show (compEnvC scope (clOf scope X.env) C X.env).kindOf x = some .local from q) with z | z
              · rw [hfr] at z; cases z
              · cases z.2
            · exact q
          · obtain ⟨o, ho, hdd⟩ := hcell
            exact ⟨o, hk _ _ ho, hdd⟩
  · -- cell
    obtain ⟨v, o, ho, hdd⟩ := I.cell x c (cells x c e)
    exact ⟨v, o, hk _ _ ho, hdd⟩
  · -- free
    show upd H s.heap.objs.size (.lst []) C = none
    rw [upd_ne (Nat.ne_of_gt hC)]
    exact frC
  · -- freeC
    have e' := cells x c e
    rw [upd_ne (Nat.ne_of_lt (ltc x c e'))]
    exact I.freeC x c e'
  · -- pin
    have hp' : p ∈ X.pn ++ pins := by
      have q : p ∈ (X.pn ++ pins) ++ [] := hp
      simpa using q
    obtain ⟨q1, q2, q3, q4, q5⟩ := I.pin p hp'
    have lt1 := Heap.lt_size q1
    refine ⟨hk _ _ q1, ?_, Nat.ne_of_lt (Nat.lt_trans lt1 hC), fun z => ?_, q5⟩
    · rw [upd_ne (Nat.ne_of_lt lt1)]; exact q2
    · rcases List.mem_cons.mp (I.stkSub _ z) with e | e
      · exact q3 e
      · exact q4 e
  · -- hok
    exact I.hok.laid hk (Nat.le_refl _) ⟨Nat.zero_le _, [], 0, .nil, hd⟩
  · show (inSt js σ).length = Nc.length
    unfold inSt
    rw [List.length_map]
    exact S.len
theorem inv_out {H' : Hp} {s' : Shared} {h' : Heap} {C : Addr} {σ' : St} {pins' : List (Addr × Obj)} (I : Inv X pins σ H s) (hf : ∀ b ∈ fp, FpOk X pins H b) (hC : s.heap.objs.size < C)
    (J : Inv (cxComp X Nc scope pins fp H s C) pins' σ' H' s') (hs : Heap.SameBut C s'.heap h') : Inv X pins σ H' { s' with heap := h' } := by
  have hCn : H' C = none := J.free
  have ne : ∀ b o, s.heap.get? b = some o → b ≠ C := fun b o e => Nat.ne_of_lt (Nat.lt_trans (Heap.lt_size e) hC)
  have U : Un (frs X.stack) fp H H' s.heap s'.heap := J.base
  have hok : HOk X.prog X.w H' h' := fun b ob e => by
    refine (J.hok b ob e).stay (fun c w' hc q => (hs.2 c ?_).trans q) (fun _ q => q) fun _ _ q => q
    rintro rfl
    rcases hc with rfl | hc
    · rw [hCn] at e; cases e
    · rw [hCn] at hc; cases hc
  refine I.call' (s' := { s' with heap := h' }) (ch := fp) J.os ⟨fun b o e n hb hx => ?_, fun b o e n hb hx => ?_, U.free, fun b o e hx => ?_, U.tups, U.frzs, U.tbls⟩ hok J.bare fun b hb => ?_
  · exact (hs.2 b (ne b o e)).trans (U.keep b o e n hb hx)
  · obtain ⟨sl, q⟩ := U.slot b o e n hb hx
    exact ⟨sl, (hs.2 b (ne b o e)).trans q⟩
  · obtain ⟨o', q⟩ := U.there b o e hx
    exact ⟨o', (hs.2 b (ne b o e)).trans q⟩
  · obtain ⟨f0, f1, f2, f3, f4, f5⟩ := hf b hb
    exact ⟨f3, f1, f4, f5⟩
end
section
variable {prog : Program} {w : World} {A : Around} {R : Result → Shared → Prop} {s : Shared}
noncomputable abbrev testsOf (ifs : List Expr) (env : Env) : Sem Bool := forIn ifs true fun c r => if r = true then do let ok ← isTrue c env (eval c env); pure (ForInStep.yield ok) else pure (ForInStep.yield r)
theorem comp_turns {elt target iter : Expr} {ifs : List Expr} {scope : Scope} {pos : Pos} {it acc : Value} {env : Env} (J : Nat → Shared → Prop)
    (turn : ∀ n s, J n s → wpAny (model prog w) A (pyNext it) (fun r s1 => match r with
      | none => R (.ok .next) s1
      | some v => wpAny (model prog w) A (letOwnedTupleGo target it v) (fun _ s1' => wpAny (model prog w) A (assign target env v) (fun _ s2 =>
          wpAny (model prog w) A (testsOf ifs env) (fun ok s3 =>
            if ok = true then wpAny (model prog w) A (eval elt env) (fun x s4 =>
              wpAny (model prog w) A (call (.builtin "list.append") [acc, x]) (fun _ s5 => ∃ m, m < n ∧ J m s5) (fun _ _ => False) s4) (fun _ _ => False) s3
            else ∃ m, m < n ∧ J m s3) (fun _ _ => False) s2) (fun _ _ => False) s1') (fun _ _ => False) s1) (fun _ _ => False) s)
    (n : Nat) (h : J n s) :
    codeAny (model prog w) A (.compLoop (.ListComp elt [⟨target, iter, ifs, 0⟩] scope pos) 0 it acc env) R s := by
  have no : ∀ {E : Value → Shared → Prop} (x : Value) (s' : Shared), False → E x s' := fun _ _ f => f.elim
  refine codeAny_loop rfl J (fun n s hJ => ?_) n h
  show wpAny _ A ((compTurn (.ListComp elt [⟨target, iter, ifs, 0⟩] scope pos) 0 it acc env).onRaise (fun x => do noteFrame x env; theTreesLotGoes x)) _ _ s
  refine wpAny_noted ?_
  rw [compTurn_list]
  refine wpAny_bind (wpAny_standAt (wpAny_bind (wpAny_mono (turn n s hJ) (fun r s1 h1 => ?_) no)))
  cases r with
  | none => exact wpAny_pure h1
  | some v =>
    refine wpAny_bind (wpAny_mono h1 (fun _ s1' h1' => ?_) no)
    refine wpAny_bind (wpAny_mono h1' (fun _ s2 h2 => wpAny_bind (wpAny_mono h2 (fun ok s3 h3 => ?_) no)) no)
    cases ok with
    | false => exact wpAny_pure ⟨rfl, h3⟩
    | true =>
      exact wpAny_bind (wpAny_bind (wpAny_mono h3 (fun x s4 h4 => wpAny_bind (wpAny_mono h4 (fun _ s5 h5 => wpAny_pure (wpAny_pure ⟨rfl, h5⟩)) no)) no))
end
noncomputable def PIfs (X : Cx) (ifs : List Expr) (t : TT) : Prop :=
  ∀ (pins : List (Addr × Obj)) (s : Shared) (σ : St) (H : Hp) (Q : Bool → Hp → Prop), Inv X pins σ H s → t σ H Q → wpAny (model X.prog X.w) X.A (testsOf ifs X.env) (TP X pins σ Q) X.xe s
noncomputable def tYes : TT := fun _ H Q => Q true H
theorem pif0 {X : Cx} : PIfs X [] tYes := fun _ _ σ H _ I h => wpAny_tests_nil ⟨H, I, h⟩
theorem pif1 {X : Cx} {c : Expr} {t : TT} (h : PT X c t) : PIfs X [c] t := fun pins s σ H Q I q => wpAny_tests_one (h pins s σ H Q I q)
noncomputable def tComp (js : List (Option Nat)) (wi : TI) (g : TG) (tc : TT) (te : TE) : TE := fun σ H Q => wi σ H fun J H1 => ∀ D, H1 D = none →
  ∃ W : Nat → Nat → St → Hp → Prop, (∃ m, W 0 m (inSt js σ) (upd H1 D (.lst []))) ∧ ∀ i m σ' H', W i m σ' H' →
    (J.stop i H' ∧ Q (.ref D) H') ∨ (J.go i H' ∧ ∃ N : St → Hp → Prop, (∀ σ2 H2, N σ2 H2 → ∃ m', m' < m ∧ W (i + 1) m' σ2 H2) ∧
      ∀ x H2, J.yld i H' x H2 → g x σ' H2 fun σ3 H3 => tc σ3 H3 fun b H4 => if b = true then te σ3 H4 (fun v H5 => ∃ xs, H5 D = some (.lst xs) ∧ xs.length < sizeLine ∧ N σ3 (upd H5 D (.lst (xs ++ [v])))) else N σ3 H4)
section
variable {X : Cx} {tg elt iter : Expr} {ifs : List Expr} {scope : Scope} {pos : Pos} {Nc : List Str} {js : List (Option Nat)} {wi : TI} {g : TG} {tc : TT} {te : TE}
theorem comp_block {pins : List (Addr × Obj)} {σ : St} {H2 : Hp} {s2 : Shared} {it : Addr} {fp : List Addr} {tn : Nat → Heap → Prop} {J : It} {Qd : Hp → Prop} {RR : Value → Addr → Result → Shared → Prop}
    (hc : X.calm = true) (S : CompSc X Nc js scope)
    (hb : ∀ pins fp H s C, PG (cxComp X Nc scope pins fp H s C) tg g ∧ PIfs (cxComp X Nc scope pins fp H s C) ifs tc ∧ PE (cxComp X Nc scope pins fp H s C) elt te)
    (I2 : Inv X pins σ H2 s2) (T : Turn X.prog X.w X.K tg J fp it tn) (st2 : tn 0 s2.heap) (f2 : ∀ b ∈ fp, FpOk X pins H2 b)
    (h2 : ∃ W : Nat → Nat → St → Hp → Prop, (∃ m, W 0 m (inSt js σ) (upd H2 s2.heap.objs.size (.lst []))) ∧ ∀ i m σ' H', W i m σ' H' →
      (J.stop i H' ∧ Qd H') ∨ (J.go i H' ∧ ∃ N : St → Hp → Prop, (∀ σ2 H2, N σ2 H2 → ∃ m', m' < m ∧ W (i + 1) m' σ2 H2) ∧
        ∀ x H2, J.yld i H' x H2 → g x σ' H2 fun σ3 H3 => tc σ3 H3 fun b H4 => if b = true then te σ3 H4 (fun v H5 => ∃ xs, H5 s2.heap.objs.size = some (.lst xs) ∧ xs.length < sizeLine ∧ N σ3 (upd H5 s2.heap.objs.size (.lst (xs ++ [v])))) else N σ3 H4))
    (hRR : ∀ C σ' H' s', s2.heap.objs.size < C → Inv (cxComp X Nc scope pins fp H2 s2 C) [] σ' H' s' → Qd H' → RR (.ref s2.heap.objs.size) C (.ok .next) s') :
    wpAny (model X.prog X.w) X.A (newList []) (fun acc s3 => wpAny (model X.prog X.w) X.A (newFunctionEnv scope X.env.globals (clOf scope X.env) [] X.env.qual none .none (some X.env)) (fun cenv s4 =>
      codeAny (model X.prog X.w) X.A (.compStart (.ListComp elt [⟨tg, iter, ifs, 0⟩] scope pos) 0 (.ref it) acc { cenv with scope := relabel scope X.env }) (RR acc cenv.locals) s4) X.xe s3) X.xe s2 := by
  have fpo : ∀ b ∈ fp, b < s2.heap.objs.size := fun b hb => by
    obtain ⟨o, ho, _⟩ := T.obj 0 _ st2 b hb
    exact Heap.lt_size ho
  refine wpAny_newObj_type (wpAny_newFunctionEnv S.nocell (by intro y hy; simp at hy) (fun h₁ hns hsb => ?_) S.kind)
  dsimp only at hns hsb ⊢
  generalize hH2 : s2.heap.push { cls := .type "list", dict := none, data := .seq ([] : List Value).toArray } = hp at hns hsb ⊢
  have hCs : hp.objs.size = s2.heap.objs.size + 1 := by rw [← hH2, Heap.size_push]
  have hC : s2.heap.objs.size < hp.objs.size := by rw [hCs]; exact Nat.lt_succ_self _
  have old : ∀ b o, s2.heap.get? b = some o → h₁.get? b = some o := fun b o e =>
    hsb.extBut b o (Nat.ne_of_lt (Nat.lt_trans (Heap.lt_size e) hC)) (Heap.get?_push_of_some _ (hH2 ▸ Heap.get?_push_of_some _ e))
  have hD : h₁.get? s2.heap.objs.size = some { cls := .type "list", data := .seq ([] : List Value).toArray 0 } :=
    hsb.extBut _ _ (Nat.ne_of_lt hC) (Heap.get?_push_of_some _ (hH2 ▸ Heap.get?_push_size _ rfl))
  obtain ⟨W, ⟨m0, w0⟩, turn⟩ := h2
  generalize hXc : cxComp X Nc scope pins fp H2 s2 hp.objs.size = Xc
  obtain ⟨hg, hifs, helt⟩ := hb pins fp H2 s2 hp.objs.size
  have e1 : Xc.prog = X.prog := by rw [← hXc]; rfl
  have I3 : ∀ tk, Inv Xc [] (inSt js σ) (upd H2 s2.heap.objs.size (.lst [])) { s2 with heap := h₁, toks := tk } := fun tk => by
    rw [← hXc]
    exact inv_comp I2 hc S f2 fpo hC old hns hD
  have st3 : tn 0 h₁ := T.keep 0 _ _ st2 fun b hb o e => old b o e
  have fpx : ∀ {H' : Hp}, (∀ b ∈ fp, H' b = none) → ∀ b ∈ fp, FpOk Xc [] H' b := fun {H'} hn b hb => by
    obtain ⟨f0, f1, f2', f3, f4, f5⟩ := f2 b hb
    rw [← hXc]
    refine ⟨hn b hb, Nat.ne_of_lt (Nat.lt_trans (fpo b hb) hC), fun z => ?_, .inl hb, fun x c e => f4 x c (clOf_of e), fun p hp => ?_⟩
    · rcases List.mem_cons.mp (I2.stkSub b z) with e | e
      · exact f1 e
      · exact f2' e
    · have hp' : p ∈ (X.pn ++ pins) ++ [] := hp
      exact f5 p (by simpa using hp')
  rw [hXc] at hg hifs helt
  have ea : Xc.A = X.A := by rw [← hXc]; rfl
  have ew : Xc.w = X.w := by rw [← hXc]; rfl
  have eK : Xc.K = X.K := by rw [← hXc]; rfl
  have ec : Xc.calm = true := by rw [← hXc]; rfl
  have ex : Xc.xe = fun _ _ => False := by rw [← hXc]; rfl
  have ee : Xc.env = compEnvC scope (clOf scope X.env) hp.objs.size X.env := by rw [← hXc]; rfl
  have loop : ∀ s3 : Shared, Inv Xc [] (inSt js σ) (upd H2 s2.heap.objs.size (.lst [])) s3 → tn 0 s3.heap →
      codeAny (model X.prog X.w) X.A (.compLoop (.ListComp elt [⟨tg, iter, ifs, 0⟩] scope pos) 0 (.ref it) (.ref s2.heap.objs.size) (compEnvC scope (clOf scope X.env) hp.objs.size X.env))
        (RR (.ref s2.heap.objs.size) hp.objs.size) s3 := by
    intro s3 J3 tn3
    refine comp_turns (fun n s' => ∃ i σ' H', Inv Xc [] σ' H' s' ∧ tn i s'.heap ∧ (∀ b ∈ fp, H' b = none) ∧ W i n σ' H') ?_ m0 ⟨0, _, _, J3, tn3, fun b hb => ?_, w0⟩
    · rintro n s4 ⟨i, σ4, H4, I4, st4, fr4, w4⟩
      rcases turn i n σ4 H4 w4 with ⟨stop, qn⟩ | ⟨go, N, hN, step⟩
      · have q0 := T.done Xc e1 ew eK ec i [] s4 σ4 H4 (fun _ _ => False) I4 (fpx fr4) st4 stop
        rw [ea] at q0
        refine thn q0 fun r s5 ⟨hr, I5⟩ => ?_
        subst hr
        have I5' : Inv (cxComp X Nc scope pins fp H2 s2 hp.objs.size) [] σ4 H4 s5 := by rw [hXc]; exact I5
        exact hRR _ _ _ _ hC I5' qn
      · have q0 := T.item Xc e1 ew eK ec i [] s4 σ4 H4 (fun _ _ => False) I4 (fpx fr4) st4 go
        rw [ea] at q0
        refine thn q0 fun r s5 ⟨u, hr, h5⟩ => ?_
        subst hr
        dsimp only
        refine thn h5 fun _ s6 ⟨x, H6, I6, r6, y6, st6, fr6⟩ => ?_
        have I6' := I6.pinned (fpx fr6) (T.obj _ _ st6)
        have q1 := hg _ s6 σ4 H6 x u _ I6' r6 (step x H6 y6)
        rw [e1, ew, ea, ex, ee] at q1
        refine thn q1 fun _ s7 ⟨σ7, H7, I7, q7⟩ => ?_
        have q2 := hifs _ s7 σ7 H7 _ I7 q7
        rw [e1, ew, ea, ex, ee] at q2
        refine thn q2 fun ok s8 ⟨H8, I8, q8⟩ => ?_
        have fin : ∀ {s9 : Shared} {σ9 : St} {H9 : Hp}, Inv Xc ([] ++ pinsAt fp s6.heap) σ9 H9 s9 → N σ9 H9 → ∃ m, m < n ∧ ∃ i σ' H', Inv Xc [] σ' H' s9 ∧ tn i s9.heap ∧ (∀ b ∈ fp, H' b = none) ∧ W i m σ' H' := fun {s9 σ9 H9} I9 n9 => by
          obtain ⟨m', hm, w9⟩ := hN σ9 H9 n9
          refine ⟨m', hm, i + 1, σ9, H9, I9.unpinned, T.keep _ _ _ st6 fun b hb o e => (I9.pin (b, o) (List.mem_append_right _ (List.mem_append_right _ (mem_pinsAt hb e)))).1, fun b hb => ?_, w9⟩
          obtain ⟨o, e, d⟩ := T.obj _ _ st6 b hb
          exact (I9.pin (b, o) (List.mem_append_right _ (List.mem_append_right _ (mem_pinsAt hb e)))).2.1
        cases ok with
        | false =>
          rw [if_neg Bool.false_ne_true] at q8 ⊢
          exact fin I8 q8
        | true =>
          rw [if_pos rfl] at q8 ⊢
          have q3 := helt _ s8 σ7 H8 _ I8 q8
          rw [e1, ew, ea, ex, ee] at q3
          refine thn q3 fun y s9 ⟨v9, H9, I9, r9, xs, hxs, hlen, q9⟩ => ?_
          have q4 := mt_append _ s9 σ7 H9 (.ref s2.heap.objs.size) [v9] (.ref s2.heap.objs.size) [y] (fun _ H10 => H10 = upd H9 s2.heap.objs.size (.lst (xs ++ [v9]))) I9 rfl (.cons r9 .nil) ⟨_, xs, v9, rfl, rfl, hxs, hlen, rfl⟩
          rw [e1, ew, ea, ex] at q4
          refine thn q4 fun _ s10 ⟨_, H10, I10, _, e10⟩ => ?_
          subst e10
          exact fin I10 q9
    · by_cases hbd : b = s2.heap.objs.size
      · exact absurd (fpo b hb) (by rw [hbd]; exact Nat.lt_irrefl _)
      · rw [upd_ne hbd]
        exact (f2 b hb).1
  exact codeAny_compStart_list (loop _ (I3 _) st3) (T.self _ 0 _ _ _ st3 (loop _ (I3 _) st3))
theorem pe_comp (hc : X.calm = true) (hi : PI X tg iter wi) (S : CompSc X Nc js scope)
    (hb : ∀ pins fp H s C, PG (cxComp X Nc scope pins fp H s C) tg g ∧ PIfs (cxComp X Nc scope pins fp H s C) ifs tc ∧ PE (cxComp X Nc scope pins fp H s C) elt te)
    (hs : ∀ x, foldedSetIterable iter X.env x = pure x := by intro _; rfl) :
    PE X (.ListComp elt [⟨tg, iter, ifs, 0⟩] scope pos) (tComp js wi g tc te) := by
  intro pins s σ H Q I h
  rw [eval_ListComp]
  have hcl : ∀ y ∈ scope.names, y.2 = .free → ∃ c, X.env.cells.lookup y.1 = some c := fun y hy e => I.ok.has y.1 (S.free y hy e)
  refine wpAny_comprehension_free (use := none) rfl hs (closure_of hcl) S.kind S.names (thn (hi pins s σ H _ I h) fun v s1 h1 => thn h1 fun itv s2 h2 => ?_)
  obtain ⟨it, fp, tn, J, H2, e, I2, T, st2, f2, h2⟩ := h2
  subst e
  have hDn : H2 s2.heap.objs.size = none := I2.hok.fresh (Nat.le_refl _)
  refine comp_block (RR := fun acc C => compPost (model X.prog X.w) X.A X.xe none (EP X pins σ Q) acc C) (Qd := fun H' => Q (.ref s2.heap.objs.size) H') hc S hb I2 T st2 f2 (h2 s2.heap.objs.size hDn) fun C σ' H' s' hC J' q => ?_
  obtain ⟨mm, hm, _⟩ := J'.loc
  exact ⟨mm, hm, fun h' hs' => ⟨.ref s2.heap.objs.size, H', inv_out I2 f2 hC J' hs', rfl, q⟩⟩
theorem ps_setC {i : Nat} {y : Str} {py spos : Pos} (hc : X.calm = true) (hN : X.N.Nodup) (hiN : X.N[i]? = some y) (hy : X.env.scope.names.lookup y = some .local) (hi : PI X tg iter wi) (S : CompSc X Nc js scope)
    (hb : ∀ pins fp H s C, PG (cxComp X Nc scope pins fp H s C) tg g ∧ PIfs (cxComp X Nc scope pins fp H s C) ifs tc ∧ PE (cxComp X Nc scope pins fp H s C) elt te)
    (hsw : swapsWith (.ListComp elt [⟨tg, iter, ifs, 0⟩] scope pos) (some (.Name y py)) spos.line X.env = pure true := by rfl)
    (hs : ∀ x, foldedSetIterable iter X.env x = pure x := by intro _; rfl) :
    PS X (.Assign [.Name y py] (.ListComp elt [⟨tg, iter, ifs, 0⟩] scope pos) spos) (tAsg (tComp js wi g tc te) (gName i)) := by
  intro pins s σ H D I h
  rw [exec_Assign_Name_used _ _ _ _ hsw]
  have hcl : ∀ y ∈ scope.names, y.2 = .free → ∃ c, X.env.cells.lookup y.1 = some c := fun y hy e => I.ok.has y.1 (S.free y hy e)
  refine wpAny_bind (wpAny_standAt (wpAny_bind ?_))
  show wpAny _ X.A (do let _ ← comprehension (.ListComp elt [⟨tg, iter, ifs, 0⟩] scope pos) scope X.env _ (newList []) false (eval iter X.env) (some (assign (.Name y py) X.env))) _ _ s
  refine wpAny_bind (wpAny_mono (wpAny_comprehension_free (use := some (assign (.Name y py) X.env)) (Q := fun _ s' => SP X pins D .next s') rfl hs (closure_of hcl) S.kind S.names
    (thn (hi pins s σ H _ I h) fun v s1 h1 => thn h1 fun itv s2 h2 => ?_)) (fun _ s' hq => wpAny_pure (wpAny_pure hq)) fun _ _ e => e)
  obtain ⟨it, fp, tn, J, H2, e, I2, T, st2, f2, h2⟩ := h2
  subst e
  have hDn : H2 s2.heap.objs.size = none := I2.hok.fresh (Nat.le_refl _)
  refine comp_block (RR := fun acc C => compPost (model X.prog X.w) X.A X.xe (some (assign (.Name y py) X.env)) (fun _ s' => SP X pins D .next s') acc C) (Qd := fun H' => D.nx (σ.set i (some (.ref s2.heap.objs.size))) H') hc S hb I2 T st2 f2 (h2 s2.heap.objs.size hDn) fun C σ' H' s' hC J' q => ?_
  have Iy : Inv X pins σ H' s' := inv_out (h' := s'.heap) I2 f2 hC J' (Heap.SameBut.refl _ _)
  obtain ⟨mm, hm, _⟩ := J'.loc
  have hm : s'.heap.Ns C mm := hm
  show wpAny _ X.A (assign (.Name y py) X.env (.ref s2.heap.objs.size)) _ _ s'
  have sz : X.s₀.heap.objs.size ≤ C := Nat.le_of_lt (Nat.lt_of_le_of_lt I2.sz hC)
  have neL : C ≠ X.env.locals := Nat.ne_of_gt (Nat.lt_trans I2.lt hC)
  have neC : ∀ x c, X.env.cells.lookup x = some c → c ≠ C := fun x c e => by
    obtain ⟨v, z⟩ := I2.cell x c e
    exact Nat.ne_of_lt (Nat.lt_trans z.lt hC)
  refine wpAny_assign_Name (store_ok2 Iy hN hiN (.inl hy) (v := .ref s2.heap.objs.size) rfl (fun s'' I'' ⟨a, hsb, ha⟩ => ?_) (.inr hy))
  have neA : C ≠ a := by
    rcases ha with z | z
    · rw [z]; exact neL
    · exact Ne.symm (neC _ _ z)
  refine ⟨mm, hm.sameBut hsb neA, fun h' hs' => ?_⟩
  have hCn : H' C = none := J'.free
  refine ⟨σ.set i (some (.ref s2.heap.objs.size)), H', ?_, q⟩
  refine I''.turned (it := C) (t' := s''.toks) (fun b o hb e => (hs'.2 b hb).trans e) hCn neL (.inr sz) neC fun p hp => ?_
  exact Nat.ne_of_lt (Nat.lt_trans (Heap.lt_size (I2.pin p hp).1) hC)
end
noncomputable def compChk (N : List Str) (sc : Scope) (Nc : List Str) (js : List (Option Nat)) (scope : Scope) : Bool :=
  decide (js.length = Nc.length) && (scope.kind == .function) && scope.names.all (fun y => y.2 != .cell) && scope.names.all (fun y => y.2 != .local || scope.names.lookup y.1 == some .local) &&
  scope.names.all (fun y => y.2 != .free || sc.names.lookup y.1 == some .cell || sc.names.lookup y.1 == some .free) &&
  (List.range Nc.length).all (fun i => match js[i]?, Nc[i]? with | some (some j), some x => N[j]? == some x && scope.names.lookup x == some .free | _, _ => true)
theorem compSc_of {X : Cx} {Nc : List Str} {js : List (Option Nat)} {scope : Scope} {N : List Str} {sc : Scope} (hN : X.N = N) (hs : X.env.scope = sc) (h : compChk N sc Nc js scope = true) : CompSc X Nc js scope := by
  unfold compChk at h
  simp only [Bool.and_eq_true, decide_eq_true_eq, List.all_eq_true, Bool.or_eq_true, bne_iff_ne, ne_eq, beq_iff_eq] at h
  obtain ⟨⟨⟨⟨⟨h1, h2⟩, h3⟩, h4⟩, h5⟩, h6⟩ := h
  refine ⟨h2, fun y hy => h3 y hy, fun y hy e => ?_, fun y hy e => ?_, fun i x j e1 e2 => ?_, h1⟩
  · rcases h4 y hy with z | z
    · exact absurd e z
    · exact z
  · rcases h5 y hy with (z | z) | z
    · exact absurd e z
    · exact .inl (by show X.env.scope.names.lookup y.1 = _; rw [hs]; exact z)
    · exact .inr (by show X.env.scope.names.lookup y.1 = _; rw [hs]; exact z)
  · have hi : i < Nc.length := (List.getElem?_eq_some_iff.mp e1).1
    have q := h6 i (List.mem_range.mpr hi)
    rw [e1, e2] at q
    simp only [Bool.and_eq_true, beq_iff_eq] at q
    rw [hN]
    exact q
noncomputable def isB (T c : String) : Bool := T == c || (T == "bool" && c == "int")
theorem kit_isB (K : PySem.W.Frag) : ∀ T ∈ ["NoneType", "bool", "int", "str", "list", "tuple"], ∀ c ∈ ["bool", "int", "str", "list", "tuple"], PySem.W.kitOne K (.type T) (.type c) = some (isB T c) := by
  intro T hT c hc
  simp only [List.mem_cons, List.not_mem_nil, or_false] at hT hc
  rcases hT with rfl | rfl | rfl | rfl | rfl | rfl <;> rcases hc with rfl | rfl | rfl | rfl | rfl <;> rfl
section
variable {X : Cx}
theorem bools_are : ∀ {bs : List Bool} {us : List Value}, Vals (bs.map V.bl) us → ∀ (i : Nat) (v : Value), us[i]? = some v → ∃ b, bs[i]? = some b ∧ v = .bool b
  | [], _, .nil, i, v, h => by simp at h
  | b :: bs, _, .cons r t, 0, v, h => by
    simp at h; subst h
    exact ⟨b, rfl, r⟩
  | b :: bs, _, .cons r t, i + 1, v, h => by
    obtain ⟨b', e, q⟩ := bools_are (bs := bs) t i v (by simpa using h)
    exact ⟨b', by simpa using e, q⟩
theorem call_allB (hc : X.calm = true) : CallR X (.builtin "all") (fun xs H Q => ∃ (p : Addr) (bs : List Bool), xs = [.ref p] ∧ SqL X.K H p (bs.map V.bl) ∧ Q (.bl (bs.all id)) H) := by
  intro pins s σ H xs us Q I r h
  obtain ⟨p, bs, rfl, hp, q⟩ := h
  obtain ⟨u, rfl, ru⟩ := vals1 r
  cases (show u = Value.ref p from ru)
  obtain ⟨its, hv, pl, hz⟩ := I.list hp
  have hl := pl.isList
  have hlt : p < s.heap.objs.size := by obtain ⟨_, e, _⟩ := id hl; exact Heap.lt_size e
  refine call_all_walk (wpAny_pyIter_list hl ?_)
  refine ⟨s.heap.objs.size, [s.heap.objs.size, p], [s.heap.objs.size], its.toArray.size, _, _, fun i => (bs[i]?).getD true, rfl, Walks.list (A := X.A.in1) (I.ok.hd hc) _ p (Nat.ne_of_lt hlt) its.toArray,
    ⟨⟨_, Heap.get?_push_size _ rfl, rfl, rfl⟩, hl.push _⟩, fun i v s' Q' E' hP hQ => ?_, fun h' tk hk => ?_⟩
  · obtain ⟨b, e, rfl⟩ := bools_are hv i v (by simpa using hP)
    simp only [e, Option.getD_some] at hQ
    exact wpAny_truthy_bool hQ
  · have e : ((List.range its.toArray.size).all fun i => (bs[i]?).getD true) = bs.all id := by
      rw [List.size_toArray, ← hv.length, List.length_map]; exact LSm.range_all bs
    rw [e]
    exact ⟨.bl _, H, I.kept (t' := tk) (LSm.kept_iter hk), rfl, q⟩
theorem op_mulB : OpR X (binaryOp .Mult) (rI IntMulOk fun i j => .int (i * j)) := opI fun _ _ _ _ _ _ _ hc q => mul_int q hc
end
theorem bt_int : bootBuiltins "int" = some (.type "int") := by decide +kernel
theorem bt_bool : bootBuiltins "bool" = some (.type "bool") := by decide +kernel
theorem bt_tuple : bootBuiltins "tuple" = some (.type "tuple") := by decide +kernel
theorem bt_len : bootBuiltins "len" = some (.builtin "len") := by decide +kernel
theorem bt_isinstance : bootBuiltins "isinstance" = some (.builtin "isinstance") := by decide +kernel
theorem bt_all : bootBuiltins "all" = some (.builtin "all") := by decide +kernel
theorem bt_abs : bootBuiltins "abs" = some (.builtin "abs") := by decide +kernel
theorem bt_min : bootBuiltins "min" = some (.builtin "min") := by decide +kernel
theorem bt_max : bootBuiltins "max" = some (.builtin "max") := by decide +kernel
theorem bt_sorted : bootBuiltins "sorted" = some (.builtin "sorted") := by decide +kernel
section
variable {X : Cx} {pos : Pos}
theorem pty_int (hg : Gl X "int") (hm : X.mg "int" = none) : PE X (.Name "int" pos) (tC (.ty "int")) := pe_bltn (v := .ty "int") hg hm bt_int rfl
theorem pty_bool (hg : Gl X "bool") (hm : X.mg "bool" = none) : PE X (.Name "bool" pos) (tC (.ty "bool")) := pe_bltn (v := .ty "bool") hg hm bt_bool rfl
theorem pty_tuple (hg : Gl X "tuple") (hm : X.mg "tuple" = none) : PE X (.Name "tuple" pos) (tC (.ty "tuple")) := pe_bltn (v := .ty "tuple") hg hm bt_tuple rfl
theorem pe_gint {x : Str} {i : Int} (hg : Gl X x) (hm : ∃ tk, X.mg x = some (.int i tk)) (hd : (x == ("__debug__" : Str)) = false := by decide) : PE X (.Name x pos) (tC (.int i)) := by
  obtain ⟨tk, hm⟩ := hm
  exact pe_glob (v := .int i) hg hm ⟨tk, rfl⟩ hd
end
noncomputable def plainE : Expr → Bool
  | .Starred .. => false
  | _ => true
theorem star_plain {e : Expr} {es : List Expr} {env : Env} (h : plainE e = true) : starEach (e :: es) env = (false, eval e env) :: starEach es env := by
  cases e <;> first | (cases h; done) | rfl
theorem star_any {pos : Pos} {env : Env} : ∀ {es : List Expr}, es.all plainE = true → (backTo pos (starEach es env)).any (·.1) = false
  | [], _ => rfl
  | e :: es, h => by
    rw [List.all_cons, Bool.and_eq_true] at h
    have ih := star_any (pos := pos) (env := env) (es := es) h.2
    rw [star_plain h.1]
    exact ih
section
variable {X : Cx} {e : Expr} {es : List Expr} {te : TE} {t : TA} {pos p : Pos} {x : Str} {id T : String} {r : List V → Hp → VK → Prop}
theorem pac (hs : plainE e = true) (ha : PE X e te) (hr : PA X es t) : PA X (e :: es) (tCons te t) := pa_cons ha hr (star_plain hs)
theorem pcb (hp : (e :: es).all plainE = true) (hn : x ≠ "__name__") (hdb : (x == ("__debug__" : Str)) = false) (hc : CallR X (.builtin id) r) (hg : Gl X x) (hm : X.mg x = none) (hv : bootBuiltins x = some (.builtin id)) (ha : PA X (e :: es) t) :
    PE X (.Call (.Name x p) (e :: es) [] pos) (tCB r t) := by
  rw [List.all_cons, Bool.and_eq_true] at hp
  exact pe_callB hc hg hm hv ha hn hdb (star_plain hp.1) (star_any hp.2)
theorem pct (hp : (e :: es).all plainE = true) (hn : x ≠ "__name__") (hdb : (x == ("__debug__" : Str)) = false) (hc : CallR X (.type T) r) (hg : Gl X x) (hm : X.mg x = none) (hv : bootBuiltins x = some (.type T)) (ha : PA X (e :: es) t) :
    PE X (.Call (.Name x p) (e :: es) [] pos) (tCB r t) := by
  rw [List.all_cons, Bool.and_eq_true] at hp
  exact pe_callTy hc hg hm hv ha hn hdb (star_plain hp.1) (star_any hp.2)
variable {CX : CXT} {k : Nat} {f : Addr} {fd : FuncData} {ps : List Str} {sp : Sp} {ds : List Value} {dvs : List V} {E : XK}
theorem pcl (hp : (e :: es).all plainE = true) (hdb : (x == ("__debug__" : Str)) = false) (F : FnOk X.prog X.w X.K X.mg X.base CX k f fd ps sp) (hr : Room k X.A) (hg : Gl X x) (hm : X.mg x = some (.ref f)) (hk : PySem.W.keepIn X.K (.ref f) = true) (hb : Binds X.K fd ps ds) (hd : Vals dvs ds) (hx : Passes CX X E)
    (ha : PA X (e :: es) t) : PE X (.Call (.Name x p) (e :: es) [] pos) (tCall sp dvs E t) := by
  rw [List.all_cons, Bool.and_eq_true] at hp
  exact pe_call F hr hg hm hk hb hd hx ha hdb (star_plain hp.1) (star_any hp.2)
end
section
variable {X : Cx} {e : Expr} {es : List Expr} {te : TE} {pos p pos' : Pos} {x : Str} {i : Nat}
theorem xrange1 {tg a : Expr} {ta : TA} (hp : plainE a = true) (hg : Gl X "range") (hm : X.mg "range" = none) (ha : PA X [a] ta) : PI X tg (.Call (.Name "range" p) [a] [] pos) (iRng1 ta) := pi_range1 hg hm ha (star_plain hp)
end
theorem Same.new {H : Hp} {a : Addr} {o : HO} (h : H a = none) : Same H (upd H a o) := fun b u e => by rw [upd_ne (ne_of_none e h)]; exact e
theorem small_line {n : Nat} (h : n ≤ 1000) : n ≤ sizeLine := Nat.le_of_lt (small1000 h)
structure WE (X : Cx) (e : Expr) (t : TE) : Prop where
  h : PE X e t
structure WA (X : Cx) (es : List Expr) (t : TA) : Prop where
  h : PA X es t
theorem range_min (m n : Nat) (p : Nat → Bool) : ((List.range (min (m + 1) (n + 1))).all p) = (p 0 && (List.range (min m n)).all fun j => p (j + 1)) := by
  rw [Nat.add_min_add_right, List.range_succ_eq_map, List.all_cons, List.all_map]
  rfl
section
variable {X : Cx} {pins : List (Addr × Obj)} {σ : St} {H : Hp} {s : Shared}
theorem Vals.get2 {xs : List V} {us : List Value} {j : Nat} {u : Value} (r : Vals xs us) (e : us[j]? = some u) : ∃ x, xs[j]? = some x ∧ RelV x u := by
  have hl := r.length
  have hj : j < us.length := (List.getElem?_eq_some_iff.mp e).1
  have hx : xs[j]? = some (xs[j]'(by omega)) := List.getElem?_eq_getElem (by omega)
  obtain ⟨u', e', q⟩ := r.get hx
  rw [e] at e'; cases e'
  exact ⟨_, hx, q⟩
theorem arr_get {its : List Value} {j : Nat} (h : j < its.toArray.size) : its[j]? = some its.toArray[j] := by
  have h' : j < its.length := by simpa using h
  rw [List.getElem?_eq_getElem h']
  simp
end
section
variable {X : Cx}
theorem star_all {pos : Pos} {env : Env} : ∀ {es : List Expr}, es.all plainE = true → (backTo pos (starEach es env)).all (fun x => !x.1) = true
  | [], _ => rfl
  | e :: es, h => by
    rw [List.all_cons, Bool.and_eq_true] at h
    have ih := star_all (pos := pos) (env := env) (es := es) h.2
    rw [star_plain h.1]
    exact ih
variable {o e : Expr} {es : List Expr} {to : TE} {t : TA} {name : Str} {apos cpos : Pos} {T id : String} {r : V → List V → Hp → VK → Prop}
theorem wbm (hp : (e :: es).all plainE = true) (hlen : (e :: es).length < 29) (hline : (apos.endLine == cpos.line) = true) (hbase : attributeBase o name X.env (eval o X.env) = eval o X.env)
    (pa : PlainAttrs T) (slot : Slot T name id) (hty : typeOf (.builtin id) = pure (.type "method_descriptor")) (hm : MtR X id r) (ho : WE X o to) (ha : WA X (e :: es) t) : WE X (.Call (.Attribute o name apos) (e :: es) [] cpos) (tBM X.K T r to t) := by
  have hp' := hp
  rw [List.all_cons, Bool.and_eq_true] at hp'
  refine ⟨pe_bm pa slot hty hm ho.h ha.h hbase ?_ hline (star_plain hp'.1) (star_any hp'.2)⟩
  rw [star_all hp]
  simp only [keywordEach, backToKw, List.all_nil, Bool.true_and, decide_eq_true_eq, List.length_nil, List.isEmpty_nil, if_true]
  first
    | (simp only [List.map_nil, List.all_nil, Bool.true_and, decide_eq_true_eq]; omega)
    | omega
end
inductive D where
  | non | bl (b : Bool) | int (i : Int) | str (x : Str) | ty (n : String)
  | tup (l : List D) | lst (l : List D) | scr (ns : List Int) | dK (ks : List Key) (l : List D) | dT (ks : List (List Key)) (l : List D) | fz (o : Obj) (u : HO) | fK (o : Obj) (ks : List Key) (l : List D) | fT (o : Obj) (ks : List (List Key)) (l : List D) | t2 (l m : List D) (a b : Addr)
noncomputable def ScrAt (K : PySem.W.Frag) (H : Hp) (a : Addr) (ns : List Int) : Prop := (∃ o, H a = some (.frz o (.lst (ns.map V.int)))) ∨
  ∃ (o : Obj) (its : Array Value) (n : Nat), K.lookup a = some o ∧ o.cls = .type "list" ∧ o.dict = none ∧ o.data = .seq its n ∧ its.size ≤ sizeLine ∧ Vals (ns.map V.int) its.toList
theorem ScrAt.sq {K : PySem.W.Frag} {H : Hp} {a : Addr} {ns : List Int} (h : ScrAt K H a ns) : SqL K H a (ns.map V.int) := by
  rcases h with ⟨o, h⟩ | h
  · exact .inl (.inr ⟨o, h⟩)
  · exact .inr h
section
variable (K : PySem.W.Frag) (S : Addr → Prop) (H : Hp)
mutual
noncomputable def Rep : D → V → Prop
  | .non, v => v = .non
  | .bl b, v => v = .bl b
  | .int i, v => v = .int i
  | .str x, v => v = .str x
  | .ty n, v => v = .ty n
  | .tup l, v => ∃ a vs, v = .ref a ∧ SqT K H a vs ∧ Reps l vs
  | .lst l, v => ∃ a vs, v = .ref a ∧ ¬ S a ∧ Rd H a (.lst vs) ∧ Reps l vs
  | .scr ns, v => ∃ a, v = .ref a ∧ ScrAt K H a ns
  | .fz o u, v => ∃ a, v = .ref a ∧ H a = some (.frz o u)
  | .fK o ks l, v => ∃ a kvs, v = .ref a ∧ H a = some (.frz o (.dK kvs)) ∧ kvs.map (·.1) = ks ∧ Reps l (kvs.map (·.2))
  | .fT o ks l, v => ∃ a kvs, v = .ref a ∧ H a = some (.frz o (.dU kvs)) ∧ kvs.map (·.1) = ks ∧ (∀ e ∈ kvs, SqT K H e.2.1 (e.1.map kV)) ∧ Reps l (kvs.map (·.2.2))
  | .t2 l m a b, v => ∃ a0 vs, v = .ref a0 ∧ a0 = a ∧ SqT K H a vs ∧ Reps l vs ∧ ∃ ws, SqT K H b ws ∧ Reps m ws
  | .dK ks l, v => ∃ a kvs, v = .ref a ∧ ¬ S a ∧ Rd H a (.dK kvs) ∧ kvs.map (·.1) = ks ∧ Reps l (kvs.map (·.2))
  | .dT ks l, v => ∃ a kvs, v = .ref a ∧ ¬ S a ∧ Rd H a (.dU kvs) ∧ kvs.map (·.1) = ks ∧ (∀ e ∈ kvs, SqT K H e.2.1 (e.1.map kV)) ∧ Reps l (kvs.map (·.2.2))
noncomputable def Reps : List D → List V → Prop
  | [], vs => vs = []
  | d :: ds, vs => ∃ v r, vs = v :: r ∧ Rep d v ∧ Reps ds r
end
noncomputable def Own : Nat → List Addr → D → V → Prop
  | 0, fp, d, v => fp = [] ∧ Rep K S H d v
  | n + 1, fp, d, v => ∃ (a : Addr) (fps : List (List Addr)), v = .ref a ∧ fp = a :: fps.flatten ∧ (
      (∃ l vs, d = .lst l ∧ H a = some (.lst vs) ∧ fps.length = l.length ∧ vs.length = l.length ∧ ∀ (i : Nat) (f : List Addr) (x : D) (u : V), fps[i]? = some f → l[i]? = some x → vs[i]? = some u → Own n f x u) ∨
      (∃ ks l kvs, d = .dK ks l ∧ H a = some (.dK kvs) ∧ kvs.map (·.1) = ks ∧ fps.length = l.length ∧ kvs.length = l.length ∧ ∀ (i : Nat) (f : List Addr) (x : D) (u : V), fps[i]? = some f → l[i]? = some x → (kvs.map (·.2))[i]? = some u → Own n f x u) ∨
      (∃ ks l kvs, d = .dT ks l ∧ H a = some (.dU kvs) ∧ (kvs.map (·.1) = ks ∧ ∀ e ∈ kvs, SqT K H e.2.1 (e.1.map kV)) ∧ fps.length = l.length ∧ kvs.length = l.length ∧ ∀ (i : Nat) (f : List Addr) (x : D) (u : V), fps[i]? = some f → l[i]? = some x → (kvs.map (·.2.2))[i]? = some u → Own n f x u))
end
noncomputable def isM : HO → Prop
  | .lst _ => True
  | .dK _ => True
  | .dU _ => True
  | _ => False
noncomputable def uni (S O : Addr → Prop) : Addr → Prop := fun a => S a ∨ O a
structure Step (O O' : Addr → Prop) (H H' : Hp) : Prop where
  keep : ∀ b o, ¬ O b → H b = some o → H' b = some o
  own : ∀ a, O' a → O a ∨ H a = none
  dom : ∀ b, H b ≠ none → H' b ≠ none
theorem Step.refl (O : Addr → Prop) (H : Hp) : Step O O H H := ⟨fun _ _ _ h => h, fun _ h => .inl h, fun _ h => h⟩
theorem Step.trans {O O1 O2 : Addr → Prop} {H H1 H2 : Hp} (a : Step O O1 H H1) (b : Step O1 O2 H1 H2) : Step O O2 H H2 := by
  refine ⟨fun c o n h => b.keep c o (fun z => ?_) (a.keep c o n h), fun c z => ?_, fun c h => b.dom c (a.dom c h)⟩
  · rcases a.own c z with q | q
    · exact n q
    · rw [q] at h; cases h
  · rcases b.own c z with q | q
    · exact a.own c q
    · right
      cases e : H c with
      | none => rfl
      | some o => exact absurd q (a.dom c (by rw [e]; simp))
theorem Step.of_same {O : Addr → Prop} {H H' : Hp} (h : Same H H') : Step O O H H' := ⟨fun b o _ e => h b o e, fun _ z => .inl z, fun b e => by
  cases q : H b with
  | none => exact absurd q e
  | some o => rw [h b o q]; simp⟩
theorem Rd.some {H : Hp} {a : Addr} {u : HO} (h : Rd H a u) : ∃ o, H a = some o := by
  rcases h with h | ⟨o, h⟩ <;> exact ⟨_, h⟩
section
variable {K : PySem.W.Frag} {S S' : Addr → Prop} {H H' : Hp}
structure Goes (S S' : Addr → Prop) (H H' : Hp) : Prop where
  tup : ∀ a xs, Rd H a (.tup xs) → Rd H' a (.tup xs)
  obj : ∀ a u, ¬ S a → Rd H a u → Rd H' a u ∧ ¬ S' a
  frz : ∀ a o u, H a = some (.frz o u) → H' a = some (.frz o u)
mutual
theorem Rep.go (g : Goes S S' H H') : ∀ (d : D) (v : V), Rep K S H d v → Rep K S' H' d v
  | .non, v, h => by simpa only [Rep] using h
  | .bl b, v, h => by simpa only [Rep] using h
  | .int i, v, h => by simpa only [Rep] using h
  | .str x, v, h => by simpa only [Rep] using h
  | .ty n, v, h => by simpa only [Rep] using h
  | .tup l, v, h => by
    simp only [Rep] at h ⊢
    obtain ⟨a, vs, e, q, r⟩ := h
    refine ⟨a, vs, e, ?_, Reps.go g l vs r⟩
    rcases q with q | q
    · exact .inl (g.tup _ _ q)
    · exact .inr q
  | .lst l, v, h => by
    simp only [Rep] at h ⊢
    obtain ⟨a, vs, e, n, q, r⟩ := h
    obtain ⟨q1, q2⟩ := g.obj _ _ n q
    exact ⟨a, vs, e, q2, q1, Reps.go g l vs r⟩
  | .t2 l m a b, v, h => by
    simp only [Rep] at h ⊢
    obtain ⟨a0, vs, e1, e2, q1, r1, ws, q2, r2⟩ := h
    refine ⟨a0, vs, e1, e2, ?_, Reps.go g l vs r1, ws, ?_, Reps.go g m ws r2⟩
    · rcases q1 with q | q
      · exact .inl (g.tup _ _ q)
      · exact .inr q
    · rcases q2 with q | q
      · exact .inl (g.tup _ _ q)
      · exact .inr q
  | .fz o u, v, h => by
    simp only [Rep] at h ⊢
    obtain ⟨a, e, q⟩ := h
    exact ⟨a, e, g.frz _ _ _ q⟩
  | .fK o ks l, v, h => by
    simp only [Rep] at h ⊢
    obtain ⟨a, vs, e, q, k, r⟩ := h
    exact ⟨a, vs, e, g.frz _ _ _ q, k, Reps.go g l _ r⟩
  | .fT o ks l, v, h => by
    simp only [Rep] at h ⊢
    obtain ⟨a, vs, e, q, k, z, r⟩ := h
    refine ⟨a, vs, e, g.frz _ _ _ q, k, fun e he => ?_, Reps.go g l _ r⟩
    rcases z e he with w | w
    · exact .inl (g.tup _ _ w)
    · exact .inr w
  | .scr ns, v, h => by
    simp only [Rep] at h ⊢
    obtain ⟨a, e, q⟩ := h
    refine ⟨a, e, ?_⟩
    rcases q with ⟨o, q⟩ | q
    · exact .inl ⟨o, g.frz _ _ _ q⟩
    · exact .inr q
  | .dK ks l, v, h => by
    simp only [Rep] at h ⊢
    obtain ⟨a, vs, e, n, q, k, r⟩ := h
    obtain ⟨q1, q2⟩ := g.obj _ _ n q
    exact ⟨a, vs, e, q2, q1, k, Reps.go g l _ r⟩
  | .dT ks l, v, h => by
    simp only [Rep] at h ⊢
    obtain ⟨a, vs, e, n, q, k, z, r⟩ := h
    obtain ⟨q1, q2⟩ := g.obj _ _ n q
    refine ⟨a, vs, e, q2, q1, k, fun e he => ?_, Reps.go g l _ r⟩
    rcases z e he with w | w
    · exact .inl (g.tup _ _ w)
    · exact .inr w
theorem Reps.go (g : Goes S S' H H') : ∀ (l : List D) (vs : List V), Reps K S H l vs → Reps K S' H' l vs
  | [], vs, h => by simpa only [Reps] using h
  | d :: l, vs, h => by
    simp only [Reps] at h ⊢
    obtain ⟨v, r, e, h1, h2⟩ := h
    exact ⟨v, r, e, Rep.go g d v h1, Reps.go g l r h2⟩
end
theorem Goes.same (h : Same H H') : Goes S S H H' := by
  refine ⟨fun a xs q => ?_, fun a u n q => ⟨?_, n⟩, fun a o u q => h _ _ q⟩ <;>
  · rcases q with q | ⟨o, q⟩
    · exact .inl (h _ _ q)
    · exact .inr ⟨o, h _ _ q⟩
theorem Goes.less (h : ∀ a, S' a → S a) : Goes S S' H H := ⟨fun _ _ q => q, fun a _ n q => ⟨q, fun z => n (h a z)⟩, fun _ _ _ q => q⟩
theorem Goes.step {S0 O O' : Addr → Prop} (hm : ∀ a, O a → ∃ o, H a = some o ∧ isM o) (s : Step O O' H H') : Goes (uni S0 O) (uni S0 O') H H' := by
  refine ⟨fun a xs q => ?_, fun a u n q => ?_, fun a o u q => s.keep _ _ (fun z => by obtain ⟨o', e, m⟩ := hm a z; rw [q] at e; cases e; exact m) q⟩
  · have nO : ¬ O a := fun z => by
      obtain ⟨o, e, m⟩ := hm a z
      rcases q with q | ⟨o', q⟩ <;> (rw [q] at e; cases e; exact m)
    rcases q with q | ⟨o, q⟩
    · exact .inl (s.keep _ _ nO q)
    · exact .inr ⟨o, s.keep _ _ nO q⟩
  · have nO : ¬ O a := fun z => n (.inr z)
    refine ⟨?_, fun z => ?_⟩
    · rcases q with q | ⟨o, q⟩
      · exact .inl (s.keep _ _ nO q)
      · exact .inr ⟨o, s.keep _ _ nO q⟩
    · rcases z with z | z
      · exact n (.inl z)
      · rcases s.own a z with w | w
        · exact nO w
        · obtain ⟨o, e⟩ := q.some; rw [w] at e; cases e
theorem Goes.fresh {p : Addr} {o : HO} (hp : H p = none) : Goes S (uni S (· = p)) H (upd H p o) := by
  refine ⟨fun a xs q => ?_, fun a u n q => ?_, fun a o u q => by rw [upd_ne (ne_of_none q hp)]; exact q⟩
  · obtain ⟨_, e⟩ := q.some
    have ne : a ≠ p := by rintro rfl; rw [hp] at e; cases e
    rcases q with q | ⟨o, q⟩
    · exact .inl (by rw [upd_ne ne]; exact q)
    · exact .inr ⟨o, by rw [upd_ne ne]; exact q⟩
  · obtain ⟨_, e⟩ := q.some
    have ne : a ≠ p := by rintro rfl; rw [hp] at e; cases e
    refine ⟨?_, fun z => z.elim n ne⟩
    rcases q with q | ⟨o, q⟩
    · exact .inl (by rw [upd_ne ne]; exact q)
    · exact .inr ⟨o, by rw [upd_ne ne]; exact q⟩
theorem Goes.upd {p : Addr} {o o' : HO} (hp : H p = some o') (m : isM o') (hS : S p) : Goes S S H (upd H p o) := by
  refine ⟨fun a xs q => ?_, fun a u n q => ⟨?_, n⟩, fun a o u q => by rw [upd_ne (by rintro rfl; rw [hp] at q; cases q; exact m)]; exact q⟩
  · have ne : a ≠ p := by rintro rfl; rcases q with q | ⟨_, q⟩ <;> (rw [hp] at q; cases q; exact m)
    rcases q with q | ⟨o, q⟩
    · exact .inl (by rw [upd_ne ne]; exact q)
    · exact .inr ⟨o, by rw [upd_ne ne]; exact q⟩
  · have ne : a ≠ p := by rintro rfl; exact n hS
    rcases q with q | ⟨o, q⟩
    · exact .inl (by rw [upd_ne ne]; exact q)
    · exact .inr ⟨o, by rw [upd_ne ne]; exact q⟩
theorem Own.go (g : Goes S S' H H') : ∀ (n : Nat) (fp : List Addr) (d : D) (v : V), (∀ a ∈ fp, ∀ o, H a = some o → H' a = some o) → Own K S H n fp d v → Own K S' H' n fp d v
  | 0, fp, d, v, _, h => by
    simp only [Own] at h ⊢
    exact ⟨h.1, Rep.go g d v h.2⟩
  | n + 1, fp, d, v, hk, h => by
    simp only [Own] at h ⊢
    obtain ⟨a, fps, rfl, rfl, h⟩ := h
    have sub : ∀ (i : Nat) (f : List Addr), fps[i]? = some f → ∀ b ∈ f, ∀ o, H b = some o → H' b = some o := fun i f e b hb => hk b (List.mem_cons_of_mem _ (List.mem_flatten.mpr ⟨f, List.mem_of_getElem? e, hb⟩))
    refine ⟨a, fps, rfl, rfl, ?_⟩
    rcases h with ⟨l, vs, rfl, e, h1, h2, h3⟩ | ⟨ks, l, kvs, rfl, e, h0, h1, h2, h3⟩ | ⟨ks, l, kvs, rfl, e, h0, h1, h2, h3⟩
    · exact .inl ⟨l, vs, rfl, hk a (by simp) _ e, h1, h2, fun i f x u e1 e2 e3 => Own.go g n f x u (sub i f e1) (h3 i f x u e1 e2 e3)⟩
    · exact .inr (.inl ⟨ks, l, kvs, rfl, hk a (by simp) _ e, h0, h1, h2, fun i f x u e1 e2 e3 => Own.go g n f x u (sub i f e1) (h3 i f x u e1 e2 e3)⟩)
    · exact .inr (.inr ⟨ks, l, kvs, rfl, hk a (by simp) _ e, ⟨h0.1, fun e he => (h0.2 e he).imp (g.tup _ _) id⟩, h1, h2, fun i f x u e1 e2 e3 => Own.go g n f x u (sub i f e1) (h3 i f x u e1 e2 e3)⟩)
theorem Reps.of_all : ∀ (l : List D) (vs : List V), vs.length = l.length → (∀ (i : Nat) (x : D) (u : V), l[i]? = some x → vs[i]? = some u → Rep K S H x u) → Reps K S H l vs
  | [], vs, h, _ => by simp only [Reps]; exact List.length_eq_zero_iff.mp (by simpa using h)
  | d :: l, [], h, _ => by simp at h
  | d :: l, v :: r, h, q => by
    simp only [Reps]
    exact ⟨v, r, rfl, q 0 d v rfl rfl, Reps.of_all l r (by simpa using h) fun i x u e1 e2 => q (i + 1) x u (by simpa using e1) (by simpa using e2)⟩
theorem Reps.len : ∀ {l : List D} {vs : List V}, Reps K S H l vs → vs.length = l.length
  | [], vs, h => by simp only [Reps] at h; rw [h]; rfl
  | d :: l, vs, h => by
    simp only [Reps] at h
    obtain ⟨v, r, rfl, _, h⟩ := h
    simp [Reps.len h]
theorem Reps.get : ∀ {l : List D} {vs : List V} {i : Nat} {x : D}, Reps K S H l vs → l[i]? = some x → ∃ u, vs[i]? = some u ∧ Rep K S H x u
  | [], vs, i, x, h, e => by simp at e
  | d :: l, vs, 0, x, h, e => by
    simp only [Reps] at h
    obtain ⟨v, r, rfl, h1, _⟩ := h
    simp at e; subst e
    exact ⟨v, rfl, h1⟩
  | d :: l, vs, i + 1, x, h, e => by
    simp only [Reps] at h
    obtain ⟨v, r, rfl, _, h⟩ := h
    obtain ⟨u, e1, e2⟩ := Reps.get (i := i) h (by simpa using e)
    exact ⟨u, by simpa using e1, e2⟩
theorem Reps.get' {l : List D} {vs : List V} {i : Nat} {u : V} (h : Reps K S H l vs) (e : vs[i]? = some u) : ∃ x, l[i]? = some x ∧ Rep K S H x u := by
  have hi : i < l.length := by rw [← h.len]; exact (List.getElem?_eq_some_iff.mp e).1
  obtain ⟨u', e1, e2⟩ := h.get (List.getElem?_eq_getElem hi)
  rw [e] at e1; cases e1
  exact ⟨_, List.getElem?_eq_getElem hi, e2⟩
theorem Own.rep : ∀ (n : Nat) (fp : List Addr) (d : D) (v : V), (∀ a ∈ fp, ¬ S' a) → (∀ a, S' a → S a) → Own K S H n fp d v → Rep K S' H d v
  | 0, fp, d, v, _, hs, h => by
    simp only [Own] at h
    exact Rep.go (.less hs) d v h.2
  | n + 1, fp, d, v, hk, hs, h => by
    simp only [Own] at h
    obtain ⟨a, fps, rfl, rfl, h⟩ := h
    have sub : ∀ (i : Nat) (f : List Addr), fps[i]? = some f → ∀ b ∈ f, ¬ S' b := fun i f e b hb => hk b (List.mem_cons_of_mem _ (List.mem_flatten.mpr ⟨f, List.mem_of_getElem? e, hb⟩))
    have fget : ∀ {m : Nat} {i : Nat}, fps.length = m → i < m → ∃ f, fps[i]? = some f := fun e hi => ⟨_, List.getElem?_eq_getElem (by omega)⟩
    rcases h with ⟨l, vs, rfl, e, h1, h2, h3⟩ | ⟨ks, l, kvs, rfl, e, h0, h1, h2, h3⟩ | ⟨ks, l, kvs, rfl, e, h0, h1, h2, h3⟩
    · simp only [Rep]
      refine ⟨a, vs, rfl, hk a (by simp), .inl e, Reps.of_all l vs h2 fun i x u e2 e3 => ?_⟩
      obtain ⟨f, e1⟩ := fget h1 (List.getElem?_eq_some_iff.mp e2).1
      exact Own.rep n f x u (sub i f e1) hs (h3 i f x u e1 e2 e3)
    · simp only [Rep]
      refine ⟨a, kvs, rfl, hk a (by simp), .inl e, h0, Reps.of_all l _ (by simpa using h2) fun i x u e2 e3 => ?_⟩
      obtain ⟨f, e1⟩ := fget h1 (List.getElem?_eq_some_iff.mp e2).1
      exact Own.rep n f x u (sub i f e1) hs (h3 i f x u e1 e2 e3)
    · simp only [Rep]
      refine ⟨a, kvs, rfl, hk a (by simp), .inl e, h0.1, h0.2, Reps.of_all l _ (by simpa using h2) fun i x u e2 e3 => ?_⟩
      obtain ⟨f, e1⟩ := fget h1 (List.getElem?_eq_some_iff.mp e2).1
      exact Own.rep n f x u (sub i f e1) hs (h3 i f x u e1 e2 e3)
end
inductive SK where
  | cl | ow (n : Nat) | lo | io (n : Nat)
  deriving DecidableEq
noncomputable def dep : SK → Option Nat
  | .ow n => some n
  | .io n => some n
  | _ => none
noncomputable def kd (κ : List SK) (i : Nat) : SK := κ.getD i .cl
structure G0 where
  S0 : Addr → Prop
  O0 : Addr → Prop
  H0 : Hp
  ps : St
  gh : List (D × V)
noncomputable abbrev EnvD := List (Option D)
noncomputable def fpS (fp : List Addr) : Addr → Prop := fun a => a ∈ fp
noncomputable def G0.plus (G : G0) (fp : List Addr) : G0 := { G with S0 := uni G.S0 (fpS fp) }
section
variable (K : PySem.W.Frag)
noncomputable def SlotOk (S0 O : Addr → Prop) (H : Hp) (f : List Addr) : SK → D → V → Prop
  | .cl, d, v => Rep K (uni S0 O) H d v
  | .ow n, d, v => Own K (uni S0 O) H n f d v
  | .lo, d, v => Rep K S0 H d v
  | .io n, d, v => Own K (uni S0 O) H n f d v
structure EnvF (κ : List SK) (G : G0) (O : Addr → Prop) (ρ : EnvD) (σ : St) (H : Hp) (F : Nat → List Addr) : Prop where
  len : ρ.length = σ.length
  own : ∀ a, O a ↔ ∃ i, a ∈ F i
  non : ∀ i, dep (kd κ i) = none → F i = []
  dis : ∀ i j a, a ∈ F i → a ∈ F j → i = j
  nd : ∀ i, (F i).Nodup
  mu : ∀ i a, a ∈ F i → ¬ G.S0 a ∧ ∃ o, H a = some o ∧ isM o
  new : ∀ i a, a ∈ F i → ((∃ n, kd κ i = .io n) ∧ G.O0 a) ∨ G.H0 a = none
  par : ∀ i n, kd κ i = .io n → σ[i]? = G.ps[i]?
  gh : ∀ p ∈ G.gh, Rep K (uni G.S0 O) H p.1 p.2
  s0 : ∀ a, G.S0 a → H a ≠ none
  keep : ∀ b o, ¬ G.O0 b → G.H0 b = some o → H b = some o
  dom : ∀ b, G.H0 b ≠ none → H b ≠ none
  slot : ∀ i d, ρ[i]? = some (some d) → ∃ v, σ[i]? = some (some v) ∧ SlotOk K G.S0 O H (F i) (kd κ i) d v
noncomputable def EnvOk (κ : List SK) (G : G0) (O : Addr → Prop) (ρ : EnvD) (σ : St) (H : Hp) : Prop := ∃ F, EnvF K κ G O ρ σ H F
noncomputable def VOk (S0 O' : Addr → Prop) (H H' : Hp) (fp : List Addr) : SK → D → V → Prop
  | .cl, d, v => fp = [] ∧ Rep K (uni S0 O') H' d v
  | .lo, d, v => fp = [] ∧ Rep K S0 H' d v
  | .ow n, d, v => fp.Nodup ∧ (∀ a ∈ fp, H a = none ∧ ¬ O' a ∧ ∃ o, H' a = some o ∧ isM o) ∧ Own K (uni (uni S0 (fpS fp)) O') H' n fp d v
  | .io _, _, _ => False
noncomputable abbrev DTE := EnvD → (D → EnvD → Prop) → Prop
noncomputable abbrev DTT := EnvD → (Bool → EnvD → Prop) → Prop
noncomputable abbrev DTA := EnvD → (List D → EnvD → Prop) → Prop
noncomputable def Pu (pu : Bool) (ρ ρ' : EnvD) (O O' : Addr → Prop) (H H' : Hp) : Prop := pu = true → Same H H' ∧ ρ' = ρ ∧ O' = O
noncomputable def tD (κ : List SK) (pu : Bool) (md : SK) (E : DTE) : TE := fun σ H Q => ∃ G O ρ q, EnvOk K κ G O ρ σ H ∧ E ρ q ∧
  ∀ v H' d ρ' O' fp, Step O O' H H' → EnvOk K κ (G.plus fp) O' ρ' σ H' → VOk K G.S0 O' H H' fp md d v → Pu pu ρ ρ' O O' H H' → q d ρ' → Q v H'
noncomputable def tDT (κ : List SK) (pu : Bool) (E : DTT) : TT := fun σ H Q => ∃ G O ρ q, EnvOk K κ G O ρ σ H ∧ E ρ q ∧
  ∀ b H' ρ' O', Step O O' H H' → EnvOk K κ G O' ρ' σ H' → Pu pu ρ ρ' O O' H H' → q b ρ' → Q b H'
end
structure DE (X : Cx) (κ : List SK) (pu : Bool) (md : SK) (e : Expr) (E : DTE) : Prop where
  h : PE X e (tD X.K κ pu md E)
structure DT (X : Cx) (κ : List SK) (pu : Bool) (e : Expr) (E : DTT) : Prop where
  h : PT X e (tDT X.K κ pu E)
structure DW (X : Cx) (κ : List SK) (pu : Bool) (e : Expr) (E : DTT) : Prop where
  h : PW X e (tDT X.K κ pu E)
theorem PE.weak {X : Cx} {e : Expr} {t t' : TE} (h : PE X e t) (w : ∀ σ H Q, t' σ H Q → t σ H Q) : PE X e t' := fun pins s σ H Q I q => h pins s σ H Q I (w σ H Q q)
theorem PT.weak {X : Cx} {e : Expr} {t t' : TT} (h : PT X e t) (w : ∀ σ H Q, t' σ H Q → t σ H Q) : PT X e t' := fun pins s σ H Q I q => h pins s σ H Q I (w σ H Q q)
theorem PW.weak {X : Cx} {e : Expr} {t t' : TT} (h : PW X e t) (w : ∀ σ H Q, t' σ H Q → t σ H Q) : PW X e t' := fun wh pins s σ H Q I q => h wh pins s σ H Q I (w σ H Q q)
section
variable {K : PySem.W.Frag} {κ : List SK} {G : G0} {O O' : Addr → Prop} {ρ ρ' : EnvD} {σ : St} {H H' : Hp} {S0 : Addr → Prop}
theorem plus_nil (G : G0) : G.plus [] = G := by
  have e : uni G.S0 (fpS []) = G.S0 := by
    funext a
    simp [uni, fpS]
  unfold G0.plus
  rw [e]
theorem EnvOk.mutO (h : EnvOk K κ G O ρ σ H) : ∀ a, O a → ∃ o, H a = some o ∧ isM o := fun a z => by
  obtain ⟨F, f⟩ := h
  obtain ⟨i, hi⟩ := (f.own a).mp z
  exact (f.mu i a hi).2
theorem EnvOk.noS (h : EnvOk K κ G O ρ σ H) : ∀ a, O a → ¬ G.S0 a := fun a z => by
  obtain ⟨F, f⟩ := h
  obtain ⟨i, hi⟩ := (f.own a).mp z
  exact (f.mu i a hi).1
theorem EnvOk.s0 (h : EnvOk K κ G O ρ σ H) : ∀ a, G.S0 a → H a ≠ none := let ⟨_, f⟩ := h; f.s0
theorem EnvOk.drop {fp : List Addr} (h : EnvOk K κ (G.plus fp) O ρ σ H) : EnvOk K κ G O ρ σ H := by
  obtain ⟨F, f⟩ := h
  refine ⟨F, f.len, f.own, f.non, f.dis, f.nd, fun i a hi => ⟨fun z => (f.mu i a hi).1 (.inl z), (f.mu i a hi).2⟩, f.new, f.par, fun p hp => Rep.go (.less fun a z => z.elim (fun z => .inl (.inl z)) .inr) _ _ (f.gh p hp), fun a z => f.s0 a (.inl z), f.keep, f.dom, fun i d e => ?_⟩
  obtain ⟨v, e1, e2⟩ := f.slot i d e
  refine ⟨v, e1, ?_⟩
  have le : ∀ a, uni G.S0 O a → uni (uni G.S0 (fpS fp)) O a := fun a z => z.elim (fun z => .inl (.inl z)) .inr
  cases q : kd κ i with
  | cl => rw [q] at e2; exact Rep.go (.less le) d v e2
  | ow n => rw [q] at e2; exact Own.go (.less le) n _ d v (fun _ _ _ h => h) e2
  | io n => rw [q] at e2; exact Own.go (.less le) n _ d v (fun _ _ _ h => h) e2
  | lo => rw [q] at e2; exact Rep.go (.less fun a z => .inl z) d v e2
theorem EnvOk.same {fp : List Addr} (h : EnvOk K κ G O ρ σ H) (s : Same H H') (hf : ∀ a ∈ fp, H a = none ∧ H' a ≠ none) : EnvOk K κ (G.plus fp) O ρ σ H' := by
  obtain ⟨F, f⟩ := h
  have sn : ∀ b, H b ≠ none → H' b ≠ none := fun b hb => (Step.of_same (O := O) s).dom b hb
  have g : ∀ (S : Addr → Prop), Goes S (uni S (fpS fp)) H H' := fun S => by
    refine ⟨fun a xs q => (Goes.same (S := S) s).tup a xs q, fun a u n q => ⟨((Goes.same (S := S) s).obj a u n q).1, fun z => z.elim n fun z => ?_⟩, fun a o u q => s _ _ q⟩
    obtain ⟨o, e⟩ := q.some
    rw [(hf a z).1] at e; cases e
  have eq2 : ∀ a, uni (uni G.S0 O) (fpS fp) a ↔ uni (uni G.S0 (fpS fp)) O a := fun a => by simp only [uni]; constructor <;> (rintro ((h | h) | h) <;> simp [h])
  refine ⟨F, f.len, f.own, f.non, f.dis, f.nd, fun i a hi => ?_, f.new, f.par, fun p hp => Rep.go (.less fun a => (eq2 a).mpr) _ _ (Rep.go (g _) _ _ (f.gh p hp)), fun a z => ?_, fun b o n e => s b o (f.keep b o n e), fun b e => sn b (f.dom b e), fun i d e => ?_⟩
  · obtain ⟨n, o, e, m⟩ := f.mu i a hi
    refine ⟨fun z => z.elim n fun z => ?_, o, s a o e, m⟩
    rw [(hf a z).1] at e; cases e
  · rcases z with z | z
    · exact sn a (f.s0 a z)
    · exact (hf a z).2
  · obtain ⟨v, e1, e2⟩ := f.slot i d e
    refine ⟨v, e1, ?_⟩
    cases q : kd κ i with
    | cl => rw [q] at e2; exact Rep.go (.less fun a => (eq2 a).mpr) d v (Rep.go (g _) d v e2)
    | ow n => rw [q] at e2; exact Own.go (.less fun a => (eq2 a).mpr) n _ d v (fun _ _ _ h => h) (Own.go (g _) n _ d v (fun a _ o e => s a o e) e2)
    | io n => rw [q] at e2; exact Own.go (.less fun a => (eq2 a).mpr) n _ d v (fun _ _ _ h => h) (Own.go (g _) n _ d v (fun a _ o e => s a o e) e2)
    | lo => rw [q] at e2; exact Rep.go (g _) d v e2
theorem EnvOk.same0 (h : EnvOk K κ G O ρ σ H) (s : Same H H') : EnvOk K κ G O ρ σ H' := by
  have q := h.same (fp := []) s (fun a z => absurd z (by simp))
  rw [plus_nil] at q
  exact q
theorem VOk.clean {fp : List Addr} {n : Nat} {d : D} {v : V} (hs : ∀ a, S0 a → H a ≠ none) (h : VOk K S0 O' H H' fp (.ow n) d v) : VOk K S0 O' H H' [] .cl d v := by
  obtain ⟨_, h2, h3⟩ := h
  refine ⟨rfl, Own.rep n fp d v (fun a ha z => ?_) (fun a z => ?_) h3⟩
  · obtain ⟨e, nO, _⟩ := h2 a ha
    exact z.elim (fun z => hs a z e) nO
  · exact z.elim (fun z => .inl (.inl z)) .inr
theorem VOk.loose {fp : List Addr} {d : D} {v : V} (h : VOk K S0 O' H H' fp .cl d v) : VOk K S0 O' H H' [] .lo d v := ⟨rfl, Rep.go (.less fun _ z => .inl z) d v h.2⟩
end
section
variable {X : Cx} {κ : List SK} {pu : Bool} {md : SK} {e : Expr} {E : DTE} {n : Nat}
theorem DE.clean (h : DE X κ pu (.ow n) e E) : DE X κ pu .cl e E := ⟨h.h.weak fun σ H Q hh_ => by obtain ⟨G, O, ρ, q, hE, hq, k⟩ := hh_; exact ⟨G, O, ρ, q, hE, hq, fun v H' d ρ' O' fp s e' vo p z => k v H' d ρ' O' [] s (by rw [plus_nil]; exact e'.drop) (vo.clean hE.s0) p z⟩⟩
theorem DE.loose (h : DE X κ pu .cl e E) : DE X κ pu .lo e E := ⟨h.h.weak fun σ H Q hh_ => by obtain ⟨G, O, ρ, q, hE, hq, k⟩ := hh_; exact ⟨G, O, ρ, q, hE, hq, fun v H' d ρ' O' fp s e' vo p z => k v H' d ρ' O' [] s (by rw [plus_nil]; exact e'.drop) vo.loose p z⟩⟩
theorem DE.dirty (h : DE X κ true md e E) : DE X κ false md e E := ⟨h.h.weak fun σ H Q hh_ => by obtain ⟨G, O, ρ, q, hE, hq, k⟩ := hh_; exact ⟨G, O, ρ, q, hE, hq, fun v H' d ρ' O' fp s e' vo p z => k v H' d ρ' O' fp s e' vo (fun z => absurd z Bool.false_ne_true) z⟩⟩
mutual
noncomputable def noL : D → Bool
  | .tup l => noLs l
  | .lst _ => false
  | .dK _ _ => false
  | .dT _ _ => false
  | .t2 _ _ _ _ => false
  | .fK _ _ _ => false
  | .fT _ _ _ => false
  | _ => true
noncomputable def noLs : List D → Bool
  | [] => true
  | d :: l => noL d && noLs l
end
mutual
theorem Rep.noL {K : PySem.W.Frag} {S S' : Addr → Prop} {H : Hp} : ∀ (d : D) (v : V), noL d = true → Rep K S H d v → Rep K S' H d v
  | .non, v, _, h => by simpa only [Rep] using h
  | .bl b, v, _, h => by simpa only [Rep] using h
  | .int i, v, _, h => by simpa only [Rep] using h
  | .str x, v, _, h => by simpa only [Rep] using h
  | .ty n, v, _, h => by simpa only [Rep] using h
  | .tup l, v, n, h => by
    simp only [L2.noL] at n
    simp only [Rep] at h ⊢
    obtain ⟨a, vs, e, q, r⟩ := h
    exact ⟨a, vs, e, q, Reps.noLs l vs n r⟩
  | .scr l, v, n, h => by simpa only [Rep] using h
  | .fz o u, v, n, h => by simpa only [Rep] using h
  | .t2 l m a b, v, n, h => by simp [L2.noL] at n
  | .fK o ks l, v, n, h => by simp [L2.noL] at n
  | .fT o ks l, v, n, h => by simp [L2.noL] at n
  | .lst l, v, n, h => by simp [L2.noL] at n
  | .dK ks l, v, n, h => by simp [L2.noL] at n
  | .dT ks l, v, n, h => by simp [L2.noL] at n
theorem Reps.noLs {K : PySem.W.Frag} {S S' : Addr → Prop} {H : Hp} : ∀ (l : List D) (vs : List V), noLs l = true → Reps K S H l vs → Reps K S' H l vs
  | [], vs, _, h => by simpa only [Reps] using h
  | d :: l, vs, n, h => by
    simp only [L2.noLs, Bool.and_eq_true] at n
    simp only [Reps] at h ⊢
    obtain ⟨v, r, e, h1, h2⟩ := h
    exact ⟨v, r, e, Rep.noL d v n.1 h1, Reps.noLs l r n.2 h2⟩
end
noncomputable def eNoL (E : DTE) : DTE := fun ρ q => E ρ fun d ρ' => noL d = true ∧ q d ρ'
theorem DE.nol (h : DE X κ pu .lo e E) : DE X κ pu .cl e (eNoL E) := ⟨h.h.weak fun σ H Q hh_ => by obtain ⟨G, O, ρ, q, hE, hq, k⟩ := hh_; exact ⟨G, O, ρ, _, hE, hq, fun v H' d ρ' O' fp s e' vo p ⟨z1, z2⟩ => k v H' d ρ' O' [] s (by rw [plus_nil]; exact e'.drop) ⟨rfl, Rep.noL d v z1 vo.2⟩ p z2⟩⟩
end
noncomputable def eVar (i : Nat) : DTE := fun ρ q => ∃ d, ρ[i]? = some (some d) ∧ q d ρ
noncomputable def eC (d : D) : DTE := fun ρ q => q d ρ
section
variable {X : Cx} {κ : List SK} {x : Str} {pos : Pos}
theorem VOk.plain {K : PySem.W.Frag} {S0 O : Addr → Prop} {H : Hp} {d : D} {v : V} (h : ∀ S, Rep K S H d v) : VOk K S0 O H H [] .cl d v := ⟨rfl, h _⟩
theorem de_c {t : TE} {d : D} {v : V} {e : Expr} (h : PE X e (tC v)) (r : ∀ S H, Rep X.K S H d v) : DE X κ true .cl e (eC d) :=
  ⟨h.weak fun σ H Q hh_ => by obtain ⟨G, O, ρ, q, hE, hq, k⟩ := hh_; exact k v H d ρ O [] (.refl _ _) (by rw [plus_nil]; exact hE) (.plain fun S => r S H) (fun _ => ⟨.refl _, rfl, rfl⟩) hq⟩
theorem dv (i : Nat) (hk : kd κ i = .cl := by rfl) (hN : X.N[i]? = some x := by rfl) (hv : Vis X.env.scope x := by first | exact Or.inl rfl | exact Or.inr (Or.inl rfl) | exact Or.inr (Or.inr rfl)) (hd : (x == ("__debug__" : Str)) = false := by decide)
    (hcd : (x == ("__classdict__" : Str)) = false := by decide) : DE X κ true .cl (.Name x pos) (eVar i) :=
  ⟨(pe_var hN hv hd hcd).weak fun σ H Q ⟨G, O, ρ, q, hE, ⟨d, e1, e2⟩, k⟩ => by
    obtain ⟨F, f⟩ := id hE
    obtain ⟨v, h1, h2⟩ := f.slot i d e1
    rw [hk] at h2
    exact ⟨v, h1, k v H d ρ O [] (.refl _ _) (by rw [plus_nil]; exact hE) ⟨rfl, h2⟩ (fun _ => ⟨.refl _, rfl, rfl⟩) e2⟩⟩
theorem dvl (i : Nat) (hN : X.N[i]? = some x := by rfl) (hv : Vis X.env.scope x := by first | exact Or.inl rfl | exact Or.inr (Or.inl rfl) | exact Or.inr (Or.inr rfl)) (hd : (x == ("__debug__" : Str)) = false := by decide)
    (hcd : (x == ("__classdict__" : Str)) = false := by decide) : DE X κ true .lo (.Name x pos) (eVar i) :=
  ⟨(pe_var hN hv hd hcd).weak fun σ H Q ⟨G, O, ρ, q, hE, ⟨d, e1, e2⟩, k⟩ => by
    obtain ⟨F, f⟩ := id hE
    obtain ⟨v, h1, h2⟩ := f.slot i d e1
    have r : Rep X.K G.S0 H d v := by
      cases e : kd κ i with
      | cl => rw [e] at h2; exact Rep.go (.less fun _ z => .inl z) d v h2
      | lo => rw [e] at h2; exact h2
      | ow n => rw [e] at h2; exact Own.rep n (F i) d v (fun a ha => (f.mu i a ha).1) (fun _ z => .inl z) h2
      | io n => rw [e] at h2; exact Own.rep n (F i) d v (fun a ha => (f.mu i a ha).1) (fun _ z => .inl z) h2
    exact ⟨v, h1, k v H d ρ O [] (.refl _ _) (by rw [plus_nil]; exact hE) ⟨rfl, r⟩ (fun _ => ⟨.refl _, rfl, rfl⟩) e2⟩⟩
theorem dint {i j} : DE X κ true .cl (.Constant (.int i) j pos) (eC (.int i)) := de_c (t := tC .non) pe_int fun _ _ => by simp only [Rep]
theorem dbl {i j} : DE X κ true .cl (.Constant (.bool i) j pos) (eC (.bl i)) := de_c (t := tC .non) pe_bl fun _ _ => by simp only [Rep]
theorem dnon {j} : DE X κ true .cl (.Constant .none j pos) (eC .non) := de_c (t := tC .non) pe_non fun _ _ => by simp only [Rep]
theorem dstr {i j} : DE X κ true .cl (.Constant (.str i) j pos) (eC (.str i)) := de_c (t := tC .non) pe_str fun _ _ => by simp only [Rep]
theorem dgint {i : Int} (hd : (x == ("__debug__" : Str)) = false) (hg : Gl X x) (hm : ∃ tk, X.mg x = some (.int i tk)) : DE X κ true .cl (.Name x pos) (eC (.int i)) := de_c (t := tC .non) (pe_gint hg hm hd) fun _ _ => by simp only [Rep]
theorem dglob {d : D} (hd : (x == ("__debug__" : Str)) = false) (hg : Gl X x) (hm : ∃ v w, X.mg x = some w ∧ RelV v w ∧ ∀ S H, Rep X.K S H d v) : DE X κ true .cl (.Name x pos) (eC d) := by
  obtain ⟨v, w, h1, h2, h3⟩ := hm
  exact de_c (t := tC .non) (pe_glob hg h1 h2 hd) h3
theorem dty {n : String} (h : PE X (.Name x pos) (tC (.ty n))) : DE X κ true .cl (.Name x pos) (eC (.ty n)) := de_c (t := tC .non) h fun _ _ => by simp only [Rep]
end
noncomputable def VRes (K : PySem.W.Frag) (S : Addr → Prop) (H H' : Hp) (fp : List Addr) : SK → D → V → Prop
  | .ow n, d, v => fp.Nodup ∧ (∀ a ∈ fp, H a = none ∧ ∃ o, H' a = some o ∧ isM o) ∧ Own K (uni S (fpS fp)) H' n fp d v
  | .io _, _, _ => False
  | _, d, v => fp = [] ∧ Rep K S H' d v
structure DOp (X : Cx) (md : SK) (f : Value → Value → Sem Value) (r : D → D → (D → Prop) → Prop) : Prop where
  h : ∃ r', OpR X f r' ∧ ∀ S H dx dy vx vy q Q, Rep X.K S H dx vx → Rep X.K S H dy vy → r dx dy q → (∀ v H' z fp, Same H H' → VRes X.K S H H' fp md z v → q z → Q v H') → r' vx vy H Q
structure DCall (X : Cx) (md : SK) (f : Value) (r : List D → (D → Prop) → Prop) : Prop where
  h : ∃ r', CallR X f r' ∧ ∀ S H ds vs q Q, Reps X.K S H ds vs → r ds q → (∀ v H' z fp, Same H H' → VRes X.K S H H' fp md z v → q z → Q v H') → r' vs H Q
noncomputable def outM (lo : Bool) (md : SK) : SK := if lo then .lo else md
noncomputable def isV (m : SK) : Prop := m = .cl ∨ m = .lo
section
variable {K : PySem.W.Frag} {κ : List SK} {G : G0} {O : Addr → Prop} {ρ : EnvD} {σ : St} {H H' : Hp}
theorem VRes.up {md : SK} {fp : List Addr} {d : D} {v : V} (hE : EnvOk K κ G O ρ σ H) (s : Same H H') (h : VRes K (uni G.S0 O) H H' fp md d v) (hm : md ≠ .lo) : EnvOk K κ (G.plus fp) O ρ σ H' ∧ VOk K G.S0 O H H' fp md d v := by
  cases md with
  | lo => exact absurd rfl hm
  | io n => exact h.elim
  | cl =>
    obtain ⟨rfl, h⟩ := h
    exact ⟨by rw [plus_nil]; exact hE.same0 s, rfl, h⟩
  | ow n =>
    obtain ⟨nd, h2, h3⟩ := h
    refine ⟨hE.same s fun a ha => ⟨(h2 a ha).1, ?_⟩, nd, fun a ha => ⟨(h2 a ha).1, fun z => ?_, (h2 a ha).2⟩, ?_⟩
    · obtain ⟨_, o, e, _⟩ := h2 a ha; rw [e]; simp
    · obtain ⟨o, e, _⟩ := hE.mutO a z
      rw [(h2 a ha).1] at e; cases e
    · have eq2 : ∀ a, uni (uni G.S0 (fpS fp)) O a → uni (uni G.S0 O) (fpS fp) a := fun a => by simp only [uni]; rintro ((h | h) | h) <;> simp [h]
      exact Own.go (.less eq2) n fp d v (fun _ _ _ h => h) h3
theorem VRes.upL {md : SK} {fp : List Addr} {d : D} {v : V} (hE : EnvOk K κ G O ρ σ H) (s : Same H H') (h : VRes K G.S0 H H' fp md d v) : EnvOk K κ (G.plus []) O ρ σ H' ∧ VOk K G.S0 O H H' [] .lo d v := by
  refine ⟨by rw [plus_nil]; exact hE.same0 s, rfl, ?_⟩
  cases md with
  | lo => exact h.2
  | cl => exact h.2
  | io n => exact h.elim
  | ow n =>
    obtain ⟨nd, h2, h3⟩ := h
    refine Own.rep n fp d v (fun a ha z => ?_) (fun a z => .inl z) h3
    exact hE.s0 a z (h2 a ha).1
end
mutual
noncomputable def pyEq : D → D → Bool
  | .non, .non => true
  | .bl a, .bl b => a == b
  | .bl a, .int b => (if a then 1 else 0) == b
  | .int a, .bl b => a == (if b then 1 else 0)
  | .int a, .int b => a == b
  | .str a, .str b => a == b
  | .tup a, .tup b => pyEqs a b
  | .lst a, .lst b => pyEqs a b
  | _, _ => false
noncomputable def pyEqs : List D → List D → Bool
  | [], [] => true
  | x :: xs, y :: ys => pyEq x y && pyEqs xs ys
  | _, _ => false
end
noncomputable def okE : Nat → D → Bool
  | _, .non => true
  | _, .bl _ => true
  | _, .int _ => true
  | _, .str _ => true
  | n + 1, .tup l => l.all (okE n)
  | n + 1, .lst l => l.all (okE n)
  | _, _ => false
structure EqAll (A : Around) (s : Shared) (u v : Value) (b : Bool) : Prop where
  e : SeqAt.EqAt A s u v b
  r : SeqAt.RcAt A s u v b
  n : SeqAt.RcNeAt A s u v (!b)
section
variable {A : Around} {s : Shared}
open SeqAt
theorem flatAll {x y : V} {u v : Value} (rx : RelV x u) (ry : RelV y v) (fx : flatV x = true) (fy : flatV y = true) : EqAll A s u v (eqV x y) := by
  refine ⟨eqAt_V rx ry fx fy, ?_, ?_⟩
  · cases x with
    | non =>
      cases rx
      cases y with
      | non => cases ry; exact .none_none
      | bl b => cases ry; exact .none_bool b
      | int b => obtain ⟨t, rfl⟩ := ry; exact .none_int b t
      | str b => obtain ⟨t, rfl⟩ := ry; exact .none_str b t
      | _ => cases fy
    | bl a =>
      cases rx
      cases y with
      | non => cases ry; exact .bool_none a
      | bl b => cases ry; exact .bool_bool a b
      | int b => obtain ⟨t, rfl⟩ := ry; exact .bool_int a b t
      | str b => obtain ⟨t, rfl⟩ := ry; exact .bool_str a b t
      | _ => cases fy
    | int a =>
      obtain ⟨t', rfl⟩ := rx
      cases y with
      | non => cases ry; exact .int_none a t'
      | bl b => cases ry; exact .int_bool a t' b
      | int b => obtain ⟨t, rfl⟩ := ry; exact .int_int a t' b t
      | str b => obtain ⟨t, rfl⟩ := ry; exact .int_str a t' b t
      | _ => cases fy
    | str a =>
      obtain ⟨t', rfl⟩ := rx
      cases y with
      | non => cases ry; exact .str_none a t'
      | bl b => cases ry; exact .str_bool a t' b
      | int b => obtain ⟨t, rfl⟩ := ry; exact .str_int a t' b t
      | str b => obtain ⟨t, rfl⟩ := ry; exact .str_str a t' b t
      | _ => cases fy
    | _ => cases fx
  · cases x with
    | non =>
      cases rx
      cases y with
      | non => cases ry; exact .none_none
      | bl b => cases ry; exact .none_bool b
      | int b => obtain ⟨t, rfl⟩ := ry; exact .none_int b t
      | str b => obtain ⟨t, rfl⟩ := ry; exact .none_str b t
      | _ => cases fy
    | bl a =>
      cases rx
      cases y with
      | non => cases ry; exact .bool_none a
      | bl b => cases ry; exact .bool_bool a b
      | int b => obtain ⟨t, rfl⟩ := ry; exact .bool_int a b t
      | str b => obtain ⟨t, rfl⟩ := ry; exact .bool_str a b t
      | _ => cases fy
    | int a =>
      obtain ⟨t', rfl⟩ := rx
      cases y with
      | non => cases ry; exact .int_none a t'
      | bl b => cases ry; exact .int_bool a t' b
      | int b => obtain ⟨t, rfl⟩ := ry; exact .int_int a t' b t
      | str b => obtain ⟨t, rfl⟩ := ry; exact .int_str a t' b t
      | _ => cases fy
    | str a =>
      obtain ⟨t', rfl⟩ := rx
      cases y with
      | non => cases ry; exact .str_none a t'
      | bl b => cases ry; exact .str_bool a t' b
      | int b => obtain ⟨t, rfl⟩ := ry; exact .str_int a t' b t
      | str b => obtain ⟨t, rfl⟩ := ry; exact .str_str a t' b t
      | _ => cases fy
    | _ => cases fx
theorem flatList {x : V} {u : Value} {l : Addr} {items : Array Value} (rx : RelV x u) (fx : flatV x = true) (hl : s.heap.IsList l items) (hu : A.units < cLine) : EqAll A s u (.ref l) false ∧ EqAll A s (.ref l) u false := by
  cases x with
  | non => cases rx; exact ⟨⟨.none_list hl hu, .none_list hl hu, .none_list hl hu⟩, .list_none hl hu, .list_none hl hu, .list_none hl hu⟩
  | bl c => cases rx; exact ⟨⟨.bool_list c hl hu, .bool_list c hl hu, .bool_list c hl hu⟩, .list_bool c hl hu, .list_bool c hl hu, .list_bool c hl hu⟩
  | int c => obtain ⟨t, rfl⟩ := rx; exact ⟨⟨.int_list c t hl hu, .int_list c t hl hu, .int_list c t hl hu⟩, .list_int c t hl hu, .list_int c t hl hu, .list_int c t hl hu⟩
  | str c => obtain ⟨t, rfl⟩ := rx; exact ⟨⟨.str_list c t hl hu, .str_list c t hl hu, .str_list c t hl hu⟩, .list_str c t hl hu, .list_str c t hl hu, .list_str c t hl hu⟩
  | _ => cases fx
theorem flatTup {x : V} {u : Value} {l : Addr} {items : Array Value} (rx : RelV x u) (fx : flatV x = true) (hl : s.heap.IsTuple l items) (hu : A.units < cLine) : EqAll A s u (.ref l) false ∧ EqAll A s (.ref l) u false := by
  cases x with
  | non => cases rx; exact ⟨⟨.none_tuple hl hu, .none_tuple hl hu, .none_tuple hl hu⟩, .tuple_none hl hu, .tuple_none hl hu, .tuple_none hl hu⟩
  | bl c => cases rx; exact ⟨⟨.bool_tuple c hl hu, .bool_tuple c hl hu, .bool_tuple c hl hu⟩, .tuple_bool c hl hu, .tuple_bool c hl hu, .tuple_bool c hl hu⟩
  | int c => obtain ⟨t, rfl⟩ := rx; exact ⟨⟨.int_tuple c t hl hu, .int_tuple c t hl hu, .int_tuple c t hl hu⟩, .tuple_int c t hl hu, .tuple_int c t hl hu, .tuple_int c t hl hu⟩
  | str c => obtain ⟨t, rfl⟩ := rx; exact ⟨⟨.str_tuple c t hl hu, .str_tuple c t hl hu, .str_tuple c t hl hu⟩, .tuple_str c t hl hu, .tuple_str c t hl hu, .tuple_str c t hl hu⟩
  | _ => cases fx
end
noncomputable def flD : D → Option V
  | .non => some .non
  | .bl b => some (.bl b)
  | .int i => some (.int i)
  | .str x => some (.str x)
  | _ => none
theorem flD_flat {d : D} {v : V} (h : flD d = some v) : flatV v = true := by
  cases d <;> simp [flD] at h <;> subst h <;> rfl
theorem flD_rep {K : PySem.W.Frag} {S : Addr → Prop} {H : Hp} {d : D} {v w : V} (h : flD d = some v) (r : Rep K S H d w) : w = v := by
  cases d <;> simp [flD] at h <;> subst h <;> simpa only [Rep] using r
theorem pyEq_flat {d e : D} {v w : V} (h : flD d = some v) (h' : flD e = some w) : pyEq d e = eqV v w := by
  cases d <;> simp [flD] at h <;> subst h <;> cases e <;> simp [flD] at h' <;> subst h' <;> simp only [pyEq, eqV]
theorem okE_kind {n : Nat} {d : D} (h : okE n d = true) : (∃ v, flD d = some v) ∨ (∃ l, d = .tup l ∧ ∃ m, n = m + 1 ∧ l.all (okE m) = true) ∨ ∃ l, d = .lst l ∧ ∃ m, n = m + 1 ∧ l.all (okE m) = true := by
  cases d with
  | non => exact .inl ⟨_, rfl⟩
  | bl b => exact .inl ⟨_, rfl⟩
  | int i => exact .inl ⟨_, rfl⟩
  | str x => exact .inl ⟨_, rfl⟩
  | tup l => cases n with
    | zero => simp [okE] at h
    | succ m => simp only [okE] at h; exact .inr (.inl ⟨l, rfl, m, rfl, h⟩)
  | lst l => cases n with
    | zero => simp [okE] at h
    | succ m => simp only [okE] at h; exact .inr (.inr ⟨l, rfl, m, rfl, h⟩)
  | ty n => simp [okE] at h
  | scr n => simp [okE] at h
  | fz o u => simp [okE] at h
  | t2 l m a b => simp [okE] at h
  | fK o ks l => simp [okE] at h
  | fT o ks l => simp [okE] at h
  | dK ks l => simp [okE] at h
  | dT ks l => simp [okE] at h
theorem pyEqs_len : ∀ {a b : List D}, pyEqs a b = true → a.length = b.length
  | [], [], _ => rfl
  | _ :: _, [], h => by simp [pyEqs] at h
  | [], _ :: _, h => by simp [pyEqs] at h
  | x :: xs, y :: ys, h => by
    simp only [pyEqs, Bool.and_eq_true] at h
    simp [pyEqs_len h.2]
theorem pyEqs_range (f : Nat → Bool) : ∀ (a b : List D), (∀ (j : Nat) (x y : D), a[j]? = some x → b[j]? = some y → f j = pyEq x y) → ((List.range (min a.length b.length)).all f && a.length == b.length) = pyEqs a b
  | [], [], _ => rfl
  | _ :: _, [], h => by simp [pyEqs]
  | [], _ :: _, h => by simp [pyEqs]
  | x :: xs, y :: ys, h => by
    have ih := pyEqs_range (fun j => f (j + 1)) xs ys fun j x' y' e1 e2 => h (j + 1) x' y' (by simpa using e1) (by simpa using e2)
    rw [List.length_cons, List.length_cons, range_min]
    simp only [pyEqs]
    rw [← ih, h 0 x y rfl rfl, Bool.and_assoc]
    congr 2
    simp
mutual
theorem pyEq_self : ∀ (n : Nat) (d : D), okE n d = true → pyEq d d = true
  | _, .non, _ => rfl
  | _, .bl b, _ => by simp [pyEq]
  | _, .int b, _ => by simp [pyEq]
  | _, .str b, _ => by simp [pyEq]
  | n, .ty b, h => by simp [okE] at h
  | n, .scr b, h => by simp [okE] at h
  | n, .fz b _, h => by simp [okE] at h
  | n, .t2 _ _ _ _, h => by simp [okE] at h
  | n, .fK _ _ _, h => by simp [okE] at h
  | n, .fT _ _ _, h => by simp [okE] at h
  | n, .dK b _, h => by simp [okE] at h
  | n, .dT b _, h => by simp [okE] at h
  | 0, .tup l, h => by simp [okE] at h
  | 0, .lst l, h => by simp [okE] at h
  | n + 1, .tup l, h => by simp only [okE] at h; simp only [pyEq]; exact pyEqs_self n l h
  | n + 1, .lst l, h => by simp only [okE] at h; simp only [pyEq]; exact pyEqs_self n l h
theorem pyEqs_self : ∀ (n : Nat) (l : List D), l.all (okE n) = true → pyEqs l l = true
  | n, [], _ => rfl
  | n, d :: l, h => by
    rw [List.all_cons, Bool.and_eq_true] at h
    simp only [pyEqs]
    rw [pyEq_self n d h.1, pyEqs_self n l h.2]
    rfl
end
section
variable {X : Cx} {pins : List (Addr × Obj)} {σ : St} {H : Hp} {s : Shared} {S1 S2 : Addr → Prop}
theorem reps_same (I : Inv X pins σ H s) {n : Nat} (ih : ∀ (d e : D) (v : V), okE n d = true → okE n e = true → Rep X.K S1 H d v → Rep X.K S2 H e v → d = e) : ∀ (a b : List D) (vs : List V), a.all (okE n) = true → b.all (okE n) = true → Reps X.K S1 H a vs → Reps X.K S2 H b vs → a = b
  | [], [], _, _, _, _, _ => rfl
  | [], y :: ys, vs, _, _, h1, h2 => by
    simp only [Reps] at h1 h2
    obtain ⟨v, r, e, _⟩ := h2
    rw [h1] at e; cases e
  | x :: xs, [], vs, _, _, h1, h2 => by
    simp only [Reps] at h1 h2
    obtain ⟨v, r, e, _⟩ := h1
    rw [h2] at e; cases e
  | x :: xs, y :: ys, vs, o1, o2, h1, h2 => by
    rw [List.all_cons, Bool.and_eq_true] at o1 o2
    simp only [Reps] at h1 h2
    obtain ⟨v, r, rfl, h1, h1'⟩ := h1
    obtain ⟨v', r', e, h2, h2'⟩ := h2
    cases e
    rw [ih x y v o1.1 o2.1 h1 h2, reps_same I ih xs ys r o1.2 o2.2 h1' h2']
theorem rep_same (I : Inv X pins σ H s) : ∀ (n : Nat) (d e : D) (v : V), okE n d = true → okE n e = true → Rep X.K S1 H d v → Rep X.K S2 H e v → d = e := by
  intro n
  induction n with
  | zero =>
    intro d e v h1 h2 r1 r2
    rcases okE_kind h1 with ⟨v1, e1⟩ | ⟨l, rfl, m, e, _⟩ | ⟨l, rfl, m, e, _⟩
    · rcases okE_kind h2 with ⟨v2, e2⟩ | ⟨l, rfl, m, e, _⟩ | ⟨l, rfl, m, e, _⟩
      · have := flD_rep e1 r1; have := flD_rep e2 r2
        subst_vars
        cases d <;> simp [flD] at e1 <;> subst e1 <;> cases e <;> simp [flD] at e2 <;> subst_vars <;> rfl
      · cases e
      · cases e
    · cases e
    · cases e
  | succ n ih =>
    intro d e v h1 h2 r1 r2
    have fref : ∀ {d : D} {v1 : V} {a : Addr}, flD d = some v1 → Rep X.K S1 H d (.ref a) → False := fun h r => by
      have q := flD_rep h r; have f := flD_flat h; rw [← q] at f; cases f
    have fref2 : ∀ {d : D} {v1 : V} {a : Addr}, flD d = some v1 → Rep X.K S2 H d (.ref a) → False := fun h r => by
      have q := flD_rep h r; have f := flD_flat h; rw [← q] at f; cases f
    have kinds : ∀ {a : Addr} {xs ys : List V}, SqL X.K H a xs → SqT X.K H a ys → False := fun h h' => by
      obtain ⟨_, _, ⟨o, _, e, c, _⟩, _⟩ := I.list h
      obtain ⟨_, _, ⟨o', e', c', _⟩, _⟩ := I.tuple h'
      rw [e] at e'; cases e'; rw [c] at c'; simp at c'
    rcases okE_kind h1 with ⟨v1, e1⟩ | ⟨l, rfl, m, e', o1⟩ | ⟨l, rfl, m, e', o1⟩
    · rcases okE_kind h2 with ⟨v2, e2⟩ | ⟨l, rfl, m, e, _⟩ | ⟨l, rfl, m, e, _⟩
      · have := flD_rep e1 r1; have := flD_rep e2 r2
        subst_vars
        cases d <;> simp [flD] at e1 <;> subst e1 <;> cases e <;> simp [flD] at e2 <;> subst_vars <;> rfl
      · simp only [Rep] at r2; obtain ⟨a, vs, rfl, _⟩ := r2; exact (fref e1 r1).elim
      · simp only [Rep] at r2; obtain ⟨a, vs, rfl, _⟩ := r2; exact (fref e1 r1).elim
    · cases e'
      simp only [Rep] at r1
      obtain ⟨a, vs, rfl, q1, r1⟩ := r1
      rcases okE_kind h2 with ⟨v2, e2⟩ | ⟨l2, rfl, m, e, o2⟩ | ⟨l2, rfl, m, e, o2⟩
      · exact (fref2 e2 r2).elim
      · cases e
        simp only [Rep] at r2
        obtain ⟨a', vs', e, q2, r2⟩ := r2
        cases e
        cases I.tuple_inj q1 q2
        rw [reps_same I ih l l2 vs o1 o2 r1 r2]
      · simp only [Rep] at r2
        obtain ⟨a', vs', e, _, q2, r2⟩ := r2
        cases e
        exact (kinds (.inl q2) q1).elim
    · cases e'
      simp only [Rep] at r1
      obtain ⟨a, vs, rfl, _, q1, r1⟩ := r1
      rcases okE_kind h2 with ⟨v2, e2⟩ | ⟨l2, rfl, m, e, o2⟩ | ⟨l2, rfl, m, e, o2⟩
      · exact (fref2 e2 r2).elim
      · simp only [Rep] at r2
        obtain ⟨a', vs', e, q2, r2⟩ := r2
        cases e
        exact (kinds (.inl q1) q2).elim
      · cases e
        simp only [Rep] at r2
        obtain ⟨a', vs', e, _, q2, r2⟩ := r2
        cases e
        cases I.list_inj (.inl q1) (.inl q2)
        rw [reps_same I ih l l2 vs o1 o2 r1 r2]
open SeqAt in
theorem eqD_ok (I : Inv X pins σ H s) : ∀ (n : Nat) (A : Around) (d e : D) (x y : V) (u v : Value), okE n d = true → okE n e = true → A.units + n < cLine → Rep X.K S1 H d x → Rep X.K S2 H e y → RelV x u → RelV y v → EqAll A s u v (pyEq d e) := by
  intro n
  induction n with
  | zero =>
    intro A d e x y u v h1 h2 hu r1 r2 rx ry
    rcases okE_kind h1 with ⟨v1, e1⟩ | ⟨l, rfl, m, e, _⟩ | ⟨l, rfl, m, e, _⟩
    · rcases okE_kind h2 with ⟨v2, e2⟩ | ⟨l, rfl, m, e, _⟩ | ⟨l, rfl, m, e, _⟩
      · cases flD_rep e1 r1; cases flD_rep e2 r2
        rw [pyEq_flat e1 e2]
        exact flatAll rx ry (flD_flat e1) (flD_flat e2)
      · cases e
      · cases e
    · cases e
    · cases e
  | succ n ih =>
    intro A d e x y u v h1 h2 hu r1 r2 rx ry
    have hu0 : A.units < cLine := by omega
    have tl : ∀ {d e : D} {a b : Addr}, EqAll A s (.ref a) (.ref b) (pyEq d e) → True := fun _ => trivial
    rcases okE_kind h1 with ⟨v1, e1⟩ | ⟨l, rfl, m, em, o1⟩ | ⟨l, rfl, m, em, o1⟩
    · cases flD_rep e1 r1
      rcases okE_kind h2 with ⟨v2, e2⟩ | ⟨l, rfl, m, em, _⟩ | ⟨l, rfl, m, em, _⟩
      · cases flD_rep e2 r2
        rw [pyEq_flat e1 e2]
        exact flatAll rx ry (flD_flat e1) (flD_flat e2)
      · simp only [Rep] at r2
        obtain ⟨a, vs, rfl, q, _⟩ := r2
        cases ry
        obtain ⟨its, _, pl, _⟩ := I.tuple q
        have e : pyEq d (.tup l) = false := by cases d <;> simp [flD] at e1 <;> rfl
        rw [e]
        exact (flatTup rx (flD_flat e1) (show s.heap.IsTuple a its.toArray from pl) hu0).1
      · simp only [Rep] at r2
        obtain ⟨a, vs, rfl, _, q, _⟩ := r2
        cases ry
        obtain ⟨its, _, pl, _⟩ := I.list (.inl q)
        have e : pyEq d (.lst l) = false := by cases d <;> simp [flD] at e1 <;> rfl
        rw [e]
        exact (flatList rx (flD_flat e1) pl.isList hu0).1
    · cases em
      have k1 := r1
      simp only [Rep] at r1
      obtain ⟨a, vs, rfl, q, r1⟩ := r1
      cases rx
      obtain ⟨its, rv, pl, _⟩ := I.tuple q
      have pl : s.heap.IsTuple a its.toArray := pl
      rcases okE_kind h2 with ⟨v2, e2⟩ | ⟨l2, rfl, m, em, o2⟩ | ⟨l2, rfl, m, em, o2⟩
      · cases flD_rep e2 r2
        have e : pyEq (.tup l) e = false := by cases e <;> simp [flD] at e2 <;> rfl
        rw [e]
        exact (flatTup ry (flD_flat e2) pl hu0).2
      · cases em
        have k2 := r2
        simp only [Rep] at r2
        obtain ⟨b, ws, rfl, q2, r2⟩ := r2
        cases ry
        obtain ⟨its2, rw2, pl2, _⟩ := I.tuple q2
        have pl2 : s.heap.IsTuple b its2.toArray := pl2
        have l1 : l.length = its.toArray.size := by rw [List.size_toArray, ← rv.length, r1.len]
        have l2' : l2.length = its2.toArray.size := by rw [List.size_toArray, ← rw2.length, r2.len]
        have he : ∀ j (h1 : j < its.toArray.size) (h2 : j < its2.toArray.size), EqAt A.in1 s its.toArray[j] its2.toArray[j] ((l[j]?.bind fun x => l2[j]?.bind fun y => some (pyEq x y)).getD false) := fun j j1 j2 => by
          obtain ⟨x', ex', rx'⟩ := rv.get2 (j := j) (u := its.toArray[j]) (arr_get j1)
          obtain ⟨y', ey', ry'⟩ := rw2.get2 (j := j) (u := its2.toArray[j]) (arr_get j2)
          obtain ⟨d1, ed1, rd1⟩ := r1.get' ex'
          obtain ⟨d2, ed2, rd2⟩ := r2.get' ey'
          simp only [ed1, ed2, Option.bind_some, Option.getD_some]
          exact (ih A.in1 d1 d2 x' y' _ _ (List.all_eq_true.mp o1 d1 (List.mem_of_getElem? ed1)) (List.all_eq_true.mp o2 d2 (List.mem_of_getElem? ed2)) (by show A.units + 1 + n < cLine; omega) rd1 rd2 rx' ry').e
        have ev : pyEq (.tup l) (.tup l2) = ((List.range (min its.toArray.size its2.toArray.size)).all (fun j => (l[j]?.bind fun x => l2[j]?.bind fun y => some (pyEq x y)).getD false) && its.toArray.size == its2.toArray.size) := by
          simp only [pyEq]
          rw [← l1, ← l2', pyEqs_range _ l l2 fun j x y e1 e2 => by simp [e1, e2]]
        have q1 := RcAt.tuples pl pl2 hu0 he
        have q2 := RcNeAt.tuples pl pl2 hu0 he
        rw [← ev] at q1 q2
        refine ⟨?_, q1, q2⟩
        by_cases hab : a = b
        · subst hab
          have z := rep_same I (n + 1) _ _ _ h1 h2 k1 k2
          rw [← z, pyEq_self (n + 1) _ h1]
          exact .same _
        · exact .of_refs hab q1
      · simp only [Rep] at r2
        obtain ⟨b, ws, rfl, _, q2, r2⟩ := r2
        cases ry
        obtain ⟨its2, rw2, pl2, _⟩ := I.list (.inl q2)
        have e : pyEq (.tup l) (.lst l2) = false := rfl
        rw [e]
        exact ⟨.tuple_list pl pl2.isList hu0, .tuple_list pl pl2.isList hu0, .tuple_list pl pl2.isList hu0⟩
    · cases em
      have k1 := r1
      simp only [Rep] at r1
      obtain ⟨a, vs, rfl, _, q, r1⟩ := r1
      cases rx
      obtain ⟨its, rv, pl, _⟩ := I.list (.inl q)
      rcases okE_kind h2 with ⟨v2, e2⟩ | ⟨l2, rfl, m, em, o2⟩ | ⟨l2, rfl, m, em, o2⟩
      · cases flD_rep e2 r2
        have e : pyEq (.lst l) e = false := by cases e <;> simp [flD] at e2 <;> rfl
        rw [e]
        exact (flatList ry (flD_flat e2) pl.isList hu0).2
      · simp only [Rep] at r2
        obtain ⟨b, ws, rfl, q2, r2⟩ := r2
        cases ry
        obtain ⟨its2, rw2, pl2, _⟩ := I.tuple q2
        have pl2 : s.heap.IsTuple b its2.toArray := pl2
        have e : pyEq (.lst l) (.tup l2) = false := rfl
        rw [e]
        exact ⟨.list_tuple pl.isList pl2 hu0, .list_tuple pl.isList pl2 hu0, .list_tuple pl.isList pl2 hu0⟩
      · cases em
        have k2 := r2
        simp only [Rep] at r2
        obtain ⟨b, ws, rfl, _, q2, r2⟩ := r2
        cases ry
        obtain ⟨its2, rw2, pl2, _⟩ := I.list (.inl q2)
        have l1 : l.length = its.toArray.size := by rw [List.size_toArray, ← rv.length, r1.len]
        have l2' : l2.length = its2.toArray.size := by rw [List.size_toArray, ← rw2.length, r2.len]
        have he : ∀ j (h1 : j < its.toArray.size) (h2 : j < its2.toArray.size), EqAt A.in1 s its.toArray[j] its2.toArray[j] ((l[j]?.bind fun x => l2[j]?.bind fun y => some (pyEq x y)).getD false) := fun j j1 j2 => by
          obtain ⟨x', ex', rx'⟩ := rv.get2 (j := j) (u := its.toArray[j]) (arr_get j1)
          obtain ⟨y', ey', ry'⟩ := rw2.get2 (j := j) (u := its2.toArray[j]) (arr_get j2)
          obtain ⟨d1, ed1, rd1⟩ := r1.get' ex'
          obtain ⟨d2, ed2, rd2⟩ := r2.get' ey'
          simp only [ed1, ed2, Option.bind_some, Option.getD_some]
          exact (ih A.in1 d1 d2 x' y' _ _ (List.all_eq_true.mp o1 d1 (List.mem_of_getElem? ed1)) (List.all_eq_true.mp o2 d2 (List.mem_of_getElem? ed2)) (by show A.units + 1 + n < cLine; omega) rd1 rd2 rx' ry').e
        have fin : RcAt A s (.ref a) (.ref b) (pyEq (.lst l) (.lst l2)) ∧ RcNeAt A s (.ref a) (.ref b) (!pyEq (.lst l) (.lst l2)) := by
          by_cases hl : its.toArray.size = its2.toArray.size
          · have ev : pyEq (.lst l) (.lst l2) = (List.range its.toArray.size).all (fun j => (l[j]?.bind fun x => l2[j]?.bind fun y => some (pyEq x y)).getD false) := by
              simp only [pyEq]
              rw [← pyEqs_range (fun j => (l[j]?.bind fun x => l2[j]?.bind fun y => some (pyEq x y)).getD false) l l2 fun j x y e1 e2 => by simp [e1, e2], l1, l2', ← hl, Nat.min_self, beq_self_eq_true, Bool.and_true]
            have q1 := RcAt.lists pl.isList pl2.isList hl hu0 he
            have q2 := RcNeAt.lists pl.isList pl2.isList hl hu0 he
            rw [← ev] at q1 q2
            exact ⟨q1, q2⟩
          · have ev : pyEq (.lst l) (.lst l2) = false := by
              simp only [pyEq]
              cases z : pyEqs l l2 with
              | false => rfl
              | true => exact absurd (by rw [← l1, ← l2', pyEqs_len z]) hl
            rw [ev]
            exact ⟨RcAt.lists_lengths pl.isList pl2.isList (by simpa using hl) hu0, RcNeAt.lists_lengths pl.isList pl2.isList (by simpa using hl) hu0⟩
        refine ⟨?_, fin.1, fin.2⟩
        by_cases hab : a = b
        · subst hab
          have z := rep_same I (n + 1) _ _ _ h1 h2 k1 k2
          rw [← z, pyEq_self (n + 1) _ h1]
          exact .same _
        · exact .of_refs hab fin.1
end
noncomputable def Sx (lo : Bool) (S0 O : Addr → Prop) : Addr → Prop := if lo then S0 else uni S0 O
section
variable {K : PySem.W.Frag} {κ : List SK} {G : G0} {O O1 O2 : Addr → Prop} {ρ ρ1 ρ2 : EnvD} {σ : St} {H H1 H2 H' : Hp} {S0 : Addr → Prop}
theorem VOk.base {fp : List Addr} {md : SK} {d : D} {v : V} (s : Step O O1 H H1) (h : VOk K S0 O2 H1 H' fp md d v) : VOk K S0 O2 H H' fp md d v := by
  cases md with
  | cl => exact h
  | lo => exact h
  | io n => exact h
  | ow n =>
    obtain ⟨nd, h2, h3⟩ := h
    refine ⟨nd, fun a ha => ⟨?_, (h2 a ha).2⟩, h3⟩
    cases e : H a with
    | none => rfl
    | some o => exact absurd (h2 a ha).1 (s.dom a (by rw [e]; simp))
theorem VOk.after {fp : List Addr} {m : SK} {d : D} {v : V} {lo : Bool} (hm : isV m) (hlo : m = .lo → lo = true ∧ Same H1 H2) (hmu : ∀ a, O1 a → ∃ o, H1 a = some o ∧ isM o) (s : Step O1 O2 H1 H2) (vo : VOk K S0 O1 H H1 fp m d v) : Rep K (Sx lo S0 O2) H2 d v := by
  rcases hm with rfl | rfl
  · have r := Rep.go (Goes.step hmu s) d v vo.2
    cases lo with
    | false => exact r
    | true => exact Rep.go (.less fun _ z => .inl z) d v r
  · obtain ⟨rfl, sm⟩ := hlo rfl
    exact Rep.go (Goes.same sm) d v vo.2
theorem VOk.now {fp : List Addr} {m : SK} {d : D} {v : V} {lo : Bool} (hm : isV m) (hlo : m = .lo → lo = true) (vo : VOk K S0 O1 H H1 fp m d v) : Rep K (Sx lo S0 O1) H1 d v := by
  rcases hm with rfl | rfl
  · cases lo with
    | false => exact vo.2
    | true => exact Rep.go (.less fun _ z => .inl z) d v vo.2
  · cases hlo rfl
    exact vo.2
theorem VRes.fin {md : SK} {fp : List Addr} {d : D} {v : V} {lo : Bool} (hE : EnvOk K κ G O2 ρ2 σ H2) (st : Step O O2 H H2) (s : Same H2 H') (h : VRes K (Sx lo G.S0 O2) H2 H' fp md d v) (hm : md ≠ .lo) : ∃ fp', Step O O2 H H' ∧ EnvOk K κ (G.plus fp') O2 ρ2 σ H' ∧ VOk K G.S0 O2 H H' fp' (outM lo md) d v := by
  cases lo with
  | false =>
    obtain ⟨h1, h2⟩ := VRes.up hE s h hm
    exact ⟨fp, st.trans (.of_same s), h1, h2.base st⟩
  | true =>
    obtain ⟨h1, h2⟩ := VRes.upL hE s h
    exact ⟨[], st.trans (.of_same s), h1, h2.base st⟩
theorem Pu.and {p1 p2 : Bool} (h1 : Pu p1 ρ ρ1 O O1 H H1) (h2 : Pu p2 ρ1 ρ2 O1 O2 H1 H2) : Pu (p1 && p2) ρ ρ2 O O2 H H2 := fun h => by
  rw [Bool.and_eq_true] at h
  obtain ⟨a, b, c⟩ := h1 h.1
  obtain ⟨a', b', c'⟩ := h2 h.2
  exact ⟨a.trans a', b'.trans b, c'.trans c⟩
theorem Pu.same {p : Bool} (h1 : Pu p ρ ρ1 O O1 H H1) (s : Same H1 H') : Pu p ρ ρ1 O O1 H H' := fun h => let ⟨a, b, c⟩ := h1 h; ⟨a.trans s, b, c⟩
theorem Pu.refl {p : Bool} : Pu p ρ ρ O O H H := fun _ => ⟨.refl _, rfl, rfl⟩
end
noncomputable def eOp (r : D → D → (D → Prop) → Prop) (Ea Eb : DTE) : DTE := fun ρ q => Ea ρ fun x ρ1 => Eb ρ1 fun y ρ2 => r x y fun z => q z ρ2
noncomputable def eTest (E : DTE) : DTT := fun ρ q => E ρ fun x ρ' => ∃ b, x = .bl b ∧ q b ρ'
noncomputable def loB : SK → Bool
  | .lo => true
  | _ => false
section
variable {X : Cx} {κ : List SK} {pu1 pu2 pu3 : Bool} {m1 m2 md : SK} {a b c e : Expr} {pos : Pos} {Ea Eb Ec E : DTE} {r r2 : D → D → (D → Prop) → Prop}
theorem op_go {f : Value → Value → Sem Value} {r' : R2} (hr : ∀ S H dx dy vx vy q Q, Rep X.K S H dx vx → Rep X.K S H dy vy → r dx dy q → (∀ v H' z fp, Same H H' → VRes X.K S H H' fp md z v → q z → Q v H') → r' vx vy H Q) (v1 : isV m1) (v2 : isV m2) (hp : m1 = .lo → pu2 = true) (hm : md ≠ .lo)
    {σ : St} {H : Hp} {Q : VK} (h : tD X.K κ (pu1 && pu2) (outM (loB m1 || loB m2) md) (eOp r Ea Eb) σ H Q) : tOp r' (tD X.K κ pu1 m1 Ea) (tD X.K κ pu2 m2 Eb) σ H Q := by
  obtain ⟨G, O, ρ, q, hE, hq, k⟩ := h
  refine ⟨G, O, ρ, _, hE, hq, fun vx H1 dx ρ1 O1 fp s1 e1 vo1 p1 hq1 => ⟨G, O1, ρ1, _, e1.drop, hq1, fun vy H2 dy ρ2 O2 fp2 s2 e2 vo2 p2 hq2 => ?_⟩⟩
  have e2 := e2.drop
  have rx : Rep X.K (Sx (loB m1 || loB m2) G.S0 O2) H2 dx vx := vo1.after v1 (fun z => ⟨by rw [z]; rfl, (p2 (hp z)).1⟩) e1.drop.mutO s2
  have ry : Rep X.K (Sx (loB m1 || loB m2) G.S0 O2) H2 dy vy := vo2.now v2 (fun z => by rw [z]; simp [loB])
  refine hr _ H2 dx dy vx vy _ Q rx ry hq2 fun v H' z fp3 sm vr hz => ?_
  obtain ⟨fp', st, en, vo⟩ := VRes.fin e2 (s1.trans s2) sm vr hm
  exact k v H' z ρ2 O2 fp' st en vo ((p1.and p2).same sm) hz
theorem dop {op : Operator} (ho : DOp X md (binaryOp op) r) (v1 : isV m1) (v2 : isV m2) (hp : m1 = .lo → pu2 = true) (hm : md ≠ .lo) (ha : DE X κ pu1 m1 a Ea) (hb : DE X κ pu2 m2 b Eb) : DE X κ (pu1 && pu2) (outM (loB m1 || loB m2) md) (.BinOp a op b pos) (eOp r Ea Eb) := by
  obtain ⟨r', h1, h2⟩ := ho.h
  exact ⟨(pe_op h1 ha.h hb.h).weak fun σ H Q h => op_go (f := binaryOp op) h2 v1 v2 hp hm h⟩
theorem dcmp {op : CmpOp} (hmk : behindInMarks op b = false) (ho : DOp X .cl (compareOp op) r) (v1 : isV m1) (v2 : isV m2) (hp : m1 = .lo → pu2 = true) (ha : DE X κ pu1 m1 a Ea) (hb : DE X κ pu2 m2 b Eb) : DE X κ (pu1 && pu2) (outM (loB m1 || loB m2) .cl) (.Compare a [op] [b] pos) (eOp r Ea Eb) := by
  obtain ⟨r', h1, h2⟩ := ho.h
  exact ⟨(pe_cmpR h1 ha.h hb.h hmk).weak fun σ H Q h => op_go (f := compareOp op) h2 v1 v2 hp (by simp) h⟩
theorem tdt_test {E : DTE} {pu : Bool} {md : SK} {σ : St} {H : Hp} {Q : Bool → Hp → Prop} (h : tDT X.K κ pu (eTest E) σ H Q) : tTest (tD X.K κ pu md E) σ H Q := by
  obtain ⟨G, O, ρ, q, hE, hq, k⟩ := h
  refine ⟨G, O, ρ, _, hE, hq, fun v H' d ρ' O' fp s e vo p ⟨b, e1, hb⟩ => ?_⟩
  subst e1
  have ev : v = .bl b := by
    cases md with
    | cl => simpa only [Rep] using vo.2
    | lo => simpa only [Rep] using vo.2
    | io n => exact vo.elim
    | ow n =>
      cases n with
      | zero => have := vo.2.2; simp only [Own, Rep] at this; exact this.2
      | succ n =>
        have := vo.2.2
        simp only [Own] at this
        obtain ⟨_, _, _, _, h⟩ := this
        rcases h with ⟨_, _, z, _⟩ | ⟨_, _, _, z, _⟩ | ⟨_, _, _, z, _⟩ <;> cases z
  exact ⟨b, ev, k b H' ρ' O' s e.drop p hb⟩
theorem dtcmp {op : CmpOp} (hmk : behindInMarks op b = false) (ho : DOp X .cl (compareOp op) r) (v1 : isV m1) (v2 : isV m2) (hp : m1 = .lo → pu2 = true) (ha : DE X κ pu1 m1 a Ea) (hb : DE X κ pu2 m2 b Eb) : DT X κ (pu1 && pu2) (.Compare a [op] [b] pos) (eTest (eOp r Ea Eb)) := by
  obtain ⟨r', h1, h2⟩ := ho.h
  exact ⟨(pt_cmpR h1 ha.h hb.h hmk).weak fun σ H Q h => op_go (f := compareOp op) h2 v1 v2 hp (by simp) (tdt_test (md := outM (loB m1 || loB m2) .cl) h)⟩
theorem dtval {E : DTE} {pu : Bool} (he : ∀ whole, isTrue e X.env whole = (do let v ← whole; standAt e.pos; holding [v] (truthy v))) (h : DE X κ pu md e E) : DT X κ pu e (eTest E) := ⟨(pt_val h.h he).weak fun σ H Q h => tdt_test h⟩
noncomputable def eChain (r r2 : D → D → (D → Prop) → Prop) (Ea Eb Ec : DTE) : DTE := fun ρ q => Ea ρ fun x ρ1 => Eb ρ1 fun y ρ2 => r x y fun z => ∃ k, z = .bl k ∧ (if k = true then Ec ρ2 fun u ρ3 => r2 y u fun t => q t ρ3 else q (.bl false) ρ2)
theorem rep_bl {K : PySem.W.Frag} {S : Addr → Prop} {H : Hp} {b : Bool} {v : V} (h : Rep K S H (.bl b) v) : v = .bl b := by simpa only [Rep] using h
theorem chain_go {f f2 : Value → Value → Sem Value} {r' r2' : R2} (hr : ∀ S H dx dy vx vy q Q, Rep X.K S H dx vx → Rep X.K S H dy vy → r dx dy q → (∀ v H' z fp, Same H H' → VRes X.K S H H' fp .cl z v → q z → Q v H') → r' vx vy H Q)
    (hr2 : ∀ S H dx dy vx vy q Q, Rep X.K S H dx vx → Rep X.K S H dy vy → r2 dx dy q → (∀ v H' z fp, Same H H' → VRes X.K S H H' fp .cl z v → q z → Q v H') → r2' vx vy H Q)
    {σ : St} {H : Hp} {Q : VK} (h : tD X.K κ ((pu1 && pu2) && pu3) .cl (eChain r r2 Ea Eb Ec) σ H Q) : tChain r' r2' (tD X.K κ pu1 .cl Ea) (tD X.K κ pu2 .cl Eb) (tD X.K κ pu3 .cl Ec) σ H Q := by
  obtain ⟨G, O, ρ, q, hE, hq, k⟩ := h
  refine ⟨G, O, ρ, _, hE, hq, fun vx H1 dx ρ1 O1 fp s1 e1 vo1 p1 hq1 => ⟨G, O1, ρ1, _, e1.drop, hq1, fun vy H2 dy ρ2 O2 fp2 s2 e2 vo2 p2 hq2 => ?_⟩⟩
  have e2 := e2.drop
  have rx : Rep X.K (Sx false G.S0 O2) H2 dx vx := vo1.after (.inl rfl) (fun z => by cases z) e1.drop.mutO s2
  have ry : Rep X.K (Sx false G.S0 O2) H2 dy vy := vo2.now (.inl rfl) (fun z => by cases z)
  refine hr _ H2 dx dy vx vy _ _ rx ry hq2 fun v H' z fp3 sm vr ⟨kb, ez, hz⟩ => ?_
  subst ez
  refine ⟨kb, rep_bl vr.2, ?_⟩
  cases kb with
  | false =>
    rw [if_neg Bool.false_ne_true] at hz ⊢
    refine k (.bl false) H' _ ρ2 O2 [] ((s1.trans s2).trans (.of_same sm)) (by rw [plus_nil]; exact e2.same0 sm) ⟨rfl, by simp only [Rep]⟩ (fun h => ?_) hz
    rw [Bool.and_eq_true] at h
    exact (p1.and p2).same sm h.1
  | true =>
    rw [if_pos rfl] at hz ⊢
    refine ⟨G, O2, ρ2, _, e2.same0 sm, hz, fun vz H3 dz ρ3 O3 fp4 s3 e3 vo3 p3 hq3 => ?_⟩
    have ry2 : Rep X.K (uni G.S0 O3) H3 dy vy := Rep.go (Goes.step (e2.same0 sm).mutO s3) dy vy (Rep.go (Goes.same sm) dy vy ry)
    refine hr2 _ H3 dy dz vy vz _ Q ry2 vo3.2 hq3 fun v H4 z fp5 sm2 vr2 hz2 => ?_
    exact k v H4 z ρ3 O3 [] ((((s1.trans s2).trans (.of_same sm)).trans s3).trans (.of_same sm2)) (by rw [plus_nil]; exact e3.drop.same0 sm2) ⟨rfl, vr2.2⟩ ((((p1.and p2).same sm).and p3).same sm2) hz2
theorem dchain {op op' : CmpOp} (hmk : lastMarks [op, op'] [b, c] = false) (ho : DOp X .cl (compareOp op) r) (ho' : DOp X .cl (compareOp op') r2) (ha : DE X κ pu1 .cl a Ea) (hb : DE X κ pu2 .cl b Eb) (hc : DE X κ pu3 .cl c Ec) : DE X κ ((pu1 && pu2) && pu3) .cl (.Compare a [op, op'] [b, c] pos) (eChain r r2 Ea Eb Ec) := by
  obtain ⟨r', h1, h2⟩ := ho.h
  obtain ⟨r2', h3, h4⟩ := ho'.h
  exact ⟨(pe_chain h1 h3 ha.h hb.h hc.h hmk).weak fun σ H Q h => chain_go (f := compareOp op) (f2 := compareOp op') h2 h4 h⟩
theorem dtchain {op op' : CmpOp} (hmk : lastMarks [op, op'] [b, c] = false) (ho : DOp X .cl (compareOp op) r) (ho' : DOp X .cl (compareOp op') r2) (ha : DE X κ pu1 .cl a Ea) (hb : DE X κ pu2 .cl b Eb) (hc : DE X κ pu3 .cl c Ec) : DT X κ ((pu1 && pu2) && pu3) (.Compare a [op, op'] [b, c] pos) (eTest (eChain r r2 Ea Eb Ec)) := by
  obtain ⟨r', h1, h2⟩ := ho.h
  obtain ⟨r2', h3, h4⟩ := ho'.h
  exact ⟨(pt_chain h1 h3 ha.h hb.h hc.h hmk).weak fun σ H Q h => chain_go (f := compareOp op) (f2 := compareOp op') h2 h4 (tdt_test (md := .cl) h)⟩
end
noncomputable def eAndT (T U : DTT) : DTT := fun ρ q => T ρ fun c ρ1 => if c = true then U ρ1 q else q false ρ1
noncomputable def eOrT (T U : DTT) : DTT := fun ρ q => T ρ fun c ρ1 => if c = true then q true ρ1 else U ρ1 q
noncomputable def eNotT (T : DTT) : DTT := fun ρ q => T ρ fun c ρ1 => q (!c) ρ1
noncomputable def eAndV (Ea Eb : DTE) : DTE := fun ρ q => Ea ρ fun x ρ1 => ∃ c, x = .bl c ∧ if c = true then Eb ρ1 q else q (.bl false) ρ1
noncomputable def eNotV (Ea : DTE) : DTE := fun ρ q => Ea ρ fun x ρ1 => ∃ c, x = .bl c ∧ q (.bl (!c)) ρ1
noncomputable def eIf (T : DTT) (Ea Eb : DTE) : DTE := fun ρ q => T ρ fun c ρ1 => if c = true then Ea ρ1 q else Eb ρ1 q
section
variable {X : Cx} {κ : List SK} {pu pu1 pu2 pu3 : Bool} {m1 m2 md : SK} {a b c e : Expr} {rest : List Expr} {pos : Pos} {Ea Eb Ec E : DTE} {T U : DTT}
theorem done {op} (h : DE X κ pu md a E) : DE X κ pu md (.BoolOp op [a] pos) E := ⟨pe_one h.h⟩
theorem dand (ha : DE X κ pu1 .cl a Ea) (hb : DE X κ pu2 .cl (.BoolOp .And (b :: rest) pos) Eb) : DE X κ (pu1 && pu2) .cl (.BoolOp .And (a :: b :: rest) pos) (eAndV Ea Eb) := by
  refine ⟨(pe_and ha.h hb.h).weak fun σ H Q hh_ => ?_⟩
  obtain ⟨G, O, ρ, q, hE, hq, k⟩ := hh_
  refine ⟨G, O, ρ, _, hE, hq, fun vx H1 dx ρ1 O1 fp s1 e1 vo1 p1 hz_ => ?_⟩
  obtain ⟨c, ec, hc⟩ := hz_
  subst ec
  refine ⟨c, rep_bl vo1.2, ?_⟩
  cases c with
  | false =>
    rw [if_neg Bool.false_ne_true] at hc ⊢
    exact k (.bl false) H1 _ ρ1 O1 [] s1 (by rw [plus_nil]; exact e1.drop) ⟨rfl, by simp only [Rep]⟩ (fun h => p1 (by rw [Bool.and_eq_true] at h; exact h.1)) hc
  | true =>
    rw [if_pos rfl] at hc ⊢
    exact ⟨G, O1, ρ1, _, e1.drop, hc, fun vy H2 dy ρ2 O2 fp2 s2 e2 vo2 p2 hq2 => k vy H2 dy ρ2 O2 fp2 (s1.trans s2) e2 vo2 (p1.and p2) hq2⟩
theorem dnot (ha : DE X κ pu1 .cl a Ea) : DE X κ pu1 .cl (.UnaryOp .Not a pos) (eNotV Ea) := by
  refine ⟨(pe_not ha.h).weak fun σ H Q hh_ => ?_⟩
  obtain ⟨G, O, ρ, q, hE, hq, k⟩ := hh_
  refine ⟨G, O, ρ, _, hE, hq, fun vx H1 dx ρ1 O1 fp s1 e1 vo1 p1 hz_ => ?_⟩
  obtain ⟨c, ec, hc⟩ := hz_
  subst ec
  exact ⟨c, rep_bl vo1.2, k _ H1 _ ρ1 O1 [] s1 (by rw [plus_nil]; exact e1.drop) ⟨rfl, by simp only [Rep]⟩ p1 hc⟩
theorem dneg (ha : DE X κ pu1 .cl a Ea) : DE X κ pu1 .cl (.UnaryOp .USub a pos) (fun ρ q => Ea ρ fun x ρ1 => ∃ i, x = .int i ∧ q (.int (-i)) ρ1) := by
  refine ⟨(pe_un un_neg ha.h).weak fun σ H Q hh_ => ?_⟩
  obtain ⟨G, O, ρ, q, hE, hq, k⟩ := hh_
  refine ⟨G, O, ρ, _, hE, hq, fun vx H1 dx ρ1 O1 fp s1 e1 vo1 p1 hz_ => ?_⟩
  obtain ⟨c, ec, hc⟩ := hz_
  subst ec
  exact ⟨c, by simpa only [Rep] using vo1.2, k _ H1 _ ρ1 O1 [] s1 (by rw [plus_nil]; exact e1.drop) ⟨rfl, by simp only [Rep]⟩ p1 hc⟩
theorem difx (hc : DT X κ pu1 c T) (ha : DE X κ pu2 md a Ea) (hb : DE X κ pu3 md b Eb) : DE X κ (pu1 && (pu2 && pu3)) md (.IfExp c a b pos) (eIf T Ea Eb) := by
  refine ⟨(pe_ifExp hc.h ha.h hb.h).weak fun σ H Q hh_ => ?_⟩
  obtain ⟨G, O, ρ, q, hE, hq, k⟩ := hh_
  refine ⟨G, O, ρ, _, hE, hq, fun cb H1 ρ1 O1 s1 e1 p1 hc => ?_⟩
  cases cb with
  | true =>
    rw [if_pos rfl] at hc ⊢
    exact ⟨G, O1, ρ1, _, e1, hc, fun vy H2 dy ρ2 O2 fp2 s2 e2 vo2 p2 hq2 => k vy H2 dy ρ2 O2 fp2 (s1.trans s2) e2 (vo2.base s1) (fun h => by rw [Bool.and_eq_true, Bool.and_eq_true] at h; exact (p1.and p2) (by rw [h.1, h.2.1]; rfl)) hq2⟩
  | false =>
    rw [if_neg Bool.false_ne_true] at hc ⊢
    exact ⟨G, O1, ρ1, _, e1, hc, fun vy H2 dy ρ2 O2 fp2 s2 e2 vo2 p2 hq2 => k vy H2 dy ρ2 O2 fp2 (s1.trans s2) e2 (vo2.base s1) (fun h => by rw [Bool.and_eq_true, Bool.and_eq_true] at h; exact (p1.and p2) (by rw [h.1, h.2.2]; rfl)) hq2⟩
theorem dwand1 (ha : DT X κ pu a T) : DW X κ pu (.BoolOp .And [a] pos) T := ⟨pw_and1 ha.h⟩
theorem dwor1 (ha : DT X κ pu a T) : DW X κ pu (.BoolOp .Or [a] pos) T := ⟨pw_or1 ha.h⟩
theorem dwand (ha : DT X κ pu1 a T) (hb : DW X κ pu2 (.BoolOp .And (b :: rest) pos) U) : DW X κ (pu1 && pu2) (.BoolOp .And (a :: b :: rest) pos) (eAndT T U) := by
  refine ⟨(pw_and ha.h hb.h).weak fun σ H Q hh_ => ?_⟩
  obtain ⟨G, O, ρ, q, hE, hq, k⟩ := hh_
  refine ⟨G, O, ρ, _, hE, hq, fun cb H1 ρ1 O1 s1 e1 p1 hc => ?_⟩
  cases cb with
  | true =>
    rw [if_pos rfl] at hc ⊢
    exact ⟨G, O1, ρ1, _, e1, hc, fun b H2 ρ2 O2 s2 e2 p2 hq2 => k b H2 ρ2 O2 (s1.trans s2) e2 (p1.and p2) hq2⟩
  | false =>
    rw [if_neg Bool.false_ne_true] at hc ⊢
    exact k _ H1 ρ1 O1 s1 e1 (fun h => p1 (by rw [Bool.and_eq_true] at h; exact h.1)) hc
theorem dwor (ha : DT X κ pu1 a T) (hb : DW X κ pu2 (.BoolOp .Or (b :: rest) pos) U) : DW X κ (pu1 && pu2) (.BoolOp .Or (a :: b :: rest) pos) (eOrT T U) := by
  refine ⟨(pw_or ha.h hb.h).weak fun σ H Q hh_ => ?_⟩
  obtain ⟨G, O, ρ, q, hE, hq, k⟩ := hh_
  refine ⟨G, O, ρ, _, hE, hq, fun cb H1 ρ1 O1 s1 e1 p1 hc => ?_⟩
  cases cb with
  | false =>
    rw [if_neg Bool.false_ne_true] at hc ⊢
    exact ⟨G, O1, ρ1, _, e1, hc, fun b H2 ρ2 O2 s2 e2 p2 hq2 => k b H2 ρ2 O2 (s1.trans s2) e2 (p1.and p2) hq2⟩
  | true =>
    rw [if_pos rfl] at hc ⊢
    exact k _ H1 ρ1 O1 s1 e1 (fun h => p1 (by rw [Bool.and_eq_true] at h; exact h.1)) hc
theorem dtw (h : DW X κ pu e T) : DT X κ pu e T := ⟨h.h.pt⟩
theorem dtnot (ha : DT X κ pu a T) : DT X κ pu (.UnaryOp .Not a pos) (eNotT T) := ⟨(pt_not ha.h).weak fun σ H Q hh_ => by obtain ⟨G, O, ρ, q, hE, hq, k⟩ := hh_; exact ⟨G, O, ρ, _, hE, hq, fun b H1 ρ1 O1 s1 e1 p1 hc => k _ H1 ρ1 O1 s1 e1 p1 hc⟩⟩
end
section
variable (K : PySem.W.Frag)
noncomputable def tDA (κ : List SK) (pu lo : Bool) (E : DTA) : TA := fun σ H Q => ∃ G O ρ q, EnvOk K κ G O ρ σ H ∧ E ρ q ∧
  ∀ vs H' ds ρ' O', Step O O' H H' → EnvOk K κ G O' ρ' σ H' → Reps K (Sx lo G.S0 O') H' ds vs → Pu pu ρ ρ' O O' H H' → q ds ρ' → Q vs H'
end
structure DA (X : Cx) (κ : List SK) (pu lo : Bool) (es : List Expr) (E : DTA) : Prop where
  h : PA X es (tDA X.K κ pu lo E)
theorem PA.weak {X : Cx} {es : List Expr} {t t' : TA} (h : PA X es t) (w : ∀ σ H Q, t' σ H Q → t σ H Q) : PA X es t' := fun pos pins s σ H Q I q => h pos pins s σ H Q I (w σ H Q q)
noncomputable def eNil : DTA := fun ρ q => q [] ρ
noncomputable def eCons (E : DTE) (A : DTA) : DTA := fun ρ q => E ρ fun x ρ1 => A ρ1 fun xs ρ2 => q (x :: xs) ρ2
noncomputable def eTup (A : DTA) : DTE := fun ρ q => A ρ fun ds ρ' => ds.length ≤ sizeLine ∧ q (.tup ds) ρ'
noncomputable def eLst (A : DTA) : DTE := fun ρ q => A ρ fun ds ρ' => ds.length ≤ sizeLine ∧ q (.lst ds) ρ'
noncomputable def eCallB (r : List D → (D → Prop) → Prop) (A : DTA) : DTE := fun ρ q => A ρ fun ds ρ' => r ds fun z => q z ρ'
section
variable {X : Cx} {κ : List SK} {pu pu1 pu2 lo : Bool} {m md : SK} {e : Expr} {es : List Expr} {pos p : Pos} {E : DTE} {A : DTA} {x : Str} {id T : String} {r : List D → (D → Prop) → Prop}
theorem danil : DA X κ true false [] eNil := ⟨pa_nil.weak fun σ H Q hh_ => by obtain ⟨G, O, ρ, q, hE, hq, k⟩ := hh_; exact k [] H [] ρ O (.refl _ _) hE (by simp only [Reps]) .refl hq⟩
theorem dac (hs : plainE e = true) (vm : isV m) (hp : m = .lo → pu2 = true) (ha : DE X κ pu1 m e E) (hr : DA X κ pu2 lo es A) : DA X κ (pu1 && pu2) (loB m || lo) (e :: es) (eCons E A) := by
  refine ⟨(pac hs ha.h hr.h).weak fun σ H Q hh_ => ?_⟩
  obtain ⟨G, O, ρ, q, hE, hq, k⟩ := hh_
  refine ⟨G, O, ρ, _, hE, hq, fun vx H1 dx ρ1 O1 fp s1 e1 vo1 p1 hq1 => ⟨G, O1, ρ1, _, e1.drop, hq1, fun vs H2 ds ρ2 O2 s2 e2 r2 p2 hq2 => ?_⟩⟩
  refine k (vx :: vs) H2 (dx :: ds) ρ2 O2 (s1.trans s2) e2 ?_ (p1.and p2) hq2
  simp only [Reps]
  refine ⟨vx, vs, rfl, vo1.after vm (fun z => ⟨by rw [z]; rfl, (p2 (hp z)).1⟩) e1.drop.mutO s2, ?_⟩
  cases lo with
  | true => rw [Bool.or_true]; exact r2
  | false =>
    cases m with
    | lo => exact Reps.go (.less fun _ z => .inl z) ds vs r2
    | cl => exact r2
    | ow n => exact r2
    | io n => exact r2
theorem vres_tup {K : PySem.W.Frag} {S : Addr → Prop} {H : Hp} {ds : List D} {vs : List V} {p : Addr} (h : Reps K S H ds vs) (hp : H p = none) : VRes K S H (upd H p (.tup vs)) [] .cl (.tup ds) (.ref p) := by
  refine ⟨rfl, ?_⟩
  simp only [Rep]
  exact ⟨p, vs, rfl, SqT.of upd_same, Reps.go (Goes.same (.new hp)) ds vs h⟩
theorem vres_lst {K : PySem.W.Frag} {S : Addr → Prop} {H : Hp} {ds : List D} {vs : List V} {p : Addr} (h : Reps K S H ds vs) (hp : H p = none) : VRes K S H (upd H p (.lst vs)) [p] (.ow 1) (.lst ds) (.ref p) := by
  refine ⟨by simp, fun a ha => ?_, ?_⟩
  · obtain rfl : a = p := by simpa using ha
    exact ⟨hp, _, upd_same, trivial⟩
  · simp only [Own]
    refine ⟨p, ds.map fun _ => [], rfl, by simp, .inl ⟨ds, vs, rfl, upd_same, by simp, h.len, fun i f x u e1 e2 e3 => ⟨?_, ?_⟩⟩⟩
    · rw [List.getElem?_map, e2] at e1; simpa using e1.symm
    · obtain ⟨u', e4, r⟩ := h.get e2
      rw [e3] at e4; cases e4
      have eq : uni S (fpS [p]) = uni S (· = p) := by funext a; simp [uni, fpS]
      rw [eq]
      exact Rep.go (Goes.fresh hp) x u r
theorem dtup {k} (h : DA X κ pu lo es A) : DE X κ pu (outM lo .cl) (.Tuple es k pos) (eTup A) := by
  refine ⟨(pe_tup h.h).weak fun σ H Q hh_ => ?_⟩
  obtain ⟨G, O, ρ, q, hE, hq, k⟩ := hh_
  refine ⟨G, O, ρ, _, hE, hq, fun vs H1 ds ρ1 O1 s1 e1 r1 p1 ⟨hl, hq1⟩ => ⟨by rw [r1.len]; exact hl, fun p hp => ?_⟩⟩
  obtain ⟨fp', st, en, vo⟩ := VRes.fin e1 s1 (.new hp) (vres_tup r1 hp) (by simp)
  exact k _ _ _ ρ1 O1 fp' st en vo (p1.same (.new hp)) hq1
theorem dlst (h : DA X κ pu lo es A) : DE X κ pu (outM lo (.ow 1)) (.List es pos) (eLst A) := by
  refine ⟨(pe_lst h.h).weak fun σ H Q hh_ => ?_⟩
  obtain ⟨G, O, ρ, q, hE, hq, k⟩ := hh_
  refine ⟨G, O, ρ, _, hE, hq, fun vs H1 ds ρ1 O1 s1 e1 r1 p1 ⟨hl, hq1⟩ => ⟨by rw [r1.len]; exact hl, fun p hp => ?_⟩⟩
  obtain ⟨fp', st, en, vo⟩ := VRes.fin e1 s1 (.new hp) (vres_lst r1 hp) (by simp)
  exact k _ _ _ ρ1 O1 fp' st en vo (p1.same (.new hp)) hq1
theorem callB_go {r' : List V → Hp → VK → Prop} (hr : ∀ S H ds vs q Q, Reps X.K S H ds vs → r ds q → (∀ v H' z fp, Same H H' → VRes X.K S H H' fp md z v → q z → Q v H') → r' vs H Q) (hm : md ≠ .lo) {σ : St} {H : Hp} {Q : VK}
    (h : tD X.K κ pu (outM lo md) (eCallB r A) σ H Q) : tCB r' (tDA X.K κ pu lo A) σ H Q := by
  obtain ⟨G, O, ρ, q, hE, hq, k⟩ := h
  refine ⟨G, O, ρ, _, hE, hq, fun vs H1 ds ρ1 O1 s1 e1 r1 p1 hq1 => hr _ H1 ds vs _ Q r1 hq1 fun v H' z fp sm vr hz => ?_⟩
  obtain ⟨fp', st, en, vo⟩ := VRes.fin e1 s1 sm vr hm
  exact k _ _ _ ρ1 O1 fp' st en vo (p1.same sm) hz
theorem dcb (hp : (e :: es).all plainE = true) (hn : x ≠ "__name__") (hdb : (x == ("__debug__" : Str)) = false) (hc : DCall X md (.builtin id) r) (hm : md ≠ .lo) (hg : Gl X x) (hmg : X.mg x = none) (hv : bootBuiltins x = some (.builtin id)) (ha : DA X κ pu lo (e :: es) A) : DE X κ pu (outM lo md) (.Call (.Name x p) (e :: es) [] pos) (eCallB r A) := by
  obtain ⟨r', h1, h2⟩ := hc.h
  exact ⟨(pcb hp hn hdb h1 hg hmg hv ha.h).weak fun σ H Q h => callB_go h2 hm h⟩
theorem dct (hp : (e :: es).all plainE = true) (hn : x ≠ "__name__") (hdb : (x == ("__debug__" : Str)) = false) (hc : DCall X md (.type T) r) (hm : md ≠ .lo) (hg : Gl X x) (hmg : X.mg x = none) (hv : bootBuiltins x = some (.type T)) (ha : DA X κ pu lo (e :: es) A) : DE X κ pu (outM lo md) (.Call (.Name x p) (e :: es) [] pos) (eCallB r A) := by
  obtain ⟨r', h1, h2⟩ := hc.h
  exact ⟨(pct hp hn hdb h1 hg hmg hv ha.h).weak fun σ H Q h => callB_go h2 hm h⟩
end
noncomputable def setF (F : Nat → List Addr) (i : Nat) (f : List Addr) : Nat → List Addr := fun k => if k = i then f else F k
noncomputable def OF (F : Nat → List Addr) : Addr → Prop := fun a => ∃ k, a ∈ F k
theorem setF_at {F : Nat → List Addr} {i : Nat} {f : List Addr} : setF F i f i = f := by simp [setF]
theorem setF_ne {F : Nat → List Addr} {i k : Nat} {f : List Addr} (h : k ≠ i) : setF F i f k = F k := by simp [setF, h]
noncomputable def kl (κ : List SK) (ρ : EnvD) : EnvD := if κ.contains .lo then ρ.mapIdx fun i d => if kd κ i = .lo then none else d else ρ
theorem kl_len (κ : List SK) (ρ : EnvD) : (kl κ ρ).length = ρ.length := by unfold kl; split <;> simp
theorem kl_get {κ : List SK} {ρ : EnvD} {i : Nat} {d : D} (h : (kl κ ρ)[i]? = some (some d)) : ρ[i]? = some (some d) ∧ kd κ i ≠ .lo := by
  unfold kl at h
  split at h
  · rename_i hc
    rw [List.getElem?_mapIdx] at h
    cases e : ρ[i]? with
    | none => rw [e] at h; cases h
    | some o =>
      rw [e] at h
      simp only [Option.map_some, Option.some.injEq] at h
      split at h
      · cases h
      · rename_i hn; subst h; exact ⟨rfl, hn⟩
  · rename_i hc
    refine ⟨h, fun z => hc ?_⟩
    unfold kd at z
    rw [List.getD_eq_getElem?_getD] at z
    cases e : κ[i]? with
    | none => rw [e] at z; cases z
    | some k =>
      rw [e] at z
      have z : k = .lo := z
      subst z
      exact List.contains_iff_mem.mpr (List.mem_of_getElem? e)
section
variable {K : PySem.W.Frag} {κ : List SK} {G : G0} {O O' : Addr → Prop} {ρ : EnvD} {σ : St} {H H' : Hp} {F : Nat → List Addr}
theorem VOk.based {S0 : Addr → Prop} {H0 : Hp} {fp : List Addr} {md : SK} {d : D} {v : V} (hd : ∀ b, H0 b ≠ none → H b ≠ none) (h : VOk K S0 O' H H' fp md d v) : VOk K S0 O' H0 H' fp md d v := by
  cases md with
  | cl => exact h
  | lo => exact h
  | io n => exact h
  | ow n =>
    obtain ⟨nd, h2, h3⟩ := h
    refine ⟨nd, fun a ha => ⟨?_, (h2 a ha).2⟩, h3⟩
    cases e : H0 a with
    | none => rfl
    | some o => exact absurd (h2 a ha).1 (hd a (by rw [e]; simp))
theorem EnvF.chg {i n : Nat} {f' fp : List Addr} {d' : D} {v : V} (f : EnvF K κ G O ρ σ H F) (hk : dep (kd κ i) = some n) (keep : ∀ b o, b ∉ F i → H b = some o → H' b = some o) (dom : ∀ b, H b ≠ none → H' b ≠ none)
    (nd : f'.Nodup) (hf : ∀ a ∈ f', (a ∈ F i ∨ H a = none) ∧ ∃ o, H' a = some o ∧ isM o) (hfp : ∀ a ∈ fp, H a = none ∧ H' a ≠ none ∧ a ∉ f') (hv : σ[i]? = some (some v))
    (ho : Own K (uni (uni G.S0 (fpS fp)) (OF (setF F i f'))) H' n f' d' v) :
    EnvF K κ (G.plus fp) (OF (setF F i f')) (kl κ (ρ.set i (some d'))) σ H' (setF F i f') ∧ Step O (OF (setF F i f')) H H' := by
  have old : ∀ k a, k ≠ i → a ∈ F k → a ∉ F i := fun k a hki ha z => hki (f.dis k i a ha z)
  have inO : ∀ k a, a ∈ F k → O a := fun k a ha => (f.own a).mpr ⟨k, ha⟩
  have domF : ∀ k a, a ∈ F k → H a ≠ none := fun k a ha => by obtain ⟨_, o, e, _⟩ := f.mu k a ha; rw [e]; simp
  have g : Goes (uni G.S0 O) (uni (uni G.S0 (fpS fp)) (OF (setF F i f'))) H H' := by
    refine ⟨fun a xs q => ?_, fun a u nS q => ⟨?_, fun z => ?_⟩, fun a o u q => keep _ _ (fun z => by obtain ⟨_, o', e, m⟩ := f.mu i a z; rw [q] at e; cases e; exact m) q⟩
    · have nF : a ∉ F i := fun z => by
        obtain ⟨_, o, e, m⟩ := f.mu i a z
        rcases q with q | ⟨o', q⟩ <;> (rw [q] at e; cases e; exact m)
      rcases q with q | ⟨o, q⟩
      · exact .inl (keep _ _ nF q)
      · exact .inr ⟨o, keep _ _ nF q⟩
    · have nF : a ∉ F i := fun z => nS (.inr (inO i a z))
      rcases q with q | ⟨o, q⟩
      · exact .inl (keep _ _ nF q)
      · exact .inr ⟨o, keep _ _ nF q⟩
    · obtain ⟨o, e⟩ := q.some
      rcases z with (z | z) | ⟨k, z⟩
      · exact nS (.inl z)
      · rw [(hfp a z).1] at e; cases e
      · by_cases hki : k = i
        · subst hki
          rw [setF_at] at z
          rcases (hf a z).1 with w | w
          · exact nS (.inr (inO _ a w))
          · rw [w] at e; cases e
        · rw [setF_ne hki] at z
          exact nS (.inr (inO k a z))
  have mu' : ∀ k a, a ∈ setF F i f' k → ¬ (G.plus fp).S0 a ∧ ∃ o, H' a = some o ∧ isM o := fun k a ha => by
    by_cases hki : k = i
    · subst hki
      rw [setF_at] at ha
      refine ⟨fun z => ?_, (hf a ha).2⟩
      rcases z with z | z
      · rcases (hf a ha).1 with w | w
        · exact (f.mu _ a w).1 z
        · exact f.s0 a z w
      · exact (hfp a z).2.2 ha
    · rw [setF_ne hki] at ha
      obtain ⟨n1, o, e, m⟩ := f.mu k a ha
      refine ⟨fun z => ?_, o, keep a o (old k a hki ha) e, m⟩
      rcases z with z | z
      · exact n1 z
      · exact domF k a ha (hfp a z).1
  refine ⟨⟨?_, fun a => Iff.rfl, fun k hn => ?_, fun k j a h1 h2 => ?_, fun k => ?_, mu', fun k a ha => ?_, f.par, fun p hp => Rep.go g _ _ (f.gh p hp), fun a z => ?_, fun b o n1 e => ?_, fun b e => dom b (f.dom b e), fun k d e => ?_⟩, ?_⟩
  · rw [kl_len, List.length_set]; exact f.len
  · have hki : k ≠ i := by rintro rfl; rw [hk] at hn; cases hn
    rw [setF_ne hki]; exact f.non k hn
  · by_cases hki : k = i
    · by_cases hji : j = i
      · rw [hki, hji]
      · rw [hki, setF_at] at h1
        rw [setF_ne hji] at h2
        rcases (hf a h1).1 with w | w
        · exact absurd w (old j a hji h2)
        · exact absurd w (domF j a h2)
    · rw [setF_ne hki] at h1
      by_cases hji : j = i
      · rw [hji, setF_at] at h2
        rcases (hf a h2).1 with w | w
        · exact absurd w (old k a hki h1)
        · exact absurd w (domF k a h1)
      · rw [setF_ne hji] at h2
        exact f.dis k j a h1 h2
  · by_cases hki : k = i
    · rw [hki, setF_at]; exact nd
    · rw [setF_ne hki]; exact f.nd k
  · by_cases hki : k = i
    · subst hki
      rw [setF_at] at ha
      rcases (hf a ha).1 with w | w
      · exact f.new _ a w
      · right
        show G.H0 a = none
        cases e : G.H0 a with
        | none => rfl
        | some o => exact absurd w (f.dom a (by rw [e]; simp))
    · rw [setF_ne hki] at ha
      exact f.new k a ha
  · rcases z with z | z
    · exact dom a (f.s0 a z)
    · exact (hfp a z).2.1
  · refine keep b o (fun z => ?_) (f.keep b o n1 e)
    rcases f.new i b z with w | w
    · exact n1 w.2
    · rw [show G.H0 b = some o from e] at w; cases w
  · obtain ⟨e, hlo⟩ := kl_get e
    by_cases hki : k = i
    · subst hki
      have hl : k < ρ.length := by rw [f.len]; exact (List.getElem?_eq_some_iff.mp hv).1
      rw [List.getElem?_set_self hl] at e
      cases e
      refine ⟨v, hv, ?_⟩
      rw [setF_at]
      cases q : kd κ k with
      | cl => rw [q] at hk; cases hk
      | lo => rw [q] at hk; cases hk
      | ow m => rw [q] at hk; cases hk; exact ho
      | io m => rw [q] at hk; cases hk; exact ho
    · rw [List.getElem?_set_ne (Ne.symm hki)] at e
      obtain ⟨w, e1, e2⟩ := f.slot k d e
      refine ⟨w, e1, ?_⟩
      rw [setF_ne hki]
      have ko : ∀ a ∈ F k, ∀ o, H a = some o → H' a = some o := fun a ha o eo => keep a o (old k a hki ha) eo
      cases q : kd κ k with
      | cl => rw [q] at e2; exact Rep.go g d w e2
      | ow n => rw [q] at e2; exact Own.go g n _ d w ko e2
      | io n => rw [q] at e2; exact Own.go g n _ d w ko e2
      | lo => exact absurd q hlo
  · refine ⟨fun b o n1 e => keep b o (fun z => n1 (inO i b z)) e, fun a ⟨k, z⟩ => ?_, dom⟩
    by_cases hki : k = i
    · subst hki
      rw [setF_at] at z
      rcases (hf a z).1 with w | w
      · exact .inl (inO _ a w)
      · exact .inr w
    · rw [setF_ne hki] at z
      exact .inl (inO k a z)
theorem setSt {σ : St} {i k : Nat} {v : V} (h : k ≠ i) : (σ.set i (some v))[k]? = σ[k]? := by rw [List.getElem?_set_ne (Ne.symm h)]
theorem EnvOk.put {i : Nat} {d : D} {v : V} (h : EnvOk K κ G O ρ σ H) (hk : (kd κ i = .cl ∧ Rep K (uni G.S0 O) H d v) ∨ (kd κ i = .lo ∧ Rep K G.S0 H d v)) : EnvOk K κ G O (ρ.set i (some d)) (σ.set i (some v)) H := by
  obtain ⟨F, f⟩ := h
  refine ⟨F, by simp [f.len], f.own, f.non, f.dis, f.nd, f.mu, f.new, fun k n e => ?_, f.gh, f.s0, f.keep, f.dom, fun k d' e => ?_⟩
  · have hki : k ≠ i := by rintro rfl; rcases hk with ⟨z, _⟩ | ⟨z, _⟩ <;> (rw [z] at e; cases e)
    rw [setSt hki]; exact f.par k n e
  · by_cases hki : k = i
    · subst hki
      have hl : k < ρ.length := by
        have := (List.getElem?_eq_some_iff.mp e).1
        simpa using this
      rw [List.getElem?_set_self hl] at e
      cases e
      refine ⟨v, List.getElem?_set_self (by rw [← f.len]; exact hl), ?_⟩
      rcases hk with ⟨z, r⟩ | ⟨z, r⟩ <;> (rw [z]; exact r)
    · rw [List.getElem?_set_ne (Ne.symm hki)] at e
      obtain ⟨w, e1, e2⟩ := f.slot k d' e
      exact ⟨w, by rw [setSt hki]; exact e1, e2⟩
theorem EnvOk.putO {i n : Nat} {d : D} {v : V} {fp : List Addr} {Hb : Hp} (hk : kd κ i = .ow n) (h : EnvOk K κ (G.plus fp) O ρ σ H) (hd : ∀ b, G.H0 b ≠ none → Hb b ≠ none) (hs : ∀ a, G.S0 a → Hb a ≠ none) (vo : VOk K G.S0 O Hb H fp (.ow n) d v) :
    ∃ O', EnvOk K κ G O' (ρ.set i (some d)) (σ.set i (some v)) H := by
  obtain ⟨F, f⟩ := h
  obtain ⟨nd, h2, h3⟩ := vo
  have fne : ∀ k a, a ∈ F k → a ∉ fp := fun k a ha z => (f.mu k a ha).1 (.inr z)
  have le : ∀ a, uni G.S0 (OF (setF F i fp)) a → uni (uni G.S0 (fpS fp)) O a := fun a z => by
    rcases z with z | ⟨k, z⟩
    · exact .inl (.inl z)
    · by_cases hki : k = i
      · rw [hki, setF_at] at z; exact .inl (.inr z)
      · rw [setF_ne hki] at z; exact .inr ((f.own a).mpr ⟨k, z⟩)
  refine ⟨OF (setF F i fp), setF F i fp, by simp [f.len], fun a => Iff.rfl, fun k hn => ?_, fun k j a h1 h2' => ?_, fun k => ?_, fun k a ha => ?_, fun k a ha => ?_, fun k m e => ?_, fun p hp => ?_, fun a z => f.s0 a (.inl z), f.keep, f.dom, fun k d' e => ?_⟩
  · have hki : k ≠ i := by rintro rfl; rw [hk] at hn; cases hn
    rw [setF_ne hki]; exact f.non k hn
  · by_cases hki : k = i
    · by_cases hji : j = i
      · rw [hki, hji]
      · rw [hki, setF_at] at h1
        rw [setF_ne hji] at h2'
        exact absurd h1 (fne j a h2')
    · rw [setF_ne hki] at h1
      by_cases hji : j = i
      · rw [hji, setF_at] at h2'
        exact absurd h2' (fne k a h1)
      · rw [setF_ne hji] at h2'
        exact f.dis k j a h1 h2'
  · by_cases hki : k = i
    · rw [hki, setF_at]; exact nd
    · rw [setF_ne hki]; exact f.nd k
  · by_cases hki : k = i
    · rw [hki, setF_at] at ha
      exact ⟨fun z => hs a z (h2 a ha).1, (h2 a ha).2.2⟩
    · rw [setF_ne hki] at ha
      exact ⟨fun z => (f.mu k a ha).1 (.inl z), (f.mu k a ha).2⟩
  · by_cases hki : k = i
    · rw [hki, setF_at] at ha
      right
      cases e : G.H0 a with
      | none => rfl
      | some o => exact absurd (h2 a ha).1 (hd a (by rw [e]; simp))
    · rw [setF_ne hki] at ha
      exact f.new k a ha
  · have hki : k ≠ i := by rintro rfl; rw [hk] at e; cases e
    rw [setSt hki]; exact f.par k m e
  · exact Rep.go (.less le) _ _ (f.gh p hp)
  · by_cases hki : k = i
    · subst hki
      have hl : k < ρ.length := by
        have := (List.getElem?_eq_some_iff.mp e).1
        simpa using this
      rw [List.getElem?_set_self hl] at e
      cases e
      refine ⟨v, List.getElem?_set_self (by rw [← f.len]; exact hl), ?_⟩
      rw [hk, setF_at]
      exact Own.go (.less le) n _ _ v (fun _ _ _ h => h) h3
    · rw [List.getElem?_set_ne (Ne.symm hki)] at e
      obtain ⟨w, e1, e2⟩ := f.slot k d' e
      refine ⟨w, by rw [setSt hki]; exact e1, ?_⟩
      rw [setF_ne hki]
      cases q : kd κ k with
      | cl => rw [q] at e2; exact Rep.go (.less le) d' w e2
      | ow n => rw [q] at e2; exact Own.go (.less le) n _ d' w (fun _ _ _ h => h) e2
      | io n => rw [q] at e2; exact Own.go (.less le) n _ d' w (fun _ _ _ h => h) e2
      | lo => rw [q] at e2; exact Rep.go (.less fun a z => .inl z) d' w e2
end
structure DEnds where
  nx : EnvD → Prop
  rt : D → EnvD → Prop
  bk : EnvD → Prop := fun _ => False
  ct : EnvD → Prop := fun _ => False
noncomputable abbrev DTS := DEnds → EnvD → Prop
noncomputable def tDS (K : PySem.W.Frag) (κ : List SK) (md : SK) (T : DTS) : TS := fun D σ H => ∃ G O ρ De, EnvOk K κ G O ρ σ H ∧ T De ρ ∧
  (∀ σ' H' ρ' O', EnvOk K κ G O' ρ' σ' H' → De.nx ρ' → D.nx σ' H') ∧ (∀ σ' H' ρ' O', EnvOk K κ G O' ρ' σ' H' → De.bk ρ' → D.bk σ' H') ∧ (∀ σ' H' ρ' O', EnvOk K κ G O' ρ' σ' H' → De.ct ρ' → D.ct σ' H') ∧
  ∀ v H' d ρ' O' fp σ', EnvOk K κ (G.plus fp) O' ρ' σ' H' → VOk K G.S0 O' G.H0 H' fp md d v → De.rt d ρ' → D.rt v H'
structure DS (X : Cx) (κ : List SK) (md : SK) (s : Stmt) (T : DTS) : Prop where
  h : PS X s (tDS X.K κ md T)
structure DSs (X : Cx) (κ : List SK) (md : SK) (s : List Stmt) (T : DTS) : Prop where
  h : PSs X s (tDS X.K κ md T)
theorem PS.weak {X : Cx} {s : Stmt} {t t' : TS} (h : PS X s t) (w : ∀ D σ H, t' D σ H → t D σ H) : PS X s t' := fun pins s σ H D I q => h pins s σ H D I (w D σ H q)
theorem PSs.weak {X : Cx} {s : List Stmt} {t t' : TS} (h : PSs X s t) (w : ∀ D σ H, t' D σ H → t D σ H) : PSs X s t' := fun pins s σ H D I q => h pins s σ H D I (w D σ H q)
theorem EnvOk.dom {K : PySem.W.Frag} {κ : List SK} {G : G0} {O : Addr → Prop} {ρ : EnvD} {σ : St} {H : Hp} (h : EnvOk K κ G O ρ σ H) : ∀ b, G.H0 b ≠ none → H b ≠ none := let ⟨_, f⟩ := h; f.dom
noncomputable def sNext : DTS := fun De ρ => De.nx ρ
noncomputable def sSeq (T U : DTS) : DTS := fun De ρ => T { De with nx := U De } ρ
noncomputable def sIf (c : DTT) (T U : DTS) : DTS := fun De ρ => c ρ fun b ρ1 => if b = true then T De ρ1 else U De ρ1
noncomputable def sRet (E : DTE) : DTS := fun De ρ => E ρ De.rt
noncomputable def sSet (i : Nat) (E : DTE) : DTS := fun De ρ => E ρ fun d ρ' => De.nx (ρ'.set i (some d))
section
variable {X : Cx} {κ : List SK} {md m : SK} {pu : Bool} {st : Stmt} {sts l r : List Stmt} {T U : DTS} {c e : Expr} {E : DTE} {C : DTT} {pos pos' : Pos} {x : Str}
theorem dsnil : DSs X κ md [] sNext := ⟨pss_nil.weak fun D σ H hh_ => by obtain ⟨G, O, ρ, De, hE, hT, nx, _⟩ := hh_; exact nx σ H ρ O hE hT⟩
theorem dscons (h1 : DS X κ md st T) (h2 : DSs X κ md sts U) : DSs X κ md (st :: sts) (sSeq T U) :=
  ⟨(pss_cons h1.h h2.h).weak fun D σ H hh_ => by obtain ⟨G, O, ρ, De, hE, hT, nx, bk, ct, rt⟩ := hh_; exact ⟨G, O, ρ, { De with nx := U De }, hE, hT, fun σ' H' ρ' O' e' hU => ⟨G, O', ρ', De, e', hU, nx, bk, ct, rt⟩, bk, ct, rt⟩⟩
theorem dsone (h1 : DS X κ md st T) : DSs X κ md [st] T := ⟨pss_one h1.h⟩
theorem dnever : DS X κ md st (fun _ _ => False) := ⟨ps_never.weak fun D σ H hh_ => by obtain ⟨G, O, ρ, De, hE, hT, _⟩ := hh_; exact hT⟩
theorem dif (hc : DT X κ pu c C) (ha : DSs X κ md l T) (hb : DSs X κ md r U) : DS X κ md (.If c l r pos) (sIf C T U) := by
  refine ⟨(ps_if hc.h ha.h hb.h).weak fun D σ H hh_ => ?_⟩
  obtain ⟨G, O, ρ, De, hE, hT, nx, bk, ct, rt⟩ := hh_
  refine ⟨G, O, ρ, _, hE, hT, fun b H1 ρ1 O1 s1 e1 p1 hq => ?_⟩
  cases b with
  | true => rw [if_pos rfl] at hq ⊢; exact ⟨G, O1, ρ1, De, e1, hq, nx, bk, ct, rt⟩
  | false => rw [if_neg Bool.false_ne_true] at hq ⊢; exact ⟨G, O1, ρ1, De, e1, hq, nx, bk, ct, rt⟩
theorem dret (h : DE X κ pu md e E) : DS X κ md (.Return (some e) pos) (sRet E) :=
  ⟨(ps_ret h.h).weak fun D σ H hh_ => by obtain ⟨G, O, ρ, De, hE, hT, nx, bk, ct, rt⟩ := hh_; exact ⟨G, O, ρ, De.rt, hE, hT, fun v H' d ρ' O' fp s1 e1 vo p1 hq => rt v H' d ρ' O' fp σ e1 (vo.based hE.dom) hq⟩⟩
theorem dset {i : Nat} (hs : swapsWith e (some (.Name x pos')) pos.line X.env = pure false) (hf : X.fn x = true ∨ X.env.scope.names.lookup x = some .local) (hN : X.N.Nodup) (hi : X.N[i]? = some x) (hx : Loc X.env.scope x) (hk : kd κ i = .cl) (h : DE X κ pu .cl e E) : DS X κ md (.Assign [.Name x pos'] e pos) (sSet i E) :=
  ⟨(ps_set hN hi hx h.h hs hf).weak fun D σ H hh_ => by obtain ⟨G, O, ρ, De, hE, hT, nx, bk, ct, rt⟩ := hh_; exact ⟨G, O, ρ, _, hE, hT, fun v H' d ρ' O' fp s1 e1 vo p1 hq => nx _ H' _ O' (e1.drop.put (.inl ⟨hk, vo.2⟩)) hq⟩⟩
theorem dsetO {i n : Nat} (hs : swapsWith e (some (.Name x pos')) pos.line X.env = pure false) (hf : X.fn x = true ∨ X.env.scope.names.lookup x = some .local) (hN : X.N.Nodup) (hi : X.N[i]? = some x) (hx : Loc X.env.scope x) (hk : kd κ i = .ow n) (h : DE X κ pu (.ow n) e E) : DS X κ md (.Assign [.Name x pos'] e pos) (sSet i E) :=
  ⟨(ps_set hN hi hx h.h hs hf).weak fun D σ H ⟨G, O, ρ, De, hE, hT, nx, bk, ct, rt⟩ => ⟨G, O, ρ, _, hE, hT, fun v H' d ρ' O' fp s1 e1 vo p1 hq => by
    obtain ⟨O2, e2⟩ := EnvOk.putO hk e1 hE.dom hE.s0 vo
    exact nx _ H' _ O2 e2 hq⟩⟩
end
noncomputable abbrev DTG := D → EnvD → (EnvD → Prop) → Prop
noncomputable def tDG (K : PySem.W.Frag) (κ : List SK) (md : SK) (g : DTG) : TG := fun v σ H Q => ∃ G O ρ q d, EnvOk K κ G O ρ σ H ∧ Rep K (Sx (loB md) G.S0 O) H d v ∧ g d ρ q ∧ ∀ σ' ρ', EnvOk K κ G O ρ' σ' H → q ρ' → Q σ' H
structure DG (X : Cx) (κ : List SK) (md : SK) (e : Expr) (g : DTG) : Prop where
  h : PG X e (tDG X.K κ md g)
noncomputable def tDGs (K : PySem.W.Frag) (κ : List SK) (md : SK) (g : List D → EnvD → (EnvD → Prop) → Prop) : TGs := fun vs σ H Q => ∃ G O ρ q ds, EnvOk K κ G O ρ σ H ∧ Reps K (Sx (loB md) G.S0 O) H ds vs ∧ g ds ρ q ∧ ∀ σ' ρ', EnvOk K κ G O ρ' σ' H → q ρ' → Q σ' H
structure DGs (X : Cx) (κ : List SK) (md : SK) (es : List Expr) (g : List D → EnvD → (EnvD → Prop) → Prop) : Prop where
  h : PGs X es (tDGs X.K κ md g)
theorem PG.weak {X : Cx} {e : Expr} {t t' : TG} (h : PG X e t) (w : ∀ v σ H Q, t' v σ H Q → t v σ H Q) : PG X e t' := fun pins s σ H v u Q I r q => h pins s σ H v u Q I r (w v σ H Q q)
theorem PGs.weak {X : Cx} {e : List Expr} {t t' : TGs} (h : PGs X e t) (w : ∀ v σ H Q, t' v σ H Q → t v σ H Q) : PGs X e t' := fun pins s σ H v u Q I r q => h pins s σ H v u Q I r (w v σ H Q q)
noncomputable def gdName (i : Nat) : DTG := fun d ρ q => q (ρ.set i (some d))
noncomputable def gdNil : List D → EnvD → (EnvD → Prop) → Prop := fun ds ρ q => ds = [] ∧ q ρ
noncomputable def gdCons (g : DTG) (gs : List D → EnvD → (EnvD → Prop) → Prop) : List D → EnvD → (EnvD → Prop) → Prop := fun ds ρ q => ∃ d r, ds = d :: r ∧ g d ρ fun ρ' => gs r ρ' q
noncomputable def gdTup (n : Nat) (gs : List D → EnvD → (EnvD → Prop) → Prop) : DTG := fun d ρ q => ∃ ds, d = .tup ds ∧ ds.length = n ∧ gs ds ρ q
noncomputable def sAsg (E : DTE) (g : DTG) : DTS := fun De ρ => E ρ fun d ρ' => g d ρ' De.nx
section
variable {X : Cx} {κ : List SK} {md : SK} {pu : Bool} {e tg : Expr} {es : List Expr} {E : DTE} {pos : Pos} {x : Str} {g : DTG} {gs : List D → EnvD → (EnvD → Prop) → Prop}
theorem dgname {i : Nat} (hf : X.fn x = true ∨ X.env.scope.names.lookup x = some .local) (hN : X.N.Nodup) (hi : X.N[i]? = some x) (hx : Loc X.env.scope x) (hk : (md = .cl ∧ kd κ i = .cl) ∨ (md = .lo ∧ kd κ i = .lo)) : DG X κ md (.Name x pos) (gdName i) := by
  refine ⟨(pg_name hN hi hx hf).weak fun v σ H Q hh_ => ?_⟩
  obtain ⟨G, O, ρ, q, d, hE, hr, hg, k⟩ := hh_
  refine k _ _ (hE.put ?_) hg
  rcases hk with ⟨rfl, h⟩ | ⟨rfl, h⟩
  · exact .inl ⟨h, hr⟩
  · exact .inr ⟨h, hr⟩
theorem dgnil : DGs X κ md [] gdNil := ⟨pgs_nil.weak fun vs σ H Q hh_ => by obtain ⟨G, O, ρ, q, ds, hE, hr, ⟨h1, h2⟩, k⟩ := hh_; exact ⟨by subst h1; simpa only [Reps] using hr, k _ _ hE h2⟩⟩
theorem dgcons (hs : (assignEach (e :: es) X.env).map (·.2) = assign e X.env :: (assignEach es X.env).map (·.2)) (h1 : DG X κ md e g) (h2 : DGs X κ md es gs) : DGs X κ md (e :: es) (gdCons g gs) := by
  refine ⟨(pgs_cons h1.h h2.h hs).weak fun vs σ H Q hh_ => ?_⟩
  obtain ⟨G, O, ρ, q, ds, hE, hr, ⟨d, r, ed, hg⟩, k⟩ := hh_
  subst ed
  simp only [Reps] at hr
  obtain ⟨v, vr, rfl, r1, r2⟩ := hr
  exact ⟨v, vr, rfl, G, O, ρ, _, d, hE, r1, hg, fun σ' ρ' e' hq => ⟨G, O, ρ', q, r, e', r2, hq, k⟩⟩
theorem dgtup {k n : Nat} (hn : (assignEach es X.env).length = n) (hst : (assignEach es X.env).findIdx? (·.1) = none) (hc : X.calm = true) (h : DGs X κ md es gs) : DG X κ md (.Tuple es k pos) (gdTup n gs) := by
  refine ⟨(pg_tup hc h.h hn hst).weak fun v σ H Q hh_ => ?_⟩
  obtain ⟨G, O, ρ, q, d, hE, hr, ⟨ds, ed, hl, hg⟩, k⟩ := hh_
  subst ed
  simp only [Rep] at hr
  obtain ⟨a, vs, rfl, hq, r⟩ := hr
  exact ⟨a, vs, rfl, hq, by rw [r.len]; exact hl, G, O, ρ, q, ds, hE, r, hg, k⟩
theorem dasg (hs : swapsWithSole [tg] e pos.line X.env = pure false) (hw : swappedStores [tg] e X.env = pure none) (h1 : (assignEach [tg] X.env).map (·.2) = [assign tg X.env]) (hm : md = .cl ∨ md = .lo) (he : DE X κ pu md e E) (hg : DG X κ md tg g) {mr : SK} : DS X κ mr (.Assign [tg] e pos) (sAsg E g) := by
  refine ⟨(ps_asg he.h hg.h hs hw h1).weak fun D σ H hh_ => ?_⟩
  obtain ⟨G, O, ρ, De, hE, hT, nx, bk, ct, rt⟩ := hh_
  refine ⟨G, O, ρ, _, hE, hT, fun v H' d ρ' O' fp s1 e1 vo p1 hq => ⟨G, O', ρ', De.nx, d, e1.drop, ?_, hq, fun σ' ρ2 e2 h2 => nx σ' H' ρ2 O' e2 h2⟩⟩
  rcases hm with rfl | rfl
  · exact vo.2
  · exact vo.2
end
noncomputable def spP (K : PySem.W.Frag) (np : Nat) (md : SK) (sd : List D → (D → Prop) → Prop) : Sp := fun vs H Q _ => ∃ S0 ds q, vs.length = np ∧ (∀ a, S0 a → H a ≠ none) ∧ Reps K S0 H ds vs ∧ sd ds q ∧ ∀ v H' d fp, Same H H' → VRes K S0 H H' fp md d v → q d → Q v H'
noncomputable def spX (K : PySem.W.Frag) (np j n : Nat) (md : SK) (sd : List D → (D → D → Prop) → Prop) : Sp := fun vs H Q _ => ∃ S0 ds q f vj dj, vs.length = np ∧ ds.length = np ∧ vs[j]? = some vj ∧ ds[j]? = some dj ∧ (∀ a, S0 a → H a ≠ none) ∧ f.Nodup ∧ (∀ a ∈ f, ¬ S0 a ∧ ∃ o, H a = some o ∧ isM o) ∧
  (∀ k x d, k ≠ j → vs[k]? = some x → ds[k]? = some d → Rep K (uni S0 (fpS f)) H d x) ∧ Own K (uni S0 (fpS f)) H n f dj vj ∧ sd ds q ∧
  ∀ v H' d d' fp f', Step (fpS f) (fpS f') H H' → f'.Nodup → (∀ a ∈ f', ¬ S0 a ∧ a ∉ fp ∧ ∃ o, H' a = some o ∧ isM o) → Own K (uni (uni S0 (fpS fp)) (fpS f')) H' n f' d' vj → VOk K S0 (fpS f') H H' fp md d v → (∀ a ∈ fp, H' a ≠ none) → q d d' → Q v H'
noncomputable def startD (n : Nat) (ds : List D) : EnvD := ds.map some ++ List.replicate (n - ds.length) none
theorem start_get {N : List Str} {vs : List V} {ds : List D} {i : Nat} {d : D} (hl : ds.length = vs.length) (h : (startD N.length ds)[i]? = some (some d)) : ds[i]? = some d ∧ ∃ v, vs[i]? = some v ∧ (start N vs)[i]? = some (some v) := by
  unfold startD at h
  by_cases hi : i < ds.length
  · rw [List.getElem?_append_left (by simpa using hi), List.getElem?_map] at h
    have hd : ds[i]? = some d := by
      cases e : ds[i]? with
      | none => rw [e] at h; cases h
      | some a => rw [e] at h; cases h; rfl
    refine ⟨hd, vs[i]'(by omega), List.getElem?_eq_getElem _, ?_⟩
    unfold start
    rw [List.getElem?_append_left (by simp; omega), List.getElem?_map, List.getElem?_eq_getElem (by omega)]
    rfl
  · rw [List.getElem?_append_right (by simpa using hi), List.getElem?_replicate] at h
    split at h <;> cases h
theorem start_len {N : List Str} {vs : List V} (h : vs.length ≤ N.length) : (start N vs).length = N.length := by
  unfold start; simp; omega
theorem startD_len {n : Nat} {ds : List D} (h : ds.length ≤ n) : (startD n ds).length = n := by
  unfold startD; simp; omega
section
variable {P : Program} {w : World} {K : PySem.W.Frag} {mg : Str → Option Value} {base : Heap} {x qual : Str} {st : Stmt} {f : Addr} {fd : FuncData} {N ps : List Str} {k : Nat} {κ : List SK} {md : SK}
theorem fnP {T : DTS} {sd : List D → (D → Prop) → Prop} (F : Fun K x qual st f fd) (S : FnScope N ps (defScope st)) (hκ : ∀ i n, kd κ i ≠ .io n) (hp : ∀ i, i < ps.length → kd κ i = .cl) (hmd : md = .cl ∨ ∃ n, md = .ow n)
    (hb : ∀ (cdv : Value) (A : Around) (outer : List Env) (s : Shared) (H : Hp) (E : XK), Room k (A.deeper (envOfC qual (defScope st) s.heap.objs.size f cdv)) → DSs (cxOf CX0 P w K mg base N qual (defScope st) f cdv A outer s H E).nox κ md (defBody st) T)
    (hs : ∀ ds q, ds.length = ps.length → sd ds q → T { nx := fun _ => md = .cl ∧ q .non, rt := fun d _ => q d } (startD N.length ds)) : FnOk P w K mg base CX0 (k + 1) f fd ps (spP K ps.length md sd) := by
  have hpl : ps.length ≤ N.length := by have := congrArg List.length S.pre; rw [List.length_take] at this; omega
  refine F.ok S (fun vs H Q E h => h.choose_spec.choose_spec.choose_spec.1) fun cdv A outer s H vs Q E hr h => ⟨_, (hb cdv A outer s H E hr).h, ?_⟩
  obtain ⟨S0, ds, q, hl, hS, hR, hsd, hQ⟩ := h
  have hdl : ds.length = vs.length := hR.len.symm
  have e0 : uni S0 (fun _ => False) = S0 := by funext a; simp [uni]
  have hE : EnvOk K κ ⟨S0, fun _ => False, H, start N vs, []⟩ (fun _ => False) (startD N.length ds) (start N vs) H := by
    refine ⟨fun _ => [], ?_, fun a => by simp, fun _ _ => rfl, fun i j a h => absurd h (by simp), fun _ => by simp, fun i a h => absurd h (by simp), fun i a h => absurd h (by simp), fun i n e => rfl, fun p hp => absurd hp (by simp), hS, fun b o _ e => e, fun b e => e, fun i d e => ?_⟩
    · rw [startD_len (by omega), start_len (by omega)]
    · obtain ⟨h1, v, h2, h3⟩ := start_get (N := N) hdl e
      refine ⟨v, h3, ?_⟩
      rw [hp i (by rw [← hl]; exact (List.getElem?_eq_some_iff.mp h2).1)]
      show Rep K (uni S0 fun _ => False) H d v
      rw [e0]
      obtain ⟨u, e1, e2⟩ := hR.get h1
      rw [h2] at e1; cases e1
      exact e2
  have sm : ∀ {fp : List Addr} {O' : Addr → Prop} {ρ' : EnvD} {σ' : St} {H' : Hp}, EnvOk K κ (G0.plus ⟨S0, fun _ => False, H, start N vs, []⟩ fp) O' ρ' σ' H' → Same H H' := fun h => by
    obtain ⟨F', f'⟩ := h
    exact fun b o e => f'.keep b o (fun z => z) e
  have fin : ∀ v H' d ρ' O' fp σ', EnvOk K κ (G0.plus ⟨S0, fun _ => False, H, start N vs, []⟩ fp) O' ρ' σ' H' → VOk K S0 O' H H' fp md d v → q d → Q v H' := fun v H' d ρ' O' fp σ' e vo hq => by
    refine hQ v H' d fp (sm e) ?_ hq
    rcases hmd with rfl | ⟨n, rfl⟩
    · exact ⟨vo.1, Rep.go (.less fun a z => .inl z) d v vo.2⟩
    · exact ⟨vo.1, fun a ha => ⟨(vo.2.1 a ha).1, (vo.2.1 a ha).2.2⟩, Own.go (.less fun a z => .inl z) n fp d v (fun _ _ _ h => h) vo.2.2⟩
  refine ⟨_, _, _, _, hE, hs ds q (by omega) hsd, fun σ' H' ρ' O' e ⟨hm, hq⟩ => ?_, fun _ _ _ _ _ h => h.elim, fun _ _ _ _ _ h => h.elim, fun v H' d ρ' O' fp σ' e vo hq => fin v H' d ρ' O' fp σ' e vo hq⟩
  subst hm
  exact fin .non H' .non ρ' O' [] σ' (by rw [plus_nil]; exact e) ⟨rfl, by simp only [Rep]⟩ hq
end
noncomputable def eCall (sd : List D → (D → Prop) → Prop) (A : DTA) : DTE := fun ρ q => A ρ fun ds ρ' => sd ds fun d => q d ρ'
section
variable {X : Cx} {κ : List SK} {pu lo : Bool} {md : SK} {e : Expr} {es : List Expr} {pos p : Pos} {A : DTA} {x : Str} {sd : List D → (D → Prop) → Prop} {CX : CXT} {k : Nat} {g : Addr} {fd : FuncData} {ps : List Str} {E : XK}
theorem Sx_dom {K : PySem.W.Frag} {G : G0} {O : Addr → Prop} {ρ : EnvD} {σ : St} {H : Hp} (h : EnvOk K κ G O ρ σ H) : ∀ a, Sx lo G.S0 O a → H a ≠ none := fun a z => by
  cases lo with
  | true => exact h.s0 a z
  | false =>
    rcases z with z | z
    · exact h.s0 a z
    · obtain ⟨o, e, _⟩ := h.mutO a z; rw [e]; simp
theorem dcl (hp : (e :: es).all plainE = true) (hdb : (x == ("__debug__" : Str)) = false) (F : FnOk X.prog X.w X.K X.mg X.base CX k g fd ps (spP X.K ps.length md sd)) (hr : Room k X.A) (hg : Gl X x) (hm : X.mg x = some (.ref g)) (hk : PySem.W.keepIn X.K (.ref g) = true) (hb : Binds X.K fd ps []) (hx : Passes CX X E)
    (hlen : (e :: es).length = ps.length) (hmd : md ≠ .lo) (ha : DA X κ pu lo (e :: es) A) : DE X κ pu (outM lo md) (.Call (.Name x p) (e :: es) [] pos) (eCall sd (fun ρ q => A ρ fun ds ρ' => ds.length = ps.length ∧ q ds ρ')) := by
  refine ⟨(pcl hp hdb F hr hg hm hk hb .nil hx ha.h).weak fun σ H Q hh_ => ?_⟩
  obtain ⟨G, O, ρ, q, hE, hq, k⟩ := hh_
  refine ⟨G, O, ρ, _, hE, hq, fun vs H1 ds ρ1 O1 s1 e1 r1 p1 hz_ => ?_⟩
  obtain ⟨hl, hq1⟩ := hz_
  refine ⟨Sx lo G.S0 O1, ds, _, by rw [List.append_nil, r1.len]; exact hl, Sx_dom e1, by rw [List.append_nil]; exact r1, hq1, fun v H' d fp sm vr hz => ?_⟩
  obtain ⟨fp', st, en, vo⟩ := VRes.fin e1 s1 sm vr hmd
  exact k _ _ _ ρ1 O1 fp' st en vo (p1.same sm) hz
end
section
variable {P : Program} {w : World} {K : PySem.W.Frag} {mg : Str → Option Value} {base : Heap} {x qual : Str} {st : Stmt} {f : Addr} {fd : FuncData} {N ps : List Str} {k j n : Nat} {κ : List SK} {md : SK}
theorem fnX {T : DTS} {sd : List D → (D → D → Prop) → Prop} (F : Fun K x qual st f fd) (S : FnScope N ps (defScope st)) (hj : kd κ j = .io n) (hjp : j < ps.length) (hκ : ∀ i m, i ≠ j → kd κ i ≠ .io m) (hp : ∀ i, i < ps.length → i ≠ j → kd κ i = .cl) (hmd : md = .cl ∨ ∃ n, md = .ow n)
    (hb : ∀ (cdv : Value) (A : Around) (outer : List Env) (s : Shared) (H : Hp) (E : XK), Room k (A.deeper (envOfC qual (defScope st) s.heap.objs.size f cdv)) → DSs (cxOf CX0 P w K mg base N qual (defScope st) f cdv A outer s H E).nox κ md (defBody st) T)
    (hs : ∀ ds q, ds.length = ps.length → sd ds q → T { nx := fun ρ => md = .cl ∧ ∃ d', ρ[j]? = some (some d') ∧ q .non d', rt := fun d ρ => ∃ d', ρ[j]? = some (some d') ∧ q d d' } (startD N.length ds)) : FnOk P w K mg base CX0 (k + 1) f fd ps (spX K ps.length j n md sd) := by
  have hpl : ps.length ≤ N.length := by have := congrArg List.length S.pre; rw [List.length_take] at this; omega
  refine F.ok S (fun vs H Q E h => by obtain ⟨_, _, _, _, _, _, h, _⟩ := h; exact h) fun cdv A outer s H vs Q E hr h => ⟨_, (hb cdv A outer s H E hr).h, ?_⟩
  obtain ⟨S0, ds, q, fj, vj, dj, hl, hl2, hvj, hdj, hS, hnd, hmu, hR, hO, hsd, hQ⟩ := h
  have hdl : ds.length = vs.length := by omega
  have hsv : (start N vs)[j]? = some (some vj) := by
    unfold start
    rw [List.getElem?_append_left (by simp; omega), List.getElem?_map, hvj]; rfl
  have hE : EnvOk K κ ⟨S0, fpS fj, H, start N vs, []⟩ (fpS fj) (startD N.length ds) (start N vs) H := by
    refine ⟨setF (fun _ => []) j fj, ?_, fun a => ?_, fun i hn => ?_, fun i i' a h1 h2 => ?_, fun i => ?_, fun i a ha => ?_, fun i a ha => ?_, fun i n e => rfl, fun p hp => absurd hp (by simp), hS, fun b o _ e => e, fun b e => e, fun i d e => ?_⟩
    · rw [startD_len (by omega), start_len (by omega)]
    · constructor
      · intro h; exact ⟨j, by rw [setF_at]; exact h⟩
      · rintro ⟨i, h⟩
        by_cases hi : i = j
        · rw [hi, setF_at] at h; exact h
        · rw [setF_ne hi] at h; exact absurd h (by simp)
    · have hi : i ≠ j := by rintro rfl; rw [hj] at hn; cases hn
      rw [setF_ne hi]
    · by_cases hi : i = j
      · by_cases hi' : i' = j
        · rw [hi, hi']
        · rw [setF_ne hi'] at h2; exact absurd h2 (by simp)
      · rw [setF_ne hi] at h1; exact absurd h1 (by simp)
    · by_cases hi : i = j
      · rw [hi, setF_at]; exact hnd
      · rw [setF_ne hi]; simp
    · by_cases hi : i = j
      · rw [hi, setF_at] at ha; exact hmu a ha
      · rw [setF_ne hi] at ha; exact absurd ha (by simp)
    · by_cases hi : i = j
      · rw [hi, setF_at] at ha; exact .inl ⟨⟨n, by rw [hi]; exact hj⟩, ha⟩
      · rw [setF_ne hi] at ha; exact absurd ha (by simp)
    · obtain ⟨h1, v, h2, h3⟩ := start_get (N := N) hdl e
      refine ⟨v, h3, ?_⟩
      by_cases hi : i = j
      · subst hi
        rw [hj, setF_at]
        rw [hvj] at h2; cases h2
        rw [hdj] at h1; cases h1
        exact hO
      · rw [hp i (by rw [← hl]; exact (List.getElem?_eq_some_iff.mp h2).1) hi]
        exact hR i v d hi h2 h1
  have fin : ∀ v H' d d' ρ' O' fp σ', EnvOk K κ (G0.plus ⟨S0, fpS fj, H, start N vs, []⟩ fp) O' ρ' σ' H' → VOk K S0 O' H H' fp md d v → ρ'[j]? = some (some d') → q d d' → Q v H' := fun v H' d d' ρ' O' fp σ' e vo hd' hq => by
    obtain ⟨F', f'⟩ := e
    obtain ⟨u, e1, e2⟩ := f'.slot j d' hd'
    have e3 := f'.par j n hj
    rw [e1, show (G0.plus ⟨S0, fpS fj, H, start N vs, []⟩ fp).ps[j]? = (start N vs)[j]? from rfl, hsv] at e3
    have e3 : u = vj := by simpa using e3
    subst e3
    rw [hj] at e2
    have sub : ∀ a, fpS (F' j) a → O' a := fun a ha => (f'.own a).mpr ⟨j, ha⟩
    refine hQ v H' d d' fp (F' j) ⟨fun b o nb e => f'.keep b o nb e, fun a ha => ?_, f'.dom⟩ (f'.nd j) (fun a ha => ?_) (Own.go (.less fun a z => z.elim .inl fun z => .inr (sub a z)) n _ d' u (fun _ _ _ h => h) e2) ?_ (fun a ha => f'.s0 a (.inr ha)) hq
    · rcases f'.new j a ha with z | z
      · exact .inl z.2
      · exact .inr z
    · obtain ⟨z1, z2⟩ := f'.mu j a ha
      exact ⟨fun z => z1 (.inl z), fun z => z1 (.inr z), z2⟩
    · rcases hmd with rfl | ⟨m, rfl⟩
      · exact ⟨vo.1, Rep.go (.less fun a z => z.elim .inl fun z => .inr (sub a z)) d v vo.2⟩
      · exact ⟨vo.1, fun a ha => ⟨(vo.2.1 a ha).1, fun z => (vo.2.1 a ha).2.1 (sub a z), (vo.2.1 a ha).2.2⟩, Own.go (.less fun a z => z.elim .inl fun z => .inr (sub a z)) m fp d v (fun _ _ _ h => h) vo.2.2⟩
  refine ⟨_, _, _, _, hE, hs ds q (by omega) hsd, fun σ' H' ρ' O' e ⟨hm, d', hd', hq⟩ => ?_, fun _ _ _ _ _ h => h.elim, fun _ _ _ _ _ h => h.elim, fun v H' d ρ' O' fp σ' e vo ⟨d', hd', hq⟩ => fin v H' d d' ρ' O' fp σ' e vo hd' hq⟩
  subst hm
  exact fin .non H' .non d' ρ' O' [] σ' (by rw [plus_nil]; exact e) ⟨rfl, by simp only [Rep]⟩ hd' hq
end
noncomputable def tDAx (K : PySem.W.Frag) (κ : List SK) (i j : Nat) (A : DTA) : TA := fun σ H Q => ∃ G O ρ q, EnvOk K κ G O ρ σ H ∧ A ρ q ∧ ∀ vs H' ds ρ' O', Step O O' H H' → EnvOk K κ G O' ρ' σ H' → vs.length = ds.length →
  (∃ v d, vs[j]? = some v ∧ ds[j]? = some d ∧ σ[i]? = some (some v) ∧ ρ'[i]? = some (some d)) → (∀ k x d, k ≠ j → vs[k]? = some x → ds[k]? = some d → Rep K (uni G.S0 O') H' d x) → q ds ρ' → Q vs H'
structure DAx (X : Cx) (κ : List SK) (i j : Nat) (es : List Expr) (A : DTA) : Prop where
  h : PA X es (tDAx X.K κ i j A)
noncomputable def eHere (i : Nat) (A : DTA) : DTA := fun ρ q => ∃ d0, ρ[i]? = some (some d0) ∧ A ρ fun ds ρ' => ∃ d, ρ'[i]? = some (some d) ∧ q (d :: ds) ρ'
noncomputable def eCallX (κ : List SK) (i np : Nat) (sd : List D → (D → D → Prop) → Prop) (A : DTA) : DTE := fun ρ q => A ρ fun ds ρ' => ds.length = np ∧ sd ds fun d d' => q d (kl κ (ρ'.set i (some d')))
section
variable {X : Cx} {κ : List SK} {pu : Bool} {i j n : Nat} {e : Expr} {es : List Expr} {pos p : Pos} {E : DTE} {A : DTA} {x : Str}
theorem dax_here (hN : X.N[i]? = some x) (hv : Vis X.env.scope x) (hd : (x == ("__debug__" : Str)) = false) (hcd : (x == ("__classdict__" : Str)) = false) (hr : DA X κ pu false es A) : DAx X κ i 0 (.Name x pos :: es) (eHere i A) := by
  refine ⟨(pac rfl (pe_var hN hv hd hcd) hr.h).weak fun σ H Q hh_ => ?_⟩
  obtain ⟨G, O, ρ, q, hE, ⟨d0, e0, hq⟩, k⟩ := hh_
  obtain ⟨v, hv, _⟩ : ∃ v, σ[i]? = some (some v) ∧ True := by
    obtain ⟨F, f⟩ := id hE
    obtain ⟨v, h1, _⟩ := f.slot i d0 e0
    exact ⟨v, h1, trivial⟩
  refine ⟨v, hv, G, O, ρ, _, hE, hq, fun vs H1 ds ρ1 O1 s1 e1 r1 p1 ⟨d, hd, hq1⟩ => ?_⟩
  refine k (v :: vs) H1 (d :: ds) ρ1 O1 s1 e1 (by simp [r1.len]) ⟨v, d, rfl, rfl, hv, hd⟩ (fun m x' d' hm h1 h2 => ?_) hq1
  cases m with
  | zero => exact absurd rfl hm
  | succ m =>
    obtain ⟨u, e3, e4⟩ := r1.get (i := m) (x := d') (by simpa using h2)
    have : vs[m]? = some x' := by simpa using h1
    rw [this] at e3; cases e3
    exact e4
theorem dax_there (hs : plainE e = true) (ha : DE X κ pu .cl e E) (hr : DAx X κ i j es A) : DAx X κ i (j + 1) (e :: es) (eCons E A) := by
  refine ⟨(pac hs ha.h hr.h).weak fun σ H Q hh_ => ?_⟩
  obtain ⟨G, O, ρ, q, hE, hq, k⟩ := hh_
  refine ⟨G, O, ρ, _, hE, hq, fun vx H1 dx ρ1 O1 fp s1 e1 vo1 p1 hq1 => ⟨G, O1, ρ1, _, e1.drop, hq1, fun vs H2 ds ρ2 O2 s2 e2 hl hio hR hq2 => ?_⟩⟩
  obtain ⟨v, d, h1, h2, h3, h4⟩ := hio
  refine k (vx :: vs) H2 (dx :: ds) ρ2 O2 (s1.trans s2) e2 (by simp [hl]) ⟨v, d, by simpa using h1, by simpa using h2, h3, h4⟩ (fun m x' d' hm e3 e4 => ?_) hq2
  cases m with
  | zero =>
    simp at e3 e4; subst e3 e4
    exact Rep.go (Goes.step e1.drop.mutO s2) dx vx vo1.2
  | succ m => exact hR m x' d' (by omega) (by simpa using e3) (by simpa using e4)
variable {sd : List D → (D → D → Prop) → Prop} {CX : CXT} {k : Nat} {g : Addr} {fd : FuncData} {ps : List Str} {Ex : XK} {md : SK}
theorem dclx (hp : (e :: es).all plainE = true) (hdb : (x == ("__debug__" : Str)) = false) (F : FnOk X.prog X.w X.K X.mg X.base CX k g fd ps (spX X.K ps.length j n md sd)) (hr : Room k X.A) (hg : Gl X x) (hm : X.mg x = some (.ref g)) (hk : PySem.W.keepIn X.K (.ref g) = true) (hb : Binds X.K fd ps []) (hx : Passes CX X Ex)
    (hdep : dep (kd κ i) = some n) (hmd : md = .cl ∨ ∃ m, md = .ow m) (ha : DAx X κ i j (e :: es) A) : DE X κ false md (.Call (.Name x p) (e :: es) [] pos) (eCallX κ i ps.length sd A) := by
  refine ⟨(pcl hp hdb F hr hg hm hk hb .nil hx ha.h).weak fun σ H Q hh_ => ?_⟩
  obtain ⟨G, O, ρ, q, hE, hq, k⟩ := hh_
  refine ⟨G, O, ρ, _, hE, hq, fun vs H1 ds ρ1 O1 s1 e1 hl ⟨vj, dj, h1, h2, h3, h4⟩ hR ⟨hlen, hq1⟩ => ?_⟩
  obtain ⟨F1, f1⟩ := id e1
  obtain ⟨u, h5, h6⟩ := f1.slot i dj h4
  rw [h3] at h5; cases h5
  have ho : Own X.K (uni G.S0 O1) H1 n (F1 i) dj vj := by
    cases q : kd κ i with
    | cl => rw [q] at hdep; cases hdep
    | lo => rw [q] at hdep; cases hdep
    | ow m => rw [q] at hdep h6; cases hdep; exact h6
    | io m => rw [q] at hdep h6; cases hdep; exact h6
  have le : ∀ a, uni (uni G.S0 fun a => O1 a ∧ a ∉ F1 i) (fpS (F1 i)) a → uni G.S0 O1 a := fun a z => by
    rcases z with (z | z) | z
    · exact .inl z
    · exact .inr z.1
    · exact .inr ((f1.own a).mpr ⟨i, z⟩)
  refine ⟨uni G.S0 fun a => O1 a ∧ a ∉ F1 i, ds, _, F1 i, vj, dj, by rw [List.append_nil, hl]; exact hlen, hlen, by rw [List.append_nil]; exact h1, h2, fun a z => ?_, f1.nd i, fun a ha => ⟨fun z => ?_, (f1.mu i a ha).2⟩, fun m x' d' hm e3 e4 => ?_, Own.go (.less le) n _ dj vj (fun _ _ _ h => h) ho, hq1, fun v H' d d' fp f' st nd hf own vo hfp hz => ?_⟩
  · rcases z with z | z
    · exact f1.s0 a z
    · obtain ⟨o, e, _⟩ := e1.mutO a z.1; rw [e]; simp
  · rcases z with z | z
    · exact (f1.mu i a ha).1 z
    · exact z.2 ha
  · rw [List.append_nil] at e3
    exact Rep.go (.less le) d' x' (hR m x' d' hm e3 e4)
  · have fpn : ∀ a ∈ fp, H1 a = none := fun a ha => by
      rcases hmd with rfl | ⟨m, rfl⟩
      · rw [vo.1] at ha; exact absurd ha (by simp)
      · exact (vo.2.1 a ha).1
    have le2 : ∀ a, uni (uni G.S0 (fpS fp)) (OF (setF F1 i f')) a → uni (uni (uni G.S0 fun a => O1 a ∧ a ∉ F1 i) (fpS fp)) (fpS f') a := fun a z => by
      rcases z with (z | z) | ⟨m, z⟩
      · exact .inl (.inl (.inl z))
      · exact .inl (.inr z)
      · by_cases hmi : m = i
        · rw [hmi, setF_at] at z; exact .inr z
        · rw [setF_ne hmi] at z
          exact .inl (.inl (.inr ⟨(f1.own a).mpr ⟨m, z⟩, fun w => hmi (f1.dis m i a z w)⟩))
    have le3 : ∀ a, uni G.S0 (OF (setF F1 i f')) a → uni (uni G.S0 fun a => O1 a ∧ a ∉ F1 i) (fpS f') a := fun a z => by
      rcases z with z | ⟨m, z⟩
      · exact .inl (.inl z)
      · by_cases hmi : m = i
        · rw [hmi, setF_at] at z; exact .inr z
        · rw [setF_ne hmi] at z
          exact .inl (.inr ⟨(f1.own a).mpr ⟨m, z⟩, fun w => hmi (f1.dis m i a z w)⟩)
    obtain ⟨g1, g2⟩ := EnvF.chg (H' := H') (f' := f') (fp := fp) (d' := d') (v := vj) f1 hdep (fun b o nb e => st.keep b o nb e) st.dom nd (fun a ha => ⟨st.own a ha, (hf a ha).2.2⟩) (fun a ha => ⟨fpn a ha, hfp a ha, fun z => (hf a z).2.1 ha⟩) h3 (Own.go (.less le2) n _ d' vj (fun _ _ _ h => h) own)
    refine k v H' d _ _ fp (s1.trans g2) ⟨_, g1⟩ ?_ (fun h => absurd h Bool.false_ne_true) hz
    rcases hmd with rfl | ⟨m, rfl⟩
    · exact ⟨vo.1, Rep.go (.less le3) d v vo.2⟩
    · refine VOk.base s1 ⟨vo.1, fun a ha => ⟨fpn a ha, fun ⟨m', z⟩ => ?_, (vo.2.1 a ha).2.2⟩, Own.go (.less le2) m fp d v (fun _ _ _ h => h) vo.2.2⟩
      by_cases hmi : m' = i
      · rw [hmi, setF_at] at z; exact (vo.2.1 a ha).2.1 z
      · rw [setF_ne hmi] at z
        obtain ⟨_, o, e, _⟩ := f1.mu m' a z
        rw [fpn a ha] at e; cases e
end
noncomputable abbrev DTI := EnvD → (List D → EnvD → Prop) → Prop
noncomputable def forGo (g : DTG) (T : DTS) (De : DEnds) : List D → EnvD → Prop
  | [], ρ => De.nx ρ
  | d :: ds, ρ => ∃ N : EnvD → Prop, (∀ ρ', N ρ' → forGo g T De ds ρ') ∧ g d ρ fun ρ2 => T { De with nx := N, ct := N, bk := De.nx } ρ2
noncomputable def sFor (I : DTI) (g : DTG) (T : DTS) : DTS := fun De ρ => I ρ fun ds ρ1 => forGo g T De ds ρ1
noncomputable def iL (E : DTE) : DTI := fun ρ q => E ρ fun d ρ' => ∃ ds, d = .lst ds ∧ q ds ρ'
noncomputable def iT (E : DTE) : DTI := fun ρ q => E ρ fun d ρ' => ∃ ds, d = .tup ds ∧ q ds ρ'
noncomputable def iR1 (A : DTA) : DTI := fun ρ q => A ρ fun ds ρ' => ∃ j : Int, ds = [.int j] ∧ -(2 ^ 62) ≤ j ∧ j < 2 ^ 62 ∧ q ((List.range j.toNat).map fun (k : Nat) => D.int (k : Int)) ρ'
noncomputable def G0.with (G : G0) (p : D × V) : G0 := { G with gh := p :: G.gh }
section
variable {K : PySem.W.Frag} {κ : List SK} {G : G0} {O : Addr → Prop} {ρ : EnvD} {σ : St} {H : Hp}
theorem EnvOk.ghost {d : D} {v : V} (h : EnvOk K κ G O ρ σ H) (r : Rep K (uni G.S0 O) H d v) : EnvOk K κ (G.with (d, v)) O ρ σ H := by
  obtain ⟨F, f⟩ := h
  refine ⟨F, f.len, f.own, f.non, f.dis, f.nd, f.mu, f.new, f.par, fun p hp => ?_, f.s0, f.keep, f.dom, f.slot⟩
  rcases List.mem_cons.mp hp with rfl | hp
  · exact r
  · exact f.gh p hp
theorem EnvOk.unghost {p : D × V} {fp : List Addr} (h : EnvOk K κ ((G.with p).plus fp) O ρ σ H) : EnvOk K κ (G.plus fp) O ρ σ H := by
  obtain ⟨F, f⟩ := h
  exact ⟨F, f.len, f.own, f.non, f.dis, f.nd, f.mu, f.new, f.par, fun q hq => f.gh q (List.mem_cons_of_mem _ hq), f.s0, f.keep, f.dom, f.slot⟩
theorem EnvOk.unghost0 {p : D × V} (h : EnvOk K κ (G.with p) O ρ σ H) : EnvOk K κ G O ρ σ H := by
  have q : EnvOk K κ ((G.with p).plus []) O ρ σ H := by rw [plus_nil]; exact h
  have z := q.unghost
  rw [plus_nil] at z
  exact z
theorem EnvOk.ghostOf {p : D × V} (h : EnvOk K κ (G.with p) O ρ σ H) : Rep K (uni G.S0 O) H p.1 p.2 := by
  obtain ⟨F, f⟩ := h
  exact f.gh p (by simp [G0.with])
end
section
variable {X : Cx} {κ : List SK} {md : SK} {pu : Bool} {tg iter c : Expr} {body : List Stmt} {E : DTE} {A : DTA} {C : DTT} {g : DTG} {T : DTS} {pos p : Pos}
theorem reps_args {K : PySem.W.Frag} {S : Addr → Prop} {H : Hp} {ns : List Int} {vs : List V} (h : Reps K S H (ns.map D.int) vs) : vs = ns.map V.int := by
  induction ns generalizing vs with
  | nil => simpa only [List.map_nil, Reps] using h
  | cons n ns ih =>
    simp only [List.map_cons, Reps] at h
    obtain ⟨v, r, rfl, h1, h2⟩ := h
    rw [ih h2]
    simp only [Rep] at h1
    rw [h1]; rfl
end
noncomputable def ItOk (K : PySem.W.Frag) (S : Addr → Prop) (H : Hp) (J : It) (ds : List D) : Prop := ∃ d v, Rep K S H d v ∧ ∀ S H', Rep K S H' d v → ∀ i, (∀ d', ds[i]? = some d' → J.go i H' ∧ ∀ x H'', J.yld i H' x H'' → Same H' H'' ∧ Rep K S H'' d' x) ∧ (ds[i]? = none → J.stop i H')
noncomputable def tDI (K : PySem.W.Frag) (κ : List SK) (pu lo : Bool) (I : DTI) : TI := fun σ H R => ∃ G O ρ q, EnvOk K κ G O ρ σ H ∧ I ρ q ∧ ∀ J H1 ds ρ1 O1, Step O O1 H H1 → EnvOk K κ G O1 ρ1 σ H1 → Pu pu ρ ρ1 O O1 H H1 → ItOk K (Sx lo G.S0 O1) H1 J ds → q ds ρ1 → R J H1
structure DI (X : Cx) (κ : List SK) (pu lo : Bool) (tg iter : Expr) (I : DTI) : Prop where
  h : PI X tg iter (tDI X.K κ pu lo I)
theorem PI.weak {X : Cx} {tg iter : Expr} {t t' : TI} (h : PI X tg iter t) (w : ∀ σ H R, t' σ H R → t σ H R) : PI X tg iter t' := fun pins s σ H R I q => h pins s σ H R I (w σ H R q)
section
variable {X : Cx} {κ : List SK} {md m : SK} {pu lo : Bool} {tg iter c a b : Expr} {body : List Stmt} {E : DTE} {A : DTA} {C : DTT} {g : DTG} {T : DTS} {I : DTI} {pos p : Pos}
theorem itok_l {K : PySem.W.Frag} {S : Addr → Prop} {H : Hp} {a : Addr} {ds : List D} (r : Rep K S H (.lst ds) (.ref a)) : ItOk K S H (Itl K a) ds := by
  refine ⟨_, _, r, fun S H' q i => ?_⟩
  simp only [Rep] at q
  obtain ⟨b, ws, eb, _, hrd, hr⟩ := q
  cases eb
  refine ⟨fun d e => ?_, fun e => ⟨ws, .inl hrd, by rw [hr.len]; exact List.getElem?_eq_none_iff.mp e⟩⟩
  obtain ⟨u, e2, ru⟩ := hr.get e
  refine ⟨⟨ws, u, .inl hrd, e2⟩, fun x H'' ⟨eH, y⟩ => ?_⟩
  subst eH
  refine ⟨.refl _, ?_⟩
  have := y ws (.inl hrd)
  rw [e2] at this; cases this
  exact ru
theorem itok_t {K : PySem.W.Frag} {S : Addr → Prop} {H : Hp} {a : Addr} {ds : List D} (r : Rep K S H (.tup ds) (.ref a)) : ItOk K S H (Itt K a) ds := by
  refine ⟨_, _, r, fun S H' q i => ?_⟩
  simp only [Rep] at q
  obtain ⟨b, ws, eb, hrd, hr⟩ := q
  cases eb
  refine ⟨fun d e => ?_, fun e => ⟨ws, hrd, by rw [hr.len]; exact List.getElem?_eq_none_iff.mp e⟩⟩
  obtain ⟨u, e2, ru⟩ := hr.get e
  refine ⟨⟨ws, u, hrd, e2⟩, fun x H'' ⟨eH, y⟩ => ?_⟩
  subst eH
  refine ⟨.refl _, ?_⟩
  have := y ws hrd
  rw [e2] at this; cases this
  exact ru
theorem itok_r {K : PySem.W.Frag} {S : Addr → Prop} {H : Hp} {lo : Int} {n : Nat} {ds : List D} (hd : ds = (List.range n).map fun (k : Nat) => D.int (lo + (k : Int))) : ItOk K S H (Itr lo n) ds := by
  refine ⟨.non, .non, by simp only [Rep], fun S H' _ i => ?_⟩
  subst hd
  refine ⟨fun d e => ?_, fun e => ?_⟩
  · rw [List.getElem?_map] at e
    by_cases hi : i < n
    · rw [List.getElem?_range hi] at e
      simp only [Option.map_some, Option.some.injEq] at e
      subst e
      refine ⟨hi, fun x H'' ⟨eH, ex⟩ => ?_⟩
      subst eH
      refine ⟨.refl _, ?_⟩
      simp only [Rep]
      exact ex
    · rw [List.getElem?_eq_none_iff.mpr (by simpa using hi)] at e
      cases e
  · have := List.getElem?_eq_none_iff.mp e
    show n ≤ i
    simpa using this
theorem diL (hm : isV m) (h : DE X κ pu m iter E) : DI X κ pu (loB m) tg iter (iL E) := by
  refine ⟨(pi_list h.h).weak fun σ H R hh_ => ?_⟩
  obtain ⟨G, O, ρ, q, hE, hq, k⟩ := hh_
  refine ⟨G, O, ρ, _, hE, hq, fun v H1 d ρ1 O1 fp s1 e1 vo p1 hz_ => ?_⟩
  obtain ⟨ds, ed, hq1⟩ := hz_
  subst ed
  have r := vo.now (lo := loB m) hm (fun z => by rw [z]; rfl)
  have r0 := r
  simp only [Rep] at r
  obtain ⟨a, vs, rfl, nS, hrd, hr⟩ := r
  exact ⟨a, rfl, ⟨vs, .inl hrd⟩, k _ H1 ds ρ1 O1 s1 e1.drop p1 (itok_l r0) hq1⟩
theorem diT (hm : isV m) (h : DE X κ pu m iter E) : DI X κ pu (loB m) tg iter (iT E) := by
  refine ⟨(pi_tup h.h).weak fun σ H R hh_ => ?_⟩
  obtain ⟨G, O, ρ, q, hE, hq, k⟩ := hh_
  refine ⟨G, O, ρ, _, hE, hq, fun v H1 d ρ1 O1 fp s1 e1 vo p1 hz_ => ?_⟩
  obtain ⟨ds, ed, hq1⟩ := hz_
  subst ed
  have r := vo.now (lo := loB m) hm (fun z => by rw [z]; rfl)
  have r0 := r
  simp only [Rep] at r
  obtain ⟨a, vs, rfl, hrd, hr⟩ := r
  exact ⟨a, rfl, ⟨vs, hrd⟩, k _ H1 ds ρ1 O1 s1 e1.drop p1 (itok_t r0) hq1⟩
theorem diR1 (hpl : plainE a = true) (hgl : Gl X "range") (hm : X.mg "range" = none) (hi : DA X κ pu lo [a] A) : DI X κ pu false tg (.Call (.Name "range" p) [a] [] pos) (iR1 A) := by
  refine ⟨(xrange1 hpl hgl hm hi.h).weak fun σ H R hh_ => ?_⟩
  obtain ⟨G, O, ρ, q, hE, hq, k⟩ := hh_
  refine ⟨G, O, ρ, _, hE, hq, fun vs H1 ds ρ1 O1 s1 e1 r1 p1 hz_ => ?_⟩
  obtain ⟨j, ed, b1, b2, hq1⟩ := hz_
  subst ed
  exact ⟨j, reps_args (ns := [j]) r1, b1, b2, k _ H1 _ ρ1 O1 s1 e1 p1 (itok_r (by simp)) hq1⟩
theorem for_go2 {K : PySem.W.Frag} {J : It} {G : G0} {O : Addr → Prop} {ρ : EnvD} {σ : St} {H : Hp} {De : DEnds} {Dn : Ends} {ds : List D} (hE : EnvOk K κ G O ρ σ H) (hgo : forGo g T De ds ρ)
    (hJ : ∀ (i : Nat) (O : Addr → Prop) (ρ : EnvD) (σ : St) (H : Hp), EnvOk K κ G O ρ σ H → (∀ d, ds[i]? = some d → J.go i H ∧ ∀ x H', J.yld i H x H' → Same H H' ∧ Rep K (uni G.S0 O) H' d x) ∧ (ds[i]? = none → J.stop i H))
    (nx : ∀ σ' H' ρ' O', EnvOk K κ G O' ρ' σ' H' → De.nx ρ' → Dn.nx σ' H') (bk : ∀ σ' H' ρ' O', EnvOk K κ G O' ρ' σ' H' → De.bk ρ' → Dn.bk σ' H') (ct : ∀ σ' H' ρ' O', EnvOk K κ G O' ρ' σ' H' → De.ct ρ' → Dn.ct σ' H')
    (rt : ∀ v H' d ρ' O' fp σ', EnvOk K κ (G.plus fp) O' ρ' σ' H' → VOk K G.S0 O' G.H0 H' fp md d v → De.rt d ρ' → Dn.rt v H') :
    ∃ W : Nat → Nat → St → Hp → Prop, (∃ m, W 0 m σ H) ∧ ∀ i m σ H, W i m σ H →
      (J.stop i H ∧ Dn.nx σ H) ∨ (J.go i H ∧ ∃ N : St → Hp → Prop, (∀ σ' H', N σ' H' → ∃ m', m' < m ∧ W (i + 1) m' σ' H') ∧ ∀ x H', J.yld i H x H' → tDG K κ .cl g x σ H' fun σ2 H2 => tDS K κ md T { Dn with nx := N, ct := N, bk := Dn.nx } σ2 H2) := by
  refine ⟨fun i m σ H => m + i = ds.length ∧ ∃ ρ O, EnvOk K κ G O ρ σ H ∧ forGo g T De (ds.drop i) ρ, ⟨ds.length, rfl, ρ, O, hE, hgo⟩, ?_⟩
  rintro i m σ H ⟨hm, ρ, O, hE, hg⟩
  obtain ⟨h1, h2⟩ := hJ i O ρ σ H hE
  cases e : ds[i]? with
  | none =>
    left
    have hi : ds.length ≤ i := List.getElem?_eq_none_iff.mp e
    rw [List.drop_eq_nil_of_le hi] at hg
    exact ⟨h2 e, nx σ H ρ O hE hg⟩
  | some d =>
    right
    obtain ⟨g1, g2⟩ := h1 d e
    have hi : i < ds.length := (List.getElem?_eq_some_iff.mp e).1
    have ed : ds.drop i = d :: ds.drop (i + 1) := by
      rw [List.drop_eq_getElem_cons hi]
      congr 1
      exact (List.getElem?_eq_some_iff.mp e).2
    rw [ed] at hg
    obtain ⟨Nd, hNd, hg⟩ := hg
    refine ⟨g1, fun σ' H' => ∃ ρ' O', EnvOk K κ G O' ρ' σ' H' ∧ Nd ρ', fun σ' H' ⟨ρ', O', e', hg'⟩ => ⟨ds.length - (i + 1), by omega, by omega, ρ', O', e', hNd _ hg'⟩, fun x H' y => ?_⟩
    obtain ⟨sm, r⟩ := g2 x H' y
    exact ⟨G, O, ρ, _, d, hE.same0 sm, r, hg, fun σ' ρ' e' hT => ⟨G, O, ρ', _, e', hT, fun σ2 H2 ρ2 O2 e2 hg2 => ⟨ρ2, O2, e2, hg2⟩, fun σ2 H2 ρ2 O2 e2 hg2 => nx σ2 H2 ρ2 O2 e2 hg2, fun σ2 H2 ρ2 O2 e2 hg2 => ⟨ρ2, O2, e2, hg2⟩, rt⟩⟩
theorem dfor (hs : ∀ x, foldedSetIterable iter X.env x = pure x) (hp : PassesOwn (model X.prog X.w) X.A X.env X.xe) (hc : X.calm = true) (hi : DI X κ pu false tg iter I) (hg : DG X κ .cl tg g) (hb : DSs X κ md body T) : DS X κ md (.For tg iter body [] pos) (sFor I g T) := by
  refine ⟨(ps_for hp hc hi.h hg.h hb.h hs).weak fun Dn σ H hh_ => ?_⟩
  obtain ⟨G, O, ρ, De, hE, hT, nx, bk, ct, rt⟩ := hh_
  refine ⟨G, O, ρ, _, hE, hT, fun J H1 ds ρ1 O1 s1 e1 p1 ⟨d, v, r, hJ⟩ hq => ?_⟩
  exact for_go2 (G := G.with (d, v)) (e1.ghost r) hq (fun i O ρ σ H hE => hJ _ H hE.ghostOf i) (fun σ' H' ρ' O' e => nx σ' H' ρ' O' e.unghost0) (fun σ' H' ρ' O' e => bk σ' H' ρ' O' e.unghost0) (fun σ' H' ρ' O' e => ct σ' H' ρ' O' e.unghost0) fun v H' d ρ' O' fp σ' e vo => rt v H' d ρ' O' fp σ' e.unghost vo
end
noncomputable def inD (js : List (Option Nat)) (ρ : EnvD) : EnvD := js.map fun j => match j with | some j => (match ρ[j]? with | some v => v | none => none) | none => none
noncomputable def compGo (g : DTG) (C : DTT) (E : DTE) : List D → List D → EnvD → (List D → EnvD → Prop) → Prop
  | [], acc, ρ, q => q acc ρ
  | d :: ds, acc, ρ, q => ∃ N : List D → EnvD → Prop, (∀ acc' ρ', N acc' ρ' → compGo g C E ds acc' ρ' q) ∧ g d ρ fun ρ1 => C ρ1 fun b ρ2 => if b = true then E ρ2 fun z ρ3 => acc.length < sizeLine ∧ N (acc ++ [z]) ρ3 else N acc ρ2
noncomputable def eComp (js : List (Option Nat)) (I : DTI) (g : DTG) (C : DTT) (E : DTE) : DTE := fun ρ q => I ρ fun ds ρ1 => compGo g C E ds [] (inD js ρ1) fun acc _ => q (.lst acc) ρ1
noncomputable def eCompX (κ : List SK) (i pI : Nat) (js : List (Option Nat)) (I : DTI) (g : DTG) (C : DTT) (E : DTE) : DTE := fun ρ q => I ρ fun ds ρ1 => compGo g C E ds [] (inD js ρ1) fun acc ρin => ∃ d', ρin[pI]? = some (some d') ∧ q (.lst acc) (kl κ (ρ1.set i (some d')))
structure DIf (X : Cx) (κ : List SK) (ifs : List Expr) (C : DTT) : Prop where
  h : PIfs X ifs (tDT X.K κ false C)
noncomputable def eYes : DTT := fun ρ q => q true ρ
theorem PIfs.weak {X : Cx} {e : List Expr} {t t' : TT} (h : PIfs X e t) (w : ∀ σ H Q, t' σ H Q → t σ H Q) : PIfs X e t' := fun pins s σ H Q I q => h pins s σ H Q I (w σ H Q q)
theorem dif0 {X : Cx} {κ : List SK} : DIf X κ [] eYes := ⟨pif0.weak fun σ H Q hh_ => by obtain ⟨G, O, ρ, q, hE, hq, k⟩ := hh_; exact k true H ρ O (.refl _ _) hE (fun h => absurd h Bool.false_ne_true) hq⟩
theorem dif1 {X : Cx} {κ : List SK} {pu : Bool} {c : Expr} {C : DTT} (h : DT X κ pu c C) : DIf X κ [c] C := ⟨(pif1 h.h).weak fun σ H Q hh_ => by obtain ⟨G, O, ρ, q, hE, hq, k⟩ := hh_; exact ⟨G, O, ρ, q, hE, hq, fun b H' ρ' O' s e p z => k b H' ρ' O' s e (fun h => absurd h Bool.false_ne_true) z⟩⟩
section
variable {K : PySem.W.Frag} {κ : List SK} {G : G0} {O : Addr → Prop} {ρ : EnvD} {σ : St} {H : Hp}
theorem EnvOk.updS {p : Addr} {o o' : HO} (h : EnvOk K κ G O ρ σ H) (hS : G.S0 p) (hp : H p = some o') (m : isM o') (h0 : G.H0 p = none) : EnvOk K κ G O ρ σ (upd H p o) := by
  obtain ⟨F, f⟩ := h
  have ne : ∀ k a, a ∈ F k → a ≠ p := fun k a ha z => (f.mu k a ha).1 (by rw [z]; exact hS)
  have gU : Goes (uni G.S0 O) (uni G.S0 O) H (upd H p o) := Goes.upd hp m (.inl hS)
  refine ⟨F, f.len, f.own, f.non, f.dis, f.nd, fun k a ha => ?_, f.new, f.par, fun q hq => Rep.go gU _ _ (f.gh q hq), fun a z => ?_, fun b ob n e => ?_, fun b e => ?_, fun k d e => ?_⟩
  · obtain ⟨z1, ob, z2, z3⟩ := f.mu k a ha
    exact ⟨z1, ob, by rw [upd_ne (ne k a ha)]; exact z2, z3⟩
  · by_cases hap : a = p
    · rw [hap, upd_same]; simp
    · rw [upd_ne hap]; exact f.s0 a z
  · have hbp : b ≠ p := by rintro rfl; rw [h0] at e; cases e
    rw [upd_ne hbp]; exact f.keep b ob n e
  · by_cases hap : b = p
    · rw [hap, upd_same]; simp
    · rw [upd_ne hap]; exact f.dom b e
  · obtain ⟨v, e1, e2⟩ := f.slot k d e
    refine ⟨v, e1, ?_⟩
    cases q : kd κ k with
    | cl => rw [q] at e2; exact Rep.go gU d v e2
    | ow n => rw [q] at e2; exact Own.go gU n _ d v (fun a ha ob eo => by rw [upd_ne (ne k a ha)]; exact eo) e2
    | io n => rw [q] at e2; exact Own.go gU n _ d v (fun a ha ob eo => by rw [upd_ne (ne k a ha)]; exact eo) e2
    | lo => rw [q] at e2; exact Rep.go (Goes.upd hp m hS) d v e2
theorem EnvOk.read {i : Nat} {d : D} (h : EnvOk K κ G O ρ σ H) (e : ρ[i]? = some (some d)) : ∃ v, σ[i]? = some (some v) ∧ Rep K G.S0 H d v ∧ (kd κ i = .cl → Rep K (uni G.S0 O) H d v) := by
  obtain ⟨F, f⟩ := h
  obtain ⟨v, h1, h2⟩ := f.slot i d e
  refine ⟨v, h1, ?_, fun z => by rw [z] at h2; exact h2⟩
  cases e : kd κ i with
  | cl => rw [e] at h2; exact Rep.go (.less fun _ z => .inl z) d v h2
  | lo => rw [e] at h2; exact h2
  | ow n => rw [e] at h2; exact Own.rep n (F i) d v (fun a ha => (f.mu i a ha).1) (fun _ z => .inl z) h2
  | io n => rw [e] at h2; exact Own.rep n (F i) d v (fun a ha => (f.mu i a ha).1) (fun _ z => .inl z) h2
theorem inD_get {js : List (Option Nat)} {p : Nat} {d : D} (h : (inD js ρ)[p]? = some (some d)) : ∃ j, js[p]? = some (some j) ∧ ρ[j]? = some (some d) := by
  unfold inD at h
  rw [List.getElem?_map] at h
  cases e : js[p]? with
  | none => rw [e] at h; cases h
  | some oj =>
    rw [e] at h
    cases oj with
    | none => cases h
    | some j =>
      simp only [Option.map_some, Option.some.injEq] at h
      refine ⟨j, rfl, ?_⟩
      cases e2 : ρ[j]? with
      | none => rw [e2] at h; cases h
      | some v => rw [e2] at h; rw [show v = some d from h]
theorem inSt_get {js : List (Option Nat)} {p j : Nat} {v : V} (h : js[p]? = some (some j)) (e : σ[j]? = some (some v)) : (inSt js σ)[p]? = some (some v) := by
  unfold inSt
  rw [List.getElem?_map, h]
  simp only [Option.map_some]
  rw [e]
end
theorem drop_at {α : Type} {ds : List α} {i : Nat} {d : α} (e : ds[i]? = some d) : ds.drop i = d :: ds.drop (i + 1) := by
  have hi : i < ds.length := (List.getElem?_eq_some_iff.mp e).1
  rw [List.drop_eq_getElem_cons hi]
  congr 1
  exact (List.getElem?_eq_some_iff.mp e).2
theorem Reps.snoc {K : PySem.W.Frag} {S : Addr → Prop} {H : Hp} : ∀ {l : List D} {vs : List V} {d : D} {v : V}, Reps K S H l vs → Rep K S H d v → Reps K S H (l ++ [d]) (vs ++ [v])
  | [], vs, d, v, h, r => by
    simp only [Reps] at h; subst h
    simp only [List.nil_append, Reps]
    exact ⟨v, [], rfl, r, rfl⟩
  | x :: l, vs, d, v, h, r => by
    simp only [Reps] at h
    obtain ⟨u, t, rfl, h1, h2⟩ := h
    simp only [List.cons_append, Reps]
    exact ⟨u, t ++ [v], rfl, h1, h2.snoc r⟩
section
variable {X : Cx} {κ : List SK} {pu lo : Bool} {I : DTI} {g : DTG} {C : DTT} {E : DTE} {js : List (Option Nat)} {K : PySem.W.Frag}
theorem comp_go (hcap : lo = false → ∀ j ∈ js, ∀ i, j = some i → kd κ i = .cl) {pe : Bool} {lo0 : Bool} (hlo : lo0 = true → lo = true) {σ : St} {H : Hp} {Q : VK} (h : tD K κ pu (outM lo (.ow 1)) (eComp js I g C E) σ H Q) :
    tComp js (tDI K κ pu lo0 I) (tDG K [] .cl g) (tDT K [] false C) (tD K [] pe .cl E) σ H Q := by
  obtain ⟨G, O, ρ, q, hE, hq, k⟩ := h
  refine ⟨G, O, ρ, _, hE, hq, fun J H1 ds ρ1 O1 s1 e1 p1 ⟨di, vi, ri, hJ⟩ hgo Dl hD => ?_⟩
  let S := uni (Sx lo G.S0 O1) (· = Dl)
  let Gi : G0 := ⟨S, fun _ => False, H1, inSt js σ, []⟩
  have ri' : Rep K (Sx lo G.S0 O1) H1 di vi := by
    cases lo with
    | false =>
      cases lo0 with
      | false => exact ri
      | true => exact absurd (hlo rfl) Bool.false_ne_true
    | true =>
      cases lo0 with
      | false => exact Rep.go (.less fun _ z => .inl z) di vi ri
      | true => exact ri
  have u0 : uni S (fun _ => False) = S := by funext a; simp [uni]
  have start : EnvOk K [] Gi (fun _ => False) (inD js ρ1) (inSt js σ) (upd H1 Dl (.lst [])) := by
    refine ⟨fun _ => [], ?_, fun a => by simp, fun _ _ => rfl, fun i j a h => absurd h (by simp), fun _ => by simp, fun i a h => absurd h (by simp), fun i a h => absurd h (by simp), fun i n e => rfl, fun p hp => absurd hp (by simp [Gi]), fun a z => ?_, fun b o _ e => ?_, fun b e => ?_, fun p d e => ?_⟩
    · simp [inD, inSt]
    · rcases z with z | z
      · have := Sx_dom (lo := lo) e1 a z
        by_cases hab : a = Dl
        · rw [hab, upd_same]; simp
        · rw [upd_ne hab]; exact this
      · rw [z, upd_same]; simp
    · rw [upd_ne (ne_of_none e hD)]; exact e
    · by_cases hab : b = Dl
      · rw [hab, upd_same]; simp
      · rw [upd_ne hab]; exact e
    · obtain ⟨j, hj, e2⟩ := inD_get e
      obtain ⟨v, h1, h2, h3⟩ := e1.read e2
      refine ⟨v, inSt_get hj h1, ?_⟩
      show Rep K (uni S fun _ => False) _ d v
      rw [u0]
      refine Rep.go (Goes.fresh hD) d v ?_
      cases lo with
      | true => exact h2
      | false => exact h3 (hcap rfl (some j) (List.mem_of_getElem? hj) j rfl)
  have empty : ∀ {O' : Addr → Prop} {ρ' : EnvD} {σ' : St} {H' : Hp}, EnvOk K [] Gi O' ρ' σ' H' → O' = fun _ => False := fun {O' ρ' σ' H'} h => by
    obtain ⟨F, f⟩ := h
    funext a
    have : ¬ O' a := fun z => by
      obtain ⟨i, hi⟩ := (f.own a).mp z
      rw [f.non i (by simp [kd, dep])] at hi
      exact absurd hi (by simp)
    simp [this]
  have sameIn : ∀ {O' : Addr → Prop} {ρ' : EnvD} {σ' : St} {H' : Hp}, EnvOk K [] Gi O' ρ' σ' H' → Same H1 H' := fun h => by
    obtain ⟨F, f⟩ := h
    exact fun b o e => f.keep b o (fun z => z) e
  refine ⟨fun i m σ' H' => m + i = ds.length ∧ ∃ ρi acc vs, EnvOk K [] Gi (fun _ => False) ρi σ' H' ∧ H' Dl = some (.lst vs) ∧ Reps K S H' acc vs ∧ compGo g C E (ds.drop i) acc ρi (fun acc _ => q (.lst acc) ρ1), ⟨ds.length, rfl, _, [], [], start, upd_same, by simp only [Reps], hgo⟩, ?_⟩
  rintro i m σ' H' ⟨hm, ρi, acc, vs, en, hDl, hacc, hg⟩
  have sm := sameIn en
  have hit := hJ _ H' (Rep.go (Goes.same sm) di vi ri') i
  cases e : ds[i]? with
  | none =>
    left
    have hi : ds.length ≤ i := List.getElem?_eq_none_iff.mp e
    rw [List.drop_eq_nil_of_le hi] at hg
    refine ⟨hit.2 e, ?_⟩
    have vr : VRes K (Sx lo G.S0 O1) H1 H' [Dl] (.ow 1) (.lst acc) (.ref Dl) := by
      refine ⟨by simp, fun a ha => ?_, ?_⟩
      · obtain rfl : a = Dl := by simpa using ha
        exact ⟨hD, _, hDl, trivial⟩
      · simp only [Own]
        have eq : uni (Sx lo G.S0 O1) (fpS [Dl]) = S := by funext a; simp [uni, fpS, S]
        refine ⟨Dl, acc.map fun _ => [], rfl, by simp, .inl ⟨acc, vs, rfl, hDl, by simp, hacc.len, fun i f x u e1 e2 e3 => ⟨?_, ?_⟩⟩⟩
        · rw [List.getElem?_map, e2] at e1; simpa using e1.symm
        · obtain ⟨u', e4, r⟩ := hacc.get e2
          rw [e3] at e4; cases e4
          rw [eq]; exact r
    obtain ⟨fp', st, en', vo⟩ := VRes.fin e1 s1 sm vr (by simp)
    exact k _ H' _ ρ1 O1 fp' st en' vo (p1.same sm) hg
  | some d =>
    right
    rw [drop_at e] at hg
    obtain ⟨Nd, hNd, hg⟩ := hg
    obtain ⟨g1, g2⟩ := hit.1 d e
    have hi : i < ds.length := (List.getElem?_eq_some_iff.mp e).1
    refine ⟨g1, fun σ2 H2 => ∃ ρi acc vs, EnvOk K [] Gi (fun _ => False) ρi σ2 H2 ∧ H2 Dl = some (.lst vs) ∧ Reps K S H2 acc vs ∧ compGo g C E (ds.drop (i + 1)) acc ρi (fun acc _ => q (.lst acc) ρ1), fun σ2 H2 ⟨ρi, acc, vs, z⟩ => ⟨ds.length - (i + 1), by omega, by omega, ρi, acc, vs, z⟩, fun x H2 y => ?_⟩
    -- the item: it keeps from the list too
    have hit2 := hJ S H' (by
      have q1 := Rep.go (Goes.fresh (o := .lst []) hD) di vi ri'
      have g3 : Goes S S (upd H1 Dl (.lst [])) H' := by
        refine ⟨fun a xs z => ?_, fun a u nS z => ⟨?_, nS⟩, fun a o u z => by
          have hab : a ≠ Dl := by rintro rfl; rw [upd_same] at z; cases z
          rw [upd_ne hab] at z; exact sm _ _ z⟩
        · obtain ⟨_, ez⟩ := z.some
          by_cases hab : a = Dl
          · subst hab
            rcases z with z | ⟨_, z⟩ <;> (rw [upd_same] at z; cases z)
          · rcases z with z | ⟨o, z⟩
            · rw [upd_ne hab] at z; exact .inl (sm _ _ z)
            · rw [upd_ne hab] at z; exact .inr ⟨o, sm _ _ z⟩
        · have hab : a ≠ Dl := fun z => nS (.inr z)
          rcases z with z | ⟨o, z⟩
          · rw [upd_ne hab] at z; exact .inl (sm _ _ z)
          · rw [upd_ne hab] at z; exact .inr ⟨o, sm _ _ z⟩
      exact Rep.go g3 di vi q1) i
    obtain ⟨sm2, rx⟩ := (hit2.1 d e).2 x H2 y
    have en2 := en.same0 sm2
    have hDl2 := sm2 _ _ hDl
    have hacc2 := Reps.go (Goes.same sm2) acc vs hacc
    refine ⟨Gi, _, ρi, _, d, en2, (by rw [show Sx (loB .cl) Gi.S0 (fun _ => False) = uni S fun _ => False from rfl, u0]; exact rx), hg, fun σ3 ρ3 e3 hc => ⟨Gi, _, ρ3, _, e3, hc, fun b H4 ρ4 O4 s4 e4 p4 hb => ?_⟩⟩
    have o4 := empty e4
    subst o4
    have sm4 : Same H2 H4 := fun b o e => s4.keep b o (fun z => z) e
    have hDl4 := sm4 _ _ hDl2
    have hacc4 := Reps.go (Goes.same sm4) acc vs hacc2
    cases b with
    | false =>
      rw [if_neg Bool.false_ne_true] at hb
      exact iteF ⟨ρ4, acc, vs, e4, hDl4, hacc4, hNd _ _ hb⟩
    | true =>
      rw [if_pos rfl] at hb
      refine iteT ⟨Gi, _, ρ4, _, e4, hb, fun v H5 z ρ5 O5 fp s5 e5 vo p5 ⟨hlen, hz⟩ => ?_⟩
      have e5' := e5.drop
      have o5 := empty e5'
      subst o5
      have sm5 : Same H4 H5 := fun b o e => s5.keep b o (fun z => z) e
      have hDl5 := sm5 _ _ hDl4
      have hacc5 := Reps.go (Goes.same sm5) acc vs hacc4
      refine ⟨vs, hDl5, by rw [hacc.len]; exact hlen, ρ5, acc ++ [z], vs ++ [v], e5'.updS (.inr rfl) hDl5 trivial hD, upd_same, ?_, hNd _ _ hz⟩
      have gU : Goes S S H5 (upd H5 Dl (.lst (vs ++ [v]))) := Goes.upd hDl5 trivial (.inr rfl)
      have rv := vo.2
      rw [show uni Gi.S0 (fun _ => False) = S from u0] at rv
      exact Reps.snoc (Reps.go gU acc vs hacc5) (Rep.go gU z v rv)
variable {tg elt iter : Expr} {ifs : List Expr} {scope : Scope} {pos : Pos} {Nc : List Str} {lo0 pe md : Bool}
theorem dcomp (hs : ∀ x, foldedSetIterable iter X.env x = pure x) (hc : X.calm = true) (hcap : lo = false → ∀ j ∈ js, ∀ i, j = some i → kd κ i = .cl) (hlo : lo0 = true → lo = true) (hi : DI X κ pu lo0 tg iter I) (S : CompSc X Nc js scope)
    (hb : ∀ pins fp H s C', DG (cxComp X Nc scope pins fp H s C') [] .cl tg g ∧ DIf (cxComp X Nc scope pins fp H s C') [] ifs C ∧ DE (cxComp X Nc scope pins fp H s C') [] pe .cl elt E) :
    DE X κ pu (outM lo (.ow 1)) (.ListComp elt [⟨tg, iter, ifs, 0⟩] scope pos) (eComp js I g C E) :=
  ⟨(pe_comp hc hi.h S (fun p f H s C' => let ⟨x, y, z⟩ := hb p f H s C'; ⟨x.h, y.h, z.h⟩) hs).weak fun σ H Q h => comp_go (K := X.K) hcap hlo h⟩
end
section
variable {X : Cx} {κ κc : List SK} {pu : Bool} {I : DTI} {g : DTG} {C : DTT} {E : DTE} {js : List (Option Nat)} {K : PySem.W.Frag} {i0 pI n : Nat}
theorem compX_go (hd : dep (kd κ i0) = some n) (hpI : kd κc pI = .io n) (hjI : js[pI]? = some (some i0)) (hκc : ∀ p, p ≠ pI → kd κc p = .cl) (hcap : ∀ p j, p ≠ pI → js[p]? = some (some j) → kd κ j = .cl) {pe : Bool} {σ : St} {H : Hp} {Q : VK} (h : tD K κ false (.ow 1) (eCompX κ i0 pI js I g C E) σ H Q) :
    tComp js (tDI K κ pu false I) (tDG K κc .cl g) (tDT K κc false C) (tD K κc pe .cl E) σ H Q := by
  obtain ⟨G, O, ρ, q, hE, hq, k⟩ := h
  refine ⟨G, O, ρ, _, hE, hq, fun J H1 ds ρ1 O1 s1 e1 p1 ⟨di, vi, ri, hJ⟩ hgo Dl hD => ?_⟩
  obtain ⟨F, f⟩ := id e1
  let S1 : Addr → Prop := uni G.S0 fun a => O1 a ∧ a ∉ F i0
  let S := uni S1 (· = Dl)
  let Gi : G0 := ⟨S, fpS (F i0), H1, inSt js σ, [(di, vi)]⟩
  have eqS : ∀ a, uni S (fpS (F i0)) a ↔ uni (uni G.S0 O1) (· = Dl) a := fun a => by
    constructor
    · rintro (((z | z) | z) | z)
      · exact .inl (.inl z)
      · exact .inl (.inr z.1)
      · exact .inr z
      · exact .inl (.inr ((f.own a).mpr ⟨i0, z⟩))
    · rintro ((z | z) | z)
      · exact .inl (.inl (.inl z))
      · by_cases ha : a ∈ F i0
        · exact .inr ha
        · exact .inl (.inl (.inr ⟨z, ha⟩))
      · exact .inl (.inr z)
  have toIn : ∀ d v, Rep K (uni G.S0 O1) H1 d v → Rep K (uni S (fpS (F i0))) (upd H1 Dl (.lst [])) d v := fun d v r => Rep.go (.less fun a => (eqS a).mp) d v (Rep.go (Goes.fresh hD) d v r)
  have start : EnvOk K κc Gi (fpS (F i0)) (inD js ρ1) (inSt js σ) (upd H1 Dl (.lst [])) := by
    refine ⟨setF (fun _ => []) pI (F i0), ?_, fun a => ?_, fun p hn => ?_, fun p p' a h1 h2 => ?_, fun p => ?_, fun p a ha => ?_, fun p a ha => ?_, fun p n e => rfl, fun p hp => ?_, fun a z => ?_, fun b o _ e => ?_, fun b e => ?_, fun p d e => ?_⟩
    · simp [inD, inSt]
    · constructor
      · intro z; exact ⟨pI, by rw [setF_at]; exact z⟩
      · rintro ⟨p, z⟩
        by_cases hp : p = pI
        · rw [hp, setF_at] at z; exact z
        · rw [setF_ne hp] at z; exact absurd z (by simp)
    · have hp : p ≠ pI := by rintro rfl; rw [hpI] at hn; cases hn
      rw [setF_ne hp]
    · by_cases hp : p = pI
      · by_cases hp' : p' = pI
        · rw [hp, hp']
        · rw [setF_ne hp'] at h2; exact absurd h2 (by simp)
      · rw [setF_ne hp] at h1; exact absurd h1 (by simp)
    · by_cases hp : p = pI
      · rw [hp, setF_at]; exact f.nd i0
      · rw [setF_ne hp]; simp
    · by_cases hp : p = pI
      · rw [hp, setF_at] at ha
        obtain ⟨n1, o, eo, m⟩ := f.mu i0 a ha
        have hne : a ≠ Dl := by rintro rfl; rw [hD] at eo; cases eo
        refine ⟨?_, o, by rw [upd_ne hne]; exact eo, m⟩
        rintro ((z | z) | z)
        · exact n1 z
        · exact z.2 ha
        · exact hne z
      · rw [setF_ne hp] at ha; exact absurd ha (by simp)
    · by_cases hp : p = pI
      · rw [hp, setF_at] at ha; exact .inl ⟨⟨n, by rw [hp]; exact hpI⟩, ha⟩
      · rw [setF_ne hp] at ha; exact absurd ha (by simp)
    · obtain rfl : p = (di, vi) := by simpa [Gi] using hp
      exact toIn di vi ri
    · rcases z with (z | z) | z
      · by_cases hab : a = Dl
        · rw [hab, upd_same]; simp
        · rw [upd_ne hab]; exact f.s0 a z
      · obtain ⟨o, eo, _⟩ := e1.mutO a z.1
        have hne : a ≠ Dl := by rintro rfl; rw [hD] at eo; cases eo
        rw [upd_ne hne, eo]; simp
      · rw [z, upd_same]; simp
    · rw [upd_ne (ne_of_none e hD)]; exact e
    · by_cases hab : b = Dl
      · rw [hab, upd_same]; simp
      · rw [upd_ne hab]; exact e
    · obtain ⟨j, hj, e2⟩ := inD_get e
      by_cases hp : p = pI
      · subst hp
        rw [hjI] at hj; cases hj
        obtain ⟨v, h1, h2⟩ := f.slot i0 d e2
        refine ⟨v, inSt_get hjI h1, ?_⟩
        rw [hpI, setF_at]
        have ho : Own K (uni G.S0 O1) H1 n (F i0) d v := by
          cases q : kd κ i0 with
          | cl => rw [q] at hd; cases hd
          | lo => rw [q] at hd; cases hd
          | ow m => rw [q] at hd h2; cases hd; exact h2
          | io m => rw [q] at hd h2; cases hd; exact h2
        exact Own.go (.less fun a => (eqS a).mp) n _ d v (fun _ _ _ h => h) (Own.go (Goes.fresh hD) n _ d v (fun a ha o eo => by rw [upd_ne (ne_of_none eo hD)]; exact eo) ho)
      · obtain ⟨v, h1, h2, h3⟩ := e1.read e2
        refine ⟨v, inSt_get hj h1, ?_⟩
        rw [hκc p hp]
        exact toIn d v (h3 (hcap p j hp hj))
  refine ⟨fun i m σ' H' => m + i = ds.length ∧ ∃ ρi Oi acc vs, EnvOk K κc Gi Oi ρi σ' H' ∧ H' Dl = some (.lst vs) ∧ Reps K (uni S Oi) H' acc vs ∧ compGo g C E (ds.drop i) acc ρi (fun acc ρin => ∃ d', ρin[pI]? = some (some d') ∧ q (.lst acc) (kl κ (ρ1.set i0 (some d')))), ⟨ds.length, rfl, _, _, [], [], start, upd_same, by simp only [Reps], hgo⟩, ?_⟩
  rintro i m σ' H' ⟨hm, ρi, Oi, acc, vs, en, hDl, hacc, hg⟩
  have hit := hJ (uni S Oi) H' (by obtain ⟨F', f'⟩ := id en; exact f'.gh (di, vi) (by simp [Gi])) i
  cases e : ds[i]? with
  | none =>
    left
    have hi : ds.length ≤ i := List.getElem?_eq_none_iff.mp e
    rw [List.drop_eq_nil_of_le hi] at hg
    obtain ⟨d', hd', hz⟩ := hg
    refine ⟨hit.2 e, ?_⟩
    obtain ⟨F', f'⟩ := id en
    obtain ⟨u, h1, h2⟩ := f'.slot pI d' hd'
    rw [hpI] at h2
    have hpar := f'.par pI n hpI
    obtain ⟨d0, hd0⟩ : ∃ v0, σ[i0]? = some (some v0) := by
      rw [h1, show Gi.ps[pI]? = (inSt js σ)[pI]? from rfl] at hpar
      unfold inSt at hpar
      rw [List.getElem?_map, hjI] at hpar
      simp only [Option.map_some] at hpar
      cases e3 : σ[i0]? with
      | none => rw [e3] at hpar; cases hpar
      | some o => rw [e3] at hpar; simp only [Option.some.injEq] at hpar; exact ⟨u, by rw [hpar]⟩
    have eu : u = d0 := by
      rw [h1, show Gi.ps[pI]? = (inSt js σ)[pI]? from rfl, inSt_get hjI hd0] at hpar
      simpa using hpar
    subst eu
    have sub : ∀ a, a ∈ F' pI → Oi a := fun a ha => (f'.own a).mpr ⟨pI, ha⟩
    have OiF : ∀ a, Oi a → a ∈ F' pI := fun a z => by
      obtain ⟨p, hp⟩ := (f'.own a).mp z
      by_cases hpp : p = pI
      · rw [← hpp]; exact hp
      · rw [f'.non p (by rw [hκc p hpp]; rfl)] at hp; exact absurd hp (by simp)
    have le2 : ∀ a, uni (uni G.S0 (fpS [Dl])) (OF (setF F i0 (F' pI))) a → uni S Oi a := fun a z => by
      rcases z with (z | z) | ⟨p, z⟩
      · exact .inl (.inl (.inl z))
      · exact .inl (.inr (by simpa [fpS] using z))
      · by_cases hp : p = i0
        · rw [hp, setF_at] at z; exact .inr (sub a z)
        · rw [setF_ne hp] at z
          exact .inl (.inl (.inr ⟨(f.own a).mpr ⟨p, z⟩, fun w => hp (f.dis p i0 a z w)⟩))
    have keep : ∀ b o, b ∉ F i0 → H1 b = some o → H' b = some o := fun b o nb eb => f'.keep b o nb eb
    obtain ⟨g1, g2⟩ := EnvF.chg (H' := H') (f' := F' pI) (fp := [Dl]) (d' := d') (v := u) f hd keep f'.dom (f'.nd pI) (fun a ha => ⟨by
        rcases f'.new pI a ha with z | z
        · exact .inl z.2
        · exact .inr z, (f'.mu pI a ha).2⟩) (fun a ha => by
        obtain rfl : a = Dl := by simpa using ha
        exact ⟨hD, by rw [hDl]; simp, fun z => (f'.mu pI _ z).1 (.inr rfl)⟩) hd0 (Own.go (.less le2) n _ d' u (fun _ _ _ h => h) h2)
    refine k _ H' _ _ _ [Dl] (s1.trans g2) ⟨_, g1⟩ (VOk.base s1 ⟨by simp, fun a ha => ?_, ?_⟩) (fun h => absurd h Bool.false_ne_true) hz
    · obtain rfl : a = Dl := by simpa using ha
      refine ⟨hD, fun ⟨p, z⟩ => ?_, _, hDl, trivial⟩
      by_cases hp : p = i0
      · rw [hp, setF_at] at z; exact (f'.mu pI _ z).1 (.inr rfl)
      · rw [setF_ne hp] at z
        obtain ⟨_, o, eo, _⟩ := f.mu p _ z
        rw [hD] at eo; cases eo
    · simp only [Own]
      refine ⟨Dl, acc.map fun _ => [], rfl, by simp, .inl ⟨acc, vs, rfl, hDl, by simp, hacc.len, fun i f x u e1 e2 e3 => ⟨?_, ?_⟩⟩⟩
      · rw [List.getElem?_map, e2] at e1; simpa using e1.symm
      · obtain ⟨u', e4, r⟩ := hacc.get e2
        rw [e3] at e4; cases e4
        exact Rep.go (.less le2) x u r
  | some d =>
    right
    rw [drop_at e] at hg
    obtain ⟨Nd, hNd, hg⟩ := hg
    obtain ⟨g1, g2⟩ := hit.1 d e
    have hi : i < ds.length := (List.getElem?_eq_some_iff.mp e).1
    refine ⟨g1, fun σ2 H2 => ∃ ρi Oi acc vs, EnvOk K κc Gi Oi ρi σ2 H2 ∧ H2 Dl = some (.lst vs) ∧ Reps K (uni S Oi) H2 acc vs ∧ compGo g C E (ds.drop (i + 1)) acc ρi (fun acc ρin => ∃ d', ρin[pI]? = some (some d') ∧ q (.lst acc) (kl κ (ρ1.set i0 (some d')))), fun σ2 H2 ⟨ρi, Oi, acc, vs, z⟩ => ⟨ds.length - (i + 1), by omega, by omega, ρi, Oi, acc, vs, z⟩, fun x H2 y => ?_⟩
    obtain ⟨sm2, rx⟩ := g2 x H2 y
    have en2 := en.same0 sm2
    have hDl2 := sm2 _ _ hDl
    have hacc2 := Reps.go (Goes.same sm2) acc vs hacc
    have nD : ∀ {O' : Addr → Prop} {ρ' : EnvD} {σ' : St} {H' : Hp}, EnvOk K κc Gi O' ρ' σ' H' → ¬ O' Dl := fun h z => h.noS Dl z (.inr rfl)
    refine ⟨Gi, _, ρi, _, d, en2, rx, hg, fun σ3 ρ3 e3 hc => ⟨Gi, _, ρ3, _, e3, hc, fun b H4 ρ4 O4 s4 e4 p4 hb => ?_⟩⟩
    have hDl4 := s4.keep _ _ (nD en2) hDl2
    have hacc4 := Reps.go (Goes.step en2.mutO s4) acc vs hacc2
    cases b with
    | false =>
      rw [if_neg Bool.false_ne_true] at hb
      exact iteF ⟨ρ4, O4, acc, vs, e4, hDl4, hacc4, hNd _ _ hb⟩
    | true =>
      rw [if_pos rfl] at hb
      refine iteT ⟨Gi, _, ρ4, _, e4, hb, fun v H5 z ρ5 O5 fp s5 e5 vo p5 ⟨hlen, hz⟩ => ?_⟩
      have e5' := e5.drop
      have hDl5 := s5.keep _ _ (nD e4) hDl4
      have hacc5 := Reps.go (Goes.step e4.mutO s5) acc vs hacc4
      refine ⟨vs, hDl5, by rw [hacc.len]; exact hlen, ρ5, O5, acc ++ [z], vs ++ [v], e5'.updS (.inr rfl) hDl5 trivial hD, upd_same, ?_, hNd _ _ hz⟩
      have gU : Goes (uni S O5) (uni S O5) H5 (upd H5 Dl (.lst (vs ++ [v]))) := Goes.upd hDl5 trivial (.inl (.inr rfl))
      exact Reps.snoc (Reps.go gU acc vs hacc5) (Rep.go gU z v vo.2)
variable {tg elt iter : Expr} {ifs : List Expr} {scope : Scope} {pos : Pos} {Nc : List Str} {pe : Bool}
theorem dcompX (hs : ∀ x, foldedSetIterable iter X.env x = pure x) (hc : X.calm = true) (hd : dep (kd κ i0) = some n) (hpI : kd κc pI = .io n) (hjI : js[pI]? = some (some i0)) (hκc : ∀ p, p ≠ pI → kd κc p = .cl) (hcap : ∀ p j, p ≠ pI → js[p]? = some (some j) → kd κ j = .cl) (hi : DI X κ pu false tg iter I) (S : CompSc X Nc js scope)
    (hb : ∀ pins fp H s C', DG (cxComp X Nc scope pins fp H s C') κc .cl tg g ∧ DIf (cxComp X Nc scope pins fp H s C') κc ifs C ∧ DE (cxComp X Nc scope pins fp H s C') κc pe .cl elt E) :
    DE X κ false (.ow 1) (.ListComp elt [⟨tg, iter, ifs, 0⟩] scope pos) (eCompX κ i0 pI js I g C E) :=
  ⟨(pe_comp hc hi.h S (fun p f H s C' => let ⟨x, y, z⟩ := hb p f H s C'; ⟨x.h, y.h, z.h⟩) hs).weak fun σ H Q h => compX_go (K := X.K) hd hpI hjI hκc hcap h⟩
theorem dsetCX {i : Nat} {y : Str} {py spos : Pos} {mr : SK} (hk : kd κ i = .cl ∨ kd κ i = .ow 1) (hsw : swapsWith (.ListComp elt [⟨tg, iter, ifs, 0⟩] scope pos) (some (.Name y py)) spos.line X.env = pure true) (hs : ∀ x, foldedSetIterable iter X.env x = pure x)
    (hc : X.calm = true) (hN : X.N.Nodup) (hiN : X.N[i]? = some y) (hy : X.env.scope.names.lookup y = some .local) (hd : dep (kd κ i0) = some n) (hpI : kd κc pI = .io n) (hjI : js[pI]? = some (some i0)) (hκc : ∀ p, p ≠ pI → kd κc p = .cl) (hcap : ∀ p j, p ≠ pI → js[p]? = some (some j) → kd κ j = .cl) (hi : DI X κ pu false tg iter I) (S : CompSc X Nc js scope)
    (hb : ∀ pins fp H s C', DG (cxComp X Nc scope pins fp H s C') κc .cl tg g ∧ DIf (cxComp X Nc scope pins fp H s C') κc ifs C ∧ DE (cxComp X Nc scope pins fp H s C') κc pe .cl elt E) :
    DS X κ mr (.Assign [.Name y py] (.ListComp elt [⟨tg, iter, ifs, 0⟩] scope pos) spos) (sSet i (eCompX κ i0 pI js I g C E)) := by
  refine ⟨(ps_setC hc hN hiN hy hi.h S (fun p f H s C' => let ⟨x, y, z⟩ := hb p f H s C'; ⟨x.h, y.h, z.h⟩) hsw hs).weak fun D σ H ⟨G, O, ρ, De, hE, hT, nx, bk, ct, rt⟩ => compX_go (K := X.K) hd hpI hjI hκc hcap ⟨G, O, ρ, _, hE, hT, fun v H' d ρ' O' fp s1 e1 vo p1 hq => ?_⟩⟩
  rcases hk with hk | hk
  · exact nx _ H' _ O' (e1.drop.put (.inl ⟨hk, (VOk.clean hE.s0 vo).2⟩)) hq
  · obtain ⟨O2, e2⟩ := EnvOk.putO hk e1 hE.dom hE.s0 vo
    exact nx _ H' _ O2 e2 hq
end
section
variable {X : Cx} {f : Value → Value → Sem Value}
noncomputable abbrev DR2 := D → D → (D → Prop) → Prop
noncomputable abbrev DRn := List D → (D → Prop) → Prop
noncomputable def oI (C : Int → Int → Prop) (g : Int → Int → D) : DR2 := fun x y q => ∃ i j, x = .int i ∧ y = .int j ∧ C i j ∧ q (g i j)
noncomputable def oI0 (g : Int → Int → D) : DR2 := fun x y q => ∃ i j, x = .int i ∧ y = .int j ∧ q (g i j)
theorem dopI {C : Int → Int → Prop} {g : Int → Int → V} {gd : Int → Int → D} (h : OpR X f (rI C g)) (hg : ∀ i j S H, Rep X.K S H (gd i j) (g i j)) : DOp X .cl f (oI C gd) :=
  ⟨⟨_, h, fun S H dx dy vx vy q Q rx ry ⟨i, j, ex, ey, c, hq⟩ k => by
    subst ex ey
    simp only [Rep] at rx ry
    exact ⟨i, j, rx, ry, c, k _ H _ [] (.refl _) ⟨rfl, hg i j S H⟩ hq⟩⟩⟩
theorem dopI0 {g : Int → Int → V} {gd : Int → Int → D} (h : OpR X f (rI0 g)) (hg : ∀ i j S H, Rep X.K S H (gd i j) (g i j)) : DOp X .cl f (oI0 gd) :=
  ⟨⟨_, h, fun S H dx dy vx vy q Q rx ry ⟨i, j, ex, ey, hq⟩ k => by
    subst ex ey
    simp only [Rep] at rx ry
    exact ⟨i, j, rx, ry, k _ H _ [] (.refl _) ⟨rfl, hg i j S H⟩ hq⟩⟩⟩
theorem do_add : DOp X .cl (binaryOp .Add) (oI0 fun i j => .int (i + j)) := dopI0 op_add fun _ _ _ _ => by simp only [Rep]
theorem do_sub : DOp X .cl (binaryOp .Sub) (oI0 fun i j => .int (i - j)) := dopI0 op_sub fun _ _ _ _ => by simp only [Rep]
theorem do_mul : DOp X .cl (binaryOp .Mult) (oI IntMulOk fun i j => .int (i * j)) := dopI op_mulB fun _ _ _ _ => by simp only [Rep]
theorem do_mod : DOp X .cl (binaryOp .Mod) (oI (fun _ j => 0 < j) fun i j => .int (i % j)) := dopI op_mod fun _ _ _ _ => by simp only [Rep]
theorem do_fdiv : DOp X .cl (binaryOp .FloorDiv) (oI CDiv fun i j => .int (i / j)) := dopI op_fdiv fun _ _ _ _ => by simp only [Rep]
theorem do_pow : DOp X .cl (binaryOp .Pow) (oI CPow fun i j => .int (i ^ j.toNat)) := dopI op_pow fun _ _ _ _ => by simp only [Rep]
theorem do_lt : DOp X .cl (compareOp .Lt) (oI0 fun i j => .bl (decide (i < j))) := dopI0 op_lt fun _ _ _ _ => by simp only [Rep]
theorem do_le : DOp X .cl (compareOp .LtE) (oI0 fun i j => .bl (decide (i ≤ j))) := dopI0 op_le fun _ _ _ _ => by simp only [Rep]
theorem do_gt : DOp X .cl (compareOp .Gt) (oI0 fun i j => .bl (decide (j < i))) := dopI0 op_gt fun _ _ _ _ => by simp only [Rep]
theorem do_ge : DOp X .cl (compareOp .GtE) (oI0 fun i j => .bl (decide (j ≤ i))) := dopI0 op_ge fun _ _ _ _ => by simp only [Rep]
noncomputable def oEq : DR2 := fun x y q => okE 12 x = true ∧ okE 12 y = true ∧ q (.bl (pyEq x y))
noncomputable def oNe : DR2 := fun x y q => okE 12 x = true ∧ okE 12 y = true ∧ q (.bl (!pyEq x y))
theorem do_eq (hu : X.A.units + 12 < cLine) : DOp X .cl (compareOp .Eq) oEq := by
  refine ⟨fun x y H Q => ∃ S dx dy, okE 12 dx = true ∧ okE 12 dy = true ∧ Rep X.K S H dx x ∧ Rep X.K S H dy y ∧ Q (.bl (pyEq dx dy)) H, ?_, fun S H dx dy vx vy q Q rx ry ⟨h1, h2, hq⟩ k => ⟨S, dx, dy, h1, h2, rx, ry, k _ H _ [] (.refl _) ⟨rfl, by simp only [Rep]⟩ hq⟩⟩
  intro pins s σ H x y v u Q I rx ry h
  obtain ⟨S, dx, dy, h1, h2, r1, r2, q⟩ := h
  exact (eqD_ok I 12 X.A dx dy x y v u h1 h2 hu r1 r2 rx ry).r _ _ _ _ ⟨.bl _, H, I, rfl, q⟩
theorem do_ne (hu : X.A.units + 12 < cLine) : DOp X .cl (compareOp .NotEq) oNe := by
  refine ⟨fun x y H Q => ∃ S dx dy, okE 12 dx = true ∧ okE 12 dy = true ∧ Rep X.K S H dx x ∧ Rep X.K S H dy y ∧ Q (.bl (!pyEq dx dy)) H, ?_, fun S H dx dy vx vy q Q rx ry ⟨h1, h2, hq⟩ k => ⟨S, dx, dy, h1, h2, rx, ry, k _ H _ [] (.refl _) ⟨rfl, by simp only [Rep]⟩ hq⟩⟩
  intro pins s σ H x y v u Q I rx ry h
  obtain ⟨S, dx, dy, h1, h2, r1, r2, q⟩ := h
  exact (eqD_ok I 12 X.A dx dy x y v u h1 h2 hu r1 r2 rx ry).n _ _ _ _ ⟨.bl _, H, I, rfl, q⟩
noncomputable def isNon : D → Bool
  | .non => true
  | _ => false
theorem rep_non {K : PySem.W.Frag} {S : Addr → Prop} {H : Hp} {d : D} {v : V} (r : Rep K S H d v) : decide (v = .non) = isNon d := by
  cases d <;> simp only [Rep] at r <;> first | (subst r; rfl) | (obtain ⟨_, _, rfl, _⟩ := r; rfl) | (obtain ⟨_, rfl, _⟩ := r; rfl)
theorem do_is : DOp X .cl (compareOp .Is) (fun x y q => y = .non ∧ q (.bl (isNon x))) :=
  ⟨⟨_, op_isN, fun S H dx dy vx vy q Q rx ry ⟨ey, hq⟩ k => by
    subst ey
    simp only [Rep] at ry
    refine ⟨ry, ?_⟩
    rw [rep_non rx]
    exact k _ H _ [] (.refl _) ⟨rfl, by simp only [Rep]⟩ hq⟩⟩
theorem do_isnot : DOp X .cl (compareOp .IsNot) (fun x y q => y = .non ∧ q (.bl (!isNon x))) :=
  ⟨⟨_, op_notN, fun S H dx dy vx vy q Q rx ry ⟨ey, hq⟩ k => by
    subst ey
    simp only [Rep] at ry
    refine ⟨ry, ?_⟩
    rw [rep_non rx]
    exact k _ H _ [] (.refl _) ⟨rfl, by simp only [Rep]⟩ hq⟩⟩
theorem do_adds : DOp X .cl (binaryOp .Add) (fun x y q => ∃ i j, x = .str i ∧ y = .str j ∧ i.length + j.length ≤ sizeLine ∧ q (.str (i ++ j))) :=
  ⟨⟨_, op_add_str, fun S H dx dy vx vy q Q rx ry ⟨i, j, ex, ey, hl, hq⟩ k => by
    subst ex ey
    simp only [Rep] at rx ry
    exact ⟨i, j, rx, ry, hl, k _ H _ [] (.refl _) ⟨rfl, by simp only [Rep]⟩ hq⟩⟩⟩
theorem Reps.append {K : PySem.W.Frag} {S : Addr → Prop} {H : Hp} : ∀ {a b : List D} {vs ws : List V}, Reps K S H a vs → Reps K S H b ws → Reps K S H (a ++ b) (vs ++ ws)
  | [], b, vs, ws, h, r => by simp only [Reps] at h; subst h; exact r
  | x :: a, b, vs, ws, h, r => by
    simp only [Reps] at h
    obtain ⟨u, t, rfl, h1, h2⟩ := h
    simp only [List.cons_append, Reps]
    exact ⟨u, t ++ ws, rfl, h1, h2.append r⟩
theorem do_cat : DOp X (.ow 1) (binaryOp .Add) (fun x y q => ∃ a b, x = .lst a ∧ y = .lst b ∧ a.length + b.length ≤ sizeLine ∧ q (.lst (a ++ b))) := by
  refine ⟨fun x y H Q => ∃ l b xs zs, x = .ref l ∧ y = .ref b ∧ Rd H l (.lst xs) ∧ Rd H b (.lst zs) ∧ xs.length + zs.length ≤ sizeLine ∧ ∀ p, H p = none → Q (.ref p) (upd H p (.lst (xs ++ zs))), ?_, fun S H dx dy vx vy q Q rx ry ⟨a, b, ex, ey, hl, hq⟩ k => ?_⟩
  · intro pins s σ H x y v u Q I rx ry h
    obtain ⟨l, b, xs, zs, rfl, rfl, h1, h2, hz, q⟩ := h
    cases rx
    cases ry
    obtain ⟨z1, its, n1, r1, e1⟩ := h1.ok I.hok
    obtain ⟨z2, its2, n2, r2, e2⟩ := h2.ok I.hok
    have l1 := r1.length
    have l2 := r2.length
    refine PySem.P.add_list e1 e2 ?_ (by rw [List.size_toArray, List.size_toArray]; omega)
    have ea : its.toArray ++ its2.toArray = (its ++ its2).toArray := by simp
    rw [ea]
    exact ⟨.ref _, _, I.lnew (t' := s.toks) (r1.append r2) (by rw [List.length_append]; omega), rfl, q _ I.fresh⟩
  · subst ex ey
    simp only [Rep] at rx ry
    obtain ⟨l, xs, rfl, _, h1, r1⟩ := rx
    obtain ⟨b', zs, rfl, _, h2, r2⟩ := ry
    exact ⟨l, b', xs, zs, rfl, rfl, h1, h2, by rw [r1.len, r2.len]; exact hl, fun p hp => k _ _ _ [p] (.new hp) (vres_lst (r1.append r2) hp) hq⟩
theorem op_repR : OpR X (binaryOp .Mult) (fun x y H Q => ∃ l k xs, x = .ref l ∧ y = .int k ∧ Rd H l (.lst xs) ∧ -(2 ^ 63) ≤ k ∧ k < 2 ^ 63 ∧ xs.length * k.toNat ≤ sizeLine ∧ ∀ p, H p = none → Q (.ref p) (upd H p (.lst (List.replicate k.toNat xs).flatten))) := by
  intro pins s σ H x y v u Q I rx ry h
  obtain ⟨l, k, xs, rfl, rfl, hH, h1, h2, hz, q⟩ := h
  cases rx
  obtain ⟨t, rfl⟩ := ry
  obtain ⟨z, its, n, r, e⟩ := hH.ok I.hok
  have hl := r.length
  have hlen : its.toArray.size * k.toNat ≤ sizeLine := by rw [List.size_toArray, ← hl]; exact hz
  have hcap : ¬ its.toArray.size * k.toNat > (2 ^ 63 - 1) / 8 := by
    have : (sizeLine : Nat) ≤ (2 ^ 63 - 1) / 8 := by decide
    omega
  have hfit : ¬ (!Builtin.List.listFitsIndex k) = true := by
    rw [fitsIndex_both h1 h2]
    exact Bool.false_ne_true
  have hlong : ¬ Builtin.List.listTooLong (its.toArray.size * k.toNat) = true := by
    rw [notLongL hlen]
    exact Bool.false_ne_true
  have hnew : List.foldl (fun x1 x2 => x1 ++ x2) #[] (List.replicate (if its.toArray.isEmpty = true then 0 else k.toNat) its.toArray) = (List.replicate k.toNat its).flatten.toArray := by
    have f0 : ∀ m : Nat, List.foldl (fun x1 x2 => x1 ++ x2) #[] (List.replicate m its.toArray) = (List.replicate m its).flatten.toArray := fun m => by
      have := foldl_rep its m []
      rw [List.nil_append] at this
      exact this
    rw [f0]
    cases its with
    | nil => simp
    | cons a r' => rw [if_neg (by simp)]
  refine wpAny_binaryOp_repeat_ref (T := "list") (U := "int") (by decide) ⟨_, e, rfl⟩ (fun s' => typeIs_int s' k t) noFill_list_mul F.fills_int_mul F.slot_int_rmul repeat_list F.slot_int_index.lookup
    (call_meets F.slot_int_rmul (typeIs_int s k t) F.entry_int_rmul (F.args_int_rmul_2 _ _) (int___rmul___int_list k t l its.toArray n)
      ⟨e, rfl, ⟨_, e, rfl⟩, call_meets F.slot_list_mul ⟨_, e, rfl⟩ F.entry_list_mul (F.args_list_mul_2 _ _) (AutoListH.list___mul___list_int_3 l its.toArray n k t hfit hcap hlong) ⟨e, ?_⟩⟩)
  rw [hnew]
  exact ⟨.ref _, _, I.lnew (t' := s.toks) (r.rep k.toNat) (by rw [len_rep, Nat.mul_comm]; exact hz), rfl, q _ I.fresh⟩
theorem Reps.rep {K : PySem.W.Frag} {S : Addr → Prop} {H : Hp} {a : List D} {vs : List V} (h : Reps K S H a vs) : ∀ n : Nat, Reps K S H (List.replicate n a).flatten (List.replicate n vs).flatten
  | 0 => by simp only [List.replicate_zero, List.flatten_nil, Reps]
  | n + 1 => by
    rw [List.replicate_succ, List.replicate_succ, List.flatten_cons, List.flatten_cons]
    exact h.append (h.rep n)
theorem do_rep : DOp X (.ow 1) (binaryOp .Mult) (fun x y q => ∃ a k, x = .lst a ∧ y = .int k ∧ -(2 ^ 63) ≤ k ∧ k < 2 ^ 63 ∧ a.length * k.toNat ≤ sizeLine ∧ q (.lst (List.replicate k.toNat a).flatten)) :=
  ⟨⟨_, op_repR, fun S H dx dy vx vy q Q rx ry ⟨a, n, ex, ey, b1, b2, hl, hq⟩ k => by
    subst ex ey
    simp only [Rep] at rx ry
    obtain ⟨l, xs, rfl, _, h1, r1⟩ := rx
    exact ⟨l, n, xs, rfl, ry, h1, b1, b2, by rw [r1.len]; exact hl, fun p hp => k _ _ _ [p] (.new hp) (vres_lst (r1.rep n.toNat) hp) hq⟩⟩⟩
structure DIx (X : Cx) (r : DR2) : Prop where
  h : ∃ r', IxR X r' ∧ ∀ S H dx dy vx vy q Q, Rep X.K S H dx vx → Rep X.K S H dy vy → r dx dy q → (∀ v H' z fp, Same H H' → VRes X.K S H H' fp .cl z v → q z → Q v H') → r' vx vy H Q
theorem atI_map {l : List D} {vs : List V} {K : PySem.W.Frag} {S : Addr → Prop} {H : Hp} {i : Int} {d : D} (h : Reps K S H l vs) (e : atI l i = some d) : ∃ v, atI vs i = some v ∧ Rep K S H d v := by
  unfold atI at e ⊢
  rw [h.len]
  cases z : ixN l.length i with
  | none => rw [z] at e; cases e
  | some j =>
    rw [z] at e
    simp only [Option.bind_some] at e ⊢
    obtain ⟨u, h1, h2⟩ := h.get e
    exact ⟨u, h1, h2⟩
theorem dix_l : DIx X (fun x y q => ∃ l i d, x = .lst l ∧ y = .int i ∧ atI l i = some d ∧ q d) :=
  ⟨⟨_, ix_list, fun S H dx dy vx vy q Q rx ry ⟨l, i, d, ex, ey, he, hq⟩ k => by
    subst ex ey
    simp only [Rep] at rx ry
    obtain ⟨a, xs, rfl, _, h1, r1⟩ := rx
    obtain ⟨v, h2, h3⟩ := atI_map r1 he
    exact ⟨a, xs, i, v, rfl, ry, .inl h1, h2, k _ H _ [] (.refl _) ⟨rfl, h3⟩ hq⟩⟩⟩
theorem dix_scr : DIx X (fun x y q => ∃ ns i n, x = .scr ns ∧ y = .int i ∧ atI ns i = some n ∧ q (.int n)) :=
  ⟨⟨_, ix_list, fun S H dx dy vx vy q Q rx ry ⟨ns, i, n, ex, ey, he, hq⟩ k => by
    subst ex ey
    simp only [Rep] at rx ry
    obtain ⟨a, rfl, h1⟩ := rx
    refine ⟨a, _, i, .int n, rfl, ry, h1.sq, ?_, k _ H _ [] (.refl _) ⟨rfl, by simp only [Rep]⟩ hq⟩
    unfold atI at he ⊢
    rw [List.length_map]
    cases z : ixN ns.length i with
    | none => rw [z] at he; cases he
    | some j => rw [z] at he; simp only [Option.bind_some] at he ⊢; rw [List.getElem?_map, he]; rfl⟩⟩
theorem dix_t : DIx X (fun x y q => ∃ l i d, x = .tup l ∧ y = .int i ∧ atI l i = some d ∧ q d) :=
  ⟨⟨_, ix_tup, fun S H dx dy vx vy q Q rx ry ⟨l, i, d, ex, ey, he, hq⟩ k => by
    subst ex ey
    simp only [Rep] at rx ry
    obtain ⟨a, xs, rfl, h1, r1⟩ := rx
    obtain ⟨v, h2, h3⟩ := atI_map r1 he
    exact ⟨a, xs, i, v, rfl, ry, h1, h2, k _ H _ [] (.refl _) ⟨rfl, h3⟩ hq⟩⟩⟩
theorem dix_s : DIx X (fun x y q => ∃ z i c, x = .str z ∧ y = .int i ∧ z.length ≤ sizeLine ∧ atI z.cps.toList i = some c ∧ q (.str ⟨#[c]⟩)) :=
  ⟨⟨_, ix_str, fun S H dx dy vx vy q Q rx ry ⟨z, i, c, ex, ey, hl, he, hq⟩ k => by
    subst ex ey
    simp only [Rep] at rx ry
    exact ⟨z, i, c, rx, ry, hl, he, k _ H _ [] (.refl _) ⟨rfl, by simp only [Rep]⟩ hq⟩⟩⟩
variable {κ : List SK} {pu1 pu2 : Bool} {m1 m2 : SK} {a b : Expr} {Ea Eb : DTE} {r : DR2} {pos : Pos}
theorem dix (hs : PlainIx b) (ho : DIx X r) (v1 : isV m1) (v2 : isV m2) (hp : m1 = .lo → pu2 = true) (ha : DE X κ pu1 m1 a Ea) (hb : DE X κ pu2 m2 b Eb) : DE X κ (pu1 && pu2) (outM (loB m1 || loB m2) .cl) (.Subscript a b pos) (eOp r Ea Eb) := by
  obtain ⟨r', h1, h2⟩ := ho.h
  exact ⟨(pe_ix h1 ha.h hb.h hs).weak fun σ H Q h => op_go (f := binaryOp .Add) h2 v1 v2 hp (by simp) h⟩
noncomputable def cLen : DRn := fun ds q => (∃ l, ds = [.scr l] ∧ q (.int l.length)) ∨ (∃ l, ds = [.lst l] ∧ q (.int l.length)) ∨ (∃ l, ds = [.tup l] ∧ q (.int l.length)) ∨ (∃ z, ds = [.str z] ∧ z.length ≤ sizeLine ∧ q (.int z.length))
theorem reps1 {K : PySem.W.Frag} {S : Addr → Prop} {H : Hp} {d : D} {vs : List V} (h : Reps K S H [d] vs) : ∃ v, vs = [v] ∧ Rep K S H d v := by
  simp only [Reps] at h
  obtain ⟨v, r, rfl, h1, rfl⟩ := h
  exact ⟨v, rfl, h1⟩
theorem reps2 {K : PySem.W.Frag} {S : Addr → Prop} {H : Hp} {d e : D} {vs : List V} (h : Reps K S H [d, e] vs) : ∃ v u, vs = [v, u] ∧ Rep K S H d v ∧ Rep K S H e u := by
  simp only [Reps] at h
  obtain ⟨v, r, rfl, h1, u, r', rfl, h2, rfl⟩ := h
  exact ⟨v, u, rfl, h1, h2⟩
theorem dc_len : DCall X .cl (.builtin "len") cLen := by
  refine ⟨_, call_len_seq.or call_len_str, fun S H ds vs q Q rv h k => ?_⟩
  have fin : ∀ n : Int, q (.int n) → Q (.int n) H := fun n hq => k _ H _ [] (.refl _) ⟨rfl, by simp only [Rep]⟩ hq
  rcases h with ⟨l, rfl, hq⟩ | ⟨l, rfl, hq⟩ | ⟨l, rfl, hq⟩ | ⟨z, rfl, hz, hq⟩
  · obtain ⟨v, rfl, r⟩ := reps1 rv
    simp only [Rep] at r
    obtain ⟨a, rfl, h1⟩ := r
    exact .inl ⟨a, _, rfl, .inl h1.sq, by rw [List.length_map]; exact fin _ hq⟩
  · obtain ⟨v, rfl, r⟩ := reps1 rv
    simp only [Rep] at r
    obtain ⟨a, xs, rfl, _, h1, r1⟩ := r
    exact .inl ⟨a, xs, rfl, .inl (.inl h1), by rw [r1.len]; exact fin _ hq⟩
  · obtain ⟨v, rfl, r⟩ := reps1 rv
    simp only [Rep] at r
    obtain ⟨a, xs, rfl, h1, r1⟩ := r
    exact .inl ⟨a, xs, rfl, .inr h1, by rw [r1.len]; exact fin _ hq⟩
  · obtain ⟨v, rfl, r⟩ := reps1 rv
    simp only [Rep] at r
    exact .inr ⟨z, by rw [r], hz, fin _ hq⟩
theorem dc_abs : DCall X .cl (.builtin "abs") (fun ds q => ∃ i, ds = [.int i] ∧ q (.int (if i < 0 then -i else i))) :=
  ⟨⟨_, call_abs, fun S H ds vs q Q rv ⟨i, e, hq⟩ k => by
    subst e
    obtain ⟨v, rfl, r⟩ := reps1 rv
    simp only [Rep] at r
    exact ⟨i, by rw [r], k _ H _ [] (.refl _) ⟨rfl, by simp only [Rep]⟩ hq⟩⟩⟩
theorem dc_min2 (hc : X.calm = true) : DCall X .cl (.builtin "min") (fun ds q => ∃ i j, ds = [.int i, .int j] ∧ q (.int (if j < i then j else i))) :=
  ⟨⟨_, call_min2 hc, fun S H ds vs q Q rv ⟨i, j, e, hq⟩ k => by
    subst e
    obtain ⟨v, u, rfl, r, r2⟩ := reps2 rv
    simp only [Rep] at r r2
    exact ⟨i, j, by rw [r, r2], k _ H _ [] (.refl _) ⟨rfl, by simp only [Rep]⟩ hq⟩⟩⟩
theorem dc_max2 (hc : X.calm = true) : DCall X .cl (.builtin "max") (fun ds q => ∃ i j, ds = [.int i, .int j] ∧ q (.int (if j > i then j else i))) :=
  ⟨⟨_, call_max2 hc, fun S H ds vs q Q rv ⟨i, j, e, hq⟩ k => by
    subst e
    obtain ⟨v, u, rfl, r, r2⟩ := reps2 rv
    simp only [Rep] at r r2
    exact ⟨i, j, by rw [r, r2], k _ H _ [] (.refl _) ⟨rfl, by simp only [Rep]⟩ hq⟩⟩⟩
theorem dc_int : DCall X .cl (.type "int") (fun ds q => (∃ i, ds = [.int i] ∧ q (.int i)) ∨ ∃ b, ds = [.bl b] ∧ q (.int (if b then 1 else 0))) :=
  ⟨⟨_, call_int1, fun S H ds vs q Q rv h k => by
    rcases h with ⟨i, rfl, hq⟩ | ⟨i, rfl, hq⟩
    · obtain ⟨v, rfl, r⟩ := reps1 rv
      simp only [Rep] at r
      exact .inl ⟨i, by rw [r], k _ H _ [] (.refl _) ⟨rfl, by simp only [Rep]⟩ hq⟩
    · obtain ⟨v, rfl, r⟩ := reps1 rv
      simp only [Rep] at r
      exact .inr ⟨i, by rw [r], k _ H _ [] (.refl _) ⟨rfl, by simp only [Rep]⟩ hq⟩⟩⟩
noncomputable def tyD : D → String
  | .non => "NoneType"
  | .bl _ => "bool"
  | .int _ => "int"
  | .str _ => "str"
  | .tup _ => "tuple"
  | .lst _ => "list"
  | .scr _ => "list"
  | _ => "dict"
noncomputable def noDct : D → Bool
  | .fz _ _ => false
  | .t2 _ _ _ _ => false
  | .fK _ _ _ => false
  | .fT _ _ _ => false
  | .dK _ _ => false
  | .dT _ _ => false
  | .ty _ => false
  | _ => true
theorem call_isiD : CallR X (.builtin "isinstance") (fun xs H Q => ∃ S d x c, xs = [x, .ty c] ∧ Rep X.K S H d x ∧ noDct d = true ∧ c ∈ ["bool", "int", "str", "list", "tuple"] ∧ Q (.bl (isB (tyD d) c)) H) := by
  intro pins s σ H xs us Q I r h
  obtain ⟨S, d, x, c, rfl, rp, nd, hc, q⟩ := h
  obtain ⟨u, w', rfl, ru, rw'⟩ := vals2 r
  cases (show w' = Value.type c from rw')
  have fin : ∀ tk, EP X pins σ Q (.bool (isB (tyD d) c)) { s with toks := tk } := fun tk => ⟨.bl _, H, I.tok tk, rfl, q⟩
  have kit : ∀ T ∈ ["NoneType", "bool", "int", "str", "list", "tuple"], PySem.W.kitOne X.K (.type T) (.type c) = some (isB T c) := fun T hT => kit_isB X.K T hT c hc
  cases d with
  | non => simp only [Rep] at rp; subst rp; exact isinst_ok I ru (.non) (kit _ (by decide)) fun tk => ⟨.bl _, H, I.tok tk, rfl, q⟩
  | bl b => simp only [Rep] at rp; subst rp; exact isinst_ok I ru (.bl b) (kit _ (by decide)) fun tk => ⟨.bl _, H, I.tok tk, rfl, q⟩
  | int b => simp only [Rep] at rp; subst rp; exact isinst_ok I ru (.int b) (kit _ (by decide)) fun tk => ⟨.bl _, H, I.tok tk, rfl, q⟩
  | str b => simp only [Rep] at rp; subst rp; exact isinst_ok I ru (.str b) (kit _ (by decide)) fun tk => ⟨.bl _, H, I.tok tk, rfl, q⟩
  | tup l =>
    simp only [Rep] at rp
    obtain ⟨a, vs, rfl, h1, _⟩ := rp
    cases (show u = Value.ref a from ru)
    obtain ⟨its, _, ⟨o, e, c', _⟩, _⟩ := I.tuple h1
    exact PySem.W.kia_one PySem.W.kitx_tuple I.kIn ⟨o, e, c'⟩ (kit _ (by decide)) (fun z => nomatch z) fin
  | lst l =>
    simp only [Rep] at rp
    obtain ⟨a, vs, rfl, _, h1, _⟩ := rp
    cases (show u = Value.ref a from ru)
    obtain ⟨its, _, ⟨o, _, e, c', _⟩, _⟩ := I.list (.inl h1)
    exact PySem.W.kia_one PySem.W.kitx_list I.kIn ⟨o, e, c'⟩ (kit _ (by decide)) (fun z => nomatch z) fin
  | scr l =>
    simp only [Rep] at rp
    obtain ⟨a, rfl, h1⟩ := rp
    cases (show u = Value.ref a from ru)
    obtain ⟨its, _, ⟨o, _, e, c', _⟩, _⟩ := I.list h1.sq
    exact PySem.W.kia_one PySem.W.kitx_list I.kIn ⟨o, e, c'⟩ (kit _ (by decide)) (fun z => nomatch z) fin
  | ty n => cases nd
  | fz o u => simp [noDct] at nd
  | t2 l m a b => simp [noDct] at nd
  | fK o ks l => simp [noDct] at nd
  | fT o ks l => simp [noDct] at nd
  | dK ks l => cases nd
  | dT ks l => cases nd
theorem dc_isi : DCall X .cl (.builtin "isinstance") (fun ds q => ∃ d c, ds = [d, .ty c] ∧ noDct d = true ∧ c ∈ ["bool", "int", "str", "list", "tuple"] ∧ q (.bl (isB (tyD d) c))) :=
  ⟨⟨_, call_isiD, fun S H ds vs q Q rv ⟨d, c, e, nd, hc, hq⟩ k => by
    subst e
    obtain ⟨v, u, rfl, r, r2⟩ := reps2 rv
    simp only [Rep] at r2
    exact ⟨S, d, v, c, by rw [r2], r, nd, hc, k _ H _ [] (.refl _) ⟨rfl, by simp only [Rep]⟩ hq⟩⟩⟩
theorem dc_tuple : DCall X .cl (.type "tuple") (fun ds q => ∃ l, (ds = [.lst l] ∨ ds = [.tup l]) ∧ q (.tup l)) := by
  refine ⟨_, call_tuple_of, fun S H ds vs q Q rv ⟨l, e, hq⟩ k => ?_⟩
  rcases e with rfl | rfl
  · obtain ⟨v, rfl, r⟩ := reps1 rv
    simp only [Rep] at r
    obtain ⟨a, xs, rfl, _, h1, r1⟩ := r
    exact ⟨a, xs, rfl, .inl ⟨.inl h1, fun p hp => k _ _ _ [] (.new hp) (vres_tup r1 hp) hq⟩⟩
  · obtain ⟨v, rfl, r⟩ := reps1 rv
    have r0 := r
    simp only [Rep] at r
    obtain ⟨a, xs, rfl, h1, r1⟩ := r
    exact ⟨a, xs, rfl, .inr ⟨h1, k _ H _ [] (.refl _) ⟨rfl, r0⟩ hq⟩⟩
theorem bools_rep {K : PySem.W.Frag} {S : Addr → Prop} {H : Hp} : ∀ {bs : List Bool} {vs : List V}, Reps K S H (bs.map D.bl) vs → vs = bs.map V.bl
  | [], vs, h => by simpa only [List.map_nil, Reps] using h
  | b :: bs, vs, h => by
    simp only [List.map_cons, Reps] at h
    obtain ⟨v, r, rfl, h1, h2⟩ := h
    simp only [Rep] at h1
    rw [h1, bools_rep h2]; rfl
theorem dc_all (hc : X.calm = true) : DCall X .cl (.builtin "all") (fun ds q => ∃ bs : List Bool, ds = [.lst (bs.map D.bl)] ∧ q (.bl (bs.all id))) :=
  ⟨⟨_, call_allB hc, fun S H ds vs q Q rv ⟨bs, e, hq⟩ k => by
    subst e
    obtain ⟨v, rfl, r⟩ := reps1 rv
    simp only [Rep] at r
    obtain ⟨a, xs, rfl, _, h1, r1⟩ := r
    exact ⟨a, bs, rfl, by rw [← bools_rep r1]; exact .inl h1, k _ H _ [] (.refl _) ⟨rfl, by simp only [Rep]⟩ hq⟩⟩⟩
theorem sl_str : SlR X (fun x lo hi H Q => ∃ z, x = .str z ∧ z.length ≤ sizeLine ∧ Q (.str (Txt.slice z lo hi)) H) := by
  intro pins s σ H x v vl vu lo hi sl Q I rx hs pl pu h
  obtain ⟨z, rfl, hz, q⟩ := h
  obtain ⟨t, rfl⟩ := rx
  refine ⟨"str", _, F.slot_str_getitem.lookup, typeIs_str _ _ _, ?_⟩
  have fin : ∀ t' k, EP X pins σ Q (.str (Txt.slice z lo hi) t') { s with toks := k } := fun t' k => ⟨.str _, H, I.tok _, ⟨_, rfl⟩, q⟩
  cases pl with
  | none =>
    cases pu with
    | none => exact wpAny_getItem_str_slice (l := none) (u := none) (st := none) hs rfl (post_val_or_str ⟨Nat.le_trans (Txt.slice_le z _ _) hz, fin⟩)
    | int j tj => exact wpAny_getItem_str_slice (l := none) (u := some (j, tj)) (st := none) hs rfl (post_val_or_str ⟨Nat.le_trans (Txt.slice_le z _ _) hz, fin⟩)
  | int i ti =>
    cases pu with
    | none => exact wpAny_getItem_str_slice (l := some (i, ti)) (u := none) (st := none) hs rfl (post_val_or_str ⟨Nat.le_trans (Txt.slice_le z _ _) hz, fin⟩)
    | int j tj => exact wpAny_getItem_str_slice (l := some (i, ti)) (u := some (j, tj)) (st := none) hs rfl (post_val_or_str ⟨Nat.le_trans (Txt.slice_le z _ _) hz, fin⟩)
end
section
variable {K : PySem.W.Frag} {κ : List SK} {G : G0} {O : Addr → Prop} {ρ : EnvD} {σ : St} {H : Hp}
theorem own0s {K : PySem.W.Frag} {S : Addr → Prop} {H : Hp} {fps : List (List Addr)} {l : List D} {vs : List V} (h1 : fps.length = l.length) (h2 : vs.length = l.length) (h3 : ∀ (i : Nat) (f : List Addr) (x : D) (u : V), fps[i]? = some f → l[i]? = some x → vs[i]? = some u → Own K S H 0 f x u) : fps.flatten = [] ∧ Reps K S H l vs := by
  constructor
  · rw [List.flatten_eq_nil_iff]
    intro f hf
    obtain ⟨i, hi, e⟩ := List.getElem_of_mem hf
    have := h3 i f (l[i]'(by omega)) (vs[i]'(by omega)) (by rw [List.getElem?_eq_getElem hi, e]) (List.getElem?_eq_getElem _) (List.getElem?_eq_getElem _)
    simp only [Own] at this
    exact this.1
  · refine Reps.of_all l vs h2 fun i x u e1 e2 => ?_
    have hi : i < fps.length := by rw [h1]; exact (List.getElem?_eq_some_iff.mp e1).1
    have := h3 i _ x u (List.getElem?_eq_getElem hi) e1 e2
    simp only [Own] at this
    exact this.2
theorem own1_lst {K : PySem.W.Frag} {S : Addr → Prop} {H : Hp} {fp : List Addr} {l : List D} {v : V} (h : Own K S H 1 fp (.lst l) v) : ∃ a vs, v = .ref a ∧ fp = [a] ∧ H a = some (.lst vs) ∧ Reps K S H l vs := by
  simp only [Own] at h
  obtain ⟨a, fps, rfl, rfl, h⟩ := h
  rcases h with ⟨l', vs, e, hH, h1, h2, h3⟩ | ⟨_, _, _, e, _⟩ | ⟨_, _, _, e, _⟩
  · cases e
    obtain ⟨z, r⟩ := own0s h1 h2 (fun i f x u e1 e2 e3 => by simp only [Own]; exact h3 i f x u e1 e2 e3)
    exact ⟨a, vs, rfl, by rw [z], hH, r⟩
  · cases e
  · cases e
theorem own1_mk {K : PySem.W.Frag} {S : Addr → Prop} {H : Hp} {a : Addr} {l : List D} {vs : List V} (hH : H a = some (.lst vs)) (r : Reps K S H l vs) : Own K S H 1 [a] (.lst l) (.ref a) := by
  simp only [Own]
  refine ⟨a, l.map fun _ => [], rfl, by simp, .inl ⟨l, vs, rfl, hH, by simp, r.len, fun i f x u e1 e2 e3 => ⟨?_, ?_⟩⟩⟩
  · rw [List.getElem?_map, e2] at e1; simpa using e1.symm
  · obtain ⟨u', e4, z⟩ := r.get e2
    rw [e3] at e4; cases e4
    exact z
theorem slot_own {i n : Nat} {d : D} {F : Nat → List Addr} (f : EnvF K κ G O ρ σ H F) (hd : dep (kd κ i) = some n) (e : ρ[i]? = some (some d)) : ∃ v, σ[i]? = some (some v) ∧ Own K (uni G.S0 O) H n (F i) d v := by
  obtain ⟨v, h1, h2⟩ := f.slot i d e
  refine ⟨v, h1, ?_⟩
  cases q : kd κ i with
  | cl => rw [q] at hd; cases hd
  | lo => rw [q] at hd; cases hd
  | ow m => rw [q] at hd h2; cases hd; exact h2
  | io m => rw [q] at hd h2; cases hd; exact h2
theorem OF_self {F : Nat → List Addr} {i : Nat} (f : EnvF K κ G O ρ σ H F) : OF (setF F i (F i)) = O := by
  have e : setF F i (F i) = F := by funext k; unfold setF; split <;> simp_all
  rw [e]
  funext a
  exact propext (f.own a).symm
theorem EnvOk.chg1 {i : Nat} {l : List D} (h : EnvOk K κ G O ρ σ H) (hd : dep (kd κ i) = some 1) (e : ρ[i]? = some (some (.lst l))) : ∃ a vs, σ[i]? = some (some (.ref a)) ∧ H a = some (.lst vs) ∧ Reps K (uni G.S0 O) H l vs ∧ O a ∧
    ∀ l' vs', Reps K (uni G.S0 O) H l' vs' → EnvOk K κ G O (kl κ (ρ.set i (some (.lst l')))) σ (upd H a (.lst vs')) ∧ Step O O H (upd H a (.lst vs')) := by
  obtain ⟨F, f⟩ := id h
  obtain ⟨v, h1, h2⟩ := slot_own f hd e
  obtain ⟨a, vs, rfl, hF, hH, r⟩ := own1_lst h2
  have ha : O a := (f.own a).mpr ⟨i, by rw [hF]; simp⟩
  refine ⟨a, vs, h1, hH, r, ha, fun l' vs' r' => ?_⟩
  have gU : Goes (uni G.S0 O) (uni G.S0 O) H (upd H a (.lst vs')) := Goes.upd hH trivial (.inr ha)
  have q := EnvF.chg (H' := upd H a (.lst vs')) (f' := F i) (fp := []) (d' := .lst l') (v := .ref a) f hd (fun b o nb eb => by
      have hne : b ≠ a := by rintro rfl; exact nb (by rw [hF]; simp)
      rw [upd_ne hne]; exact eb) (fun b eb => by
      by_cases hb : b = a
      · rw [hb, upd_same]; simp
      · rw [upd_ne hb]; exact eb) (f.nd i) (fun b hb => ⟨.inl hb, by
        have : b = a := by rw [hF] at hb; simpa using hb
        rw [this]; exact ⟨_, upd_same, trivial⟩⟩) (fun b hb => absurd hb (by simp)) h1 (by
        rw [OF_self f, hF]
        have e0 : uni G.S0 (fpS []) = G.S0 := by funext b; simp [uni, fpS]
        rw [e0]
        exact own1_mk upd_same (Reps.go gU l' vs' r'))
  rw [OF_self f, plus_nil] at q
  exact ⟨⟨_, q.1⟩, q.2⟩
end
noncomputable def sMut (κ : List SK) (i : Nat) (E : DTE) (f : List D → D → (List D → Prop) → Prop) : DTS := fun De ρ => (∃ l0, ρ[i]? = some (some (.lst l0))) ∧ E ρ fun d ρ1 => ∃ l, ρ1[i]? = some (some (.lst l)) ∧ f l d fun l' => De.nx (kl κ (ρ1.set i (some (.lst l'))))
section
variable {X : Cx} {κ : List SK} {md : SK} {pu : Bool} {i : Nat} {e : Expr} {E : DTE} {x : Str} {p apos cpos pos : Pos}
theorem PE.bm {T id : String} {name : Str} {o : Expr} {es : List Expr} {to : TE} {t : TA} {r : V → List V → Hp → VK → Prop} (hp : (e :: es).all plainE = true) (hlen : (e :: es).length < 29) (hline : (apos.endLine == cpos.line) = true) (hbase : attributeBase o name X.env (eval o X.env) = eval o X.env)
    (pa : PlainAttrs T) (slot : Slot T name id) (hty : typeOf (.builtin id) = pure (.type "method_descriptor")) (hm : MtR X id r) (ho : PE X o to) (ha : PA X (e :: es) t) : PE X (.Call (.Attribute o name apos) (e :: es) [] cpos) (tBM X.K T r to t) := (wbm hp hlen hline hbase pa slot hty hm ⟨ho⟩ ⟨ha⟩).h
theorem dmut {id : String} {name : Str} {r : V → List V → Hp → VK → Prop} {f : List D → D → (List D → Prop) → Prop} (hs : swapsWith (.Call (.Attribute (.Name x p) name apos) [e] [] cpos) none pos.line X.env = pure false) (hp : plainE e = true) (hline : (apos.endLine == cpos.line) = true) (hbase : attributeBase (.Name x p) name X.env (eval (.Name x p) X.env) = eval (.Name x p) X.env)
    (slot : Slot "list" name id) (hty : typeOf (.builtin id) = pure (.type "method_descriptor")) (hm : MtR X id r)
    (hN : X.N[i]? = some x) (hv : Vis X.env.scope x) (hd : (x == ("__debug__" : Str)) = false) (hcd : (x == ("__classdict__" : Str)) = false) (hk : dep (kd κ i) = some 1)
    (hf : ∀ (S : Addr → Prop) (H : Hp) (a : Addr) (l : List D) (vs : List V) (d : D) (v : V) (q : List D → Prop) (Q : VK), H a = some (.lst vs) → Reps X.K S H l vs → Rep X.K S H d v → S a → f l d q → (∀ l' vs', Reps X.K S H l' vs' → q l' → Q .non (upd H a (.lst vs'))) → r (.ref a) [v] H Q)
    (he : DE X κ pu .cl e E) : DS X κ md (.Expr (.Call (.Attribute (.Name x p) name apos) [e] [] cpos) pos) (sMut κ i E f) := by
  refine ⟨(ps_expr (PE.bm (by simp [hp]) (by simp) hline hbase PySem.F.plainAttrs_list slot hty hm (pe_var hN hv hd hcd) (pac hp he.h pa_nil)) hs).weak fun Dn σ H hh_ => ?_⟩
  obtain ⟨G, O, ρ, De, hE, ⟨⟨l0, e0⟩, hT⟩, nx, bk, ct, rt⟩ := hh_
  obtain ⟨a, vs, h1, h2, h3, ha, h4⟩ := hE.chg1 hk e0
  refine ⟨.ref a, h1, .inl ⟨rfl, vs, .inl (.inl h2)⟩, G, O, ρ, _, hE, hT, fun v H1 d ρ1 O1 fp s1 e1 vo p1 ⟨l, el, hq⟩ => ?_⟩
  obtain ⟨a', ws, g1, g2, g3, ga, g4⟩ := e1.drop.chg1 hk el
  rw [h1] at g1; cases g1
  exact hf (uni G.S0 O1) H1 a l ws d v _ _ g2 g3 vo.2 (.inr ga) hq fun l' vs' r' hq' => nx σ _ _ O1 (g4 l' vs' r').1 hq'
noncomputable def fAppend : List D → D → (List D → Prop) → Prop := fun l d q => l.length < sizeLine ∧ q (l ++ [d])
theorem dappend (hs : swapsWith (.Call (.Attribute (.Name x p) "append" apos) [e] [] cpos) none pos.line X.env = pure false) (hp : plainE e = true) (hline : (apos.endLine == cpos.line) = true) (hbase : attributeBase (.Name x p) "append" X.env (eval (.Name x p) X.env) = eval (.Name x p) X.env)
    (hN : X.N[i]? = some x) (hv : Vis X.env.scope x) (hd : (x == ("__debug__" : Str)) = false) (hcd : (x == ("__classdict__" : Str)) = false) (hk : dep (kd κ i) = some 1) (he : DE X κ pu .cl e E) : DS X κ md (.Expr (.Call (.Attribute (.Name x p) "append" apos) [e] [] cpos) pos) (sMut κ i E fAppend) :=
  dmut hs hp hline hbase PySem.F.slot_list_append PySem.F.type_list_append mt_append hN hv hd hcd hk (fun S H a l vs d v q Q h1 h2 h3 _ ⟨h4, h5⟩ k => ⟨a, vs, v, rfl, rfl, h1, by rw [h2.len]; exact h4, k _ _ (h2.snoc h3) h5⟩) he
noncomputable def sStore (κ : List SK) (i : Nat) (Ei E : DTE) : DTS := fun De ρ => (∃ l0, ρ[i]? = some (some (.lst l0))) ∧ E ρ fun d ρ1 => Ei ρ1 fun k ρ2 => ∃ l n j, ρ2[i]? = some (some (.lst l)) ∧ k = .int n ∧ ixN l.length n = some j ∧ De.nx (kl κ (ρ2.set i (some (.lst (l.set j d)))))
theorem Reps.set {K : PySem.W.Frag} {S : Addr → Prop} {H : Hp} : ∀ {l : List D} {vs : List V} {d : D} {v : V} (j : Nat), Reps K S H l vs → Rep K S H d v → Reps K S H (l.set j d) (vs.set j v)
  | [], vs, d, v, j, h, r => by simp only [Reps] at h; subst h; simp only [List.set_nil, Reps]
  | x :: l, vs, d, v, 0, h, r => by
    simp only [Reps] at h
    obtain ⟨u, t, rfl, h1, h2⟩ := h
    simp only [List.set_cons_zero, Reps]
    exact ⟨v, t, rfl, r, h2⟩
  | x :: l, vs, d, v, j + 1, h, r => by
    simp only [Reps] at h
    obtain ⟨u, t, rfl, h1, h2⟩ := h
    simp only [List.set_cons_succ, Reps]
    exact ⟨u, t.set j v, rfl, h1, h2.set j r⟩
theorem dstore {j : Expr} {Ei : DTE} {pui : Bool} {spos : Pos} (hs : swapsWithSole [.Subscript (.Name x p) j spos] e pos.line X.env = pure false) (hw : swappedStores [.Subscript (.Name x p) j spos] e X.env = pure none) (h1 : (assignEach [.Subscript (.Name x p) j spos] X.env).map (·.2) = [assign (.Subscript (.Name x p) j spos) X.env])
    (ha : ∀ v, assign (.Subscript (.Name x p) j spos) X.env v = (do
      let ov ← holding [v] (eval (.Name x p) X.env)
      let iv ← holding [v, ov] (eval j X.env)
      standAt spos
      holding [v, ov, iv] (setItem ov iv v)
      release [v, ov, iv] []))
    (hN : X.N[i]? = some x) (hv : Vis X.env.scope x) (hd : (x == ("__debug__" : Str)) = false) (hcd : (x == ("__classdict__" : Str)) = false) (hk : dep (kd κ i) = some 1) (he : DE X κ pu .cl e E) (hi : DE X κ pui .cl j Ei) :
    DS X κ md (.Assign [.Subscript (.Name x p) j spos] e pos) (sStore κ i Ei E) := by
  refine ⟨(ps_asg he.h (pg_sub (pe_var hN hv hd hcd) hi.h set_list ha) hs hw h1).weak fun Dn σ H hh_ => ?_⟩
  obtain ⟨G, O, ρ, De, hE, ⟨⟨l0, e0⟩, hT⟩, nx, bk, ct, rt⟩ := hh_
  refine ⟨G, O, ρ, _, hE, hT, fun v H1 d ρ1 O1 fp s1 e1 vo p1 hq1 => ?_⟩
  obtain ⟨a, vs, g1, _⟩ := hE.chg1 hk e0
  refine ⟨.ref a, g1, G, O1, ρ1, _, e1.drop, hq1, fun vi H2 di ρ2 O2 fp2 s2 e2 vo2 p2 ⟨l, n, jj, el, ek, hj, hq2⟩ => ?_⟩
  subst ek
  obtain ⟨a', ws, g2, g3, g4, ga, g5⟩ := e2.drop.chg1 hk el
  rw [g1] at g2; cases g2
  have rv : Rep X.K (uni G.S0 O2) H2 d v := Rep.go (Goes.step e1.drop.mutO s2) d v vo.2
  have ri := vo2.2
  simp only [Rep] at ri
  exact ⟨a, ws, n, jj, rfl, ri, g3, by rw [g4.len]; exact hj, nx σ _ _ O2 (g5 _ _ (g4.set jj rv)).1 hq2⟩
end
noncomputable def pyIn (x : D) (l : List D) : Bool := l.any fun y => pyEq y x
section
variable {X : Cx} {pins : List (Addr × Obj)} {σ : St} {H : Hp} {s : Shared} {S : Addr → Prop}
open Classical in
noncomputable def inU (K : PySem.W.Frag) (S : Addr → Prop) (H : Hp) (x : D) (u : Value) : Bool := match absV u with
  | some v => decide (∃ d, okE 11 d = true ∧ Rep K S H d v ∧ pyEq d x = true)
  | none => false
open Classical in
theorem inU_of (I : Inv X pins σ H s) {x d : D} {v : V} {u : Value} (od : okE 11 d = true) (r : Rep X.K S H d v) (rv : RelV v u) : inU X.K S H x u = pyEq d x := by
  unfold inU
  rw [rv.abs]
  dsimp only
  cases e : pyEq d x with
  | true => exact decide_eq_true ⟨d, od, r, e⟩
  | false =>
    refine decide_eq_false ?_
    rintro ⟨d', o', r', e'⟩
    rw [rep_same I 11 d' d v o' od r' r, e] at e'
    cases e'
theorem in_go (I : Inv X pins σ H s) {x : D} {vx : V} {ux : Value} {l : List D} {vs : List V} {its : List Value} (hu : X.A.units + 12 < cLine) (ox : okE 11 x = true) (ol : l.all (okE 11) = true) (rx : Rep X.K S H x vx) (rv : RelV vx ux) (rl : Reps X.K S H l vs) (r : Vals vs its) :
    (∀ w, w ∈ its.toArray → SeqAt.EqAt X.A.in1 s w ux (inU X.K S H x w)) ∧ its.toArray.any (inU X.K S H x) = pyIn x l := by
  constructor
  · intro w hw
    have hw : w ∈ its := by simpa using hw
    obtain ⟨j, hj, e⟩ := List.getElem_of_mem hw
    obtain ⟨v, ev, rvw⟩ := r.get2 (j := j) (u := w) (by rw [List.getElem?_eq_getElem hj, e])
    obtain ⟨d, ed, rd⟩ := rl.get' ev
    have od := List.all_eq_true.mp ol d (List.mem_of_getElem? ed)
    rw [inU_of I od rd rvw]
    exact (eqD_ok I 11 X.A.in1 d x v vx w ux od ox (by show X.A.units + 1 + 11 < cLine; omega) rd rx rvw rv).e
  · rw [show its.toArray.any (inU X.K S H x) = its.any (inU X.K S H x) by simp]
    unfold pyIn
    induction l generalizing vs its with
    | nil => simp only [Reps] at rl; subst rl; cases r; rfl
    | cons d l ih =>
      simp only [Reps] at rl
      obtain ⟨v, t, rfl, h1, h2⟩ := rl
      rw [List.all_cons, Bool.and_eq_true] at ol
      cases r with
      | cons rv1 rt =>
        rw [List.any_cons, List.any_cons, inU_of I ol.1 h1 rv1, ih ol.2 h2 rt]
end
section
variable {X : Cx}
noncomputable def oIn (neg : Bool) : DR2 := fun x y q => ∃ l, (y = .lst l ∨ y = .tup l) ∧ okE 11 x = true ∧ l.all (okE 11) = true ∧ q (.bl (neg ^^ pyIn x l))
theorem rSeq {K : PySem.W.Frag} {S : Addr → Prop} {H : Hp} {y : D} {l : List D} {v : V} (e : y = .lst l ∨ y = .tup l) (r : Rep K S H y v) : ∃ a vs, v = .ref a ∧ (SqL K H a vs ∨ SqT K H a vs) ∧ Reps K S H l vs := by
  rcases e with rfl | rfl
  · simp only [Rep] at r
    obtain ⟨a, vs, rfl, _, h, r⟩ := r
    exact ⟨a, vs, rfl, .inl (.inl h), r⟩
  · simp only [Rep] at r
    obtain ⟨a, vs, rfl, h, r⟩ := r
    exact ⟨a, vs, rfl, .inr h, r⟩
theorem do_notin (hu : X.A.units + 12 < cLine) : DOp X .cl (compareOp .NotIn) (oIn true) := by
  refine ⟨fun x y H Q => ∃ S dx dy l, (dy = .lst l ∨ dy = .tup l) ∧ okE 11 dx = true ∧ l.all (okE 11) = true ∧ Rep X.K S H dx x ∧ Rep X.K S H dy y ∧ Q (.bl (!pyIn dx l)) H, ?_, fun S H dx dy vx vy q Q rx ry ⟨l, e, h1, h2, hq⟩ k => ⟨S, dx, dy, l, e, h1, h2, rx, ry, k _ H _ [] (.refl _) ⟨rfl, by simp only [Rep, Bool.false_xor, Bool.true_xor]⟩ hq⟩⟩
  intro pins s σ H x y v u Q I rx ry h
  obtain ⟨S, dx, dy, l, e, h1, h2, r1, r2, q⟩ := h
  obtain ⟨a, vs, rfl, hq, rl⟩ := rSeq e r2
  cases ry
  rcases hq with hq | hq
  · obtain ⟨its, r, pl, hz⟩ := I.list hq
    obtain ⟨g1, g2⟩ := in_go I hu h1 h2 r1 rx rl r
    refine SeqAt.notIn_listAt (inU X.K S H dx) pl.isList g1 ⟨.bl _, H, I, rfl, ?_⟩
    rw [g2]; exact q
  · obtain ⟨its, r, pl, hz⟩ := I.tuple hq
    obtain ⟨g1, g2⟩ := in_go I hu h1 h2 r1 rx rl r
    refine SeqAt.notIn_tupleAt (inU X.K S H dx) pl g1 ⟨.bl _, H, I, rfl, ?_⟩
    rw [g2]; exact q
noncomputable def cutD (l : List D) (lo hi : Option Int) : List D := (l.drop (HT.sIx l.length 0 lo)).take (HT.sIx l.length l.length hi - HT.sIx l.length 0 lo)
structure DSl (X : Cx) (md : SK) (r : D → Option Int → Option Int → (D → Prop) → Prop) : Prop where
  h : ∃ r', SlR X r' ∧ ∀ S H dx vx lo hi q Q, Rep X.K S H dx vx → r dx lo hi q → (∀ v H' z fp, Same H H' → VRes X.K S H H' fp md z v → q z → Q v H') → r' vx lo hi H Q
theorem Reps.drop {K : PySem.W.Frag} {S : Addr → Prop} {H : Hp} : ∀ {l : List D} {vs : List V} (n : Nat), Reps K S H l vs → Reps K S H (l.drop n) (vs.drop n)
  | l, vs, 0, h => h
  | [], vs, n + 1, h => by simp only [Reps] at h; subst h; simp only [List.drop_nil, Reps]
  | x :: l, vs, n + 1, h => by
    simp only [Reps] at h
    obtain ⟨u, t, rfl, _, h2⟩ := h
    exact h2.drop n
theorem Reps.take {K : PySem.W.Frag} {S : Addr → Prop} {H : Hp} : ∀ {l : List D} {vs : List V} (n : Nat), Reps K S H l vs → Reps K S H (l.take n) (vs.take n)
  | l, vs, 0, h => by simp only [List.take_zero, Reps]
  | [], vs, n + 1, h => by simp only [Reps] at h; subst h; simp only [List.take_nil, Reps]
  | x :: l, vs, n + 1, h => by
    simp only [Reps] at h
    obtain ⟨u, t, rfl, h1, h2⟩ := h
    simp only [List.take_succ_cons, Reps]
    exact ⟨u, t.take n, rfl, h1, h2.take n⟩
theorem Reps.cut {K : PySem.W.Frag} {S : Addr → Prop} {H : Hp} {l : List D} {vs : List V} {lo hi : Option Int} (h : Reps K S H l vs) : Reps K S H (cutD l lo hi) (cutV vs lo hi) := by
  unfold cutD cutV
  rw [h.len]
  exact (h.drop _).take _
theorem dsl_s : DSl X .cl (fun x lo hi q => ∃ z, x = .str z ∧ z.length ≤ sizeLine ∧ q (.str (Txt.slice z lo hi))) :=
  ⟨⟨_, sl_str, fun S H dx vx lo hi q Q rx ⟨z, e, hz, hq⟩ k => by
    subst e
    simp only [Rep] at rx
    exact ⟨z, rx, hz, k _ H _ [] (.refl _) ⟨rfl, by simp only [Rep]⟩ hq⟩⟩⟩
noncomputable abbrev DTO := EnvD → (Option Int → EnvD → Prop) → Prop
noncomputable def tDO (K : PySem.W.Frag) (κ : List SK) (pu : Bool) (E : DTO) : TO := fun σ H Q => ∃ G O ρ q, EnvOk K κ G O ρ σ H ∧ E ρ q ∧ ∀ o H' ρ' O', Step O O' H H' → EnvOk K κ G O' ρ' σ H' → Pu pu ρ ρ' O O' H H' → q o ρ' → Q o H'
structure DO (X : Cx) (κ : List SK) (pu : Bool) (e : Option Expr) (E : DTO) : Prop where
  h : PO X e (tDO X.K κ pu E)
theorem PO.weak {e : Option Expr} {t t' : TO} (h : PO X e t) (w : ∀ σ H Q, t' σ H Q → t σ H Q) : PO X e t' := fun pins s σ H Q I q => h pins s σ H Q I (w σ H Q q)
variable {κ : List SK} {pu pu1 pu2 pu3 : Bool} {m1 md : SK} {e : Expr} {lo hi : Option Expr} {E : DTE} {El Eh : DTO} {r : D → Option Int → Option Int → (D → Prop) → Prop} {p pos : Pos}
noncomputable def eONone : DTO := fun ρ q => q none ρ
noncomputable def eOSome (E : DTE) : DTO := fun ρ q => E ρ fun d ρ' => ∃ i, d = .int i ∧ q (some i) ρ'
theorem dono : DO X κ true none eONone := ⟨po_none.weak fun σ H Q hh_ => by obtain ⟨G, O, ρ, q, hE, hq, k⟩ := hh_; exact k none H ρ O (.refl _ _) hE .refl hq⟩
theorem dosome (h : DE X κ pu .cl e E) : DO X κ pu (some e) (eOSome E) := by
  refine ⟨(po_some h.h).weak fun σ H Q hh_ => ?_⟩
  obtain ⟨G, O, ρ, q, hE, hq, k⟩ := hh_
  refine ⟨G, O, ρ, _, hE, hq, fun v H1 d ρ1 O1 fp s1 e1 vo p1 hz_ => ?_⟩
  obtain ⟨i, ei, hq1⟩ := hz_
  subst ei
  exact ⟨i, by simpa only [Rep] using vo.2, k (some i) H1 ρ1 O1 s1 e1.drop p1 hq1⟩
noncomputable def eSl (r : D → Option Int → Option Int → (D → Prop) → Prop) (E : DTE) (El Eh : DTO) : DTE := fun ρ q => E ρ fun d ρ1 => El ρ1 fun l ρ2 => Eh ρ2 fun h ρ3 => r d l h fun z => q z ρ3
theorem dsl (hr : DSl X md r) (v1 : isV m1) (hp : m1 = .lo → pu2 = true ∧ pu3 = true) (hm : md ≠ .lo) (he : DE X κ pu1 m1 e E) (hl : DO X κ pu2 lo El) (hh : DO X κ pu3 hi Eh) : DE X κ ((pu1 && pu2) && pu3) (outM (loB m1) md) (.Subscript e (.Slice lo hi none p) pos) (eSl r E El Eh) := by
  obtain ⟨r', h1, h2⟩ := hr.h
  refine ⟨(pe_slice h1 he.h hl.h hh.h).weak fun σ H Q hh_ => ?_⟩
  obtain ⟨G, O, ρ, q, hE, hq, k⟩ := hh_
  refine ⟨G, O, ρ, _, hE, hq, fun v H1 d ρ1 O1 fp s1 e1 vo p1 hq1 => ⟨G, O1, ρ1, _, e1.drop, hq1, fun ol H2 ρ2 O2 s2 e2 p2 hq2 => ⟨G, O2, ρ2, _, e2, hq2, fun oh H3 ρ3 O3 s3 e3 p3 hq3 => ?_⟩⟩⟩
  have rx : Rep X.K (Sx (loB m1) G.S0 O3) H3 d v := vo.after v1 (fun z => ⟨by rw [z]; rfl, (p2 (hp z).1).1.trans (p3 (hp z).2).1⟩) e1.drop.mutO (s2.trans s3)
  refine h2 _ H3 d v ol oh _ Q rx hq3 fun w H' z fp3 sm vr hz => ?_
  obtain ⟨fp', st, en, vo'⟩ := VRes.fin e3 ((s1.trans s2).trans s3) sm vr hm
  exact k w H' z ρ3 O3 fp' st en vo' (((p1.and p2).and p3).same sm) hz
end
theorem flat_apart {b : Addr} : ∀ {fps : List (List Addr)} {i k : Nat} {f g : List Addr}, fps.flatten.Nodup → fps[i]? = some f → fps[k]? = some g → i ≠ k → b ∈ f → b ∈ g → False
  | [], i, k, f, g, _, h, _, _, _, _ => by simp at h
  | h :: t, i, k, f, g, nd, e1, e2, ne, b1, b2 => by
    rw [List.flatten_cons, List.nodup_append] at nd
    obtain ⟨_, nd2, dj⟩ := nd
    have tin : ∀ {j : Nat} {f : List Addr}, t[j]? = some f → b ∈ f → b ∈ t.flatten := fun e hb => List.mem_flatten.mpr ⟨_, List.mem_of_getElem? e, hb⟩
    cases i with
    | zero =>
      cases k with
      | zero => exact ne rfl
      | succ k =>
        simp at e1 e2; subst e1
        exact dj b b1 b (tin e2 b2) rfl
    | succ i =>
      cases k with
      | zero =>
        simp at e1 e2; subst e2
        exact dj b b2 b (tin e1 b1) rfl
      | succ k => exact flat_apart nd2 (by simpa using e1) (by simpa using e2) (by omega) b1 b2
theorem plus_plus (G : G0) (a b : List Addr) : (G.plus a).plus b = G.plus (a ++ b) := by
  have e : uni (uni G.S0 (fpS a)) (fpS b) = uni G.S0 (fpS (a ++ b)) := by
    funext x
    simp only [uni, fpS, List.mem_append, or_assoc]
  show (⟨uni (uni G.S0 (fpS a)) (fpS b), G.O0, G.H0, G.ps, G.gh⟩ : G0) = ⟨uni G.S0 (fpS (a ++ b)), G.O0, G.H0, G.ps, G.gh⟩
  rw [e]
theorem goes_new {S : Addr → Prop} {H H' : Hp} {fp : List Addr} (s : Same H H') (hf : ∀ a ∈ fp, H a = none) : Goes S (uni S (fpS fp)) H H' := by
  refine ⟨fun a xs q => (Goes.same (S := S) s).tup a xs q, fun a u n q => ⟨((Goes.same (S := S) s).obj a u n q).1, fun z => z.elim n fun z => ?_⟩, fun a o u q => s _ _ q⟩
  obtain ⟨o, e⟩ := q.some
  rw [hf a z] at e; cases e
section
variable {X : Cx} {κ : List SK} {pu lo : Bool} {I : DTI} {g : DTG} {C : DTT} {E : DTE} {js : List (Option Nat)} {K : PySem.W.Frag}
theorem comp2_go (hcap : lo = false → ∀ j ∈ js, ∀ i, j = some i → kd κ i = .cl) {pe : Bool} {lo0 : Bool} (hlo : lo0 = true → lo = true) {σ : St} {H : Hp} {Q : VK} (h : tD K κ pu (outM lo (.ow 2)) (eComp js I g C E) σ H Q) :
    tComp js (tDI K κ pu lo0 I) (tDG K [] .cl g) (tDT K [] false C) (tD K [] pe (.ow 1) E) σ H Q := by
  obtain ⟨G, O, ρ, q, hE, hq, k⟩ := h
  refine ⟨G, O, ρ, _, hE, hq, fun J H1 ds ρ1 O1 s1 e1 p1 ⟨di, vi, ri, hJ⟩ hgo Dl hD => ?_⟩
  let S := uni (Sx lo G.S0 O1) (· = Dl)
  let Gi : G0 := ⟨S, fun _ => False, H1, inSt js σ, []⟩
  have ri' : Rep K (Sx lo G.S0 O1) H1 di vi := by
    cases lo with
    | false =>
      cases lo0 with
      | false => exact ri
      | true => exact absurd (hlo rfl) Bool.false_ne_true
    | true =>
      cases lo0 with
      | false => exact Rep.go (.less fun _ z => .inl z) di vi ri
      | true => exact ri
  have u0 : ∀ S : Addr → Prop, uni S (fun _ => False) = S := fun S => by funext a; simp [uni]
  have start : EnvOk K [] Gi (fun _ => False) (inD js ρ1) (inSt js σ) (upd H1 Dl (.lst [])) := by
    refine ⟨fun _ => [], ?_, fun a => by simp, fun _ _ => rfl, fun i j a h => absurd h (by simp), fun _ => by simp, fun i a h => absurd h (by simp), fun i a h => absurd h (by simp), fun i n e => rfl, fun p hp => absurd hp (by simp [Gi]), fun a z => ?_, fun b o _ e => ?_, fun b e => ?_, fun p d e => ?_⟩
    · simp [inD, inSt]
    · rcases z with z | z
      · have := Sx_dom (lo := lo) e1 a z
        by_cases hab : a = Dl
        · rw [hab, upd_same]; simp
        · rw [upd_ne hab]; exact this
      · rw [z, upd_same]; simp
    · rw [upd_ne (ne_of_none e hD)]; exact e
    · by_cases hab : b = Dl
      · rw [hab, upd_same]; simp
      · rw [upd_ne hab]; exact e
    · obtain ⟨j, hj, e2⟩ := inD_get e
      obtain ⟨v, h1, h2, h3⟩ := e1.read e2
      refine ⟨v, inSt_get hj h1, ?_⟩
      show Rep K (uni S fun _ => False) _ d v
      rw [u0]
      refine Rep.go (Goes.fresh hD) d v ?_
      cases lo with
      | true => exact h2
      | false => exact h3 (hcap rfl (some j) (List.mem_of_getElem? hj) j rfl)
  have empty : ∀ {Fp : List Addr} {O' : Addr → Prop} {ρ' : EnvD} {σ' : St} {H' : Hp}, EnvOk K [] (Gi.plus Fp) O' ρ' σ' H' → O' = fun _ => False := fun {Fp O' ρ' σ' H'} h => by
    obtain ⟨F, f⟩ := h
    funext a
    have : ¬ O' a := fun z => by
      obtain ⟨i, hi⟩ := (f.own a).mp z
      rw [f.non i (by simp [kd, dep])] at hi
      exact absurd hi (by simp)
    simp [this]
  have sameIn : ∀ {Fp : List Addr} {O' : Addr → Prop} {ρ' : EnvD} {σ' : St} {H' : Hp}, EnvOk K [] (Gi.plus Fp) O' ρ' σ' H' → Same H1 H' := fun h => by
    obtain ⟨F, f⟩ := h
    exact fun b o e => f.keep b o (fun z => z) e
  let Acc : List D → List V → List (List Addr) → Hp → Prop := fun acc vs fps H' => fps.length = acc.length ∧ vs.length = acc.length ∧ (∀ (i : Nat) (f : List Addr) (x : D) (u : V), fps[i]? = some f → acc[i]? = some x → vs[i]? = some u → Own K (uni S (fpS fps.flatten)) H' 1 f x u) ∧ fps.flatten.Nodup ∧ ∀ a ∈ fps.flatten, H1 a = none ∧ a ≠ Dl ∧ ∃ o, H' a = some o ∧ isM o
  have accSame : ∀ {acc vs fps H' H''}, Acc acc vs fps H' → Same H' H'' → Acc acc vs fps H'' := fun {acc vs fps H' H''} ⟨a1, a2, a3, a4, a5⟩ sm => ⟨a1, a2, fun i f x u e1 e2 e3 => Own.go (Goes.same sm) 1 f x u (fun a _ o e => sm a o e) (a3 i f x u e1 e2 e3), a4, fun a ha => let ⟨b1, b2, o, b3, b4⟩ := a5 a ha; ⟨b1, b2, o, sm _ _ b3, b4⟩⟩
  refine ⟨fun i m σ' H' => m + i = ds.length ∧ ∃ ρi acc vs fps, EnvOk K [] (Gi.plus fps.flatten) (fun _ => False) ρi σ' H' ∧ H' Dl = some (.lst vs) ∧ Acc acc vs fps H' ∧ compGo g C E (ds.drop i) acc ρi (fun acc _ => q (.lst acc) ρ1), ⟨ds.length, rfl, _, [], [], [], (by show EnvOk K [] (Gi.plus []) _ _ _ _; rw [plus_nil]; exact start), upd_same, ⟨rfl, rfl, fun i f x u e => by simp at e, by simp, fun a ha => absurd ha (by simp)⟩, hgo⟩, ?_⟩
  rintro i m σ' H' ⟨hm, ρi, acc, vs, fps, en, hDl, hacc, hg⟩
  have sm := sameIn en
  have hit := hJ _ H' (Rep.go (Goes.same sm) di vi ri') i
  cases e : ds[i]? with
  | none =>
    left
    have hi : ds.length ≤ i := List.getElem?_eq_none_iff.mp e
    rw [List.drop_eq_nil_of_le hi] at hg
    refine ⟨hit.2 e, ?_⟩
    obtain ⟨a1, a2, a3, a4, a5⟩ := hacc
    have vr : VRes K (Sx lo G.S0 O1) H1 H' (Dl :: fps.flatten) (.ow 2) (.lst acc) (.ref Dl) := by
      refine ⟨List.nodup_cons.mpr ⟨fun z => (a5 Dl z).2.1 rfl, a4⟩, fun a ha => ?_, ?_⟩
      · rcases List.mem_cons.mp ha with rfl | ha
        · exact ⟨hD, _, hDl, trivial⟩
        · exact ⟨(a5 a ha).1, (a5 a ha).2.2⟩
      · have eq : uni (Sx lo G.S0 O1) (fpS (Dl :: fps.flatten)) = uni S (fpS fps.flatten) := by funext a; simp only [uni, fpS, S, List.mem_cons, or_assoc]
        rw [eq]
        have h2 : ∀ (i : Nat) (f : List Addr) (x : D) (u : V), fps[i]? = some f → acc[i]? = some x → vs[i]? = some u → Own K (uni S (fpS fps.flatten)) H' 1 f x u := a3
        unfold Own
        exact ⟨Dl, fps, rfl, rfl, .inl ⟨acc, vs, rfl, hDl, a1, a2, h2⟩⟩
    obtain ⟨fp', st, en', vo⟩ := VRes.fin e1 s1 sm vr (by simp)
    exact k _ H' _ ρ1 O1 fp' st en' vo (p1.same sm) hg
  | some d =>
    right
    rw [drop_at e] at hg
    obtain ⟨Nd, hNd, hg⟩ := hg
    obtain ⟨g1, g2⟩ := hit.1 d e
    have hi : i < ds.length := (List.getElem?_eq_some_iff.mp e).1
    refine ⟨g1, fun σ2 H2 => ∃ ρi acc vs fps, EnvOk K [] (Gi.plus fps.flatten) (fun _ => False) ρi σ2 H2 ∧ H2 Dl = some (.lst vs) ∧ Acc acc vs fps H2 ∧ compGo g C E (ds.drop (i + 1)) acc ρi (fun acc _ => q (.lst acc) ρ1), fun σ2 H2 ⟨ρi, acc, vs, fps, z⟩ => ⟨ds.length - (i + 1), by omega, by omega, ρi, acc, vs, fps, z⟩, fun x H2 y => ?_⟩
    have hit2 := hJ (uni S (fpS fps.flatten)) H' (by
      have q1 := Rep.go (goes_new (S := Sx lo G.S0 O1) (fp := Dl :: fps.flatten) sm (fun a ha => by
        rcases List.mem_cons.mp ha with rfl | ha
        · exact hD
        · exact (hacc.2.2.2.2 a ha).1)) di vi ri'
      have eq : uni (Sx lo G.S0 O1) (fpS (Dl :: fps.flatten)) = uni S (fpS fps.flatten) := by funext a; simp only [uni, fpS, S, List.mem_cons, or_assoc]
      rw [eq] at q1
      exact q1) i
    obtain ⟨sm2, rx⟩ := (hit2.1 d e).2 x H2 y
    have en2 := en.same0 sm2
    have hDl2 := sm2 _ _ hDl
    have hacc2 := accSame hacc sm2
    refine ⟨Gi.plus fps.flatten, _, ρi, _, d, en2, (by rw [show Sx (loB .cl) (Gi.plus fps.flatten).S0 (fun _ => False) = uni (uni S (fpS fps.flatten)) fun _ => False from rfl, u0]; exact rx), hg, fun σ3 ρ3 e3 hc => ⟨Gi.plus fps.flatten, _, ρ3, _, e3, hc, fun b H4 ρ4 O4 s4 e4 p4 hb => ?_⟩⟩
    have o4 := empty e4
    subst o4
    have sm4 : Same H2 H4 := fun b o e => s4.keep b o (fun z => z) e
    have hDl4 := sm4 _ _ hDl2
    have hacc4 := accSame hacc2 sm4
    cases b with
    | false =>
      rw [if_neg Bool.false_ne_true] at hb
      exact iteF ⟨ρ4, acc, vs, fps, e4, hDl4, hacc4, hNd _ _ hb⟩
    | true =>
      rw [if_pos rfl] at hb
      refine iteT ⟨Gi.plus fps.flatten, _, ρ4, _, e4, hb, fun v H5 z ρ5 O5 fp s5 e5 vo p5 ⟨hlen, hz⟩ => ?_⟩
      rw [plus_plus] at e5
      have o5 := empty e5
      subst o5
      have sm5 : Same H4 H5 := fun b o e => s5.keep b o (fun z => z) e
      have hDl5 := sm5 _ _ hDl4
      obtain ⟨nd, v2, v3⟩ := vo
      obtain ⟨a1, a2, a3, a4, a5⟩ := hacc4
      have eflat : (fps ++ [fp]).flatten = fps.flatten ++ fp := by simp
      have fpD : ∀ a ∈ fp, a ≠ Dl := fun a ha z => by
        have := (v2 a ha).1
        rw [z, hDl4] at this; cases this
      have fpnew : ∀ a ∈ fp, H1 a = none := fun a ha => by
        cases e0 : H1 a with
        | none => rfl
        | some o =>
          have := (sm.trans (sm2.trans sm4)) a o e0
          rw [(v2 a ha).1] at this; cases this
      refine ⟨vs, hDl5, by rw [a2]; exact hlen, ρ5, acc ++ [z], vs ++ [v], fps ++ [fp], ?_, upd_same, ⟨by simp [a1], by simp [a2], fun i f x u e1 e2 e3 => ?_, ?_, fun a ha => ?_⟩, hNd _ _ hz⟩
      · rw [eflat]
        exact e5.updS (.inl (.inr rfl)) hDl5 trivial hD
      · rw [eflat]
        have gU : Goes (uni S (fpS (fps.flatten ++ fp))) (uni S (fpS (fps.flatten ++ fp))) H5 (upd H5 Dl (.lst (vs ++ [v]))) := Goes.upd hDl5 trivial (.inl (.inr rfl))
        by_cases hi' : i < acc.length
        · rw [List.getElem?_append_left (by omega)] at e1
          rw [List.getElem?_append_left (by omega)] at e2
          rw [List.getElem?_append_left (by omega)] at e3
          have inF : ∀ a ∈ f, a ∈ fps.flatten := fun a ha => List.mem_flatten.mpr ⟨f, List.mem_of_getElem? e1, ha⟩
          have old := a3 i f x u e1 e2 e3
          have step1 : Own K (uni (uni S (fpS fps.flatten)) (fpS fp)) H5 1 f x u := Own.go (goes_new sm5 (fun a ha => (v2 a ha).1)) 1 f x u (fun a _ o e => sm5 a o e) old
          have eq : uni (uni S (fpS fps.flatten)) (fpS fp) = uni S (fpS (fps.flatten ++ fp)) := by funext a; simp only [uni, fpS, List.mem_append, or_assoc]
          rw [eq] at step1
          exact Own.go gU 1 f x u (fun a ha o e => by rw [upd_ne (a5 a (inF a ha)).2.1]; exact e) step1
        · have hie : i = acc.length := by
            have := (List.getElem?_eq_some_iff.mp e2).1
            simp at this; omega
          subst hie
          rw [List.getElem?_append_right (by omega)] at e1
          rw [List.getElem?_append_right (by omega)] at e2
          rw [List.getElem?_append_right (by omega)] at e3
          simp only [a1, a2, Nat.sub_self, List.getElem?_cons_zero, Option.some.injEq] at e1 e2 e3
          subst e1 e2 e3
          have v3' : Own K (uni S (fpS (fps.flatten ++ fp))) H5 1 fp z v := by
            have eq : uni (uni (Gi.plus fps.flatten).S0 (fpS fp)) (fun _ => False) = uni S (fpS (fps.flatten ++ fp)) := by rw [u0]; funext a; simp only [G0.plus, Gi, uni, fpS, List.mem_append, or_assoc]
            rw [eq] at v3
            exact v3
          exact Own.go gU 1 fp z v (fun a ha o e => by rw [upd_ne (fpD a ha)]; exact e) v3'
      · rw [eflat, List.nodup_append]
        refine ⟨a4, nd, fun a ha b hb hab => ?_⟩
        subst hab
        obtain ⟨_, _, o, eo, _⟩ := a5 a ha
        rw [(v2 a hb).1] at eo; cases eo
      · rw [eflat, List.mem_append] at ha
        rcases ha with ha | ha
        · obtain ⟨b1, b2, o, b3, b4⟩ := a5 a ha
          exact ⟨b1, b2, o, by rw [upd_ne b2]; exact sm5 _ _ b3, b4⟩
        · obtain ⟨_, _, o, b3, b4⟩ := v2 a ha
          exact ⟨fpnew a ha, fpD a ha, o, by rw [upd_ne (fpD a ha)]; exact b3, b4⟩
variable {tg elt iter : Expr} {ifs : List Expr} {scope : Scope} {pos : Pos} {Nc : List Str} {lo0 pe : Bool}
theorem dsetC2 {i : Nat} {y : Str} {py spos : Pos} {mr : SK} (hk : kd κ i = .ow 2) (hsw : swapsWith (.ListComp elt [⟨tg, iter, ifs, 0⟩] scope pos) (some (.Name y py)) spos.line X.env = pure true) (hs : ∀ x, foldedSetIterable iter X.env x = pure x)
    (hc : X.calm = true) (hN : X.N.Nodup) (hiN : X.N[i]? = some y) (hy : X.env.scope.names.lookup y = some .local) (hcap : ∀ j ∈ js, ∀ i, j = some i → kd κ i = .cl) (hi : DI X κ pu false tg iter I) (S : CompSc X Nc js scope)
    (hb : ∀ pins fp H s C', DG (cxComp X Nc scope pins fp H s C') [] .cl tg g ∧ DIf (cxComp X Nc scope pins fp H s C') [] ifs C ∧ DE (cxComp X Nc scope pins fp H s C') [] pe (.ow 1) elt E) :
    DS X κ mr (.Assign [.Name y py] (.ListComp elt [⟨tg, iter, ifs, 0⟩] scope pos) spos) (sSet i (eComp js I g C E)) := by
  refine ⟨(ps_setC hc hN hiN hy hi.h S (fun p f H s C' => let ⟨x, y, z⟩ := hb p f H s C'; ⟨x.h, y.h, z.h⟩) hsw hs).weak fun D σ H ⟨G, O, ρ, De, hE, hT, nx, bk, ct, rt⟩ => comp2_go (K := X.K) (lo := false) (fun _ => hcap) (fun z => absurd z Bool.false_ne_true) ⟨G, O, ρ, _, hE, hT, fun v H' d ρ' O' fp s1 e1 vo p1 hq => ?_⟩⟩
  obtain ⟨O2, e2⟩ := EnvOk.putO hk e1 hE.dom hE.s0 vo
  exact nx _ H' _ O2 e2 hq
end
section
variable {K : PySem.W.Frag} {κ : List SK} {G : G0} {O : Addr → Prop} {ρ : EnvD} {σ : St} {H : Hp}
theorem EnvOk.chg2 {i : Nat} {l : List D} (h : EnvOk K κ G O ρ σ H) (hd : dep (kd κ i) = some 2) (e : ρ[i]? = some (some (.lst l))) : ∃ a vs, σ[i]? = some (some (.ref a)) ∧ H a = some (.lst vs) ∧ vs.length = l.length ∧
    ∀ k l2, l[k]? = some (.lst l2) → ∃ b ws, vs[k]? = some (.ref b) ∧ H b = some (.lst ws) ∧ Reps K (uni G.S0 O) H l2 ws ∧ O b ∧
      ∀ l' ws', Reps K (uni G.S0 O) H l' ws' → EnvOk K κ G O (kl κ (ρ.set i (some (.lst (l.set k (.lst l')))))) σ (upd H b (.lst ws')) ∧ Step O O H (upd H b (.lst ws')) := by
  obtain ⟨F, f⟩ := id h
  obtain ⟨v, h1, h2⟩ := slot_own f hd e
  unfold Own at h2
  obtain ⟨a, fps, rfl, hF, h2⟩ := h2
  rcases h2 with ⟨l', vs, ee, hH, n1, n2, n3⟩ | ⟨_, _, _, ee, _⟩ | ⟨_, _, _, ee, _⟩
  · cases ee
    refine ⟨a, vs, h1, hH, n2, fun k l2 ek => ?_⟩
    have hk : k < l.length := (List.getElem?_eq_some_iff.mp ek).1
    have ef : fps[k]? = some (fps[k]'(by omega)) := List.getElem?_eq_getElem _
    have ev : vs[k]? = some (vs[k]'(by omega)) := List.getElem?_eq_getElem _
    obtain ⟨b, ws, eb, efb, hb, rb⟩ := own1_lst (n3 k _ _ _ ef ek ev)
    rw [eb] at ev
    rw [efb] at ef
    have inF : b ∈ F i := by rw [hF]; exact List.mem_cons_of_mem _ (List.mem_flatten.mpr ⟨[b], List.mem_of_getElem? ef, by simp⟩)
    have hO : O b := (f.own b).mpr ⟨i, inF⟩
    have ndF := f.nd i
    rw [hF] at ndF
    have nab : a ≠ b := by
      rintro rfl
      exact (List.nodup_cons.mp ndF).1 (List.mem_flatten.mpr ⟨[a], List.mem_of_getElem? ef, by simp⟩)
    refine ⟨b, ws, ev, hb, rb, hO, fun l' ws' r' => ?_⟩
    have gU : Goes (uni G.S0 O) (uni G.S0 O) H (upd H b (.lst ws')) := Goes.upd hb trivial (.inr hO)
    have q := EnvF.chg (H' := upd H b (.lst ws')) (f' := F i) (fp := []) (d' := .lst (l.set k (.lst l'))) (v := .ref a) f hd (fun c o nc ec => by
        have hne : c ≠ b := by rintro rfl; exact nc inF
        rw [upd_ne hne]; exact ec) (fun c ec => by
        by_cases hc : c = b
        · rw [hc, upd_same]; simp
        · rw [upd_ne hc]; exact ec) (f.nd i) (fun c hc => ⟨.inl hc, by
          by_cases hcb : c = b
          · rw [hcb]; exact ⟨_, upd_same, trivial⟩
          · obtain ⟨_, o, eo, m⟩ := f.mu i c hc
            exact ⟨o, by rw [upd_ne hcb]; exact eo, m⟩⟩) (fun c hc => absurd hc (by simp)) h1 (by
          rw [OF_self f]
          have e0 : uni G.S0 (fpS []) = G.S0 := by funext c; simp [uni, fpS]
          rw [e0]
          unfold Own
          refine ⟨a, fps, rfl, hF, .inl ⟨_, vs, rfl, by rw [upd_ne nab]; exact hH, by rw [List.length_set]; exact n1, by rw [List.length_set]; exact n2, fun j fj x u e1 e2 e3 => ?_⟩⟩
          by_cases hjk : j = k
          · subst hjk
            rw [List.getElem?_set_self hk] at e2
            cases e2
            rw [ef] at e1; cases e1
            rw [ev] at e3; cases e3
            exact own1_mk upd_same (Reps.go gU l' ws' r')
          · rw [List.getElem?_set_ne (Ne.symm hjk)] at e2
            refine Own.go gU 1 fj x u (fun c hc o ec => ?_) (n3 j fj x u e1 e2 e3)
            have hne : c ≠ b := by rintro rfl; exact flat_apart (List.nodup_cons.mp ndF).2 e1 ef hjk hc (by simp)
            rw [upd_ne hne]; exact ec)
    rw [OF_self f, plus_nil] at q
    exact ⟨⟨_, q.1⟩, q.2⟩
  · cases ee
  · cases ee
end
noncomputable def sStore2 (κ : List SK) (i : Nat) (E1 E2 E : DTE) : DTS := fun De ρ => (∃ l0, ρ[i]? = some (some (.lst l0))) ∧ E ρ fun d ρ1 => E1 ρ1 fun k1 ρ2 => ∃ n1 j1 l0 m, k1 = .int n1 ∧ ρ2[i]? = some (some (.lst l0)) ∧ ixN l0.length n1 = some j1 ∧ l0[j1]? = some (.lst m) ∧
  E2 ρ2 fun k2 ρ3 => ∃ n2 j2 l m2, k2 = .int n2 ∧ ρ3[i]? = some (some (.lst l)) ∧ l[j1]? = some (.lst m2) ∧ ixN m2.length n2 = some j2 ∧ De.nx (kl κ (ρ3.set i (some (.lst (l.set j1 (.lst (m2.set j2 d)))))))
section
variable {X : Cx} {κ : List SK} {md : SK} {pu : Bool} {i : Nat} {e : Expr} {E : DTE} {x : Str} {p apos cpos pos : Pos}
theorem dstore2 {j1 j2 : Expr} {E1 E2 : DTE} {pu1 : Bool} {spos ipos : Pos} (hs : swapsWithSole [.Subscript (.Subscript (.Name x p) j1 ipos) j2 spos] e pos.line X.env = pure false) (hw : swappedStores [.Subscript (.Subscript (.Name x p) j1 ipos) j2 spos] e X.env = pure none) (h1 : (assignEach [.Subscript (.Subscript (.Name x p) j1 ipos) j2 spos] X.env).map (·.2) = [assign (.Subscript (.Subscript (.Name x p) j1 ipos) j2 spos) X.env])
    (ha : ∀ v, assign (.Subscript (.Subscript (.Name x p) j1 ipos) j2 spos) X.env v = (do
      let ov ← holding [v] (eval (.Subscript (.Name x p) j1 ipos) X.env)
      let iv ← holding [v, ov] (eval j2 X.env)
      standAt spos
      holding [v, ov, iv] (setItem ov iv v)
      release [v, ov, iv] [])) (hpl : PlainIx j1)
    (hN : X.N[i]? = some x) (hv : Vis X.env.scope x) (hd : (x == ("__debug__" : Str)) = false) (hcd : (x == ("__classdict__" : Str)) = false) (hk : dep (kd κ i) = some 2) (he : DE X κ pu .cl e E) (hi1 : DE X κ pu1 .cl j1 E1) (hi2 : DE X κ true .cl j2 E2) :
    DS X κ md (.Assign [.Subscript (.Subscript (.Name x p) j1 ipos) j2 spos] e pos) (sStore2 κ i E1 E2 E) := by
  refine ⟨(ps_asg he.h (pg_sub (pe_ix ix_list (pe_var hN hv hd hcd) hi1.h hpl) hi2.h set_list ha) hs hw h1).weak fun Dn σ H hh_ => ?_⟩
  obtain ⟨G, O, ρ, De, hE, ⟨⟨l00, e0⟩, hT⟩, nx, bk, ct, rt⟩ := hh_
  refine ⟨G, O, ρ, _, hE, hT, fun v H1 d ρ1 O1 fp s1 e1 vo pp1 hq1 => ?_⟩
  obtain ⟨a, vs0, g1, _⟩ := hE.chg2 hk e0
  refine ⟨.ref a, g1, G, O1, ρ1, _, e1.drop, hq1, fun vi H2 di ρ2 O2 fp2 s2 e2 vo2 pp2 ⟨n1, jj1, l0, m, ek, el0, hj1, em, hq2⟩ => ?_⟩
  subst ek
  have ri := vo2.2
  simp only [Rep] at ri
  obtain ⟨a', ws, g2, g3, g4, g5⟩ := e2.drop.chg2 hk el0
  rw [g1] at g2; cases g2
  obtain ⟨b, bs, b1, b2, b3, bO, b4⟩ := g5 jj1 m em
  refine ⟨a, ws, n1, .ref b, rfl, ri, .inl (.inl g3), ?_, G, O2, ρ2, _, e2.drop, hq2, fun vi2 H3 di2 ρ3 O3 fp3 s3 e3 vo3 pp3 ⟨n2, jj2, l, m2, ek2, el, em2, hj2, hq3⟩ => ?_⟩
  · unfold atI
    rw [g4, hj1]
    exact b1
  · subst ek2
    obtain ⟨sm3, er, eO⟩ := pp3 rfl
    subst er eO
    rw [el0] at el; cases el
    rw [em] at em2; cases em2
    obtain ⟨a'', ws', g2', g3', g4', g5'⟩ := e3.drop.chg2 hk el0
    rw [g1] at g2'; cases g2'
    rw [sm3 _ _ g3] at g3'; cases g3'
    obtain ⟨b', bs', b1', b2', b3', _, b4'⟩ := g5' jj1 m em
    rw [b1] at b1'; cases b1'
    have rv : Rep X.K (uni G.S0 O3) H3 d v := Rep.go (Goes.step e1.drop.mutO (s2.trans s3)) d v vo.2
    have ri2 := vo3.2
    simp only [Rep] at ri2
    exact ⟨b, bs', n2, jj2, rfl, ri2, b2', by rw [b3'.len]; exact hj2, nx σ _ _ O3 (b4' _ _ (b3'.set jj2 rv)).1 hq3⟩
end
end L2
namespace L2
open PySem PySem.Spec PyProof.Rows
open AutoSeq1 (wpAny_loadPart')
section
variable {prog : Program} {w : World} {A : Around} {E : Value → Shared → Prop} {s : Shared}
theorem nextOf_tup_item {it t : Addr} {i : Nat} {items} {x : Value} {Q : Value → Shared → Prop} (hit : s.heap.IsTupleIter it t i) (ht : s.heap.IsTuple t items) (hx : items[i]? = some x)
    (hQ : ∀ h', h'.IsTupleIter it t (i + 1) → Heap.SameBut it s.heap h' → Q x { s with heap := h' }) : wpAny (model prog w) A (Builtin.SmallTypes.nextOf (.ref it)) Q E s := by
  obtain ⟨o, ho, hc, hd⟩ := id hit
  obtain ⟨ol, hol, _, nl, hdl⟩ := ht
  unfold Builtin.SmallTypes.nextOf
  refine wpAny_bind (wpAny_callSpecial?_slot (name := Str.ofString "__next__") hit.typeIs F.slot_tuple_iterator_next (wpAny_call_entry F.slot_tuple_iterator_next hit.typeIs F.entry_tuple_iterator_next ?_ (F.args_tuple_iterator_next_1 _)))
  show wpAny _ _ (field (.ref it) 0 >>= _) _ _ s
  refine wpAny_bind (wpAny_field ho hd (x := .ref t) rfl ?_)
  show wpAny _ _ (if (Value.ref t == Value.none) = true then _ else _) _ _ s
  rw [if_neg (show ¬ ((Value.ref t == Value.none) = true) from Bool.false_ne_true)]
  show wpAny _ _ (field (.ref it) 1 >>= _) _ _ s
  refine wpAny_bind (wpAny_field ho hd (x := .int i 0) rfl ?_)
  show wpAny _ _ (seqItems? (.ref t) >>= _) _ _ s
  refine wpAny_bind (wpAny_seqItems hol hdl ?_)
  simp only [Int.toNat_natCast, hx]
  refine wpAny_bind (wpAny_setField ho hd (by simp) (wpAny_pure ⟨x, rfl, wpAny_pure (hQ _ ?_ (Heap.SameBut.update ..))⟩))
  exact ⟨_, Heap.get?_update_self _ ho (Obj.isFreed_of_fields (Obj.data_mapFields hd _)), (Obj.cls_mapFields ..).trans hc, by rw [Obj.data_mapFields hd]; simp [rawInt]⟩
theorem nextOf_tup_end {it t : Addr} {i : Nat} {items} {Q : Value → Shared → Prop} (hh : A.handled = none) (hit : s.heap.IsTupleIter it t i) (ht : s.heap.IsTuple t items) (hx : items[i]? = none)
    (hE : ∀ h' e, Heap.ExtBut it s.heap h' → (∃ o, h'.get? e = some o ∧ o.cls = .type "StopIteration") → E (.ref e) { s with heap := h' }) : wpAny (model prog w) A (Builtin.SmallTypes.nextOf (.ref it)) Q E s := by
  obtain ⟨o, ho, hc, hd⟩ := id hit
  obtain ⟨ol, hol, _, nl, hdl⟩ := ht
  unfold Builtin.SmallTypes.nextOf
  refine wpAny_bind (wpAny_callSpecial?_slot (name := Str.ofString "__next__") hit.typeIs F.slot_tuple_iterator_next (wpAny_call_entry F.slot_tuple_iterator_next hit.typeIs F.entry_tuple_iterator_next ?_ (F.args_tuple_iterator_next_1 _)))
  show wpAny _ _ (field (.ref it) 0 >>= _) _ _ s
  refine wpAny_bind (wpAny_field ho hd (x := .ref t) rfl ?_)
  show wpAny _ _ (if (Value.ref t == Value.none) = true then _ else _) _ _ s
  rw [if_neg (show ¬ ((Value.ref t == Value.none) = true) from Bool.false_ne_true)]
  show wpAny _ _ (field (.ref it) 1 >>= _) _ _ s
  refine wpAny_bind (wpAny_field ho hd (x := .int i 0) rfl ?_)
  show wpAny _ _ (seqItems? (.ref t) >>= _) _ _ s
  refine wpAny_bind (wpAny_seqItems hol hdl ?_)
  simp only [Int.toNat_natCast, hx]
  refine wpAny_bind (wpAny_rule (wpAny_bind (wpAny_setField ho hd (by simp) ?_)))
  show wpAny _ _ (newExc (.type "StopIteration") [] >>= _) _ _ _
  refine wpAny_bind ?_
  simp only [newExc, newTuple]
  refine wpAny_bind (wpAny_newObj_type ?_ (by size_fits))
  refine wpAny_bind (m := firstArgMember _ _) (wpAny_of_eq (a := Value.none) (by first | rfl | (simp only [firstArgMember]; rfl)) ?_)
  refine wpAny_newObj_type ?_ (by size_fits)
  simp only [raiseNew]
  refine wpAny_bind (wpAny_handled ?_)
  first | rw [show A.in1.handled = none from hh] | rw [hh]
  refine wpAny_bind (wpAny_pure (wpAny_throw ?_))
  exact hE _ _ (((Heap.SameBut.update ..).extBut.push _).push _) ⟨_, Heap.get?_push_size _ rfl, rfl⟩
end
theorem IsTupleIter.at' {h h' : Heap} {a t : Addr} {i : Nat} (x : h.IsTupleIter a t i) (k : ∀ o, h.get? a = some o → h'.get? a = some o) : h'.IsTupleIter a t i := let ⟨o, ho, r⟩ := x; ⟨o, k o ho, r⟩
theorem drawsT {prog : Program} {w : World} {A : Around} (hh : A.handled = none) (it t : Addr) (hne : t ≠ it) (items : Array Value) :
    Draws prog w A it [it, t] items.size (fun i v => items[i]? = some v) (fun i h => h.IsTupleIter it t i ∧ h.IsTuple t items) where
  live := fun _ _ st => let ⟨o, ho, _⟩ := st.1; ⟨o, ho⟩
  frame := fun _ _ _ st hk => ⟨IsTupleIter.at' st.1 fun o e => hk it (by simp) o e, let ⟨o, ho, r⟩ := st.2; ⟨o, hk t (by simp) o ho, r⟩⟩
  item := fun i s Q E hi st hQ => by
    refine nextOf_tup_item st.1 st.2 (x := items[i]) (by simp [hi]) fun h' hit' hs' => ?_
    exact hQ _ h' s.toks (by simp [hi]) ⟨hit', st.2.extBut hs'.extBut hne⟩ hs'
  done := fun s Q E st hE => nextOf_tup_end hh st.1 st.2 (by simp) hE
theorem meets_enumerate_newT (l : Addr) (items : Array Value) (n : Nat) (dct : Option Addr) (sl : Array (Option Value)) :
    Meets (Builtin.«enumerate.__new__» ⟨[.type "enumerate", .ref l], []⟩) (fun _ R s => s.heap.get? l = some { cls := .type "tuple", dict := dct, data := .seq items n, slots := sl } ∧
      R (.ok (.ret (.ref (s.heap.push { cls := .type "tuple_iterator", data := .fields #[.ref l, .int 0 0] }).objs.size)))
        { s with heap := (s.heap.push { cls := .type "tuple_iterator", data := .fields #[.ref l, .int 0 0] }).push { cls := .type "enumerate", data := .fields #[.none, .bool false, .ref s.heap.objs.size, rawInt 0, .none, .none] } }) :=
  .of_wp fun prog w A R s h => by
    obtain ⟨hp, g, d, tk, os⟩ := s; obtain ⟨hl, h⟩ := h
    have hsub := sub_enumerate
    have hL : Heap.IsTuple (Shared.heap ⟨hp, g, d, tk, os⟩) l items := ⟨_, hl, rfl, n, rfl⟩
    wp_walk using wpAny_loadPart' hl
    refine wpAny_stack_any fun st => wpAny_pure ?_
    split
    · rename_i c _ _ _ _ _
      cases (c == Value.type "enumerate")
      · wp_walk using wpAny_loadPart' hl, wpAny_pyIter_tuple hL
        exact ⟨_, rfl, h⟩
      · wp_walk using wpAny_loadPart' hl, wpAny_pyIter_tuple hL
        exact ⟨_, rfl, h⟩
    · wp_walk using wpAny_loadPart' hl, wpAny_pyIter_tuple hL
      exact ⟨_, rfl, h⟩
theorem call_enumT {prog : Program} {w : World} {A : Around} {E : Value → Shared → Prop} {s : Shared} {l : Addr} {items : Array Value} {Q : Value → Shared → Prop} (hL : s.heap.IsTuple l items)
    (h : ∀ h', IsEnum h' (s.heap.objs.size + 1) s.heap.objs.size 0 .none → h'.IsTupleIter s.heap.objs.size l 0 → h'.objs.size = s.heap.objs.size + 2 →
      (∀ b o, s.heap.get? b = some o → h'.get? b = some o) → Q (.ref (s.heap.objs.size + 1)) { s with heap := h' }) :
    wpAny (model prog w) A (call (.type "enumerate") [.ref l]) Q E s := by
  obtain ⟨⟨c, dct, dt, sl⟩, hl, hc, n, hd⟩ := hL
  replace hc : c = .type "tuple" := hc
  replace hd : dt = .seq items n := hd
  subst hc hd
  refine callType_new F.called_enumerate (by decide) (F.typeCall_enumerate_1 _) (F.newCall_enumerate_1 _) (fun obj => F.args_object_init_2 obj _) F.entry_enumerate_new
    (meets_enumerate_newT l items n dct sl) ⟨hl, ?_⟩
  have hz : (s.heap.push { cls := .type "tuple_iterator", data := .fields #[.ref l, .int 0 0] }).objs.size = s.heap.objs.size + 1 := Heap.size_push ..
  show _ ∧ _
  rw [hz]
  have he : IsEnum ((s.heap.push { cls := .type "tuple_iterator", data := .fields #[.ref l, .int 0 0] }).push
      { cls := .type "enumerate", data := .fields #[.none, .bool false, .ref s.heap.objs.size, rawInt 0, .none, .none] }) (s.heap.objs.size + 1) s.heap.objs.size 0 .none := by
    have := Heap.get?_push_size (s.heap.push { cls := .type "tuple_iterator", data := .fields #[.ref l, .int 0 0] })
      (o := { cls := .type "enumerate", data := .fields #[.none, .bool false, .ref s.heap.objs.size, rawInt 0, .none, .none] }) rfl
    rw [hz] at this; exact this
  refine ⟨⟨_, he, rfl⟩, h _ he ⟨_, Heap.get?_push_of_some _ (Heap.get?_push_size _ rfl), rfl, rfl⟩ (by rw [Heap.size_push, hz]) fun b o x => Heap.get?_push_of_some _ (Heap.get?_push_of_some _ x)⟩
theorem Inv.turnedT {X : Cx} {pins : List (Addr × Obj)} {σ : St} {H : Hp} {s : Shared} {h' : Heap} {tk : Nat} {wr : List Addr} {T : Addr} {xs : List V} {vals : Array Value} (I : Inv X pins σ H s) (k : ∀ b o, b ∉ wr → s.heap.get? b = some o → h'.get? b = some o)
    (hf : ∀ b ∈ wr, FpOk X pins H b) (hT : s.heap.objs.size ≤ T) (ht : h'.IsTuple T vals) (rv : Vals xs vals.toList) (hl : xs.length ≤ sizeLine) : Inv X pins σ (upd H T (.tup xs)) { s with heap := h', toks := tk } := by
  have hn : H T = none := I.hok.fresh hT
  have neT : ∀ b o, s.heap.get? b = some o → b ≠ T := fun b o e => Nat.ne_of_lt (Nat.lt_of_lt_of_le (Heap.lt_size e) hT)
  have nw : ∀ b u, H b = some u → b ∉ wr := fun b u e z => by rw [(hf b z).1] at e; cases e
  refine I.call (g' := s.gens) (d' := s.drawn) (ch := wr) ⟨fun b o e n _ hx => k b o hx e, fun b o e n _ hx => ⟨o.slots, k b o hx e⟩, fun b o e n hx => ?_, fun b o e hx => ⟨o, k b o hx e⟩, fun b ys e => ?_, fun b o u e => ?_, fun b ps e => ⟨#[], ?_⟩⟩ (fun b u e => ?_) I.bare fun b hb => ?_
  · rw [upd_ne (neT b o e)]; exact n
  · rw [upd_ne (ne_of_none e hn)]; exact e
  · rw [upd_ne (ne_of_none e hn)]; exact e
  · rw [upd_ne (ne_of_none e hn), e]; simp
  · by_cases hb : b = T
    · subst hb
      rw [upd_same] at e; cases e
      obtain ⟨o, ho, c, n, d⟩ := ht
      exact ⟨hl, vals.toList, rv, o, ho, c, n, by simpa using d⟩
    · rw [upd_ne hb] at e
      refine (I.hok b u e).stay (fun c v hc q => k c v ?_ q) (fun c q => by rw [upd_ne (ne_of_none q hn)]; exact q) fun c ys q => by rw [upd_ne (ne_of_none q hn)]; exact q
      rcases hc with rfl | hc
      · exact nw _ _ e
      · exact nw _ _ hc
  · obtain ⟨_, f1, _, f3, f4, f5⟩ := hf b hb
    exact ⟨f3, f1, f4, f5⟩
noncomputable def Ite (K : PySem.W.Frag) (t : Addr) : It :=
  ⟨fun i H => ∃ xs x, SqT K H t xs ∧ xs[i]? = some x, fun i H y H' => ∃ T x, H T = none ∧ (∀ xs, SqT K H t xs → xs[i]? = some x) ∧ y = .ref T ∧ H' = upd H T (.tup [.int i, x]), fun i H => ∃ xs, SqT K H t xs ∧ xs.length ≤ i⟩
theorem turn_enumT {P : Program} {w : World} {K : PySem.W.Frag} {elts : List Expr} {kk : Nat} {pos : Pos} (t it e : Addr) (hne : e ≠ it) : Turn P w K (.Tuple elts kk pos) (Ite K t) [e, it] e (fun i h => (∃ old, IsEnum h e it i old) ∧ h.IsTupleIter it t i) where
  mem := by simp
  obj := fun i h st b hb => by
    obtain ⟨⟨old, he⟩, o, ho, c, d⟩ := st
    rcases List.mem_cons.mp hb with rfl | hb
    · exact ⟨_, he, fun v z => by cases z⟩
    · have eb : b = it := by simpa using hb
      subst eb
      exact ⟨o, ho, fun v z => by rw [d] at z; cases z⟩
  keep := fun i h h' st k => ⟨let ⟨old, he⟩ := st.1; ⟨old, k e (by simp) _ he⟩, IsTupleIter.at' st.2 fun o ho => k it (by simp) o ho⟩
  item := by
    intro X hP hw hK hc i pins s σ H E I hf st hg
    subst hP hw hK
    obtain ⟨xs, x, hq, hx⟩ := hg
    obtain ⟨its, rv, p, hz⟩ := I.tuple hq
    have p : s.heap.IsTuple t its.toArray := p
    obtain ⟨u, hu, ru⟩ := rv.get hx
    have hi : i < its.toArray.size := by
      rw [List.size_toArray, ← rv.length]; exact (List.getElem?_eq_some_iff.mp hx).1
    have net : t ≠ it := by
      rintro rfl
      obtain ⟨o, ho, c, _⟩ := p
      obtain ⟨o', ho', c', _⟩ := st.2
      rw [ho] at ho'; cases ho'; rw [c] at c'; simp at c'
    have nete : e ≠ t := by
      rintro rfl
      obtain ⟨o, ho, c, _⟩ := p
      obtain ⟨old, he⟩ := st.1
      rw [he] at ho; cases ho; simp at c
    have W := WalksT.enumerateD (drawsT (prog := X.prog) (w := X.w) (A := X.A.in1) (I.ok.hd hc) it t net its.toArray) e hne (by simp [hne, nete]) (by simp)
    refine W.item i s _ _ hi ⟨st.1, st.2, p⟩ fun T vals h' tk hPt hT ht hM hk => ?_
    refine ⟨.ref T, rfl, W.go elts kk pos i T { s with heap := h', toks := tk } _ _ hM fun h'' hst hk2 => ?_⟩
    obtain ⟨tt, y, hy, rfl⟩ := hPt
    have ey : y = u := by
      rw [show its.toArray[i]? = some u by simpa using hu] at hy
      exact (Option.some.inj hy).symm
    subst ey
    have hk3 : ∀ b o, b ∉ [e, it] → s.heap.get? b = some o → h''.get? b = some o := fun b o hb eo => hk2 b o hb (hk b o hb eo)
    have hT3 : h''.IsTuple T #[.int i tt, y] := by
      obtain ⟨o, ho, r⟩ := ht
      exact ⟨o, hk2 T o (W.apart i T h' hM) ho, r⟩
    have I2 := I.turnedT (tk := tk) (xs := [.int i, x]) hk3 hf hT hT3 (.cons ⟨tt, rfl⟩ (.cons ru .nil)) (small_line (by show 2 ≤ 1000; decide))
    refine ⟨.ref T, _, I2, rfl, ⟨T, x, I.hok.fresh hT, fun ys hys => by rw [I.tuple_inj hys hq]; exact hx, rfl, rfl⟩, ⟨hst.1, hst.2.1⟩, fun b hb => ?_⟩
    obtain ⟨ob, eb⟩ : ∃ ob, s.heap.get? b = some ob := by
      obtain ⟨⟨old, he⟩, o, ho, _⟩ := st
      rcases List.mem_cons.mp hb with rfl | hb
      · exact ⟨_, he⟩
      · have : b = it := by simpa using hb
        subst this
        exact ⟨o, ho⟩
    rw [upd_ne (Nat.ne_of_lt (Nat.lt_of_lt_of_le (Heap.lt_size eb) hT))]
    exact (hf b hb).1
  done := by
    intro X hP hw hK hc i pins s σ H E I hf st hg
    subst hP hw hK
    obtain ⟨xs, hq, hx⟩ := hg
    obtain ⟨its, rv, p, hz⟩ := I.tuple hq
    have p : s.heap.IsTuple t its.toArray := p
    have net : t ≠ it := by
      rintro rfl
      obtain ⟨o, ho, c, _⟩ := p
      obtain ⟨o', ho', c', _⟩ := st.2
      rw [ho] at ho'; cases ho'; rw [c] at c'; simp at c'
    obtain ⟨⟨old, he⟩, hit⟩ := st
    have hh : X.A.in1.handled = none := I.ok.hd hc
    have f2 := hf it (by simp)
    unfold pyNext
    have hT : s.TypeIs (.ref e) "enumerate" := ⟨_, he, rfl⟩
    refine wpAny_bind (wpAny_attempt (wpAny_callSpecial?_slot (name := Str.ofString "__next__") hT F.slot_enumerate_next
      (wpAny_call_entry F.slot_enumerate_next hT F.entry_enumerate_next ?_ (F.args_enumerate_next_1 _))))
    show wpAny _ _ (field (.ref e) 2 >>= _) _ _ _
    refine wpAny_bind (wpAny_field he rfl (x := .ref it) rfl ?_)
    refine wpAny_bind (nextOf_tup_end hh hit p (by simp [← rv.length]; exact hx) fun h' x he' hx' => ?_)
    obtain ⟨o, ho, hc⟩ := hx'
    refine wpAny_bind (wpAny_isInstance (T := "StopIteration") (b := true) ⟨o, ho, hc⟩ isSubtype_stop ?_)
    obtain ⟨f0, f1, f2', f3, f4, f5⟩ := f2
    exact wpAny_pure ⟨rfl, I.turned (t' := s.toks) (fun b o hb e => he' b o hb e) f0 f1 f3 f4 f5⟩
  self := fun _ _ _ _ _ st h => by
    obtain ⟨⟨old, he⟩, _⟩ := st
    exact wpAny_pyIter_enum he h
theorem bt_enumerate : bootBuiltins "enumerate" = some (.type "enumerate") := by decide +kernel
section
variable {X : Cx} {elts : List Expr} {kk : Nat} {tpos p pos : Pos}
noncomputable def iEnumT (K : PySem.W.Frag) (ta : TA) : TI := fun σ H R => ta σ H fun vs H1 => ∃ t, vs = [.ref t] ∧ (∃ xs, SqT K H1 t xs) ∧ R (Ite K t) H1
theorem pi_enumT {a : Expr} {ta : TA} (hp : plainE a = true) (hg : Gl X "enumerate") (hm : X.mg "enumerate" = none) (ha : PA X [a] ta) : PI X (.Tuple elts kk tpos) (.Call (.Name "enumerate" p) [a] [] pos) (iEnumT X.K ta) := by
  intro pins s σ H R I h
  refine Call_ (ld_blt I hg hm bt_enumerate (PyProof.Rows.callWith_type1 (thn (ha pos pins s σ H _ I h) fun us s1 ⟨vs, H1, I1, r1, q1⟩ => ?_) (star_plain hp) rfl))
  obtain ⟨t, e, ⟨xs, hq⟩, q⟩ := q1
  subst e
  obtain ⟨u, rfl, ru⟩ := vals1 r1
  cases (show u = Value.ref t from ru)
  obtain ⟨its, rv, pt, hz⟩ := I1.tuple hq
  refine call_enumT (show s1.heap.IsTuple t its.toArray from pt) fun h' he hit hsz hk => ?_
  refine wpAny_pyIter_enum he ?_
  have I2 : Inv X pins σ H1 { s1 with heap := h' } := I1.kept (t' := s1.toks) hk
  refine ⟨s1.heap.objs.size + 1, [s1.heap.objs.size + 1, s1.heap.objs.size], _, _, H1, rfl, I2, turn_enumT t s1.heap.objs.size (s1.heap.objs.size + 1) (Nat.succ_ne_self _), ⟨⟨.none, he⟩, hit⟩, fun b hb => ?_, q⟩
  have hb : s1.heap.objs.size ≤ b := by
    rcases List.mem_cons.mp hb with e | hb
    · rw [e]; exact Nat.le_succ _
    · have e : b = s1.heap.objs.size := by simpa using hb
      rw [e]; exact Nat.le_refl _
  exact I1.fpOk hb (I1.hok.fresh hb)
noncomputable def iE (A : DTA) : DTI := fun ρ q => A ρ fun ds ρ' => ∃ l, ds = [.tup l] ∧ q ((List.range l.length).map fun (k : Nat) => D.tup [.int (k : Int), l.getD k .non]) ρ'
variable {κ : List SK} {pu lo : Bool} {A : DTA} {a : Expr}
theorem itok_e {K : PySem.W.Frag} {S : Addr → Prop} {H : Hp} {t : Addr} {l : List D} (r : Rep K S H (.tup l) (.ref t)) : ItOk K S H (Ite K t) ((List.range l.length).map fun (k : Nat) => D.tup [.int (k : Int), l.getD k .non]) := by
  refine ⟨_, _, r, fun S H' q i => ?_⟩
  simp only [Rep] at q
  obtain ⟨b, ws, eb, hrd, hr⟩ := q
  cases eb
  refine ⟨fun d e => ?_, fun e => ⟨ws, hrd, by
    have := List.getElem?_eq_none_iff.mp e
    rw [hr.len]; simpa using this⟩⟩
  have hi : i < l.length := by
    have := (List.getElem?_eq_some_iff.mp e).1
    simpa using this
  rw [List.getElem?_map, List.getElem?_range hi] at e
  simp only [Option.map_some, Option.some.injEq] at e
  subst e
  have hl : l[i]? = some (l[i]'hi) := List.getElem?_eq_getElem hi
  obtain ⟨u, e2, ru⟩ := hr.get hl
  refine ⟨⟨ws, u, hrd, e2⟩, fun x H'' ⟨T, y, hT, hy, ex, eH⟩ => ?_⟩
  subst ex eH
  have ey : y = u := by
    have := hy ws hrd
    rw [e2] at this; exact (Option.some.inj this).symm
  subst ey
  refine ⟨.new hT, ?_⟩
  simp only [Rep]
  refine ⟨T, _, rfl, SqT.of upd_same, ?_⟩
  simp only [Reps, Rep]
  refine ⟨_, _, rfl, rfl, _, _, rfl, ?_, rfl⟩
  have : l.getD i .non = l[i]'hi := by simp [List.getD_eq_getElem?_getD, hl]
  rw [this]
  exact Rep.go (Goes.same (.new hT)) _ _ ru
theorem diE (hpl : plainE a = true) (hgl : Gl X "enumerate") (hm : X.mg "enumerate" = none) (hi : DA X κ pu lo [a] A) : DI X κ pu lo (.Tuple elts kk tpos) (.Call (.Name "enumerate" p) [a] [] pos) (iE A) := by
  refine ⟨(pi_enumT hpl hgl hm hi.h).weak fun σ H R hh_ => ?_⟩
  obtain ⟨G, O, ρ, q, hE, hq, k⟩ := hh_
  refine ⟨G, O, ρ, _, hE, hq, fun vs H1 ds ρ1 O1 s1 e1 r1 p1 hz_ => ?_⟩
  obtain ⟨l, ed, hq1⟩ := hz_
  subst ed
  obtain ⟨v, rfl, r⟩ := reps1 r1
  have r0 := r
  simp only [Rep] at r
  obtain ⟨t, ws, rfl, hrd, hr⟩ := r
  exact ⟨t, rfl, ⟨ws, hrd⟩, k _ H1 _ ρ1 O1 s1 e1 p1 (itok_e r0) hq1⟩
end
end L2
namespace L2
open PySem PySem.Spec PyProof.Rows
noncomputable abbrev lc2 (elt tg iter : Expr) (ifs : List Expr) (tg2 iter2 : Expr) (ifs2 : List Expr) (scope : Scope) (pos : Pos) : Expr := .ListComp elt [⟨tg, iter, ifs, 0⟩, ⟨tg2, iter2, ifs2, 0⟩] scope pos
theorem compTurn_two0 (elt tg iter : Expr) (ifs : List Expr) (tg2 iter2 : Expr) (ifs2 : List Expr) (scope : Scope) (pos : Pos) (it acc : Value) (env : Env) :
    compTurn (lc2 elt tg iter ifs tg2 iter2 ifs2 scope pos) 0 it acc env = (do
      standAt iter.pos
      match ← pyNext it with
      | none => pure (.done .next)
      | some v =>
        letOwnedTupleGo tg it v
        assign tg env v
        let mut ok := true
        for c in ifs do
          if ok then ok ← isTrue c env (eval c env)
        if ok then
          let x ← eval iter2 env
          standAt iter2.pos
          let x ← foldedSetIterable iter2 env x
          let _ ← runOwn (.compStart (lc2 elt tg iter ifs tg2 iter2 ifs2 scope pos) 1 (← holding [x] (pyIter x)) acc env) env
        again (.compLoop (lc2 elt tg iter ifs tg2 iter2 ifs2 scope pos) 0 it acc env)) := by rfl
theorem compTurn_two1 (elt tg iter : Expr) (ifs : List Expr) (tg2 iter2 : Expr) (ifs2 : List Expr) (scope : Scope) (pos : Pos) (it acc : Value) (env : Env) :
    compTurn (lc2 elt tg iter ifs tg2 iter2 ifs2 scope pos) 1 it acc env = (do
      standAt iter2.pos
      match ← pyNext it with
      | none => pure (.done .next)
      | some v =>
        letOwnedTupleGo tg2 it v
        assign tg2 env v
        let mut ok := true
        for c in ifs2 do
          if ok then ok ← isTrue c env (eval c env)
        if ok then
          (do let _ ← call (.builtin "list.append") [acc, ← eval elt env])
        again (.compLoop (lc2 elt tg iter ifs tg2 iter2 ifs2 scope pos) 1 it acc env)) := by rfl
section
variable {prog : Program} {w : World} {A : Around} {R : Result → Shared → Prop} {s : Shared} {elt tg iter tg2 iter2 : Expr} {ifs ifs2 : List Expr} {scope : Scope} {pos : Pos} {it acc : Value} {env : Env}
theorem two_turns1 (J : Nat → Shared → Prop)
    (turn : ∀ n s, J n s → wpAny (model prog w) A (pyNext it) (fun r s1 => match r with
      | none => R (.ok .next) s1
      | some v => wpAny (model prog w) A (letOwnedTupleGo tg2 it v) (fun _ s1' => wpAny (model prog w) A (assign tg2 env v) (fun _ s2 =>
          wpAny (model prog w) A (testsOf ifs2 env) (fun ok s3 =>
            if ok = true then wpAny (model prog w) A (eval elt env) (fun x s4 =>
              wpAny (model prog w) A (call (.builtin "list.append") [acc, x]) (fun _ s5 => ∃ m, m < n ∧ J m s5) (fun _ _ => False) s4) (fun _ _ => False) s3
            else ∃ m, m < n ∧ J m s3) (fun _ _ => False) s2) (fun _ _ => False) s1') (fun _ _ => False) s1) (fun _ _ => False) s)
    (n : Nat) (h : J n s) :
    codeAny (model prog w) A (.compLoop (lc2 elt tg iter ifs tg2 iter2 ifs2 scope pos) 1 it acc env) R s := by
  have no : ∀ {E : Value → Shared → Prop} (x : Value) (s' : Shared), False → E x s' := fun _ _ f => f.elim
  refine codeAny_loop rfl J (fun n s hJ => ?_) n h
  show wpAny _ A ((compTurn (lc2 elt tg iter ifs tg2 iter2 ifs2 scope pos) 1 it acc env).onRaise (fun x => do noteFrame x env; theTreesLotGoes x)) _ _ s
  refine wpAny_noted ?_
  rw [compTurn_two1]
  refine wpAny_bind (wpAny_standAt (wpAny_bind (wpAny_mono (turn n s hJ) (fun r s1 h1 => ?_) no)))
  cases r with
  | none => exact wpAny_pure h1
  | some v =>
    refine wpAny_bind (wpAny_mono h1 (fun _ s1' h1' => ?_) no)
    refine wpAny_bind (wpAny_mono h1' (fun _ s2 h2 => wpAny_bind (wpAny_mono h2 (fun ok s3 h3 => ?_) no)) no)
    cases ok with
    | false => exact wpAny_pure ⟨rfl, h3⟩
    | true =>
      exact wpAny_bind (wpAny_bind (wpAny_mono h3 (fun x s4 h4 => wpAny_bind (wpAny_mono h4 (fun _ s5 h5 => wpAny_pure (wpAny_pure ⟨rfl, h5⟩)) no)) no))
theorem two_turns0 (hs2 : ∀ x, foldedSetIterable iter2 env x = pure x) (J : Nat → Shared → Prop)
    (turn : ∀ n s, J n s → wpAny (model prog w) A (pyNext it) (fun r s1 => match r with
      | none => R (.ok .next) s1
      | some v => wpAny (model prog w) A (letOwnedTupleGo tg it v) (fun _ s1' => wpAny (model prog w) A (assign tg env v) (fun _ s2 =>
          wpAny (model prog w) A (testsOf ifs env) (fun ok s3 =>
            if ok = true then wpAny (model prog w) A (eval iter2 env) (fun x s4 => wpAny (model prog w) A (pyIter x) (fun it2 s5 =>
              codeAny (model prog w) A (.compStart (lc2 elt tg iter ifs tg2 iter2 ifs2 scope pos) 1 it2 acc env) (fun r s6 => match r with | .ok _ => ∃ m, m < n ∧ J m s6 | .error _ => False) s5) (fun _ _ => False) s4) (fun _ _ => False) s3
            else ∃ m, m < n ∧ J m s3) (fun _ _ => False) s2) (fun _ _ => False) s1') (fun _ _ => False) s1) (fun _ _ => False) s)
    (n : Nat) (h : J n s) :
    codeAny (model prog w) A (.compLoop (lc2 elt tg iter ifs tg2 iter2 ifs2 scope pos) 0 it acc env) R s := by
  have no : ∀ {E : Value → Shared → Prop} (x : Value) (s' : Shared), False → E x s' := fun _ _ f => f.elim
  refine codeAny_loop rfl J (fun n s hJ => ?_) n h
  show wpAny _ A ((compTurn (lc2 elt tg iter ifs tg2 iter2 ifs2 scope pos) 0 it acc env).onRaise (fun x => do noteFrame x env; theTreesLotGoes x)) _ _ s
  refine wpAny_noted ?_
  rw [compTurn_two0]
  refine wpAny_bind (wpAny_standAt (wpAny_bind (wpAny_mono (turn n s hJ) (fun r s1 h1 => ?_) no)))
  cases r with
  | none => exact wpAny_pure h1
  | some v =>
    refine wpAny_bind (wpAny_mono h1 (fun _ s1' h1' => ?_) no)
    refine wpAny_bind (wpAny_mono h1' (fun _ s2 h2 => wpAny_bind (wpAny_mono h2 (fun ok s3 h3 => ?_) no)) no)
    cases ok with
    | false => exact wpAny_pure ⟨rfl, h3⟩
    | true =>
      refine wpAny_bind (wpAny_mono h3 (fun x s4 h4 => ?_) no)
      refine wpAny_bind (wpAny_standAt (wpAny_bind ?_))
      rw [hs2]
      refine wpAny_pure (wpAny_bind (wpAny_holding (wpAny_mono h4 (fun it2 s5 h5 => ?_) no)))
      refine wpAny_bind (wpAny_runOwn (codeAny_mono h5 fun r s6 h6 => ?_))
      cases r with
      | ok f => exact wpAny_pure ⟨rfl, h6⟩
      | error e => exact h6.elim
theorem two_start1 (h0 : codeAny (model prog w) A (.compLoop (lc2 elt tg iter ifs tg2 iter2 ifs2 scope pos) 1 it acc env) R s)
    (h : wpAny (model prog w) A (pyIter it) (fun it' s' => codeAny (model prog w) A (.compLoop (lc2 elt tg iter ifs tg2 iter2 ifs2 scope pos) 1 it' acc env) R s') (notedBy (model prog w) A env fun x s' => R (.error x) s') s) :
    codeAny (model prog w) A (.compStart (lc2 elt tg iter ifs tg2 iter2 ifs2 scope pos) 1 it acc env) R s := by
  refine codeAny_of_tree ?_
  show wpAny _ _ ((compStart (lc2 elt tg iter ifs tg2 iter2 ifs2 scope pos) 1 it acc env).onRaise (fun x => do noteFrame x env; standAt theWindowsPlace)) _ _ s
  refine wpAny_notedAt ?_
  unfold compStart
  show wpAny _ _ (ask >>= _) _ _ s
  refine wpAny_bind (wpAny_askSetting (wpAny_ite ?_))
  split
  · first
      | exact wpAny_bind (wpAny_pure (wpAny_pure (And.intro rfl h0)))
      | exact wpAny_pure (And.intro rfl h0)
  · first
      | exact wpAny_bind (wpAny_rule (wpAny_bind (wpAny_standAt (wpAny_bind (wpAny_mono h (fun it' s' h' => wpAny_pure (And.intro rfl h')) fun _ _ x => x)))))
      | (refine wpAny_bind (wpAny_rule ?_); show wpAny _ _ (standAt iter2.pos >>= _) _ _ s; exact wpAny_bind (wpAny_standAt (wpAny_bind (wpAny_mono h (fun it' s' h' => wpAny_pure (And.intro rfl h')) fun _ _ x => x))))
end
noncomputable def tComp2 (js : List (Option Nat)) (wi : TI) (g : TG) (tc : TT) (wi2 : TI) (g2 : TG) (tc2 : TT) (te : TE) : TE := fun σ H Q => wi σ H fun J H1 => ∀ D, H1 D = none →
  ∃ W : Nat → Nat → St → Hp → Prop, (∃ m, W 0 m (inSt js σ) (upd H1 D (.lst []))) ∧ ∀ i m σ' H', W i m σ' H' →
    (J.stop i H' ∧ Q (.ref D) H') ∨ (J.go i H' ∧ ∃ N : St → Hp → Prop, (∀ σ2 H2, N σ2 H2 → ∃ m', m' < m ∧ W (i + 1) m' σ2 H2) ∧
      ∀ x H2, J.yld i H' x H2 → g x σ' H2 fun σ3 H3 => tc σ3 H3 fun b H4 => if b = true then wi2 σ3 H4 (fun J2 H5 => ∃ W2 : Nat → Nat → St → Hp → Prop, (∃ m, W2 0 m σ3 H5) ∧ ∀ i2 m2 σ4 H6, W2 i2 m2 σ4 H6 →
        (J2.stop i2 H6 ∧ N σ4 H6) ∨ (J2.go i2 H6 ∧ ∃ N2 : St → Hp → Prop, (∀ σ5 H7, N2 σ5 H7 → ∃ m', m' < m2 ∧ W2 (i2 + 1) m' σ5 H7) ∧
          ∀ x H7, J2.yld i2 H6 x H7 → g2 x σ4 H7 fun σ5 H8 => tc2 σ5 H8 fun b H9 => if b = true then te σ5 H9 (fun v H10 => ∃ xs, H10 D = some (.lst xs) ∧ xs.length < sizeLine ∧ N2 σ5 (upd H10 D (.lst (xs ++ [v])))) else N2 σ5 H9)) else N σ3 H4)
section
variable {X : Cx} {tg elt iter tg2 iter2 : Expr} {ifs ifs2 : List Expr} {scope : Scope} {pos : Pos} {Nc : List Str} {js : List (Option Nat)} {wi wi2 : TI} {g g2 : TG} {tc tc2 : TT} {te : TE}
theorem comp_block2 {pins : List (Addr × Obj)} {σ : St} {H2 : Hp} {s2 : Shared} {it : Addr} {fp : List Addr} {tn : Nat → Heap → Prop} {J : It} {Qd : Hp → Prop} {RR : Value → Addr → Result → Shared → Prop}
    (hc : X.calm = true) (S : CompSc X Nc js scope)
    (hb : ∀ pins fp H s C, PG (cxComp X Nc scope pins fp H s C) tg g ∧ PIfs (cxComp X Nc scope pins fp H s C) ifs tc ∧ (PI (cxComp X Nc scope pins fp H s C) tg2 iter2 wi2 ∧ PG (cxComp X Nc scope pins fp H s C) tg2 g2 ∧ PIfs (cxComp X Nc scope pins fp H s C) ifs2 tc2) ∧ (∀ x, foldedSetIterable iter2 (cxComp X Nc scope pins fp H s C).env x = pure x) ∧ PE (cxComp X Nc scope pins fp H s C) elt te)
    (I2 : Inv X pins σ H2 s2) (T : Turn X.prog X.w X.K tg J fp it tn) (st2 : tn 0 s2.heap) (f2 : ∀ b ∈ fp, FpOk X pins H2 b)
    (h2 : ∃ W : Nat → Nat → St → Hp → Prop, (∃ m, W 0 m (inSt js σ) (upd H2 s2.heap.objs.size (.lst []))) ∧ ∀ i m σ' H', W i m σ' H' →
      (J.stop i H' ∧ Qd H') ∨ (J.go i H' ∧ ∃ N : St → Hp → Prop, (∀ σ2 H2, N σ2 H2 → ∃ m', m' < m ∧ W (i + 1) m' σ2 H2) ∧
        ∀ x H2, J.yld i H' x H2 → g x σ' H2 fun σ3 H3 => tc σ3 H3 fun b H4 => if b = true then wi2 σ3 H4 (fun J2 H5 => ∃ W2 : Nat → Nat → St → Hp → Prop, (∃ m, W2 0 m σ3 H5) ∧ ∀ i2 m2 σ4 H6, W2 i2 m2 σ4 H6 →
          (J2.stop i2 H6 ∧ N σ4 H6) ∨ (J2.go i2 H6 ∧ ∃ N2 : St → Hp → Prop, (∀ σ5 H7, N2 σ5 H7 → ∃ m', m' < m2 ∧ W2 (i2 + 1) m' σ5 H7) ∧
            ∀ x H7, J2.yld i2 H6 x H7 → g2 x σ4 H7 fun σ5 H8 => tc2 σ5 H8 fun b H9 => if b = true then te σ5 H9 (fun v H10 => ∃ xs, H10 s2.heap.objs.size = some (.lst xs) ∧ xs.length < sizeLine ∧ N2 σ5 (upd H10 s2.heap.objs.size (.lst (xs ++ [v])))) else N2 σ5 H9)) else N σ3 H4))
    (hRR : ∀ C σ' H' s', s2.heap.objs.size < C → Inv (cxComp X Nc scope pins fp H2 s2 C) [] σ' H' s' → Qd H' → RR (.ref s2.heap.objs.size) C (.ok .next) s') :
    wpAny (model X.prog X.w) X.A (newList []) (fun acc s3 => wpAny (model X.prog X.w) X.A (newFunctionEnv scope X.env.globals (clOf scope X.env) [] X.env.qual none .none (some X.env)) (fun cenv s4 =>
      codeAny (model X.prog X.w) X.A (.compStart (lc2 elt tg iter ifs tg2 iter2 ifs2 scope pos) 0 (.ref it) acc { cenv with scope := relabel scope X.env }) (RR acc cenv.locals) s4) X.xe s3) X.xe s2 := by
  have fpo : ∀ b ∈ fp, b < s2.heap.objs.size := fun b hb => by
    obtain ⟨o, ho, _⟩ := T.obj 0 _ st2 b hb
    exact Heap.lt_size ho
  refine wpAny_newObj_type (wpAny_newFunctionEnv S.nocell (by intro y hy; simp at hy) (fun h₁ hns hsb => ?_) S.kind)
  dsimp only at hns hsb ⊢
  generalize hH2 : s2.heap.push { cls := .type "list", dict := none, data := .seq ([] : List Value).toArray } = hp at hns hsb ⊢
  have hCs : hp.objs.size = s2.heap.objs.size + 1 := by rw [← hH2, Heap.size_push]
  have hC : s2.heap.objs.size < hp.objs.size := by rw [hCs]; exact Nat.lt_succ_self _
  have old : ∀ b o, s2.heap.get? b = some o → h₁.get? b = some o := fun b o e =>
    hsb.extBut b o (Nat.ne_of_lt (Nat.lt_trans (Heap.lt_size e) hC)) (Heap.get?_push_of_some _ (hH2 ▸ Heap.get?_push_of_some _ e))
  have hD : h₁.get? s2.heap.objs.size = some { cls := .type "list", data := .seq ([] : List Value).toArray 0 } :=
    hsb.extBut _ _ (Nat.ne_of_lt hC) (Heap.get?_push_of_some _ (hH2 ▸ Heap.get?_push_size _ rfl))
  obtain ⟨W, ⟨m0, w0⟩, turn⟩ := h2
  generalize hXc : cxComp X Nc scope pins fp H2 s2 hp.objs.size = Xc
  obtain ⟨hg, hifs, ⟨hi2, hg2, hifs2⟩, hs2, helt⟩ := hb pins fp H2 s2 hp.objs.size
  have e1 : Xc.prog = X.prog := by rw [← hXc]; rfl
  have I3 : ∀ tk, Inv Xc [] (inSt js σ) (upd H2 s2.heap.objs.size (.lst [])) { s2 with heap := h₁, toks := tk } := fun tk => by
    rw [← hXc]
    exact inv_comp I2 hc S f2 fpo hC old hns hD
  have st3 : tn 0 h₁ := T.keep 0 _ _ st2 fun b hb o e => old b o e
  have fpx : ∀ {H' : Hp}, (∀ b ∈ fp, H' b = none) → ∀ b ∈ fp, FpOk Xc [] H' b := fun {H'} hn b hb => by
    obtain ⟨f0, f1, f2', f3, f4, f5⟩ := f2 b hb
    rw [← hXc]
    refine ⟨hn b hb, Nat.ne_of_lt (Nat.lt_trans (fpo b hb) hC), fun z => ?_, .inl hb, fun x c e => f4 x c (clOf_of e), fun p hp => ?_⟩
    · rcases List.mem_cons.mp (I2.stkSub b z) with e | e
      · exact f1 e
      · exact f2' e
    · have hp' : p ∈ (X.pn ++ pins) ++ [] := hp
      exact f5 p (by simpa using hp')
  rw [hXc] at hg hifs helt hi2 hg2 hifs2 hs2
  have ea : Xc.A = X.A := by rw [← hXc]; rfl
  have ew : Xc.w = X.w := by rw [← hXc]; rfl
  have eK : Xc.K = X.K := by rw [← hXc]; rfl
  have ec : Xc.calm = true := by rw [← hXc]; rfl
  have ex : Xc.xe = fun _ _ => False := by rw [← hXc]; rfl
  have ee : Xc.env = compEnvC scope (clOf scope X.env) hp.objs.size X.env := by rw [← hXc]; rfl
  have loop : ∀ s3 : Shared, Inv Xc [] (inSt js σ) (upd H2 s2.heap.objs.size (.lst [])) s3 → tn 0 s3.heap →
      codeAny (model X.prog X.w) X.A (.compLoop (lc2 elt tg iter ifs tg2 iter2 ifs2 scope pos) 0 (.ref it) (.ref s2.heap.objs.size) (compEnvC scope (clOf scope X.env) hp.objs.size X.env))
        (RR (.ref s2.heap.objs.size) hp.objs.size) s3 := by
    intro s3 J3 tn3
    refine two_turns0 (by rw [ee] at hs2; exact hs2) (fun n s' => ∃ i σ' H', Inv Xc [] σ' H' s' ∧ tn i s'.heap ∧ (∀ b ∈ fp, H' b = none) ∧ W i n σ' H') ?_ m0 ⟨0, _, _, J3, tn3, fun b hb => ?_, w0⟩
    · rintro n s4 ⟨i, σ4, H4, I4, st4, fr4, w4⟩
      rcases turn i n σ4 H4 w4 with ⟨stop, qn⟩ | ⟨go, N, hN, step⟩
      · have q0 := T.done Xc e1 ew eK ec i [] s4 σ4 H4 (fun _ _ => False) I4 (fpx fr4) st4 stop
        rw [ea] at q0
        refine thn q0 fun r s5 ⟨hr, I5⟩ => ?_
        subst hr
        have I5' : Inv (cxComp X Nc scope pins fp H2 s2 hp.objs.size) [] σ4 H4 s5 := by rw [hXc]; exact I5
        exact hRR _ _ _ _ hC I5' qn
      · have q0 := T.item Xc e1 ew eK ec i [] s4 σ4 H4 (fun _ _ => False) I4 (fpx fr4) st4 go
        rw [ea] at q0
        refine thn q0 fun r s5 ⟨u, hr, h5⟩ => ?_
        subst hr
        dsimp only
        refine thn h5 fun _ s6 ⟨x, H6, I6, r6, y6, st6, fr6⟩ => ?_
        have I6' := I6.pinned (fpx fr6) (T.obj _ _ st6)
        have q1 := hg _ s6 σ4 H6 x u _ I6' r6 (step x H6 y6)
        rw [e1, ew, ea, ex, ee] at q1
        refine thn q1 fun _ s7 ⟨σ7, H7, I7, q7⟩ => ?_
        have q2 := hifs _ s7 σ7 H7 _ I7 q7
        rw [e1, ew, ea, ex, ee] at q2
        refine thn q2 fun ok s8 ⟨H8, I8, q8⟩ => ?_
        have fin : ∀ {s9 : Shared} {σ9 : St} {H9 : Hp}, Inv Xc ([] ++ pinsAt fp s6.heap) σ9 H9 s9 → N σ9 H9 → ∃ m, m < n ∧ ∃ i σ' H', Inv Xc [] σ' H' s9 ∧ tn i s9.heap ∧ (∀ b ∈ fp, H' b = none) ∧ W i m σ' H' := fun {s9 σ9 H9} I9 n9 => by
          obtain ⟨m', hm, w9⟩ := hN σ9 H9 n9
          refine ⟨m', hm, i + 1, σ9, H9, I9.unpinned, T.keep _ _ _ st6 fun b hb o e => (I9.pin (b, o) (List.mem_append_right _ (List.mem_append_right _ (mem_pinsAt hb e)))).1, fun b hb => ?_, w9⟩
          obtain ⟨o, e, d⟩ := T.obj _ _ st6 b hb
          exact (I9.pin (b, o) (List.mem_append_right _ (List.mem_append_right _ (mem_pinsAt hb e)))).2.1
        cases ok with
        | false =>
          rw [if_neg Bool.false_ne_true] at q8 ⊢
          exact fin I8 q8
        | true =>
          rw [if_pos rfl] at q8 ⊢
          have q3 := hi2 _ s8 σ7 H8 _ I8 q8
          rw [e1, ew, ea, ex, ee] at q3
          refine thn q3 fun y s9 h9 => thn h9 fun itv s10 ⟨it2, fp2, tn2, J2, H10, eit, I10, T2, st10, f10, W2, ⟨m20, w20⟩, turn2⟩ => ?_
          subst eit
          rw [e1, ew, eK] at T2
          have stat2 : ∀ {H' : Hp}, (∀ b ∈ fp2, H' b = none) → ∀ b ∈ fp2, FpOk Xc ([] ++ pinsAt fp s6.heap) H' b := fun hn b hb => ⟨hn b hb, (f10 b hb).2⟩
          have loop2 : codeAny (model X.prog X.w) X.A (.compLoop (lc2 elt tg iter ifs tg2 iter2 ifs2 scope pos) 1 (.ref it2) (.ref s2.heap.objs.size) (compEnvC scope (clOf scope X.env) hp.objs.size X.env))
              (fun r s6' => match r with | .ok _ => ∃ m, m < n ∧ ∃ i σ' H', Inv Xc [] σ' H' s6' ∧ tn i s6'.heap ∧ (∀ b ∈ fp, H' b = none) ∧ W i m σ' H' | .error _ => False) s10 := by
            refine two_turns1 (fun n2 s' => ∃ i2 σ' H', Inv Xc ([] ++ pinsAt fp s6.heap) σ' H' s' ∧ tn2 i2 s'.heap ∧ (∀ b ∈ fp2, H' b = none) ∧ W2 i2 n2 σ' H') ?_ m20 ⟨0, σ7, H10, I10, st10, fun b hb => (f10 b hb).1, w20⟩
            rintro n2 s11 ⟨i2, σ11, H11, I11, st11, fr11, w11⟩
            rcases turn2 i2 n2 σ11 H11 w11 with ⟨stop2, qn2⟩ | ⟨go2, N2, hN2, step2⟩
            · have q0 := T2.done Xc e1 ew eK ec i2 _ s11 σ11 H11 (fun _ _ => False) I11 (stat2 fr11) st11 stop2
              rw [ea] at q0
              refine thn q0 fun r s12 ⟨hr, I12⟩ => ?_
              subst hr
              exact fin I12 qn2
            · have q0 := T2.item Xc e1 ew eK ec i2 _ s11 σ11 H11 (fun _ _ => False) I11 (stat2 fr11) st11 go2
              rw [ea] at q0
              refine thn q0 fun r s12 ⟨u2, hr, h12⟩ => ?_
              subst hr
              dsimp only
              refine thn h12 fun _ s13 ⟨x2, H13, I13, r13, y13, st13, fr13⟩ => ?_
              have I13' := I13.pinned (stat2 fr13) (T2.obj _ _ st13)
              have p1 := hg2 _ s13 σ11 H13 x2 u2 _ I13' r13 (step2 x2 H13 y13)
              rw [e1, ew, ea, ex, ee] at p1
              refine thn p1 fun _ s14 ⟨σ14, H14, I14, q14⟩ => ?_
              have p2 := hifs2 _ s14 σ14 H14 _ I14 q14
              rw [e1, ew, ea, ex, ee] at p2
              refine thn p2 fun ok2 s15 ⟨H15, I15, q15⟩ => ?_
              have fin2 : ∀ {s9 : Shared} {σ9 : St} {H9 : Hp}, Inv Xc (([] ++ pinsAt fp s6.heap) ++ pinsAt fp2 s13.heap) σ9 H9 s9 → N2 σ9 H9 → ∃ m, m < n2 ∧ ∃ i2 σ' H', Inv Xc ([] ++ pinsAt fp s6.heap) σ' H' s9 ∧ tn2 i2 s9.heap ∧ (∀ b ∈ fp2, H' b = none) ∧ W2 i2 m σ' H' := fun {s9 σ9 H9} I9 n9 => by
                obtain ⟨m', hm, w9⟩ := hN2 σ9 H9 n9
                refine ⟨m', hm, i2 + 1, σ9, H9, I9.unpinned, T2.keep _ _ _ st13 fun b hb o e => (I9.pin (b, o) (List.mem_append_right _ (List.mem_append_right _ (mem_pinsAt hb e)))).1, fun b hb => ?_, w9⟩
                obtain ⟨o, e, d⟩ := T2.obj _ _ st13 b hb
                exact (I9.pin (b, o) (List.mem_append_right _ (List.mem_append_right _ (mem_pinsAt hb e)))).2.1
              cases ok2 with
              | false =>
                rw [if_neg Bool.false_ne_true] at q15 ⊢
                exact fin2 I15 q15
              | true =>
                rw [if_pos rfl] at q15 ⊢
                have p3 := helt _ s15 σ14 H15 _ I15 q15
                rw [e1, ew, ea, ex, ee] at p3
                refine thn p3 fun y s9 ⟨v9, H9, I9, r9, xs, hxs, hlen, q9⟩ => ?_
                have q4 := mt_append _ s9 σ14 H9 (.ref s2.heap.objs.size) [v9] (.ref s2.heap.objs.size) [y] (fun _ H10 => H10 = upd H9 s2.heap.objs.size (.lst (xs ++ [v9]))) I9 rfl (.cons r9 .nil) ⟨_, xs, v9, rfl, rfl, hxs, hlen, rfl⟩
                rw [e1, ew, ea, ex] at q4
                refine thn q4 fun _ s10 ⟨_, H10, I10, _, e10⟩ => ?_
                subst e10
                exact fin2 I10 q9
          exact two_start1 loop2 (T2.self _ 0 _ _ _ st10 loop2)
    · by_cases hbd : b = s2.heap.objs.size
      · exact absurd (fpo b hb) (by rw [hbd]; exact Nat.lt_irrefl _)
      · rw [upd_ne hbd]
        exact (f2 b hb).1
  exact codeAny_compStart_list (loop _ (I3 _) st3) (T.self _ 0 _ _ _ st3 (loop _ (I3 _) st3))
theorem pe_comp2 (hc : X.calm = true) (hi : PI X tg iter wi) (S : CompSc X Nc js scope)
    (hb : ∀ pins fp H s C, PG (cxComp X Nc scope pins fp H s C) tg g ∧ PIfs (cxComp X Nc scope pins fp H s C) ifs tc ∧ (PI (cxComp X Nc scope pins fp H s C) tg2 iter2 wi2 ∧ PG (cxComp X Nc scope pins fp H s C) tg2 g2 ∧ PIfs (cxComp X Nc scope pins fp H s C) ifs2 tc2) ∧ (∀ x, foldedSetIterable iter2 (cxComp X Nc scope pins fp H s C).env x = pure x) ∧ PE (cxComp X Nc scope pins fp H s C) elt te)
    (hs : ∀ x, foldedSetIterable iter X.env x = pure x) :
    PE X (lc2 elt tg iter ifs tg2 iter2 ifs2 scope pos) (tComp2 js wi g tc wi2 g2 tc2 te) := by
  intro pins s σ H Q I h
  unfold lc2
  rw [eval_ListComp]
  have hcl : ∀ y ∈ scope.names, y.2 = .free → ∃ c, X.env.cells.lookup y.1 = some c := fun y hy e => I.ok.has y.1 (S.free y hy e)
  refine wpAny_comprehension_free (use := none) rfl hs (closure_of hcl) S.kind S.names (thn (hi pins s σ H _ I h) fun v s1 h1 => thn h1 fun itv s2 h2 => ?_)
  obtain ⟨it, fp, tn, J, H2, e, I2, T, st2, f2, h2⟩ := h2
  subst e
  have hDn : H2 s2.heap.objs.size = none := I2.hok.fresh (Nat.le_refl _)
  refine comp_block2 (RR := fun acc C => compPost (model X.prog X.w) X.A X.xe none (EP X pins σ Q) acc C) (Qd := fun H' => Q (.ref s2.heap.objs.size) H') hc S hb I2 T st2 f2 (h2 s2.heap.objs.size hDn) fun C σ' H' s' hC J' q => ?_
  obtain ⟨mm, hm, _⟩ := J'.loc
  exact ⟨mm, hm, fun h' hs' => ⟨.ref s2.heap.objs.size, H', inv_out I2 f2 hC J' hs', rfl, q⟩⟩
end
noncomputable def compGo2 (g : DTG) (C : DTT) (I2 : DTI) (g2 : DTG) (C2 : DTT) (E : DTE) : List D → List D → EnvD → (List D → EnvD → Prop) → Prop
  | [], acc, ρ, q => q acc ρ
  | d :: ds, acc, ρ, q => ∃ N : List D → EnvD → Prop, (∀ acc' ρ', N acc' ρ' → compGo2 g C I2 g2 C2 E ds acc' ρ' q) ∧ g d ρ fun ρ1 => C ρ1 fun b ρ2 => if b = true then I2 ρ2 fun ds2 ρ3 => compGo g2 C2 E ds2 acc ρ3 N else N acc ρ2
noncomputable def eComp2 (js : List (Option Nat)) (I : DTI) (g : DTG) (C : DTT) (I2 : DTI) (g2 : DTG) (C2 : DTT) (E : DTE) : DTE := fun ρ q => I ρ fun ds ρ1 => compGo2 g C I2 g2 C2 E ds [] (inD js ρ1) fun acc _ => q (.lst acc) ρ1
section
variable {X : Cx} {κ : List SK} {pu lo : Bool} {I I2 : DTI} {g g2 : DTG} {C C2 : DTT} {E : DTE} {js : List (Option Nat)} {K : PySem.W.Frag}
theorem comp22_go (hcap : lo = false → ∀ j ∈ js, ∀ i, j = some i → kd κ i = .cl) {pe pu2 lo2 : Bool} {lo0 : Bool} (hlo : lo0 = true → lo = true) {σ : St} {H : Hp} {Q : VK} (h : tD K κ pu (outM lo (.ow 1)) (eComp2 js I g C I2 g2 C2 E) σ H Q) :
    tComp2 js (tDI K κ pu lo0 I) (tDG K [] .cl g) (tDT K [] false C) (tDI K [] pu2 lo2 I2) (tDG K [] .cl g2) (tDT K [] false C2) (tD K [] pe .cl E) σ H Q := by
  obtain ⟨G, O, ρ, q, hE, hq, k⟩ := h
  refine ⟨G, O, ρ, _, hE, hq, fun J H1 ds ρ1 O1 s1 e1 p1 ⟨di, vi, ri, hJ⟩ hgo Dl hD => ?_⟩
  let S := uni (Sx lo G.S0 O1) (· = Dl)
  let Gi : G0 := ⟨S, fun _ => False, H1, inSt js σ, []⟩
  have ri' : Rep K (Sx lo G.S0 O1) H1 di vi := by
    cases lo with
    | false =>
      cases lo0 with
      | false => exact ri
      | true => exact absurd (hlo rfl) Bool.false_ne_true
    | true =>
      cases lo0 with
      | false => exact Rep.go (.less fun _ z => .inl z) di vi ri
      | true => exact ri
  have u0 : uni S (fun _ => False) = S := by funext a; simp [uni]
  have start : EnvOk K [] Gi (fun _ => False) (inD js ρ1) (inSt js σ) (upd H1 Dl (.lst [])) := by
    refine ⟨fun _ => [], ?_, fun a => by simp, fun _ _ => rfl, fun i j a h => absurd h (by simp), fun _ => by simp, fun i a h => absurd h (by simp), fun i a h => absurd h (by simp), fun i n e => rfl, fun p hp => absurd hp (by simp [Gi]), fun a z => ?_, fun b o _ e => ?_, fun b e => ?_, fun p d e => ?_⟩
    · simp [inD, inSt]
    · rcases z with z | z
      · have := Sx_dom (lo := lo) e1 a z
        by_cases hab : a = Dl
        · rw [hab, upd_same]; simp
        · rw [upd_ne hab]; exact this
      · rw [z, upd_same]; simp
    · rw [upd_ne (ne_of_none e hD)]; exact e
    · by_cases hab : b = Dl
      · rw [hab, upd_same]; simp
      · rw [upd_ne hab]; exact e
    · obtain ⟨j, hj, e2⟩ := inD_get e
      obtain ⟨v, h1, h2, h3⟩ := e1.read e2
      refine ⟨v, inSt_get hj h1, ?_⟩
      show Rep K (uni S fun _ => False) _ d v
      rw [u0]
      refine Rep.go (Goes.fresh hD) d v ?_
      cases lo with
      | true => exact h2
      | false => exact h3 (hcap rfl (some j) (List.mem_of_getElem? hj) j rfl)
  have empty : ∀ {O' : Addr → Prop} {ρ' : EnvD} {σ' : St} {H' : Hp}, EnvOk K [] Gi O' ρ' σ' H' → O' = fun _ => False := fun {O' ρ' σ' H'} h => by
    obtain ⟨F, f⟩ := h
    funext a
    have : ¬ O' a := fun z => by
      obtain ⟨i, hi⟩ := (f.own a).mp z
      rw [f.non i (by simp [kd, dep])] at hi
      exact absurd hi (by simp)
    simp [this]
  have sameIn : ∀ {O' : Addr → Prop} {ρ' : EnvD} {σ' : St} {H' : Hp}, EnvOk K [] Gi O' ρ' σ' H' → Same H1 H' := fun h => by
    obtain ⟨F, f⟩ := h
    exact fun b o e => f.keep b o (fun z => z) e
  have toS : ∀ {H' : Hp}, Same H1 H' → H' Dl ≠ none → Rep K S H' di vi := fun {H'} sm hd => by
    have q1 := Rep.go (goes_new (S := Sx lo G.S0 O1) (fp := [Dl]) sm (fun a ha => by
      obtain rfl : a = Dl := by simpa using ha
      exact hD)) di vi ri'
    have eq : uni (Sx lo G.S0 O1) (fpS [Dl]) = S := by funext a; simp [uni, fpS, S]
    rw [eq] at q1
    exact q1
  refine ⟨fun i m σ' H' => m + i = ds.length ∧ ∃ ρi acc vs, EnvOk K [] Gi (fun _ => False) ρi σ' H' ∧ H' Dl = some (.lst vs) ∧ Reps K S H' acc vs ∧ compGo2 g C I2 g2 C2 E (ds.drop i) acc ρi (fun acc _ => q (.lst acc) ρ1), ⟨ds.length, rfl, _, [], [], start, upd_same, by simp only [Reps], hgo⟩, ?_⟩
  rintro i m σ' H' ⟨hm, ρi, acc, vs, en, hDl, hacc, hg⟩
  have sm := sameIn en
  have hit := hJ _ H' (toS sm (by rw [hDl]; simp)) i
  cases e : ds[i]? with
  | none =>
    left
    have hi : ds.length ≤ i := List.getElem?_eq_none_iff.mp e
    rw [List.drop_eq_nil_of_le hi] at hg
    refine ⟨hit.2 e, ?_⟩
    have vr : VRes K (Sx lo G.S0 O1) H1 H' [Dl] (.ow 1) (.lst acc) (.ref Dl) := by
      refine ⟨by simp, fun a ha => ?_, ?_⟩
      · obtain rfl : a = Dl := by simpa using ha
        exact ⟨hD, _, hDl, trivial⟩
      · have eq : uni (Sx lo G.S0 O1) (fpS [Dl]) = S := by funext a; simp [uni, fpS, S]
        rw [eq]
        exact own1_mk hDl hacc
    obtain ⟨fp', st, en', vo⟩ := VRes.fin e1 s1 sm vr (by simp)
    exact k _ H' _ ρ1 O1 fp' st en' vo (p1.same sm) hg
  | some d =>
    right
    rw [drop_at e] at hg
    obtain ⟨Nd, hNd, hg⟩ := hg
    obtain ⟨g1, g2'⟩ := hit.1 d e
    have hi : i < ds.length := (List.getElem?_eq_some_iff.mp e).1
    refine ⟨g1, fun σ2 H2 => ∃ ρi acc vs, EnvOk K [] Gi (fun _ => False) ρi σ2 H2 ∧ H2 Dl = some (.lst vs) ∧ Reps K S H2 acc vs ∧ compGo2 g C I2 g2 C2 E (ds.drop (i + 1)) acc ρi (fun acc _ => q (.lst acc) ρ1), fun σ2 H2 ⟨ρi, acc, vs, z⟩ => ⟨ds.length - (i + 1), by omega, by omega, ρi, acc, vs, z⟩, fun x H2 y => ?_⟩
    obtain ⟨sm2, rx⟩ := g2' x H2 y
    have en2 := en.same0 sm2
    have hDl2 := sm2 _ _ hDl
    have hacc2 := Reps.go (Goes.same sm2) acc vs hacc
    refine ⟨Gi, _, ρi, _, d, en2, (by rw [show Sx (loB .cl) Gi.S0 (fun _ => False) = uni S fun _ => False from rfl, u0]; exact rx), hg, fun σ3 ρ3 e3 hc => ⟨Gi, _, ρ3, _, e3, hc, fun b H4 ρ4 O4 s4 e4 p4 hb => ?_⟩⟩
    have o4 := empty e4
    subst o4
    have sm4 : Same H2 H4 := fun b o e => s4.keep b o (fun z => z) e
    have hDl4 := sm4 _ _ hDl2
    have hacc4 := Reps.go (Goes.same sm4) acc vs hacc2
    cases b with
    | false =>
      rw [if_neg Bool.false_ne_true] at hb
      exact iteF ⟨ρ4, acc, vs, e4, hDl4, hacc4, hNd _ _ hb⟩
    | true =>
      rw [if_pos rfl] at hb
      refine iteT ⟨Gi, _, ρ4, _, e4, hb, fun J2 H5 ds2 ρ5 O5 s5 e5 p5 ⟨dj, vj, rj, hJ2⟩ hq5 => ?_⟩
      have o5 := empty e5
      subst o5
      have sm5 : Same H4 H5 := fun b o e => s5.keep b o (fun z => z) e
      have hDl5 := sm5 _ _ hDl4
      have hacc5 := Reps.go (Goes.same sm5) acc vs hacc4
      have rj' : Rep K S H5 dj vj := by
        cases lo2 with
        | true => exact rj
        | false =>
          have z : Sx false Gi.S0 (fun _ => False) = S := u0
          rw [z] at rj
          exact rj
      refine ⟨fun i2 m2 σ4 H6 => m2 + i2 = ds2.length ∧ ∃ ρi acc vs, EnvOk K [] Gi (fun _ => False) ρi σ4 H6 ∧ H6 Dl = some (.lst vs) ∧ Reps K S H6 acc vs ∧ Rep K S H6 dj vj ∧ compGo g2 C2 E (ds2.drop i2) acc ρi Nd, ⟨ds2.length, rfl, ρ5, acc, vs, e5, hDl5, hacc5, rj', hq5⟩, ?_⟩
      rintro i2 m2 σ6 H6 ⟨hm2, ρ6, acc6, vs6, e6, hDl6, hacc6, rj6, hg6⟩
      have hit2 := hJ2 _ H6 rj6 i2
      cases ee : ds2[i2]? with
      | none =>
        left
        have hi2 : ds2.length ≤ i2 := List.getElem?_eq_none_iff.mp ee
        rw [List.drop_eq_nil_of_le hi2] at hg6
        exact ⟨hit2.2 ee, ρ6, acc6, vs6, e6, hDl6, hacc6, hNd _ _ hg6⟩
      | some d2 =>
        right
        rw [drop_at ee] at hg6
        obtain ⟨Ne, hNe, hg6⟩ := hg6
        obtain ⟨k1, k2⟩ := hit2.1 d2 ee
        have hi2 : i2 < ds2.length := (List.getElem?_eq_some_iff.mp ee).1
        refine ⟨k1, fun σ7 H7 => ∃ ρi acc vs, EnvOk K [] Gi (fun _ => False) ρi σ7 H7 ∧ H7 Dl = some (.lst vs) ∧ Reps K S H7 acc vs ∧ Rep K S H7 dj vj ∧ compGo g2 C2 E (ds2.drop (i2 + 1)) acc ρi Nd, fun σ7 H7 ⟨ρi, acc, vs, z⟩ => ⟨ds2.length - (i2 + 1), by omega, by omega, ρi, acc, vs, z⟩, fun x7 H7 y7 => ?_⟩
        obtain ⟨sm7, rx7⟩ := k2 x7 H7 y7
        have e7 := e6.same0 sm7
        have hDl7 := sm7 _ _ hDl6
        have hacc7 := Reps.go (Goes.same sm7) acc6 vs6 hacc6
        have rj7 := Rep.go (Goes.same sm7) dj vj rj6
        refine ⟨Gi, _, ρ6, _, d2, e7, (by rw [show Sx (loB .cl) Gi.S0 (fun _ => False) = uni S fun _ => False from rfl, u0]; exact rx7), hg6, fun σ8 ρ8 e8 hc8 => ⟨Gi, _, ρ8, _, e8, hc8, fun b H9 ρ9 O9 s9 e9 p9 hb9 => ?_⟩⟩
        have o9 := empty e9
        subst o9
        have sm9 : Same H7 H9 := fun b o e => s9.keep b o (fun z => z) e
        have hDl9 := sm9 _ _ hDl7
        have hacc9 := Reps.go (Goes.same sm9) acc6 vs6 hacc7
        have rj9 := Rep.go (Goes.same sm9) dj vj rj7
        cases b with
        | false =>
          rw [if_neg Bool.false_ne_true] at hb9
          exact iteF ⟨ρ9, acc6, vs6, e9, hDl9, hacc9, rj9, hNe _ _ hb9⟩
        | true =>
          rw [if_pos rfl] at hb9
          refine iteT ⟨Gi, _, ρ9, _, e9, hb9, fun v H10 z ρ10 O10 fp s10 e10 vo p10 ⟨hlen, hz⟩ => ?_⟩
          have e10' := e10.drop
          have o10 := empty e10'
          subst o10
          have sm10 : Same H9 H10 := fun b o e => s10.keep b o (fun z => z) e
          have hDl10 := sm10 _ _ hDl9
          have hacc10 := Reps.go (Goes.same sm10) acc6 vs6 hacc9
          have rj10 := Rep.go (Goes.same sm10) dj vj rj9
          have gU : Goes S S H10 (upd H10 Dl (.lst (vs6 ++ [v]))) := Goes.upd hDl10 trivial (.inr rfl)
          refine ⟨vs6, hDl10, by rw [hacc6.len]; exact hlen, ρ10, acc6 ++ [z], vs6 ++ [v], e10'.updS (.inr rfl) hDl10 trivial hD, upd_same, ?_, Rep.go gU dj vj rj10, hNe _ _ hz⟩
          have rv := vo.2
          rw [show uni Gi.S0 (fun _ => False) = S from u0] at rv
          exact Reps.snoc (Reps.go gU acc6 vs6 hacc10) (Rep.go gU z v rv)
variable {tg elt iter tg2 iter2 : Expr} {ifs ifs2 : List Expr} {scope : Scope} {pos : Pos} {Nc : List Str} {lo0 pe pu2 lo2 : Bool}
theorem dcomp2 (hs : ∀ x, foldedSetIterable iter X.env x = pure x) (hc : X.calm = true) (hcap : lo = false → ∀ j ∈ js, ∀ i, j = some i → kd κ i = .cl) (hlo : lo0 = true → lo = true) (hi : DI X κ pu lo0 tg iter I) (S : CompSc X Nc js scope)
    (hb : ∀ pins fp H s C', DG (cxComp X Nc scope pins fp H s C') [] .cl tg g ∧ DIf (cxComp X Nc scope pins fp H s C') [] ifs C ∧ (DI (cxComp X Nc scope pins fp H s C') [] pu2 lo2 tg2 iter2 I2 ∧ DG (cxComp X Nc scope pins fp H s C') [] .cl tg2 g2 ∧ DIf (cxComp X Nc scope pins fp H s C') [] ifs2 C2) ∧ (∀ x, foldedSetIterable iter2 (cxComp X Nc scope pins fp H s C').env x = pure x) ∧ DE (cxComp X Nc scope pins fp H s C') [] pe .cl elt E) :
    DE X κ pu (outM lo (.ow 1)) (.ListComp elt [⟨tg, iter, ifs, 0⟩, ⟨tg2, iter2, ifs2, 0⟩] scope pos) (eComp2 js I g C I2 g2 C2 E) :=
  ⟨(pe_comp2 hc hi.h S (fun p f H s C' => let ⟨x, y, ⟨z1, z2, z3⟩, z4, z5⟩ := hb p f H s C'; ⟨x.h, y.h, ⟨z1.h, z2.h, z3.h⟩, z4, z5.h⟩) hs).weak fun σ H Q h => comp22_go (K := X.K) hcap hlo h⟩
end
section
variable {X : Cx} {κ : List SK} {pu : Bool} {md : SK} {a b c e : Expr} {es rest : List Expr} {pos p apos cpos : Pos} {Ea Eb Ec E : DTE} {A : DTA} {r r2 : DR2} {rn : DRn} {x : Str} {id T : String} {C U : DTT}
theorem vcl : isV .cl := .inl rfl
theorem vlo : isV .lo := .inr rfl
theorem and2 {p : Bool} {P : Bool → Prop} (h : P (p && p)) : P p := by rwa [Bool.and_self] at h
theorem and3 {p : Bool} {P : Bool → Prop} (h : P ((p && p) && p)) : P p := by rwa [Bool.and_self, Bool.and_self] at h
theorem and3' {p : Bool} {P : Bool → Prop} (h : P (p && (p && p))) : P p := by rwa [Bool.and_self, Bool.and_self] at h
theorem fopC {op : Operator} (hm : md ≠ .lo) (ho : DOp X md (binaryOp op) r) (ha : DE X κ pu .cl a Ea) (hb : DE X κ pu .cl b Eb) : DE X κ pu md (.BinOp a op b pos) (eOp r Ea Eb) := and2 (P := fun p => DE X κ p md _ _) (dop ho vcl vcl (fun h => by cases h) hm ha hb)
theorem fopL {op : Operator} (hm : md ≠ .lo) (ho : DOp X md (binaryOp op) r) (ha : DE X κ true .lo a Ea) (hb : DE X κ true .lo b Eb) : DE X κ true .lo (.BinOp a op b pos) (eOp r Ea Eb) := dop ho vlo vlo (fun h => rfl) hm ha hb
theorem fcmpC {op : CmpOp} (hmk : behindInMarks op b = false) (ho : DOp X .cl (compareOp op) r) (ha : DE X κ pu .cl a Ea) (hb : DE X κ pu .cl b Eb) : DE X κ pu .cl (.Compare a [op] [b] pos) (eOp r Ea Eb) := and2 (P := fun p => DE X κ p .cl _ _) (dcmp hmk ho vcl vcl (fun h => by cases h) ha hb)
theorem ftcmpC {op : CmpOp} (hmk : behindInMarks op b = false) (ho : DOp X .cl (compareOp op) r) (ha : DE X κ pu .cl a Ea) (hb : DE X κ pu .cl b Eb) : DT X κ pu (.Compare a [op] [b] pos) (eTest (eOp r Ea Eb)) := and2 (P := fun p => DT X κ p _ _) (dtcmp hmk ho vcl vcl (fun h => by cases h) ha hb)
theorem ftcmpL {op : CmpOp} (hmk : behindInMarks op b = false) (ho : DOp X .cl (compareOp op) r) (ha : DE X κ true .lo a Ea) (hb : DE X κ true .lo b Eb) : DT X κ true (.Compare a [op] [b] pos) (eTest (eOp r Ea Eb)) := dtcmp hmk ho vlo vlo (fun h => rfl) ha hb
theorem fchain {op op' : CmpOp} (hmk : lastMarks [op, op'] [b, c] = false) (ho : DOp X .cl (compareOp op) r) (ho' : DOp X .cl (compareOp op') r2) (ha : DE X κ pu .cl a Ea) (hb : DE X κ pu .cl b Eb) (hc : DE X κ pu .cl c Ec) : DE X κ pu .cl (.Compare a [op, op'] [b, c] pos) (eChain r r2 Ea Eb Ec) := and3 (P := fun p => DE X κ p .cl _ _) (dchain hmk ho ho' ha hb hc)
theorem ftchain {op op' : CmpOp} (hmk : lastMarks [op, op'] [b, c] = false) (ho : DOp X .cl (compareOp op) r) (ho' : DOp X .cl (compareOp op') r2) (ha : DE X κ pu .cl a Ea) (hb : DE X κ pu .cl b Eb) (hc : DE X κ pu .cl c Ec) : DT X κ pu (.Compare a [op, op'] [b, c] pos) (eTest (eChain r r2 Ea Eb Ec)) := and3 (P := fun p => DT X κ p _ _) (dtchain hmk ho ho' ha hb hc)
theorem fand (ha : DE X κ pu .cl a Ea) (hb : DE X κ pu .cl (.BoolOp .And (b :: rest) pos) Eb) : DE X κ pu .cl (.BoolOp .And (a :: b :: rest) pos) (eAndV Ea Eb) := and2 (P := fun p => DE X κ p .cl _ _) (dand ha hb)
theorem fwand (ha : DT X κ pu a C) (hb : DW X κ pu (.BoolOp .And (b :: rest) pos) U) : DW X κ pu (.BoolOp .And (a :: b :: rest) pos) (eAndT C U) := and2 (P := fun p => DW X κ p _ _) (dwand ha hb)
theorem fwor (ha : DT X κ pu a C) (hb : DW X κ pu (.BoolOp .Or (b :: rest) pos) U) : DW X κ pu (.BoolOp .Or (a :: b :: rest) pos) (eOrT C U) := and2 (P := fun p => DW X κ p _ _) (dwor ha hb)
theorem fifx (hc : DT X κ pu c C) (ha : DE X κ pu md a Ea) (hb : DE X κ pu md b Eb) : DE X κ pu md (.IfExp c a b pos) (eIf C Ea Eb) := and3' (P := fun p => DE X κ p md _ _) (difx hc ha hb)
theorem DA.dirty {lo : Bool} (h : DA X κ true lo es A) : DA X κ false lo es A := ⟨h.h.weak fun σ H Q hh_ => by obtain ⟨G, O, ρ, q, hE, hq, k⟩ := hh_; exact ⟨G, O, ρ, q, hE, hq, fun vs H' ds ρ' O' s e' r p z => k vs H' ds ρ' O' s e' r (fun z => absurd z Bool.false_ne_true) z⟩⟩
theorem fanil : DA X κ pu false [] eNil := by
  cases pu with
  | true => exact danil
  | false => exact danil.dirty
theorem fanilL : DA X κ true true [] eNil := ⟨pa_nil.weak fun σ H Q hh_ => by obtain ⟨G, O, ρ, q, hE, hq, k⟩ := hh_; exact k [] H [] ρ O (.refl _ _) hE (by simp only [Reps]) .refl hq⟩
theorem facC (hs : plainE e = true) (ha : DE X κ pu .cl e E) (hr : DA X κ pu false es A) : DA X κ pu false (e :: es) (eCons E A) := and2 (P := fun p => DA X κ p false _ _) (dac hs vcl (fun h => by cases h) ha hr)
theorem facL (hs : plainE e = true) (ha : DE X κ true .lo e E) (hr : DA X κ true true es A) : DA X κ true true (e :: es) (eCons E A) := dac hs vlo (fun h => rfl) ha hr
theorem ftupC {k} (h : DA X κ pu false es A) : DE X κ pu .cl (.Tuple es k pos) (eTup A) := dtup h
theorem ftupL {k} (h : DA X κ true true es A) : DE X κ true .lo (.Tuple es k pos) (eTup A) := dtup h
theorem flstC (h : DA X κ pu false es A) : DE X κ pu (.ow 1) (.List es pos) (eLst A) := dlst h
theorem fixC (hs : PlainIx b) (ho : DIx X r) (ha : DE X κ pu .cl a Ea) (hb : DE X κ pu .cl b Eb) : DE X κ pu .cl (.Subscript a b pos) (eOp r Ea Eb) := and2 (P := fun p => DE X κ p .cl _ _) (dix hs ho vcl vcl (fun h => by cases h) ha hb)
theorem fixL (hs : PlainIx b) (ho : DIx X r) (ha : DE X κ true .lo a Ea) (hb : DE X κ true .lo b Eb) : DE X κ true .lo (.Subscript a b pos) (eOp r Ea Eb) := dix hs ho vlo vlo (fun h => rfl) ha hb
theorem fcbC (hp : (e :: es).all plainE = true) (hn : x ≠ "__name__") (hdb : (x == ("__debug__" : Str)) = false) (hm : md ≠ .lo) (hc : DCall X md (.builtin id) rn) (hg : Gl X x) (hmg : X.mg x = none) (hv : bootBuiltins x = some (.builtin id)) (ha : DA X κ pu false (e :: es) A) : DE X κ pu md (.Call (.Name x p) (e :: es) [] pos) (eCallB rn A) := dcb hp hn hdb hc hm hg hmg hv ha
theorem fctC (hp : (e :: es).all plainE = true) (hn : x ≠ "__name__") (hdb : (x == ("__debug__" : Str)) = false) (hm : md ≠ .lo) (hc : DCall X md (.type T) rn) (hg : Gl X x) (hmg : X.mg x = none) (hv : bootBuiltins x = some (.type T)) (ha : DA X κ pu false (e :: es) A) : DE X κ pu md (.Call (.Name x p) (e :: es) [] pos) (eCallB rn A) := dct hp hn hdb hc hm hg hmg hv ha
theorem fctL (hp : (e :: es).all plainE = true) (hn : x ≠ "__name__") (hdb : (x == ("__debug__" : Str)) = false) (hm : md ≠ .lo) (hc : DCall X md (.type T) rn) (hg : Gl X x) (hmg : X.mg x = none) (hv : bootBuiltins x = some (.type T)) (ha : DA X κ true true (e :: es) A) : DE X κ true .lo (.Call (.Name x p) (e :: es) [] pos) (eCallB rn A) := dct hp hn hdb hc hm hg hmg hv ha
variable {sd : List D → (D → Prop) → Prop} {CX : CXT} {k : Nat} {g : Addr} {fd : FuncData} {ps : List Str} {Ex : XK}
noncomputable def eLen (n : Nat) (A : DTA) : DTA := fun ρ q => A ρ fun ds ρ' => ds.length = n ∧ q ds ρ'
theorem fclC {np : Nat} (hp : (e :: es).all plainE = true) (hdb : (x == ("__debug__" : Str)) = false) (hmd : md ≠ .lo) (F : FnOk X.prog X.w X.K X.mg X.base CX k g fd ps (spP X.K np md sd)) (hn : np = ps.length) (hlen : (e :: es).length = ps.length) (hr : Room k X.A) (hg : Gl X x) (hm : X.mg x = some (.ref g)) (hk : PySem.W.keepIn X.K (.ref g) = true) (hb : Binds X.K fd ps []) (hx : Passes CX X Ex)
    (ha : DA X κ pu false (e :: es) A) : DE X κ pu md (.Call (.Name x p) (e :: es) [] pos) (eCall sd (eLen np A)) := by
  subst hn
  exact dcl hp hdb F hr hg hm hk hb hx hlen hmd ha
theorem fclL {np : Nat} (hp : (e :: es).all plainE = true) (hdb : (x == ("__debug__" : Str)) = false) (hmd : md ≠ .lo) (F : FnOk X.prog X.w X.K X.mg X.base CX k g fd ps (spP X.K np md sd)) (hn : np = ps.length) (hlen : (e :: es).length = ps.length) (hr : Room k X.A) (hg : Gl X x) (hm : X.mg x = some (.ref g)) (hk : PySem.W.keepIn X.K (.ref g) = true) (hb : Binds X.K fd ps []) (hx : Passes CX X Ex)
    (ha : DA X κ true true (e :: es) A) : DE X κ true .lo (.Call (.Name x p) (e :: es) [] pos) (eCall sd (eLen np A)) := by
  subst hn
  exact dcl hp hdb F hr hg hm hk hb hx hlen hmd ha
theorem fclx {np i j n : Nat} {sx : List D → (D → D → Prop) → Prop} (hp : (e :: es).all plainE = true) (hdb : (x == ("__debug__" : Str)) = false) (F : FnOk X.prog X.w X.K X.mg X.base CX k g fd ps (spX X.K np j n md sx)) (hn : np = ps.length) (hr : Room k X.A) (hg : Gl X x) (hm : X.mg x = some (.ref g)) (hk : PySem.W.keepIn X.K (.ref g) = true) (hb : Binds X.K fd ps []) (hx : Passes CX X Ex)
    (hdep : dep (kd κ i) = some n) (hmd : md = .cl ∨ ∃ m, md = .ow m) (ha : DAx X κ i j (e :: es) A) : DE X κ false md (.Call (.Name x p) (e :: es) [] pos) (eCallX κ i np sx A) := by
  subst hn
  exact dclx hp hdb F hr hg hm hk hb hx hdep hmd ha
variable {lo hi : Option Expr} {El Eh : DTO} {rs : D → Option Int → Option Int → (D → Prop) → Prop}
theorem DO.dirty (h : DO X κ true lo El) : DO X κ false lo El := ⟨h.h.weak fun σ H Q hh_ => by obtain ⟨G, O, ρ, q, hE, hq, k⟩ := hh_; exact ⟨G, O, ρ, q, hE, hq, fun o H' ρ' O' s e' p z => k o H' ρ' O' s e' (fun z => absurd z Bool.false_ne_true) z⟩⟩
theorem fono : DO X κ pu none eONone := by
  cases pu with
  | true => exact dono
  | false => exact dono.dirty
theorem fslC (hm : md ≠ .lo) (hr : DSl X md rs) (he : DE X κ pu .cl e E) (hl : DO X κ pu lo El) (hh : DO X κ pu hi Eh) : DE X κ pu md (.Subscript e (.Slice lo hi none p) pos) (eSl rs E El Eh) := and3 (P := fun p => DE X κ p md _ _) (dsl hr vcl (fun h => by cases h) hm he hl hh)
end
noncomputable def noIoB (κ : List SK) : Bool := κ.all fun k => match k with | .io _ => false | _ => true
theorem kd_mem {κ : List SK} {i : Nat} {s : SK} (h : kd κ i = s) (hs : s ≠ .cl) : s ∈ κ := by
  unfold kd at h
  rw [List.getD_eq_getElem?_getD] at h
  cases e : κ[i]? with
  | none => rw [e] at h; exact absurd h.symm hs
  | some k => rw [e] at h; rw [← (show k = s from h)]; exact List.mem_of_getElem? e
theorem noIo_of {κ : List SK} (h : noIoB κ = true) : ∀ i n, kd κ i ≠ .io n := fun i n e => by
  have := List.all_eq_true.mp h _ (kd_mem e (by simp))
  cases this
noncomputable def clB (κ : List SK) (n : Nat) (j : Option Nat) : Bool := (List.range n).all fun i => decide (some i = j) || decide (kd κ i = .cl)
theorem cl_of {κ : List SK} {n : Nat} (h : clB κ n none = true) : ∀ i, i < n → kd κ i = .cl := fun i hi => by
  have := List.all_eq_true.mp h i (List.mem_range.mpr hi)
  simpa using this
theorem clx_of {κ : List SK} {n j : Nat} (h : clB κ n (some j) = true) : ∀ i, i < n → i ≠ j → kd κ i = .cl := fun i hi hj => by
  have := List.all_eq_true.mp h i (List.mem_range.mpr hi)
  simpa [hj] using this
noncomputable def ioB (κ : List SK) (j : Nat) : Bool := (List.range κ.length).all fun i => decide (i = j) || match kd κ i with | .io _ => false | _ => true
theorem io_of {κ : List SK} {j : Nat} (h : ioB κ j = true) : ∀ i m, i ≠ j → kd κ i ≠ .io m := fun i m hj e => by
  have hi : i < κ.length := by
    apply Decidable.byContradiction
    intro hn
    unfold kd at e
    rw [List.getD_eq_getElem?_getD, List.getElem?_eq_none_iff.mpr (by omega)] at e
    cases e
  have := List.all_eq_true.mp h i (List.mem_range.mpr hi)
  rw [e] at this
  simp [hj] at this
noncomputable def kcB (κc : List SK) (pI : Nat) : Bool := (List.range κc.length).all fun i => decide (i = pI) || decide (kd κc i = .cl)
theorem kc_of {κc : List SK} {pI : Nat} (h : kcB κc pI = true) : ∀ p, p ≠ pI → kd κc p = .cl := fun p hp => by
  by_cases hi : p < κc.length
  · have := List.all_eq_true.mp h p (List.mem_range.mpr hi)
    simpa [hp] using this
  · unfold kd
    rw [List.getD_eq_getElem?_getD, List.getElem?_eq_none_iff.mpr (by omega)]
    rfl
noncomputable def capB (κ : List SK) (js : List (Option Nat)) : Bool := js.all fun j => match j with | some i => decide (kd κ i = .cl) | none => true
theorem cap_of {κ : List SK} {js : List (Option Nat)} (h : capB κ js = true) : ∀ j ∈ js, ∀ i, j = some i → kd κ i = .cl := fun j hj i e => by
  have := List.all_eq_true.mp h j hj
  subst e
  simpa using this
noncomputable def capxB (κ : List SK) (js : List (Option Nat)) (pI : Nat) : Bool := (List.range js.length).all fun p => decide (p = pI) || match js[p]? with | some (some i) => decide (kd κ i = .cl) | _ => true
theorem capx_of {κ : List SK} {js : List (Option Nat)} {pI : Nat} (h : capxB κ js pI = true) : ∀ p j, p ≠ pI → js[p]? = some (some j) → kd κ j = .cl := fun p j hp e => by
  have hi : p < js.length := (List.getElem?_eq_some_iff.mp e).1
  have := List.all_eq_true.mp h p (List.mem_range.mpr hi)
  rw [e] at this
  simpa [hp] using this
noncomputable def eNeg (E : DTE) : DTE := fun ρ q => E ρ fun x ρ1 => ∃ i, x = .int i ∧ q (.int (-i)) ρ1
theorem fneg {X : Cx} {κ : List SK} {pu : Bool} {a : Expr} {pos : Pos} {Ea : DTE} (ha : DE X κ pu .cl a Ea) : DE X κ pu .cl (.UnaryOp .USub a pos) (eNeg Ea) := dneg ha
noncomputable def BodyP (B : DTS) (n np : Nat) (md : SK) (sd : List D → (D → Prop) → Prop) : Prop := ∀ ds q, ds.length = np → sd ds q → B { nx := fun _ => md = .cl ∧ q .non, rt := fun d _ => q d } (startD n ds)
noncomputable def BodyX (B : DTS) (n np j : Nat) (md : SK) (sd : List D → (D → D → Prop) → Prop) : Prop := ∀ ds q, ds.length = np → sd ds q → B { nx := fun ρ => md = .cl ∧ ∃ d', ρ[j]? = some (some d') ∧ q .non d', rt := fun d ρ => ∃ d', ρ[j]? = some (some d') ∧ q d d' } (startD n ds)
noncomputable abbrev oAdd : DR2 := oI0 fun i j => .int (i + j)
noncomputable abbrev oSub : DR2 := oI0 fun i j => .int (i - j)
noncomputable abbrev oMul : DR2 := oI IntMulOk fun i j => .int (i * j)
noncomputable abbrev oMod : DR2 := oI (fun _ j => 0 < j) fun i j => .int (i % j)
noncomputable abbrev oFdiv : DR2 := oI CDiv fun i j => .int (i / j)
noncomputable abbrev oPow : DR2 := oI CPow fun i j => .int (i ^ j.toNat)
noncomputable abbrev oLt : DR2 := oI0 fun i j => .bl (decide (i < j))
noncomputable abbrev oLe : DR2 := oI0 fun i j => .bl (decide (i ≤ j))
noncomputable abbrev oGt : DR2 := oI0 fun i j => .bl (decide (j < i))
noncomputable abbrev oGe : DR2 := oI0 fun i j => .bl (decide (j ≤ i))
noncomputable abbrev oIs : DR2 := fun x y q => y = .non ∧ q (.bl (isNon x))
noncomputable abbrev oIsnot : DR2 := fun x y q => y = .non ∧ q (.bl (!isNon x))
noncomputable abbrev oAdds : DR2 := fun x y q => ∃ i j, x = .str i ∧ y = .str j ∧ i.length + j.length ≤ sizeLine ∧ q (.str (i ++ j))
noncomputable abbrev oCat : DR2 := fun x y q => ∃ a b, x = .lst a ∧ y = .lst b ∧ a.length + b.length ≤ sizeLine ∧ q (.lst (a ++ b))
noncomputable abbrev oRep : DR2 := fun x y q => ∃ a k, x = .lst a ∧ y = .int k ∧ -(2 ^ 63) ≤ k ∧ k < 2 ^ 63 ∧ a.length * k.toNat ≤ sizeLine ∧ q (.lst (List.replicate k.toNat a).flatten)
noncomputable abbrev xL : DR2 := fun x y q => ∃ l i d, x = .lst l ∧ y = .int i ∧ atI l i = some d ∧ q d
noncomputable abbrev xT : DR2 := fun x y q => ∃ l i d, x = .tup l ∧ y = .int i ∧ atI l i = some d ∧ q d
noncomputable abbrev xS : DR2 := fun x y q => ∃ z i c, x = .str z ∧ y = .int i ∧ z.length ≤ sizeLine ∧ atI z.cps.toList i = some c ∧ q (.str ⟨#[c]⟩)
noncomputable abbrev xScr : DR2 := fun x y q => ∃ ns i n, x = .scr ns ∧ y = .int i ∧ atI ns i = some n ∧ q (.int n)
noncomputable abbrev cAbs : DRn := fun ds q => ∃ i, ds = [.int i] ∧ q (.int (if i < 0 then -i else i))
noncomputable abbrev cMin2 : DRn := fun ds q => ∃ i j, ds = [.int i, .int j] ∧ q (.int (if j < i then j else i))
noncomputable abbrev cMax2 : DRn := fun ds q => ∃ i j, ds = [.int i, .int j] ∧ q (.int (if j > i then j else i))
noncomputable abbrev cInt : DRn := fun ds q => (∃ i, ds = [.int i] ∧ q (.int i)) ∨ ∃ b, ds = [.bl b] ∧ q (.int (if b then 1 else 0))
noncomputable abbrev cIsi : DRn := fun ds q => ∃ d c, ds = [d, .ty c] ∧ noDct d = true ∧ c ∈ ["bool", "int", "str", "list", "tuple"] ∧ q (.bl (isB (tyD d) c))
noncomputable abbrev cTuple : DRn := fun ds q => ∃ l, (ds = [.lst l] ∨ ds = [.tup l]) ∧ q (.tup l)
noncomputable abbrev cAll : DRn := fun ds q => ∃ bs : List Bool, ds = [.lst (bs.map D.bl)] ∧ q (.bl (bs.all id))
noncomputable abbrev slS : D → Option Int → Option Int → (D → Prop) → Prop := fun x lo hi q => ∃ z, x = .str z ∧ z.length ≤ sizeLine ∧ q (.str (Txt.slice z lo hi))
theorem room12 {k : Nat} {A : Around} (hr : Room k A) : A.units + 12 < cLine := Nat.lt_of_le_of_lt (Nat.add_le_add_left (by decide : 12 ≤ 64) _) hr.units
theorem dgstr {X : Cx} {κ : List SK} {x z : Str} {pos : Pos} (hd : (x == ("__debug__" : Str)) = false) (hg : Gl X x) (hm : ∃ tk, X.mg x = some (.str z tk)) : DE X κ true .cl (.Name x pos) (eC (.str z)) := by
  obtain ⟨tk, hm⟩ := hm
  exact dglob hd hg ⟨.str z, _, hm, ⟨tk, rfl⟩, fun _ _ => by simp only [Rep]⟩
theorem forGo_inv {g : DTG} {T : DTS} {De : DEnds} (Pv : Nat → EnvD → Prop) : ∀ (ds : List D) (ρ : EnvD) (k : Nat), Pv k ρ →
    (∀ i d ρ, ds[i]? = some d → Pv (k + i) ρ → g d ρ fun ρ2 => T { De with nx := Pv (k + i + 1), ct := Pv (k + i + 1), bk := De.nx } ρ2) → (∀ ρ, Pv (k + ds.length) ρ → De.nx ρ) → forGo g T De ds ρ
  | [], ρ, k, h0, _, hd => hd ρ (by simpa using h0)
  | d :: ds, ρ, k, h0, hs, hd => by
    refine ⟨Pv (k + 1), fun ρ' hp => forGo_inv Pv ds ρ' (k + 1) hp (fun i d' ρ2 e p => ?_) (fun ρ2 p => hd ρ2 ?_), hs 0 d ρ rfl h0⟩
    · have := hs (i + 1) d' ρ2 (by simpa using e) (by rw [← Nat.add_assoc, Nat.add_right_comm]; exact p)
      rw [← Nat.add_assoc, Nat.add_right_comm k i 1] at this
      exact this
    · rw [List.length_cons, ← Nat.add_assoc, Nat.add_right_comm]
      exact p
theorem forI {g : DTG} {T : DTS} {De : DEnds} {ds : List D} {ρ : EnvD} (Pv : Nat → EnvD → Prop) (h0 : Pv 0 ρ) (hs : ∀ i d ρ, ds[i]? = some d → Pv i ρ → g d ρ fun ρ2 => T { De with nx := Pv (i + 1), ct := Pv (i + 1), bk := De.nx } ρ2) (hd : ∀ ρ, Pv ds.length ρ → De.nx ρ) : forGo g T De ds ρ :=
  forGo_inv Pv ds ρ 0 h0 (fun i d ρ e p => by rw [Nat.zero_add] at p ⊢; exact hs i d ρ e p) (fun ρ p => hd ρ (by rw [Nat.zero_add] at p; exact p))
theorem compGo_inv {g : DTG} {C : DTT} {E : DTE} {q : List D → EnvD → Prop} (Pv : Nat → List D → EnvD → Prop) : ∀ (ds acc : List D) (ρ : EnvD) (k : Nat), Pv k acc ρ →
    (∀ i d acc ρ, ds[i]? = some d → Pv (k + i) acc ρ → g d ρ fun ρ1 => C ρ1 fun b ρ2 => if b = true then E ρ2 fun z ρ3 => acc.length < sizeLine ∧ Pv (k + i + 1) (acc ++ [z]) ρ3 else Pv (k + i + 1) acc ρ2) → (∀ acc ρ, Pv (k + ds.length) acc ρ → q acc ρ) → compGo g C E ds acc ρ q
  | [], acc, ρ, k, h0, _, hd => hd acc ρ (by simpa using h0)
  | d :: ds, acc, ρ, k, h0, hs, hd => by
    refine ⟨Pv (k + 1), fun acc' ρ' hp => compGo_inv Pv ds acc' ρ' (k + 1) hp (fun i d' acc2 ρ2 e p => ?_) (fun acc2 ρ2 p => hd acc2 ρ2 ?_), hs 0 d acc ρ rfl h0⟩
    · have := hs (i + 1) d' acc2 ρ2 (by simpa using e) (by rw [← Nat.add_assoc, Nat.add_right_comm]; exact p)
      rw [← Nat.add_assoc, Nat.add_right_comm k i 1] at this
      exact this
    · rw [List.length_cons, ← Nat.add_assoc, Nat.add_right_comm]
      exact p
theorem compI {g : DTG} {C : DTT} {E : DTE} {q : List D → EnvD → Prop} {ds acc : List D} {ρ : EnvD} (Pv : Nat → List D → EnvD → Prop) (h0 : Pv 0 acc ρ)
    (hs : ∀ i d acc ρ, ds[i]? = some d → Pv i acc ρ → g d ρ fun ρ1 => C ρ1 fun b ρ2 => if b = true then E ρ2 fun z ρ3 => acc.length < sizeLine ∧ Pv (i + 1) (acc ++ [z]) ρ3 else Pv (i + 1) acc ρ2) (hd : ∀ acc ρ, Pv ds.length acc ρ → q acc ρ) : compGo g C E ds acc ρ q :=
  compGo_inv Pv ds acc ρ 0 h0 (fun i d acc ρ e p => by rw [Nat.zero_add] at p ⊢; exact hs i d acc ρ e p) (fun acc ρ p => hd acc ρ (by rw [Nat.zero_add] at p; exact p))
theorem compGo2_inv {g : DTG} {C : DTT} {I2 : DTI} {g2 : DTG} {C2 : DTT} {E : DTE} {q : List D → EnvD → Prop} (Pv : Nat → List D → EnvD → Prop) : ∀ (ds acc : List D) (ρ : EnvD) (k : Nat), Pv k acc ρ →
    (∀ i d acc ρ, ds[i]? = some d → Pv (k + i) acc ρ → g d ρ fun ρ1 => C ρ1 fun b ρ2 => if b = true then I2 ρ2 fun ds2 ρ3 => compGo g2 C2 E ds2 acc ρ3 (Pv (k + i + 1)) else Pv (k + i + 1) acc ρ2) → (∀ acc ρ, Pv (k + ds.length) acc ρ → q acc ρ) → compGo2 g C I2 g2 C2 E ds acc ρ q
  | [], acc, ρ, k, h0, _, hd => hd acc ρ (by simpa using h0)
  | d :: ds, acc, ρ, k, h0, hs, hd => by
    refine ⟨Pv (k + 1), fun acc' ρ' hp => compGo2_inv Pv ds acc' ρ' (k + 1) hp (fun i d' acc2 ρ2 e p => ?_) (fun acc2 ρ2 p => hd acc2 ρ2 ?_), hs 0 d acc ρ rfl h0⟩
    · have := hs (i + 1) d' acc2 ρ2 (by simpa using e) (by rw [← Nat.add_assoc, Nat.add_right_comm]; exact p)
      rw [← Nat.add_assoc, Nat.add_right_comm k i 1] at this
      exact this
    · rw [List.length_cons, ← Nat.add_assoc, Nat.add_right_comm]
      exact p
theorem compI2 {g : DTG} {C : DTT} {I2 : DTI} {g2 : DTG} {C2 : DTT} {E : DTE} {q : List D → EnvD → Prop} {ds acc : List D} {ρ : EnvD} (Pv : Nat → List D → EnvD → Prop) (h0 : Pv 0 acc ρ)
    (hs : ∀ i d acc ρ, ds[i]? = some d → Pv i acc ρ → g d ρ fun ρ1 => C ρ1 fun b ρ2 => if b = true then I2 ρ2 fun ds2 ρ3 => compGo g2 C2 E ds2 acc ρ3 (Pv (i + 1)) else Pv (i + 1) acc ρ2) (hd : ∀ acc ρ, Pv ds.length acc ρ → q acc ρ) : compGo2 g C I2 g2 C2 E ds acc ρ q :=
  compGo2_inv Pv ds acc ρ 0 h0 (fun i d acc ρ e p => by rw [Nat.zero_add] at p ⊢; exact hs i d acc ρ e p) (fun acc ρ p => hd acc ρ (by rw [Nat.zero_add] at p; exact p))
noncomputable def sd_law : List D → (D → Prop) → Prop := fun ds q => ∃ ns, ds = [.scr ns] ∧ ns.length ≤ 63 ∧ q (.bl true)
theorem spLaw {K : PySem.W.Frag} {H : Hp} {a : Addr} {ns : List Int} (hl : ns.length ≤ 63) (hO : Only H) (hS : SqL K H a (ns.map V.int)) : spP K 1 .cl sd_law [.ref a] H (fun v _ => v = .bl true) fun _ _ _ => False := by
  refine ⟨fun _ => False, [.scr ns], fun d => d = .bl true, rfl, fun _ z => z.elim, ?_, ⟨ns, rfl, hl, rfl⟩, fun v H' d fp sm vr hq => ?_⟩
  · simp only [Reps, Rep]
    refine ⟨_, [], rfl, ⟨a, rfl, ?_⟩, rfl⟩
    rcases hS with (h | ⟨o, h⟩) | h
    · rcases hO a with z | ⟨o, xs, z⟩ <;> (rw [z] at h; cases h)
    · exact .inl ⟨o, h⟩
    · exact .inr h
  · subst hq
    exact rep_bl vr.2
end L2
namespace L2
open PySem PySem.Spec PyProof.Rows PySem.Builtin.Str
theorem slice_cps (x : Str) (lo hi : Option Int) : (Txt.slice x lo hi).cps.toList = (x.cps.toList.drop (HT.sIx x.length 0 lo)).take (HT.sIx x.length x.length hi - HT.sIx x.length 0 lo) := by
  have e1 : strSliceIndices lo hi 1 x.length = sliceRange ((HT.sIx x.length 0 lo : Nat) : Int) ((HT.sIx x.length x.length hi : Nat) : Int) 1 := by
    unfold strSliceIndices
    simp only [show ((1 : Int) > 0) = True from by simp, if_true]
    congr 1
    · cases lo with
      | none => simp [HT.sIx]
      | some i =>
        simp only [HT.sIx]
        by_cases h : i < 0
        · simp only [h, if_true]; omega
        · simp only [h, if_false]; omega
    · cases hi with
      | none => simp [HT.sIx]
      | some i =>
        simp only [HT.sIx]
        by_cases h : i < 0
        · simp only [h, if_true]; omega
        · simp only [h, if_false]; omega
  have e2 : (strSliceIndices lo hi 1 x.length).filterMap (x.cps[·]?) = (x.cps.toList.drop (HT.sIx x.length 0 lo)).take (HT.sIx x.length x.length hi - HT.sIx x.length 0 lo) := by
    rw [e1, sliceRange_one, pick_run]
  have hl : x.cps.toList.length = x.length := by simp [Str.length]
  unfold Txt.slice
  by_cases hc : ((1 : Int) == 1 && (strSliceIndices lo hi 1 x.length).length == x.length) = true
  · rw [if_pos hc]
    have hc2 : (strSliceIndices lo hi 1 x.length).length = x.length := by simpa using hc
    rw [e1, sliceRange_one, List.length_map, List.length_range] at hc2
    have a0 := HT.sIx_le x.length 0 (Nat.zero_le _) lo
    have b0 := HT.sIx_le x.length x.length (Nat.le_refl _) hi
    rw [List.take_of_length_le (by rw [List.length_drop, hl]; omega)]
    by_cases ha : HT.sIx x.length 0 lo = 0
    · rw [ha]; rfl
    · have : x.length = 0 := by omega
      have : x.cps.toList = [] := List.length_eq_zero_iff.mp (by omega)
      rw [this]; simp
  · rw [if_neg hc]
    simp only []
    rw [← e2]
theorem slice_mem {x : Str} {lo hi : Option Int} {c : Nat} (h : c ∈ (Txt.slice x lo hi).cps.toList) : c ∈ x.cps.toList := by
  rw [slice_cps] at h
  exact List.mem_of_mem_drop (List.mem_of_mem_take h)
theorem str_len (x : Str) : x.length = x.cps.toList.length := by simp [Str.length]
theorem str_app_len (x y : Str) : (x ++ y).length = x.length + y.length := by
  show (x.cps ++ y.cps).size = _
  rw [Array.size_append]; rfl
theorem str_app_cps (x y : Str) : (x ++ y).cps.toList = x.cps.toList ++ y.cps.toList := by
  show (x.cps ++ y.cps).toList = _
  simp
theorem slice_len_from (x : Str) (k : Nat) (h : k ≤ x.length) : (Txt.slice x (some (k : Int)) none).length = x.length - k := by
  rw [str_len, slice_cps, HT.sIx_nat, HT.sIx_none, List.length_take, List.length_drop, ← str_len]
  omega
theorem slice_len_to (x : Str) (k : Nat) : (Txt.slice x none (some (k : Int))).length = min k x.length := by
  rw [str_len, slice_cps, HT.sIx_nat, HT.sIx_none, List.length_take, List.length_drop, ← str_len]
  omega
theorem compY {g : DTG} {E : DTE} {q : List D → EnvD → Prop} {ds acc : List D} {ρ : EnvD} (Pv : Nat → List D → EnvD → Prop) (h0 : Pv 0 acc ρ)
    (hs : ∀ i d acc ρ, ds[i]? = some d → Pv i acc ρ → g d ρ fun ρ1 => E ρ1 fun z ρ3 => acc.length < sizeLine ∧ Pv (i + 1) (acc ++ [z]) ρ3) (hd : ∀ acc ρ, Pv ds.length acc ρ → q acc ρ) : compGo g eYes E ds acc ρ q :=
  compI (g := g) (C := eYes) (E := E) (ds := ds) Pv h0 (fun i d acc ρ e p => by
    have e2 : (fun ρ1 => eYes ρ1 fun b ρ2 => if b = true then E ρ2 fun z ρ3 => acc.length < sizeLine ∧ Pv (i + 1) (acc ++ [z]) ρ3 else Pv (i + 1) acc ρ2) = fun ρ1 => E ρ1 fun z ρ3 => acc.length < sizeLine ∧ Pv (i + 1) (acc ++ [z]) ρ3 := by
      funext ρ1
      simp only [eYes, if_true]
    rw [e2]
    exact hs i d acc ρ e p) hd
theorem compY2 {g : DTG} {I2 : DTI} {g2 : DTG} {C2 : DTT} {E : DTE} {q : List D → EnvD → Prop} {ds acc : List D} {ρ : EnvD} (Pv : Nat → List D → EnvD → Prop) (h0 : Pv 0 acc ρ)
    (hs : ∀ i d acc ρ, ds[i]? = some d → Pv i acc ρ → g d ρ fun ρ1 => I2 ρ1 fun ds2 ρ3 => compGo g2 C2 E ds2 acc ρ3 (Pv (i + 1))) (hd : ∀ acc ρ, Pv ds.length acc ρ → q acc ρ) : compGo2 g eYes I2 g2 C2 E ds acc ρ q :=
  compI2 (g := g) (C := eYes) (I2 := I2) (g2 := g2) (C2 := C2) (E := E) (ds := ds) Pv h0 (fun i d acc ρ e p => by
    have e2 : (fun ρ1 => eYes ρ1 fun b ρ2 => if b = true then I2 ρ2 fun ds2 ρ3 => compGo g2 C2 E ds2 acc ρ3 (Pv (i + 1)) else Pv (i + 1) acc ρ2) = fun ρ1 => I2 ρ1 fun ds2 ρ3 => compGo g2 C2 E ds2 acc ρ3 (Pv (i + 1)) := by
      funext ρ1
      simp only [eYes, if_true]
    rw [e2]
    exact hs i d acc ρ e p) hd
end L2
namespace L2
open PySem PySem.Spec PyProof.Rows
noncomputable def keyD : Key → D
  | .inl i => .int i
  | .inr x => .str x
theorem keyD_rep {K : PySem.W.Frag} {S : Addr → Prop} {H : Hp} {k : Key} {v : V} : Rep K S H (keyD k) v ↔ v = kV k := by
  cases k <;> simp only [keyD, Rep] <;> exact Iff.rfl
theorem room1 {k : Nat} {A : Around} (hr : Room k A) : A.units + 1 < cLine := Nat.lt_of_le_of_lt (Nat.add_le_add_left (by decide : 1 ≤ 64) _) hr.units
theorem call_sortS {X : Cx} : CallR X (.builtin "sorted") (fun xs H Q => ∃ a ss, xs = [.ref a] ∧ SqL X.K H a (ss.map V.str) ∧ ss.length < 64 ∧ ∀ ss' : List Str, ss'.Perm ss → sortedS ss' = true → ∀ p, H p = none → Q (.ref p) (upd H p (.lst (ss'.map V.str)))) := by
  intro pins s σ H xs us Q I r h
  obtain ⟨a, ss, rfl, hq, h64, q⟩ := h
  obtain ⟨u, rfl, rx⟩ := vals1 r
  cases rx
  obtain ⟨its, rv, pl, hz⟩ := I.list hq
  have hS : ∀ {ss : List Str} {its : List Value}, Vals (ss.map V.str) its → StrsAre its ss := by
    intro ss
    induction ss with
    | nil => intro its r; rw [List.map_nil] at r; cases r; exact .nil
    | cons x t ih =>
      intro its r
      rw [List.map_cons] at r
      cases r with
      | cons h r => obtain ⟨tk, rfl⟩ := h; exact .cons _ _ (ih r)
  have hV : ∀ {ss : List Str} {its : List Value}, StrsAre its ss → Vals (ss.map V.str) its := by
    intro ss its h
    induction h with
    | nil => exact .nil
    | cons y t h ih => exact .cons ⟨_, rfl⟩ ih
  have hlen : its.length = ss.length := by rw [← rv.length, List.length_map]
  refine sorted_strs pl.isList (hS rv) (by omega) fun out ss' h1 h2 h3 => ?_
  obtain ⟨e, he⟩ := sortedAll_at s.heap its out
  have hl' : (ss'.map V.str).length ≤ sizeLine := by rw [List.length_map, h2.length_eq]; exact small_line (by omega)
  exact ⟨.ref (s.heap.objs.size + 1), _, I.laid (t' := s.toks) (fun b o z => sortedAll_old z) (Nat.le_succ _) (show ObjOk X.prog X.w _ _ _ (.lst (ss'.map V.str)) from ⟨hl', out.toList, e, hV h1, by simpa [seqObj] using he⟩), rfl, q ss' h2 h3 _ (I.hok.fresh (Nat.le_succ _))⟩
noncomputable abbrev cSorted : List D → (D → Prop) → Prop := fun ds q => ∃ ss, ds = [.lst (ss.map D.str)] ∧ ss.length < 64 ∧ ∀ ss' : List Str, ss'.Perm ss → sortedS ss' = true → q (.lst (ss'.map D.str))
theorem reps_strs {K : PySem.W.Frag} {S : Addr → Prop} {H : Hp} : ∀ {ss : List Str} {vs : List V}, Reps K S H (ss.map D.str) vs ↔ vs = ss.map V.str
  | [], vs => by simp only [List.map_nil, Reps]
  | x :: t, vs => by
    simp only [List.map_cons, Reps, Rep]
    constructor
    · rintro ⟨v, r, rfl, rfl, h⟩
      rw [reps_strs.mp h]
    · rintro rfl
      exact ⟨_, _, rfl, rfl, reps_strs.mpr rfl⟩
theorem dc_sorted {X : Cx} : DCall X (.ow 1) (.builtin "sorted") cSorted := by
  refine ⟨_, call_sortS, fun S H ds vs q Q rv ⟨ss, e, hl, hq⟩ k => ?_⟩
  subst e
  obtain ⟨v, rfl, r⟩ := reps1 rv
  simp only [Rep] at r
  obtain ⟨a, xs, rfl, _, h1, r1⟩ := r
  rw [reps_strs] at r1
  subst r1
  exact ⟨a, ss, rfl, .inl h1, hl, fun ss' p1 p2 p hp => k _ _ _ [p] (.new hp) (vres_lst (reps_strs.mpr rfl) hp) (hq ss' p1 p2)⟩
section
variable {prog : Program} {w : World} {A : Around} {E : Value → Shared → Prop} {s : Shared} {z ti to a1 a2 t1 t2 : Addr} {k : Nat} {xs ys : Array Value}
theorem extT {h h' : Heap} {it b t : Addr} {i : Nat} (x : h.IsTupleIter it t i) (e : Heap.ExtBut b h h') (n : it ≠ b) : h'.IsTupleIter it t i := IsTupleIter.at' x fun o q => e it o n q
theorem zipT_item {x y p q : Value} {Q : Value → Shared → Prop} (D : ZipApart z ti to a1 a2 t1 t2) (zz : IsZip s.heap z ti to .none) (pI : IsPair s.heap ti (.ref a1) (.ref a2)) (pO : IsPair s.heap to p q) (i1 : s.heap.IsTupleIter a1 t1 k) (i2 : s.heap.IsTupleIter a2 t2 k)
    (u1 : s.heap.IsTuple t1 xs) (u2 : s.heap.IsTuple t2 ys) (hx : xs[k]? = some x) (hy : ys[k]? = some y)
    (hQ : ∀ h', IsZip h' z ti to (rawInt s.heap.objs.size) → IsPair h' to x y → h'.IsTupleIter a1 t1 (k + 1) → h'.IsTupleIter a2 t2 (k + 1) → IsPair h' s.heap.objs.size x y →
      (∀ c o, c ∉ [z, to, a1, a2] → s.heap.get? c = some o → h'.get? c = some o) → Q (.ref s.heap.objs.size) { s with heap := h' }) :
    wpAny (model prog w) A (Builtin.«zip.__next__» ⟨[.ref z], []⟩) (fun f s' => ∃ v, f = .done (.ret v) ∧ Q v s') E s := by
  show wpAny _ A (field (.ref z) 2 >>= _) _ _ _
  refine wpAny_bind (wpAny_field zz rfl (x := .bool false) rfl ?_); show wpAny _ A (field (.ref z) 3 >>= _) _ _ _
  refine wpAny_bind (wpAny_field zz rfl (x := .ref ti) rfl ?_); refine wpAny_bind (wpAny_seqItems pI rfl ?_)
  show wpAny _ A (Builtin.SmallTypes.ownedTupleIsFree (.ref z) >>= _) _ _ _
  refine wpAny_bind ?_; unfold Builtin.SmallTypes.ownedTupleIsFree
  refine wpAny_bind (wpAny_field zz rfl (x := .none) rfl (wpAny_pure ?_)); simp only [if_true]
  refine wpAny_bind (wpAny_rule ?_); refine wpAny_bind (wpAny_field zz rfl (x := .ref to) rfl ?_)
  refine wpAny_bind (wpAny_setField_rec zz (by simp) fun g1 z1 b1 => ?_)
  replace z1 : IsZip g1 z ti to .ellipsis := z1
  refine wpAny_bind ?_; simp only [List.zipIdx_cons, List.zipIdx_nil, List.forIn_cons, List.forIn_nil]
  refine wpAny_bind (wpAny_bind (wpAny_onRaise ?_)); show wpAny _ _ (Builtin.SmallTypes.nextOf (.ref a1) >>= _) _ _ _
  refine wpAny_bind (nextOf_tup_item (extT i1 b1.extBut D.i1z) (u1.extBut b1.extBut D.l1z) hx fun g2 j1 b2 => wpAny_pure ?_)
  have o2 : IsPair g2 to p q := b2.extBut _ _ D.TOi1 (b1.extBut _ _ D.TOz pO)
  refine wpAny_bind (wpAny_seqItems o2 rfl ?_); refine wpAny_bind (wpAny_updateSeq_pair o2 fun g3 o3 b3 => ?_)
  replace o3 : IsPair g3 to x q := o3
  refine wpAny_bind (wpAny_letGo (wpAny_pure ?_)); refine wpAny_bind (wpAny_bind (wpAny_onRaise ?_))
  show wpAny _ _ (Builtin.SmallTypes.nextOf (.ref a2) >>= _) _ _ _
  refine wpAny_bind (nextOf_tup_item (extT (extT (extT i2 b1.extBut D.i2z) b2.extBut D.i12.symm) b3.extBut D.TOi2.symm) (((u2.extBut b1.extBut D.l2z).extBut b2.extBut D.l2i1).extBut b3.extBut D.l2TO) hy fun g4 j2 b4 => wpAny_pure ?_)
  have o4 : IsPair g4 to x q := b4.extBut _ _ D.TOi2 o3
  refine wpAny_bind (wpAny_seqItems o4 rfl ?_); refine wpAny_bind (wpAny_updateSeq_pair o4 fun g5 o5 b5 => ?_)
  replace o5 : IsPair g5 to x y := o5
  refine wpAny_bind (wpAny_letGo (wpAny_pure (wpAny_pure ?_))); refine wpAny_bind (wpAny_seqItems o5 rfl ?_); refine wpAny_bind (wpAny_newTuple ?_)
  have sz : g5.objs.size = s.heap.objs.size := by rw [b5.1, b4.1, b3.1, b2.1, b1.1]
  have z5 : IsZip g5 z ti to .ellipsis := b5.extBut _ _ D.TOz.symm (b4.extBut _ _ D.i2z.symm (b3.extBut _ _ D.TOz.symm (b2.extBut _ _ D.i1z.symm z1)))
  have k5 : ∀ c o, c ∉ [z, to, a1, a2] → s.heap.get? c = some o → g5.get? c = some o := fun c o hc e => by
    simp only [List.mem_cons, List.not_mem_nil, or_false, not_or] at hc
    exact b5.extBut _ _ hc.2.1 (b4.extBut _ _ hc.2.2.2 (b3.extBut _ _ hc.2.1 (b2.extBut _ _ hc.2.2.1 (b1.extBut _ _ hc.1 e))))
  have j1' : g5.IsTupleIter a1 t1 (k + 1) := extT (extT (extT j1 b3.extBut D.TOi1.symm) b4.extBut D.i12) b5.extBut D.TOi1.symm
  have j2' : g5.IsTupleIter a2 t2 (k + 1) := extT j2 b5.extBut D.TOi2.symm
  have zl : z < g5.objs.size := Heap.lt_size z5
  show wpAny _ A (Builtin.SmallTypes.ownedTupleHandOut (.ref z) (.ref g5.objs.size) >>= _) _ _ _
  refine wpAny_bind ?_; unfold Builtin.SmallTypes.ownedTupleHandOut
  have z6 : IsZip (g5.push { cls := .type "tuple", data := .seq #[x, y] }) z ti to .ellipsis := Heap.get?_push_of_some _ z5
  refine wpAny_bind (wpAny_setField_rec z6 (by simp) fun g7 z7 b7 => ?_)
  replace z7 : IsZip g7 z ti to (rawInt g5.objs.size) := z7
  refine wpAny_setField_rec z7 (by simp) fun g8 z8 b8 => ?_
  replace z8 : IsZip g8 z ti to (rawInt g5.objs.size) := z8
  have up : ∀ c o, c ≠ z → g5.get? c = some o → g8.get? c = some o := fun c o n e => b8.extBut _ _ n (b7.extBut _ _ n (Heap.get?_push_of_some _ e))
  have nt : IsPair g8 g5.objs.size x y := b8.extBut _ _ (Nat.ne_of_gt zl) (b7.extBut _ _ (Nat.ne_of_gt zl) (Heap.get?_push_size _ rfl))
  rw [sz] at z8 nt
  refine wpAny_pure ⟨_, rfl, ?_⟩
  show Q (.ref g5.objs.size) _
  rw [sz]
  exact hQ g8 z8 (up _ _ D.TOz o5) (IsTupleIter.at' j1' fun o e => up _ o D.i1z e) (IsTupleIter.at' j2' fun o e => up _ o D.i2z e) nt fun c o hc e => up c o (fun q => hc (by simp [q])) (k5 c o hc e)
theorem zipT_end {p q : Value} {Q : Fin → Shared → Prop} (hh : A.handled = none) (D : ZipApart z ti to a1 a2 t1 t2) (zz : IsZip s.heap z ti to .none) (pI : IsPair s.heap ti (.ref a1) (.ref a2)) (pO : IsPair s.heap to p q) (i1 : s.heap.IsTupleIter a1 t1 k) (i2 : s.heap.IsTupleIter a2 t2 k)
    (u1 : s.heap.IsTuple t1 xs) (u2 : s.heap.IsTuple t2 ys) (hend : xs[k]? = none ∨ ys[k]? = none)
    (hE : ∀ h' e, (∀ c o, c ∉ [z, to, a1, a2] → s.heap.get? c = some o → h'.get? c = some o) → (∃ o, h'.get? e = some o ∧ o.cls = .type "StopIteration") → E (.ref e) { s with heap := h' }) :
    wpAny (model prog w) A (Builtin.«zip.__next__» ⟨[.ref z], []⟩) Q E s := by
  show wpAny _ A (field (.ref z) 2 >>= _) _ _ _
  refine wpAny_bind (wpAny_field zz rfl (x := .bool false) rfl ?_); show wpAny _ A (field (.ref z) 3 >>= _) _ _ _
  refine wpAny_bind (wpAny_field zz rfl (x := .ref ti) rfl ?_); refine wpAny_bind (wpAny_seqItems pI rfl ?_)
  show wpAny _ A (Builtin.SmallTypes.ownedTupleIsFree (.ref z) >>= _) _ _ _
  refine wpAny_bind ?_; unfold Builtin.SmallTypes.ownedTupleIsFree
  refine wpAny_bind (wpAny_field zz rfl (x := .none) rfl (wpAny_pure ?_)); simp only [if_true]
  refine wpAny_bind (wpAny_rule ?_); refine wpAny_bind (wpAny_field zz rfl (x := .ref to) rfl ?_)
  refine wpAny_bind (wpAny_setField_rec zz (by simp) fun g1 z1 b1 => ?_)
  replace z1 : IsZip g1 z ti to .ellipsis := z1
  refine wpAny_bind ?_; simp only [List.zipIdx_cons, List.zipIdx_nil, List.forIn_cons, List.forIn_nil]
  refine wpAny_bind (wpAny_bind (wpAny_onRaise ?_)); show wpAny _ _ (Builtin.SmallTypes.nextOf (.ref a1) >>= _) _ _ _
  cases hx : xs[k]? with
  | none =>
    refine wpAny_bind (nextOf_tup_end hh (extT i1 b1.extBut D.i1z) (u1.extBut b1.extBut D.l1z) hx fun g2 e b2 he => ?_)
    obtain ⟨oe, hoe, hce⟩ := he
    have z2 : IsZip g2 z ti to .ellipsis := b2 _ _ D.i1z.symm z1
    have ne : e ≠ z := fun q => by rw [q, z2] at hoe; cases hoe; simp at hce
    refine wpAny_setField_rec z2 (by simp) fun g3 _ b3 => hE g3 e (fun c o hc r => ?_) ⟨oe, b3.extBut _ _ ne hoe, hce⟩
    simp only [List.mem_cons, List.not_mem_nil, or_false, not_or] at hc
    exact b3.extBut _ _ hc.1 (b2 _ _ hc.2.2.1 (b1.extBut _ _ hc.1 r))
  | some x =>
    have hy : ys[k]? = none := by
      rcases hend with h | h
      · rw [hx] at h; cases h
      · exact h
    refine wpAny_bind (nextOf_tup_item (extT i1 b1.extBut D.i1z) (u1.extBut b1.extBut D.l1z) hx fun g2 j1 b2 => wpAny_pure ?_)
    have o2 : IsPair g2 to p q := b2.extBut _ _ D.TOi1 (b1.extBut _ _ D.TOz pO)
    refine wpAny_bind (wpAny_seqItems o2 rfl ?_); refine wpAny_bind (wpAny_updateSeq_pair o2 fun g3 o3 b3 => ?_)
    refine wpAny_bind (wpAny_letGo (wpAny_pure ?_)); refine wpAny_bind (wpAny_bind (wpAny_onRaise ?_))
    show wpAny _ _ (Builtin.SmallTypes.nextOf (.ref a2) >>= _) _ _ _
    refine wpAny_bind (nextOf_tup_end hh (extT (extT (extT i2 b1.extBut D.i2z) b2.extBut D.i12.symm) b3.extBut D.TOi2.symm) (((u2.extBut b1.extBut D.l2z).extBut b2.extBut D.l2i1).extBut b3.extBut D.l2TO) hy fun g4 e b4 he => ?_)
    obtain ⟨oe, hoe, hce⟩ := he
    have z4 : IsZip g4 z ti to .ellipsis := b4 _ _ D.i2z.symm (b3.extBut _ _ D.TOz.symm (b2.extBut _ _ D.i1z.symm z1))
    have ne : e ≠ z := fun q => by rw [q, z4] at hoe; cases hoe; simp at hce
    refine wpAny_setField_rec z4 (by simp) fun g5 _ b5 => hE g5 e (fun c o hc r => ?_) ⟨oe, b5.extBut _ _ ne hoe, hce⟩
    simp only [List.mem_cons, List.not_mem_nil, or_false, not_or] at hc
    exact b5.extBut _ _ hc.1 (b4 _ _ hc.2.2.2 (b3.extBut _ _ hc.2.1 (b2.extBut _ _ hc.2.2.1 (b1.extBut _ _ hc.1 r))))
end
theorem meets_zipT (l m : Addr) (xs ys : Array Value) :
    Meets (Builtin.«zip.__new__» ⟨[.type "zip", .ref l, .ref m], []⟩) (fun _ R s => s.heap.IsTuple l xs ∧ s.heap.IsTuple m ys ∧
      ∀ h', IsZip h' (s.heap.objs.size + 4) (s.heap.objs.size + 2) (s.heap.objs.size + 3) .none → IsPair h' (s.heap.objs.size + 2) (.ref s.heap.objs.size) (.ref (s.heap.objs.size + 1)) → IsPair h' (s.heap.objs.size + 3) .none .none →
        h'.IsTupleIter s.heap.objs.size l 0 → h'.IsTupleIter (s.heap.objs.size + 1) m 0 → (∀ c o, s.heap.get? c = some o → h'.get? c = some o) → R (.ok (.ret (.ref (s.heap.objs.size + 4)))) { s with heap := h' }) :=
  .of_wp fun prog w A R s h => by
    obtain ⟨hp, g, d, tk, os⟩ := s; obtain ⟨u1, u2, h⟩ := h
    have hsub := sub_zip
    have U1 : Heap.IsTuple (Shared.heap ⟨hp, g, d, tk, os⟩) l xs := u1
    have U2 : Heap.IsTuple (Shared.heap ⟨hp.push { cls := .type "tuple_iterator", data := .fields #[.ref l, .int 0 0] }, g, d, tk, os⟩) m ys := by
      obtain ⟨o, ho, r⟩ := u2
      exact ⟨o, Heap.get?_push_of_some _ ho, r⟩
    wp_walk using wpAny_pyIter_tuple U1, wpAny_pyIter_tuple U2
    refine ⟨_, rfl, ?_⟩
    have n1 : (hp.push { cls := .type "tuple_iterator", data := .fields #[.ref l, .int 0 0] }).objs.size = hp.objs.size + 1 := Heap.size_push ..
    have n2 : ((hp.push { cls := .type "tuple_iterator", data := .fields #[.ref l, .int 0 0] }).push { cls := .type "tuple_iterator", data := .fields #[.ref m, .int 0 0] }).objs.size = hp.objs.size + 2 := by rw [Heap.size_push, n1]
    have n3 : (((hp.push { cls := .type "tuple_iterator", data := .fields #[.ref l, .int 0 0] }).push { cls := .type "tuple_iterator", data := .fields #[.ref m, .int 0 0] }).push { cls := .type "tuple", data := .seq #[.ref hp.objs.size, .ref (hp.push { cls := .type "tuple_iterator", data := .fields #[.ref l, .int 0 0] }).objs.size] }).objs.size = hp.objs.size + 3 := by rw [Heap.size_push, n2]
    have n4 : ((((hp.push { cls := .type "tuple_iterator", data := .fields #[.ref l, .int 0 0] }).push { cls := .type "tuple_iterator", data := .fields #[.ref m, .int 0 0] }).push { cls := .type "tuple", data := .seq #[.ref hp.objs.size, .ref (hp.push { cls := .type "tuple_iterator", data := .fields #[.ref l, .int 0 0] }).objs.size] }).push { cls := .type "tuple", data := .seq #[.none, .none] }).objs.size = hp.objs.size + 4 := by rw [Heap.size_push, n3]
    have fin := h ((((( hp.push { cls := .type "tuple_iterator", data := .fields #[.ref l, .int 0 0] }).push { cls := .type "tuple_iterator", data := .fields #[.ref m, .int 0 0] }).push { cls := .type "tuple", data := .seq #[.ref hp.objs.size, .ref (hp.push { cls := .type "tuple_iterator", data := .fields #[.ref l, .int 0 0] }).objs.size] }).push { cls := .type "tuple", data := .seq #[.none, .none] }).push
      { cls := .type "zip", data := .fields #[.none, .bool false, .bool false, .ref ((hp.push { cls := .type "tuple_iterator", data := .fields #[.ref l, .int 0 0] }).push { cls := .type "tuple_iterator", data := .fields #[.ref m, .int 0 0] }).objs.size,
        .ref (((hp.push { cls := .type "tuple_iterator", data := .fields #[.ref l, .int 0 0] }).push { cls := .type "tuple_iterator", data := .fields #[.ref m, .int 0 0] }).push { cls := .type "tuple", data := .seq #[.ref hp.objs.size, .ref (hp.push { cls := .type "tuple_iterator", data := .fields #[.ref l, .int 0 0] }).objs.size] }).objs.size] })
      (by
        have q := Heap.get?_push_size ((((hp.push { cls := .type "tuple_iterator", data := .fields #[.ref l, .int 0 0] }).push { cls := .type "tuple_iterator", data := .fields #[.ref m, .int 0 0] }).push { cls := .type "tuple", data := .seq #[.ref hp.objs.size, .ref (hp.push { cls := .type "tuple_iterator", data := .fields #[.ref l, .int 0 0] }).objs.size] }).push { cls := .type "tuple", data := .seq #[.none, .none] })
          (o := { cls := .type "zip", data := .fields #[.none, .bool false, .bool false, .ref (hp.objs.size + 2), .ref (hp.objs.size + 3)] }) rfl
        rw [n4] at q
        rw [n2, n3]
        exact q)
      (by
        have q := Heap.get?_push_size ((hp.push { cls := .type "tuple_iterator", data := .fields #[.ref l, .int 0 0] }).push { cls := .type "tuple_iterator", data := .fields #[.ref m, .int 0 0] }) (o := { cls := .type "tuple", data := .seq #[.ref hp.objs.size, .ref (hp.objs.size + 1)] }) rfl
        rw [n2] at q
        refine Heap.get?_push_of_some _ (Heap.get?_push_of_some _ ?_)
        rw [n1]
        exact q)
      (by
        have q := Heap.get?_push_size (((hp.push { cls := .type "tuple_iterator", data := .fields #[.ref l, .int 0 0] }).push { cls := .type "tuple_iterator", data := .fields #[.ref m, .int 0 0] }).push { cls := .type "tuple", data := .seq #[.ref hp.objs.size, .ref (hp.push { cls := .type "tuple_iterator", data := .fields #[.ref l, .int 0 0] }).objs.size] }) (o := { cls := .type "tuple", data := .seq #[.none, .none] }) rfl
        rw [n3] at q
        exact Heap.get?_push_of_some _ q)
      ⟨_, Heap.get?_push_of_some _ (Heap.get?_push_of_some _ (Heap.get?_push_of_some _ (Heap.get?_push_of_some _ (Heap.get?_push_size _ rfl)))), rfl, rfl⟩
      (by
        have q := Heap.get?_push_size (hp.push { cls := .type "tuple_iterator", data := .fields #[.ref l, .int 0 0] }) (o := { cls := .type "tuple_iterator", data := .fields #[.ref m, .int 0 0] }) rfl
        rw [n1] at q
        exact ⟨_, Heap.get?_push_of_some _ (Heap.get?_push_of_some _ (Heap.get?_push_of_some _ q)), rfl, rfl⟩)
      (fun c o x => Heap.get?_push_of_some _ (Heap.get?_push_of_some _ (Heap.get?_push_of_some _ (Heap.get?_push_of_some _ (Heap.get?_push_of_some _ x)))))
    dsimp only at fin
    rw [← n4] at fin
    exact fin
theorem call_zipT {prog : Program} {w : World} {A : Around} {E : Value → Shared → Prop} {s : Shared} {l m : Addr} {xs ys : Array Value} {Q : Value → Shared → Prop} (u1 : s.heap.IsTuple l xs) (u2 : s.heap.IsTuple m ys)
    (h : ∀ h', IsZip h' (s.heap.objs.size + 4) (s.heap.objs.size + 2) (s.heap.objs.size + 3) .none → IsPair h' (s.heap.objs.size + 2) (.ref s.heap.objs.size) (.ref (s.heap.objs.size + 1)) → IsPair h' (s.heap.objs.size + 3) .none .none →
      h'.IsTupleIter s.heap.objs.size l 0 → h'.IsTupleIter (s.heap.objs.size + 1) m 0 → (∀ c o, s.heap.get? c = some o → h'.get? c = some o) → Q (.ref (s.heap.objs.size + 4)) { s with heap := h' }) :
    wpAny (model prog w) A (call (.type "zip") [.ref l, .ref m]) Q E s := by
  refine callType_new F.called_zip (by decide) (F.typeCall_zip_2 _ _) (F.newCall_zip_2 _ _) (fun obj => F.args_object_init_3 obj _ _) F.entry_zip_new (meets_zipT l m xs ys) ⟨u1, u2, fun h' c1 c2 c3 c4 c5 c6 => ?_⟩
  show _ ∧ _
  exact ⟨⟨_, c1, rfl⟩, h h' c1 c2 c3 c4 c5 c6⟩
theorem Inv.turnedL {X : Cx} {pins : List (Addr × Obj)} {σ : St} {H : Hp} {s : Shared} {h' : Heap} {tk : Nat} {wr : List Addr} (I : Inv X pins σ H s) (k : ∀ b o, b ∉ wr → s.heap.get? b = some o → h'.get? b = some o) (hf : ∀ b ∈ wr, FpOk X pins H b) : Inv X pins σ H { s with heap := h', toks := tk } := by
  have nw : ∀ b u, H b = some u → b ∉ wr := fun b u e z => by rw [(hf b z).1] at e; cases e
  refine I.call (g' := s.gens) (d' := s.drawn) (ch := wr) ⟨fun b o e n _ hx => k b o hx e, fun b o e n _ hx => ⟨o.slots, k b o hx e⟩, fun b o e n hx => n, fun b o e hx => ⟨o, k b o hx e⟩, fun b ys e => e, fun b o u e => e, fun b ps e => ⟨#[], by rw [e]; simp⟩⟩
    (fun b u e => (I.hok b u e).stay (fun c v hc q => k c v (by
      rcases hc with rfl | hc
      · exact nw _ _ e
      · exact nw _ _ hc) q) (fun _ q => q) fun _ _ q => q) I.bare fun b hb => ?_
  obtain ⟨_, f1, _, f3, f4, f5⟩ := hf b hb
  exact ⟨f3, f1, f4, f5⟩
noncomputable def Itz (K : PySem.W.Frag) (t1 t2 : Addr) : It :=
  ⟨fun i H => ∃ xs ys x y, SqT K H t1 xs ∧ SqT K H t2 ys ∧ xs[i]? = some x ∧ ys[i]? = some y,
   fun i H v H' => ∃ T x y, H T = none ∧ (∀ xs, SqT K H t1 xs → xs[i]? = some x) ∧ (∀ ys, SqT K H t2 ys → ys[i]? = some y) ∧ v = .ref T ∧ H' = upd H T (.tup [x, y]),
   fun i H => ∃ xs ys, SqT K H t1 xs ∧ SqT K H t2 ys ∧ (xs.length ≤ i ∨ ys.length ≤ i)⟩
theorem turn_zipT {P : Program} {w : World} {K : PySem.W.Frag} {elts : List Expr} {kk : Nat} {pos : Pos} {z ti to a1 a2 t1 t2 : Addr} (D : ZipApart z ti to a1 a2 t1 t2) : Turn P w K (.Tuple elts kk pos) (Itz K t1 t2) [z, ti, to, a1, a2] z
    (fun i h => IsZip h z ti to .none ∧ IsPair h ti (.ref a1) (.ref a2) ∧ (∃ p q, IsPair h to p q) ∧ h.IsTupleIter a1 t1 i ∧ h.IsTupleIter a2 t2 i) where
  mem := by simp
  obj := fun i h st b hb => by
    obtain ⟨zz, pI, ⟨p, q, pO⟩, ⟨o1, e1, c1, d1⟩, o2, e2, c2, d2⟩ := st
    simp only [List.mem_cons, List.not_mem_nil, or_false] at hb
    rcases hb with rfl | rfl | rfl | rfl | rfl
    · exact ⟨_, zz, fun v r => by cases r⟩
    · exact ⟨_, pI, fun v r => by cases r⟩
    · exact ⟨_, pO, fun v r => by cases r⟩
    · exact ⟨o1, e1, fun v r => by rw [d1] at r; cases r⟩
    · exact ⟨o2, e2, fun v r => by rw [d2] at r; cases r⟩
  keep := fun i h h' st k => by
    obtain ⟨zz, pI, ⟨p, q, pO⟩, i1, i2⟩ := st
    exact ⟨k _ (by simp) _ zz, k _ (by simp) _ pI, ⟨p, q, k _ (by simp) _ pO⟩, IsTupleIter.at' i1 fun o e => k _ (by simp) o e, IsTupleIter.at' i2 fun o e => k _ (by simp) o e⟩
  item := by
    intro X hP hw hK hc i pins s σ H E I hf st hg
    subst hP hw hK
    obtain ⟨xs, ys, x, y, q1, q2, hx, hy⟩ := hg
    obtain ⟨its, rv, p1, hz1⟩ := I.tuple q1
    obtain ⟨jts, rw', p2, hz2⟩ := I.tuple q2
    have p1 : s.heap.IsTuple t1 its.toArray := p1
    have p2 : s.heap.IsTuple t2 jts.toArray := p2
    obtain ⟨u, hu, ru⟩ := rv.get hx
    obtain ⟨v, hv, rv'⟩ := rw'.get hy
    obtain ⟨zz, pI, ⟨p, q, pO⟩, i1, i2⟩ := id st
    have hT : s.TypeIs (.ref z) "zip" := ⟨_, zz, rfl⟩
    unfold pyNext
    refine wpAny_bind (wpAny_attempt (wpAny_callSpecial?_slot (name := Str.ofString "__next__") hT F.slot_zip_next (wpAny_call_entry F.slot_zip_next hT F.entry_zip_next (zipT_item D zz pI pO i1 i2 p1 p2 (x := u) (y := v) (by simpa using hu) (by simpa using hv) fun h' c1 c2 c3 c4 c5 c6 => wpAny_pure ?_) (F.args_zip_next_1 _))))
    refine ⟨_, rfl, wpAny_letOwnedTupleGo_zip c1 fun g c7 c8 => ?_⟩
    have old : ∀ c o, s.heap.get? c = some o → c ≠ s.heap.objs.size := fun c o e => Nat.ne_of_lt (Heap.lt_size e)
    have k2 : ∀ b o, b ∉ [z, to, a1, a2] → s.heap.get? b = some o → g.get? b = some o := fun b o hb eo => c8.extBut _ _ (fun q => hb (by simp [q])) (c6 b o hb eo)
    have nz : s.heap.objs.size ≠ z := (old z _ zz).symm
    have hT3 : g.IsTuple s.heap.objs.size #[u, v] := ⟨_, c8.extBut _ _ nz c5, rfl, _, rfl⟩
    have I2 := I.turnedT (tk := s.toks) (wr := [z, to, a1, a2]) (xs := [x, y]) k2 (fun b hb => hf b (by
      simp only [List.mem_cons, List.not_mem_nil, or_false] at hb ⊢
      rcases hb with h | h | h | h <;> simp [h])) (Nat.le_refl _) hT3 (.cons ru (.cons rv' .nil)) (small_line (by show 2 ≤ 1000; decide))
    refine ⟨.ref s.heap.objs.size, _, I2, rfl, ⟨_, x, y, I.hok.fresh (Nat.le_refl _), fun zs h => by rw [I.tuple_inj h q1]; exact hx, fun zs h => by rw [I.tuple_inj h q2]; exact hy, rfl, rfl⟩, ⟨c7, ?_, ⟨_, _, c8.extBut _ _ D.TOz c2⟩, extT c3 c8.extBut D.i1z, extT c4 c8.extBut D.i2z⟩, fun b hb => ?_⟩
    · refine c8.extBut _ _ D.TIz (c6 ti _ ?_ pI)
      simp only [List.mem_cons, List.not_mem_nil, or_false, not_or]
      exact ⟨D.TIz, D.TITO, D.TIi1, D.TIi2⟩
    · obtain ⟨ob, eb⟩ : ∃ ob, s.heap.get? b = some ob := by
        obtain ⟨o1, e1, _⟩ := i1
        obtain ⟨o2, e2, _⟩ := i2
        simp only [List.mem_cons, List.not_mem_nil, or_false] at hb
        rcases hb with rfl | rfl | rfl | rfl | rfl
        · exact ⟨_, zz⟩
        · exact ⟨_, pI⟩
        · exact ⟨_, pO⟩
        · exact ⟨_, e1⟩
        · exact ⟨_, e2⟩
      rw [upd_ne (old b ob eb)]
      exact (hf b hb).1
  done := by
    intro X hP hw hK hc i pins s σ H E I hf st hg
    subst hP hw hK
    obtain ⟨xs, ys, q1, q2, hend⟩ := hg
    obtain ⟨its, rv, p1, hz1⟩ := I.tuple q1
    obtain ⟨jts, rw', p2, hz2⟩ := I.tuple q2
    have p1 : s.heap.IsTuple t1 its.toArray := p1
    have p2 : s.heap.IsTuple t2 jts.toArray := p2
    obtain ⟨zz, pI, ⟨p, q, pO⟩, i1, i2⟩ := id st
    have hT : s.TypeIs (.ref z) "zip" := ⟨_, zz, rfl⟩
    have hh : X.A.in1.handled = none := I.ok.hd hc
    have l1 := rv.length
    have l2 := rw'.length
    unfold pyNext
    refine wpAny_bind (wpAny_attempt (wpAny_callSpecial?_slot (name := Str.ofString "__next__") hT F.slot_zip_next (wpAny_call_entry F.slot_zip_next hT F.entry_zip_next (zipT_end hh D zz pI pO i1 i2 p1 p2 (hend.imp (fun h => by simp; omega) (fun h => by simp; omega)) fun h' e hk he => ?_) (F.args_zip_next_1 _))))
    obtain ⟨o, ho, hc'⟩ := he
    refine wpAny_bind (wpAny_isInstance (T := "StopIteration") (b := true) ⟨o, ho, hc'⟩ isSubtype_stop (wpAny_pure ⟨rfl, ?_⟩))
    exact I.turnedL (tk := s.toks) (wr := [z, to, a1, a2]) hk fun b hb => hf b (by
      simp only [List.mem_cons, List.not_mem_nil, or_false] at hb ⊢
      rcases hb with h | h | h | h <;> simp [h])
  self := fun _ _ _ _ _ st h => wpAny_pyIter_zip st.1 h
section
variable {X : Cx} {elts : List Expr} {kk : Nat} {tpos p pos : Pos}
theorem bt_zip : bootBuiltins "zip" = some (.type "zip") := by decide +kernel
noncomputable def iZipT (K : PySem.W.Frag) (ta : TA) : TI := fun σ H R => ta σ H fun vs H1 => ∃ t1 t2, vs = [.ref t1, .ref t2] ∧ (∃ xs, SqT K H1 t1 xs) ∧ (∃ ys, SqT K H1 t2 ys) ∧ R (Itz K t1 t2) H1
theorem pi_zipT {a b : Expr} {ta : TA} (hp : plainE a = true) (hp2 : plainE b = true) (hg : Gl X "zip") (hm : X.mg "zip" = none) (ha : PA X [a, b] ta) : PI X (.Tuple elts kk tpos) (.Call (.Name "zip" p) [a, b] [] pos) (iZipT X.K ta) := by
  intro pins s σ H R I h
  have hs2 : starEach [b] X.env = [(false, eval b X.env)] := by rw [star_plain hp2]; rfl
  refine Call_ (ld_blt I hg hm bt_zip (PyProof.Rows.callWith_type1 (thn (ha pos pins s σ H _ I h) fun us s1 ⟨vs, H1, I1, r1, q1⟩ => ?_) (star_plain hp) (by rw [hs2]; rfl)))
  obtain ⟨t1, t2, e, ⟨xs, h1⟩, ⟨ys, h2⟩, q⟩ := q1
  subst e
  obtain ⟨u, v, rfl, ru, rv⟩ := vals2 r1
  cases (show u = Value.ref t1 from ru)
  cases (show v = Value.ref t2 from rv)
  obtain ⟨its, _, p1, _⟩ := I1.tuple h1
  obtain ⟨jts, _, p2, _⟩ := I1.tuple h2
  have p1 : s1.heap.IsTuple t1 its.toArray := p1
  have p2 : s1.heap.IsTuple t2 jts.toArray := p2
  refine call_zipT p1 p2 fun h' c1 c2 c3 c4 c5 hk => ?_
  refine wpAny_pyIter_zip c1 ?_
  have n1 : t1 < s1.heap.objs.size := by obtain ⟨o, ho, _⟩ := p1; exact Heap.lt_size ho
  have n2 : t2 < s1.heap.objs.size := by obtain ⟨o, ho, _⟩ := p2; exact Heap.lt_size ho
  refine ⟨s1.heap.objs.size + 4, _, _, _, H1, rfl, I1.kept (t' := s1.toks) hk, turn_zipT (zipApart_new n1 n2), ⟨c1, c2, ⟨_, _, c3⟩, c4, c5⟩, fun b hb => ?_, q⟩
  have hb : s1.heap.objs.size ≤ b := by
    simp only [List.mem_cons, List.not_mem_nil, or_false] at hb
    rcases hb with h | h | h | h | h
    · rw [h]; exact Nat.le_add_right _ _
    · rw [h]; exact Nat.le_add_right _ _
    · rw [h]; exact Nat.le_add_right _ _
    · rw [h]; exact Nat.le_refl _
    · rw [h]; exact Nat.le_add_right _ _
  exact I1.fpOk hb (I1.hok.fresh hb)
noncomputable def iZ (A : DTA) : DTI := fun ρ q => A ρ fun ds ρ' => ∃ l m, ds = [.tup l, .tup m] ∧ q ((l.zip m).map fun p => D.tup [p.1, p.2]) ρ'
variable {κ : List SK} {pu lo : Bool} {A : DTA} {a b : Expr}
theorem itok_z {K : PySem.W.Frag} {S : Addr → Prop} {H : Hp} {t1 t2 : Addr} {l m : List D} (r1 : Rep K S H (.tup l) (.ref t1)) (r2 : Rep K S H (.tup m) (.ref t2)) : ItOk K S H (Itz K t1 t2) ((l.zip m).map fun p => D.tup [p.1, p.2]) := by
  simp only [Rep] at r1 r2
  obtain ⟨_, vs, e1, q1, r1⟩ := r1
  cases e1
  obtain ⟨_, ws, e2, q2, r2⟩ := r2
  cases e2
  refine ⟨.t2 l m t1 t2, .ref t1, by simp only [Rep]; exact ⟨t1, vs, rfl, rfl, q1, r1, ws, q2, r2⟩, fun S H' q i => ?_⟩
  simp only [Rep] at q
  obtain ⟨_, vs', e1, e2, q1, r1, ws', q2, r2⟩ := q
  rw [List.getElem?_map]
  refine ⟨fun d e => ?_, fun e => ⟨vs', ws', q1, q2, ?_⟩⟩
  · obtain ⟨⟨x, y⟩, e3, rfl⟩ := Option.map_eq_some_iff.mp e
    rw [List.getElem?_zip_eq_some] at e3
    obtain ⟨u, eu, ru⟩ := r1.get e3.1
    obtain ⟨v, ev, rv⟩ := r2.get e3.2
    refine ⟨⟨vs', ws', u, v, q1, q2, eu, ev⟩, fun z H'' ⟨T, x', y', hT, hx, hy, ez, eH⟩ => ?_⟩
    subst ez eH
    have e5 := hx vs' q1
    have e6 := hy ws' q2
    rw [eu] at e5; cases e5
    rw [ev] at e6; cases e6
    refine ⟨.new hT, ?_⟩
    simp only [Rep]
    refine ⟨T, _, rfl, SqT.of upd_same, ?_⟩
    simp only [Reps]
    exact ⟨_, _, rfl, Rep.go (Goes.same (.new hT)) _ _ ru, _, _, rfl, Rep.go (Goes.same (.new hT)) _ _ rv, rfl⟩
  · have e4 := List.getElem?_eq_none_iff.mp (Option.map_eq_none_iff.mp e)
    rw [List.length_zip] at e4
    rw [r1.len, r2.len]
    omega
theorem diZ (hpl : plainE a = true) (hpl2 : plainE b = true) (hgl : Gl X "zip") (hm : X.mg "zip" = none) (hi : DA X κ pu lo [a, b] A) : DI X κ pu lo (.Tuple elts kk tpos) (.Call (.Name "zip" p) [a, b] [] pos) (iZ A) := by
  refine ⟨(pi_zipT hpl hpl2 hgl hm hi.h).weak fun σ H R hh_ => ?_⟩
  obtain ⟨G, O, ρ, q, hE, hq, k⟩ := hh_
  refine ⟨G, O, ρ, _, hE, hq, fun vs H1 ds ρ1 O1 s1 e1 r1 p1 hz_ => ?_⟩
  obtain ⟨l, m, ed, hq1⟩ := hz_
  subst ed
  simp only [Reps] at r1
  obtain ⟨v1, _, rfl, g1, v2, _, rfl, g2, rfl⟩ := r1
  have g3 := g1
  have g4 := g2
  simp only [Rep] at g1 g2
  obtain ⟨t1, xs, rfl, q1, _⟩ := g1
  obtain ⟨t2, ys, rfl, q2, _⟩ := g2
  exact ⟨t1, t2, rfl, ⟨xs, q1⟩, ⟨ys, q2⟩, k _ H1 _ ρ1 O1 s1 e1 p1 (itok_z g3 g4) hq1⟩
end
theorem cat_tup0 {prog : Program} {w : World} {A : Around} {E : Value → Shared → Prop} {s : Shared} {t b : Addr} {ws : List Value} {Q : Value → Shared → Prop} (ht : IsTup s.heap t ([] : List Value).toArray) (hb : IsTup s.heap b ws.toArray) (h1 : Q (.ref b) s) :
    wpAny (model prog w) A (binaryOp .Add (.ref t) (.ref b)) Q E s := by
  obtain ⟨⟨k1, d1, x1, s1⟩, g1, c1, n1, e1⟩ := id ht
  obtain ⟨⟨k2, d2, x2, s2⟩, g2, c2, n2, e2⟩ := id hb
  simp only at c1 e1 c2 e2
  subst c1 e1 c2 e2
  exact concat_meets ⟨_, g1, rfl⟩ ⟨_, g2, rfl⟩ noFill_tuple_add seq_tuple_add PySem.F.slot_tuple_add PySem.F.entry_tuple_add (PySem.F.args_tuple_add_2 _ _) (tuple_addW0 t b _ ws.toArray n1 n2 d1 d2 s1 s2 (by simp)) ⟨g1, g2, h1⟩
section
variable {X : Cx}
theorem op_catT0 : OpR X (binaryOp .Add) (fun x y H Q => ∃ a b ys, x = .ref a ∧ y = .ref b ∧ SqT X.K H a [] ∧ SqT X.K H b ys ∧ Q (.ref b) H) := by
  intro pins s σ H x y v u Q I rx ry h
  obtain ⟨a, b, ys, rfl, rfl, ha, hb, q⟩ := h
  cases rx
  cases ry
  obtain ⟨its, r1, p1, _⟩ := I.tuple ha
  obtain ⟨its2, r2, p2, _⟩ := I.tuple hb
  cases r1
  exact cat_tup0 p1 p2 ⟨.ref b, H, I, rfl, q⟩
noncomputable abbrev oCatT : DR2 := fun x y q => ∃ a b, x = .tup a ∧ y = .tup b ∧ a.length + b.length ≤ sizeLine ∧ q (.tup (a ++ b))
theorem do_catT : DOp X .cl (binaryOp .Add) oCatT :=
  ⟨⟨_, op_catT.or op_catT0, fun S H dx dy vx vy q Q rx ry ⟨a, b, ex, ey, hl, hq⟩ k => by
    subst ex ey
    simp only [Rep] at rx ry
    obtain ⟨p, xs, rfl, h1, r1⟩ := rx
    obtain ⟨p2, ys, rfl, h2, r2⟩ := ry
    cases a with
    | nil =>
      simp only [Reps] at r1
      subst r1
      exact .inr ⟨p, p2, ys, rfl, rfl, h1, h2, k _ H _ [] (.refl _) ⟨rfl, by simp only [Rep]; exact ⟨p2, ys, rfl, h2, r2⟩⟩ hq⟩
    | cons d a =>
      have hne : xs ≠ [] := by
        intro z; subst z
        have := r1.len
        simp at this
      refine .inl ⟨p, p2, xs, ys, rfl, rfl, h1, h2, hne, by rw [r1.len, r2.len]; exact hl, fun z => ?_, fun z p3 hp => ?_⟩
      · subst z
        have hb : b = [] := List.length_eq_zero_iff.mp (by have := r2.len; simpa using this.symm)
        subst hb
        rw [List.append_nil] at hq
        exact k _ H _ [] (.refl _) ⟨rfl, by simp only [Rep]; exact ⟨p, xs, rfl, h1, r1⟩⟩ hq
      · exact k _ _ _ [] (.new hp) (vres_tup (r1.append r2) hp) hq⟩⟩
theorem getItem_tup_all {prog : Program} {w : World} {A : Around} {E : Value → Shared → Prop} {s : Shared} {t sl : Addr} {items : Array Value} {vl vu : Value} {lo hi : Option Int} {Q : Value → Shared → Prop} (ht : IsTup s.heap t items) (hs : s.heap.IsSliceOf sl vl vu .none) (pl : IsPart vl lo) (pu : IsPart vu hi)
    (hw : HT.sIx items.size 0 lo = 0 ∧ HT.sIx items.size items.size hi = items.size) (h : Q (.ref t) s) : wpAny (model prog w) A (getItem (.ref t) (.ref sl)) Q E s := by
  obtain ⟨os, hos, hcs, hds⟩ := id hs
  have hTs : s.TypeIs (.ref sl) "slice" := ⟨os, hos, hcs⟩
  unfold getItem
  try with_reducible refine wpAny_holding ?_
  first | refine wpAny_bind (wpAny_pure ?_) | skip
  refine wpAny_bind (wpAny_sequenceKey ht.typeIs (by decide) ?_)
  refine wpAny_bind (wpAny_callSpecial?_slot (name := Str.ofString "__getitem__") ht.typeIs PyProof.Rows.slot_tuple_getitem
    (wpAny_call_entry PyProof.Rows.slot_tuple_getitem ht.typeIs entry_tuple_getitem ?_ (args_tuple_getitem _ _)))
  show wpAny _ _ (Builtin.Tuple.tupleItemsOf (.ref t) >>= _) _ _ s
  refine wpAny_bind (tupleItemsOf_ ht ?_)
  refine wpAny_bind (wpAny_typeOf hTs ?_)
  rw [if_pos (by decide)]
  refine wpAny_bind (HT.sliceApplied_gen hs pl pu ?_)
  have hyes : (((HT.sIx items.size 0 lo : Nat) : Int) == 0 && (1 : Int) == 1 && (HT.sIx items.size items.size hi - HT.sIx items.size 0 lo) == items.size) = true := by
    rw [hw.1, hw.2]; simp
  show wpAny _ _ (if (((HT.sIx items.size 0 lo : Nat) : Int) == 0 && (1 : Int) == 1 && (HT.sIx items.size items.size hi - HT.sIx items.size 0 lo) == items.size) = true then _ else _) _ _ s
  rw [if_pos hyes]
  obtain ⟨ot, hot, hct, nt, hdt⟩ := id ht
  refine wpAny_bind (wpAny_bind (wpAny_bind ?_))
  refine wpAny_loadPart hot (wpAny_pure (wpAny_pure ?_))
  rw [hct, if_pos (by decide)]
  exact wpAny_bind (wpAny_rule (wpAny_pure ⟨_, rfl, wpAny_pure h⟩))
theorem sl_tupAll : SlR X (fun x lo hi H Q => ∃ a xs, x = .ref a ∧ SqT X.K H a xs ∧ (HT.sIx xs.length 0 lo = 0 ∧ HT.sIx xs.length xs.length hi = xs.length) ∧ Q (.ref a) H) := by
  intro pins s σ H x v vl vu lo hi sl Q I rx hs pl pu h
  obtain ⟨a, xs, rfl, hx, hw, q⟩ := h
  cases rx
  obtain ⟨its, r, ht, hz⟩ := I.tuple hx
  have hlen : its.toArray.size = xs.length := by rw [List.size_toArray]; exact r.length.symm
  refine ⟨"tuple", _, PyProof.Rows.slot_tuple_getitem.lookup, ht.typeIs, ?_⟩
  exact getItem_tup_all ht hs pl pu (by rw [hlen]; exact hw) ⟨.ref a, H, I, rfl, q⟩
noncomputable abbrev slT : D → Option Int → Option Int → (D → Prop) → Prop := fun x lo hi q => ∃ l, x = .tup l ∧ q (.tup (cutD l lo hi))
theorem dsl_t : DSl X .cl slT :=
  ⟨⟨_, sl_tup.or sl_tupAll, fun S H dx vx lo hi q Q rx ⟨l, e, hq⟩ k => by
    subst e
    simp only [Rep] at rx
    obtain ⟨a, xs, rfl, h1, r1⟩ := rx
    by_cases hw : HT.sIx xs.length 0 lo = 0 ∧ HT.sIx xs.length xs.length hi = xs.length
    · refine .inr ⟨a, xs, rfl, h1, hw, k _ H _ [] (.refl _) ⟨rfl, ?_⟩ hq⟩
      have e : cutD l lo hi = l := by
        unfold cutD
        rw [← r1.len, hw.1, hw.2]
        simp [r1.len]
      rw [e]
      simp only [Rep]
      exact ⟨a, xs, rfl, h1, r1⟩
    · exact .inl ⟨a, xs, rfl, h1, hw, fun p hp => k _ _ _ [] (.new hp) (vres_tup r1.cut hp) hq⟩⟩⟩
noncomputable def TupK (K : PySem.W.Frag) (a : Addr) (vs : List V) : Prop := ∃ (o : Obj) (its : Array Value) (n : Nat), K.lookup a = some o ∧ o.cls = .type "tuple" ∧ o.data = .seq its n ∧ its.size ≤ sizeLine ∧ Vals vs its.toList
noncomputable def cstV : D → Option V
  | .int i => some (.int i)
  | .str x => some (.str x)
  | .bl b => some (.bl b)
  | .non => some .non
  | _ => none
noncomputable def cstVs : List D → Option (List V)
  | [] => some []
  | d :: l => match cstV d, cstVs l with
    | some v, some vs => some (v :: vs)
    | _, _ => none
theorem cst_reps {K : PySem.W.Frag} {S : Addr → Prop} {H : Hp} : ∀ {l : List D} {vs : List V}, cstVs l = some vs → Reps K S H l vs
  | [], vs, h => by cases h; simp only [Reps]
  | d :: l, vs, h => by
    simp only [cstVs] at h
    cases e1 : cstV d with
    | none => rw [e1] at h; cases h
    | some v =>
      cases e2 : cstVs l with
      | none => rw [e1, e2] at h; cases h
      | some ws =>
        rw [e1, e2] at h; cases h
        simp only [Reps]
        refine ⟨v, ws, rfl, ?_, cst_reps e2⟩
        cases d <;> simp only [cstV] at e1 <;> first | (cases e1; simp only [Rep]) | cases e1
theorem dgtupc {κ : List SK} {x : Str} {pos : Pos} {l : List D} {vs : List V} (hd : (x == ("__debug__" : Str)) = false) (hg : Gl X x) (hc : cstVs l = some vs) (hm : ∃ a, X.mg x = some (.ref a) ∧ TupK X.K a vs) : DE X κ true .cl (.Name x pos) (eC (.tup l)) := by
  obtain ⟨a, hm, hk⟩ := hm
  exact dglob hd hg ⟨.ref a, _, hm, rfl, fun S H => by simp only [Rep]; exact ⟨a, vs, rfl, .inr hk, cst_reps hc⟩⟩
end
noncomputable abbrev KU : List (List Key × Addr × V) → List (List Key × Addr × Value) → Prop := Paired fun p q => p.1 = q.1 ∧ p.2.1 = q.2.1 ∧ RelV p.2.2 q.2.2
noncomputable def valU (kvs : List (List Key × Addr × V)) (k : List Key) : Option V := (kvs.find? fun e => decide (e.1 = k)).map (·.2.2)
noncomputable def putU (kvs : List (List Key × Addr × V)) (k : List Key) (b : Addr) (v : V) : List (List Key × Addr × V) :=
  if (kvs.any fun e => decide (e.1 = k)) = true then kvs.map (fun e => if e.1 = k then (e.1, e.2.1, v) else e) else kvs ++ [(k, b, v)]
theorem valU_any (k : List Key) : ∀ kvs : List (List Key × Addr × V), (kvs.any fun e => decide (e.1 = k)) = (valU kvs k).isSome
  | [] => rfl
  | e :: r => by
    rw [List.any_cons, valU_any k r]
    unfold valU
    by_cases h : e.1 = k
    · simp [List.find?_cons, h]
    · simp [List.find?_cons, h]
theorem KU.val {kvs : List (List Key × Addr × V)} {xs : List (List Key × Addr × Value)} (r : KU kvs xs) (k : List Key) : RelO (valU kvs k) ((atKey xs k).map (·.2)) := by
  induction r with
  | nil => exact True.intro
  | @cons p q ps qs h t ih =>
    obtain ⟨h1, _, h2⟩ := h
    by_cases e : p.1 = k
    · have e' : q.1 = k := h1.symm.trans e
      have b : atKey (q :: qs) k = some q.2 := by simp [atKey, List.find?_cons, e']
      have c : valU (p :: ps) k = some p.2.2 := by simp [valU, List.find?_cons, e]
      rw [c, b]; exact h2
    · have e' : ¬ q.1 = k := fun z => e (h1.trans z)
      have b : atKey (q :: qs) k = atKey qs k := by simp [atKey, List.find?_cons, e']
      have c : valU (p :: ps) k = valU ps k := by simp [valU, List.find?_cons, e]
      rw [c, b]; exact ih
theorem KU.repl {kvs : List (List Key × Addr × V)} {xs : List (List Key × Addr × Value)} (r : KU kvs xs) (k : List Key) {y : V} {u : Value} (ry : RelV y u) :
    KU (kvs.map fun e => if e.1 = k then (e.1, e.2.1, y) else e) (xs.map (putAt k u)) := by
  induction r with
  | nil => exact .nil
  | @cons p q ps qs h t ih =>
    rw [List.map_cons, List.map_cons]
    refine .cons ?_ ih
    obtain ⟨h1, h2, h3⟩ := h
    unfold putAt
    by_cases e : p.1 = k
    · rw [if_pos e, if_pos (h1.symm.trans e)]; exact ⟨h1, h2, ry⟩
    · rw [if_neg e, if_neg (fun z => e (h1.trans z))]; exact ⟨h1, h2, h3⟩
theorem KU.put {kvs : List (List Key × Addr × V)} {xs : List (List Key × Addr × Value)} (r : KU kvs xs) (k : List Key) {b : Addr} {y : V} {u : Value} (ry : RelV y u) : KU (putU kvs k b y) (storedH xs k b u) := by
  have e : (kvs.any fun e => decide (e.1 = k)) = (atKey xs k).isSome := by
    rw [valU_any, (r.val k).isSome_eq, Option.isSome_map]
  unfold putU storedH
  rw [e]
  by_cases q : (atKey xs k).isSome = true
  · rw [if_pos q, if_pos q]; exact r.repl k ry
  · rw [if_neg q, if_neg q]; exact Paired.snoc r ⟨rfl, rfl, ry⟩
theorem length_putU (kvs : List (List Key × Addr × V)) (k : List Key) (b : Addr) (v : V) : (putU kvs k b v).length ≤ kvs.length + 1 := by
  unfold putU; split <;> simp
noncomputable def KsOk (K : PySem.W.Frag) (H : Hp) (kvs : List (List Key × Addr × V)) : Prop := ∀ e ∈ kvs, SqT K H e.2.1 (e.1.map kV)
section
variable {X : Cx} {pins : List (Addr × Obj)} {σ : St} {H : Hp} {s : Shared} {a b : Addr} {k : List Key} {kvs : List (List Key × Addr × V)} {v : V} {r : Value} {A : Around} {E : Value → Shared → Prop}
theorem key_sq (I : Inv X pins σ H s) (h : SqT X.K H b (k.map kV)) : (tupleKind (mixKind X.prog X.w)).is s.heap k b := by
  obtain ⟨its, r, ⟨o, h1, h2, n, h3⟩, _⟩ := I.tuple h
  exact ⟨o, its.toArray, n, h1, h2, h3, by simpa using items_are r⟩
theorem du_rd (I : Inv X pins σ H s) (e : Rd H a (.dU kvs)) (hk : KsOk X.K H kvs) : kvs.length ≤ sizeLine ∧ (a == sysModules) = false ∧ ∃ xs, KU kvs xs ∧ s.heap.DictOfH (tupleKind (mixKind X.prog X.w)) a xs := by
  obtain ⟨z, y, xs, r, o, es, ep, h1, h2, h3, h4, h5⟩ := (show ObjOk X.prog X.w H s.heap a (.dU kvs) from rd_of I.hok e)
  refine ⟨z, y, xs, r, o, es, ep, h1, h2, h3, h4, fun x hx => ?_, h5⟩
  have all : ∀ {l : List (List Key × Addr × V)} {m : List (List Key × Addr × Value)}, KU l m → KsOk X.K H l → ∀ x ∈ m, (tupleKind (mixKind X.prog X.w)).is s.heap x.1 x.2.1 := by
    intro l m q
    induction q with
    | nil => intro _ x hx; exact nomatch hx
    | @cons p q ps qs hq t ih =>
      intro hl x hx
      rcases List.mem_cons.mp hx with e | hx
      · subst e
        rw [← hq.1, ← hq.2.1]
        exact key_sq I (hl p (by simp))
      · exact ih (fun e he => hl e (by simp [he])) x hx
  exact all r hk x hx
theorem op_inU (hu : X.A.units + 1 < cLine) : OpR X (compareOp .In) (fun x y H Q => ∃ b a k kvs, x = .ref b ∧ y = .ref a ∧ SqT X.K H b (k.map kV) ∧ Rd H a (.dU kvs) ∧ KsOk X.K H kvs ∧ Q (.bl (valU kvs k).isSome) H) := by
  intro pins s σ H x y v u Q I rx ry h
  obtain ⟨b, a, k, kvs, rfl, rfl, hb, e, hk, q⟩ := h
  cases rx
  cases ry
  obtain ⟨z, hd, xs, rel, dd⟩ := du_rd I e hk
  refine wpAny_in_heap (tupleKind_room_in1 hu) (key_sq I hb) hd dd ⟨.bl _, H, I.tok _, ?_, q⟩
  have z2 := (rel.val k).isSome_eq
  rw [Option.isSome_map] at z2
  rw [← z2]; rfl
theorem u_setItem {Q : Unit → Shared → Prop} (hu : A.units + 1 < cLine) (I : Inv X pins σ H s) (e : H a = some (.dU kvs)) (hk : KsOk X.K H kvs) (hb : SqT X.K H b (k.map kV)) (hl0 : kvs.length < sizeLine) (rv : RelV v r) (h : ∀ s', Inv X pins σ (upd H a (.dU (putU kvs k b v))) s' → Q () s') :
    wpAny (model X.prog X.w) A (setItem (.ref a) (.ref b) r) Q E s := by
  obtain ⟨z, hd, xs, rel, dd⟩ := du_rd I (.inl e) hk
  have hz : xs.length ≤ sizeLine := by rw [← Paired.length rel]; exact z
  have hl : (putU kvs k b v).length ≤ sizeLine := by have := length_putU kvs k b v; omega
  refine wpAny_setItem_heap (hsz := hz) (tupleKind_room_in1 hu) (key_sq I hb) dd fun h' dd' hs => h _ ?_
  obtain ⟨q, es, ep, hq, h2, h3, h4, _, h5⟩ := dd'
  exact d_write I (by rw [e]; exact True.intro) hs ⟨q, hq⟩ ⟨hl, hd, _, rel.put k rv, q, es, ep, hq, h2, h3, h4, h5⟩
end
noncomputable def keyT (k : List Key) : D := .tup (k.map keyD)
theorem keyT_rep {K : PySem.W.Frag} {S : Addr → Prop} {H : Hp} {k : List Key} {v : V} : Rep K S H (keyT k) v ↔ ∃ b, v = .ref b ∧ SqT K H b (k.map kV) := by
  have all : ∀ {k : List Key} {vs : List V}, Reps K S H (k.map keyD) vs ↔ vs = k.map kV := by
    intro k
    induction k with
    | nil => intro vs; simp only [List.map_nil, Reps]
    | cons x r ih =>
      intro vs
      simp only [List.map_cons, Reps]
      constructor
      · rintro ⟨v, t, rfl, h1, h2⟩
        rw [keyD_rep.mp h1, ih.mp h2]
      · rintro rfl
        exact ⟨_, _, rfl, keyD_rep.mpr rfl, ih.mpr rfl⟩
  unfold keyT
  simp only [Rep]
  constructor
  · rintro ⟨a, vs, rfl, h1, h2⟩
    rw [all.mp h2] at h1
    exact ⟨a, rfl, h1⟩
  · rintro ⟨b, rfl, h⟩
    exact ⟨b, _, rfl, h, all.mpr rfl⟩
noncomputable def hasT (ks : List (List Key)) (k : List Key) : Bool := ks.any fun k' => decide (k' = k)
theorem valU_has {kvs : List (List Key × Addr × V)} {k : List Key} : (valU kvs k).isSome = hasT (kvs.map (·.1)) k := by
  rw [← valU_any]
  unfold hasT
  rw [List.any_map]
  rfl
section
variable {X : Cx} {κ : List SK} {md : SK} {pu : Bool} {pos : Pos} {E Ek : DTE}
noncomputable abbrev oInT (neg : Bool) : DR2 := fun x y q => ∃ k ks l, x = keyT k ∧ y = .dT ks l ∧ q (.bl (neg ^^ hasT ks k))
theorem do_inT (hu : X.A.units + 1 < cLine) : DOp X .cl (compareOp .In) (oInT false) :=
  ⟨⟨_, op_inU hu, fun S H dx dy vx vy q Q rx ry ⟨k, ks, l, ex, ey, hq⟩ kk => by
    subst ex ey
    obtain ⟨b, rfl, hb⟩ := keyT_rep.mp rx
    simp only [Rep] at ry
    obtain ⟨a, kvs, rfl, _, h1, rfl, h2, _⟩ := ry
    rw [Bool.false_xor, ← valU_has] at hq
    exact ⟨b, a, k, kvs, rfl, rfl, hb, h1, h2, kk _ H (.bl (valU kvs k).isSome) [] (.refl _) ⟨rfl, by simp only [Rep]⟩ hq⟩⟩⟩
theorem pe_dnewU : PE X (.Dict [] [] pos) (fun σ H Q => ∀ p, H p = none → Q (.ref p) (upd H p (.dU []))) := fun pins s σ H Q I h => by
  have z := dt_empty (P := X.prog) (w := X.w) (H := upd H s.heap.objs.size (.dT [])) s.heap I.big
  obtain ⟨z1, z2, xs, z3, o, es, ep, z4⟩ := z
  cases z3
  exact wpAny_Dict_empty ⟨.ref s.heap.objs.size, _, I.laid (a := s.heap.objs.size) (o := .dU []) (t' := s.toks) (fun _ _ q => Heap.get?_push_of_some _ q) (Nat.le_refl _) ⟨z1, z2, [], .nil, o, es, ep, z4⟩, rfl, h _ (I.hok.fresh (Nat.le_refl _))⟩
theorem own1_du {K : PySem.W.Frag} {S : Addr → Prop} {H : Hp} {fp : List Addr} {ks : List (List Key)} {l : List D} {v : V} (h : Own K S H 1 fp (.dT ks l) v) : ∃ a kvs, v = .ref a ∧ fp = [a] ∧ H a = some (.dU kvs) ∧ kvs.map (·.1) = ks ∧ KsOk K H kvs ∧ Reps K S H l (kvs.map (·.2.2)) := by
  simp only [Own] at h
  obtain ⟨a, fps, rfl, rfl, h⟩ := h
  rcases h with ⟨_, _, e, _⟩ | ⟨_, _, _, e, _⟩ | ⟨ks', l', kvs, e, hH, h0, h1, h2, h3⟩
  · cases e
  · cases e
  · cases e
    obtain ⟨z, r⟩ := own0s h1 (vs := kvs.map (·.2.2)) (by rw [List.length_map]; exact h2) (fun i f x u e1 e2 e3 => by simp only [Own]; exact h3 i f x u e1 e2 e3)
    exact ⟨a, kvs, rfl, by rw [z], hH, h0.1, h0.2, r⟩
theorem own1_mkU {K : PySem.W.Frag} {S : Addr → Prop} {H : Hp} {a : Addr} {ks : List (List Key)} {l : List D} {kvs : List (List Key × Addr × V)} (hH : H a = some (.dU kvs)) (hk : kvs.map (·.1) = ks) (ho : KsOk K H kvs) (r : Reps K S H l (kvs.map (·.2.2))) : Own K S H 1 [a] (.dT ks l) (.ref a) := by
  simp only [Own]
  have hl : kvs.length = l.length := by rw [← r.len, List.length_map]
  refine ⟨a, l.map fun _ => [], rfl, by simp, .inr (.inr ⟨ks, l, kvs, rfl, hH, ⟨hk, ho⟩, by simp, hl, fun i f x u e1 e2 e3 => ⟨?_, ?_⟩⟩)⟩
  · rw [List.getElem?_map, e2] at e1; simpa using e1.symm
  · obtain ⟨u', e4, z⟩ := r.get e2
    rw [e3] at e4; cases e4
    exact z
noncomputable def eNewT : DTE := fun ρ q => q (.dT [] []) ρ
theorem dnewT : DE X κ true (.ow 1) (.Dict [] [] pos) eNewT := by
  refine ⟨pe_dnewU.weak fun σ H Q hh_ => ?_⟩
  obtain ⟨G, O, ρ, q, hE, hq, k⟩ := hh_
  refine fun p hp => ?_
  have vr : VRes X.K (uni G.S0 O) H (upd H p (.dU [])) [p] (.ow 1) (.dT [] []) (.ref p) := by
    refine ⟨by simp, fun a ha => ?_, own1_mkU upd_same rfl (fun e he => absurd he (by simp)) (by simp only [List.map_nil, Reps])⟩
    obtain rfl : a = p := by simpa using ha
    exact ⟨hp, _, upd_same, trivial⟩
  obtain ⟨fp', st, en, vo⟩ := VRes.fin (lo := false) hE (Step.refl O H) (.new hp) vr (by simp)
  exact k _ _ _ ρ O fp' st en vo (fun _ => ⟨.new hp, rfl, rfl⟩) hq
noncomputable def replT (k : List Key) (d : D) : List (List Key) → List D → List D
  | k' :: ks, x :: l => (if k' = k then d else x) :: replT k d ks l
  | _, _ => []
noncomputable def putT (ks : List (List Key)) (l : List D) (k : List Key) (d : D) : D := if hasT ks k = true then .dT ks (replT k d ks l) else .dT (ks ++ [k]) (l ++ [d])
theorem reps_replU {K : PySem.W.Frag} {S : Addr → Prop} {H : Hp} {k : List Key} {d : D} {v : V} (rv : Rep K S H d v) : ∀ {kvs : List (List Key × Addr × V)} {l : List D}, Reps K S H l (kvs.map (·.2.2)) → Reps K S H (replT k d (kvs.map (·.1)) l) ((kvs.map fun e => if e.1 = k then (e.1, e.2.1, v) else e).map (·.2.2))
  | [], l, h => by simp only [List.map_nil, replT, Reps]
  | kv :: kvs, [], h => by simp only [Reps] at h; simp at h
  | kv :: kvs, x :: l, h => by
    simp only [List.map_cons, Reps] at h
    obtain ⟨u, r, e, h1, h2⟩ := h
    obtain ⟨rfl, rfl⟩ := List.cons.inj e
    simp only [List.map_cons, replT, Reps]
    refine ⟨_, _, rfl, ?_, reps_replU rv h2⟩
    by_cases z : kv.1 = k
    · rw [if_pos z, if_pos z]; exact rv
    · rw [if_neg z, if_neg z]; exact h1
theorem keys_replU {k : List Key} {v : V} (kvs : List (List Key × Addr × V)) : (kvs.map fun e => if e.1 = k then (e.1, e.2.1, v) else e).map (·.1) = kvs.map (·.1) := by
  rw [List.map_map]
  apply List.map_congr_left
  intro kv _
  by_cases z : kv.1 = k <;> simp [z]
theorem putT_is {K : PySem.W.Frag} {S : Addr → Prop} {H : Hp} {l : List D} {k : List Key} {b : Addr} {d : D} {v : V} {kvs : List (List Key × Addr × V)} (r : Reps K S H l (kvs.map (·.2.2))) (ho : KsOk K H kvs) (hb : SqT K H b (k.map kV)) (rv : Rep K S H d v) :
    ∃ ks' l', putT (kvs.map (·.1)) l k d = .dT ks' l' ∧ (putU kvs k b v).map (·.1) = ks' ∧ KsOk K H (putU kvs k b v) ∧ Reps K S H l' ((putU kvs k b v).map (·.2.2)) := by
  have e : hasT (kvs.map (·.1)) k = kvs.any fun e => decide (e.1 = k) := by unfold hasT; rw [List.any_map]; rfl
  unfold putT putU
  rw [e]
  by_cases z : (kvs.any fun e => decide (e.1 = k)) = true
  · rw [if_pos z, if_pos z]
    refine ⟨_, _, rfl, keys_replU kvs, fun e he => ?_, reps_replU rv r⟩
    obtain ⟨f, hf, rfl⟩ := List.mem_map.mp he
    have := ho f hf
    by_cases y : f.1 = k
    · rw [if_pos y]; exact this
    · rw [if_neg y]; exact this
  · rw [if_neg z, if_neg z]
    refine ⟨_, _, rfl, by simp, fun e he => ?_, by rw [List.map_append]; exact r.snoc rv⟩
    rcases List.mem_append.mp he with he | he
    · exact ho e he
    · have : e = (k, b, v) := by simpa using he
      rw [this]; exact hb
section
variable {K : PySem.W.Frag} {G : G0} {O : Addr → Prop} {ρ : EnvD} {σ : St} {H : Hp}
theorem SqT.upd {a b : Addr} {kvs : List (List Key × Addr × V)} {o : HO} {vs : List V} (hH : H a = some (.dU kvs)) (h : SqT K H b vs) : SqT K (L2.upd H a o) b vs := by
  rcases h with h | h
  · left
    have ne : b ≠ a := by
      rintro rfl
      rcases h with h | ⟨_, h⟩ <;> (rw [hH] at h; cases h)
    rcases h with h | ⟨o', h⟩
    · exact .inl (by rw [upd_ne ne]; exact h)
    · exact .inr ⟨o', by rw [upd_ne ne]; exact h⟩
  · exact .inr h
theorem EnvOk.chgU {i : Nat} {ks : List (List Key)} {l : List D} (h : EnvOk K κ G O ρ σ H) (hd : dep (kd κ i) = some 1) (e : ρ[i]? = some (some (.dT ks l))) : ∃ a kvs, σ[i]? = some (some (.ref a)) ∧ H a = some (.dU kvs) ∧ kvs.map (·.1) = ks ∧ KsOk K H kvs ∧ Reps K (uni G.S0 O) H l (kvs.map (·.2.2)) ∧
    ∀ ks' l' kvs', kvs'.map (·.1) = ks' → KsOk K H kvs' → Reps K (uni G.S0 O) H l' (kvs'.map (·.2.2)) → EnvOk K κ G O (kl κ (ρ.set i (some (.dT ks' l')))) σ (upd H a (.dU kvs')) ∧ Step O O H (upd H a (.dU kvs')) := by
  obtain ⟨F, f⟩ := id h
  obtain ⟨v, h1, h2⟩ := slot_own f hd e
  obtain ⟨a, kvs, rfl, hF, hH, hk, ho, r⟩ := own1_du h2
  have ha : O a := (f.own a).mpr ⟨i, by rw [hF]; simp⟩
  refine ⟨a, kvs, h1, hH, hk, ho, r, fun ks' l' kvs' hk' ho' r' => ?_⟩
  have gU : Goes (uni G.S0 O) (uni G.S0 O) H (upd H a (.dU kvs')) := Goes.upd hH trivial (.inr ha)
  have q := EnvF.chg (H' := upd H a (.dU kvs')) (f' := F i) (fp := []) (d' := .dT ks' l') (v := .ref a) f hd (fun b o nb eb => by
      rw [upd_ne (by rintro rfl; exact nb (by rw [hF]; simp))]; exact eb) (fun b eb => by
      by_cases hb : b = a
      · rw [hb, upd_same]; simp
      · rw [upd_ne hb]; exact eb) (f.nd i) (fun b hb => ⟨.inl hb, by
        have : b = a := by rw [hF] at hb; simpa using hb
        rw [this]; exact ⟨_, upd_same, trivial⟩⟩) (fun b hb => absurd hb (by simp)) h1 (by
        rw [OF_self f, hF, show uni G.S0 (fpS []) = G.S0 by funext b; simp [uni, fpS]]
        exact own1_mkU upd_same hk' (fun e he => (ho' e he).upd hH) (Reps.go gU l' _ r'))
  rw [OF_self f, plus_nil] at q
  exact ⟨⟨_, q.1⟩, q.2⟩
end
theorem ps_uput {o i value : Expr} {td ty tv : TE} {pos' : Pos} (hu : X.A.units + 1 < cLine) (ho : PE X o td) (hi : PE X i ty) (hv : PE X value tv) (hs : swapsWith value (some (.Subscript o i pos')) pos.line X.env = pure false) :
    PS X (.Assign [.Subscript o i pos'] value pos) (fun D σ H => tv σ H fun v H1 => td σ H1 fun x H2 => ty σ H2 fun y H3 => ∃ a b k kvs, x = .ref a ∧ y = .ref b ∧ H3 a = some (.dU kvs) ∧ KsOk X.K H3 kvs ∧ SqT X.K H3 b (k.map kV) ∧ kvs.length < sizeLine ∧ D.nx σ (upd H3 a (.dU (putU kvs k b v)))) := by
  intro pins s σ H D I h
  refine wpAny_Assign_Subscript (thn (hv pins s σ H _ I h) fun r s1 hh_ => ?_) hs
  obtain ⟨v, H1, I1, rv, q1⟩ := hh_
  refine thn (ho pins s1 σ H1 _ I1 q1) fun u s2 hh_ => ?_
  obtain ⟨x, H2, I2, rx, q2⟩ := hh_
  refine thn (hi pins s2 σ H2 _ I2 q2) fun iv s3 hh_ => ?_
  obtain ⟨y, H3, I3, ry, a, b, k, kvs, ex, ey, g1, g2, g3, g4, q3⟩ := hh_
  subst ex ey
  obtain rfl : u = Value.ref a := rx
  obtain rfl : iv = Value.ref b := ry
  exact u_setItem hu I3 g1 g2 g3 g4 rv fun s4 I4 => ⟨σ, _, I4, q3⟩
noncomputable def sPutT (κ : List SK) (i : Nat) (Ek E : DTE) : DTS := fun De ρ => (∃ ks l, ρ[i]? = some (some (.dT ks l))) ∧ E ρ fun d ρ1 => Ek ρ1 fun k ρ2 => ∃ ks l kk, ρ2[i]? = some (some (.dT ks l)) ∧ k = keyT kk ∧ ks.length < sizeLine ∧ De.nx (kl κ (ρ2.set i (some (putT ks l kk d))))
theorem dputT {i : Nat} {x : Str} {p spos : Pos} {j e : Expr} {pui : Bool} (hu : X.A.units + 1 < cLine) (hs : swapsWith e (some (.Subscript (.Name x p) j spos)) pos.line X.env = pure false)
    (hN : X.N[i]? = some x) (hv : Vis X.env.scope x) (hd : (x == ("__debug__" : Str)) = false) (hcd : (x == ("__classdict__" : Str)) = false) (hk : dep (kd κ i) = some 1) (he : DE X κ pu .cl e E) (hi : DE X κ pui .cl j Ek) :
    DS X κ md (.Assign [.Subscript (.Name x p) j spos] e pos) (sPutT κ i Ek E) := by
  refine ⟨(ps_uput hu (pe_var hN hv hd hcd) hi.h he.h hs).weak fun Dn σ H hh_ => ?_⟩
  obtain ⟨G, O, ρ, De, hE, ⟨⟨ks0, l0, e0⟩, hT⟩, nx, bk, ct, rt⟩ := hh_
  refine ⟨G, O, ρ, _, hE, hT, fun v H1 d ρ1 O1 fp s1 e1 vo p1 hq1 => ?_⟩
  obtain ⟨a, kvs, g1, _⟩ := hE.chgU hk e0
  refine ⟨.ref a, g1, G, O1, ρ1, _, e1.drop, hq1, fun vi H2 di ρ2 O2 fp2 s2 e2 vo2 p2 ⟨ks, l, kk, el, ek, hl, hq2⟩ => ?_⟩
  subst ek
  obtain ⟨a', kvs', g2, g3, g4, g5, g6, g7⟩ := e2.drop.chgU hk el
  rw [g1] at g2; cases g2
  have rv : Rep X.K (uni G.S0 O2) H2 d v := Rep.go (Goes.step e1.drop.mutO s2) d v vo.2
  obtain ⟨b, rfl, hb⟩ := keyT_rep.mp vo2.2
  subst g4
  obtain ⟨ks', l', z1, z2, z3, z4⟩ := putT_is g6 g5 hb rv
  refine ⟨a, b, kk, kvs', rfl, rfl, g3, g5, hb, by rw [List.length_map] at hl; exact hl, ?_⟩
  rw [z1] at hq2
  exact nx σ _ _ O2 (g7 ks' l' _ z2 z3 z4).1 hq2
end
theorem fasg {X : Cx} {κ : List SK} {md mr : SK} {pu : Bool} {e tg : Expr} {E : DTE} {pos : Pos} {g : DTG} (hs : swapsWithSole [tg] e pos.line X.env = pure false) (hw : swappedStores [tg] e X.env = pure none) (h1 : (assignEach [tg] X.env).map (·.2) = [assign tg X.env]) (hm : md = .cl ∨ md = .lo) (he : DE X κ pu md e E) (hg : DG X κ md tg g) : DS X κ mr (.Assign [tg] e pos) (sAsg E g) := dasg hs hw h1 hm he hg
end L2
namespace L2
open PySem PySem.Spec PyProof.Rows PySem.W
end L2
namespace L2
open PySem PySem.Spec PyProof.Rows PySem.W
open Builtin Builtin.ObjectAttr
end L2
namespace L2
open PySem PySem.Spec PyProof.Rows PySem.W
end L2
namespace L2
open PySem PySem.Spec PyProof.Rows
end L2
namespace L2
open PySem PySem.Spec PyProof.Rows PySem.W
end L2
namespace L2
open PySem PySem.Spec PyProof.Rows PySem.W
open AutoSeq1 (wpAny_loadPart')
end L2
namespace L2
open PySem PySem.Spec PyProof.Rows PySem.W
end L2
namespace L2
open PySem PySem.Spec PyProof.Rows
end L2
namespace L2
open PySem PySem.Spec PyProof.Rows PySem.W
end L2
set_option maxHeartbeats 4000000
namespace Rc
open PySem L2
noncomputable def top (i : Nat) : Stmt := PySem.Challenge.pw_ribboncast_k10_whole_case_to_holes.main.body.getD i (.Pass ⟨0, 0, 0, 0⟩)
noncomputable abbrev s_is_whole : Stmt := top 5
noncomputable abbrev s_is_whole_within : Stmt := top 6
noncomputable abbrev s_is_cam : Stmt := top 18
noncomputable abbrev s_is_place : Stmt := top 19
noncomputable abbrev s_is_letter_sign : Stmt := top 20
noncomputable abbrev s_is_blank_sign : Stmt := top 21
noncomputable abbrev s_is_step_sign : Stmt := top 22
noncomputable abbrev s_is_sign : Stmt := top 23
noncomputable abbrev s_hole_of : Stmt := top 24
noncomputable abbrev s_place_holes : Stmt := top 25
noncomputable abbrev s_step_holes : Stmt := top 26
noncomputable abbrev s_cam_marks : Stmt := top 27
noncomputable abbrev s_strike : Stmt := top 28
noncomputable abbrev s_is_row_of_holes : Stmt := top 29
noncomputable abbrev s_first_between : Stmt := top 30
noncomputable abbrev s_likely_sign : Stmt := top 31
noncomputable abbrev s_read_holes : Stmt := top 32
noncomputable abbrev s_filled_cells : Stmt := top 35
noncomputable abbrev s_size_of : Stmt := top 36
noncomputable abbrev s_names_in : Stmt := top 37
noncomputable abbrev s_filled_cell_of : Stmt := top 38
noncomputable abbrev s_place_of : Stmt := top 39
noncomputable abbrev s_sign_of_filled : Stmt := top 40
noncomputable abbrev s_sign_of : Stmt := top 41
noncomputable abbrev s_d_law_cell : Stmt := top 43
noncomputable abbrev s_d_law_bag : Stmt := top 44
noncomputable abbrev s_d_law_take : Stmt := top 45
noncomputable abbrev s_d_law_name : Stmt := top 46
noncomputable abbrev s_d_law_case : Stmt := top 47
noncomputable abbrev s_d_law_good : Stmt := top 48
noncomputable abbrev s_d_law_rest_good : Stmt := top 49
noncomputable abbrev s_law : Stmt := top 50
set_option genInjectivity false in
structure Adr where
  f_is_whole : Addr
  d_is_whole : FuncData
  f_is_whole_within : Addr
  d_is_whole_within : FuncData
  f_is_cam : Addr
  d_is_cam : FuncData
  f_is_place : Addr
  d_is_place : FuncData
  f_is_letter_sign : Addr
  d_is_letter_sign : FuncData
  f_is_blank_sign : Addr
  d_is_blank_sign : FuncData
  f_is_step_sign : Addr
  d_is_step_sign : FuncData
  f_is_sign : Addr
  d_is_sign : FuncData
  f_hole_of : Addr
  d_hole_of : FuncData
  f_place_holes : Addr
  d_place_holes : FuncData
  f_step_holes : Addr
  d_step_holes : FuncData
  f_cam_marks : Addr
  d_cam_marks : FuncData
  f_strike : Addr
  d_strike : FuncData
  f_is_row_of_holes : Addr
  d_is_row_of_holes : FuncData
  f_first_between : Addr
  d_first_between : FuncData
  f_likely_sign : Addr
  d_likely_sign : FuncData
  f_read_holes : Addr
  d_read_holes : FuncData
  f_filled_cells : Addr
  d_filled_cells : FuncData
  f_size_of : Addr
  d_size_of : FuncData
  f_names_in : Addr
  d_names_in : FuncData
  f_filled_cell_of : Addr
  d_filled_cell_of : FuncData
  f_place_of : Addr
  d_place_of : FuncData
  f_sign_of_filled : Addr
  d_sign_of_filled : FuncData
  f_sign_of : Addr
  d_sign_of : FuncData
  f_d_law_cell : Addr
  d_d_law_cell : FuncData
  f_d_law_bag : Addr
  d_d_law_bag : FuncData
  f_d_law_take : Addr
  d_d_law_take : FuncData
  f_d_law_name : Addr
  d_d_law_name : FuncData
  f_d_law_case : Addr
  d_d_law_case : FuncData
  f_d_law_good : Addr
  d_d_law_good : FuncData
  f_d_law_rest_good : Addr
  d_d_law_rest_good : FuncData
  f_law : Addr
  d_law : FuncData
structure Txt (K : PySem.W.Frag) (mg : Str → Option Value) (t : Adr) : Prop where
  F_is_whole : Fun K "is_whole" "is_whole" s_is_whole t.f_is_whole t.d_is_whole
  m_is_whole : mg "is_whole" = some (.ref t.f_is_whole)
  k_is_whole : PySem.W.keepIn K (.ref t.f_is_whole) = true
  b_is_whole : Binds K t.d_is_whole ["thing"] []
  F_is_whole_within : Fun K "is_whole_within" "is_whole_within" s_is_whole_within t.f_is_whole_within t.d_is_whole_within
  m_is_whole_within : mg "is_whole_within" = some (.ref t.f_is_whole_within)
  k_is_whole_within : PySem.W.keepIn K (.ref t.f_is_whole_within) = true
  b_is_whole_within : Binds K t.d_is_whole_within ["thing", "least", "greatest"] []
  F_is_cam : Fun K "is_cam" "is_cam" s_is_cam t.f_is_cam t.d_is_cam
  m_is_cam : mg "is_cam" = some (.ref t.f_is_cam)
  k_is_cam : PySem.W.keepIn K (.ref t.f_is_cam) = true
  b_is_cam : Binds K t.d_is_cam ["thing"] []
  F_is_place : Fun K "is_place" "is_place" s_is_place t.f_is_place t.d_is_place
  m_is_place : mg "is_place" = some (.ref t.f_is_place)
  k_is_place : PySem.W.keepIn K (.ref t.f_is_place) = true
  b_is_place : Binds K t.d_is_place ["size", "column", "row"] []
  F_is_letter_sign : Fun K "is_letter_sign" "is_letter_sign" s_is_letter_sign t.f_is_letter_sign t.d_is_letter_sign
  m_is_letter_sign : mg "is_letter_sign" = some (.ref t.f_is_letter_sign)
  k_is_letter_sign : PySem.W.keepIn K (.ref t.f_is_letter_sign) = true
  b_is_letter_sign : Binds K t.d_is_letter_sign ["size", "thing"] []
  F_is_blank_sign : Fun K "is_blank_sign" "is_blank_sign" s_is_blank_sign t.f_is_blank_sign t.d_is_blank_sign
  m_is_blank_sign : mg "is_blank_sign" = some (.ref t.f_is_blank_sign)
  k_is_blank_sign : PySem.W.keepIn K (.ref t.f_is_blank_sign) = true
  b_is_blank_sign : Binds K t.d_is_blank_sign ["size", "thing"] []
  F_is_step_sign : Fun K "is_step_sign" "is_step_sign" s_is_step_sign t.f_is_step_sign t.d_is_step_sign
  m_is_step_sign : mg "is_step_sign" = some (.ref t.f_is_step_sign)
  k_is_step_sign : PySem.W.keepIn K (.ref t.f_is_step_sign) = true
  b_is_step_sign : Binds K t.d_is_step_sign ["thing"] []
  F_is_sign : Fun K "is_sign" "is_sign" s_is_sign t.f_is_sign t.d_is_sign
  m_is_sign : mg "is_sign" = some (.ref t.f_is_sign)
  k_is_sign : PySem.W.keepIn K (.ref t.f_is_sign) = true
  b_is_sign : Binds K t.d_is_sign ["size", "thing"] []
  F_hole_of : Fun K "hole_of" "hole_of" s_hole_of t.f_hole_of t.d_hole_of
  m_hole_of : mg "hole_of" = some (.ref t.f_hole_of)
  k_hole_of : PySem.W.keepIn K (.ref t.f_hole_of) = true
  b_hole_of : Binds K t.d_hole_of ["number", "last", "first_hole"] []
  F_place_holes : Fun K "place_holes" "place_holes" s_place_holes t.f_place_holes t.d_place_holes
  m_place_holes : mg "place_holes" = some (.ref t.f_place_holes)
  k_place_holes : PySem.W.keepIn K (.ref t.f_place_holes) = true
  b_place_holes : Binds K t.d_place_holes ["size", "column", "row"] []
  F_step_holes : Fun K "step_holes" "step_holes" s_step_holes t.f_step_holes t.d_step_holes
  m_step_holes : mg "step_holes" = some (.ref t.f_step_holes)
  k_step_holes : PySem.W.keepIn K (.ref t.f_step_holes) = true
  b_step_holes : Binds K t.d_step_holes ["step"] []
  F_cam_marks : Fun K "cam_marks" "cam_marks" s_cam_marks t.f_cam_marks t.d_cam_marks
  m_cam_marks : mg "cam_marks" = some (.ref t.f_cam_marks)
  k_cam_marks : PySem.W.keepIn K (.ref t.f_cam_marks) = true
  b_cam_marks : Binds K t.d_cam_marks ["cam"] []
  F_strike : Fun K "strike" "strike" s_strike t.f_strike t.d_strike
  m_strike : mg "strike" = some (.ref t.f_strike)
  k_strike : PySem.W.keepIn K (.ref t.f_strike) = true
  b_strike : Binds K t.d_strike ["size", "sign"] []
  F_is_row_of_holes : Fun K "is_row_of_holes" "is_row_of_holes" s_is_row_of_holes t.f_is_row_of_holes t.d_is_row_of_holes
  m_is_row_of_holes : mg "is_row_of_holes" = some (.ref t.f_is_row_of_holes)
  k_is_row_of_holes : PySem.W.keepIn K (.ref t.f_is_row_of_holes) = true
  b_is_row_of_holes : Binds K t.d_is_row_of_holes ["thing"] []
  F_first_between : Fun K "first_between" "first_between" s_first_between t.f_first_between t.d_first_between
  m_first_between : mg "first_between" = some (.ref t.f_first_between)
  k_first_between : PySem.W.keepIn K (.ref t.f_first_between) = true
  b_first_between : Binds K t.d_first_between ["holes", "low", "high", "last"] []
  F_likely_sign : Fun K "likely_sign" "likely_sign" s_likely_sign t.f_likely_sign t.d_likely_sign
  m_likely_sign : mg "likely_sign" = some (.ref t.f_likely_sign)
  k_likely_sign : PySem.W.keepIn K (.ref t.f_likely_sign) = true
  b_likely_sign : Binds K t.d_likely_sign ["size", "holes"] []
  F_read_holes : Fun K "read_holes" "read_holes" s_read_holes t.f_read_holes t.d_read_holes
  m_read_holes : mg "read_holes" = some (.ref t.f_read_holes)
  k_read_holes : PySem.W.keepIn K (.ref t.f_read_holes) = true
  b_read_holes : Binds K t.d_read_holes ["size", "thing"] []
  F_filled_cells : Fun K "filled_cells" "filled_cells" s_filled_cells t.f_filled_cells t.d_filled_cells
  m_filled_cells : mg "filled_cells" = some (.ref t.f_filled_cells)
  k_filled_cells : PySem.W.keepIn K (.ref t.f_filled_cells) = true
  b_filled_cells : Binds K t.d_filled_cells ["case"] []
  F_size_of : Fun K "size_of" "size_of" s_size_of t.f_size_of t.d_size_of
  m_size_of : mg "size_of" = some (.ref t.f_size_of)
  k_size_of : PySem.W.keepIn K (.ref t.f_size_of) = true
  b_size_of : Binds K t.d_size_of ["case"] []
  F_names_in : Fun K "names_in" "names_in" s_names_in t.f_names_in t.d_names_in
  m_names_in : mg "names_in" = some (.ref t.f_names_in)
  k_names_in : PySem.W.keepIn K (.ref t.f_names_in) = true
  b_names_in : Binds K t.d_names_in ["case"] []
  F_filled_cell_of : Fun K "filled_cell_of" "filled_cell_of" s_filled_cell_of t.f_filled_cell_of t.d_filled_cell_of
  m_filled_cell_of : mg "filled_cell_of" = some (.ref t.f_filled_cell_of)
  k_filled_cell_of : PySem.W.keepIn K (.ref t.f_filled_cell_of) = true
  b_filled_cell_of : Binds K t.d_filled_cell_of ["case", "thing"] []
  F_place_of : Fun K "place_of" "place_of" s_place_of t.f_place_of t.d_place_of
  m_place_of : mg "place_of" = some (.ref t.f_place_of)
  k_place_of : PySem.W.keepIn K (.ref t.f_place_of) = true
  b_place_of : Binds K t.d_place_of ["case", "thing"] []
  F_sign_of_filled : Fun K "sign_of_filled" "sign_of_filled" s_sign_of_filled t.f_sign_of_filled t.d_sign_of_filled
  m_sign_of_filled : mg "sign_of_filled" = some (.ref t.f_sign_of_filled)
  k_sign_of_filled : PySem.W.keepIn K (.ref t.f_sign_of_filled) = true
  b_sign_of_filled : Binds K t.d_sign_of_filled ["filled"] []
  F_sign_of : Fun K "sign_of" "sign_of" s_sign_of t.f_sign_of t.d_sign_of
  m_sign_of : mg "sign_of" = some (.ref t.f_sign_of)
  k_sign_of : PySem.W.keepIn K (.ref t.f_sign_of) = true
  b_sign_of : Binds K t.d_sign_of ["case", "thing"] []
  F_d_law_cell : Fun K "_law_cell" "_law_cell" s_d_law_cell t.f_d_law_cell t.d_d_law_cell
  m_d_law_cell : mg "_law_cell" = some (.ref t.f_d_law_cell)
  k_d_law_cell : PySem.W.keepIn K (.ref t.f_d_law_cell) = true
  b_d_law_cell : Binds K t.d_d_law_cell ["_law_script", "_law_k"] []
  F_d_law_bag : Fun K "_law_bag" "_law_bag" s_d_law_bag t.f_d_law_bag t.d_d_law_bag
  m_d_law_bag : mg "_law_bag" = some (.ref t.f_d_law_bag)
  k_d_law_bag : PySem.W.keepIn K (.ref t.f_d_law_bag) = true
  b_d_law_bag : Binds K t.d_d_law_bag ["_law_script", "_law_at"] []
  F_d_law_take : Fun K "_law_take" "_law_take" s_d_law_take t.f_d_law_take t.d_d_law_take
  m_d_law_take : mg "_law_take" = some (.ref t.f_d_law_take)
  k_d_law_take : PySem.W.keepIn K (.ref t.f_d_law_take) = true
  b_d_law_take : Binds K t.d_d_law_take ["_law_bag_here", "_law_many"] []
  F_d_law_name : Fun K "_law_name" "_law_name" s_d_law_name t.f_d_law_name t.d_d_law_name
  m_d_law_name : mg "_law_name" = some (.ref t.f_d_law_name)
  k_d_law_name : PySem.W.keepIn K (.ref t.f_d_law_name) = true
  b_d_law_name : Binds K t.d_d_law_name ["_law_bag_here", "_law_letters"] []
  F_d_law_case : Fun K "_law_case" "_law_case" s_d_law_case t.f_d_law_case t.d_d_law_case
  m_d_law_case : mg "_law_case" = some (.ref t.f_d_law_case)
  k_d_law_case : PySem.W.keepIn K (.ref t.f_d_law_case) = true
  b_d_law_case : Binds K t.d_d_law_case ["_law_bag_here", "_law_great"] []
  F_d_law_good : Fun K "_law_good" "_law_good" s_d_law_good t.f_d_law_good t.d_d_law_good
  m_d_law_good : mg "_law_good" = some (.ref t.f_d_law_good)
  k_d_law_good : PySem.W.keepIn K (.ref t.f_d_law_good) = true
  b_d_law_good : Binds K t.d_d_law_good ["_law_case_here", "_law_size", "_law_name_here", "_law_met"] []
  F_d_law_rest_good : Fun K "_law_rest_good" "_law_rest_good" s_d_law_rest_good t.f_d_law_rest_good t.d_d_law_rest_good
  m_d_law_rest_good : mg "_law_rest_good" = some (.ref t.f_d_law_rest_good)
  k_d_law_rest_good : PySem.W.keepIn K (.ref t.f_d_law_rest_good) = true
  b_d_law_rest_good : Binds K t.d_d_law_rest_good ["_law_case_here", "_law_size", "_law_met"] []
  F_law : Fun K "law" "law" s_law t.f_law t.d_law
  m_law : mg "law" = some (.ref t.f_law)
  k_law : PySem.W.keepIn K (.ref t.f_law) = true
  b_law : Binds K t.d_law ["_law_script"] []
  n_abs : mg "abs" = none
  n_all : mg "all" = none
  n_bool : mg "bool" = none
  n_enumerate : mg "enumerate" = none
  n_int : mg "int" = none
  n_isinstance : mg "isinstance" = none
  n_len : mg "len" = none
  n_max : mg "max" = none
  n_min : mg "min" = none
  n_range : mg "range" = none
  n_sorted : mg "sorted" = none
  n_tuple : mg "tuple" = none
  n_zip : mg "zip" = none
  c_BLANK : ∃ tk, mg "BLANK" = some (.str " " tk)
  c_BLANK_MARKS : ∃ a, mg "BLANK_MARKS" = some (.ref a) ∧ TupK K a [(V.int (28))]
  c_COARSE_MARKS : ∃ a, mg "COARSE_MARKS" = some (.ref a) ∧ TupK K a [(V.int (28)), (V.int (29))]
  c_FINE_MARKS : ∃ a, mg "FINE_MARKS" = some (.ref a) ∧ TupK K a [(V.int (28)), (V.int (30))]
  c_FIRST_MARK : ∃ tk, mg "FIRST_MARK" = some (.int 28 tk)
  c_FIRST_ROW_HOLE : ∃ tk, mg "FIRST_ROW_HOLE" = some (.int 14 tk)
  c_LAST_HOLE : ∃ tk, mg "LAST_HOLE" = some (.int 30 tk)
  c_LAST_STEP : ∃ tk, mg "LAST_STEP" = some (.int 14 tk)
  c_NARROWER_MARKS : ∃ a, mg "NARROWER_MARKS" = some (.ref a) ∧ TupK K a [(V.int (30))]
  c_STRUCK_MARKS : ∃ a, mg "STRUCK_MARKS" = some (.ref a) ∧ TupK K a [(V.int (28)), (V.int (29)), (V.int (30))]
  c_WIDER_MARKS : ∃ a, mg "WIDER_MARKS" = some (.ref a) ∧ TupK K a [(V.int (29))]
theorem sc_is_whole : FnScope ["thing"] ["thing"] (defScope s_is_whole) := ⟨rfl, rfl, rfl, by decide +kernel, rfl, by decide +kernel, by decide +kernel⟩
noncomputable def κ_is_whole : List SK := [SK.cl]
theorem kl_is_whole (ρ : EnvD) : kl κ_is_whole ρ = ρ := rfl
theorem sc_is_whole_within : FnScope ["thing", "least", "greatest"] ["thing", "least", "greatest"] (defScope s_is_whole_within) := ⟨rfl, rfl, rfl, by decide +kernel, rfl, by decide +kernel, by decide +kernel⟩
noncomputable def κ_is_whole_within : List SK := [SK.cl, SK.cl, SK.cl]
theorem kl_is_whole_within (ρ : EnvD) : kl κ_is_whole_within ρ = ρ := rfl
theorem sc_is_cam : FnScope ["thing"] ["thing"] (defScope s_is_cam) := ⟨rfl, rfl, rfl, by decide +kernel, rfl, by decide +kernel, by decide +kernel⟩
noncomputable def κ_is_cam : List SK := [SK.cl]
theorem kl_is_cam (ρ : EnvD) : kl κ_is_cam ρ = ρ := rfl
theorem sc_is_place : FnScope ["size", "column", "row", "wide", "high"] ["size", "column", "row"] (defScope s_is_place) := ⟨rfl, rfl, rfl, by decide +kernel, rfl, by decide +kernel, by decide +kernel⟩
noncomputable def κ_is_place : List SK := [SK.cl, SK.cl, SK.cl, SK.cl, SK.cl]
theorem kl_is_place (ρ : EnvD) : kl κ_is_place ρ = ρ := rfl
theorem sc_is_letter_sign : FnScope ["size", "thing"] ["size", "thing"] (defScope s_is_letter_sign) := ⟨rfl, rfl, rfl, by decide +kernel, rfl, by decide +kernel, by decide +kernel⟩
noncomputable def κ_is_letter_sign : List SK := [SK.cl, SK.cl]
theorem kl_is_letter_sign (ρ : EnvD) : kl κ_is_letter_sign ρ = ρ := rfl
theorem sc_is_blank_sign : FnScope ["size", "thing"] ["size", "thing"] (defScope s_is_blank_sign) := ⟨rfl, rfl, rfl, by decide +kernel, rfl, by decide +kernel, by decide +kernel⟩
noncomputable def κ_is_blank_sign : List SK := [SK.cl, SK.cl]
theorem kl_is_blank_sign (ρ : EnvD) : kl κ_is_blank_sign ρ = ρ := rfl
theorem sc_is_step_sign : FnScope ["thing"] ["thing"] (defScope s_is_step_sign) := ⟨rfl, rfl, rfl, by decide +kernel, rfl, by decide +kernel, by decide +kernel⟩
noncomputable def κ_is_step_sign : List SK := [SK.cl]
theorem kl_is_step_sign (ρ : EnvD) : kl κ_is_step_sign ρ = ρ := rfl
theorem sc_is_sign : FnScope ["size", "thing", "kind"] ["size", "thing"] (defScope s_is_sign) := ⟨rfl, rfl, rfl, by decide +kernel, rfl, by decide +kernel, by decide +kernel⟩
noncomputable def κ_is_sign : List SK := [SK.cl, SK.cl, SK.cl]
theorem kl_is_sign (ρ : EnvD) : kl κ_is_sign ρ = ρ := rfl
theorem sc_hole_of : FnScope ["number", "last", "first_hole"] ["number", "last", "first_hole"] (defScope s_hole_of) := ⟨rfl, rfl, rfl, by decide +kernel, rfl, by decide +kernel, by decide +kernel⟩
noncomputable def κ_hole_of : List SK := [SK.cl, SK.cl, SK.cl]
theorem kl_hole_of (ρ : EnvD) : kl κ_hole_of ρ = ρ := rfl
theorem sc_place_holes : FnScope ["size", "column", "row", "wide", "high"] ["size", "column", "row"] (defScope s_place_holes) := ⟨rfl, rfl, rfl, by decide +kernel, rfl, by decide +kernel, by decide +kernel⟩
noncomputable def κ_place_holes : List SK := [SK.cl, SK.cl, SK.cl, SK.cl, SK.cl]
theorem kl_place_holes (ρ : EnvD) : kl κ_place_holes ρ = ρ := rfl
theorem sc_step_holes : FnScope ["step"] ["step"] (defScope s_step_holes) := ⟨rfl, rfl, rfl, by decide +kernel, rfl, by decide +kernel, by decide +kernel⟩
noncomputable def κ_step_holes : List SK := [SK.cl]
theorem kl_step_holes (ρ : EnvD) : kl κ_step_holes ρ = ρ := rfl
theorem sc_cam_marks : FnScope ["cam"] ["cam"] (defScope s_cam_marks) := ⟨rfl, rfl, rfl, by decide +kernel, rfl, by decide +kernel, by decide +kernel⟩
noncomputable def κ_cam_marks : List SK := [SK.cl]
theorem kl_cam_marks (ρ : EnvD) : kl κ_cam_marks ρ = ρ := rfl
theorem sc_strike : FnScope ["size", "sign", "kind"] ["size", "sign"] (defScope s_strike) := ⟨rfl, rfl, rfl, by decide +kernel, rfl, by decide +kernel, by decide +kernel⟩
noncomputable def κ_strike : List SK := [SK.cl, SK.cl, SK.cl]
theorem kl_strike (ρ : EnvD) : kl κ_strike ρ = ρ := rfl
theorem sc_is_row_of_holes : FnScope ["thing"] ["thing"] (defScope s_is_row_of_holes) := ⟨rfl, rfl, rfl, by decide +kernel, rfl, by decide +kernel, by decide +kernel⟩
noncomputable def κ_is_row_of_holes : List SK := [SK.cl]
theorem kl_is_row_of_holes (ρ : EnvD) : kl κ_is_row_of_holes ρ = ρ := rfl
theorem sc_first_between : FnScope ["holes", "low", "high", "last", "hole"] ["holes", "low", "high", "last"] (defScope s_first_between) := ⟨rfl, rfl, rfl, by decide +kernel, rfl, by decide +kernel, by decide +kernel⟩
noncomputable def κ_first_between : List SK := [SK.cl, SK.cl, SK.cl, SK.cl, SK.cl]
theorem kl_first_between (ρ : EnvD) : kl κ_first_between ρ = ρ := rfl
theorem sc_likely_sign : FnScope ["size", "holes", "wide", "high", "marks", "step", "column", "row"] ["size", "holes"] (defScope s_likely_sign) := ⟨rfl, rfl, rfl, by decide +kernel, rfl, by decide +kernel, by decide +kernel⟩
noncomputable def κ_likely_sign : List SK := [SK.cl, SK.cl, SK.cl, SK.cl, SK.cl, SK.cl, SK.cl, SK.cl]
theorem kl_likely_sign (ρ : EnvD) : kl κ_likely_sign ρ = ρ := rfl
theorem sc_read_holes : FnScope ["size", "thing", "sign"] ["size", "thing"] (defScope s_read_holes) := ⟨rfl, rfl, rfl, by decide +kernel, rfl, by decide +kernel, by decide +kernel⟩
noncomputable def κ_read_holes : List SK := [SK.cl, SK.cl, SK.cl]
theorem kl_read_holes (ρ : EnvD) : kl κ_read_holes ρ = ρ := rfl
theorem sc_filled_cells : FnScope ["case"] ["case"] (defScope s_filled_cells) := ⟨rfl, rfl, rfl, by decide +kernel, rfl, by decide +kernel, by decide +kernel⟩
noncomputable def κ_filled_cells : List SK := [SK.cl]
theorem kl_filled_cells (ρ : EnvD) : kl κ_filled_cells ρ = ρ := rfl
theorem sc_size_of : FnScope ["case"] ["case"] (defScope s_size_of) := ⟨rfl, rfl, rfl, by decide +kernel, rfl, by decide +kernel, by decide +kernel⟩
noncomputable def κ_size_of : List SK := [SK.cl]
theorem kl_size_of (ρ : EnvD) : kl κ_size_of ρ = ρ := rfl
theorem sc_names_in : FnScope ["case"] ["case"] (defScope s_names_in) := ⟨rfl, rfl, rfl, by decide +kernel, rfl, by decide +kernel, by decide +kernel⟩
noncomputable def κ_names_in : List SK := [SK.cl]
theorem kl_names_in (ρ : EnvD) : kl κ_names_in ρ = ρ := rfl
theorem sc_filled_cell_of : FnScope ["case", "thing", "cell"] ["case", "thing"] (defScope s_filled_cell_of) := ⟨rfl, rfl, rfl, by decide +kernel, rfl, by decide +kernel, by decide +kernel⟩
noncomputable def κ_filled_cell_of : List SK := [SK.cl, SK.cl, SK.cl]
theorem kl_filled_cell_of (ρ : EnvD) : kl κ_filled_cell_of ρ = ρ := rfl
theorem sc_place_of : FnScope ["case", "thing", "name", "column", "row", "cam"] ["case", "thing"] (defScope s_place_of) := ⟨rfl, rfl, rfl, by decide +kernel, rfl, by decide +kernel, by decide +kernel⟩
noncomputable def κ_place_of : List SK := [SK.cl, SK.cl, SK.cl, SK.cl, SK.cl, SK.cl]
theorem kl_place_of (ρ : EnvD) : kl κ_place_of ρ = ρ := rfl
theorem sc_sign_of_filled : FnScope ["filled", "name", "column", "row", "cam"] ["filled"] (defScope s_sign_of_filled) := ⟨rfl, rfl, rfl, by decide +kernel, rfl, by decide +kernel, by decide +kernel⟩
noncomputable def κ_sign_of_filled : List SK := [SK.cl, SK.cl, SK.cl, SK.cl, SK.cl]
theorem kl_sign_of_filled (ρ : EnvD) : kl κ_sign_of_filled ρ = ρ := rfl
theorem sc_sign_of : FnScope ["case", "thing"] ["case", "thing"] (defScope s_sign_of) := ⟨rfl, rfl, rfl, by decide +kernel, rfl, by decide +kernel, by decide +kernel⟩
noncomputable def κ_sign_of : List SK := [SK.cl, SK.cl]
theorem kl_sign_of (ρ : EnvD) : kl κ_sign_of ρ = ρ := rfl
theorem sc_d_law_cell : FnScope ["_law_script", "_law_k"] ["_law_script", "_law_k"] (defScope s_d_law_cell) := ⟨rfl, rfl, rfl, by decide +kernel, rfl, by decide +kernel, by decide +kernel⟩
noncomputable def κ_d_law_cell : List SK := [SK.cl, SK.cl]
theorem kl_d_law_cell (ρ : EnvD) : kl κ_d_law_cell ρ = ρ := rfl
theorem sc_d_law_bag : FnScope ["_law_script", "_law_at", "_law_cell_here", "_law_mix", "_law_k"] ["_law_script", "_law_at"] (defScope s_d_law_bag) := ⟨rfl, rfl, rfl, by decide +kernel, rfl, by decide +kernel, by decide +kernel⟩
noncomputable def κ_d_law_bag : List SK := [SK.cl, SK.cl, SK.cl, SK.cl, SK.cl]
theorem kl_d_law_bag (ρ : EnvD) : kl κ_d_law_bag ρ = ρ := rfl
theorem sc_d_law_take : FnScope ["_law_bag_here", "_law_many", "_law_digit"] ["_law_bag_here", "_law_many"] (defScope s_d_law_take) := ⟨rfl, rfl, rfl, by decide +kernel, rfl, by decide +kernel, by decide +kernel⟩
noncomputable def κ_d_law_take : List SK := [SK.io 1, SK.cl, SK.cl]
theorem kl_d_law_take (ρ : EnvD) : kl κ_d_law_take ρ = ρ := rfl
theorem sc_d_law_name : FnScope ["_law_bag_here", "_law_letters", "_law_name_here", "_law_k"] ["_law_bag_here", "_law_letters"] (defScope s_d_law_name) := ⟨rfl, rfl, rfl, by decide +kernel, rfl, by decide +kernel, by decide +kernel⟩
noncomputable def κ_d_law_name : List SK := [SK.io 1, SK.cl, SK.cl, SK.cl]
theorem kl_d_law_name (ρ : EnvD) : kl κ_d_law_name ρ = ρ := rfl
theorem sc_d_law_case : FnScope ["_law_bag_here", "_law_great", "_law_wide", "_law_high", "_law_letters", "_law_first", "_law_units", "_law_cells", "_law_blank", "_law_names", "_law_k", "_law_place", "_law_name_here", "_law_cam", "_law_row"] ["_law_bag_here", "_law_great"] (defScope s_d_law_case) := ⟨rfl, rfl, rfl, by decide +kernel, rfl, by decide +kernel, by decide +kernel⟩
noncomputable def κ_d_law_case : List SK := [SK.io 1, SK.cl, SK.cl, SK.cl, SK.cl, SK.cl, SK.cl, SK.ow 2, SK.cl, SK.ow 1, SK.cl, SK.cl, SK.cl, SK.cl, SK.cl]
theorem kl_d_law_case (ρ : EnvD) : kl κ_d_law_case ρ = ρ := rfl
theorem sc_d_law_good : FnScope ["_law_case_here", "_law_size", "_law_name_here", "_law_met", "_law_sign", "_law_holes", "_law_cam"] ["_law_case_here", "_law_size", "_law_name_here", "_law_met"] (defScope s_d_law_good) := ⟨rfl, rfl, rfl, by decide +kernel, rfl, by decide +kernel, by decide +kernel⟩
noncomputable def κ_d_law_good : List SK := [SK.cl, SK.cl, SK.cl, SK.io 1, SK.cl, SK.cl, SK.cl]
theorem kl_d_law_good (ρ : EnvD) : kl κ_d_law_good ρ = ρ := rfl
theorem sc_d_law_rest_good : FnScope ["_law_case_here", "_law_size", "_law_met", "_law_row", "_law_column", "_law_cam"] ["_law_case_here", "_law_size", "_law_met"] (defScope s_d_law_rest_good) := ⟨rfl, rfl, rfl, by decide +kernel, rfl, by decide +kernel, by decide +kernel⟩
noncomputable def κ_d_law_rest_good : List SK := [SK.cl, SK.cl, SK.cl, SK.cl, SK.cl, SK.cl]
theorem kl_d_law_rest_good (ρ : EnvD) : kl κ_d_law_rest_good ρ = ρ := rfl
theorem sc_law : FnScope ["_law_script", "_law_k", "_law_bag_here", "_law_case_here", "_law_size", "_law_met"] ["_law_script"] (defScope s_law) := ⟨rfl, rfl, rfl, by decide +kernel, rfl, by decide +kernel, by decide +kernel⟩
noncomputable def κ_law : List SK := [SK.cl, SK.cl, SK.ow 1, SK.cl, SK.cl, SK.ow 1]
theorem kl_law (ρ : EnvD) : kl κ_law ρ = ρ := rfl
noncomputable def BagOk (m c : Int) : Prop := 0 ≤ m ∧ 0 ≤ c ∧ (c = 0 ∨ m < 2147483647)
noncomputable def sd_d_law_cell : List D → (D → Prop) → Prop := fun ds q => ∃ ns k, ds = [.scr ns, .int k] ∧ 0 ≤ k ∧ ∀ n, q (.int n)
noncomputable def sd_d_law_bag : List D → (D → Prop) → Prop := fun ds q => ∃ ns k, ds = [.scr ns, .int k] ∧ 0 ≤ k ∧ k ≤ 1000 ∧ ∀ m c, BagOk m c → q (.lst [.int m, .int c])
noncomputable def sd_d_law_take : List D → (D → D → Prop) → Prop := fun ds q => ∃ m c n, ds = [.lst [.int m, .int c], .int n] ∧ BagOk m c ∧ 0 < n ∧ n < 1073741824 ∧ ∀ r m' c', 0 ≤ r → r < n → BagOk m' c' → q (.int r) (.lst [.int m', .int c'])
noncomputable def smallC (c : Nat) : Prop := 97 ≤ c ∧ c ≤ 122
noncomputable def LetOk (L : Str) : Prop := 1 ≤ L.length ∧ L.length ≤ 26 ∧ ∀ c ∈ L.cps.toList, smallC c
noncomputable def NameOk (z : Str) : Prop := 1 ≤ z.length ∧ z.length ≤ 3 ∧ ∀ c ∈ z.cps.toList, smallC c
noncomputable def sd_d_law_name : List D → (D → D → Prop) → Prop := fun ds q => ∃ m c L, ds = [.lst [.int m, .int c], .str L] ∧ BagOk m c ∧ LetOk L ∧ ∀ z m' c', NameOk z → BagOk m' c' → q (.str z) (.lst [.int m', .int c'])
noncomputable abbrev Cell := Option (Str × Int)
noncomputable def cellD : Cell → D
  | none => .non
  | some (n, k) => .tup [.str n, .int k]
noncomputable def cellAt (rows : List (List Cell)) (r c : Nat) : Option Cell := (rows[r]?).bind (·[c]?)
structure CaseG (us : List Int) (rows : List (List Cell)) (w h : Nat) : Prop where
  w2 : 2 ≤ w
  w15 : w ≤ 15
  h2 : 2 ≤ h
  h15 : h ≤ 15
  ul : us.length = h
  rl : rows.length = h
  cl : ∀ r ∈ rows, r.length = w
  ub : ∀ u ∈ us, 1 ≤ u ∧ u ≤ 30
  blank : ∃ r c, cellAt rows r c = some (some ((" " : Str), 0))
  cells : ∀ r c n k, cellAt rows r c = some (some (n, k)) → (n = " " ∧ k = 0) ∨ (NameOk n ∧ (k = -1 ∨ k = 0 ∨ k = 1) ∧ ∃ u, us[r]? = some u ∧ 0 < u + k)
  uniq : ∀ r c r' c' n k k', cellAt rows r c = some (some (n, k)) → cellAt rows r' c' = some (some (n, k')) → r = r' ∧ c = c'
noncomputable def Few (rows : List (List Cell)) : Prop := ∃ ns : List Str, ns.length ≤ 30 ∧ ∀ r c n k, cellAt rows r c = some (some (n, k)) → n = " " ∨ n ∈ ns
noncomputable def gridT (rows : List (List Cell)) : D := .tup (rows.map fun r => .tup (r.map cellD))
noncomputable def gridL (rows : List (List Cell)) : D := .lst (rows.map fun r => .lst (r.map cellD))
noncomputable def caseD (us : List Int) (rows : List (List Cell)) : D := .tup [.tup (us.map D.int), gridT rows]
noncomputable def sd_d_law_case : List D → (D → D → Prop) → Prop := fun ds q => ∃ m c g, ds = [.lst [.int m, .int c], .int g] ∧ BagOk m c ∧ (g = 0 ∨ g = 1) ∧ ∀ us rows w h m' c', CaseG us rows w h → Few rows → BagOk m' c' → q (caseD us rows) (.lst [.int m', .int c'])
noncomputable abbrev Fc := Str × Nat × Nat × Int
noncomputable def fcD (f : Fc) : D := .tup [.str f.1, .int f.2.1, .int f.2.2.1, .int f.2.2.2]
noncomputable def oneF (r c : Nat) : Option Cell → List Fc
  | some (some (n, k)) => [(n, c, r, k)]
  | _ => []
noncomputable def fRow (r : Nat) (cells : List Cell) : Nat → List Fc
  | 0 => []
  | j + 1 => fRow r cells j ++ oneF r j cells[j]?
noncomputable def fRows (rows : List (List Cell)) : Nat → List Fc
  | 0 => []
  | i + 1 => fRows rows i ++ (match rows[i]? with
    | some cells => fRow i cells cells.length
    | none => [])
noncomputable def filled (rows : List (List Cell)) : List Fc := fRows rows rows.length
noncomputable def sd_filled_cells : List D → (D → Prop) → Prop := fun ds q => ∃ us rows w h, ds = [caseD us rows] ∧ CaseG us rows w h ∧ q (.lst ((filled rows).map fcD))
noncomputable def namesOf (rows : List (List Cell)) : List Str := ((filled rows).map (·.1)).filter fun n => !(n == (" " : Str))
noncomputable def sd_size_of : List D → (D → Prop) → Prop := fun ds q => ∃ us rows w h, ds = [caseD us rows] ∧ CaseG us rows w h ∧ q (.tup [.int (w : Int), .int (h : Int)])
noncomputable def sd_names_in : List D → (D → Prop) → Prop := fun ds q => ∃ us rows w h, ds = [caseD us rows] ∧ CaseG us rows w h ∧ Few rows ∧ ∀ ss : List Str, ss.Perm (namesOf rows) → PyProof.Rows.sortedS ss = true → q (.lst (ss.map D.str))
inductive Sg where
  | ltr (c r : Nat) (k : Int) | blk (c r : Nat) | crs (s : Nat) | fne (s : Nat) | stk
noncomputable def signD : Sg → D
  | .ltr c r k => .tup [.str "letter", .int c, .int r, .int k]
  | .blk c r => .tup [.str "blank", .int c, .int r]
  | .crs s => .tup [.str "coarse", .int s]
  | .fne s => .tup [.str "fine", .int s]
  | .stk => .tup [.str "struck"]
noncomputable def SizeOk (w h : Nat) : Prop := 2 ≤ w ∧ w ≤ 15 ∧ 2 ≤ h ∧ h ≤ 15
noncomputable def SgOk (w h : Nat) : Sg → Prop
  | .ltr c r k => c < w ∧ r < h ∧ (k = -1 ∨ k = 0 ∨ k = 1)
  | .blk c r => c < w ∧ r < h
  | .crs s => s ≤ 14
  | .fne s => s ≤ 14
  | .stk => True
noncomputable def hole (n last first : Int) : List Int := if n = last then [] else [first + n]
noncomputable def placeH (w h c r : Nat) : List Int := hole c ((w : Int) - 1) 0 ++ hole r ((h : Int) - 1) 14
noncomputable def camM (k : Int) : List Int := if k = 1 then [29] else if k = -1 then [30] else []
noncomputable def holesF (w h : Nat) : Sg → List Int
  | .ltr c r k => placeH w h c r ++ camM k
  | .blk c r => placeH w h c r ++ [28]
  | .crs s => hole s 14 14 ++ [28, 29]
  | .fne s => hole s 14 14 ++ [28, 30]
  | .stk => [28, 29, 30]
noncomputable def sizeD (w h : Nat) : D := .tup [.int w, .int h]
noncomputable def rowD (l : List Int) : D := .tup (l.map D.int)
noncomputable def firstB : List Int → Int → Int → Int → Int
  | [], _, _, last => last
  | x :: l, lo, hi, last => if lo ≤ x ∧ x < hi then x - lo else firstB l lo hi last
noncomputable def Up (l : List Int) : Prop := (∀ x ∈ l, 0 ≤ x ∧ x ≤ 30) ∧ l.Pairwise (· < ·)
noncomputable def sd_is_whole : List D → (D → Prop) → Prop := fun ds q => ∃ i, ds = [.int i] ∧ q (.bl true)
noncomputable def sd_is_whole_within : List D → (D → Prop) → Prop := fun ds q => ∃ i a b, ds = [.int i, .int a, .int b] ∧ q (.bl (decide (a ≤ i) && decide (i ≤ b)))
noncomputable def sd_is_cam : List D → (D → Prop) → Prop := fun ds q => ∃ k, ds = [.int k] ∧ (k = -1 ∨ k = 0 ∨ k = 1) ∧ q (.bl true)
noncomputable def sd_is_place : List D → (D → Prop) → Prop := fun ds q => ∃ w h c r, ds = [sizeD w h, .int (c : Nat), .int (r : Nat)] ∧ c < w ∧ r < h ∧ q (.bl true)
noncomputable def sd_is_letter_sign : List D → (D → Prop) → Prop := fun ds q => ∃ w h c r k, ds = [sizeD w h, signD (.ltr c r k)] ∧ SgOk w h (.ltr c r k) ∧ q (.bl true)
noncomputable def sd_is_blank_sign : List D → (D → Prop) → Prop := fun ds q => ∃ w h c r, ds = [sizeD w h, signD (.blk c r)] ∧ SgOk w h (.blk c r) ∧ q (.bl true)
noncomputable def sd_is_step_sign : List D → (D → Prop) → Prop := fun ds q => ∃ x, ∃ s : Nat, ds = [.tup [x, .int s]] ∧ s ≤ 14 ∧ q (.bl true)
noncomputable def sd_is_sign : List D → (D → Prop) → Prop := fun ds q => ∃ w h g, ds = [sizeD w h, signD g] ∧ SgOk w h g ∧ q (.bl true)
noncomputable def sd_hole_of : List D → (D → Prop) → Prop := fun ds q => ∃ n a b, ds = [.int n, .int a, .int b] ∧ q (rowD (hole n a b))
noncomputable def sd_place_holes : List D → (D → Prop) → Prop := fun ds q => ∃ w h c r, ds = [sizeD w h, .int (c : Nat), .int (r : Nat)] ∧ q (rowD (placeH w h c r))
noncomputable def sd_step_holes : List D → (D → Prop) → Prop := fun ds q => ∃ s : Nat, ds = [.int s] ∧ q (rowD (hole s 14 14))
noncomputable def sd_cam_marks : List D → (D → Prop) → Prop := fun ds q => ∃ k, ds = [.int k] ∧ q (rowD (camM k))
noncomputable def sd_strike : List D → (D → Prop) → Prop := fun ds q => ∃ w h g, ds = [sizeD w h, signD g] ∧ q (rowD (holesF w h g))
noncomputable def sd_is_row_of_holes : List D → (D → Prop) → Prop := fun ds q => ∃ l, ds = [rowD l] ∧ Up l ∧ l.length ≤ 31 ∧ q (.bl true)
noncomputable def sd_first_between : List D → (D → Prop) → Prop := fun ds q => ∃ l a b c, ds = [rowD l, .int a, .int b, .int c] ∧ q (.int (firstB l a b c))
noncomputable def sd_likely_sign : List D → (D → Prop) → Prop := fun ds q => ∃ w h g, ds = [sizeD w h, rowD (holesF w h g)] ∧ SizeOk w h ∧ SgOk w h g ∧ q (signD g)
noncomputable def sd_read_holes : List D → (D → Prop) → Prop := fun ds q => ∃ w h g, ds = [sizeD w h, rowD (holesF w h g)] ∧ SizeOk w h ∧ SgOk w h g ∧ q (signD g)
noncomputable def signF (f : Fc) : Sg := if f.1 = (" " : Str) then .blk f.2.1 f.2.2.1 else .ltr f.2.1 f.2.2.1 f.2.2.2
noncomputable def sd_filled_cell_of : List D → (D → Prop) → Prop := fun ds q => ∃ us rows w h f, ds = [caseD us rows, .str f.1] ∧ CaseG us rows w h ∧ f ∈ filled rows ∧ q (fcD f)
noncomputable def sd_place_of : List D → (D → Prop) → Prop := fun ds q => ∃ us rows w h f, ds = [caseD us rows, .str f.1] ∧ CaseG us rows w h ∧ f ∈ filled rows ∧ q (.tup [.int f.2.1, .int f.2.2.1])
noncomputable def sd_sign_of_filled : List D → (D → Prop) → Prop := fun ds q => ∃ f, ds = [fcD f] ∧ q (signD (signF f))
noncomputable def sd_sign_of : List D → (D → Prop) → Prop := fun ds q => ∃ us rows w h f, ds = [caseD us rows, .str f.1] ∧ CaseG us rows w h ∧ f ∈ filled rows ∧ q (signD (signF f))
noncomputable def keyOf (l : List Int) : List Key := l.map Sum.inl
noncomputable def sd_d_law_good : List D → (D → D → Prop) → Prop := fun ds q => ∃ us rows w h f ks l, ds = [caseD us rows, sizeD w h, .str f.1, .dT ks l] ∧ CaseG us rows w h ∧ f ∈ filled rows ∧ ks.length ≤ 300 ∧ hasT ks (keyOf (holesF w h (signF f))) = false ∧ q (.bl true) (.dT (ks ++ [keyOf (holesF w h (signF f))]) (l ++ [.str f.1]))
noncomputable def sd_d_law_rest_good : List D → (D → Prop) → Prop := fun ds q => ∃ us rows w h, ∃ fs : List Fc, ∃ l, ds = [caseD us rows, sizeD w h, .dT (fs.map fun f => keyOf (holesF w h (signF f))) l] ∧ CaseG us rows w h ∧ (∀ f ∈ fs, f ∈ filled rows) ∧ q (.bl true)
noncomputable def B_is_whole : DTS := (sRet (eAndV (eCallB cIsi (eCons (eVar 0) (eCons (eC (.ty "int")) eNil))) (eNotV (eCallB cIsi (eCons (eVar 0) (eCons (eC (.ty "bool")) eNil))))))
noncomputable def B_is_whole_within : DTS := (sRet (eAndV (eCall sd_is_whole (eLen 1 (eCons (eVar 0) eNil))) (eChain oLe oLe (eVar 1) (eVar 0) (eVar 2))))
noncomputable def B_is_cam : DTS := (sRet (eCall sd_is_whole_within (eLen 3 (eCons (eVar 0) (eCons (eNeg (eC (.int 1))) (eCons (eC (.int 1)) eNil))))))
noncomputable def B_is_place : DTS := (sSeq (sAsg (eVar 0) (gdTup 2 (gdCons (gdName 3) (gdCons (gdName 4) gdNil))))
  (sRet (eAndV (eCall sd_is_whole_within (eLen 3 (eCons (eVar 1) (eCons (eC (.int 0)) (eCons (eOp oSub (eVar 3) (eC (.int 1))) eNil))))) (eCall sd_is_whole_within (eLen 3 (eCons (eVar 2) (eCons (eC (.int 0)) (eCons (eOp oSub (eVar 4) (eC (.int 1))) eNil))))))))
noncomputable def B_is_letter_sign : DTS := (sRet (eAndV (eOp oEq (eCallB cLen (eCons (eVar 1) eNil)) (eC (.int 4))) (eAndV (eCall sd_is_place (eLen 3 (eCons (eVar 0) (eCons (eOp xT (eVar 1) (eC (.int 1))) (eCons (eOp xT (eVar 1) (eC (.int 2))) eNil))))) (eCall sd_is_cam (eLen 1 (eCons (eOp xT (eVar 1) (eC (.int 3))) eNil))))))
noncomputable def B_is_blank_sign : DTS := (sRet (eAndV (eOp oEq (eCallB cLen (eCons (eVar 1) eNil)) (eC (.int 3))) (eCall sd_is_place (eLen 3 (eCons (eVar 0) (eCons (eOp xT (eVar 1) (eC (.int 1))) (eCons (eOp xT (eVar 1) (eC (.int 2))) eNil)))))))
noncomputable def B_is_step_sign : DTS := (sRet (eAndV (eOp oEq (eCallB cLen (eCons (eVar 0) eNil)) (eC (.int 2))) (eCall sd_is_whole_within (eLen 3 (eCons (eOp xT (eVar 0) (eC (.int 1))) (eCons (eC (.int 0)) (eCons (eC (.int 14)) eNil)))))))
noncomputable def B_is_sign : DTS := (sSeq (sIf (eOrT (eNotT (eTest (eCallB cIsi (eCons (eVar 1) (eCons (eC (.ty "tuple")) eNil))))) (eTest (eOp oEq (eCallB cLen (eCons (eVar 1) eNil)) (eC (.int 0))))) (sRet (eC (.bl false))) sNext)
  (sSeq (sSet 2 (eOp xT (eVar 1) (eC (.int 0))))
  (sSeq (sIf (eTest (eOp oEq (eVar 2) (eC (.str "letter")))) (sRet (eCall sd_is_letter_sign (eLen 2 (eCons (eVar 0) (eCons (eVar 1) eNil))))) sNext)
  (sSeq (sIf (eTest (eOp oEq (eVar 2) (eC (.str "blank")))) (sRet (eCall sd_is_blank_sign (eLen 2 (eCons (eVar 0) (eCons (eVar 1) eNil))))) sNext)
  (sSeq (sIf (eOrT (eTest (eOp oEq (eVar 2) (eC (.str "coarse")))) (eTest (eOp oEq (eVar 2) (eC (.str "fine"))))) (sRet (eCall sd_is_step_sign (eLen 1 (eCons (eVar 1) eNil)))) sNext)
  (sRet (eAndV (eOp oEq (eVar 2) (eC (.str "struck"))) (eOp oEq (eCallB cLen (eCons (eVar 1) eNil)) (eC (.int 1))))))))))
noncomputable def B_hole_of : DTS := (sSeq (sIf (eTest (eOp oEq (eVar 0) (eVar 1))) (sRet (eTup eNil)) sNext)
  (sRet (eTup (eCons (eOp oAdd (eVar 2) (eVar 0)) eNil))))
noncomputable def B_place_holes : DTS := (sSeq (sAsg (eVar 0) (gdTup 2 (gdCons (gdName 3) (gdCons (gdName 4) gdNil))))
  (sRet (eOp oCatT (eCall sd_hole_of (eLen 3 (eCons (eVar 1) (eCons (eOp oSub (eVar 3) (eC (.int 1))) (eCons (eC (.int 0)) eNil))))) (eCall sd_hole_of (eLen 3 (eCons (eVar 2) (eCons (eOp oSub (eVar 4) (eC (.int 1))) (eCons (eC (.int 14)) eNil))))))))
noncomputable def B_step_holes : DTS := (sRet (eCall sd_hole_of (eLen 3 (eCons (eVar 0) (eCons (eC (.int 14)) (eCons (eC (.int 14)) eNil))))))
noncomputable def B_cam_marks : DTS := (sSeq (sIf (eTest (eOp oEq (eVar 0) (eC (.int 1)))) (sRet (eC (.tup [(.int 29)]))) sNext)
  (sSeq (sIf (eTest (eOp oEq (eVar 0) (eNeg (eC (.int 1))))) (sRet (eC (.tup [(.int 30)]))) sNext)
  (sRet (eTup eNil))))
noncomputable def B_strike : DTS := (sSeq (sSet 2 (eOp xT (eVar 1) (eC (.int 0))))
  (sSeq (sIf (eTest (eOp oEq (eVar 2) (eC (.str "letter")))) (sRet (eOp oCatT (eCall sd_place_holes (eLen 3 (eCons (eVar 0) (eCons (eOp xT (eVar 1) (eC (.int 1))) (eCons (eOp xT (eVar 1) (eC (.int 2))) eNil))))) (eCall sd_cam_marks (eLen 1 (eCons (eOp xT (eVar 1) (eC (.int 3))) eNil))))) sNext)
  (sSeq (sIf (eTest (eOp oEq (eVar 2) (eC (.str "blank")))) (sRet (eOp oCatT (eCall sd_place_holes (eLen 3 (eCons (eVar 0) (eCons (eOp xT (eVar 1) (eC (.int 1))) (eCons (eOp xT (eVar 1) (eC (.int 2))) eNil))))) (eC (.tup [(.int 28)])))) sNext)
  (sSeq (sIf (eTest (eOp oEq (eVar 2) (eC (.str "coarse")))) (sRet (eOp oCatT (eCall sd_step_holes (eLen 1 (eCons (eOp xT (eVar 1) (eC (.int 1))) eNil))) (eC (.tup [(.int 28), (.int 29)])))) sNext)
  (sSeq (sIf (eTest (eOp oEq (eVar 2) (eC (.str "fine")))) (sRet (eOp oCatT (eCall sd_step_holes (eLen 1 (eCons (eOp xT (eVar 1) (eC (.int 1))) eNil))) (eC (.tup [(.int 28), (.int 30)])))) sNext)
  (sRet (eC (.tup [(.int 28), (.int 29), (.int 30)]))))))))
noncomputable def B_is_row_of_holes : DTS := (sSeq (sIf (eNotT (eTest (eCallB cIsi (eCons (eVar 0) (eCons (eC (.ty "tuple")) eNil))))) (sRet (eC (.bl false))) sNext)
  (sSeq (sIf (eNotT (eTest (eCallB cAll (eCons (eComp [none] (iT (eVar 0)) (gdName 0) eYes (eCall sd_is_whole_within (eLen 3 (eCons (eVar 0) (eCons (eC (.int 0)) (eCons (eC (.int 30)) eNil)))))) eNil)))) (sRet (eC (.bl false))) sNext)
  (sRet (eCallB cAll (eCons (eComp [none, none] (iZ (eCons (eVar 0) (eCons (eSl slT (eVar 0) (eOSome (eC (.int 1))) eONone) eNil))) (gdTup 2 (gdCons (gdName 0) (gdCons (gdName 1) gdNil))) eYes (eOp oLt (eVar 0) (eVar 1))) eNil)))))
noncomputable def B_first_between : DTS := (sSeq (sFor (iT (eVar 0)) (gdName 4) (sIf (eTest (eChain oLe oLt (eVar 1) (eVar 4) (eVar 2))) (sRet (eOp oSub (eVar 4) (eVar 1))) sNext))
  (sRet (eVar 3)))
noncomputable def B_likely_sign : DTS := (sSeq (sAsg (eVar 0) (gdTup 2 (gdCons (gdName 2) (gdCons (gdName 3) gdNil))))
  (sSeq (sSet 4 (eCallB cTuple (eCons (eComp [none] (iT (eVar 1)) (gdName 0) (eTest (eOp oGe (eVar 0) (eC (.int 28)))) (eVar 0)) eNil)))
  (sSeq (sIf (eTest (eOp oEq (eVar 4) (eC (.tup [(.int 28), (.int 29), (.int 30)])))) (sRet (eTup (eCons (eC (.str "struck")) eNil))) sNext)
  (sSeq (sSet 5 (eCall sd_first_between (eLen 4 (eCons (eVar 1) (eCons (eC (.int 14)) (eCons (eC (.int 28)) (eCons (eC (.int 14)) eNil)))))))
  (sSeq (sIf (eTest (eOp oEq (eVar 4) (eC (.tup [(.int 28), (.int 29)])))) (sRet (eTup (eCons (eC (.str "coarse")) (eCons (eVar 5) eNil)))) sNext)
  (sSeq (sIf (eTest (eOp oEq (eVar 4) (eC (.tup [(.int 28), (.int 30)])))) (sRet (eTup (eCons (eC (.str "fine")) (eCons (eVar 5) eNil)))) sNext)
  (sSeq (sSet 6 (eCall sd_first_between (eLen 4 (eCons (eVar 1) (eCons (eC (.int 0)) (eCons (eC (.int 14)) (eCons (eOp oSub (eVar 2) (eC (.int 1))) eNil)))))))
  (sSeq (sSet 7 (eCall sd_first_between (eLen 4 (eCons (eVar 1) (eCons (eC (.int 14)) (eCons (eC (.int 28)) (eCons (eOp oSub (eVar 3) (eC (.int 1))) eNil)))))))
  (sSeq (sIf (eTest (eOp oEq (eVar 4) (eC (.tup [(.int 28)])))) (sRet (eTup (eCons (eC (.str "blank")) (eCons (eVar 6) (eCons (eVar 7) eNil))))) sNext)
  (sSeq (sIf (eTest (eOp oEq (eVar 4) (eC (.tup [(.int 29)])))) (sRet (eTup (eCons (eC (.str "letter")) (eCons (eVar 6) (eCons (eVar 7) (eCons (eC (.int 1)) eNil)))))) sNext)
  (sSeq (sIf (eTest (eOp oEq (eVar 4) (eC (.tup [(.int 30)])))) (sRet (eTup (eCons (eC (.str "letter")) (eCons (eVar 6) (eCons (eVar 7) (eCons (eNeg (eC (.int 1))) eNil)))))) sNext)
  (sRet (eTup (eCons (eC (.str "letter")) (eCons (eVar 6) (eCons (eVar 7) (eCons (eC (.int 0)) eNil)))))))))))))))))
noncomputable def B_read_holes : DTS := (sSeq (sIf (eNotT (eTest (eCall sd_is_row_of_holes (eLen 1 (eCons (eVar 1) eNil))))) (fun _ _ => False) sNext)
  (sSeq (sSet 2 (eCall sd_likely_sign (eLen 2 (eCons (eVar 0) (eCons (eVar 1) eNil)))))
  (sSeq (sIf (eOrT (eNotT (eTest (eCall sd_is_sign (eLen 2 (eCons (eVar 0) (eCons (eVar 2) eNil)))))) (eTest (eOp oNe (eCall sd_strike (eLen 2 (eCons (eVar 0) (eCons (eVar 2) eNil)))) (eVar 1)))) (fun _ _ => False) sNext)
  (sRet (eVar 2)))))
noncomputable def B_filled_cells : DTS := (sRet (eComp2 [none, none, none, none] (iE (eCons (eOp xT (eVar 0) (eC (.int 1))) eNil)) (gdTup 2 (gdCons (gdName 0) (gdCons (gdName 1) gdNil))) eYes (iE (eCons (eVar 1) eNil)) (gdTup 2 (gdCons (gdName 2) (gdCons (gdName 3) gdNil))) (eTest (eOp oIsnot (eVar 3) (eC .non))) (eTup (eCons (eOp xT (eVar 3) (eC (.int 0))) (eCons (eVar 2) (eCons (eVar 0) (eCons (eOp xT (eVar 3) (eC (.int 1))) eNil)))))))
noncomputable def B_size_of : DTS := (sRet (eTup (eCons (eCallB cLen (eCons (eOp xT (eOp xT (eVar 0) (eC (.int 1))) (eC (.int 0))) eNil)) (eCons (eCallB cLen (eCons (eOp xT (eVar 0) (eC (.int 0))) eNil)) eNil))))
noncomputable def B_names_in : DTS := (sRet (eCallB cSorted (eCons (eComp [none, none, none, none] (iL (eCall sd_filled_cells (eLen 1 (eCons (eVar 0) eNil)))) (gdTup 4 (gdCons (gdName 0) (gdCons (gdName 1) (gdCons (gdName 2) (gdCons (gdName 3) gdNil))))) (eTest (eOp oNe (eVar 0) (eC (.str " ")))) (eVar 0)) eNil)))
noncomputable def B_filled_cell_of : DTS := (sSeq (sFor (iL (eCall sd_filled_cells (eLen 1 (eCons (eVar 0) eNil)))) (gdName 2) (sIf (eTest (eOp oEq (eOp xT (eVar 2) (eC (.int 0))) (eVar 1))) (sRet (eVar 2)) sNext))
  (fun _ _ => False))
noncomputable def B_place_of : DTS := (sSeq (sAsg (eCall sd_filled_cell_of (eLen 2 (eCons (eVar 0) (eCons (eVar 1) eNil)))) (gdTup 4 (gdCons (gdName 2) (gdCons (gdName 3) (gdCons (gdName 4) (gdCons (gdName 5) gdNil))))))
  (sRet (eTup (eCons (eVar 3) (eCons (eVar 4) eNil)))))
noncomputable def B_sign_of_filled : DTS := (sSeq (sAsg (eVar 0) (gdTup 4 (gdCons (gdName 1) (gdCons (gdName 2) (gdCons (gdName 3) (gdCons (gdName 4) gdNil))))))
  (sSeq (sIf (eTest (eOp oEq (eVar 1) (eC (.str " ")))) (sRet (eTup (eCons (eC (.str "blank")) (eCons (eVar 2) (eCons (eVar 3) eNil))))) sNext)
  (sRet (eTup (eCons (eC (.str "letter")) (eCons (eVar 2) (eCons (eVar 3) (eCons (eVar 4) eNil))))))))
noncomputable def B_sign_of : DTS := (sRet (eCall sd_sign_of_filled (eLen 1 (eCons (eCall sd_filled_cell_of (eLen 2 (eCons (eVar 0) (eCons (eVar 1) eNil)))) eNil))))
noncomputable def B_d_law_cell : DTS := (sSeq (sIf (eTest (eOp oLt (eVar 1) (eCallB cLen (eCons (eVar 0) eNil)))) (sRet (eOp xScr (eVar 0) (eVar 1))) sNext)
  (sRet (eC (.int 0))))
noncomputable def B_d_law_bag : DTS := (sSeq (sSet 2 (eOp oMod (eCallB cAbs (eCons (eCall sd_d_law_cell (eLen 2 (eCons (eVar 0) (eCons (eVar 1) eNil)))) eNil)) (eOp oMul (eOp oMul (eOp oPow (eC (.int 10)) (eC (.int 60))) (eOp oPow (eC (.int 10)) (eC (.int 60)))) (eOp oPow (eC (.int 10)) (eC (.int 60))))))
  (sSeq (sIf (eTest (eOp oGe (eVar 2) (eOp oPow (eC (.int 10)) (eC (.int 18))))) (sRet (eLst (eCons (eVar 2) (eCons (eC (.int 0)) eNil)))) sNext)
  (sSeq (sSet 3 (eOp oMod (eOp oAdd (eOp oAdd (eVar 2) (eOp oMul (eC (.int 7919)) (eVar 1))) (eC (.int 17))) (eC (.int 2147483647))))
  (sSeq (sFor (iR1 (eCons (eCallB cMin2 (eCons (eCallB cLen (eCons (eVar 0) eNil)) (eCons (eC (.int 9)) eNil))) eNil)) (gdName 4) (sSet 3 (eOp oMod (eOp oAdd (eOp oAdd (eOp oPow (eVar 3) (eC (.int 5))) (eOp oMod (eOp xScr (eVar 0) (eVar 4)) (eC (.int 2147483629)))) (eOp oMul (eC (.int 31)) (eVar 4))) (eC (.int 2147483647)))))
  (sRet (eLst (eCons (eVar 3) (eCons (eC (.int 1)) eNil))))))))
noncomputable def B_d_law_take : DTS := (sSeq (sIf (eTest (eOp oEq (eOp xL (eVar 0) (eC (.int 1))) (eC (.int 0)))) (sSeq (sSet 2 (eNoL (eOp oMod (eOp xL (eVar 0) (eC (.int 0))) (eVar 1))))
  (sSeq (sStore κ_d_law_take 0 (eC (.int 0)) (eNoL (eOp oFdiv (eOp xL (eVar 0) (eC (.int 0))) (eVar 1))))
  (sRet (eVar 2)))) sNext)
  (sSeq (sStore κ_d_law_take 0 (eC (.int 0)) (eNoL (eOp oMod (eOp oAdd (eOp oAdd (eOp oPow (eOp xL (eVar 0) (eC (.int 0))) (eC (.int 5))) (eOp oMul (eC (.int 48271)) (eOp xL (eVar 0) (eC (.int 1))))) (eC (.int 11))) (eC (.int 2147483647)))))
  (sSeq (sStore κ_d_law_take 0 (eC (.int 1)) (eNoL (eOp oAdd (eOp xL (eVar 0) (eC (.int 1))) (eC (.int 1)))))
  (sRet (eNoL (eOp oMod (eOp oFdiv (eOp oMod (eOp oMul (eOp xL (eVar 0) (eC (.int 0))) (eC (.int 69621))) (eC (.int 2147483629))) (eC (.int 8))) (eVar 1)))))))
noncomputable def B_d_law_name : DTS := (sSeq (sSet 2 (eC (.str "")))
  (sSeq (sFor (iR1 (eCons (eOp xL (eLst (eCons (eC (.int 1)) (eCons (eC (.int 1)) (eCons (eC (.int 2)) (eCons (eC (.int 3)) eNil))))) (eCallX κ_d_law_name 0 2 sd_d_law_take (eHere 0 (eCons (eC (.int 4)) eNil)))) eNil)) (gdName 3) (sSet 2 (eOp oAdds (eVar 2) (eOp xS (eVar 1) (eCallX κ_d_law_name 0 2 sd_d_law_take (eHere 0 (eCons (eCallB cLen (eCons (eVar 1) eNil)) eNil)))))))
  (sRet (eVar 2))))
noncomputable def B_d_law_case : DTS := (sSeq (sSet 2 (eOp oAdd (eC (.int 2)) (eCallX κ_d_law_case 0 2 sd_d_law_take (eHere 0 (eCons (eOp xL (eLst (eCons (eC (.int 4)) (eCons (eC (.int 14)) eNil))) (eVar 1)) eNil)))))
  (sSeq (sSet 3 (eOp oAdd (eC (.int 2)) (eCallX κ_d_law_case 0 2 sd_d_law_take (eHere 0 (eCons (eOp xL (eLst (eCons (eC (.int 4)) (eCons (eC (.int 14)) eNil))) (eVar 1)) eNil)))))
  (sSeq (sSet 4 (eC (.str "abcdefghijklmnopqrstuvwxyz")))
  (sSeq (sSet 5 (eCallX κ_d_law_case 0 2 sd_d_law_take (eHere 0 (eCons (eC (.int 26)) eNil))))
  (sSeq (sSet 4 (eOp oAdds (eSl slS (eVar 4) (eOSome (eVar 5)) eONone) (eSl slS (eVar 4) eONone (eOSome (eVar 5)))))
  (sSeq (sSet 4 (eSl slS (eVar 4) eONone (eOSome (eOp xL (eLst (eCons (eC (.int 3)) (eCons (eC (.int 4)) (eCons (eC (.int 6)) (eCons (eC (.int 26)) eNil))))) (eCallX κ_d_law_case 0 2 sd_d_law_take (eHere 0 (eCons (eC (.int 4)) eNil)))))))
  (sSeq (sSet 6 (eCompX κ_d_law_case 0 1 [none, some 0] (iR1 (eCons (eVar 3) eNil)) (gdName 0) eYes (eOp oAdd (eC (.int 1)) (eCallX ([SK.cl, SK.io 1] : List SK) 1 2 sd_d_law_take (eHere 1 (eCons (eC (.int 30)) eNil))))))
  (sSeq (sSet 7 (eComp [none, some 2] (iR1 (eCons (eVar 3) eNil)) (gdName 0) eYes (eOp oRep (eLst (eCons (eC .non) eNil)) (eVar 1))))
  (sSeq (sSet 8 (eCallX κ_d_law_case 0 2 sd_d_law_take (eHere 0 (eCons (eOp oMul (eVar 2) (eVar 3)) eNil))))
  (sSeq (sStore2 κ_d_law_case 7 (eOp oFdiv (eVar 8) (eVar 2)) (eOp oMod (eVar 8) (eVar 2)) (eTup (eCons (eC (.str " ")) (eCons (eC (.int 0)) eNil))))
  (sSeq (sSet 9 (eLst eNil))
  (sSeq (sFor (iR1 (eCons (eOp oAdd (eC (.int 1)) (eCallX κ_d_law_case 0 2 sd_d_law_take (eHere 0 (eCons (eOp xL (eLst (eCons (eC (.int 10)) (eCons (eC (.int 30)) eNil))) (eVar 1)) eNil)))) eNil)) (gdName 10) (sSeq (sSet 11 (eCallX κ_d_law_case 0 2 sd_d_law_take (eHere 0 (eCons (eOp oMul (eVar 2) (eVar 3)) eNil))))
  (sSeq (sSet 12 (eCallX κ_d_law_case 0 2 sd_d_law_name (eHere 0 (eCons (eVar 4) eNil))))
  (sSeq (sSet 13 (eOp xL (eLst (eCons (eC (.int 0)) (eCons (eC (.int 0)) (eCons (eC (.int 1)) (eCons (eNeg (eC (.int 1))) eNil))))) (eCallX κ_d_law_case 0 2 sd_d_law_take (eHere 0 (eCons (eC (.int 4)) eNil)))))
  (sSeq (sSet 14 (eOp oFdiv (eVar 11) (eVar 2)))
  (sIf (eAndT (eTest (eOp oIs (eOp xL (eOp xL (eVar 7) (eVar 14)) (eOp oMod (eVar 11) (eVar 2))) (eC .non))) (eAndT (eTest (eOp (oIn true) (eVar 12) (eVar 9))) (eTest (eOp oGt (eOp oAdd (eOp xL (eVar 6) (eVar 14)) (eVar 13)) (eC (.int 0)))))) (sSeq (sStore2 κ_d_law_case 7 (eVar 14) (eOp oMod (eVar 11) (eVar 2)) (eTup (eCons (eVar 12) (eCons (eVar 13) eNil))))
  (sMut κ_d_law_case 9 (eVar 12) fAppend)) sNext))))))
  (sRet (eNoL (eTup (eCons (eCallB cTuple (eCons (eVar 6) eNil)) (eCons (eCallB cTuple (eCons (eComp [none] (iL (eVar 7)) (gdName 0) eYes (eCallB cTuple (eCons (eVar 0) eNil))) eNil)) eNil)))))))))))))))))
noncomputable def B_d_law_good : DTS := (sSeq (sSet 4 (eCall sd_sign_of (eLen 2 (eCons (eVar 0) (eCons (eVar 2) eNil)))))
  (sSeq (sIf (eNotT (eTest (eCall sd_is_sign (eLen 2 (eCons (eVar 1) (eCons (eVar 4) eNil)))))) (sRet (eC (.bl false))) sNext)
  (sSeq (sSet 5 (eCall sd_strike (eLen 2 (eCons (eVar 1) (eCons (eVar 4) eNil)))))
  (sSeq (sIf (eOrT (eTest (eOp (oInT false) (eVar 5) (eVar 3))) (eOrT (eTest (eOp oNe (eCall sd_read_holes (eLen 2 (eCons (eVar 1) (eCons (eVar 5) eNil)))) (eVar 4))) (eTest (eOp oNe (eCall sd_place_of (eLen 2 (eCons (eVar 0) (eCons (eVar 2) eNil)))) (eSl slT (eVar 4) (eOSome (eC (.int 1))) (eOSome (eC (.int 3)))))))) (sRet (eC (.bl false))) sNext)
  (sSeq (sPutT κ_d_law_good 3 (eVar 5) (eVar 2))
  (sSeq (sSet 6 (eIf (eTest (eOp oNe (eVar 2) (eC (.str " ")))) (eOp xT (eVar 4) (eC (.int 3))) (eC (.int 0))))
  (sRet (eAndV (eOp oEq (eOp xT (eOp xT (eOp xT (eVar 0) (eC (.int 1))) (eOp xT (eVar 4) (eC (.int 2)))) (eOp xT (eVar 4) (eC (.int 1)))) (eTup (eCons (eVar 2) (eCons (eVar 6) eNil)))) (eOp oEq (eOp oEq (eOp xT (eVar 4) (eC (.int 0))) (eC (.str "blank"))) (eOp oEq (eVar 2) (eC (.str " "))))))))))))
noncomputable def B_d_law_rest_good : DTS := (sSeq (sFor (iR1 (eCons (eOp xT (eVar 1) (eC (.int 1))) eNil)) (gdName 3) (sFor (iR1 (eCons (eOp xT (eVar 1) (eC (.int 0))) eNil)) (gdName 4) (sIf (eTest (eOp oIs (eOp xT (eOp xT (eOp xT (eVar 0) (eC (.int 1))) (eVar 3)) (eVar 4)) (eC .non))) (sFor (iT (eTup (eCons (eNeg (eC (.int 1))) (eCons (eC (.int 0)) (eCons (eC (.int 1)) eNil))))) (gdName 5) (sIf (eTest (eOp (oInT false) (eCall sd_strike (eLen 2 (eCons (eVar 1) (eCons (eTup (eCons (eC (.str "letter")) (eCons (eVar 4) (eCons (eVar 3) (eCons (eVar 5) eNil))))) eNil)))) (eVar 2))) (sRet (eC (.bl false))) sNext)) sNext)))
  (sRet (eC (.bl true))))
noncomputable def B_law : DTS := (sSeq (sFor (iR1 (eCons (eCallB cMax2 (eCons (eC (.int 1)) (eCons (eCallB cMin2 (eCons (eC (.int 6)) (eCons (eCallB cLen (eCons (eVar 0) eNil)) eNil))) eNil))) eNil)) (gdName 1) (sSeq (sSet 2 (eCall sd_d_law_bag (eLen 2 (eCons (eVar 0) (eCons (eVar 1) eNil)))))
  (sSeq (sSet 3 (eCallX κ_law 2 2 sd_d_law_case (eHere 2 (eCons (eCallB cInt (eCons (eOp oEq (eCallX κ_law 2 2 sd_d_law_take (eHere 2 (eCons (eC (.int 3)) eNil))) (eC (.int 1))) eNil)) eNil))))
  (sSeq (sSet 4 (eCall sd_size_of (eLen 1 (eCons (eVar 3) eNil))))
  (sSeq (sSet 5 eNewT)
  (sSeq (sIf (eNotT (eTest (eCallB cAll (eCons (eCompX κ_law 5 3 [none, some 3, some 4, some 5] (iL (eOp oCat (eCall sd_names_in (eLen 1 (eCons (eVar 3) eNil))) (eLst (eCons (eC (.str " ")) eNil)))) (gdName 0) eYes (eCallX ([SK.cl, SK.cl, SK.cl, SK.io 1] : List SK) 3 4 sd_d_law_good (eCons (eVar 1) (eCons (eVar 2) (eCons (eVar 0) (eHere 3 eNil)))))) eNil)))) (sRet (eC (.bl false))) sNext)
  (sIf (eNotT (eTest (eCall sd_d_law_rest_good (eLen 3 (eCons (eVar 3) (eCons (eVar 4) (eCons (eVar 5) eNil))))))) (sRet (eC (.bl false))) sNext)))))))
  (sRet (eC (.bl true))))
section
variable {P : Program} {w : World} {K : PySem.W.Frag} {mg : Str → Option Value} {base : Heap} {t : Adr}
theorem at_scr {ns : List Int} {k : Int} (h0 : 0 ≤ k) (h1 : k < ns.length) : ∃ n, atI ns k = some n := by
  obtain ⟨j, rfl⟩ := Int.eq_ofNat_of_zero_le h0
  have hj : j < ns.length := by omega
  exact ⟨ns[j], atI_nat (List.getElem?_eq_getElem hj)⟩
theorem body_d_law_cell : BodyP B_d_law_cell 2 2 .cl sd_d_law_cell := by
  rintro ds q hl ⟨ns, k, rfl, h0, hq⟩
  refine ⟨_, rfl, _, rfl, .inl ⟨ns, rfl, _, _, rfl, rfl, _, rfl, ?_⟩⟩
  refine ite2 (fun hlt => ?_) (fun _ => hq 0)
  obtain ⟨n, hn⟩ := at_scr h0 (by simpa using hlt)
  exact ⟨_, rfl, _, rfl, _, _, n, rfl, rfl, hn, hq n⟩
theorem ok_d_law_cell (T : Txt K mg t) : FnOk P w K mg base CX0 1 t.f_d_law_cell t.d_d_law_cell ["_law_script", "_law_k"] (spP K 2 .cl sd_d_law_cell) := by
  exact fnP (κ := κ_d_law_cell) (T := B_d_law_cell) T.F_d_law_cell sc_d_law_cell (noIo_of rfl) (cl_of rfl) (.inl rfl)
    (fun cdv A outer s H E hr =>
      (dscons (dif (ftcmpC (nomark _) do_lt (dv 1) (fcbC (by rfl) (by decide) (by decide) (by decide) dc_len (by rfl) T.n_len bt_len (facC rfl (dv 0) fanil))) (dsone (dret (fixC (fun _ _ => rfl) dix_scr (dv 0) (dv 1)))) dsnil)
      (dsone (dret dint)))) body_d_law_cell
theorem mod_mix (x : Int) : 0 ≤ x % 2147483647 ∧ x % 2147483647 < 2147483647 := ⟨Int.emod_nonneg _ (by decide), Int.emod_lt_of_pos _ (by decide)⟩
theorem mod_big (x : Int) : 0 ≤ x % (10 ^ (60 : Int).toNat * 10 ^ (60 : Int).toNat * 10 ^ (60 : Int).toNat) := Int.emod_nonneg _ (by decide +kernel)
theorem mok1 : IntMulOk (10 ^ (60 : Int).toNat) (10 ^ (60 : Int).toNat) := by unfold IntMulOk; decide +kernel
theorem mok2 : IntMulOk (10 ^ (60 : Int).toNat * 10 ^ (60 : Int).toNat) (10 ^ (60 : Int).toNat) := by unfold IntMulOk; decide +kernel
theorem mokL {i j : Int} (h1 : -(2 ^ 64) < i) (h2 : i < 2 ^ 64) : IntMulOk i j := (show CMul i j from .inl ⟨h1, h2⟩).ok
theorem mokR {i j : Int} (h1 : -(2 ^ 64) < j) (h2 : j < 2 ^ 64) : IntMulOk i j := (show CMul i j from .inr ⟨h1, h2⟩).ok
theorem pow10 {i j : Int} (h0 : 0 ≤ j) (h1 : j ≤ 1000000) (h2 : i.natAbs < 2 ^ 64) : CPow i j := ⟨h0, h1, h2⟩
theorem body_d_law_bag : BodyP B_d_law_bag 5 2 (.ow 1) sd_d_law_bag := by
  rintro ds q hl ⟨ns, k, rfl, h0, h1, hq⟩
  refine ⟨_, rfl, _, rfl, rfl, ns, k, rfl, h0, fun n => ⟨n, rfl, ?_⟩⟩
  refine ⟨_, _, rfl, rfl, pow10 (by decide) (by decide) (by decide), _, _, rfl, rfl, pow10 (by decide) (by decide) (by decide), _, _, rfl, rfl, mok1, _, _, rfl, rfl, pow10 (by decide) (by decide) (by decide), _, _, rfl, rfl, mok2, _, _, rfl, rfl, (by show (0 : Int) < _; decide +kernel), ?_⟩
  have hb := mod_big (if n < 0 then -n else n)
  dsimp only
  generalize (if n < 0 then -n else n) % (10 ^ (60 : Int).toNat * 10 ^ (60 : Int).toNat * 10 ^ (60 : Int).toNat) = cell at hb ⊢
  refine ⟨_, rfl, _, _, rfl, rfl, pow10 (by decide) (by decide) (by decide), _, _, rfl, rfl, _, rfl, ite2 (fun hge => ?_) (fun hlt => ?_)⟩
  · exact ⟨_, rfl, small_line (by show 2 ≤ 1000; decide), hq cell 0 ⟨hb, by decide, .inl rfl⟩⟩
  · refine ⟨_, rfl, _, rfl, _, _, rfl, rfl, mokL (by decide) (by decide), _, _, rfl, rfl, _, _, rfl, rfl, _, _, rfl, rfl, (by show (0 : Int) < 2147483647; decide), ?_⟩
    have hm := mod_mix (cell + 7919 * k + 17)
    dsimp only
    generalize (cell + 7919 * k + 17) % 2147483647 = mix at hm ⊢
    refine ⟨_, rfl, .inl ⟨ns, rfl, _, _, rfl, ?_⟩⟩
    have hle : (if (9 : Int) < (ns.length : Int) then (9 : Int) else (ns.length : Int)) ≤ ns.length ∧ 0 ≤ (if (9 : Int) < (ns.length : Int) then (9 : Int) else (ns.length : Int)) ∧ (if (9 : Int) < (ns.length : Int) then (9 : Int) else (ns.length : Int)) ≤ 9 := by
      split <;> omega
    generalize (if (9 : Int) < (ns.length : Int) then (9 : Int) else (ns.length : Int)) = z at hle ⊢
    refine ⟨z, rfl, by omega, by omega, ?_⟩
    refine forI (fun j ρ => ∃ (m : Int) (o : Option D), 0 ≤ m ∧ m < 2147483647 ∧ ρ = [some (.scr ns), some (.int k), some (.int cell), some (.int m), o]) ⟨mix, none, hm.1, hm.2, rfl⟩ ?_ ?_
    · rintro j d ρ hd ⟨m, o, h3, h4, rfl⟩
      have hj : j < z.toNat := by
        have := (List.getElem?_eq_some_iff.mp hd).1
        simpa using this
      rw [List.getElem?_map, List.getElem?_range hj] at hd
      simp only [Option.map_some, Option.some.injEq] at hd
      subst hd
      obtain ⟨y, hy⟩ := at_scr (ns := ns) (k := (j : Int)) (by omega) (by omega)
      refine ⟨_, rfl, _, _, rfl, rfl, pow10 (by decide) (by decide) (by omega), _, rfl, _, rfl, _, _, y, rfl, rfl, hy, _, _, rfl, rfl, (by show (0 : Int) < 2147483629; decide), _, _, rfl, rfl, _, rfl, _, _, rfl, rfl, mokL (by decide) (by decide), _, _, rfl, rfl, _, _, rfl, rfl, (by show (0 : Int) < 2147483647; decide), ?_⟩
      exact ⟨_, _, (mod_mix _).1, (mod_mix _).2, rfl⟩
    · rintro ρ ⟨m, o, h3, h4, rfl⟩
      exact ⟨_, rfl, small_line (by show 2 ≤ 1000; decide), hq m 1 ⟨h3, by decide, .inr h4⟩⟩
theorem ok_d_law_bag (T : Txt K mg t) : FnOk P w K mg base CX0 2 t.f_d_law_bag t.d_d_law_bag ["_law_script", "_law_at"] (spP K 2 (.ow 1) sd_d_law_bag) := by
  have G_d_law_cell := ok_d_law_cell (P := P) (w := w) (base := base) T
  exact fnP (κ := κ_d_law_bag) (T := B_d_law_bag) T.F_d_law_bag sc_d_law_bag (noIo_of rfl) (cl_of rfl) (.inr ⟨_, rfl⟩)
    (fun cdv A outer s H E hr =>
      (dscons (dset (i := 2) (by rfl) (.inl rfl) sc_d_law_bag.nd rfl (Or.inl rfl) rfl (fopC (by decide) do_mod (fcbC (by rfl) (by decide) (by decide) (by decide) dc_abs (by rfl) T.n_abs bt_abs (facC rfl (fclC (by rfl) (by decide) (by decide) G_d_law_cell rfl rfl (hr.mono (by decide)) (by rfl) T.m_d_law_cell T.k_d_law_cell T.b_d_law_cell pass0 (facC rfl (dv 0) (facC rfl (dv 1) fanil))) fanil)) (fopC (by decide) do_mul (fopC (by decide) do_mul (fopC (by decide) do_pow dint dint) (fopC (by decide) do_pow dint dint)) (fopC (by decide) do_pow dint dint))))
      (dscons (dif (ftcmpC (nomark _) do_ge (dv 2) (fopC (by decide) do_pow dint dint)) (dsone (dret (flstC (facC rfl (dv 2) (facC rfl dint fanil))))) dsnil)
      (dscons (dset (i := 3) (by rfl) (.inl rfl) sc_d_law_bag.nd rfl (Or.inl rfl) rfl (fopC (by decide) do_mod (fopC (by decide) do_add (fopC (by decide) do_add (dv 2) (fopC (by decide) do_mul dint (dv 1))) dint) dint))
      (dscons (dfor (by intro _; rfl) PassesOwn.never rfl (diR1 rfl (by rfl) T.n_range (facC rfl (fcbC (by rfl) (by decide) (by decide) (by decide) (dc_min2 rfl) (by rfl) T.n_min bt_min (facC rfl (fcbC (by rfl) (by decide) (by decide) (by decide) dc_len (by rfl) T.n_len bt_len (facC rfl (dv 0) fanil)) (facC rfl dint fanil))) fanil)) (dgname (i := 4) (.inl rfl) sc_d_law_bag.nd rfl (Or.inl rfl) (.inl ⟨rfl, rfl⟩)) (dsone (dset (i := 3) (by rfl) (.inl rfl) sc_d_law_bag.nd rfl (Or.inl rfl) rfl (fopC (by decide) do_mod (fopC (by decide) do_add (fopC (by decide) do_add (fopC (by decide) do_pow (dv 3) dint) (fopC (by decide) do_mod (fixC (fun _ _ => rfl) dix_scr (dv 0) (dv 4)) dint)) (fopC (by decide) do_mul dint (dv 4))) dint))))
      (dsone (dret (flstC (facC rfl (dv 3) (facC rfl dint fanil)))))))))) body_d_law_bag
end
section
variable {P : Program} {w : World} {K : PySem.W.Frag} {mg : Str → Option Value} {base : Heap} {t : Adr}
theorem at0 {k : D} {r : List D} : atI (k :: r) (0 : Int) = some k := atI_nat (j := 0) rfl
theorem at1 {k k1 : D} {r : List D} : atI (k :: k1 :: r) (1 : Int) = some k1 := atI_nat (j := 1) rfl
theorem body_d_law_take : BodyX B_d_law_take 3 2 0 .cl sd_d_law_take := by
  rintro ds q hl ⟨m, c, n, rfl, ⟨hm, hc, hmc⟩, hn, hn2, hq⟩
  have hn0 : n ≠ 0 := by omega
  refine ⟨_, rfl, _, _, _, rfl, rfl, at1, rfl, rfl, _, rfl, ?_⟩
  refine ite2 (fun h => ?_) (fun h => ?_)
  · have hc0 : c = 0 := by simpa [pyEq] using h
    subst hc0
    refine ⟨_, rfl, _, _, _, rfl, rfl, at0, _, rfl, _, _, rfl, rfl, hn, rfl, ?_⟩
    refine ⟨⟨_, rfl⟩, _, rfl, _, _, _, rfl, rfl, at0, _, rfl, _, _, rfl, rfl, ⟨hn, hn2⟩, rfl, _, _, _, rfl, rfl, rfl, ?_⟩
    refine ⟨_, rfl, _, rfl, hq _ _ _ (Int.emod_nonneg _ hn0) (Int.emod_lt_of_pos _ hn) ⟨Int.ediv_nonneg hm (by omega), Int.le_refl _, .inl rfl⟩⟩
  · have hc0 : c ≠ 0 := by simpa [pyEq] using h
    have hm2 : m < 2147483647 := by omega
    refine ⟨⟨_, rfl⟩, _, rfl, _, _, _, rfl, rfl, at0, _, _, rfl, rfl, pow10 (by decide) (by decide) (by omega), _, rfl, _, _, _, rfl, rfl, at1, _, _, rfl, rfl, mokL (by decide) (by decide), _, _, rfl, rfl, _, _, rfl, rfl, _, _, rfl, rfl, (by show (0 : Int) < 2147483647; decide), rfl, _, _, _, rfl, rfl, rfl, ?_⟩
    have hx := mod_mix (m ^ (5 : Int).toNat + 48271 * c + 11)
    dsimp only
    generalize (m ^ (5 : Int).toNat + 48271 * c + 11) % 2147483647 = x at hx ⊢
    refine ⟨⟨_, rfl⟩, _, rfl, _, _, _, rfl, rfl, at1, _, _, rfl, rfl, rfl, _, _, _, rfl, rfl, rfl, ?_⟩
    refine ⟨_, rfl, _, _, _, rfl, rfl, at0, _, _, rfl, rfl, mokR (by decide) (by decide), _, _, rfl, rfl, (by show (0 : Int) < 2147483629; decide), _, _, rfl, rfl, ⟨by decide, by decide⟩, _, rfl, _, _, rfl, rfl, hn, rfl, ?_⟩
    exact ⟨_, rfl, hq _ _ _ (Int.emod_nonneg _ hn0) (Int.emod_lt_of_pos _ hn) ⟨hx.1, by omega, .inr hx.2⟩⟩
theorem ok_d_law_take (T : Txt K mg t) : FnOk P w K mg base CX0 1 t.f_d_law_take t.d_d_law_take ["_law_bag_here", "_law_many"] (spX K 2 0 1 .cl sd_d_law_take) := by
  exact fnX (κ := κ_d_law_take) (T := B_d_law_take) T.F_d_law_take sc_d_law_take rfl (by decide) (io_of rfl) (clx_of rfl) (.inl rfl)
    (fun cdv A outer s H E hr =>
      (dscons (dif (ftcmpL (nomark _) (do_eq (room12 hr)) (fixL (fun _ _ => rfl) dix_l (dvl 0) (DE.loose dint)) (DE.loose dint)) (dscons (dset (i := 2) (by rfl) (.inl rfl) sc_d_law_take.nd rfl (Or.inl rfl) rfl (DE.nol (fopL (by decide) do_mod (fixL (fun _ _ => rfl) dix_l (dvl 0) (DE.loose dint)) (DE.loose (dv 1)))))
      (dscons (dstore (i := 0) (by rfl) (by rfl) (by rfl) (by intro _; rfl) rfl (by first | exact Or.inl rfl | exact Or.inr (Or.inl rfl) | exact Or.inr (Or.inr rfl)) (by decide) (by decide) rfl (DE.nol (fopL (by decide) do_fdiv (fixL (fun _ _ => rfl) dix_l (dvl 0) (DE.loose dint)) (DE.loose (dv 1)))) dint)
      (dsone (dret (dv 2))))) dsnil)
      (dscons (dstore (i := 0) (by rfl) (by rfl) (by rfl) (by intro _; rfl) rfl (by first | exact Or.inl rfl | exact Or.inr (Or.inl rfl) | exact Or.inr (Or.inr rfl)) (by decide) (by decide) rfl (DE.nol (fopL (by decide) do_mod (fopL (by decide) do_add (fopL (by decide) do_add (fopL (by decide) do_pow (fixL (fun _ _ => rfl) dix_l (dvl 0) (DE.loose dint)) (DE.loose dint)) (fopL (by decide) do_mul (DE.loose dint) (fixL (fun _ _ => rfl) dix_l (dvl 0) (DE.loose dint)))) (DE.loose dint)) (DE.loose dint))) dint)
      (dscons (dstore (i := 0) (by rfl) (by rfl) (by rfl) (by intro _; rfl) rfl (by first | exact Or.inl rfl | exact Or.inr (Or.inl rfl) | exact Or.inr (Or.inr rfl)) (by decide) (by decide) rfl (DE.nol (fopL (by decide) do_add (fixL (fun _ _ => rfl) dix_l (dvl 0) (DE.loose dint)) (DE.loose dint))) dint)
      (dsone (dret (DE.nol (fopL (by decide) do_mod (fopL (by decide) do_fdiv (fopL (by decide) do_mod (fopL (by decide) do_mul (fixL (fun _ _ => rfl) dix_l (dvl 0) (DE.loose dint)) (DE.loose dint)) (DE.loose dint)) (DE.loose dint)) (DE.loose (dv 1)))))))))) body_d_law_take
end
section
variable {P : Program} {w : World} {K : PySem.W.Frag} {mg : Str → Option Value} {base : Heap} {t : Adr}
theorem at_in {l : List D} {r : Int} (h0 : 0 ≤ r) (h1 : r < l.length) : ∃ d, atI l r = some d ∧ d ∈ l := by
  obtain ⟨j, rfl⟩ := Int.eq_ofNat_of_zero_le h0
  have hj : j < l.length := by omega
  exact ⟨l[j], atI_nat (List.getElem?_eq_getElem hj), List.getElem_mem hj⟩
theorem at_ints {ns : List Int} {r : Int} (h0 : 0 ≤ r) (h1 : r < ns.length) : ∃ n, atI (ns.map D.int) r = some (.int n) ∧ n ∈ ns := by
  obtain ⟨d, e, m⟩ := at_in (l := ns.map D.int) h0 (by simpa using h1)
  obtain ⟨n, hn, rfl⟩ := List.mem_map.mp m
  exact ⟨n, e, hn⟩
theorem at_str {L : Str} {r : Int} (h0 : 0 ≤ r) (h1 : r < L.length) : ∃ c, atI L.cps.toList r = some c ∧ c ∈ L.cps.toList := by
  obtain ⟨j, rfl⟩ := Int.eq_ofNat_of_zero_le h0
  have hj : j < L.cps.toList.length := by
    have : L.cps.toList.length = L.length := by simp [Str.length]
    omega
  exact ⟨L.cps.toList[j], atI_nat (List.getElem?_eq_getElem hj), List.getElem_mem hj⟩
theorem body_d_law_name : BodyX B_d_law_name 4 2 0 .cl sd_d_law_name := by
  rintro ds q hl ⟨m, c, L, rfl, hb, hL, hq⟩
  refine ⟨small_line (by show 4 ≤ 1000; decide), _, rfl, _, rfl, rfl, m, c, 4, rfl, hb, by decide, by decide, fun r m1 c1 h0 h1 hb1 => ?_⟩
  obtain ⟨n, en, mn⟩ := at_ints (ns := [1, 1, 2, 3]) h0 h1
  refine ⟨_, _, _, rfl, rfl, en, ?_⟩
  have hn : 1 ≤ n ∧ n ≤ 3 := by simp at mn; omega
  refine ⟨n, rfl, by omega, by omega, ?_⟩
  refine forI (fun j ρ => ∃ m c z o, BagOk m c ∧ z.length = j ∧ (∀ c ∈ z.cps.toList, smallC c) ∧ ρ = [some (.lst [.int m, .int c]), some (.str L), some (.str z), o]) ⟨m1, c1, "", none, hb1, rfl, fun c hc => by
    have e : (Str.ofString "").cps.toList = [] := by decide +kernel
    rw [e] at hc; exact absurd hc (by simp), rfl⟩ ?_ ?_
  · rintro j d ρ hd ⟨m2, c2, z, o, hb2, hz, hs, rfl⟩
    have hj : j < n.toNat := by
      have := (List.getElem?_eq_some_iff.mp hd).1
      simpa using this
    obtain ⟨l1, l2, l3⟩ := hL
    refine ⟨_, rfl, _, rfl, _, rfl, _, rfl, .inr (.inr (.inr ⟨L, rfl, Nat.le_trans l2 (small_line (by decide)), ?_⟩))⟩
    refine ⟨_, rfl, rfl, m2, c2, L.length, rfl, hb2, by omega, by omega, fun r m3 c3 h2 h3 hb3 => ?_⟩
    obtain ⟨ch, ec, mc⟩ := at_str h2 h3
    refine ⟨L, r, ch, rfl, rfl, Nat.le_trans l2 (small_line (by decide)), ec, _, _, rfl, rfl, ?_, ?_⟩
    · rw [hz]; exact small_line (by show j + 1 ≤ 1000; omega)
    · refine ⟨m3, c3, _, _, hb3, ?_, ?_, rfl⟩
      · rw [str_app_len, hz]; rfl
      · rw [str_app_cps]
        intro c hc
        rcases List.mem_append.mp hc with h | h
        · exact hs c h
        · have : c = ch := by simpa using h
          rw [this]; exact l3 ch mc
  · rintro ρ ⟨m2, c2, z, o, hb2, hz, hs, rfl⟩
    rw [List.length_map, List.length_range] at hz
    exact ⟨_, rfl, _, rfl, hq z m2 c2 ⟨by omega, by omega, hs⟩ hb2⟩
theorem ok_d_law_name (T : Txt K mg t) : FnOk P w K mg base CX0 2 t.f_d_law_name t.d_d_law_name ["_law_bag_here", "_law_letters"] (spX K 2 0 1 .cl sd_d_law_name) := by
  have G_d_law_take := ok_d_law_take (P := P) (w := w) (base := base) T
  exact fnX (κ := κ_d_law_name) (T := B_d_law_name) T.F_d_law_name sc_d_law_name rfl (by decide) (io_of rfl) (clx_of rfl) (.inl rfl)
    (fun cdv A outer s H E hr =>
      (dscons (dset (i := 2) (by rfl) (.inl rfl) sc_d_law_name.nd rfl (Or.inl rfl) rfl dstr)
      (dscons (dfor (by intro _; rfl) PassesOwn.never rfl (diR1 rfl (by rfl) T.n_range (facC rfl (fixC (fun _ _ => rfl) dix_l (DE.clean (DE.dirty (flstC (facC rfl dint (facC rfl dint (facC rfl dint (facC rfl dint fanil))))))) (fclx (by rfl) (by decide) G_d_law_take rfl (hr.mono (by decide)) (by rfl) T.m_d_law_take T.k_d_law_take T.b_d_law_take pass0 rfl (.inl rfl) (dax_here (i := 0) rfl (by first | exact Or.inl rfl | exact Or.inr (Or.inl rfl) | exact Or.inr (Or.inr rfl)) (by decide) (by decide) (facC rfl dint fanil)))) fanil)) (dgname (i := 3) (.inl rfl) sc_d_law_name.nd rfl (Or.inl rfl) (.inl ⟨rfl, rfl⟩)) (dsone (dset (i := 2) (by rfl) (.inl rfl) sc_d_law_name.nd rfl (Or.inl rfl) rfl (fopC (by decide) do_adds (DE.dirty (dv 2)) (fixC (fun _ _ => rfl) dix_s (DE.dirty (dv 1)) (fclx (by rfl) (by decide) G_d_law_take rfl (hr.mono (by decide)) (by rfl) T.m_d_law_take T.k_d_law_take T.b_d_law_take pass0 rfl (.inl rfl) (dax_here (i := 0) rfl (by first | exact Or.inl rfl | exact Or.inr (Or.inl rfl) | exact Or.inr (Or.inr rfl)) (by decide) (by decide) (facC rfl (fcbC (by rfl) (by decide) (by decide) (by decide) dc_len (by rfl) T.n_len bt_len (facC rfl (dv 1) fanil)) fanil))))))))
      (dsone (dret (dv 2)))))) body_d_law_name
end
section
variable {P : Program} {w : World} {K : PySem.W.Frag} {mg : Str → Option Value} {base : Heap} {t : Adr}
theorem noLs_map {α : Type} {f : α → D} {l : List α} (hf : ∀ x, noL (f x) = true) : noLs (l.map f) = true := by
  induction l with
  | nil => rfl
  | cons x r ih => rw [List.map_cons, noLs, hf, ih]; rfl
theorem noL_cell (x : Cell) : noL (cellD x) = true := by
  cases x with
  | none => rfl
  | some p => rfl
theorem noL_case (us : List Int) (rows : List (List Cell)) : noL (caseD us rows) = true := by
  unfold caseD gridT
  simp only [noL, noLs, Bool.and_true, Bool.and_eq_true]
  exact ⟨noLs_map fun x => rfl, noLs_map fun r => by rw [noL]; exact noLs_map noL_cell⟩
theorem g_pick {g a b : Int} (hg : g = 0 ∨ g = 1) : ∃ n, atI [D.int a, D.int b] g = some (.int n) ∧ (n = a ∨ n = b) := by
  rcases hg with rfl | rfl
  · exact ⟨a, rfl, .inl rfl⟩
  · exact ⟨b, rfl, .inr rfl⟩
theorem ixN_nat {n k : Nat} (h : k < n) : ixN n (k : Int) = some k := by
  unfold ixN
  rw [if_pos (by omega), if_pos (by omega), Int.toNat_natCast]
theorem atI_map_nat {α : Type} {f : α → D} {l : List α} {k : Nat} {x : α} (h : l[k]? = some x) : atI (l.map f) (k : Int) = some (f x) := atI_nat (by rw [List.getElem?_map, h]; rfl)
theorem isNon_cell (x : Cell) : isNon (cellD x) = x.isNone := by
  cases x with
  | none => rfl
  | some p => rfl
theorem cellAt_set {rows : List (List Cell)} {row : List Cell} {r0 c0 : Nat} {x : Cell} (hr : rows[r0]? = some row) (hc : c0 < row.length) (r c : Nat) :
    cellAt (rows.set r0 (row.set c0 x)) r c = if r = r0 ∧ c = c0 then some x else cellAt rows r c := by
  have hr0 : r0 < rows.length := (List.getElem?_eq_some_iff.mp hr).1
  unfold cellAt
  by_cases e : r = r0
  · subst e
    rw [List.getElem?_set_self hr0, hr]
    simp only [Option.bind_some, true_and]
    by_cases e2 : c = c0
    · subst e2
      rw [List.getElem?_set_self hc, if_pos rfl]
    · rw [List.getElem?_set_ne (Ne.symm e2), if_neg e2]
  · rw [List.getElem?_set_ne (Ne.symm e), if_neg (fun z => e z.1)]
theorem CaseG.put {us : List Int} {rows : List (List Cell)} {w h r0 c0 : Nat} {row : List Cell} {n : Str} {k u : Int} (G : CaseG us rows w h) (hr : rows[r0]? = some row) (hc : row[c0]? = some none) (hn : NameOk n) (hk : k = -1 ∨ k = 0 ∨ k = 1)
    (hu : us[r0]? = some u) (hp : 0 < u + k) (new : ∀ r c k', cellAt rows r c = some (some (n, k')) → False) : CaseG us (rows.set r0 (row.set c0 (some (n, k)))) w h := by
  have hc0 : c0 < row.length := (List.getElem?_eq_some_iff.mp hc).1
  have hat : cellAt rows r0 c0 = some none := by unfold cellAt; rw [hr]; exact hc
  refine ⟨G.w2, G.w15, G.h2, G.h15, G.ul, by rw [List.length_set]; exact G.rl, fun r hmem => ?_, G.ub, ?_, fun r c n' k' e => ?_, fun r c r' c' n' k1 k2 e1 e2 => ?_⟩
  · rcases List.mem_or_eq_of_mem_set hmem with z | z
    · exact G.cl r z
    · rw [z, List.length_set]; exact G.cl row (List.mem_of_getElem? hr)
  · obtain ⟨r, c, e⟩ := G.blank
    refine ⟨r, c, ?_⟩
    rw [cellAt_set hr hc0, if_neg]
    · exact e
    · rintro ⟨rfl, rfl⟩
      rw [hat] at e; cases e
  · rw [cellAt_set hr hc0] at e
    by_cases z : r = r0 ∧ c = c0
    · rw [if_pos z] at e
      obtain ⟨rfl, rfl⟩ := z
      cases e
      exact .inr ⟨hn, hk, u, hu, hp⟩
    · rw [if_neg z] at e
      exact G.cells r c n' k' e
  · rw [cellAt_set hr hc0] at e1 e2
    by_cases z1 : r = r0 ∧ c = c0
    · by_cases z2 : r' = r0 ∧ c' = c0
      · exact ⟨z1.1.trans z2.1.symm, z1.2.trans z2.2.symm⟩
      · rw [if_pos z1] at e1
        rw [if_neg z2] at e2
        cases e1
        exact (new r' c' k2 e2).elim
    · rw [if_neg z1] at e1
      by_cases z2 : r' = r0 ∧ c' = c0
      · rw [if_pos z2] at e2
        cases e2
        exact (new r c k1 e1).elim
      · rw [if_neg z2] at e2
        exact G.uniq r c r' c' n' k1 k2 e1 e2
theorem abc_ok : LetOk "abcdefghijklmnopqrstuvwxyz" := ⟨by decide +kernel, by decide +kernel, by unfold smallC; decide +kernel⟩
theorem abc_len : (Str.ofString "abcdefghijklmnopqrstuvwxyz").length = 26 := by decide +kernel
theorem rep_flat {α : Type} (n : Nat) (x : α) : (List.replicate n [x]).flatten = List.replicate n x := by
  induction n with
  | zero => rfl
  | succ n ih => rw [List.replicate_succ, List.flatten_cons, ih, List.replicate_succ]; rfl
theorem area {w h : Nat} (hw : 2 ≤ w ∧ w ≤ 15) (hh : 2 ≤ h ∧ h ≤ 15) : 0 < (w : Int) * h ∧ (w : Int) * h < 1073741824 := by
  have h1 : w * h ≤ 15 * 15 := Nat.mul_le_mul hw.2 hh.2
  have h2 : 2 * 2 ≤ w * h := Nat.mul_le_mul hw.1 hh.1
  have e : (w : Int) * h = ((w * h : Nat) : Int) := by push_cast; rfl
  rw [e]
  omega
theorem div_lt' {w h b : Nat} (hb : (b : Int) < (w : Int) * h) : b / w < h := by
  have e : (w : Int) * h = ((w * h : Nat) : Int) := by push_cast; rfl
  rw [e] at hb
  have hb : b < w * h := by omega
  exact Nat.div_lt_of_lt_mul hb
theorem str_in {n : Str} {ns : List Str} : pyIn (.str n) (ns.map D.str) = ns.contains n := by
  unfold pyIn
  induction ns with
  | nil => rfl
  | cons x ns ih =>
    rw [List.map_cons, List.any_cons, ih, List.contains_cons]
    simp only [pyEq]
    congr 1
    cases h : (x == n) with
    | true => have := eq_of_beq h; subst this; simp
    | false =>
      cases h2 : (n == x) with
      | true => have := eq_of_beq h2; subst this; simp at h
      | false => rfl
theorem strs_ok (ns : List Str) : (ns.map D.str).all (okE 11) = true := by
  rw [List.all_map]
  exact List.all_eq_true.mpr fun x _ => rfl
end
section
variable {P : Program} {w : World} {K : PySem.W.Frag} {mg : Str → Option Value} {base : Heap} {t : Adr}
noncomputable def caseInv (us : List Int) (w h : Nat) (g : Int) (L : Str) (fk bk : Nat) (j : Nat) (ρ : EnvD) : Prop := ∃ (m c : Int) (rows : List (List Cell)) (ns : List Str) (o10 o11 o12 o13 o14 : Option D), BagOk m c ∧ CaseG us rows w h ∧ (∀ r c n k, cellAt rows r c = some (some (n, k)) → n = " " ∨ n ∈ ns) ∧ ns.length ≤ j ∧
  ρ = [some (.lst [.int m, .int c]), some (.int g), some (.int w), some (.int h), some (.str L), some (.int fk), some (.lst (us.map D.int)), some (.lst (rows.map fun r => D.lst (r.map cellD))), some (.int bk), some (.lst (ns.map D.str)), o10, o11, o12, o13, o14]
theorem body_d_law_case : BodyX B_d_law_case 15 2 0 .cl sd_d_law_case := by
  rintro ds q hl ⟨m, c, g, rfl, hb, hg, hq⟩
  obtain ⟨nw, ew, hw⟩ := g_pick (a := 4) (b := 14) hg
  refine ⟨_, rfl, small_line (by show 2 ≤ 1000; decide), _, rfl, _, _, _, rfl, rfl, ew, _, rfl, rfl, m, c, nw, rfl, hb, by omega, by omega, fun w m1 c1 w0 w1 hb1 => ⟨_, _, rfl, rfl, ?_⟩⟩
  refine ⟨_, rfl, small_line (by show 2 ≤ 1000; decide), _, rfl, _, _, _, rfl, rfl, ew, _, rfl, rfl, m1, c1, nw, rfl, hb1, by omega, by omega, fun h m2 c2 h0 h1 hb2 => ⟨_, _, rfl, rfl, ?_⟩⟩
  have hwb : 2 ≤ 2 + w ∧ 2 + w ≤ 15 := by omega
  have hhb : 2 ≤ 2 + h ∧ 2 + h ≤ 15 := by omega
  dsimp only
  generalize 2 + w = W at hwb ⊢
  generalize 2 + h = Hh at hhb ⊢
  clear w0 w1 h0 h1 hw ew w h nw
  obtain ⟨w, rfl⟩ := Int.eq_ofNat_of_zero_le (show 0 ≤ W by omega)
  obtain ⟨h, rfl⟩ := Int.eq_ofNat_of_zero_le (show 0 ≤ Hh by omega)
  have hwn : 2 ≤ w ∧ w ≤ 15 := by omega
  have hhn : 2 ≤ h ∧ h ≤ 15 := by omega
  refine ⟨_, rfl, _, rfl, rfl, m2, c2, 26, rfl, hb2, by decide, by decide, fun f m3 c3 f0 f1 hb3 => ?_⟩
  obtain ⟨fk, rfl⟩ := Int.eq_ofNat_of_zero_le f0
  have lenA : (Str.ofString "abcdefghijklmnopqrstuvwxyz").length ≤ sizeLine := by rw [abc_len]; exact small_line (by decide)
  have l1 := slice_len_from (Str.ofString "abcdefghijklmnopqrstuvwxyz") fk (by rw [abc_len]; omega)
  have l2 := slice_len_to (Str.ofString "abcdefghijklmnopqrstuvwxyz") fk
  rw [abc_len] at l1 l2
  refine ⟨_, rfl, _, rfl, _, rfl, _, rfl, lenA, _, rfl, _, rfl, _, rfl, _, rfl, lenA, _, _, rfl, rfl, by rw [l1, l2]; exact small_line (by omega), ?_⟩
  have hS : (Txt.slice (Str.ofString "abcdefghijklmnopqrstuvwxyz") (some (fk : Int)) none ++ Txt.slice (Str.ofString "abcdefghijklmnopqrstuvwxyz") none (some (fk : Int))).length = 26 := by rw [str_app_len, l1, l2]; omega
  have hSc : ∀ c ∈ (Txt.slice (Str.ofString "abcdefghijklmnopqrstuvwxyz") (some (fk : Int)) none ++ Txt.slice (Str.ofString "abcdefghijklmnopqrstuvwxyz") none (some (fk : Int))).cps.toList, smallC c := fun c hc => by
    rw [str_app_cps] at hc
    exact abc_ok.2.2 c ((List.mem_append.mp hc).elim slice_mem slice_mem)
  generalize Txt.slice (Str.ofString "abcdefghijklmnopqrstuvwxyz") (some (fk : Int)) none ++ Txt.slice (Str.ofString "abcdefghijklmnopqrstuvwxyz") none (some (fk : Int)) = L0 at hS hSc ⊢
  refine ⟨_, rfl, small_line (by show 4 ≤ 1000; decide), _, rfl, _, rfl, rfl, m3, c3, 4, rfl, hb3, by decide, by decide, fun r m4 c4 r0 r1 hb4 => ?_⟩
  obtain ⟨n4, e4, hn4⟩ := at_ints (ns := [3, 4, 6, 26]) r0 r1
  have hn4 : 3 ≤ n4 ∧ n4 ≤ 26 := by simp at hn4; omega
  refine ⟨_, _, _, rfl, rfl, e4, _, rfl, _, rfl, by rw [hS]; exact small_line (by decide), ?_⟩
  clear e4 r0 r1
  obtain ⟨k4, rfl⟩ := Int.eq_ofNat_of_zero_le (show 0 ≤ n4 by omega)
  have hL : LetOk (Txt.slice L0 none (some (k4 : Int))) := by
    have e := slice_len_to L0 k4
    rw [hS] at e
    exact ⟨by rw [e]; omega, by rw [e]; omega, fun c hc => hSc c (slice_mem hc)⟩
  generalize Txt.slice L0 none (some (k4 : Int)) = L at hL ⊢
  simp only [kl_d_law_case, startD, List.map_cons, List.map_nil, List.length_cons, List.length_nil, Nat.reduceAdd, Nat.reduceSub, List.replicate_succ, List.replicate_zero, List.cons_append, List.nil_append, List.set_cons_zero, List.set_cons_succ]
  refine ⟨_, rfl, (h : Int), rfl, by omega, by omega, ?_⟩
  refine compY (fun j acc ρ => ∃ m c o us, BagOk m c ∧ us.length = j ∧ (∀ u ∈ us, 1 ≤ u ∧ u ≤ 30) ∧ acc = us.map D.int ∧ ρ = [o, some (.lst [.int m, .int c])]) ⟨m4, c4, none, [], hb4, rfl, fun u hu => absurd hu (by simp), rfl, rfl⟩ ?_ ?_
  · rintro j d acc ρ hd ⟨m5, c5, o, us, hb5, hul, hub, rfl, rfl⟩
    have hj : j < h := by
      have := (List.getElem?_eq_some_iff.mp hd).1
      simpa using this
    refine ⟨_, rfl, _, rfl, rfl, m5, c5, 30, rfl, hb5, by decide, by decide, fun u m6 c6 u0 u1 hb6 => ⟨_, _, rfl, rfl, ?_, ?_⟩⟩
    · rw [List.length_map, hul]; exact small1000 (by omega)
    · refine ⟨m6, c6, _, us ++ [1 + u], hb6, by simp [hul], fun v hv => ?_, by simp, rfl⟩
      rcases List.mem_append.mp hv with z | z
      · exact hub v z
      · have : v = 1 + u := by simpa using z
        omega
  · rintro acc ρ ⟨m5, c5, o, us, hb5, hul, hub, rfl, rfl⟩
    rw [List.length_map, List.length_range, Int.toNat_natCast] at hul
    refine ⟨_, rfl, ?_⟩
    simp only [kl_d_law_case, startD, List.map_cons, List.map_nil, List.length_cons, List.length_nil, Nat.reduceAdd, Nat.reduceSub, List.replicate_succ, List.replicate_zero, List.cons_append, List.nil_append, List.set_cons_zero, List.set_cons_succ]
    refine ⟨_, rfl, (h : Int), rfl, by omega, by omega, ?_⟩
    refine compY (fun j acc ρ => ∃ o, acc = (List.replicate j (List.replicate w (none : Cell))).map (fun r => D.lst (r.map cellD)) ∧ ρ = [o, some (.int w)]) ⟨none, rfl, rfl⟩ ?_ ?_
    · rintro j d acc ρ hd ⟨o2, rfl, rfl⟩
      have hj : j < h := by
        have := (List.getElem?_eq_some_iff.mp hd).1
        simpa using this
      refine ⟨small_line (by show 1 ≤ 1000; decide), _, rfl, _, _, rfl, rfl, by omega, by omega, ?_, ?_, ?_⟩
      · show 1 * _ ≤ _
        rw [Nat.one_mul, Int.toNat_natCast]; exact small_line (by omega)
      · rw [List.length_map, List.length_replicate]; exact small1000 (by omega)
      · refine ⟨_, ?_, rfl⟩
        have e9 : List.map cellD (List.replicate w (none : Cell)) = List.replicate w D.non := by rw [List.map_replicate]; rfl
        rw [rep_flat, Int.toNat_natCast, List.replicate_succ', List.map_append, List.map_singleton, e9]
    · rintro acc ρ ⟨o2, rfl, rfl⟩
      rw [List.length_map, List.length_range, Int.toNat_natCast]
      have har := area hwn hhn
      simp only [kl_d_law_case, startD, List.map_cons, List.map_nil, List.length_cons, List.length_nil, Nat.reduceAdd, Nat.reduceSub, List.replicate_succ, List.replicate_zero, List.cons_append, List.nil_append, List.set_cons_zero, List.set_cons_succ]
      refine ⟨_, rfl, _, rfl, _, rfl, _, _, rfl, rfl, mokL (by omega) (by omega), _, rfl, rfl, m5, c5, _, rfl, hb5, har.1, har.2, fun b m6 c6 b0 b1 hb6 => ?_⟩
      obtain ⟨bk, rfl⟩ := Int.eq_ofNat_of_zero_le b0
      simp only [kl_d_law_case, startD, List.map_cons, List.map_nil, List.length_cons, List.length_nil, Nat.reduceAdd, Nat.reduceSub, List.replicate_succ, List.replicate_zero, List.cons_append, List.nil_append, List.set_cons_zero, List.set_cons_succ]
      have hbr : bk / w < h := div_lt' b1
      have hbc : bk % w < w := Nat.mod_lt _ (by omega)
      have hr0 : (List.replicate h (List.replicate w (none : Cell)))[bk / w]? = some (List.replicate w none) := by rw [List.getElem?_replicate, if_pos hbr]
      have hc0 : (List.replicate w (none : Cell))[bk % w]? = some none := by rw [List.getElem?_replicate, if_pos hbc]
      refine ⟨⟨_, rfl⟩, small_line (by show 2 ≤ 1000; decide), _, rfl, _, rfl, _, _, rfl, rfl, ⟨by omega, by omega⟩, ?_⟩
      refine ⟨((bk / w : Nat) : Int), bk / w, _, _, by rw [Int.natCast_ediv], rfl, ixN_nat (by rw [List.length_map, List.length_replicate]; exact hbr), by rw [List.getElem?_map, hr0]; rfl, ?_⟩
      refine ⟨_, rfl, _, rfl, _, _, rfl, rfl, by omega, ?_⟩
      refine ⟨((bk % w : Nat) : Int), bk % w, _, _, by rw [Int.natCast_emod], rfl, by rw [List.getElem?_map, hr0]; rfl, ixN_nat (by rw [List.length_map, List.length_replicate]; exact hbc), ?_⟩
      have eg : ((List.replicate h (List.replicate w (none : Cell))).map fun r => D.lst (r.map cellD)).set (bk / w) (.lst (((List.replicate w (none : Cell)).map cellD).set (bk % w) (.tup [.str (Str.ofString " "), .int 0]))) =
          ((List.replicate h (List.replicate w (none : Cell))).set (bk / w) ((List.replicate w none).set (bk % w) (some ((" " : Str), 0)))).map fun r => D.lst (r.map cellD) := by
        rw [List.map_set, List.map_set]; rfl
      have CG : CaseG us ((List.replicate h (List.replicate w (none : Cell))).set (bk / w) ((List.replicate w none).set (bk % w) (some ((" " : Str), 0)))) w h ∧
          ∀ r c n k, cellAt ((List.replicate h (List.replicate w (none : Cell))).set (bk / w) ((List.replicate w none).set (bk % w) (some ((" " : Str), 0)))) r c = some (some (n, k)) → n = " " := by
        have at' := fun r c => cellAt_set (x := some ((" " : Str), (0 : Int))) hr0 (by rw [List.length_replicate]; exact hbc) r c
        have no : ∀ r c x, cellAt (List.replicate h (List.replicate w (none : Cell))) r c = some (some x) → False := fun r c x e => by
          unfold cellAt at e
          rw [List.getElem?_replicate] at e
          split at e
          · simp only [Option.bind_some, List.getElem?_replicate] at e
            split at e <;> cases e
          · cases e
        have key : ∀ r c n k, cellAt ((List.replicate h (List.replicate w (none : Cell))).set (bk / w) ((List.replicate w none).set (bk % w) (some ((" " : Str), 0)))) r c = some (some (n, k)) → (r = bk / w ∧ c = bk % w) ∧ n = " " ∧ k = 0 := fun r c n k e => by
          rw [at'] at e
          by_cases z : r = bk / w ∧ c = bk % w
          · rw [if_pos z] at e; cases e; exact ⟨z, rfl, rfl⟩
          · rw [if_neg z] at e; exact (no _ _ _ e).elim
        refine ⟨⟨hwn.1, hwn.2, hhn.1, hhn.2, hul, by simp, fun r hr => ?_, hub, ⟨bk / w, bk % w, by rw [at', if_pos ⟨rfl, rfl⟩]⟩, fun r c n k e => .inl (key r c n k e).2, fun r c r' c' n k k' e1 e2 => ?_⟩, fun r c n k e => (key r c n k e).2.1⟩
        · rcases List.mem_or_eq_of_mem_set hr with z | z
          · rw [List.eq_of_mem_replicate z]; simp
          · rw [z]; simp
        · have a1 := (key _ _ _ _ e1).1
          have a2 := (key _ _ _ _ e2).1
          exact ⟨a1.1.trans a2.1.symm, a1.2.trans a2.2.symm⟩
      rw [eg]
      clear eg hr0 hc0
      generalize (List.replicate h (List.replicate w (none : Cell))).set (bk / w) ((List.replicate w none).set (bk % w) (some ((" " : Str), 0))) = rows0 at CG ⊢
      simp only [kl_d_law_case, startD, List.map_cons, List.map_nil, List.length_cons, List.length_nil, Nat.reduceAdd, Nat.reduceSub, List.replicate_succ, List.replicate_zero, List.cons_append, List.nil_append, List.set_cons_zero, List.set_cons_succ]
      refine ⟨Nat.zero_le _, ?_⟩
      obtain ⟨n7, e7, h7⟩ := g_pick (a := 10) (b := 30) hg
      refine ⟨_, rfl, small_line (by show 2 ≤ 1000; decide), _, rfl, _, _, _, rfl, rfl, e7, _, rfl, rfl, m6, c6, n7, rfl, hb6, by omega, by omega, fun t m7 c7 t0 t1 hb7 => ⟨_, _, rfl, rfl, 1 + t, rfl, by omega, by omega, ?_⟩⟩
      obtain ⟨CG, CB⟩ := CG
      refine forI (caseInv us w h g L fk bk) (by
        unfold caseInv
        exact ⟨m7, c7, rows0, [], none, none, none, none, none, hb7, CG, fun r c n k e => .inl (CB r c n k e), Nat.le_refl _, rfl⟩) ?_ ?_
      · rintro j d ρ hd ⟨m8, c8, rows, ns, o10, o11, o12, o13, o14, hb8, G, GN, hns, rfl⟩
        have hj : j < 31 := by
          have := (List.getElem?_eq_some_iff.mp hd).1
          simp at this; omega
        refine ⟨_, rfl, _, rfl, _, rfl, _, _, rfl, rfl, mokL (by omega) (by omega), _, rfl, rfl, m8, c8, _, rfl, hb8, har.1, har.2, fun pl m9 c9 p0 p1 hb9 => ?_⟩
        obtain ⟨pk, rfl⟩ := Int.eq_ofNat_of_zero_le p0
        have hpr : pk / w < h := div_lt' p1
        have hpc : pk % w < w := Nat.mod_lt _ (by omega)
        simp only [kl_d_law_case, startD, List.map_cons, List.map_nil, List.length_cons, List.length_nil, Nat.reduceAdd, Nat.reduceSub, List.replicate_succ, List.replicate_zero, List.cons_append, List.nil_append, List.set_cons_zero, List.set_cons_succ]
        refine ⟨_, rfl, _, rfl, _, rfl, rfl, m9, c9, L, rfl, hb9, hL, fun nm m10 c10 hnm hb10 => ?_⟩
        simp only [kl_d_law_case, startD, List.map_cons, List.map_nil, List.length_cons, List.length_nil, Nat.reduceAdd, Nat.reduceSub, List.replicate_succ, List.replicate_zero, List.cons_append, List.nil_append, List.set_cons_zero, List.set_cons_succ]
        refine ⟨1, rfl, small_line (by show 4 ≤ 1000; decide), _, rfl, _, rfl, rfl, m10, c10, 4, rfl, hb10, by decide, by decide, fun cm m11 c11 cm0 cm1 hb11 => ?_⟩
        obtain ⟨cam, ecam, hcam⟩ := at_ints (ns := [0, 0, 1, -1]) cm0 cm1
        have hcam : cam = -1 ∨ cam = 0 ∨ cam = 1 := by simp at hcam; omega
        refine ⟨_, _, _, rfl, rfl, ecam, ?_⟩
        simp only [kl_d_law_case, startD, List.map_cons, List.map_nil, List.length_cons, List.length_nil, Nat.reduceAdd, Nat.reduceSub, List.replicate_succ, List.replicate_zero, List.cons_append, List.nil_append, List.set_cons_zero, List.set_cons_succ]
        refine ⟨_, rfl, _, rfl, _, _, rfl, rfl, ⟨by omega, by omega⟩, ?_⟩
        simp only [kl_d_law_case, startD, List.map_cons, List.map_nil, List.length_cons, List.length_nil, Nat.reduceAdd, Nat.reduceSub, List.replicate_succ, List.replicate_zero, List.cons_append, List.nil_append, List.set_cons_zero, List.set_cons_succ]
        rw [← Int.natCast_ediv]
        obtain ⟨row, hrow⟩ : ∃ row, rows[pk / w]? = some row := ⟨_, List.getElem?_eq_getElem (by rw [G.rl]; exact hpr)⟩
        have hrl : row.length = w := G.cl row (List.mem_of_getElem? hrow)
        obtain ⟨x, hx⟩ : ∃ x, row[pk % w]? = some x := ⟨_, List.getElem?_eq_getElem (by rw [hrl]; exact hpc)⟩
        obtain ⟨u, hu⟩ : ∃ u, us[pk / w]? = some u := ⟨_, List.getElem?_eq_getElem (by rw [G.ul]; exact hpr)⟩
        have keepP : caseInv us w h g L fk bk (j + 1) [some (D.lst [.int m11, .int c11]), some (.int g), some (.int w), some (.int h), some (.str L), some (.int fk), some (.lst (us.map D.int)), some (.lst (rows.map fun r => D.lst (r.map cellD))), some (.int bk), some (.lst (ns.map D.str)), some d, some (.int pk), some (.str nm), some (.int cam), some (.int ((pk / w : Nat) : Int))] := by
          unfold caseInv
          exact ⟨m11, c11, rows, ns, _, _, _, _, _, hb11, G, GN, by omega, rfl⟩
        refine ⟨_, rfl, _, rfl, _, _, _, rfl, rfl, atI_map_nat hrow, _, rfl, _, rfl, _, _, rfl, rfl, by omega, ?_⟩
        refine ⟨_, ((pk % w : Nat) : Int), _, rfl, by rw [Int.natCast_emod], atI_map_nat hx, rfl, _, rfl, ?_⟩
        rw [isNon_cell]
        cases x with
        | some p => exact iteF (iteF keepP)
        | none =>
          refine iteT ⟨_, rfl, _, rfl, _, .inl rfl, rfl, strs_ok ns, _, rfl, ?_⟩
          rw [str_in, Bool.true_xor]
          cases hin : ns.contains nm with
          | true => exact iteF (iteF keepP)
          | false =>
            refine iteT ⟨_, rfl, _, rfl, _, _, _, rfl, rfl, atI_map_nat hu, _, rfl, _, _, rfl, rfl, _, _, rfl, rfl, _, rfl, ?_⟩
            refine ite2 (fun hpos => ?_) (fun _ => keepP)
            have hpos : 0 < u + cam := by simpa using hpos
            refine ⟨⟨_, rfl⟩, _, rfl, _, rfl, small_line (by show 2 ≤ 1000; decide), _, rfl, _, pk / w, _, _, rfl, rfl, ixN_nat (by rw [List.length_map, G.rl]; exact hpr), by rw [List.getElem?_map, hrow]; rfl, ?_⟩
            refine ⟨_, rfl, _, rfl, _, _, rfl, rfl, by omega, ((pk % w : Nat) : Int), pk % w, _, _, by rw [Int.natCast_emod], rfl, by rw [List.getElem?_map, hrow]; rfl, ixN_nat (by rw [List.length_map, hrl]; exact hpc), ?_⟩
            simp only [kl_d_law_case, startD, List.map_cons, List.map_nil, List.length_cons, List.length_nil, Nat.reduceAdd, Nat.reduceSub, List.replicate_succ, List.replicate_zero, List.cons_append, List.nil_append, List.set_cons_zero, List.set_cons_succ]
            refine ⟨⟨_, rfl⟩, _, rfl, _, rfl, ?_, ?_⟩
            · rw [List.length_map]; exact small1000 (by omega)
            · have nin : nm ∉ ns := by simpa using hin
              have fresh : ∀ r c k', cellAt rows r c = some (some (nm, k')) → False := fun r c k' e => by
                rcases GN r c nm k' e with z | z
                · subst z
                  have := hnm.2.2 32 (by decide +kernel)
                  exact absurd this.1 (by decide)
                · exact nin z
              unfold caseInv
              refine ⟨m11, c11, rows.set (pk / w) (row.set (pk % w) (some (nm, cam))), ns ++ [nm], some d, some (.int pk), some (.str nm), some (.int cam), some (.int ((pk / w : Nat) : Int)), hb11, G.put hrow hx hnm hcam hu hpos fresh, fun r c n k e => ?_, by simp; omega, ?_⟩
              · rw [cellAt_set hrow (by rw [hrl]; exact hpc)] at e
                by_cases z : r = pk / w ∧ c = pk % w
                · rw [if_pos z] at e; cases e; exact .inr (by simp)
                · rw [if_neg z] at e
                  rcases GN r c n k e with q | q
                  · exact .inl q
                  · exact .inr (by simp [q])
              · rw [List.map_append, List.map_set, List.map_set]
                rfl
      · rintro ρ ⟨m8, c8, rows, ns, o10, o11, o12, o13, o14, hb8, G, GN, hns, rfl⟩
        simp only [kl_d_law_case, startD, List.map_cons, List.map_nil, List.length_cons, List.length_nil, Nat.reduceAdd, Nat.reduceSub, List.replicate_succ, List.replicate_zero, List.cons_append, List.nil_append, List.set_cons_zero, List.set_cons_succ]
        refine ⟨_, rfl, _, .inl rfl, _, rfl, _, rfl, ?_⟩
        refine compY (fun j acc ρ => ∃ o, acc = (rows.take j).map (fun r => D.tup (r.map cellD)) ∧ ρ = [o]) ⟨none, rfl, rfl⟩ ?_ ?_
        · rintro j d acc ρ hd ⟨o, rfl, rfl⟩
          rw [List.getElem?_map] at hd
          obtain ⟨r, hr, rfl⟩ := Option.map_eq_some_iff.mp hd
          have hj : j < h := by rw [← G.rl]; exact (List.getElem?_eq_some_iff.mp hr).1
          refine ⟨_, rfl, _, .inl rfl, ?_, ?_⟩
          · rw [List.length_map, List.length_take]; exact small1000 (by omega)
          · refine ⟨_, ?_, rfl⟩
            rw [List.take_succ, hr, List.map_append]
            rfl
        · rintro acc ρ ⟨o, rfl, rfl⟩
          rw [List.length_map, List.take_length]
          refine ⟨_, .inl rfl, small_line (by show 2 ≤ 1000; decide), ?_, _, rfl, hq us rows w h m8 c8 G ⟨ns, by rw [List.length_map, List.length_range] at hns; omega, GN⟩ hb8⟩
          exact noL_case us rows
theorem ok_d_law_case (T : Txt K mg t) : FnOk P w K mg base CX0 3 t.f_d_law_case t.d_d_law_case ["_law_bag_here", "_law_great"] (spX K 2 0 1 .cl sd_d_law_case) := by
  have G_d_law_take := ok_d_law_take (P := P) (w := w) (base := base) T
  have G_d_law_name := ok_d_law_name (P := P) (w := w) (base := base) T
  exact fnX (κ := κ_d_law_case) (T := B_d_law_case) T.F_d_law_case sc_d_law_case rfl (by decide) (io_of rfl) (clx_of rfl) (.inl rfl)
    (fun cdv A outer s H E hr =>
      (dscons (dset (i := 2) (by rfl) (.inl rfl) sc_d_law_case.nd rfl (Or.inr rfl) rfl (fopC (by decide) do_add (DE.dirty dint) (fclx (by rfl) (by decide) G_d_law_take rfl (hr.mono (by decide)) (by rfl) T.m_d_law_take T.k_d_law_take T.b_d_law_take pass0 rfl (.inl rfl) (dax_here (i := 0) rfl (by first | exact Or.inl rfl | exact Or.inr (Or.inl rfl) | exact Or.inr (Or.inr rfl)) (by decide) (by decide) (facC rfl (fixC (fun _ _ => rfl) dix_l (DE.clean (flstC (facC rfl dint (facC rfl dint fanil)))) (dv 1)) fanil)))))
      (dscons (dset (i := 3) (by rfl) (.inl rfl) sc_d_law_case.nd rfl (Or.inl rfl) rfl (fopC (by decide) do_add (DE.dirty dint) (fclx (by rfl) (by decide) G_d_law_take rfl (hr.mono (by decide)) (by rfl) T.m_d_law_take T.k_d_law_take T.b_d_law_take pass0 rfl (.inl rfl) (dax_here (i := 0) rfl (by first | exact Or.inl rfl | exact Or.inr (Or.inl rfl) | exact Or.inr (Or.inr rfl)) (by decide) (by decide) (facC rfl (fixC (fun _ _ => rfl) dix_l (DE.clean (flstC (facC rfl dint (facC rfl dint fanil)))) (dv 1)) fanil)))))
      (dscons (dset (i := 4) (by rfl) (.inl rfl) sc_d_law_case.nd rfl (Or.inl rfl) rfl dstr)
      (dscons (dset (i := 5) (by rfl) (.inl rfl) sc_d_law_case.nd rfl (Or.inl rfl) rfl (fclx (by rfl) (by decide) G_d_law_take rfl (hr.mono (by decide)) (by rfl) T.m_d_law_take T.k_d_law_take T.b_d_law_take pass0 rfl (.inl rfl) (dax_here (i := 0) rfl (by first | exact Or.inl rfl | exact Or.inr (Or.inl rfl) | exact Or.inr (Or.inr rfl)) (by decide) (by decide) (facC rfl dint fanil))))
      (dscons (dset (i := 4) (by rfl) (.inl rfl) sc_d_law_case.nd rfl (Or.inl rfl) rfl (fopC (by decide) do_adds (fslC (by decide) dsl_s (dv 4) (dosome (dv 5)) fono) (fslC (by decide) dsl_s (dv 4) fono (dosome (dv 5)))))
      (dscons (dset (i := 4) (by rfl) (.inl rfl) sc_d_law_case.nd rfl (Or.inl rfl) rfl (fslC (by decide) dsl_s (DE.dirty (dv 4)) fono (dosome (fixC (fun _ _ => rfl) dix_l (DE.clean (DE.dirty (flstC (facC rfl dint (facC rfl dint (facC rfl dint (facC rfl dint fanil))))))) (fclx (by rfl) (by decide) G_d_law_take rfl (hr.mono (by decide)) (by rfl) T.m_d_law_take T.k_d_law_take T.b_d_law_take pass0 rfl (.inl rfl) (dax_here (i := 0) rfl (by first | exact Or.inl rfl | exact Or.inr (Or.inl rfl) | exact Or.inr (Or.inr rfl)) (by decide) (by decide) (facC rfl dint fanil)))))))
      (dscons (dsetCX (i := 6) (.inl rfl) (by rfl) (by intro _; rfl) rfl sc_d_law_case.nd rfl rfl rfl rfl rfl (kc_of rfl) (capx_of rfl) (diR1 rfl (by rfl) T.n_range (facC rfl (dv 3) fanil)) (compSc_of (N := ["_law_bag_here", "_law_great", "_law_wide", "_law_high", "_law_letters", "_law_first", "_law_units", "_law_cells", "_law_blank", "_law_names", "_law_k", "_law_place", "_law_name_here", "_law_cam", "_law_row"]) (sc := defScope s_d_law_case) (Nc := ["_law_row", "_law_bag_here"]) (js := [none, some 0]) rfl rfl (by decide +kernel)) (fun pins_ fp_ H_ s_ C_ => ⟨(dgname (i := 0) (.inr rfl) (show (["_law_row", "_law_bag_here"] : List Str).Nodup by decide +kernel) rfl (Or.inl rfl) (.inl ⟨rfl, rfl⟩)), dif0, (fopC (by decide) do_add (DE.dirty dint) (fclx (by rfl) (by decide) G_d_law_take rfl (hr.mono (by decide)) (by rfl) T.m_d_law_take T.k_d_law_take T.b_d_law_take pass0 rfl (.inl rfl) (dax_here (i := 1) rfl (by first | exact Or.inl rfl | exact Or.inr (Or.inl rfl) | exact Or.inr (Or.inr rfl)) (by decide) (by decide) (facC rfl dint fanil))))⟩))
      (dscons (dsetC2 (i := 7) rfl (by rfl) (by intro _; rfl) rfl sc_d_law_case.nd rfl rfl (cap_of rfl) (diR1 rfl (by rfl) T.n_range (facC rfl (dv 3) fanil)) (compSc_of (N := ["_law_bag_here", "_law_great", "_law_wide", "_law_high", "_law_letters", "_law_first", "_law_units", "_law_cells", "_law_blank", "_law_names", "_law_k", "_law_place", "_law_name_here", "_law_cam", "_law_row"]) (sc := defScope s_d_law_case) (Nc := ["_law_row", "_law_wide"]) (js := [none, some 2]) rfl rfl (by decide +kernel)) (fun pins_ fp_ H_ s_ C_ => ⟨(dgname (i := 0) (.inr rfl) (show (["_law_row", "_law_wide"] : List Str).Nodup by decide +kernel) rfl (Or.inl rfl) (.inl ⟨rfl, rfl⟩)), dif0, (fopC (by decide) do_rep (DE.clean (flstC (facC rfl dnon fanil))) (dv 1))⟩))
      (dscons (dset (i := 8) (by rfl) (.inl rfl) sc_d_law_case.nd rfl (Or.inl rfl) rfl (fclx (by rfl) (by decide) G_d_law_take rfl (hr.mono (by decide)) (by rfl) T.m_d_law_take T.k_d_law_take T.b_d_law_take pass0 rfl (.inl rfl) (dax_here (i := 0) rfl (by first | exact Or.inl rfl | exact Or.inr (Or.inl rfl) | exact Or.inr (Or.inr rfl)) (by decide) (by decide) (facC rfl (fopC (by decide) do_mul (dv 2) (dv 3)) fanil))))
      (dscons (dstore2 (i := 7) (by rfl) (by rfl) (by rfl) (by intro _; rfl) (fun _ _ => rfl) rfl (by first | exact Or.inl rfl | exact Or.inr (Or.inl rfl) | exact Or.inr (Or.inr rfl)) (by decide) (by decide) rfl (ftupC (facC rfl dstr (facC rfl dint fanil))) (fopC (by decide) do_fdiv (dv 8) (dv 2)) (fopC (by decide) do_mod (dv 8) (dv 2)))
      (dscons (dsetO (i := 9) (by rfl) (.inl rfl) sc_d_law_case.nd rfl (Or.inl rfl) rfl (flstC (fanil (pu := true))))
      (dscons (dfor (by intro _; rfl) PassesOwn.never rfl (diR1 rfl (by rfl) T.n_range (facC rfl (fopC (by decide) do_add (DE.dirty dint) (fclx (by rfl) (by decide) G_d_law_take rfl (hr.mono (by decide)) (by rfl) T.m_d_law_take T.k_d_law_take T.b_d_law_take pass0 rfl (.inl rfl) (dax_here (i := 0) rfl (by first | exact Or.inl rfl | exact Or.inr (Or.inl rfl) | exact Or.inr (Or.inr rfl)) (by decide) (by decide) (facC rfl (fixC (fun _ _ => rfl) dix_l (DE.clean (flstC (facC rfl dint (facC rfl dint fanil)))) (dv 1)) fanil)))) fanil)) (dgname (i := 10) (.inl rfl) sc_d_law_case.nd rfl (Or.inl rfl) (.inl ⟨rfl, rfl⟩)) (dscons (dset (i := 11) (by rfl) (.inl rfl) sc_d_law_case.nd rfl (Or.inl rfl) rfl (fclx (by rfl) (by decide) G_d_law_take rfl (hr.mono (by decide)) (by rfl) T.m_d_law_take T.k_d_law_take T.b_d_law_take pass0 rfl (.inl rfl) (dax_here (i := 0) rfl (by first | exact Or.inl rfl | exact Or.inr (Or.inl rfl) | exact Or.inr (Or.inr rfl)) (by decide) (by decide) (facC rfl (fopC (by decide) do_mul (dv 2) (dv 3)) fanil))))
      (dscons (dset (i := 12) (by rfl) (.inl rfl) sc_d_law_case.nd rfl (Or.inl rfl) rfl (fclx (by rfl) (by decide) G_d_law_name rfl (hr.mono (by decide)) (by rfl) T.m_d_law_name T.k_d_law_name T.b_d_law_name pass0 rfl (.inl rfl) (dax_here (i := 0) rfl (by first | exact Or.inl rfl | exact Or.inr (Or.inl rfl) | exact Or.inr (Or.inr rfl)) (by decide) (by decide) (facC rfl (dv 4) fanil))))
      (dscons (dset (i := 13) (by rfl) (.inl rfl) sc_d_law_case.nd rfl (Or.inl rfl) rfl (fixC (fun _ _ => rfl) dix_l (DE.clean (DE.dirty (flstC (facC rfl dint (facC rfl dint (facC rfl dint (facC rfl (fneg dint) fanil))))))) (fclx (by rfl) (by decide) G_d_law_take rfl (hr.mono (by decide)) (by rfl) T.m_d_law_take T.k_d_law_take T.b_d_law_take pass0 rfl (.inl rfl) (dax_here (i := 0) rfl (by first | exact Or.inl rfl | exact Or.inr (Or.inl rfl) | exact Or.inr (Or.inr rfl)) (by decide) (by decide) (facC rfl dint fanil)))))
      (dscons (dset (i := 14) (by rfl) (.inl rfl) sc_d_law_case.nd rfl (Or.inl rfl) rfl (fopC (by decide) do_fdiv (dv 11) (dv 2)))
      (dsone (dif (dtw (fwand (ftcmpL (nomark _) do_is (fixL (fun _ _ => rfl) dix_l (fixL (fun _ _ => rfl) dix_l (dvl 7) (DE.loose (dv 14))) (DE.loose (fopC (by decide) do_mod (dv 11) (dv 2)))) (DE.loose dnon)) (fwand (ftcmpL (by rfl) (do_notin (room12 hr)) (DE.loose (dv 12)) (dvl 9)) (dwand1 (ftcmpC (nomark _) do_gt (fopC (by decide) do_add (fixC (fun _ _ => rfl) dix_l (dv 6) (dv 14)) (dv 13)) dint))))) (dscons (dstore2 (i := 7) (by rfl) (by rfl) (by rfl) (by intro _; rfl) (fun _ _ => rfl) rfl (by first | exact Or.inl rfl | exact Or.inr (Or.inl rfl) | exact Or.inr (Or.inr rfl)) (by decide) (by decide) rfl (ftupC (facC rfl (dv 12) (facC rfl (dv 13) fanil))) (dv 14) (fopC (by decide) do_mod (dv 11) (dv 2)))
      (dsone (dappend (i := 9) (by rfl) rfl (by rfl) (by rfl) rfl (by first | exact Or.inl rfl | exact Or.inr (Or.inl rfl) | exact Or.inr (Or.inr rfl)) (by decide) (by decide) rfl (dv 12)))) dsnil)))))))
      (dsone (dret (DE.nol (ftupL (facL rfl (DE.loose (fctC (by rfl) (by decide) (by decide) (by decide) dc_tuple (by rfl) T.n_tuple bt_tuple (facC rfl (dv 6) fanil))) (facL rfl (fctL (by rfl) (by decide) (by decide) (by decide) dc_tuple (by rfl) T.n_tuple bt_tuple (facL rfl (dcomp (lo := true) (by intro _; rfl) rfl (fun h => by cases h) (fun _ => rfl) (diL vlo (dvl 7)) (compSc_of (N := ["_law_bag_here", "_law_great", "_law_wide", "_law_high", "_law_letters", "_law_first", "_law_units", "_law_cells", "_law_blank", "_law_names", "_law_k", "_law_place", "_law_name_here", "_law_cam", "_law_row"]) (sc := defScope s_d_law_case) (Nc := ["_law_row"]) (js := [none]) rfl rfl (by decide +kernel)) (fun pins_ fp_ H_ s_ C_ => ⟨(dgname (i := 0) (.inr rfl) (show (["_law_row"] : List Str).Nodup by decide +kernel) rfl (Or.inl rfl) (.inl ⟨rfl, rfl⟩)), dif0, (fctC (by rfl) (by decide) (by decide) (by decide) dc_tuple (by rfl) T.n_tuple bt_tuple (facC rfl (dv 0) fanil))⟩)) fanilL)) fanilL))))))))))))))))))) body_d_law_case
end
section
variable {P : Program} {w : World} {K : PySem.W.Frag} {mg : Str → Option Value} {base : Heap} {t : Adr}
theorem oneF_len (r c : Nat) (x : Option Cell) : (oneF r c x).length ≤ 1 := by
  unfold oneF; split <;> simp
theorem fRow_len (r : Nat) (cells : List Cell) (j : Nat) : (fRow r cells j).length ≤ j := by
  induction j with
  | zero => simp [fRow]
  | succ j ih => rw [fRow, List.length_append]; have := oneF_len r j cells[j]?; omega
theorem fRows_len {rows : List (List Cell)} {w : Nat} (hw : ∀ r ∈ rows, r.length = w) (i : Nat) : (fRows rows i).length ≤ i * w := by
  induction i with
  | zero => simp [fRows]
  | succ i ih =>
    rw [fRows, List.length_append, Nat.add_one_mul]
    cases e : rows[i]? with
    | none => simp only [List.length_nil]; omega
    | some cells =>
      have h1 := fRow_len i cells cells.length
      have h2 := hw cells (List.mem_of_getElem? e)
      simp only
      omega
theorem CaseG.few {us : List Int} {rows : List (List Cell)} {w h i j : Nat} {cells : List Cell} (G : CaseG us rows w h) (hi : i < h) (hj : j ≤ w) : (fRows rows i ++ fRow i cells j).length ≤ 240 := by
  rw [List.length_append]
  have a := fRows_len G.cl i
  have b := fRow_len i cells j
  have c := G.w15
  have d := G.h15
  have e : i * w ≤ 14 * 15 := Nat.mul_le_mul (by omega) c
  omega
theorem enum_at {α : Type} {f : α → D} {l : List α} {j : Nat} {d : D} (h : ((List.range (l.map f).length).map fun (k : Nat) => D.tup [.int (k : Int), (l.map f).getD k .non])[j]? = some d) : ∃ x, l[j]? = some x ∧ d = .tup [.int (j : Int), f x] := by
  rw [List.length_map] at h
  have hj : j < l.length := by
    have := (List.getElem?_eq_some_iff.mp h).1
    simpa using this
  rw [List.getElem?_map, List.getElem?_range hj] at h
  simp only [Option.map_some, Option.some.injEq] at h
  subst h
  refine ⟨l[j], List.getElem?_eq_getElem hj, ?_⟩
  rw [List.getD_eq_getElem?_getD, List.getElem?_map, List.getElem?_eq_getElem hj]
  rfl
theorem body_filled_cells : BodyP B_filled_cells 1 1 (.ow 1) sd_filled_cells := by
  rintro ds q hl ⟨us, rows, w, h, rfl, G, hq⟩
  refine ⟨_, rfl, _, _, _, rfl, rfl, at1, _, rfl, ?_⟩
  refine compY2 (fun i acc ρ => ∃ o0 o1 o2 o3, acc = (fRows rows i).map fcD ∧ ρ = [o0, o1, o2, o3]) ⟨none, none, none, none, rfl, rfl⟩ ?_ ?_
  · rintro i d acc ρ hd ⟨o0, o1, o2, o3, rfl, rfl⟩
    obtain ⟨cells, hr, rfl⟩ := enum_at hd
    have hi : i < h := by rw [← G.rl]; exact (List.getElem?_eq_some_iff.mp hr).1
    have hcl : cells.length = w := G.cl cells (List.mem_of_getElem? hr)
    refine ⟨_, rfl, rfl, _, _, rfl, _, _, rfl, rfl, _, rfl, _, rfl, ?_⟩
    refine compI (fun j acc ρ => ∃ o2 o3, acc = (fRows rows i ++ fRow i cells j).map fcD ∧ ρ = [some (.int i), some (.tup (cells.map cellD)), o2, o3]) ⟨o2, o3, ?_, rfl⟩ ?_ ?_
    · show _ = List.map fcD (_ ++ [])
      rw [List.append_nil]
    · rintro j d acc ρ hd ⟨o2, o3, rfl, rfl⟩
      obtain ⟨x, hx, rfl⟩ := enum_at hd
      have hj : j < w := by rw [← hcl]; exact (List.getElem?_eq_some_iff.mp hx).1
      refine ⟨_, rfl, rfl, _, _, rfl, _, _, rfl, rfl, _, rfl, ?_⟩
      have few : ((fRows rows i ++ fRow i cells j).map fcD).length < sizeLine := by
        rw [List.length_map]; have := G.few (cells := cells) hi (j := j) (by omega); exact small1000 (by omega)
      cases x with
      | none =>
        refine ⟨rfl, _, rfl, iteF ⟨_, _, ?_, rfl⟩⟩
        have e0 : oneF i j (some none) = [] := rfl
        rw [fRow, hx, e0, List.append_nil]
      | some p =>
        obtain ⟨n, k⟩ := p
        refine ⟨rfl, _, rfl, iteT ⟨_, rfl, _, _, _, rfl, rfl, at0, _, rfl, _, rfl, _, rfl, _, _, _, rfl, rfl, at1, small_line (by show 4 ≤ 1000; decide), few, _, _, ?_, rfl⟩⟩
        rw [fRow, hx, oneF, ← List.append_assoc, List.map_append (l₂ := [(n, j, i, k)])]
        rfl
    · rintro acc ρ ⟨o2, o3, rfl, rfl⟩
      rw [List.length_map, List.length_range, List.length_map]
      refine ⟨_, _, _, _, ?_, rfl⟩
      rw [fRows, hr]
  · rintro acc ρ ⟨o0, o1, o2, o3, rfl, rfl⟩
    rw [List.length_map, List.length_range, List.length_map]
    exact hq
theorem ok_filled_cells (T : Txt K mg t) : FnOk P w K mg base CX0 1 t.f_filled_cells t.d_filled_cells ["case"] (spP K 1 (.ow 1) sd_filled_cells) := by
  exact fnP (κ := κ_filled_cells) (T := B_filled_cells) T.F_filled_cells sc_filled_cells (noIo_of rfl) (cl_of rfl) (.inr ⟨_, rfl⟩)
    (fun cdv A outer s H E hr =>
      (dsone (dret (dcomp2 (lo := false) (by intro _; rfl) rfl (fun _ => cap_of rfl) (fun h => by cases h) (diE rfl (by rfl) T.n_enumerate (facC rfl (fixC (fun _ _ => rfl) dix_t (dv 0) dint) fanil)) (compSc_of (N := ["case"]) (sc := defScope s_filled_cells) (Nc := ["row", "cells", "column", "cell"]) (js := [none, none, none, none]) rfl rfl (by decide +kernel)) (fun pins_ fp_ H_ s_ C_ => ⟨(dgtup (by rfl) (by rfl) rfl (dgcons (by rfl) (dgname (i := 0) (.inr rfl) (show (["row", "cells", "column", "cell"] : List Str).Nodup by decide +kernel) rfl (Or.inl rfl) (.inl ⟨rfl, rfl⟩)) (dgcons (by rfl) (dgname (i := 1) (.inr rfl) (show (["row", "cells", "column", "cell"] : List Str).Nodup by decide +kernel) rfl (Or.inl rfl) (.inl ⟨rfl, rfl⟩)) dgnil))), dif0, ⟨(diE rfl (by rfl) T.n_enumerate (facC rfl (dv 1) fanil)), (dgtup (by rfl) (by rfl) rfl (dgcons (by rfl) (dgname (i := 2) (.inr rfl) (show (["row", "cells", "column", "cell"] : List Str).Nodup by decide +kernel) rfl (Or.inl rfl) (.inl ⟨rfl, rfl⟩)) (dgcons (by rfl) (dgname (i := 3) (.inr rfl) (show (["row", "cells", "column", "cell"] : List Str).Nodup by decide +kernel) rfl (Or.inl rfl) (.inl ⟨rfl, rfl⟩)) dgnil))), (dif1 (ftcmpC (nomark _) do_isnot (dv 3) dnon))⟩, (by intro _; rfl), (ftupC (facC rfl (fixC (fun _ _ => rfl) dix_t (dv 3) dint) (facC rfl (dv 2) (facC rfl (dv 0) (facC rfl (fixC (fun _ _ => rfl) dix_t (dv 3) dint) fanil)))))⟩))))) body_filled_cells
end
section
variable {P : Program} {w : World} {K : PySem.W.Frag} {mg : Str → Option Value} {base : Heap} {t : Adr}
theorem oneF_mem {r c : Nat} {x : Option Cell} {f : Fc} (h : f ∈ oneF r c x) : f.2.2.1 = r ∧ f.2.1 = c ∧ x = some (some (f.1, f.2.2.2)) := by
  unfold oneF at h
  split at h
  · simp at h; subst h; exact ⟨rfl, rfl, rfl⟩
  · simp at h
theorem fRow_mem {r : Nat} {cells : List Cell} {f : Fc} : ∀ {j : Nat}, f ∈ fRow r cells j → f.2.2.1 = r ∧ f.2.1 < j ∧ cells[f.2.1]? = some (some (f.1, f.2.2.2))
  | 0, h => by simp [fRow] at h
  | j + 1, h => by
    rw [fRow, List.mem_append] at h
    rcases h with h | h
    · obtain ⟨a, b, c⟩ := fRow_mem h
      exact ⟨a, by omega, c⟩
    · obtain ⟨a, b, c⟩ := oneF_mem h
      exact ⟨a, by omega, by rw [b]; exact c⟩
theorem fRows_mem {rows : List (List Cell)} {f : Fc} : ∀ {i : Nat}, f ∈ fRows rows i → f.2.2.1 < i ∧ cellAt rows f.2.2.1 f.2.1 = some (some (f.1, f.2.2.2))
  | 0, h => by simp [fRows] at h
  | i + 1, h => by
    rw [fRows, List.mem_append] at h
    rcases h with h | h
    · obtain ⟨a, b⟩ := fRows_mem h
      exact ⟨by omega, b⟩
    · cases e : rows[i]? with
      | none => rw [e] at h; simp at h
      | some cells =>
        rw [e] at h
        obtain ⟨a, b, c⟩ := fRow_mem h
        refine ⟨by omega, ?_⟩
        unfold cellAt
        rw [a, e]
        exact c
theorem CaseG.rowMem {us : List Int} {rows : List (List Cell)} {w h i j : Nat} {cells : List Cell} (hr : rows[i]? = some cells) {f : Fc} (hf : f ∈ fRow i cells j) : cellAt rows f.2.2.1 f.2.1 = some (some (f.1, f.2.2.2)) := by
  obtain ⟨a, b, c⟩ := fRow_mem hf
  unfold cellAt
  rw [a, hr]
  exact c
theorem nd_row {us : List Int} {rows : List (List Cell)} {w h i : Nat} {cells : List Cell} (G : CaseG us rows w h) (hr : rows[i]? = some cells) : ∀ j, ((fRow i cells j).map (·.1)).Nodup
  | 0 => by simp [fRow]
  | j + 1 => by
    rw [fRow, List.map_append]
    refine List.nodup_append.mpr ⟨nd_row G hr j, ?_, fun a ha b hb e => ?_⟩
    · unfold oneF; split <;> simp
    · subst e
      obtain ⟨f, hf, rfl⟩ := List.mem_map.mp ha
      obtain ⟨g, hg, e⟩ := List.mem_map.mp hb
      obtain ⟨g1, g2, g3⟩ := oneF_mem hg
      have c2 : cellAt rows i j = some (some (f.1, g.2.2.2)) := by
        unfold cellAt; rw [hr, ← e]; exact g3
      have := G.uniq _ _ _ _ _ _ _ (CaseG.rowMem (us := us) (w := w) (h := h) hr hf) c2
      have := (fRow_mem hf).2.1
      omega
theorem nd_both {us : List Int} {rows : List (List Cell)} {w h i : Nat} {cells : List Cell} (G : CaseG us rows w h) (hr : rows[i]? = some cells) (j : Nat) (h1 : ((fRows rows i).map (·.1)).Nodup) : ((fRows rows i ++ fRow i cells j).map (·.1)).Nodup := by
  rw [List.map_append]
  refine List.nodup_append.mpr ⟨h1, nd_row G hr j, fun a ha b hb e => ?_⟩
  subst e
  obtain ⟨f, hf, rfl⟩ := List.mem_map.mp ha
  obtain ⟨g, hg, e⟩ := List.mem_map.mp hb
  obtain ⟨f1, f2⟩ := fRows_mem hf
  have g2 := CaseG.rowMem (us := us) (w := w) (h := h) hr hg
  rw [e] at g2
  have := G.uniq _ _ _ _ _ _ _ f2 g2
  have := (fRow_mem hg).1
  omega
theorem nd_rows {us : List Int} {rows : List (List Cell)} {w h : Nat} (G : CaseG us rows w h) : ∀ i, ((fRows rows i).map (·.1)).Nodup
  | 0 => by simp [fRows]
  | i + 1 => by
    rw [fRows]
    cases hr : rows[i]? with
    | none => simp only [List.append_nil]; exact nd_rows G i
    | some cells => exact nd_both G hr _ (nd_rows G i)
theorem names_few {us : List Int} {rows : List (List Cell)} {w h : Nat} (G : CaseG us rows w h) (F : Few rows) : (namesOf rows).length ≤ 30 := by
  obtain ⟨ns, hl, hn⟩ := F
  refine Nat.le_trans (List.Nodup.length_le_of_subset (l₂ := ns) ((nd_rows G _).filter _) fun n hm => ?_) hl
  obtain ⟨h1, h2⟩ := List.mem_filter.mp hm
  obtain ⟨f, hf, rfl⟩ := List.mem_map.mp h1
  rcases hn _ _ _ _ (fRows_mem hf).2 with z | z
  · rw [z] at h2; simp at h2
  · exact z
end
section
variable {P : Program} {w : World} {K : PySem.W.Frag} {mg : Str → Option Value} {base : Heap} {t : Adr}
theorem str_ne (n : Str) : (!pyEq (.str n) (.str (" " : Str))) = !(n == (" " : Str)) := by
  simp only [pyEq]
theorem filt_step {l : List Str} {n : Str} {p : Str → Bool} : (l ++ [n]).filter p = l.filter p ++ if p n = true then [n] else [] := by
  rw [List.filter_append]
  by_cases h : p n = true <;> simp [List.filter_cons, h]
theorem names_step {rows : List (List Cell)} {j : Nat} {f : Fc} (h : (filled rows)[j]? = some f) : ((((filled rows).take (j + 1)).map (·.1)).filter fun n => !(n == (" " : Str))) = ((((filled rows).take j).map (·.1)).filter fun n => !(n == (" " : Str))) ++ if (!(f.1 == (" " : Str))) = true then [f.1] else [] := by
  rw [List.take_succ, h, List.map_append]
  exact filt_step (p := fun n => !(n == (" " : Str)))
theorem names_small {us : List Int} {rows : List (List Cell)} {w h : Nat} (G : CaseG us rows w h) (j : Nat) : (((((filled rows).take j).map (·.1)).filter fun n => !(n == (" " : Str))).map D.str).length < sizeLine := by
  rw [List.length_map]
  refine small1000 (Nat.le_trans (List.length_filter_le _ _) ?_)
  rw [List.length_map]
  refine Nat.le_trans (List.length_take_le' _ _) ?_
  have a := fRows_len G.cl rows.length
  have b : rows.length * w ≤ 15 * 15 := Nat.mul_le_mul (by rw [G.rl]; exact G.h15) G.w15
  exact Nat.le_trans a (Nat.le_trans b (by decide))
theorem body_size_of : BodyP B_size_of 1 1 .cl sd_size_of := by
  rintro ds q hl ⟨us, rows, w, h, rfl, G, hq⟩
  obtain ⟨r0, hr0⟩ : ∃ r0, rows[0]? = some r0 := ⟨_, List.getElem?_eq_getElem (by rw [G.rl]; have := G.h2; omega)⟩
  have hw : r0.length = w := G.cl r0 (List.mem_of_getElem? hr0)
  refine ⟨_, rfl, _, _, _, rfl, rfl, at1, _, _, _, rfl, rfl, atI_map_nat (k := 0) hr0, .inr (.inr (.inl ⟨_, rfl, _, rfl, _, _, _, rfl, rfl, at0, .inr (.inr (.inl ⟨_, rfl, small_line (by show 2 ≤ 1000; decide), ?_⟩))⟩))⟩
  rw [List.length_map, List.length_map, hw, G.ul]
  exact hq
theorem ok_size_of (T : Txt K mg t) : FnOk P w K mg base CX0 1 t.f_size_of t.d_size_of ["case"] (spP K 1 .cl sd_size_of) := by
  exact fnP (κ := κ_size_of) (T := B_size_of) T.F_size_of sc_size_of (noIo_of rfl) (cl_of rfl) (.inl rfl)
    (fun cdv A outer s H E hr =>
      (dsone (dret (ftupC (facC rfl (fcbC (by rfl) (by decide) (by decide) (by decide) dc_len (by rfl) T.n_len bt_len (facC rfl (fixC (fun _ _ => rfl) dix_t (fixC (fun _ _ => rfl) dix_t (dv 0) dint) dint) fanil)) (facC rfl (fcbC (by rfl) (by decide) (by decide) (by decide) dc_len (by rfl) T.n_len bt_len (facC rfl (fixC (fun _ _ => rfl) dix_t (dv 0) dint) fanil)) fanil)))))) body_size_of
theorem body_names_in : BodyP B_names_in 1 1 (.ow 1) sd_names_in := by
  rintro ds q hl ⟨us, rows, w, h, rfl, G, F, hq⟩
  refine ⟨_, rfl, rfl, us, rows, w, h, rfl, G, _, rfl, ?_⟩
  refine compI (fun j acc ρ => ∃ o0 o1 o2 o3, acc = ((((filled rows).take j).map (·.1)).filter fun n => !(n == (" " : Str))).map D.str ∧ ρ = [o0, o1, o2, o3]) ⟨none, none, none, none, rfl, rfl⟩ ?_ ?_
  · rintro j d acc ρ hd ⟨o0, o1, o2, o3, rfl, rfl⟩
    rw [List.getElem?_map] at hd
    obtain ⟨f, hf, rfl⟩ := Option.map_eq_some_iff.mp hd
    obtain ⟨n, c, r, k⟩ := f
    refine ⟨_, rfl, rfl, _, _, rfl, _, _, rfl, _, _, rfl, _, _, rfl, rfl, _, rfl, rfl, rfl, _, rfl, ?_⟩
    have st := names_step hf
    dsimp only at st ⊢
    rw [str_ne]
    cases hn : (!(n == (" " : Str))) with
    | true =>
      rw [hn, if_pos rfl] at st
      exact iteT ⟨_, rfl, names_small G j, _, _, _, _, by rw [st, List.map_append]; rfl, rfl⟩
    | false =>
      rw [hn, if_neg Bool.false_ne_true, List.append_nil] at st
      exact iteF ⟨_, _, _, _, by rw [st], rfl⟩
  · rintro acc ρ ⟨o0, o1, o2, o3, rfl, rfl⟩
    rw [List.length_map, List.take_length]
    refine ⟨namesOf rows, rfl, ?_, fun ss p1 p2 => hq ss p1 p2⟩
    have := names_few G F
    omega
theorem ok_names_in (T : Txt K mg t) : FnOk P w K mg base CX0 2 t.f_names_in t.d_names_in ["case"] (spP K 1 (.ow 1) sd_names_in) := by
  have G_filled_cells := ok_filled_cells (P := P) (w := w) (base := base) T
  exact fnP (κ := κ_names_in) (T := B_names_in) T.F_names_in sc_names_in (noIo_of rfl) (cl_of rfl) (.inr ⟨_, rfl⟩)
    (fun cdv A outer s H E hr =>
      (dsone (dret (fcbC (by rfl) (by decide) (by decide) (by decide) dc_sorted (by rfl) T.n_sorted bt_sorted (facC rfl (DE.clean (dcomp (lo := false) (by intro _; rfl) rfl (fun _ => cap_of rfl) (fun h => by cases h) (diL vcl (DE.clean (fclC (by rfl) (by decide) (by decide) G_filled_cells rfl rfl (hr.mono (by decide)) (by rfl) T.m_filled_cells T.k_filled_cells T.b_filled_cells pass0 (facC rfl (dv 0) fanil)))) (compSc_of (N := ["case"]) (sc := defScope s_names_in) (Nc := ["name", "column", "row", "cam"]) (js := [none, none, none, none]) rfl rfl (by decide +kernel)) (fun pins_ fp_ H_ s_ C_ => ⟨(dgtup (by rfl) (by rfl) rfl (dgcons (by rfl) (dgname (i := 0) (.inr rfl) (show (["name", "column", "row", "cam"] : List Str).Nodup by decide +kernel) rfl (Or.inl rfl) (.inl ⟨rfl, rfl⟩)) (dgcons (by rfl) (dgname (i := 1) (.inr rfl) (show (["name", "column", "row", "cam"] : List Str).Nodup by decide +kernel) rfl (Or.inl rfl) (.inl ⟨rfl, rfl⟩)) (dgcons (by rfl) (dgname (i := 2) (.inr rfl) (show (["name", "column", "row", "cam"] : List Str).Nodup by decide +kernel) rfl (Or.inl rfl) (.inl ⟨rfl, rfl⟩)) (dgcons (by rfl) (dgname (i := 3) (.inr rfl) (show (["name", "column", "row", "cam"] : List Str).Nodup by decide +kernel) rfl (Or.inl rfl) (.inl ⟨rfl, rfl⟩)) dgnil))))), (dif1 (ftcmpC (nomark _) (do_ne (room12 hr)) (dv 0) (dgstr (by decide) (by rfl) T.c_BLANK))), (dv 0)⟩))) fanil))))) body_names_in
end
section
variable {P : Program} {w : World} {K : PySem.W.Frag} {mg : Str → Option Value} {base : Heap} {t : Adr}
theorem at2 {k0 k1 k2 : D} {r : List D} : atI (k0 :: k1 :: k2 :: r) (2 : Int) = some k2 := atI_nat (j := 2) rfl
theorem at3 {k0 k1 k2 k3 : D} {r : List D} : atI (k0 :: k1 :: k2 :: k3 :: r) (3 : Int) = some k3 := atI_nat (j := 3) rfl
theorem body_is_whole : BodyP B_is_whole 1 1 .cl sd_is_whole := by
  rintro ds q hl ⟨i, rfl, hq⟩
  exact ⟨_, rfl, _, _, rfl, rfl, by decide, _, rfl, iteT ⟨_, rfl, _, _, rfl, rfl, by decide, _, rfl, hq⟩⟩
theorem ok_is_whole (T : Txt K mg t) : FnOk P w K mg base CX0 1 t.f_is_whole t.d_is_whole ["thing"] (spP K 1 .cl sd_is_whole) := by
  exact fnP (κ := κ_is_whole) (T := B_is_whole) T.F_is_whole sc_is_whole (noIo_of rfl) (cl_of rfl) (.inl rfl)
    (fun cdv A outer s H E hr =>
      (dsone (dret (fand (fcbC (by rfl) (by decide) (by decide) (by decide) dc_isi (by rfl) T.n_isinstance bt_isinstance (facC rfl (dv 0) (facC rfl (dty (pty_int (by rfl) T.n_int)) fanil))) (done (dnot (fcbC (by rfl) (by decide) (by decide) (by decide) dc_isi (by rfl) T.n_isinstance bt_isinstance (facC rfl (dv 0) (facC rfl (dty (pty_bool (by rfl) T.n_bool)) fanil))))))))) body_is_whole
theorem body_is_whole_within : BodyP B_is_whole_within 3 3 .cl sd_is_whole_within := by
  rintro ds q hl ⟨i, a, b, rfl, hq⟩
  refine ⟨_, rfl, rfl, i, rfl, _, rfl, iteT ⟨_, rfl, _, rfl, _, _, rfl, rfl, _, rfl, ?_⟩⟩
  by_cases h : a ≤ i
  · rw [decide_eq_true h] at hq ⊢
    exact iteT ⟨_, rfl, _, _, rfl, rfl, hq⟩
  · rw [decide_eq_false h] at hq ⊢
    exact iteF hq
theorem ok_is_whole_within (T : Txt K mg t) : FnOk P w K mg base CX0 2 t.f_is_whole_within t.d_is_whole_within ["thing", "least", "greatest"] (spP K 3 .cl sd_is_whole_within) := by
  have G_is_whole := ok_is_whole (P := P) (w := w) (base := base) T
  exact fnP (κ := κ_is_whole_within) (T := B_is_whole_within) T.F_is_whole_within sc_is_whole_within (noIo_of rfl) (cl_of rfl) (.inl rfl)
    (fun cdv A outer s H E hr =>
      (dsone (dret (fand (fclC (by rfl) (by decide) (by decide) G_is_whole rfl rfl (hr.mono (by decide)) (by rfl) T.m_is_whole T.k_is_whole T.b_is_whole pass0 (facC rfl (dv 0) fanil)) (done (fchain (by with_unfolding_all rfl) do_le do_le (dv 1) (dv 0) (dv 2))))))) body_is_whole_within
theorem body_is_cam : BodyP B_is_cam 1 1 .cl sd_is_cam := by
  rintro ds q hl ⟨k, rfl, hk, hq⟩
  refine ⟨_, rfl, 1, rfl, rfl, k, _, _, rfl, ?_⟩
  have e : (decide ((-1 : Int) ≤ k) && decide (k ≤ 1)) = true := by rcases hk with h | h | h <;> subst h <;> rfl
  rw [e]; exact hq
theorem ok_is_cam (T : Txt K mg t) : FnOk P w K mg base CX0 3 t.f_is_cam t.d_is_cam ["thing"] (spP K 1 .cl sd_is_cam) := by
  have G_is_whole_within := ok_is_whole_within (P := P) (w := w) (base := base) T
  exact fnP (κ := κ_is_cam) (T := B_is_cam) T.F_is_cam sc_is_cam (noIo_of rfl) (cl_of rfl) (.inl rfl)
    (fun cdv A outer s H E hr =>
      (dsone (dret (fclC (by rfl) (by decide) (by decide) G_is_whole_within rfl rfl (hr.mono (by decide)) (by rfl) T.m_is_whole_within T.k_is_whole_within T.b_is_whole_within pass0 (facC rfl (dv 0) (facC rfl (fneg dint) (facC rfl dint fanil))))))) body_is_cam
theorem body_is_place : BodyP B_is_place 5 3 .cl sd_is_place := by
  rintro ds q hl ⟨w, h, c, r, rfl, h1, h2, hq⟩
  refine ⟨_, rfl, _, rfl, rfl, _, _, rfl, _, _, rfl, rfl, ?_⟩
  dsimp only [kl_is_place, startD, List.map_cons, List.map_nil, List.length_cons, List.length_nil, Nat.reduceAdd, Nat.reduceSub, List.replicate_succ, List.replicate_zero, List.cons_append, List.nil_append, List.set_cons_zero, List.set_cons_succ]
  refine ⟨_, rfl, _, rfl, _, _, rfl, rfl, rfl, _, _, _, rfl, ?_⟩
  have e : (decide ((0 : Int) ≤ (c : Int)) && decide ((c : Int) ≤ (w : Int) - 1)) = true := by
    rw [decide_eq_true (by omega), decide_eq_true (by omega)]; rfl
  have e2 : (decide ((0 : Int) ≤ (r : Int)) && decide ((r : Int) ≤ (h : Int) - 1)) = true := by
    rw [decide_eq_true (by omega), decide_eq_true (by omega)]; rfl
  rw [e]
  refine ⟨_, rfl, iteT ⟨_, rfl, _, rfl, _, _, rfl, rfl, rfl, _, _, _, rfl, ?_⟩⟩
  rw [e2]; exact hq
theorem ok_is_place (T : Txt K mg t) : FnOk P w K mg base CX0 3 t.f_is_place t.d_is_place ["size", "column", "row"] (spP K 3 .cl sd_is_place) := by
  have G_is_whole_within := ok_is_whole_within (P := P) (w := w) (base := base) T
  exact fnP (κ := κ_is_place) (T := B_is_place) T.F_is_place sc_is_place (noIo_of rfl) (cl_of rfl) (.inl rfl)
    (fun cdv A outer s H E hr =>
      (dscons (fasg (by rfl) (by rfl) (by rfl) (.inl rfl) (dv 0) (dgtup (by rfl) (by rfl) rfl (dgcons (by rfl) (dgname (i := 3) (.inl rfl) sc_is_place.nd rfl (Or.inl rfl) (.inl ⟨rfl, rfl⟩)) (dgcons (by rfl) (dgname (i := 4) (.inl rfl) sc_is_place.nd rfl (Or.inl rfl) (.inl ⟨rfl, rfl⟩)) dgnil))))
      (dsone (dret (fand (fclC (by rfl) (by decide) (by decide) G_is_whole_within rfl rfl (hr.mono (by decide)) (by rfl) T.m_is_whole_within T.k_is_whole_within T.b_is_whole_within pass0 (facC rfl (dv 1) (facC rfl dint (facC rfl (fopC (by decide) do_sub (dv 3) dint) fanil)))) (done (fclC (by rfl) (by decide) (by decide) G_is_whole_within rfl rfl (hr.mono (by decide)) (by rfl) T.m_is_whole_within T.k_is_whole_within T.b_is_whole_within pass0 (facC rfl (dv 2) (facC rfl dint (facC rfl (fopC (by decide) do_sub (dv 4) dint) fanil)))))))))) body_is_place
end
section
variable {P : Program} {w : World} {K : PySem.W.Frag} {mg : Str → Option Value} {base : Heap} {t : Adr}
theorem body_is_letter_sign : BodyP B_is_letter_sign 2 2 .cl sd_is_letter_sign := by
  rintro ds q hl ⟨w, h, c, r, k, rfl, ⟨h1, h2, h3⟩, hq⟩
  exact ⟨_, rfl, .inr (.inr (.inl ⟨_, rfl, rfl, rfl, _, rfl, iteT ⟨_, rfl, _, rfl, _, _, _, rfl, rfl, at1, _, rfl, _, _, _, rfl, rfl, at2, rfl, w, h, c, r, rfl, h1, h2, _, rfl, iteT ⟨_, rfl, _, _, _, rfl, rfl, at3, rfl, k, rfl, h3, hq⟩⟩⟩))⟩
theorem ok_is_letter_sign (T : Txt K mg t) : FnOk P w K mg base CX0 4 t.f_is_letter_sign t.d_is_letter_sign ["size", "thing"] (spP K 2 .cl sd_is_letter_sign) := by
  have G_is_place := ok_is_place (P := P) (w := w) (base := base) T
  have G_is_cam := ok_is_cam (P := P) (w := w) (base := base) T
  exact fnP (κ := κ_is_letter_sign) (T := B_is_letter_sign) T.F_is_letter_sign sc_is_letter_sign (noIo_of rfl) (cl_of rfl) (.inl rfl)
    (fun cdv A outer s H E hr =>
      (dsone (dret (fand (fcmpC (nomark _) (do_eq (room12 hr)) (fcbC (by rfl) (by decide) (by decide) (by decide) dc_len (by rfl) T.n_len bt_len (facC rfl (dv 1) fanil)) dint) (fand (fclC (by rfl) (by decide) (by decide) G_is_place rfl rfl (hr.mono (by decide)) (by rfl) T.m_is_place T.k_is_place T.b_is_place pass0 (facC rfl (dv 0) (facC rfl (fixC (fun _ _ => rfl) dix_t (dv 1) dint) (facC rfl (fixC (fun _ _ => rfl) dix_t (dv 1) dint) fanil)))) (done (fclC (by rfl) (by decide) (by decide) G_is_cam rfl rfl (hr.mono (by decide)) (by rfl) T.m_is_cam T.k_is_cam T.b_is_cam pass0 (facC rfl (fixC (fun _ _ => rfl) dix_t (dv 1) dint) fanil)))))))) body_is_letter_sign
theorem body_is_blank_sign : BodyP B_is_blank_sign 2 2 .cl sd_is_blank_sign := by
  rintro ds q hl ⟨w, h, c, r, rfl, ⟨h1, h2⟩, hq⟩
  exact ⟨_, rfl, .inr (.inr (.inl ⟨_, rfl, rfl, rfl, _, rfl, iteT ⟨_, rfl, _, rfl, _, _, _, rfl, rfl, at1, _, rfl, _, _, _, rfl, rfl, at2, rfl, w, h, c, r, rfl, h1, h2, hq⟩⟩))⟩
theorem ok_is_blank_sign (T : Txt K mg t) : FnOk P w K mg base CX0 4 t.f_is_blank_sign t.d_is_blank_sign ["size", "thing"] (spP K 2 .cl sd_is_blank_sign) := by
  have G_is_place := ok_is_place (P := P) (w := w) (base := base) T
  exact fnP (κ := κ_is_blank_sign) (T := B_is_blank_sign) T.F_is_blank_sign sc_is_blank_sign (noIo_of rfl) (cl_of rfl) (.inl rfl)
    (fun cdv A outer s H E hr =>
      (dsone (dret (fand (fcmpC (nomark _) (do_eq (room12 hr)) (fcbC (by rfl) (by decide) (by decide) (by decide) dc_len (by rfl) T.n_len bt_len (facC rfl (dv 1) fanil)) dint) (done (fclC (by rfl) (by decide) (by decide) G_is_place rfl rfl (hr.mono (by decide)) (by rfl) T.m_is_place T.k_is_place T.b_is_place pass0 (facC rfl (dv 0) (facC rfl (fixC (fun _ _ => rfl) dix_t (dv 1) dint) (facC rfl (fixC (fun _ _ => rfl) dix_t (dv 1) dint) fanil))))))))) body_is_blank_sign
theorem body_is_step_sign : BodyP B_is_step_sign 1 1 .cl sd_is_step_sign := by
  rintro ds q hl ⟨x, s, rfl, h1, hq⟩
  refine ⟨_, rfl, .inr (.inr (.inl ⟨_, rfl, rfl, rfl, _, rfl, iteT ⟨_, rfl, _, _, _, rfl, rfl, at1, rfl, _, _, _, rfl, ?_⟩⟩))⟩
  have e : (decide ((0 : Int) ≤ (s : Int)) && decide ((s : Int) ≤ 14)) = true := by
    rw [decide_eq_true (by omega), decide_eq_true (by omega)]; rfl
  rw [e]; exact hq
theorem ok_is_step_sign (T : Txt K mg t) : FnOk P w K mg base CX0 3 t.f_is_step_sign t.d_is_step_sign ["thing"] (spP K 1 .cl sd_is_step_sign) := by
  have G_is_whole_within := ok_is_whole_within (P := P) (w := w) (base := base) T
  exact fnP (κ := κ_is_step_sign) (T := B_is_step_sign) T.F_is_step_sign sc_is_step_sign (noIo_of rfl) (cl_of rfl) (.inl rfl)
    (fun cdv A outer s H E hr =>
      (dsone (dret (fand (fcmpC (nomark _) (do_eq (room12 hr)) (fcbC (by rfl) (by decide) (by decide) (by decide) dc_len (by rfl) T.n_len bt_len (facC rfl (dv 0) fanil)) dint) (done (fclC (by rfl) (by decide) (by decide) G_is_whole_within rfl rfl (hr.mono (by decide)) (by rfl) T.m_is_whole_within T.k_is_whole_within T.b_is_whole_within pass0 (facC rfl (fixC (fun _ _ => rfl) dix_t (dv 0) dint) (facC rfl dint (facC rfl (dgint (by decide) (by rfl) T.c_LAST_STEP) fanil))))))))) body_is_step_sign
theorem body_is_sign : BodyP B_is_sign 3 2 .cl sd_is_sign := by
  rintro ds q hl ⟨w, h, g, rfl, hg, hq⟩
  cases g with
  | ltr c r k =>
    refine ⟨_, rfl, _, _, rfl, rfl, by decide, _, rfl, iteF ⟨_, rfl, .inr (.inr (.inl ⟨_, rfl, rfl, rfl, _, rfl, iteF ?_⟩))⟩⟩
    refine ⟨_, rfl, _, _, _, rfl, rfl, at0, ?_⟩
    dsimp only [kl_is_sign, startD, List.map_cons, List.map_nil, List.length_cons, List.length_nil, Nat.reduceAdd, Nat.reduceSub, List.replicate_succ, List.replicate_zero, List.cons_append, List.nil_append, List.set_cons_zero, List.set_cons_succ]
    exact ⟨_, rfl, rfl, rfl, _, rfl, iteT ⟨_, rfl, _, rfl, rfl, w, h, c, r, k, rfl, hg, hq⟩⟩
  | blk c r =>
    refine ⟨_, rfl, _, _, rfl, rfl, by decide, _, rfl, iteF ⟨_, rfl, .inr (.inr (.inl ⟨_, rfl, rfl, rfl, _, rfl, iteF ?_⟩))⟩⟩
    refine ⟨_, rfl, _, _, _, rfl, rfl, at0, ?_⟩
    dsimp only [kl_is_sign, startD, List.map_cons, List.map_nil, List.length_cons, List.length_nil, Nat.reduceAdd, Nat.reduceSub, List.replicate_succ, List.replicate_zero, List.cons_append, List.nil_append, List.set_cons_zero, List.set_cons_succ]
    exact ⟨_, rfl, rfl, rfl, _, rfl, iteF ⟨_, rfl, rfl, rfl, _, rfl, iteT ⟨_, rfl, _, rfl, rfl, w, h, c, r, rfl, hg, hq⟩⟩⟩
  | crs s =>
    refine ⟨_, rfl, _, _, rfl, rfl, by decide, _, rfl, iteF ⟨_, rfl, .inr (.inr (.inl ⟨_, rfl, rfl, rfl, _, rfl, iteF ?_⟩))⟩⟩
    refine ⟨_, rfl, _, _, _, rfl, rfl, at0, ?_⟩
    dsimp only [kl_is_sign, startD, List.map_cons, List.map_nil, List.length_cons, List.length_nil, Nat.reduceAdd, Nat.reduceSub, List.replicate_succ, List.replicate_zero, List.cons_append, List.nil_append, List.set_cons_zero, List.set_cons_succ]
    exact ⟨_, rfl, rfl, rfl, _, rfl, iteF ⟨_, rfl, rfl, rfl, _, rfl, iteF ⟨_, rfl, rfl, rfl, _, rfl, iteT (iteT ⟨_, rfl, rfl, _, s, rfl, hg, hq⟩)⟩⟩⟩
  | fne s =>
    refine ⟨_, rfl, _, _, rfl, rfl, by decide, _, rfl, iteF ⟨_, rfl, .inr (.inr (.inl ⟨_, rfl, rfl, rfl, _, rfl, iteF ?_⟩))⟩⟩
    refine ⟨_, rfl, _, _, _, rfl, rfl, at0, ?_⟩
    dsimp only [kl_is_sign, startD, List.map_cons, List.map_nil, List.length_cons, List.length_nil, Nat.reduceAdd, Nat.reduceSub, List.replicate_succ, List.replicate_zero, List.cons_append, List.nil_append, List.set_cons_zero, List.set_cons_succ]
    exact ⟨_, rfl, rfl, rfl, _, rfl, iteF ⟨_, rfl, rfl, rfl, _, rfl, iteF ⟨_, rfl, rfl, rfl, _, rfl, iteF ⟨_, rfl, rfl, rfl, _, rfl, iteT ⟨_, rfl, rfl, _, s, rfl, hg, hq⟩⟩⟩⟩⟩
  | stk =>
    refine ⟨_, rfl, _, _, rfl, rfl, by decide, _, rfl, iteF ⟨_, rfl, .inr (.inr (.inl ⟨_, rfl, rfl, rfl, _, rfl, iteF ?_⟩))⟩⟩
    refine ⟨_, rfl, _, _, _, rfl, rfl, at0, ?_⟩
    dsimp only [kl_is_sign, startD, List.map_cons, List.map_nil, List.length_cons, List.length_nil, Nat.reduceAdd, Nat.reduceSub, List.replicate_succ, List.replicate_zero, List.cons_append, List.nil_append, List.set_cons_zero, List.set_cons_succ]
    exact ⟨_, rfl, rfl, rfl, _, rfl, iteF ⟨_, rfl, rfl, rfl, _, rfl, iteF ⟨_, rfl, rfl, rfl, _, rfl, iteF ⟨_, rfl, rfl, rfl, _, rfl, iteF ⟨_, rfl, rfl, rfl, _, rfl, iteT ⟨_, rfl, .inr (.inr (.inl ⟨_, rfl, rfl, rfl, hq⟩))⟩⟩⟩⟩⟩⟩
theorem ok_is_sign (T : Txt K mg t) : FnOk P w K mg base CX0 5 t.f_is_sign t.d_is_sign ["size", "thing"] (spP K 2 .cl sd_is_sign) := by
  have G_is_letter_sign := ok_is_letter_sign (P := P) (w := w) (base := base) T
  have G_is_blank_sign := ok_is_blank_sign (P := P) (w := w) (base := base) T
  have G_is_step_sign := ok_is_step_sign (P := P) (w := w) (base := base) T
  exact fnP (κ := κ_is_sign) (T := B_is_sign) T.F_is_sign sc_is_sign (noIo_of rfl) (cl_of rfl) (.inl rfl)
    (fun cdv A outer s H E hr =>
      (dscons (dif (dtw (fwor (dtnot (dtval (by intro _; rfl) (fcbC (by rfl) (by decide) (by decide) (by decide) dc_isi (by rfl) T.n_isinstance bt_isinstance (facC rfl (dv 1) (facC rfl (dty (pty_tuple (by rfl) T.n_tuple)) fanil))))) (dwor1 (ftcmpC (nomark _) (do_eq (room12 hr)) (fcbC (by rfl) (by decide) (by decide) (by decide) dc_len (by rfl) T.n_len bt_len (facC rfl (dv 1) fanil)) dint)))) (dsone (dret dbl)) dsnil)
      (dscons (dset (i := 2) (by rfl) (.inl rfl) sc_is_sign.nd rfl (Or.inl rfl) rfl (fixC (fun _ _ => rfl) dix_t (dv 1) dint))
      (dscons (dif (ftcmpC (nomark _) (do_eq (room12 hr)) (dv 2) dstr) (dsone (dret (fclC (by rfl) (by decide) (by decide) G_is_letter_sign rfl rfl (hr.mono (by decide)) (by rfl) T.m_is_letter_sign T.k_is_letter_sign T.b_is_letter_sign pass0 (facC rfl (dv 0) (facC rfl (dv 1) fanil))))) dsnil)
      (dscons (dif (ftcmpC (nomark _) (do_eq (room12 hr)) (dv 2) dstr) (dsone (dret (fclC (by rfl) (by decide) (by decide) G_is_blank_sign rfl rfl (hr.mono (by decide)) (by rfl) T.m_is_blank_sign T.k_is_blank_sign T.b_is_blank_sign pass0 (facC rfl (dv 0) (facC rfl (dv 1) fanil))))) dsnil)
      (dscons (dif (dtw (fwor (ftcmpC (nomark _) (do_eq (room12 hr)) (dv 2) dstr) (dwor1 (ftcmpC (nomark _) (do_eq (room12 hr)) (dv 2) dstr)))) (dsone (dret (fclC (by rfl) (by decide) (by decide) G_is_step_sign rfl rfl (hr.mono (by decide)) (by rfl) T.m_is_step_sign T.k_is_step_sign T.b_is_step_sign pass0 (facC rfl (dv 1) fanil)))) dsnil)
      (dsone (dret (fand (fcmpC (nomark _) (do_eq (room12 hr)) (dv 2) dstr) (done (fcmpC (nomark _) (do_eq (room12 hr)) (fcbC (by rfl) (by decide) (by decide) (by decide) dc_len (by rfl) T.n_len bt_len (facC rfl (dv 1) fanil)) dint))))))))))) body_is_sign
end
section
variable {P : Program} {w : World} {K : PySem.W.Frag} {mg : Str → Option Value} {base : Heap} {t : Adr}
theorem sl1 {n : Nat} (h : n ≤ 1000) : n ≤ sizeLine := small_line h
theorem body_hole_of : BodyP B_hole_of 3 3 .cl sd_hole_of := by
  rintro ds q hl ⟨n, a, b, rfl, hq⟩
  unfold hole at hq
  refine ⟨_, rfl, _, rfl, rfl, rfl, _, rfl, ite2 (fun e => ?_) (fun e => ?_)⟩
  · have e : n = a := by simpa [pyEq] using e
    rw [if_pos e] at hq
    exact ⟨sl1 (Nat.zero_le _), hq⟩
  · have e : ¬ n = a := by simpa [pyEq] using e
    rw [if_neg e] at hq
    exact ⟨_, rfl, _, rfl, _, _, rfl, rfl, sl1 (by show 1 ≤ 1000; decide), hq⟩
theorem ok_hole_of (T : Txt K mg t) : FnOk P w K mg base CX0 1 t.f_hole_of t.d_hole_of ["number", "last", "first_hole"] (spP K 3 .cl sd_hole_of) := by
  exact fnP (κ := κ_hole_of) (T := B_hole_of) T.F_hole_of sc_hole_of (noIo_of rfl) (cl_of rfl) (.inl rfl)
    (fun cdv A outer s H E hr =>
      (dscons (dif (ftcmpC (nomark _) (do_eq (room12 hr)) (dv 0) (dv 1)) (dsone (dret (ftupC (fanil (pu := true))))) dsnil)
      (dsone (dret (ftupC (facC rfl (fopC (by decide) do_add (dv 2) (dv 0)) fanil)))))) body_hole_of
theorem hole_len (n a b : Int) : (hole n a b).length ≤ 1 := by unfold hole; split <;> simp
theorem row_app (a b : List Int) : D.tup (a.map D.int ++ b.map D.int) = rowD (a ++ b) := by unfold rowD; rw [List.map_append]
theorem body_place_holes : BodyP B_place_holes 5 3 .cl sd_place_holes := by
  rintro ds q hl ⟨w, h, c, r, rfl, hq⟩
  refine ⟨_, rfl, _, rfl, rfl, _, _, rfl, _, _, rfl, rfl, ?_⟩
  dsimp only [kl_place_holes, startD, List.map_cons, List.map_nil, List.length_cons, List.length_nil, Nat.reduceAdd, Nat.reduceSub, List.replicate_succ, List.replicate_zero, List.cons_append, List.nil_append, List.set_cons_zero, List.set_cons_succ]
  refine ⟨_, rfl, _, rfl, _, _, rfl, rfl, rfl, _, _, _, rfl, _, rfl, _, rfl, _, _, rfl, rfl, rfl, _, _, _, rfl, _, _, rfl, rfl, ?_, ?_⟩
  · rw [List.length_map, List.length_map]
    have h1 := hole_len c ((w : Int) - 1) 0
    have h2 := hole_len r ((h : Int) - 1) 14
    exact sl1 (by omega)
  · rw [row_app]; exact hq
theorem ok_place_holes (T : Txt K mg t) : FnOk P w K mg base CX0 2 t.f_place_holes t.d_place_holes ["size", "column", "row"] (spP K 3 .cl sd_place_holes) := by
  have G_hole_of := ok_hole_of (P := P) (w := w) (base := base) T
  exact fnP (κ := κ_place_holes) (T := B_place_holes) T.F_place_holes sc_place_holes (noIo_of rfl) (cl_of rfl) (.inl rfl)
    (fun cdv A outer s H E hr =>
      (dscons (fasg (by rfl) (by rfl) (by rfl) (.inl rfl) (dv 0) (dgtup (by rfl) (by rfl) rfl (dgcons (by rfl) (dgname (i := 3) (.inl rfl) sc_place_holes.nd rfl (Or.inl rfl) (.inl ⟨rfl, rfl⟩)) (dgcons (by rfl) (dgname (i := 4) (.inl rfl) sc_place_holes.nd rfl (Or.inl rfl) (.inl ⟨rfl, rfl⟩)) dgnil))))
      (dsone (dret (fopC (by decide) do_catT (fclC (by rfl) (by decide) (by decide) G_hole_of rfl rfl (hr.mono (by decide)) (by rfl) T.m_hole_of T.k_hole_of T.b_hole_of pass0 (facC rfl (dv 1) (facC rfl (fopC (by decide) do_sub (dv 3) dint) (facC rfl dint fanil)))) (fclC (by rfl) (by decide) (by decide) G_hole_of rfl rfl (hr.mono (by decide)) (by rfl) T.m_hole_of T.k_hole_of T.b_hole_of pass0 (facC rfl (dv 2) (facC rfl (fopC (by decide) do_sub (dv 4) dint) (facC rfl (dgint (by decide) (by rfl) T.c_FIRST_ROW_HOLE) fanil))))))))) body_place_holes
theorem body_step_holes : BodyP B_step_holes 1 1 .cl sd_step_holes := by
  rintro ds q hl ⟨s, rfl, hq⟩
  exact ⟨_, rfl, rfl, _, _, _, rfl, hq⟩
theorem ok_step_holes (T : Txt K mg t) : FnOk P w K mg base CX0 2 t.f_step_holes t.d_step_holes ["step"] (spP K 1 .cl sd_step_holes) := by
  have G_hole_of := ok_hole_of (P := P) (w := w) (base := base) T
  exact fnP (κ := κ_step_holes) (T := B_step_holes) T.F_step_holes sc_step_holes (noIo_of rfl) (cl_of rfl) (.inl rfl)
    (fun cdv A outer s H E hr =>
      (dsone (dret (fclC (by rfl) (by decide) (by decide) G_hole_of rfl rfl (hr.mono (by decide)) (by rfl) T.m_hole_of T.k_hole_of T.b_hole_of pass0 (facC rfl (dv 0) (facC rfl (dgint (by decide) (by rfl) T.c_LAST_STEP) (facC rfl (dgint (by decide) (by rfl) T.c_FIRST_ROW_HOLE) fanil))))))) body_step_holes
theorem body_cam_marks : BodyP B_cam_marks 1 1 .cl sd_cam_marks := by
  rintro ds q hl ⟨k, rfl, hq⟩
  unfold camM at hq
  refine ⟨_, rfl, rfl, rfl, _, rfl, ite2 (fun e => ?_) (fun e => ?_)⟩
  · have e : k = 1 := by simpa [pyEq] using e
    rw [if_pos e] at hq
    exact hq
  · have e : ¬ k = 1 := by simpa [pyEq] using e
    rw [if_neg e] at hq
    refine ⟨_, rfl, 1, rfl, rfl, rfl, _, rfl, ite2 (fun e2 => ?_) (fun e2 => ?_)⟩
    · have e2 : k = -1 := by simpa [pyEq] using e2
      rw [if_pos e2] at hq
      exact hq
    · have e2 : ¬ k = -1 := by simpa [pyEq] using e2
      rw [if_neg e2] at hq
      exact ⟨sl1 (Nat.zero_le _), hq⟩
theorem ok_cam_marks (T : Txt K mg t) : FnOk P w K mg base CX0 1 t.f_cam_marks t.d_cam_marks ["cam"] (spP K 1 .cl sd_cam_marks) := by
  exact fnP (κ := κ_cam_marks) (T := B_cam_marks) T.F_cam_marks sc_cam_marks (noIo_of rfl) (cl_of rfl) (.inl rfl)
    (fun cdv A outer s H E hr =>
      (dscons (dif (ftcmpC (nomark _) (do_eq (room12 hr)) (dv 0) dint) (dsone (dret (dgtupc (by decide) (by rfl) rfl T.c_WIDER_MARKS))) dsnil)
      (dscons (dif (ftcmpC (nomark _) (do_eq (room12 hr)) (dv 0) (fneg dint)) (dsone (dret (dgtupc (by decide) (by rfl) rfl T.c_NARROWER_MARKS))) dsnil)
      (dsone (dret (ftupC (fanil (pu := true)))))))) body_cam_marks
theorem cam_len (k : Int) : (camM k).length ≤ 1 := by unfold camM; split; simp; split <;> simp
theorem place_len (w h c r : Nat) : (placeH w h c r).length ≤ 2 := by
  unfold placeH
  rw [List.length_append]
  have h1 := hole_len c ((w : Int) - 1) 0
  have h2 := hole_len r ((h : Int) - 1) 14
  omega
theorem holes_len (w h : Nat) (g : Sg) : (holesF w h g).length ≤ 3 := by
  cases g with
  | ltr c r k => show (placeH w h c r ++ camM k).length ≤ 3; rw [List.length_append]; have := place_len w h c r; have := cam_len k; omega
  | blk c r => show (placeH w h c r ++ [28]).length ≤ 3; rw [List.length_append]; have := place_len w h c r; simp; omega
  | crs s => show (hole s 14 14 ++ [28, 29]).length ≤ 3; rw [List.length_append]; have := hole_len s 14 14; simp; omega
  | fne s => show (hole s 14 14 ++ [28, 30]).length ≤ 3; rw [List.length_append]; have := hole_len s 14 14; simp; omega
  | stk => exact Nat.le_refl _
end
section
variable {P : Program} {w : World} {K : PySem.W.Frag} {mg : Str → Option Value} {base : Heap} {t : Adr}
theorem body_strike : BodyP B_strike 3 2 .cl sd_strike := by
  rintro ds q hl ⟨w, h, g, rfl, hq⟩
  cases g with
  | ltr c r k =>
    refine ⟨_, rfl, _, _, _, rfl, rfl, at0, ?_⟩
    dsimp only [kl_strike, startD, List.map_cons, List.map_nil, List.length_cons, List.length_nil, Nat.reduceAdd, Nat.reduceSub, List.replicate_succ, List.replicate_zero, List.cons_append, List.nil_append, List.set_cons_zero, List.set_cons_succ]
    refine ⟨_, rfl, rfl, rfl, _, rfl, iteT ⟨_, rfl, _, rfl, _, _, _, rfl, rfl, at1, _, rfl, _, _, _, rfl, rfl, at2, rfl, w, h, c, r, rfl, _, rfl, _, _, _, rfl, rfl, at3, rfl, k, rfl, _, _, rfl, rfl, ?_, ?_⟩⟩
    · rw [List.length_map, List.length_map]
      have h1 := place_len w h c r
      have h2 := cam_len k
      exact sl1 (by omega)
    · rw [row_app]; exact hq
  | blk c r =>
    refine ⟨_, rfl, _, _, _, rfl, rfl, at0, ?_⟩
    dsimp only [kl_strike, startD, List.map_cons, List.map_nil, List.length_cons, List.length_nil, Nat.reduceAdd, Nat.reduceSub, List.replicate_succ, List.replicate_zero, List.cons_append, List.nil_append, List.set_cons_zero, List.set_cons_succ]
    refine ⟨_, rfl, rfl, rfl, _, rfl, iteF ⟨_, rfl, rfl, rfl, _, rfl, iteT ⟨_, rfl, _, rfl, _, _, _, rfl, rfl, at1, _, rfl, _, _, _, rfl, rfl, at2, rfl, w, h, c, r, rfl, _, _, rfl, rfl, ?_, ?_⟩⟩⟩
    · rw [List.length_map]
      have h1 := place_len w h c r
      exact sl1 (by show _ + 1 ≤ 1000; omega)
    · have e := row_app (placeH w h c r) [28]
      have e2 : D.tup (List.map D.int (placeH w h c r) ++ [D.int 28]) = rowD (placeH w h c r ++ [28]) := e
      rw [e2]; exact hq
  | crs s =>
    refine ⟨_, rfl, _, _, _, rfl, rfl, at0, ?_⟩
    dsimp only [kl_strike, startD, List.map_cons, List.map_nil, List.length_cons, List.length_nil, Nat.reduceAdd, Nat.reduceSub, List.replicate_succ, List.replicate_zero, List.cons_append, List.nil_append, List.set_cons_zero, List.set_cons_succ]
    refine ⟨_, rfl, rfl, rfl, _, rfl, iteF ⟨_, rfl, rfl, rfl, _, rfl, iteF ⟨_, rfl, rfl, rfl, _, rfl, iteT ⟨_, rfl, _, _, _, rfl, rfl, at1, rfl, s, rfl, _, _, rfl, rfl, ?_, ?_⟩⟩⟩⟩
    · rw [List.length_map]
      have h1 := hole_len s 14 14
      exact sl1 (by show _ + 2 ≤ 1000; omega)
    · have e2 : D.tup (List.map D.int (hole s 14 14) ++ [D.int 28, D.int 29]) = rowD (hole s 14 14 ++ [28, 29]) := row_app (hole s 14 14) [28, 29]
      rw [e2]; exact hq
  | fne s =>
    refine ⟨_, rfl, _, _, _, rfl, rfl, at0, ?_⟩
    dsimp only [kl_strike, startD, List.map_cons, List.map_nil, List.length_cons, List.length_nil, Nat.reduceAdd, Nat.reduceSub, List.replicate_succ, List.replicate_zero, List.cons_append, List.nil_append, List.set_cons_zero, List.set_cons_succ]
    refine ⟨_, rfl, rfl, rfl, _, rfl, iteF ⟨_, rfl, rfl, rfl, _, rfl, iteF ⟨_, rfl, rfl, rfl, _, rfl, iteF ⟨_, rfl, rfl, rfl, _, rfl, iteT ⟨_, rfl, _, _, _, rfl, rfl, at1, rfl, s, rfl, _, _, rfl, rfl, ?_, ?_⟩⟩⟩⟩⟩
    · rw [List.length_map]
      have h1 := hole_len s 14 14
      exact sl1 (by show _ + 2 ≤ 1000; omega)
    · have e2 : D.tup (List.map D.int (hole s 14 14) ++ [D.int 28, D.int 30]) = rowD (hole s 14 14 ++ [28, 30]) := row_app (hole s 14 14) [28, 30]
      rw [e2]; exact hq
  | stk =>
    refine ⟨_, rfl, _, _, _, rfl, rfl, at0, ?_⟩
    dsimp only [kl_strike, startD, List.map_cons, List.map_nil, List.length_cons, List.length_nil, Nat.reduceAdd, Nat.reduceSub, List.replicate_succ, List.replicate_zero, List.cons_append, List.nil_append, List.set_cons_zero, List.set_cons_succ]
    exact ⟨_, rfl, rfl, rfl, _, rfl, iteF ⟨_, rfl, rfl, rfl, _, rfl, iteF ⟨_, rfl, rfl, rfl, _, rfl, iteF ⟨_, rfl, rfl, rfl, _, rfl, iteF hq⟩⟩⟩⟩
theorem ok_strike (T : Txt K mg t) : FnOk P w K mg base CX0 3 t.f_strike t.d_strike ["size", "sign"] (spP K 2 .cl sd_strike) := by
  have G_place_holes := ok_place_holes (P := P) (w := w) (base := base) T
  have G_cam_marks := ok_cam_marks (P := P) (w := w) (base := base) T
  have G_step_holes := ok_step_holes (P := P) (w := w) (base := base) T
  exact fnP (κ := κ_strike) (T := B_strike) T.F_strike sc_strike (noIo_of rfl) (cl_of rfl) (.inl rfl)
    (fun cdv A outer s H E hr =>
      (dscons (dset (i := 2) (by rfl) (.inl rfl) sc_strike.nd rfl (Or.inl rfl) rfl (fixC (fun _ _ => rfl) dix_t (dv 1) dint))
      (dscons (dif (ftcmpC (nomark _) (do_eq (room12 hr)) (dv 2) dstr) (dsone (dret (fopC (by decide) do_catT (fclC (by rfl) (by decide) (by decide) G_place_holes rfl rfl (hr.mono (by decide)) (by rfl) T.m_place_holes T.k_place_holes T.b_place_holes pass0 (facC rfl (dv 0) (facC rfl (fixC (fun _ _ => rfl) dix_t (dv 1) dint) (facC rfl (fixC (fun _ _ => rfl) dix_t (dv 1) dint) fanil)))) (fclC (by rfl) (by decide) (by decide) G_cam_marks rfl rfl (hr.mono (by decide)) (by rfl) T.m_cam_marks T.k_cam_marks T.b_cam_marks pass0 (facC rfl (fixC (fun _ _ => rfl) dix_t (dv 1) dint) fanil))))) dsnil)
      (dscons (dif (ftcmpC (nomark _) (do_eq (room12 hr)) (dv 2) dstr) (dsone (dret (fopC (by decide) do_catT (fclC (by rfl) (by decide) (by decide) G_place_holes rfl rfl (hr.mono (by decide)) (by rfl) T.m_place_holes T.k_place_holes T.b_place_holes pass0 (facC rfl (dv 0) (facC rfl (fixC (fun _ _ => rfl) dix_t (dv 1) dint) (facC rfl (fixC (fun _ _ => rfl) dix_t (dv 1) dint) fanil)))) (dgtupc (by decide) (by rfl) rfl T.c_BLANK_MARKS)))) dsnil)
      (dscons (dif (ftcmpC (nomark _) (do_eq (room12 hr)) (dv 2) dstr) (dsone (dret (fopC (by decide) do_catT (fclC (by rfl) (by decide) (by decide) G_step_holes rfl rfl (hr.mono (by decide)) (by rfl) T.m_step_holes T.k_step_holes T.b_step_holes pass0 (facC rfl (fixC (fun _ _ => rfl) dix_t (dv 1) dint) fanil)) (dgtupc (by decide) (by rfl) rfl T.c_COARSE_MARKS)))) dsnil)
      (dscons (dif (ftcmpC (nomark _) (do_eq (room12 hr)) (dv 2) dstr) (dsone (dret (fopC (by decide) do_catT (fclC (by rfl) (by decide) (by decide) G_step_holes rfl rfl (hr.mono (by decide)) (by rfl) T.m_step_holes T.k_step_holes T.b_step_holes pass0 (facC rfl (fixC (fun _ _ => rfl) dix_t (dv 1) dint) fanil)) (dgtupc (by decide) (by rfl) rfl T.c_FINE_MARKS)))) dsnil)
      (dsone (dret (dgtupc (by decide) (by rfl) rfl T.c_STRUCK_MARKS))))))))) body_strike
end
section
variable {P : Program} {w : World} {K : PySem.W.Frag} {mg : Str → Option Value} {base : Heap} {t : Adr}
theorem cut1 (l : List D) : cutD l (some 1) none = l.drop 1 := by
  unfold cutD
  rw [show (some (1 : Int)) = some ((1 : Nat) : Int) from rfl, HT.sIx_nat, HT.sIx_none]
  cases l with
  | nil => rfl
  | cons x l =>
    have e : min 1 (x :: l).length = 1 := by rw [List.length_cons]; omega
    rw [e, List.take_of_length_le (by rw [List.length_drop]; exact Nat.le_refl _)]
theorem rep_true (n : Nat) : ((List.replicate n true).all id) = true := List.all_eq_true.mpr fun x hx => by rw [List.eq_of_mem_replicate hx]; rfl
theorem rep_map (n : Nat) : (List.replicate n true).map D.bl ++ [D.bl true] = (List.replicate (n + 1) true).map D.bl := by rw [List.replicate_succ', List.map_append]; rfl
theorem body_is_row_of_holes : BodyP B_is_row_of_holes 1 1 .cl sd_is_row_of_holes := by
  rintro ds q hl ⟨l, rfl, ⟨h1, h2⟩, hlen, hq⟩
  refine ⟨_, rfl, _, _, rfl, rfl, by decide, _, rfl, iteF ⟨_, rfl, _, rfl, ?_⟩⟩
  refine compY (fun j acc ρ => ∃ o, acc = (List.replicate j true).map D.bl ∧ ρ = [o]) ⟨none, rfl, rfl⟩ ?_ ?_
  · rintro j d acc ρ hd ⟨o, rfl, rfl⟩
    rw [List.getElem?_map] at hd
    obtain ⟨x, hx, rfl⟩ := Option.map_eq_some_iff.mp hd
    have hj : j < l.length := (List.getElem?_eq_some_iff.mp hx).1
    have hb := h1 x (List.mem_of_getElem? hx)
    refine ⟨_, rfl, rfl, x, 0, 30, rfl, ?_⟩
    rw [decide_eq_true hb.1, decide_eq_true hb.2]
    refine ⟨?_, _, rep_map j, rfl⟩
    rw [List.length_map, List.length_replicate]; exact small1000 (by omega)
  · rintro acc ρ ⟨o, rfl, rfl⟩
    refine ⟨_, rfl, _, rfl, ?_⟩
    rw [rep_true]
    refine iteF ⟨_, rfl, _, rfl, _, rfl, _, rfl, _, _, rfl, ?_⟩
    rw [cut1, ← List.map_drop]
    refine compY (fun j acc ρ => ∃ o o', acc = (List.replicate j true).map D.bl ∧ ρ = [o, o']) ⟨none, none, rfl, rfl⟩ ?_ ?_
    · rintro j d acc ρ hd ⟨o, o', rfl, rfl⟩
      rw [List.getElem?_map] at hd
      obtain ⟨⟨x, y⟩, hxy, rfl⟩ := Option.map_eq_some_iff.mp hd
      rw [List.getElem?_zip_eq_some, List.getElem?_map, List.getElem?_map] at hxy
      obtain ⟨a, ha, e1⟩ := Option.map_eq_some_iff.mp hxy.1
      obtain ⟨b, hb, e2⟩ := Option.map_eq_some_iff.mp hxy.2
      have e1 : x = D.int a := e1.symm
      have e2 : y = D.int b := e2.symm
      subst e1 e2
      rw [List.getElem?_drop] at hb
      have hj : 1 + j < l.length := (List.getElem?_eq_some_iff.mp hb).1
      have lt : a < b := by
        have ga := (List.getElem?_eq_some_iff.mp ha).2
        have gb := (List.getElem?_eq_some_iff.mp hb).2
        rw [← ga, ← gb]
        exact List.pairwise_iff_getElem.mp h2 j (1 + j) _ _ (by omega)
      refine ⟨_, rfl, rfl, _, _, rfl, _, _, rfl, rfl, _, rfl, _, rfl, _, _, rfl, rfl, ?_⟩
      dsimp only
      rw [decide_eq_true lt]
      refine ⟨?_, _, _, rep_map j, rfl⟩
      rw [List.length_map, List.length_replicate]; exact small1000 (by omega)
    · rintro acc ρ ⟨o, o', rfl, rfl⟩
      refine ⟨_, rfl, ?_⟩
      rw [rep_true]; exact hq
theorem ok_is_row_of_holes (T : Txt K mg t) : FnOk P w K mg base CX0 3 t.f_is_row_of_holes t.d_is_row_of_holes ["thing"] (spP K 1 .cl sd_is_row_of_holes) := by
  have G_is_whole_within := ok_is_whole_within (P := P) (w := w) (base := base) T
  exact fnP (κ := κ_is_row_of_holes) (T := B_is_row_of_holes) T.F_is_row_of_holes sc_is_row_of_holes (noIo_of rfl) (cl_of rfl) (.inl rfl)
    (fun cdv A outer s H E hr =>
      (dscons (dif (dtnot (dtval (by intro _; rfl) (fcbC (by rfl) (by decide) (by decide) (by decide) dc_isi (by rfl) T.n_isinstance bt_isinstance (facC rfl (dv 0) (facC rfl (dty (pty_tuple (by rfl) T.n_tuple)) fanil))))) (dsone (dret dbl)) dsnil)
      (dscons (dif (dtnot (dtval (by intro _; rfl) (fcbC (by rfl) (by decide) (by decide) (by decide) (dc_all rfl) (by rfl) T.n_all bt_all (facC rfl (DE.clean (dcomp (lo := false) (by intro _; rfl) rfl (fun _ => cap_of rfl) (fun h => by cases h) (diT vcl (dv 0)) (compSc_of (N := ["thing"]) (sc := defScope s_is_row_of_holes) (Nc := ["hole"]) (js := [none]) rfl rfl (by decide +kernel)) (fun pins_ fp_ H_ s_ C_ => ⟨(dgname (i := 0) (.inr rfl) (show (["hole"] : List Str).Nodup by decide +kernel) rfl (Or.inl rfl) (.inl ⟨rfl, rfl⟩)), dif0, (fclC (by rfl) (by decide) (by decide) G_is_whole_within rfl rfl (hr.mono (by decide)) (by rfl) T.m_is_whole_within T.k_is_whole_within T.b_is_whole_within pass0 (facC rfl (dv 0) (facC rfl dint (facC rfl (dgint (by decide) (by rfl) T.c_LAST_HOLE) fanil))))⟩))) fanil)))) (dsone (dret dbl)) dsnil)
      (dsone (dret (fcbC (by rfl) (by decide) (by decide) (by decide) (dc_all rfl) (by rfl) T.n_all bt_all (facC rfl (DE.clean (dcomp (lo := false) (by intro _; rfl) rfl (fun _ => cap_of rfl) (fun h => by cases h) (diZ rfl rfl (by rfl) T.n_zip (facC rfl (dv 0) (facC rfl (fslC (by decide) dsl_t (dv 0) (dosome dint) fono) fanil))) (compSc_of (N := ["thing"]) (sc := defScope s_is_row_of_holes) (Nc := ["left", "right"]) (js := [none, none]) rfl rfl (by decide +kernel)) (fun pins_ fp_ H_ s_ C_ => ⟨(dgtup (by rfl) (by rfl) rfl (dgcons (by rfl) (dgname (i := 0) (.inr rfl) (show (["left", "right"] : List Str).Nodup by decide +kernel) rfl (Or.inl rfl) (.inl ⟨rfl, rfl⟩)) (dgcons (by rfl) (dgname (i := 1) (.inr rfl) (show (["left", "right"] : List Str).Nodup by decide +kernel) rfl (Or.inl rfl) (.inl ⟨rfl, rfl⟩)) dgnil))), dif0, (fcmpC (nomark _) do_lt (dv 0) (dv 1))⟩))) fanil))))))) body_is_row_of_holes
end
section
variable {P : Program} {w : World} {K : PySem.W.Frag} {mg : Str → Option Value} {base : Heap} {t : Adr}
theorem first_skip {l : List Int} {a b c : Int} : ∀ j, (∀ i, i < j → ∀ x, l[i]? = some x → ¬ (a ≤ x ∧ x < b)) → firstB l a b c = firstB (l.drop j) a b c := by
  intro j
  induction j generalizing l with
  | zero => intro _; rfl
  | succ j ih =>
    intro h
    cases l with
    | nil => rfl
    | cons x l =>
      rw [firstB, if_neg (h 0 (by omega) x rfl), List.drop_succ_cons]
      exact ih fun i hi y e => h (i + 1) (by omega) y (by simpa using e)
theorem body_first_between : BodyP B_first_between 5 4 .cl sd_first_between := by
  rintro ds q hl ⟨l, a, b, c, rfl, hq⟩
  refine ⟨_, rfl, _, rfl, ?_⟩
  refine forI (fun j ρ => ∃ o, (∀ i, i < j → ∀ x, l[i]? = some x → ¬ (a ≤ x ∧ x < b)) ∧ ρ = [some (rowD l), some (.int a), some (.int b), some (.int c), o]) ⟨none, fun i hi => absurd hi (by omega), rfl⟩ ?_ ?_
  · rintro j d ρ hd ⟨o, hn, rfl⟩
    rw [List.getElem?_map] at hd
    obtain ⟨x, hx, rfl⟩ := Option.map_eq_some_iff.mp hd
    have hj : j < l.length := (List.getElem?_eq_some_iff.mp hx).1
    have next : ¬ (a ≤ x ∧ x < b) → ∀ i, i < j + 1 → ∀ y, l[i]? = some y → ¬ (a ≤ y ∧ y < b) := fun h i hi y e => by
      by_cases z : i = j
      · subst z; rw [hx] at e; cases e; exact h
      · exact hn i (by omega) y e
    refine ⟨_, rfl, _, rfl, _, _, rfl, rfl, _, rfl, ?_⟩
    by_cases h1 : a ≤ x
    · rw [decide_eq_true h1]
      refine iteT ⟨_, rfl, _, _, rfl, rfl, _, rfl, ?_⟩
      by_cases h2 : x < b
      · rw [decide_eq_true h2]
        refine iteT ⟨_, rfl, _, rfl, _, _, rfl, rfl, ?_⟩
        have e : firstB l a b c = x - a := by
          rw [first_skip j hn, List.drop_eq_getElem_cons hj, firstB]
          have ex : l[j] = x := (List.getElem?_eq_some_iff.mp hx).2
          rw [ex, if_pos ⟨h1, h2⟩]
        rw [e] at hq
        exact hq
      · rw [decide_eq_false h2]
        exact iteF ⟨_, next fun z => h2 z.2, rfl⟩
    · rw [decide_eq_false h1]
      exact iteF ⟨_, rfl, iteF ⟨_, next fun z => h1 z.1, rfl⟩⟩
  · rintro ρ ⟨o, hn, rfl⟩
    rw [List.length_map] at hn
    refine ⟨_, rfl, ?_⟩
    have e : firstB l a b c = c := by
      rw [first_skip l.length hn, List.drop_length]; rfl
    rw [e] at hq
    exact hq
theorem ok_first_between (T : Txt K mg t) : FnOk P w K mg base CX0 1 t.f_first_between t.d_first_between ["holes", "low", "high", "last"] (spP K 4 .cl sd_first_between) := by
  exact fnP (κ := κ_first_between) (T := B_first_between) T.F_first_between sc_first_between (noIo_of rfl) (cl_of rfl) (.inl rfl)
    (fun cdv A outer s H E hr =>
      (dscons (dfor (by intro _; rfl) PassesOwn.never rfl (diT vcl (dv 0)) (dgname (i := 4) (.inl rfl) sc_first_between.nd rfl (Or.inl rfl) (.inl ⟨rfl, rfl⟩)) (dsone (dif (ftchain (by with_unfolding_all rfl) do_le do_lt (dv 1) (dv 4) (dv 2)) (dsone (dret (fopC (by decide) do_sub (dv 4) (dv 1)))) dsnil)))
      (dsone (dret (dv 3))))) body_first_between
end
section
variable {P : Program} {w : World} {K : PySem.W.Frag} {mg : Str → Option Value} {base : Heap} {t : Adr}
theorem fb_nil (a b c : Int) : firstB [] a b c = c := rfl
theorem fb_cons (x : Int) (l : List Int) (a b c : Int) : firstB (x :: l) a b c = if a ≤ x ∧ x < b then x - a else firstB l a b c := rfl
theorem hole_two (n a b : Int) : (n = a ∧ hole n a b = []) ∨ (n ≠ a ∧ hole n a b = [b + n]) := by
  unfold hole
  by_cases e : n = a
  · exact .inl ⟨e, if_pos e⟩
  · exact .inr ⟨e, if_neg e⟩
theorem cam_three {k : Int} (h : k = -1 ∨ k = 0 ∨ k = 1) : (k = 1 ∧ camM k = [29]) ∨ (k = -1 ∧ camM k = [30]) ∨ (k = 0 ∧ camM k = []) := by
  rcases h with rfl | rfl | rfl
  · exact .inr (.inl ⟨rfl, rfl⟩)
  · exact .inr (.inr ⟨rfl, rfl⟩)
  · exact .inl ⟨rfl, rfl⟩
noncomputable def marksF : Sg → List Int
  | .ltr _ _ k => camM k
  | .blk _ _ => [28]
  | .crs _ => [28, 29]
  | .fne _ => [28, 30]
  | .stk => [28, 29, 30]
noncomputable def big (x : Int) : Bool := decide (28 ≤ x)
theorem low_big {x : Int} (h : x < 28) : big x = false := decide_eq_false (by omega)
theorem hole_low {n a b : Int} (h : n ≠ a → b + n < 28) : (hole n a b).filter big = [] := by
  rcases hole_two n a b with ⟨_, e⟩ | ⟨z, e⟩
  · rw [e]; rfl
  · rw [e, List.filter_cons_of_neg (by rw [low_big (h z)]; simp)]; rfl
theorem place_low {w h c r : Nat} (S : SizeOk w h) (hc : c < w) (hr : r < h) : (placeH w h c r).filter big = [] := by
  obtain ⟨s1, s2, s3, s4⟩ := S
  unfold placeH
  rw [List.filter_append, hole_low (by omega), hole_low (by omega)]; rfl
theorem marks_of {w h : Nat} {g : Sg} (S : SizeOk w h) (G : SgOk w h g) : (holesF w h g).filter big = marksF g := by
  cases g with
  | ltr c r k =>
    show (placeH w h c r ++ camM k).filter big = camM k
    rw [List.filter_append, place_low S G.1 G.2.1]
    rcases cam_three G.2.2 with ⟨_, e⟩ | ⟨_, e⟩ | ⟨_, e⟩ <;> rw [e] <;> rfl
  | blk c r =>
    show (placeH w h c r ++ [28]).filter big = [28]
    rw [List.filter_append, place_low S G.1 G.2]; rfl
  | crs s =>
    have G : s ≤ 14 := G
    show (hole s 14 14 ++ [28, 29]).filter big = [28, 29]
    rw [List.filter_append, hole_low (by omega)]; rfl
  | fne s =>
    have G : s ≤ 14 := G
    show (hole s 14 14 ++ [28, 30]).filter big = [28, 30]
    rw [List.filter_append, hole_low (by omega)]; rfl
  | stk => rfl
theorem fb_out {l : List Int} {a b c : Int} (h : ∀ x ∈ l, b ≤ x) : firstB l a b c = c := by
  induction l with
  | nil => rfl
  | cons x l ih =>
    have := h x (by simp)
    rw [fb_cons, if_neg (by omega)]
    exact ih fun y hy => h y (by simp [hy])
theorem fb_col {w h c r : Nat} {m : List Int} (S : SizeOk w h) (hc : c < w) (hr : r < h) (hm : ∀ x ∈ m, 28 ≤ x) : firstB (placeH w h c r ++ m) 0 14 ((w : Int) - 1) = c := by
  obtain ⟨s1, s2, s3, s4⟩ := S
  unfold placeH
  have hm2 : ∀ x ∈ m, (14 : Int) ≤ x := fun x hx => by have := hm x hx; omega
  rcases hole_two c ((w : Int) - 1) 0 with ⟨z, e⟩ | ⟨z, e⟩ <;> rcases hole_two r ((h : Int) - 1) 14 with ⟨z', e'⟩ | ⟨z', e'⟩ <;> rw [e, e']
  · rw [List.nil_append, List.nil_append, fb_out hm2]; omega
  · rw [List.nil_append, List.cons_append, fb_cons, if_neg (by omega), List.nil_append, fb_out hm2]; omega
  · rw [List.append_nil, List.cons_append, fb_cons, if_pos (by omega)]; omega
  · rw [List.append_assoc, List.cons_append, fb_cons, if_pos (by omega)]; omega
theorem fb_row {w h c r : Nat} {m : List Int} (S : SizeOk w h) (hc : c < w) (hr : r < h) (hm : ∀ x ∈ m, 28 ≤ x) : firstB (placeH w h c r ++ m) 14 28 ((h : Int) - 1) = r := by
  obtain ⟨s1, s2, s3, s4⟩ := S
  unfold placeH
  rcases hole_two c ((w : Int) - 1) 0 with ⟨z, e⟩ | ⟨z, e⟩ <;> rcases hole_two r ((h : Int) - 1) 14 with ⟨z', e'⟩ | ⟨z', e'⟩ <;> rw [e, e']
  · rw [List.nil_append, List.nil_append, fb_out hm]; omega
  · rw [List.nil_append, List.cons_append, fb_cons, if_pos (by omega)]; omega
  · rw [List.append_nil, List.cons_append, fb_cons, if_neg (by omega), List.nil_append, fb_out hm]; omega
  · rw [List.append_assoc, List.cons_append, fb_cons, if_neg (by omega), List.nil_append, List.cons_append, fb_cons, if_pos (by omega)]; omega
theorem fb_step {s : Nat} {m : List Int} (hs : s ≤ 14) (hm : ∀ x ∈ m, 28 ≤ x) : firstB (hole s 14 14 ++ m) 14 28 14 = s := by
  rcases hole_two s 14 14 with ⟨z, e⟩ | ⟨z, e⟩ <;> rw [e]
  · rw [List.nil_append, fb_out hm]; omega
  · rw [List.cons_append, fb_cons, if_pos (by omega)]; omega
theorem cam_big {k : Int} : ∀ x ∈ camM k, (28 : Int) ≤ x := fun x hx => by
  unfold camM at hx
  split at hx
  · simp at hx; omega
  · split at hx
    · simp at hx; omega
    · simp at hx
theorem up_hole {n a b : Int} {m : List Int} (h0 : n ≠ a → 0 ≤ b + n ∧ b + n ≤ 30 ∧ ∀ x ∈ m, b + n < x) (hm : Up m) : Up (hole n a b ++ m) := by
  rcases hole_two n a b with ⟨z, e⟩ | ⟨z, e⟩ <;> rw [e]
  · exact hm
  · obtain ⟨h1, h2, h3⟩ := h0 z
    refine ⟨fun x hx => ?_, List.pairwise_cons.mpr ⟨fun x hx => h3 x hx, hm.2⟩⟩
    rcases List.mem_cons.mp hx with rfl | hx
    · exact ⟨h1, h2⟩
    · exact hm.1 x hx
theorem up_cam {k : Int} (h : k = -1 ∨ k = 0 ∨ k = 1) : Up (camM k) := by
  rcases cam_three h with ⟨_, e⟩ | ⟨_, e⟩ | ⟨_, e⟩ <;> rw [e]
  · exact ⟨by simp, by simp⟩
  · exact ⟨by simp, by simp⟩
  · exact ⟨by simp, by simp⟩
theorem hole_ge {n a b x : Int} (h : x ∈ hole n a b) : x = b + n ∧ n ≠ a := by
  rcases hole_two n a b with ⟨z, e⟩ | ⟨z, e⟩ <;> rw [e] at h
  · simp at h
  · exact ⟨by simpa using h, z⟩
theorem up_place {w h c r : Nat} {m : List Int} (S : SizeOk w h) (hc : c < w) (hr : r < h) (hm : Up m) (hb : ∀ x ∈ m, 28 ≤ x) : Up (placeH w h c r ++ m) := by
  obtain ⟨s1, s2, s3, s4⟩ := S
  unfold placeH
  rw [List.append_assoc]
  have h1 : Up (hole r ((h : Int) - 1) 14 ++ m) := up_hole (fun z => ⟨by omega, by omega, fun x hx => by have := hb x hx; omega⟩) hm
  refine up_hole (fun z => ⟨by omega, by omega, fun x hx => ?_⟩) h1
  rcases List.mem_append.mp hx with hx | hx
  · have := (hole_ge hx).1; omega
  · have := hb x hx; omega
theorem up_of {w h : Nat} {g : Sg} (S : SizeOk w h) (G : SgOk w h g) : Up (holesF w h g) := by
  cases g with
  | ltr c r k => exact up_place S G.1 G.2.1 (up_cam G.2.2) cam_big
  | blk c r => exact up_place S G.1 G.2 ⟨by simp, by simp⟩ (by simp)
  | crs s =>
    have G : s ≤ 14 := G
    exact up_hole (fun z => ⟨by omega, by omega, fun x hx => by simp at hx; omega⟩) ⟨by simp, by simp⟩
  | fne s =>
    have G : s ≤ 14 := G
    exact up_hole (fun z => ⟨by omega, by omega, fun x hx => by simp at hx; omega⟩) ⟨by simp, by simp⟩
  | stk => exact ⟨by simp [holesF], by simp [holesF]⟩
end
section
variable {P : Program} {w : World} {K : PySem.W.Frag} {mg : Str → Option Value} {base : Heap} {t : Adr}
theorem eq_rows {a b : List Int} : pyEq (rowD a) (rowD b) = decide (a = b) := by
  unfold rowD
  simp only [pyEq]
  induction a generalizing b with
  | nil => cases b <;> simp [pyEqs]
  | cons x a ih =>
    cases b with
    | nil => simp [pyEqs]
    | cons y b =>
      simp only [List.map_cons, pyEqs, pyEq]
      rw [ih]
      by_cases e : x = y <;> by_cases e2 : a = b <;> simp [e, e2]
theorem ok_row (l : List Int) : okE 12 (rowD l) = true := by
  unfold rowD
  rw [okE]
  exact List.all_eq_true.mpr fun x hx => by obtain ⟨p, _, rfl⟩ := List.mem_map.mp hx; rfl
theorem ok_sign (g : Sg) : okE 12 (signD g) = true := by cases g <;> rfl
theorem if_row {a b : List Int} {P Q : Prop} (h1 : a = b → P) (h2 : a ≠ b → Q) : if pyEq (rowD a) (rowD b) = true then P else Q :=
  ite2 (fun e => h1 (by rw [eq_rows] at e; exact of_decide_eq_true e)) (fun e => h2 (by rw [eq_rows] at e; simpa using e))
theorem filt_take {l : List Int} {j : Nat} {x : Int} (h : l[j]? = some x) : (l.take (j + 1)).filter big = (l.take j).filter big ++ if big x = true then [x] else [] := by
  rw [List.take_succ, h, List.filter_append]
  by_cases z : big x = true <;> simp [List.filter_cons, z]
theorem two_of (w h : Nat) : True := trivial
theorem body_likely_sign : BodyP B_likely_sign 8 2 .cl sd_likely_sign := by
  rintro ds q hl ⟨w, h, g, rfl, S, G, hq⟩
  refine ⟨_, rfl, _, rfl, rfl, _, _, rfl, _, _, rfl, rfl, ?_⟩
  dsimp only [kl_likely_sign, startD, List.map_cons, List.map_nil, List.length_cons, List.length_nil, Nat.reduceAdd, Nat.reduceSub, List.replicate_succ, List.replicate_zero, List.cons_append, List.nil_append, List.set_cons_zero, List.set_cons_succ]
  refine ⟨_, rfl, _, rfl, ?_⟩
  have hm := marks_of S G
  have hlen := holes_len w h g
  refine compI (fun j acc ρ => ∃ o, acc = (((holesF w h g).take j).filter big).map D.int ∧ ρ = [o]) ⟨none, rfl, rfl⟩ ?_ ?_
  · rintro j d acc ρ hd ⟨o, rfl, rfl⟩
    rw [List.getElem?_map] at hd
    obtain ⟨x, hx, rfl⟩ := Option.map_eq_some_iff.mp hd
    refine ⟨_, rfl, _, _, rfl, rfl, _, rfl, ?_⟩
    have st := filt_take hx
    show (if big x = true then _ else _)
    cases hb : big x with
    | true =>
      rw [hb, if_pos rfl] at st
      refine iteT ⟨_, rfl, ?_, _, by rw [st, List.map_append]; rfl, rfl⟩
      rw [List.length_map]
      refine small1000 (Nat.le_trans (List.length_filter_le _ _) (Nat.le_trans (List.length_take_le' _ _) (by omega)))
    | false =>
      rw [hb, if_neg Bool.false_ne_true, List.append_nil] at st
      exact iteF ⟨_, by rw [st], rfl⟩
  · rintro acc ρ ⟨o, rfl, rfl⟩
    rw [List.length_map, List.take_length, hm]
    refine ⟨_, .inl rfl, ?_⟩
    dsimp only [kl_likely_sign, startD, List.map_cons, List.map_nil, List.length_cons, List.length_nil, Nat.reduceAdd, Nat.reduceSub, List.replicate_succ, List.replicate_zero, List.cons_append, List.nil_append, List.set_cons_zero, List.set_cons_succ]
    have E1 : ∀ l : List Int, D.tup (l.map D.int) = rowD l := fun _ => rfl
    refine ⟨_, rfl, ok_row _, rfl, _, rfl, if_row (b := [28, 29, 30]) (fun e => ?_) (fun e1 => ?_)⟩
    · cases g with
      | stk => exact ⟨sl1 (by show 1 ≤ 1000; decide), hq⟩
      | ltr c r k => rcases cam_three G.2.2 with ⟨_, e'⟩ | ⟨_, e'⟩ | ⟨_, e'⟩ <;> (simp only [marksF] at e; rw [e'] at e; cases e)
      | blk c r => cases e
      | crs s => cases e
      | fne s => cases e
    refine ⟨_, rfl, rfl, _, _, _, _, rfl, ?_⟩
    dsimp only [kl_likely_sign, startD, List.map_cons, List.map_nil, List.length_cons, List.length_nil, Nat.reduceAdd, Nat.reduceSub, List.replicate_succ, List.replicate_zero, List.cons_append, List.nil_append, List.set_cons_zero, List.set_cons_succ]
    refine ⟨_, rfl, ok_row _, rfl, _, rfl, if_row (b := [28, 29]) (fun e => ?_) (fun e2 => ?_)⟩
    · cases g with
      | crs s =>
        have fs : firstB (holesF w h (.crs s)) 14 28 14 = s := fb_step G (by simp)
        rw [fs]
        exact ⟨_, rfl, sl1 (by show 2 ≤ 1000; decide), hq⟩
      | ltr c r k => rcases cam_three G.2.2 with ⟨_, e'⟩ | ⟨_, e'⟩ | ⟨_, e'⟩ <;> (simp only [marksF] at e; rw [e'] at e; cases e)
      | blk c r => cases e
      | stk => cases e
      | fne s => cases e
    refine ⟨_, rfl, ok_row _, rfl, _, rfl, if_row (b := [28, 30]) (fun e => ?_) (fun e3 => ?_)⟩
    · cases g with
      | fne s =>
        have fs : firstB (holesF w h (.fne s)) 14 28 14 = s := fb_step G (by simp)
        rw [fs]
        exact ⟨_, rfl, sl1 (by show 2 ≤ 1000; decide), hq⟩
      | ltr c r k => rcases cam_three G.2.2 with ⟨_, e'⟩ | ⟨_, e'⟩ | ⟨_, e'⟩ <;> (simp only [marksF] at e; rw [e'] at e; cases e)
      | blk c r => cases e
      | stk => cases e
      | crs s => cases e
    refine ⟨_, rfl, _, rfl, _, _, rfl, rfl, rfl, _, _, _, _, rfl, ?_⟩
    dsimp only [kl_likely_sign, startD, List.map_cons, List.map_nil, List.length_cons, List.length_nil, Nat.reduceAdd, Nat.reduceSub, List.replicate_succ, List.replicate_zero, List.cons_append, List.nil_append, List.set_cons_zero, List.set_cons_succ]
    refine ⟨_, rfl, _, rfl, _, _, rfl, rfl, rfl, _, _, _, _, rfl, ?_⟩
    dsimp only [kl_likely_sign, startD, List.map_cons, List.map_nil, List.length_cons, List.length_nil, Nat.reduceAdd, Nat.reduceSub, List.replicate_succ, List.replicate_zero, List.cons_append, List.nil_append, List.set_cons_zero, List.set_cons_succ]
    cases g with
    | stk => exact absurd rfl e1
    | crs s => exact absurd rfl e2
    | fne s => exact absurd rfl e3
    | blk c r =>
      have f1 : firstB (holesF w h (.blk c r)) 0 14 ((w : Int) - 1) = c := fb_col S G.1 G.2 (by simp)
      have f2 : firstB (holesF w h (.blk c r)) 14 28 ((h : Int) - 1) = r := fb_row S G.1 G.2 (by simp)
      rw [f1, f2]
      refine ⟨_, rfl, ok_row _, rfl, _, rfl, if_row (b := [28]) (fun e => ?_) (fun e => absurd rfl e)⟩
      exact ⟨_, rfl, _, rfl, sl1 (by show 3 ≤ 1000; decide), hq⟩
    | ltr c r k =>
      have f1 : firstB (holesF w h (.ltr c r k)) 0 14 ((w : Int) - 1) = c := fb_col S G.1 G.2.1 cam_big
      have f2 : firstB (holesF w h (.ltr c r k)) 14 28 ((h : Int) - 1) = r := fb_row S G.1 G.2.1 cam_big
      rw [f1, f2]
      refine ⟨_, rfl, ok_row _, rfl, _, rfl, ?_⟩
      show (if pyEq (rowD (camM k)) (rowD [28]) = true then _ else _)
      rcases cam_three G.2.2 with ⟨ek, e'⟩ | ⟨ek, e'⟩ | ⟨ek, e'⟩
      · rw [e']
        subst ek
        refine if_row (fun e => by cases e) (fun _ => ⟨_, rfl, ok_row _, rfl, _, rfl, ?_⟩)
        exact if_row (a := camM 1) (b := [29]) (fun _ => ⟨_, rfl, _, rfl, sl1 (by show 4 ≤ 1000; decide), hq⟩) (fun e => absurd e' e)
      · rw [e']
        subst ek
        refine if_row (fun e => by cases e) (fun _ => ⟨_, rfl, ok_row _, rfl, _, rfl, ?_⟩)
        refine if_row (a := camM (-1)) (b := [29]) (fun e => by rw [e'] at e; cases e) (fun _ => ⟨_, rfl, ok_row _, rfl, _, rfl, ?_⟩)
        exact if_row (a := camM (-1)) (b := [30]) (fun _ => ⟨_, rfl, _, rfl, 1, rfl, sl1 (by show 4 ≤ 1000; decide), hq⟩) (fun e => absurd e' e)
      · rw [e']
        subst ek
        refine if_row (fun e => by cases e) (fun _ => ⟨_, rfl, ok_row _, rfl, _, rfl, ?_⟩)
        refine if_row (a := camM 0) (b := [29]) (fun e => by rw [e'] at e; cases e) (fun _ => ⟨_, rfl, ok_row _, rfl, _, rfl, ?_⟩)
        exact if_row (a := camM 0) (b := [30]) (fun e => by rw [e'] at e; cases e) (fun _ => ⟨_, rfl, _, rfl, sl1 (by show 4 ≤ 1000; decide), hq⟩)
theorem ok_likely_sign (T : Txt K mg t) : FnOk P w K mg base CX0 2 t.f_likely_sign t.d_likely_sign ["size", "holes"] (spP K 2 .cl sd_likely_sign) := by
  have G_first_between := ok_first_between (P := P) (w := w) (base := base) T
  exact fnP (κ := κ_likely_sign) (T := B_likely_sign) T.F_likely_sign sc_likely_sign (noIo_of rfl) (cl_of rfl) (.inl rfl)
    (fun cdv A outer s H E hr =>
      (dscons (fasg (by rfl) (by rfl) (by rfl) (.inl rfl) (dv 0) (dgtup (by rfl) (by rfl) rfl (dgcons (by rfl) (dgname (i := 2) (.inl rfl) sc_likely_sign.nd rfl (Or.inl rfl) (.inl ⟨rfl, rfl⟩)) (dgcons (by rfl) (dgname (i := 3) (.inl rfl) sc_likely_sign.nd rfl (Or.inl rfl) (.inl ⟨rfl, rfl⟩)) dgnil))))
      (dscons (dset (i := 4) (by rfl) (.inl rfl) sc_likely_sign.nd rfl (Or.inl rfl) rfl (fctC (by rfl) (by decide) (by decide) (by decide) dc_tuple (by rfl) T.n_tuple bt_tuple (facC rfl (DE.clean (dcomp (lo := false) (by intro _; rfl) rfl (fun _ => cap_of rfl) (fun h => by cases h) (diT vcl (dv 1)) (compSc_of (N := ["size", "holes", "wide", "high", "marks", "step", "column", "row"]) (sc := defScope s_likely_sign) (Nc := ["hole"]) (js := [none]) rfl rfl (by decide +kernel)) (fun pins_ fp_ H_ s_ C_ => ⟨(dgname (i := 0) (.inr rfl) (show (["hole"] : List Str).Nodup by decide +kernel) rfl (Or.inl rfl) (.inl ⟨rfl, rfl⟩)), (dif1 (ftcmpC (nomark _) do_ge (dv 0) (dgint (by decide) (by rfl) T.c_FIRST_MARK))), (dv 0)⟩))) fanil)))
      (dscons (dif (ftcmpC (nomark _) (do_eq (room12 hr)) (dv 4) (dgtupc (by decide) (by rfl) rfl T.c_STRUCK_MARKS)) (dsone (dret (ftupC (facC rfl dstr fanil)))) dsnil)
      (dscons (dset (i := 5) (by rfl) (.inl rfl) sc_likely_sign.nd rfl (Or.inl rfl) rfl (fclC (by rfl) (by decide) (by decide) G_first_between rfl rfl (hr.mono (by decide)) (by rfl) T.m_first_between T.k_first_between T.b_first_between pass0 (facC rfl (dv 1) (facC rfl (dgint (by decide) (by rfl) T.c_FIRST_ROW_HOLE) (facC rfl (dgint (by decide) (by rfl) T.c_FIRST_MARK) (facC rfl (dgint (by decide) (by rfl) T.c_LAST_STEP) fanil))))))
      (dscons (dif (ftcmpC (nomark _) (do_eq (room12 hr)) (dv 4) (dgtupc (by decide) (by rfl) rfl T.c_COARSE_MARKS)) (dsone (dret (ftupC (facC rfl dstr (facC rfl (dv 5) fanil))))) dsnil)
      (dscons (dif (ftcmpC (nomark _) (do_eq (room12 hr)) (dv 4) (dgtupc (by decide) (by rfl) rfl T.c_FINE_MARKS)) (dsone (dret (ftupC (facC rfl dstr (facC rfl (dv 5) fanil))))) dsnil)
      (dscons (dset (i := 6) (by rfl) (.inl rfl) sc_likely_sign.nd rfl (Or.inl rfl) rfl (fclC (by rfl) (by decide) (by decide) G_first_between rfl rfl (hr.mono (by decide)) (by rfl) T.m_first_between T.k_first_between T.b_first_between pass0 (facC rfl (dv 1) (facC rfl dint (facC rfl (dgint (by decide) (by rfl) T.c_FIRST_ROW_HOLE) (facC rfl (fopC (by decide) do_sub (dv 2) dint) fanil))))))
      (dscons (dset (i := 7) (by rfl) (.inl rfl) sc_likely_sign.nd rfl (Or.inl rfl) rfl (fclC (by rfl) (by decide) (by decide) G_first_between rfl rfl (hr.mono (by decide)) (by rfl) T.m_first_between T.k_first_between T.b_first_between pass0 (facC rfl (dv 1) (facC rfl (dgint (by decide) (by rfl) T.c_FIRST_ROW_HOLE) (facC rfl (dgint (by decide) (by rfl) T.c_FIRST_MARK) (facC rfl (fopC (by decide) do_sub (dv 3) dint) fanil))))))
      (dscons (dif (ftcmpC (nomark _) (do_eq (room12 hr)) (dv 4) (dgtupc (by decide) (by rfl) rfl T.c_BLANK_MARKS)) (dsone (dret (ftupC (facC rfl dstr (facC rfl (dv 6) (facC rfl (dv 7) fanil)))))) dsnil)
      (dscons (dif (ftcmpC (nomark _) (do_eq (room12 hr)) (dv 4) (dgtupc (by decide) (by rfl) rfl T.c_WIDER_MARKS)) (dsone (dret (ftupC (facC rfl dstr (facC rfl (dv 6) (facC rfl (dv 7) (facC rfl dint fanil))))))) dsnil)
      (dscons (dif (ftcmpC (nomark _) (do_eq (room12 hr)) (dv 4) (dgtupc (by decide) (by rfl) rfl T.c_NARROWER_MARKS)) (dsone (dret (ftupC (facC rfl dstr (facC rfl (dv 6) (facC rfl (dv 7) (facC rfl (fneg dint) fanil))))))) dsnil)
      (dsone (dret (ftupC (facC rfl dstr (facC rfl (dv 6) (facC rfl (dv 7) (facC rfl dint fanil))))))))))))))))))) body_likely_sign
end
section
variable {P : Program} {w : World} {K : PySem.W.Frag} {mg : Str → Option Value} {base : Heap} {t : Adr}
theorem body_read_holes : BodyP B_read_holes 3 2 .cl sd_read_holes := by
  rintro ds q hl ⟨w, h, g, rfl, S, G, hq⟩
  have hlen := holes_len w h g
  refine ⟨_, rfl, rfl, _, rfl, up_of S G, by omega, _, rfl, iteF ⟨_, rfl, _, rfl, rfl, w, h, g, rfl, S, G, ?_⟩⟩
  dsimp only [kl_read_holes, startD, List.map_cons, List.map_nil, List.length_cons, List.length_nil, Nat.reduceAdd, Nat.reduceSub, List.replicate_succ, List.replicate_zero, List.cons_append, List.nil_append, List.set_cons_zero, List.set_cons_succ]
  refine ⟨_, rfl, _, rfl, rfl, w, h, g, rfl, G, _, rfl, iteF ⟨_, rfl, _, rfl, rfl, w, h, g, rfl, _, rfl, ok_row _, ok_row _, _, rfl, ?_⟩⟩
  have e : (!pyEq (rowD (holesF w h g)) (rowD (holesF w h g))) = false := by rw [eq_rows]; simp
  rw [e]
  exact iteF ⟨_, rfl, hq⟩
theorem ok_read_holes (T : Txt K mg t) : FnOk P w K mg base CX0 6 t.f_read_holes t.d_read_holes ["size", "thing"] (spP K 2 .cl sd_read_holes) := by
  have G_likely_sign := ok_likely_sign (P := P) (w := w) (base := base) T
  have G_is_row_of_holes := ok_is_row_of_holes (P := P) (w := w) (base := base) T
  have G_is_sign := ok_is_sign (P := P) (w := w) (base := base) T
  have G_strike := ok_strike (P := P) (w := w) (base := base) T
  exact fnP (κ := κ_read_holes) (T := B_read_holes) T.F_read_holes sc_read_holes (noIo_of rfl) (cl_of rfl) (.inl rfl)
    (fun cdv A outer s H E hr =>
      (dscons (dif (dtnot (dtval (by intro _; rfl) (fclC (by rfl) (by decide) (by decide) G_is_row_of_holes rfl rfl (hr.mono (by decide)) (by rfl) T.m_is_row_of_holes T.k_is_row_of_holes T.b_is_row_of_holes pass0 (facC rfl (dv 1) fanil)))) (dsone dnever) dsnil)
      (dscons (dset (i := 2) (by rfl) (.inl rfl) sc_read_holes.nd rfl (Or.inl rfl) rfl (fclC (by rfl) (by decide) (by decide) G_likely_sign rfl rfl (hr.mono (by decide)) (by rfl) T.m_likely_sign T.k_likely_sign T.b_likely_sign pass0 (facC rfl (dv 0) (facC rfl (dv 1) fanil))))
      (dscons (dif (dtw (fwor (dtnot (dtval (by intro _; rfl) (fclC (by rfl) (by decide) (by decide) G_is_sign rfl rfl (hr.mono (by decide)) (by rfl) T.m_is_sign T.k_is_sign T.b_is_sign pass0 (facC rfl (dv 0) (facC rfl (dv 2) fanil))))) (dwor1 (ftcmpC (nomark _) (do_ne (room12 hr)) (fclC (by rfl) (by decide) (by decide) G_strike rfl rfl (hr.mono (by decide)) (by rfl) T.m_strike T.k_strike T.b_strike pass0 (facC rfl (dv 0) (facC rfl (dv 2) fanil))) (dv 1))))) (dsone dnever) dsnil)
      (dsone (dret (dv 2))))))) body_read_holes
end
section
variable {P : Program} {w : World} {K : PySem.W.Frag} {mg : Str → Option Value} {base : Heap} {t : Adr}
theorem filled_few {us : List Int} {rows : List (List Cell)} {w h : Nat} (G : CaseG us rows w h) : (filled rows).length ≤ 225 := by
  have a := fRows_len G.cl rows.length
  have b : rows.length * w ≤ 15 * 15 := Nat.mul_le_mul (by rw [G.rl]; exact G.h15) G.w15
  exact Nat.le_trans a b
theorem fc_name {us : List Int} {rows : List (List Cell)} {w h : Nat} (G : CaseG us rows w h) {f g : Fc} (hf : f ∈ filled rows) (hg : g ∈ filled rows) (e : f.1 = g.1) : f = g := by
  have a := (fRows_mem hf).2
  have b := (fRows_mem hg).2
  rw [← e] at b
  obtain ⟨h1, h2⟩ := G.uniq _ _ _ _ _ _ _ a b
  rw [← h1, ← h2, a] at b
  have h3 : f.2.2.2 = g.2.2.2 := by
    have := Option.some.inj (Option.some.inj b)
    exact (Prod.mk.inj this).2
  obtain ⟨x1, x2, x3, x4⟩ := f
  obtain ⟨y1, y2, y3, y4⟩ := g
  simp only at e h1 h2 h3
  rw [e, h1, h2, h3]
theorem fc_ok {us : List Int} {rows : List (List Cell)} {w h : Nat} (G : CaseG us rows w h) {f : Fc} (hf : f ∈ filled rows) : f.2.1 < w ∧ f.2.2.1 < h ∧ (f.2.2.2 = -1 ∨ f.2.2.2 = 0 ∨ f.2.2.2 = 1) := by
  obtain ⟨h1, h2⟩ := fRows_mem hf
  rw [G.rl] at h1
  refine ⟨?_, h1, ?_⟩
  · unfold cellAt at h2
    cases e : rows[f.2.2.1]? with
    | none => rw [e] at h2; cases h2
    | some row =>
      rw [e] at h2
      have := (List.getElem?_eq_some_iff.mp h2).1
      rw [G.cl row (List.mem_of_getElem? e)] at this
      exact this
  · rcases G.cells _ _ _ _ h2 with ⟨_, z⟩ | ⟨_, z, _⟩
    · exact .inr (.inl z)
    · exact z
theorem sg_ok {us : List Int} {rows : List (List Cell)} {w h : Nat} (G : CaseG us rows w h) {f : Fc} (hf : f ∈ filled rows) : SgOk w h (signF f) := by
  obtain ⟨a, b, c⟩ := fc_ok G hf
  unfold signF
  split
  · exact ⟨a, b⟩
  · exact ⟨a, b, c⟩
theorem CaseG.size {us : List Int} {rows : List (List Cell)} {w h : Nat} (G : CaseG us rows w h) : SizeOk w h := ⟨G.w2, G.w15, G.h2, G.h15⟩
theorem body_filled_cell_of : BodyP B_filled_cell_of 3 2 .cl sd_filled_cell_of := by
  rintro ds q hl ⟨us, rows, w, h, f, rfl, G, hf, hq⟩
  refine ⟨_, rfl, rfl, us, rows, w, h, rfl, G, _, rfl, ?_⟩
  refine forI (fun j ρ => ∃ o, f ∈ (filled rows).drop j ∧ ρ = [some (caseD us rows), some (.str f.1), o]) ⟨none, hf, rfl⟩ ?_ ?_
  · rintro j d ρ hd ⟨o, hm, rfl⟩
    rw [List.getElem?_map] at hd
    obtain ⟨g, hg, rfl⟩ := Option.map_eq_some_iff.mp hd
    refine ⟨_, rfl, _, _, _, rfl, rfl, at0, _, rfl, rfl, rfl, _, rfl, ite2 (fun e => ?_) (fun e => ?_)⟩
    · have e : g.1 = f.1 := by simpa [pyEq] using e
      rw [← fc_name G (List.mem_of_getElem? hg) hf e] at hq
      exact ⟨_, rfl, hq⟩
    · have e : g.1 ≠ f.1 := by simpa [pyEq] using e
      refine ⟨_, ?_, rfl⟩
      have hj : j < (filled rows).length := (List.getElem?_eq_some_iff.mp hg).1
      rw [List.drop_eq_getElem_cons hj, (List.getElem?_eq_some_iff.mp hg).2] at hm
      rcases List.mem_cons.mp hm with z | z
      · exact absurd (by rw [z]) e
      · exact z
  · rintro ρ ⟨o, hm, rfl⟩
    rw [List.length_map, List.drop_length] at hm
    exact absurd hm (by simp)
theorem ok_filled_cell_of (T : Txt K mg t) : FnOk P w K mg base CX0 2 t.f_filled_cell_of t.d_filled_cell_of ["case", "thing"] (spP K 2 .cl sd_filled_cell_of) := by
  have G_filled_cells := ok_filled_cells (P := P) (w := w) (base := base) T
  exact fnP (κ := κ_filled_cell_of) (T := B_filled_cell_of) T.F_filled_cell_of sc_filled_cell_of (noIo_of rfl) (cl_of rfl) (.inl rfl)
    (fun cdv A outer s H E hr =>
      (dscons (dfor (by intro _; rfl) PassesOwn.never rfl (diL vcl (DE.clean (fclC (by rfl) (by decide) (by decide) G_filled_cells rfl rfl (hr.mono (by decide)) (by rfl) T.m_filled_cells T.k_filled_cells T.b_filled_cells pass0 (facC rfl (dv 0) fanil)))) (dgname (i := 2) (.inl rfl) sc_filled_cell_of.nd rfl (Or.inl rfl) (.inl ⟨rfl, rfl⟩)) (dsone (dif (ftcmpC (nomark _) (do_eq (room12 hr)) (fixC (fun _ _ => rfl) dix_t (dv 2) dint) (dv 1)) (dsone (dret (dv 2))) dsnil)))
      (dsone dnever))) body_filled_cell_of
theorem body_place_of : BodyP B_place_of 6 2 .cl sd_place_of := by
  rintro ds q hl ⟨us, rows, w, h, f, rfl, G, hf, hq⟩
  refine ⟨_, rfl, _, rfl, rfl, us, rows, w, h, f, rfl, G, hf, _, rfl, rfl, _, _, rfl, _, _, rfl, _, _, rfl, _, _, rfl, rfl, ?_⟩
  dsimp only [kl_place_of, startD, List.map_cons, List.map_nil, List.length_cons, List.length_nil, Nat.reduceAdd, Nat.reduceSub, List.replicate_succ, List.replicate_zero, List.cons_append, List.nil_append, List.set_cons_zero, List.set_cons_succ]
  exact ⟨_, rfl, _, rfl, sl1 (by show 2 ≤ 1000; decide), hq⟩
theorem ok_place_of (T : Txt K mg t) : FnOk P w K mg base CX0 3 t.f_place_of t.d_place_of ["case", "thing"] (spP K 2 .cl sd_place_of) := by
  have G_filled_cell_of := ok_filled_cell_of (P := P) (w := w) (base := base) T
  exact fnP (κ := κ_place_of) (T := B_place_of) T.F_place_of sc_place_of (noIo_of rfl) (cl_of rfl) (.inl rfl)
    (fun cdv A outer s H E hr =>
      (dscons (fasg (by rfl) (by rfl) (by rfl) (.inl rfl) (fclC (by rfl) (by decide) (by decide) G_filled_cell_of rfl rfl (hr.mono (by decide)) (by rfl) T.m_filled_cell_of T.k_filled_cell_of T.b_filled_cell_of pass0 (facC rfl (dv 0) (facC rfl (dv 1) fanil))) (dgtup (by rfl) (by rfl) rfl (dgcons (by rfl) (dgname (i := 2) (.inl rfl) sc_place_of.nd rfl (Or.inl rfl) (.inl ⟨rfl, rfl⟩)) (dgcons (by rfl) (dgname (i := 3) (.inl rfl) sc_place_of.nd rfl (Or.inl rfl) (.inl ⟨rfl, rfl⟩)) (dgcons (by rfl) (dgname (i := 4) (.inl rfl) sc_place_of.nd rfl (Or.inl rfl) (.inl ⟨rfl, rfl⟩)) (dgcons (by rfl) (dgname (i := 5) (.inl rfl) sc_place_of.nd rfl (Or.inl rfl) (.inl ⟨rfl, rfl⟩)) dgnil))))))
      (dsone (dret (ftupC (facC rfl (dv 3) (facC rfl (dv 4) fanil))))))) body_place_of
theorem body_sign_of_filled : BodyP B_sign_of_filled 5 1 .cl sd_sign_of_filled := by
  rintro ds q hl ⟨f, rfl, hq⟩
  refine ⟨_, rfl, _, rfl, rfl, _, _, rfl, _, _, rfl, _, _, rfl, _, _, rfl, rfl, ?_⟩
  dsimp only [kl_sign_of_filled, startD, List.map_cons, List.map_nil, List.length_cons, List.length_nil, Nat.reduceAdd, Nat.reduceSub, List.replicate_succ, List.replicate_zero, List.cons_append, List.nil_append, List.set_cons_zero, List.set_cons_succ]
  unfold signF at hq
  refine ⟨_, rfl, rfl, rfl, _, rfl, ite2 (fun e => ?_) (fun e => ?_)⟩
  · have e : f.1 = (" " : Str) := by simpa [pyEq] using e
    rw [if_pos e] at hq
    exact ⟨_, rfl, _, rfl, sl1 (by show 3 ≤ 1000; decide), hq⟩
  · have e : ¬ f.1 = (" " : Str) := by simpa [pyEq] using e
    rw [if_neg e] at hq
    exact ⟨_, rfl, _, rfl, _, rfl, sl1 (by show 4 ≤ 1000; decide), hq⟩
theorem ok_sign_of_filled (T : Txt K mg t) : FnOk P w K mg base CX0 1 t.f_sign_of_filled t.d_sign_of_filled ["filled"] (spP K 1 .cl sd_sign_of_filled) := by
  exact fnP (κ := κ_sign_of_filled) (T := B_sign_of_filled) T.F_sign_of_filled sc_sign_of_filled (noIo_of rfl) (cl_of rfl) (.inl rfl)
    (fun cdv A outer s H E hr =>
      (dscons (fasg (by rfl) (by rfl) (by rfl) (.inl rfl) (dv 0) (dgtup (by rfl) (by rfl) rfl (dgcons (by rfl) (dgname (i := 1) (.inl rfl) sc_sign_of_filled.nd rfl (Or.inl rfl) (.inl ⟨rfl, rfl⟩)) (dgcons (by rfl) (dgname (i := 2) (.inl rfl) sc_sign_of_filled.nd rfl (Or.inl rfl) (.inl ⟨rfl, rfl⟩)) (dgcons (by rfl) (dgname (i := 3) (.inl rfl) sc_sign_of_filled.nd rfl (Or.inl rfl) (.inl ⟨rfl, rfl⟩)) (dgcons (by rfl) (dgname (i := 4) (.inl rfl) sc_sign_of_filled.nd rfl (Or.inl rfl) (.inl ⟨rfl, rfl⟩)) dgnil))))))
      (dscons (dif (ftcmpC (nomark _) (do_eq (room12 hr)) (dv 1) (dgstr (by decide) (by rfl) T.c_BLANK)) (dsone (dret (ftupC (facC rfl dstr (facC rfl (dv 2) (facC rfl (dv 3) fanil)))))) dsnil)
      (dsone (dret (ftupC (facC rfl dstr (facC rfl (dv 2) (facC rfl (dv 3) (facC rfl (dv 4) fanil)))))))))) body_sign_of_filled
theorem body_sign_of : BodyP B_sign_of 2 2 .cl sd_sign_of := by
  rintro ds q hl ⟨us, rows, w, h, f, rfl, G, hf, hq⟩
  exact ⟨_, rfl, _, rfl, rfl, us, rows, w, h, f, rfl, G, hf, rfl, f, rfl, hq⟩
theorem ok_sign_of (T : Txt K mg t) : FnOk P w K mg base CX0 3 t.f_sign_of t.d_sign_of ["case", "thing"] (spP K 2 .cl sd_sign_of) := by
  have G_sign_of_filled := ok_sign_of_filled (P := P) (w := w) (base := base) T
  have G_filled_cell_of := ok_filled_cell_of (P := P) (w := w) (base := base) T
  exact fnP (κ := κ_sign_of) (T := B_sign_of) T.F_sign_of sc_sign_of (noIo_of rfl) (cl_of rfl) (.inl rfl)
    (fun cdv A outer s H E hr =>
      (dsone (dret (fclC (by rfl) (by decide) (by decide) G_sign_of_filled rfl rfl (hr.mono (by decide)) (by rfl) T.m_sign_of_filled T.k_sign_of_filled T.b_sign_of_filled pass0 (facC rfl (fclC (by rfl) (by decide) (by decide) G_filled_cell_of rfl rfl (hr.mono (by decide)) (by rfl) T.m_filled_cell_of T.k_filled_cell_of T.b_filled_cell_of pass0 (facC rfl (dv 0) (facC rfl (dv 1) fanil))) fanil))))) body_sign_of
end
section
variable {P : Program} {w : World} {K : PySem.W.Frag} {mg : Str → Option Value} {base : Heap} {t : Adr}
theorem row_key (l : List Int) : rowD l = keyT (keyOf l) := by
  unfold rowD keyT keyOf
  rw [List.map_map]; rfl
theorem cell_at {us : List Int} {rows : List (List Cell)} {r c : Nat} {x : Cell} (h : cellAt rows r c = some x) : ∃ row, rows[r]? = some row ∧ row[c]? = some x := by
  unfold cellAt at h
  cases e : rows[r]? with
  | none => rw [e] at h; cases h
  | some row => rw [e] at h; exact ⟨row, rfl, h⟩
theorem sign_no {g : Sg} : (!pyEq (signD g) (signD g)) = false := by
  rw [pyEq_self 12 _ (ok_sign g)]; rfl
theorem cut13a (a b c d : D) : cutD [a, b, c, d] (some 1) (some 3) = [b, c] := by rfl
theorem cut13b (a b c : D) : cutD [a, b, c] (some 1) (some 3) = [b, c] := by rfl
theorem hasT_no {ks : List (List Key)} {k : List Key} (l : List D) (d : D) (h : hasT ks k = false) : putT ks l k d = .dT (ks ++ [k]) (l ++ [d]) := by
  unfold putT
  rw [h, if_neg Bool.false_ne_true]
theorem body_d_law_good : BodyX B_d_law_good 7 4 3 .cl sd_d_law_good := by
  rintro ds q hl ⟨us, rows, w, h, f, ks, l, rfl, G, hf, hks, hno, hq⟩
  have S := G.size
  have So := sg_ok G hf
  obtain ⟨_, hcell⟩ := fRows_mem hf
  obtain ⟨row, hrow, hx⟩ := cell_at (us := us) hcell
  have hce : ∀ k : Int, pyEq (cellD (some (f.1, k))) (.tup [.str f.1, .int k]) = true := fun k => pyEq_self 12 _ rfl
  have hlenk : ks.length < sizeLine := small1000 (by omega)
  refine ⟨_, rfl, _, rfl, rfl, us, rows, w, h, f, rfl, G, hf, ?_⟩
  dsimp only [kl_d_law_good, startD, List.map_cons, List.map_nil, List.length_cons, List.length_nil, Nat.reduceAdd, Nat.reduceSub, List.replicate_succ, List.replicate_zero, List.cons_append, List.nil_append, List.set_cons_zero, List.set_cons_succ]
  refine ⟨_, rfl, _, rfl, rfl, w, h, _, rfl, So, _, rfl, iteF ⟨_, rfl, _, rfl, rfl, w, h, _, rfl, ?_⟩⟩
  dsimp only [kl_d_law_good, startD, List.map_cons, List.map_nil, List.length_cons, List.length_nil, Nat.reduceAdd, Nat.reduceSub, List.replicate_succ, List.replicate_zero, List.cons_append, List.nil_append, List.set_cons_zero, List.set_cons_succ]
  have hk := row_key (holesF w h (signF f))
  refine ⟨_, rfl, _, rfl, keyOf (holesF w h (signF f)), ks, l, hk, rfl, _, rfl, ?_⟩
  rw [Bool.false_xor, hno]
  refine iteF ⟨_, rfl, _, rfl, rfl, w, h, _, rfl, S, So, _, rfl, ok_sign _, ok_sign _, _, rfl, ?_⟩
  rw [sign_no]
  refine iteF ⟨_, rfl, _, rfl, rfl, us, rows, w, h, f, rfl, G, hf, ?_⟩
  by_cases e : f.1 = (" " : Str)
  · have es : signF f = .blk f.2.1 f.2.2.1 := by unfold signF; rw [if_pos e]
    rw [es] at hq hno hk So ⊢
    refine ⟨_, rfl, _, rfl, _, rfl, _, rfl, ?_⟩
    rw [cut13b]
    refine ⟨rfl, rfl, _, rfl, ?_⟩
    rw [pyEq_self 12 _ rfl]
    refine iteF ⟨⟨_, _, rfl⟩, _, rfl, _, rfl, ks, l, keyOf (holesF w h (.blk f.2.1 f.2.2.1)), rfl, hk, hlenk, ?_⟩
    rw [hasT_no l _ hno]
    dsimp only [kl_d_law_good, startD, List.map_cons, List.map_nil, List.length_cons, List.length_nil, Nat.reduceAdd, Nat.reduceSub, List.replicate_succ, List.replicate_zero, List.cons_append, List.nil_append, List.set_cons_zero, List.set_cons_succ]
    refine ⟨_, rfl, rfl, rfl, _, rfl, ?_⟩
    have e2 : (!pyEq (.str f.1) (.str (Str.ofString " "))) = false := by rw [e]; rfl
    rw [e2]
    refine iteF ?_
    dsimp only [kl_d_law_good, startD, List.map_cons, List.map_nil, List.length_cons, List.length_nil, Nat.reduceAdd, Nat.reduceSub, List.replicate_succ, List.replicate_zero, List.cons_append, List.nil_append, List.set_cons_zero, List.set_cons_succ]
    refine ⟨_, rfl, _, _, _, rfl, rfl, at1, _, rfl, _, _, _, rfl, rfl, at2, _, _, _, rfl, rfl, atI_map_nat hrow, _, rfl, _, _, _, rfl, rfl, at1, _, _, _, rfl, rfl, atI_map_nat hx, _, rfl, _, rfl, sl1 (by show 2 ≤ 1000; decide), rfl, rfl, ?_⟩
    have c0 : f.2.2.2 = 0 := by
      rcases G.cells _ _ _ _ hcell with ⟨_, z⟩ | ⟨z, _⟩
      · exact z
      · rw [e] at z
        have := z.2.2 32 (by decide +kernel)
        exact absurd this.1 (by decide)
    rw [c0, hce]
    refine ⟨_, rfl, iteT ⟨_, rfl, _, _, _, rfl, rfl, at0, rfl, rfl, _, rfl, rfl, rfl, rfl, rfl, ?_⟩⟩
    have e3 : pyEq (.str f.1) (.str (Str.ofString " ")) = true := by rw [e]; rfl
    rw [e3]
    exact ⟨_, rfl, hq⟩
  · have es : signF f = .ltr f.2.1 f.2.2.1 f.2.2.2 := by unfold signF; rw [if_neg e]
    rw [es] at hq hno hk So ⊢
    refine ⟨_, rfl, _, rfl, _, rfl, _, rfl, ?_⟩
    rw [cut13a]
    refine ⟨rfl, rfl, _, rfl, ?_⟩
    rw [pyEq_self 12 _ rfl]
    refine iteF ⟨⟨_, _, rfl⟩, _, rfl, _, rfl, ks, l, keyOf (holesF w h (.ltr f.2.1 f.2.2.1 f.2.2.2)), rfl, hk, hlenk, ?_⟩
    rw [hasT_no l _ hno]
    dsimp only [kl_d_law_good, startD, List.map_cons, List.map_nil, List.length_cons, List.length_nil, Nat.reduceAdd, Nat.reduceSub, List.replicate_succ, List.replicate_zero, List.cons_append, List.nil_append, List.set_cons_zero, List.set_cons_succ]
    refine ⟨_, rfl, rfl, rfl, _, rfl, ?_⟩
    have e2 : (!pyEq (.str f.1) (.str (Str.ofString " "))) = true := by simp only [pyEq]; simpa using e
    rw [e2]
    refine iteT ⟨_, rfl, _, _, _, rfl, rfl, at3, ?_⟩
    dsimp only [kl_d_law_good, startD, List.map_cons, List.map_nil, List.length_cons, List.length_nil, Nat.reduceAdd, Nat.reduceSub, List.replicate_succ, List.replicate_zero, List.cons_append, List.nil_append, List.set_cons_zero, List.set_cons_succ]
    refine ⟨_, rfl, _, _, _, rfl, rfl, at1, _, rfl, _, _, _, rfl, rfl, at2, _, _, _, rfl, rfl, atI_map_nat hrow, _, rfl, _, _, _, rfl, rfl, at1, _, _, _, rfl, rfl, atI_map_nat hx, _, rfl, _, rfl, sl1 (by show 2 ≤ 1000; decide), rfl, rfl, ?_⟩
    rw [hce]
    refine ⟨_, rfl, iteT ⟨_, rfl, _, _, _, rfl, rfl, at0, rfl, rfl, _, rfl, rfl, rfl, rfl, rfl, ?_⟩⟩
    have e3 : pyEq (.str f.1) (.str (Str.ofString " ")) = false := by simp only [pyEq]; simpa using e
    rw [e3]
    exact ⟨_, rfl, hq⟩
theorem ok_d_law_good (T : Txt K mg t) : FnOk P w K mg base CX0 7 t.f_d_law_good t.d_d_law_good ["_law_case_here", "_law_size", "_law_name_here", "_law_met"] (spX K 4 3 1 .cl sd_d_law_good) := by
  have G_sign_of := ok_sign_of (P := P) (w := w) (base := base) T
  have G_strike := ok_strike (P := P) (w := w) (base := base) T
  have G_is_sign := ok_is_sign (P := P) (w := w) (base := base) T
  have G_read_holes := ok_read_holes (P := P) (w := w) (base := base) T
  have G_place_of := ok_place_of (P := P) (w := w) (base := base) T
  exact fnX (κ := κ_d_law_good) (T := B_d_law_good) T.F_d_law_good sc_d_law_good rfl (by decide) (io_of rfl) (clx_of rfl) (.inl rfl)
    (fun cdv A outer s H E hr =>
      (dscons (dset (i := 4) (by rfl) (.inl rfl) sc_d_law_good.nd rfl (Or.inl rfl) rfl (fclC (by rfl) (by decide) (by decide) G_sign_of rfl rfl (hr.mono (by decide)) (by rfl) T.m_sign_of T.k_sign_of T.b_sign_of pass0 (facC rfl (dv 0) (facC rfl (dv 2) fanil))))
      (dscons (dif (dtnot (dtval (by intro _; rfl) (fclC (by rfl) (by decide) (by decide) G_is_sign rfl rfl (hr.mono (by decide)) (by rfl) T.m_is_sign T.k_is_sign T.b_is_sign pass0 (facC rfl (dv 1) (facC rfl (dv 4) fanil))))) (dsone (dret dbl)) dsnil)
      (dscons (dset (i := 5) (by rfl) (.inl rfl) sc_d_law_good.nd rfl (Or.inl rfl) rfl (fclC (by rfl) (by decide) (by decide) G_strike rfl rfl (hr.mono (by decide)) (by rfl) T.m_strike T.k_strike T.b_strike pass0 (facC rfl (dv 1) (facC rfl (dv 4) fanil))))
      (dscons (dif (dtw (fwor (ftcmpL (by rfl) (do_inT (room1 hr)) (DE.loose (dv 5)) (dvl 3)) (fwor (ftcmpC (nomark _) (do_ne (room12 hr)) (fclC (by rfl) (by decide) (by decide) G_read_holes rfl rfl (hr.mono (by decide)) (by rfl) T.m_read_holes T.k_read_holes T.b_read_holes pass0 (facC rfl (dv 1) (facC rfl (dv 5) fanil))) (dv 4)) (dwor1 (ftcmpC (nomark _) (do_ne (room12 hr)) (fclC (by rfl) (by decide) (by decide) G_place_of rfl rfl (hr.mono (by decide)) (by rfl) T.m_place_of T.k_place_of T.b_place_of pass0 (facC rfl (dv 0) (facC rfl (dv 2) fanil))) (fslC (by decide) dsl_t (dv 4) (dosome dint) (dosome dint))))))) (dsone (dret dbl)) dsnil)
      (dscons (dputT (i := 3) (room1 hr) (by rfl) rfl (by first | exact Or.inl rfl | exact Or.inr (Or.inl rfl) | exact Or.inr (Or.inr rfl)) (by decide) (by decide) rfl (dv 2) (dv 5))
      (dscons (dset (i := 6) (by rfl) (.inl rfl) sc_d_law_good.nd rfl (Or.inl rfl) rfl (fifx (ftcmpC (nomark _) (do_ne (room12 hr)) (dv 2) dstr) (fixC (fun _ _ => rfl) dix_t (dv 4) dint) dint))
      (dsone (dret (fand (fcmpC (nomark _) (do_eq (room12 hr)) (fixC (fun _ _ => rfl) dix_t (fixC (fun _ _ => rfl) dix_t (fixC (fun _ _ => rfl) dix_t (dv 0) dint) (fixC (fun _ _ => rfl) dix_t (dv 4) dint)) (fixC (fun _ _ => rfl) dix_t (dv 4) dint)) (ftupC (facC rfl (dv 2) (facC rfl (dv 6) fanil)))) (done (fcmpC (nomark _) (do_eq (room12 hr)) (fcmpC (nomark _) (do_eq (room12 hr)) (fixC (fun _ _ => rfl) dix_t (dv 4) dint) dstr) (fcmpC (nomark _) (do_eq (room12 hr)) (dv 2) dstr))))))))))))) body_d_law_good
end
section
variable {P : Program} {w : World} {K : PySem.W.Frag} {mg : Str → Option Value} {base : Heap} {t : Adr}
noncomputable def likelyF (w h : Nat) (l : List Int) : Sg :=
  let m := l.filter big
  if m = [28, 29, 30] then .stk else if m = [28, 29] then .crs (firstB l 14 28 14).toNat else if m = [28, 30] then .fne (firstB l 14 28 14).toNat
  else if m = [28] then .blk (firstB l 0 14 ((w : Int) - 1)).toNat (firstB l 14 28 ((h : Int) - 1)).toNat
  else .ltr (firstB l 0 14 ((w : Int) - 1)).toNat (firstB l 14 28 ((h : Int) - 1)).toNat (if m = [29] then 1 else if m = [30] then -1 else 0)
theorem likely_of {w h : Nat} {g : Sg} (S : SizeOk w h) (G : SgOk w h g) : likelyF w h (holesF w h g) = g := by
  unfold likelyF
  simp only [marks_of S G]
  cases g with
  | stk => rfl
  | crs s =>
    have fs : firstB (holesF w h (.crs s)) 14 28 14 = s := fb_step G (by simp)
    rw [fs, Int.toNat_natCast]; rfl
  | fne s =>
    have fs : firstB (holesF w h (.fne s)) 14 28 14 = s := fb_step G (by simp)
    rw [fs, Int.toNat_natCast]; rfl
  | blk c r =>
    have f1 : firstB (holesF w h (.blk c r)) 0 14 ((w : Int) - 1) = c := fb_col S G.1 G.2 (by simp)
    have f2 : firstB (holesF w h (.blk c r)) 14 28 ((h : Int) - 1) = r := fb_row S G.1 G.2 (by simp)
    rw [f1, f2, Int.toNat_natCast, Int.toNat_natCast]; rfl
  | ltr c r k =>
    have f1 : firstB (holesF w h (.ltr c r k)) 0 14 ((w : Int) - 1) = c := fb_col S G.1 G.2.1 cam_big
    have f2 : firstB (holesF w h (.ltr c r k)) 14 28 ((h : Int) - 1) = r := fb_row S G.1 G.2.1 cam_big
    rw [f1, f2, Int.toNat_natCast, Int.toNat_natCast]
    rcases G.2.2 with ek | ek | ek <;> (subst ek; rfl)
theorem holes_inj {w h : Nat} {g g' : Sg} (S : SizeOk w h) (G : SgOk w h g) (G' : SgOk w h g') (e : holesF w h g = holesF w h g') : g = g' := by
  rw [← likely_of S G, e, likely_of S G']
theorem key_inj {a b : List Int} (h : keyOf a = keyOf b) : a = b := by
  unfold keyOf at h
  exact (List.map_inj_right fun x y e => Sum.inl.inj e).mp h
theorem sign_place {f g : Fc} (h : signF f = signF g) : f.2.1 = g.2.1 ∧ f.2.2.1 = g.2.2.1 := by
  unfold signF at h
  by_cases a : f.1 = (" " : Str) <;> by_cases b : g.1 = (" " : Str)
  · rw [if_pos a, if_pos b] at h; cases g; cases f; injection h with h1 h2; exact ⟨h1, h2⟩
  · rw [if_pos a, if_neg b] at h; cases h
  · rw [if_neg a, if_pos b] at h; cases h
  · rw [if_neg a, if_neg b] at h; injection h with h1 h2 h3; exact ⟨h1, h2⟩
theorem place_one {us : List Int} {rows : List (List Cell)} {w h : Nat} (G : CaseG us rows w h) {f g : Fc} (hf : f ∈ filled rows) (hg : g ∈ filled rows) (e : f.2.1 = g.2.1 ∧ f.2.2.1 = g.2.2.1) : f = g := by
  have a := (fRows_mem hf).2
  have b := (fRows_mem hg).2
  rw [e.1, e.2, b] at a
  have := Option.some.inj (Option.some.inj a)
  exact fc_name G hf hg (Prod.mk.inj this).1.symm
theorem hasT_map {fs : List Fc} {w h : Nat} {k : List Int} (hn : ∀ f ∈ fs, holesF w h (signF f) ≠ k) : hasT (fs.map fun f => keyOf (holesF w h (signF f))) (keyOf k) = false := by
  unfold hasT
  rw [List.any_map]
  refine List.any_eq_false.mpr fun f hf => ?_
  simp only [Function.comp, decide_eq_true_eq]
  intro z
  exact hn f hf (key_inj z)
theorem body_d_law_rest_good : BodyP B_d_law_rest_good 6 3 .cl sd_d_law_rest_good := by
  rintro ds q hl ⟨us, rows, w, h, fs, l, rfl, G, hfs, hq⟩
  have S := G.size
  obtain ⟨s1, s2, s3, s4⟩ := S
  refine ⟨_, rfl, _, _, _, rfl, rfl, at1, (h : Int), rfl, by omega, by omega, ?_⟩
  refine forI (fun i ρ => ∃ o3 o4 o5, ρ = [some (caseD us rows), some (sizeD w h), some (.dT (fs.map fun f => keyOf (holesF w h (signF f))) l), o3, o4, o5]) ⟨_, _, _, rfl⟩ ?_ ?_
  · rintro i d ρ hd ⟨o3, o4, o5, rfl⟩
    have hi : i < h := by
      have := (List.getElem?_eq_some_iff.mp hd).1
      simpa using this
    rw [List.getElem?_map, List.getElem?_range (by simpa using hi)] at hd
    simp only [Option.map_some, Option.some.injEq] at hd
    subst hd
    refine ⟨_, rfl, _, _, _, rfl, rfl, at0, (w : Int), rfl, by omega, by omega, ?_⟩
    refine forI (fun j ρ => ∃ o4 o5, ρ = [some (caseD us rows), some (sizeD w h), some (.dT (fs.map fun f => keyOf (holesF w h (signF f))) l), some (.int i), o4, o5]) ⟨_, _, rfl⟩ ?_ ?_
    · rintro j d ρ hd ⟨o4, o5, rfl⟩
      have hj : j < w := by
        have := (List.getElem?_eq_some_iff.mp hd).1
        simpa using this
      rw [List.getElem?_map, List.getElem?_range (by simpa using hj)] at hd
      simp only [Option.map_some, Option.some.injEq] at hd
      subst hd
      obtain ⟨row, hrow⟩ : ∃ row, rows[i]? = some row := ⟨_, List.getElem?_eq_getElem (by rw [G.rl]; exact hi)⟩
      have hrl : row.length = w := G.cl row (List.mem_of_getElem? hrow)
      obtain ⟨x, hx⟩ : ∃ x, row[j]? = some x := ⟨_, List.getElem?_eq_getElem (by rw [hrl]; exact hj)⟩
      refine ⟨_, rfl, _, _, _, rfl, rfl, at1, _, rfl, _, _, _, rfl, rfl, atI_map_nat hrow, _, rfl, _, _, _, rfl, rfl, atI_map_nat hx, rfl, _, rfl, ?_⟩
      rw [isNon_cell]
      cases x with
      | some p => exact iteF ⟨_, _, rfl⟩
      | none =>
        refine iteT ⟨1, rfl, sl1 (by show 3 ≤ 1000; decide), _, rfl, ?_⟩
        have hce : cellAt rows i j = some none := by unfold cellAt; rw [hrow]; exact hx
        refine forI (fun _ ρ => ∃ o5, ρ = [some (caseD us rows), some (sizeD w h), some (.dT (fs.map fun f => keyOf (holesF w h (signF f))) l), some (.int i), some (.int j), o5]) ⟨_, rfl⟩ ?_ ?_
        · rintro t d ρ hd ⟨o5, rfl⟩
          have ht : ∃ k : Int, d = .int k ∧ (k = -1 ∨ k = 0 ∨ k = 1) := by
            have hm := List.mem_of_getElem? hd
            simp only [List.mem_cons, List.not_mem_nil, or_false] at hm
            rcases hm with rfl | rfl | rfl
            · exact ⟨_, rfl, .inl rfl⟩
            · exact ⟨_, rfl, .inr (.inl rfl)⟩
            · exact ⟨_, rfl, .inr (.inr rfl)⟩
          obtain ⟨k, rfl, hk⟩ := ht
          refine ⟨_, rfl, _, rfl, _, rfl, _, rfl, sl1 (by show 4 ≤ 1000; decide), rfl, w, h, .ltr j i k, rfl, _, rfl, keyOf (holesF w h (.ltr j i k)), _, _, row_key _, rfl, _, rfl, ?_⟩
          rw [hasT_map fun f hf z => ?_]
          · exact iteF ⟨_, rfl⟩
          · have e := holes_inj G.size (sg_ok G (hfs f hf)) (show SgOk w h (.ltr j i k) from ⟨hj, hi, hk⟩) z
            have hp : f.2.1 = j ∧ f.2.2.1 = i := by
              unfold signF at e
              split at e
              · cases e
              · injection e with h1 h2 h3; exact ⟨h1, h2⟩
            have c2 := (fRows_mem (hfs f hf)).2
            rw [hp.1, hp.2, hce] at c2
            cases c2
        · rintro ρ ⟨o5, rfl⟩
          exact ⟨_, _, rfl⟩
    · rintro ρ ⟨o4, o5, rfl⟩
      exact ⟨_, _, _, rfl⟩
  · rintro ρ ⟨o3, o4, o5, rfl⟩
    exact hq
theorem ok_d_law_rest_good (T : Txt K mg t) : FnOk P w K mg base CX0 4 t.f_d_law_rest_good t.d_d_law_rest_good ["_law_case_here", "_law_size", "_law_met"] (spP K 3 .cl sd_d_law_rest_good) := by
  have G_strike := ok_strike (P := P) (w := w) (base := base) T
  exact fnP (κ := κ_d_law_rest_good) (T := B_d_law_rest_good) T.F_d_law_rest_good sc_d_law_rest_good (noIo_of rfl) (cl_of rfl) (.inl rfl)
    (fun cdv A outer s H E hr =>
      (dscons (dfor (by intro _; rfl) PassesOwn.never rfl (diR1 rfl (by rfl) T.n_range (facC rfl (fixC (fun _ _ => rfl) dix_t (dv 1) dint) fanil)) (dgname (i := 3) (.inl rfl) sc_d_law_rest_good.nd rfl (Or.inl rfl) (.inl ⟨rfl, rfl⟩)) (dsone (dfor (by intro _; rfl) PassesOwn.never rfl (diR1 rfl (by rfl) T.n_range (facC rfl (fixC (fun _ _ => rfl) dix_t (dv 1) dint) fanil)) (dgname (i := 4) (.inl rfl) sc_d_law_rest_good.nd rfl (Or.inl rfl) (.inl ⟨rfl, rfl⟩)) (dsone (dif (ftcmpC (nomark _) do_is (fixC (fun _ _ => rfl) dix_t (fixC (fun _ _ => rfl) dix_t (fixC (fun _ _ => rfl) dix_t (dv 0) dint) (dv 3)) (dv 4)) dnon) (dsone (dfor (by intro _; rfl) PassesOwn.never rfl (diT vcl (ftupC (facC rfl (fneg dint) (facC rfl dint (facC rfl dint fanil))))) (dgname (i := 5) (.inl rfl) sc_d_law_rest_good.nd rfl (Or.inl rfl) (.inl ⟨rfl, rfl⟩)) (dsone (dif (ftcmpC (by rfl) (do_inT (room1 hr)) (fclC (by rfl) (by decide) (by decide) G_strike rfl rfl (hr.mono (by decide)) (by rfl) T.m_strike T.k_strike T.b_strike pass0 (facC rfl (dv 1) (facC rfl (ftupC (facC rfl dstr (facC rfl (dv 4) (facC rfl (dv 3) (facC rfl (dv 5) fanil))))) fanil))) (dv 2)) (dsone (dret dbl)) dsnil)))) dsnil)))))
      (dsone (dret dbl)))) body_d_law_rest_good
end
section
variable {P : Program} {w : World} {K : PySem.W.Frag} {mg : Str → Option Value} {base : Heap} {t : Adr}
theorem blank_fill {us : List Int} {rows : List (List Cell)} {w h : Nat} (G : CaseG us rows w h) : ∃ f ∈ filled rows, f.1 = (" " : Str) := by
  obtain ⟨r, c, e⟩ := G.blank
  unfold cellAt at e
  cases hr : rows[r]? with
  | none => rw [hr] at e; cases e
  | some cells =>
    rw [hr] at e
    have e : cells[c]? = some (some ((" " : Str), 0)) := e
    have hc : c < cells.length := (List.getElem?_eq_some_iff.mp e).1
    have inRow : ∀ j, c < j → ((" " : Str), c, r, (0 : Int)) ∈ fRow r cells j := by
      intro j
      induction j with
      | zero => intro h; omega
      | succ j ih =>
        intro h
        rw [fRow, List.mem_append]
        by_cases z : c < j
        · exact .inl (ih z)
        · have : c = j := by omega
          subst this
          right
          rw [e]
          exact List.mem_singleton.mpr rfl
    have inRows : ∀ i, r < i → ((" " : Str), c, r, (0 : Int)) ∈ fRows rows i := by
      intro i
      induction i with
      | zero => intro h; omega
      | succ i ih =>
        intro h
        rw [fRows, List.mem_append]
        by_cases z : r < i
        · exact .inl (ih z)
        · have : r = i := by omega
          subst this
          right
          rw [hr]
          exact inRow _ hc
    exact ⟨_, inRows _ (List.getElem?_eq_some_iff.mp hr).1, rfl⟩
theorem name_fill {rows : List (List Cell)} {n : Str} (h : n ∈ namesOf rows) : ∃ f ∈ filled rows, f.1 = n := by
  unfold namesOf at h
  obtain ⟨h1, _⟩ := List.mem_filter.mp h
  obtain ⟨f, hf, e⟩ := List.mem_map.mp h1
  exact ⟨f, hf, e⟩
theorem body_law : BodyP B_law 6 1 .cl sd_law := by
  rintro ds q hl ⟨ns, rfl, hn, hq⟩
  refine ⟨_, rfl, .inl ⟨ns, rfl, _, _, rfl, _, _, rfl, ?_⟩⟩
  generalize ez : (if (if (ns.length : Int) < 6 then (ns.length : Int) else 6) > (1 : Int) then (if (ns.length : Int) < 6 then (ns.length : Int) else 6) else (1 : Int)) = z
  have hz : 0 ≤ z ∧ z ≤ 6 := by
    rw [← ez]
    split <;> (try split) <;> omega
  refine ⟨z, rfl, by omega, by omega, ?_⟩
  refine forI (fun j ρ => ∃ o1 o2 o3 o4 o5, ρ = [some (.scr ns), o1, o2, o3, o4, o5]) ⟨_, _, _, _, _, rfl⟩ ?_ ?_
  · rintro j d ρ hd ⟨o1, o2, o3, o4, o5, rfl⟩
    have hj : j < z.toNat := by
      have := (List.getElem?_eq_some_iff.mp hd).1
      simpa using this
    rw [List.getElem?_map, List.getElem?_range (by simpa using hj)] at hd
    simp only [Option.map_some, Option.some.injEq] at hd
    subst hd
    refine ⟨_, rfl, _, rfl, rfl, ns, j, rfl, by omega, by omega, fun m c hb => ?_⟩
    dsimp only [kl_law, startD, List.map_cons, List.map_nil, List.length_cons, List.length_nil, Nat.reduceAdd, Nat.reduceSub, List.replicate_succ, List.replicate_zero, List.cons_append, List.nil_append, List.set_cons_zero, List.set_cons_succ]
    refine ⟨_, rfl, _, rfl, _, rfl, rfl, m, c, 3, rfl, hb, by decide, by decide, fun r m1 c1 r0 r1 hb1 => ?_⟩
    dsimp only [kl_law, startD, List.map_cons, List.map_nil, List.length_cons, List.length_nil, Nat.reduceAdd, Nat.reduceSub, List.replicate_succ, List.replicate_zero, List.cons_append, List.nil_append, List.set_cons_zero, List.set_cons_succ]
    refine ⟨rfl, rfl, .inr ⟨_, rfl, _, rfl, rfl, m1, c1, _, rfl, hb1, ?_, fun us rows w h m2 c2 G F hb2 => ?_⟩⟩
    · cases pyEq (.int r) (.int 1) <;> simp
    dsimp only [kl_law, startD, List.map_cons, List.map_nil, List.length_cons, List.length_nil, Nat.reduceAdd, Nat.reduceSub, List.replicate_succ, List.replicate_zero, List.cons_append, List.nil_append, List.set_cons_zero, List.set_cons_succ]
    refine ⟨_, rfl, rfl, us, rows, w, h, rfl, G, ?_⟩
    dsimp only [kl_law, startD, List.map_cons, List.map_nil, List.length_cons, List.length_nil, Nat.reduceAdd, Nat.reduceSub, List.replicate_succ, List.replicate_zero, List.cons_append, List.nil_append, List.set_cons_zero, List.set_cons_succ]
    refine ⟨_, rfl, rfl, us, rows, w, h, rfl, G, F, fun ss p1 s1 => ⟨sl1 (by show 1 ≤ 1000; decide), _, _, rfl, rfl, ?_, _, rfl, ?_⟩⟩
    · have := names_few G F
      have := p1.length_eq
      rw [List.length_map]
      exact sl1 (by show _ + 1 ≤ 1000; omega)
    have nd : (ss ++ [(" " : Str)]).Nodup := by
      refine List.nodup_append.mpr ⟨p1.symm.nodup ((nd_rows G _).filter _), by simp, fun a ha b hb e => ?_⟩
      have hb : b = " " := by simpa using hb
      subst hb e
      have := (List.mem_filter.mp (p1.subset ha)).2
      simp at this
    have all : ∀ n ∈ ss ++ [(" " : Str)], ∃ f ∈ filled rows, f.1 = n := fun n hn => by
      rcases List.mem_append.mp hn with z | z
      · exact name_fill (p1.subset z)
      · have z : n = " " := by simpa using z
        subst z
        exact blank_fill G
    have few : (ss ++ [(" " : Str)]).length ≤ 31 := by
      have := names_few G F
      have := p1.length_eq
      simp; omega
    have emap : ss.map D.str ++ [D.str (Str.ofString " ")] = (ss ++ [(" " : Str)]).map D.str := by rw [List.map_append]; rfl
    rw [emap]
    generalize ss ++ [(" " : Str)] = all_ns at nd all few
    refine compY (fun i acc ρ => ∃ o0, ∃ fs : List Fc, acc = (List.replicate i true).map D.bl ∧ fs.map (·.1) = all_ns.take i ∧ (∀ f ∈ fs, f ∈ filled rows) ∧ ρ = [o0, some (caseD us rows), some (sizeD w h), some (.dT (fs.map fun f => keyOf (holesF w h (signF f))) (fs.map fun f => D.str f.1))]) ⟨none, [], rfl, rfl, fun f hf => absurd hf (by simp), rfl⟩ ?_ ?_
    · rintro i d acc ρ hd ⟨o0, fs, rfl, hfs, hfm, rfl⟩
      rw [List.getElem?_map] at hd
      obtain ⟨n, hn, rfl⟩ := Option.map_eq_some_iff.mp hd
      obtain ⟨f, hf, rfl⟩ := all n (List.mem_of_getElem? hn)
      have hi : i < all_ns.length := (List.getElem?_eq_some_iff.mp hn).1
      have hlen : fs.length ≤ 31 := by
        have := congrArg List.length hfs
        rw [List.length_map, List.length_take] at this
        omega
      have new : f.1 ∉ fs.map (·.1) := by
        rw [hfs]
        intro hm
        have st : all_ns.take (i + 1) = all_ns.take i ++ [f.1] := by rw [List.take_succ, hn]; rfl
        have nd2 : (all_ns.take (i + 1)).Nodup := nd.sublist (List.take_sublist _ _)
        rw [st] at nd2
        exact (List.nodup_append.mp nd2).2.2 f.1 hm f.1 (by simp) rfl
      refine ⟨_, rfl, _, rfl, _, rfl, _, rfl, _, rfl, rfl, us, rows, w, h, f, _, _, rfl, G, hf, by rw [List.length_map]; omega, ?_, ?_, ?_⟩
      · refine hasT_map fun g hg e => ?_
        have e2 := holes_inj G.size (sg_ok G (hfm g hg)) (sg_ok G hf) e
        have e3 := place_one G (hfm g hg) hf (sign_place e2)
        exact new (List.mem_map.mpr ⟨g, hg, by rw [e3]⟩)
      · rw [List.length_map, List.length_replicate]; exact small1000 (by omega)
      · refine ⟨some (.str f.1), fs ++ [f], rep_map i, ?_, fun g hg => ?_, ?_⟩
        · rw [List.map_append, hfs, List.take_succ, hn]; rfl
        · rcases List.mem_append.mp hg with z | z
          · exact hfm g z
          · rw [show g = f by simpa using z]; exact hf
        · rw [List.map_append, List.map_append]; rfl
    · rintro acc ρ ⟨o0, fs, rfl, hfs, hfm, rfl⟩
      refine ⟨_, rfl, _, rfl, _, rfl, ?_⟩
      rw [rep_true]
      refine iteF ?_
      dsimp only [kl_law, startD, List.map_cons, List.map_nil, List.length_cons, List.length_nil, Nat.reduceAdd, Nat.reduceSub, List.replicate_succ, List.replicate_zero, List.cons_append, List.nil_append, List.set_cons_zero, List.set_cons_succ]
      refine ⟨_, rfl, _, rfl, _, rfl, rfl, us, rows, w, h, fs, _, rfl, G, hfm, _, rfl, iteF ⟨_, _, _, _, _, rfl⟩⟩
  · rintro ρ ⟨o1, o2, o3, o4, o5, rfl⟩
    exact hq
theorem ok_law (T : Txt K mg t) : FnOk P w K mg base CX0 8 t.f_law t.d_law ["_law_script"] (spP K 1 .cl sd_law) := by
  have G_d_law_bag := ok_d_law_bag (P := P) (w := w) (base := base) T
  have G_d_law_case := ok_d_law_case (P := P) (w := w) (base := base) T
  have G_size_of := ok_size_of (P := P) (w := w) (base := base) T
  have G_d_law_rest_good := ok_d_law_rest_good (P := P) (w := w) (base := base) T
  have G_d_law_take := ok_d_law_take (P := P) (w := w) (base := base) T
  have G_d_law_good := ok_d_law_good (P := P) (w := w) (base := base) T
  have G_names_in := ok_names_in (P := P) (w := w) (base := base) T
  exact fnP (κ := κ_law) (T := B_law) T.F_law sc_law (noIo_of rfl) (cl_of rfl) (.inl rfl)
    (fun cdv A outer s H E hr =>
      (dscons (dfor (by intro _; rfl) PassesOwn.never rfl (diR1 rfl (by rfl) T.n_range (facC rfl (fcbC (by rfl) (by decide) (by decide) (by decide) (dc_max2 rfl) (by rfl) T.n_max bt_max (facC rfl dint (facC rfl (fcbC (by rfl) (by decide) (by decide) (by decide) (dc_min2 rfl) (by rfl) T.n_min bt_min (facC rfl dint (facC rfl (fcbC (by rfl) (by decide) (by decide) (by decide) dc_len (by rfl) T.n_len bt_len (facC rfl (dv 0) fanil)) fanil))) fanil))) fanil)) (dgname (i := 1) (.inl rfl) sc_law.nd rfl (Or.inl rfl) (.inl ⟨rfl, rfl⟩)) (dscons (dsetO (i := 2) (by rfl) (.inl rfl) sc_law.nd rfl (Or.inl rfl) rfl (fclC (by rfl) (by decide) (by decide) G_d_law_bag rfl rfl (hr.mono (by decide)) (by rfl) T.m_d_law_bag T.k_d_law_bag T.b_d_law_bag pass0 (facC rfl (dv 0) (facC rfl (dv 1) fanil))))
      (dscons (dset (i := 3) (by rfl) (.inl rfl) sc_law.nd rfl (Or.inr rfl) rfl (fclx (by rfl) (by decide) G_d_law_case rfl (hr.mono (by decide)) (by rfl) T.m_d_law_case T.k_d_law_case T.b_d_law_case pass0 rfl (.inl rfl) (dax_here (i := 2) rfl (by first | exact Or.inl rfl | exact Or.inr (Or.inl rfl) | exact Or.inr (Or.inr rfl)) (by decide) (by decide) (facC rfl (fctC (by rfl) (by decide) (by decide) (by decide) dc_int (by rfl) T.n_int bt_int (facC rfl (fcmpC (nomark _) (do_eq (room12 hr)) (fclx (by rfl) (by decide) G_d_law_take rfl (hr.mono (by decide)) (by rfl) T.m_d_law_take T.k_d_law_take T.b_d_law_take pass0 rfl (.inl rfl) (dax_here (i := 2) rfl (by first | exact Or.inl rfl | exact Or.inr (Or.inl rfl) | exact Or.inr (Or.inr rfl)) (by decide) (by decide) (facC rfl dint fanil))) (DE.dirty dint)) fanil)) fanil))))
      (dscons (dset (i := 4) (by rfl) (.inl rfl) sc_law.nd rfl (Or.inr rfl) rfl (fclC (by rfl) (by decide) (by decide) G_size_of rfl rfl (hr.mono (by decide)) (by rfl) T.m_size_of T.k_size_of T.b_size_of pass0 (facC rfl (dv 3) fanil)))
      (dscons (dsetO (i := 5) (by rfl) (.inl rfl) sc_law.nd rfl (Or.inr rfl) rfl dnewT)
      (dscons (dif (dtnot (dtval (by intro _; rfl) (fcbC (by rfl) (by decide) (by decide) (by decide) (dc_all rfl) (by rfl) T.n_all bt_all (facC rfl (DE.clean (dcompX (by intro _; rfl) rfl rfl rfl rfl (kc_of rfl) (capx_of rfl) (diL vcl (DE.clean (fopC (by decide) do_cat (DE.clean (fclC (by rfl) (by decide) (by decide) G_names_in rfl rfl (hr.mono (by decide)) (by rfl) T.m_names_in T.k_names_in T.b_names_in pass0 (facC rfl (dv 3) fanil))) (DE.clean (flstC (facC rfl dstr fanil)))))) (compSc_of (N := ["_law_script", "_law_k", "_law_bag_here", "_law_case_here", "_law_size", "_law_met"]) (sc := defScope s_law) (Nc := ["_law_name_here", "_law_case_here", "_law_size", "_law_met"]) (js := [none, some 3, some 4, some 5]) rfl rfl (by decide +kernel)) (fun pins_ fp_ H_ s_ C_ => ⟨(dgname (i := 0) (.inr rfl) (show (["_law_name_here", "_law_case_here", "_law_size", "_law_met"] : List Str).Nodup by decide +kernel) rfl (Or.inl rfl) (.inl ⟨rfl, rfl⟩)), dif0, (fclx (by rfl) (by decide) G_d_law_good rfl (hr.mono (by decide)) (by rfl) T.m_d_law_good T.k_d_law_good T.b_d_law_good pass0 rfl (.inl rfl) (dax_there rfl (dv 1) (dax_there rfl (dv 2) (dax_there rfl (dv 0) (dax_here (i := 3) rfl (by first | exact Or.inl rfl | exact Or.inr (Or.inl rfl) | exact Or.inr (Or.inr rfl)) (by decide) (by decide) (fanil (pu := true)))))))⟩))) fanil)))) (dsone (dret dbl)) dsnil)
      (dsone (dif (dtnot (dtval (by intro _; rfl) (fclL (by rfl) (by decide) (by decide) G_d_law_rest_good rfl rfl (hr.mono (by decide)) (by rfl) T.m_d_law_rest_good T.k_d_law_rest_good T.b_d_law_rest_good pass0 (facL rfl (DE.loose (dv 3)) (facL rfl (DE.loose (dv 4)) (facL rfl (dvl 5) fanilL)))))) (dsone (dret dbl)) dsnil))))))))
      (dsone (dret dbl)))) body_law
end
theorem us1 {P : List Value → Prop} (h : ∀ a0, P [a0]) : ∀ us : List Value, us.length = 1 → P us
  | [a0], _ => h a0
theorem us2 {P : List Value → Prop} (h : ∀ a0 a1, P [a0, a1]) : ∀ us : List Value, us.length = 2 → P us
  | [a0, a1], _ => h a0 a1
theorem us3 {P : List Value → Prop} (h : ∀ a0 a1 a2, P [a0, a1, a2]) : ∀ us : List Value, us.length = 3 → P us
  | [a0, a1, a2], _ => h a0 a1 a2
theorem us4 {P : List Value → Prop} (h : ∀ a0 a1 a2 a3, P [a0, a1, a2, a3]) : ∀ us : List Value, us.length = 4 → P us
  | [a0, a1, a2, a3], _ => h a0 a1 a2 a3
noncomputable def LawD (t : Adr) : Prop := ∃ (kV dc pm : Value) (an : Option Addr) (cd ct : Value), t.d_law = PySem.W.fnOf "law" "law" (defArgs s_law) (defBody s_law) (defScope s_law) .none kV dc pm an cd ct
theorem txt_mk {w : World} {K : PySem.W.Frag} {h : Heap} {mg : Str → Option Value} {f0 f1 f2 f3 f4 f5 f6 f7 f8 f9 f10 f11 f12 f13 f14 f15 f16 f17 f18 f19 f20 f21 f22 f23 f24 f25 f26 f27 f28 f29 f30 f31 : Addr} (X : K.In h) (G : h.Ns mainGlobals mg)
    {od0 an0 : Option Addr} {sl0 : Array (Option Value)} {oc0 kV0 dc0 pm0 cd0 ct0 : Value}
    {od1 an1 : Option Addr} {sl1 : Array (Option Value)} {oc1 kV1 dc1 pm1 cd1 ct1 : Value}
    {od2 an2 : Option Addr} {sl2 : Array (Option Value)} {oc2 kV2 dc2 pm2 cd2 ct2 : Value}
    {od3 an3 : Option Addr} {sl3 : Array (Option Value)} {oc3 kV3 dc3 pm3 cd3 ct3 : Value}
    {od4 an4 : Option Addr} {sl4 : Array (Option Value)} {oc4 kV4 dc4 pm4 cd4 ct4 : Value}
    {od5 an5 : Option Addr} {sl5 : Array (Option Value)} {oc5 kV5 dc5 pm5 cd5 ct5 : Value}
    {od6 an6 : Option Addr} {sl6 : Array (Option Value)} {oc6 kV6 dc6 pm6 cd6 ct6 : Value}
    {od7 an7 : Option Addr} {sl7 : Array (Option Value)} {oc7 kV7 dc7 pm7 cd7 ct7 : Value}
    {od8 an8 : Option Addr} {sl8 : Array (Option Value)} {oc8 kV8 dc8 pm8 cd8 ct8 : Value}
    {od9 an9 : Option Addr} {sl9 : Array (Option Value)} {oc9 kV9 dc9 pm9 cd9 ct9 : Value}
    {od10 an10 : Option Addr} {sl10 : Array (Option Value)} {oc10 kV10 dc10 pm10 cd10 ct10 : Value}
    {od11 an11 : Option Addr} {sl11 : Array (Option Value)} {oc11 kV11 dc11 pm11 cd11 ct11 : Value}
    {od12 an12 : Option Addr} {sl12 : Array (Option Value)} {oc12 kV12 dc12 pm12 cd12 ct12 : Value}
    {od13 an13 : Option Addr} {sl13 : Array (Option Value)} {oc13 kV13 dc13 pm13 cd13 ct13 : Value}
    {od14 an14 : Option Addr} {sl14 : Array (Option Value)} {oc14 kV14 dc14 pm14 cd14 ct14 : Value}
    {od15 an15 : Option Addr} {sl15 : Array (Option Value)} {oc15 kV15 dc15 pm15 cd15 ct15 : Value}
    {od16 an16 : Option Addr} {sl16 : Array (Option Value)} {oc16 kV16 dc16 pm16 cd16 ct16 : Value}
    {od17 an17 : Option Addr} {sl17 : Array (Option Value)} {oc17 kV17 dc17 pm17 cd17 ct17 : Value}
    {od18 an18 : Option Addr} {sl18 : Array (Option Value)} {oc18 kV18 dc18 pm18 cd18 ct18 : Value}
    {od19 an19 : Option Addr} {sl19 : Array (Option Value)} {oc19 kV19 dc19 pm19 cd19 ct19 : Value}
    {od20 an20 : Option Addr} {sl20 : Array (Option Value)} {oc20 kV20 dc20 pm20 cd20 ct20 : Value}
    {od21 an21 : Option Addr} {sl21 : Array (Option Value)} {oc21 kV21 dc21 pm21 cd21 ct21 : Value}
    {od22 an22 : Option Addr} {sl22 : Array (Option Value)} {oc22 kV22 dc22 pm22 cd22 ct22 : Value}
    {od23 an23 : Option Addr} {sl23 : Array (Option Value)} {oc23 kV23 dc23 pm23 cd23 ct23 : Value}
    {od24 an24 : Option Addr} {sl24 : Array (Option Value)} {oc24 kV24 dc24 pm24 cd24 ct24 : Value}
    {od25 an25 : Option Addr} {sl25 : Array (Option Value)} {oc25 kV25 dc25 pm25 cd25 ct25 : Value}
    {od26 an26 : Option Addr} {sl26 : Array (Option Value)} {oc26 kV26 dc26 pm26 cd26 ct26 : Value}
    {od27 an27 : Option Addr} {sl27 : Array (Option Value)} {oc27 kV27 dc27 pm27 cd27 ct27 : Value}
    {od28 an28 : Option Addr} {sl28 : Array (Option Value)} {oc28 kV28 dc28 pm28 cd28 ct28 : Value}
    {od29 an29 : Option Addr} {sl29 : Array (Option Value)} {oc29 kV29 dc29 pm29 cd29 ct29 : Value}
    {od30 an30 : Option Addr} {sl30 : Array (Option Value)} {oc30 kV30 dc30 pm30 cd30 ct30 : Value}
    {od31 an31 : Option Addr} {sl31 : Array (Option Value)} {oc31 kV31 dc31 pm31 cd31 ct31 : Value}
    {tk0 : Tok}
    {tk4 : Tok}
    {tk5 : Tok}
    {tk6 : Tok}
    {tk7 : Tok}
    (a0 : PySem.W.nsIn K mainGlobals "is_whole" = some (some (.ref f0))) (l0 : K.lookup f0 = some ⟨oc0, od0, .func (PySem.W.fnOf "is_whole" "is_whole" (defArgs s_is_whole) (defBody s_is_whole) (defScope s_is_whole) .none kV0 dc0 pm0 an0 cd0 ct0), sl0⟩) (c0 : PySem.W.codeIn K cd0 "is_whole" = true) (k0 : PySem.W.keepIn K (.ref f0) = true)
    (a1 : PySem.W.nsIn K mainGlobals "is_whole_within" = some (some (.ref f1))) (l1 : K.lookup f1 = some ⟨oc1, od1, .func (PySem.W.fnOf "is_whole_within" "is_whole_within" (defArgs s_is_whole_within) (defBody s_is_whole_within) (defScope s_is_whole_within) .none kV1 dc1 pm1 an1 cd1 ct1), sl1⟩) (c1 : PySem.W.codeIn K cd1 "is_whole_within" = true) (k1 : PySem.W.keepIn K (.ref f1) = true)
    (a2 : PySem.W.nsIn K mainGlobals "is_cam" = some (some (.ref f2))) (l2 : K.lookup f2 = some ⟨oc2, od2, .func (PySem.W.fnOf "is_cam" "is_cam" (defArgs s_is_cam) (defBody s_is_cam) (defScope s_is_cam) .none kV2 dc2 pm2 an2 cd2 ct2), sl2⟩) (c2 : PySem.W.codeIn K cd2 "is_cam" = true) (k2 : PySem.W.keepIn K (.ref f2) = true)
    (a3 : PySem.W.nsIn K mainGlobals "is_place" = some (some (.ref f3))) (l3 : K.lookup f3 = some ⟨oc3, od3, .func (PySem.W.fnOf "is_place" "is_place" (defArgs s_is_place) (defBody s_is_place) (defScope s_is_place) .none kV3 dc3 pm3 an3 cd3 ct3), sl3⟩) (c3 : PySem.W.codeIn K cd3 "is_place" = true) (k3 : PySem.W.keepIn K (.ref f3) = true)
    (a4 : PySem.W.nsIn K mainGlobals "is_letter_sign" = some (some (.ref f4))) (l4 : K.lookup f4 = some ⟨oc4, od4, .func (PySem.W.fnOf "is_letter_sign" "is_letter_sign" (defArgs s_is_letter_sign) (defBody s_is_letter_sign) (defScope s_is_letter_sign) .none kV4 dc4 pm4 an4 cd4 ct4), sl4⟩) (c4 : PySem.W.codeIn K cd4 "is_letter_sign" = true) (k4 : PySem.W.keepIn K (.ref f4) = true)
    (a5 : PySem.W.nsIn K mainGlobals "is_blank_sign" = some (some (.ref f5))) (l5 : K.lookup f5 = some ⟨oc5, od5, .func (PySem.W.fnOf "is_blank_sign" "is_blank_sign" (defArgs s_is_blank_sign) (defBody s_is_blank_sign) (defScope s_is_blank_sign) .none kV5 dc5 pm5 an5 cd5 ct5), sl5⟩) (c5 : PySem.W.codeIn K cd5 "is_blank_sign" = true) (k5 : PySem.W.keepIn K (.ref f5) = true)
    (a6 : PySem.W.nsIn K mainGlobals "is_step_sign" = some (some (.ref f6))) (l6 : K.lookup f6 = some ⟨oc6, od6, .func (PySem.W.fnOf "is_step_sign" "is_step_sign" (defArgs s_is_step_sign) (defBody s_is_step_sign) (defScope s_is_step_sign) .none kV6 dc6 pm6 an6 cd6 ct6), sl6⟩) (c6 : PySem.W.codeIn K cd6 "is_step_sign" = true) (k6 : PySem.W.keepIn K (.ref f6) = true)
    (a7 : PySem.W.nsIn K mainGlobals "is_sign" = some (some (.ref f7))) (l7 : K.lookup f7 = some ⟨oc7, od7, .func (PySem.W.fnOf "is_sign" "is_sign" (defArgs s_is_sign) (defBody s_is_sign) (defScope s_is_sign) .none kV7 dc7 pm7 an7 cd7 ct7), sl7⟩) (c7 : PySem.W.codeIn K cd7 "is_sign" = true) (k7 : PySem.W.keepIn K (.ref f7) = true)
    (a8 : PySem.W.nsIn K mainGlobals "hole_of" = some (some (.ref f8))) (l8 : K.lookup f8 = some ⟨oc8, od8, .func (PySem.W.fnOf "hole_of" "hole_of" (defArgs s_hole_of) (defBody s_hole_of) (defScope s_hole_of) .none kV8 dc8 pm8 an8 cd8 ct8), sl8⟩) (c8 : PySem.W.codeIn K cd8 "hole_of" = true) (k8 : PySem.W.keepIn K (.ref f8) = true)
    (a9 : PySem.W.nsIn K mainGlobals "place_holes" = some (some (.ref f9))) (l9 : K.lookup f9 = some ⟨oc9, od9, .func (PySem.W.fnOf "place_holes" "place_holes" (defArgs s_place_holes) (defBody s_place_holes) (defScope s_place_holes) .none kV9 dc9 pm9 an9 cd9 ct9), sl9⟩) (c9 : PySem.W.codeIn K cd9 "place_holes" = true) (k9 : PySem.W.keepIn K (.ref f9) = true)
    (a10 : PySem.W.nsIn K mainGlobals "step_holes" = some (some (.ref f10))) (l10 : K.lookup f10 = some ⟨oc10, od10, .func (PySem.W.fnOf "step_holes" "step_holes" (defArgs s_step_holes) (defBody s_step_holes) (defScope s_step_holes) .none kV10 dc10 pm10 an10 cd10 ct10), sl10⟩) (c10 : PySem.W.codeIn K cd10 "step_holes" = true) (k10 : PySem.W.keepIn K (.ref f10) = true)
    (a11 : PySem.W.nsIn K mainGlobals "cam_marks" = some (some (.ref f11))) (l11 : K.lookup f11 = some ⟨oc11, od11, .func (PySem.W.fnOf "cam_marks" "cam_marks" (defArgs s_cam_marks) (defBody s_cam_marks) (defScope s_cam_marks) .none kV11 dc11 pm11 an11 cd11 ct11), sl11⟩) (c11 : PySem.W.codeIn K cd11 "cam_marks" = true) (k11 : PySem.W.keepIn K (.ref f11) = true)
    (a12 : PySem.W.nsIn K mainGlobals "strike" = some (some (.ref f12))) (l12 : K.lookup f12 = some ⟨oc12, od12, .func (PySem.W.fnOf "strike" "strike" (defArgs s_strike) (defBody s_strike) (defScope s_strike) .none kV12 dc12 pm12 an12 cd12 ct12), sl12⟩) (c12 : PySem.W.codeIn K cd12 "strike" = true) (k12 : PySem.W.keepIn K (.ref f12) = true)
    (a13 : PySem.W.nsIn K mainGlobals "is_row_of_holes" = some (some (.ref f13))) (l13 : K.lookup f13 = some ⟨oc13, od13, .func (PySem.W.fnOf "is_row_of_holes" "is_row_of_holes" (defArgs s_is_row_of_holes) (defBody s_is_row_of_holes) (defScope s_is_row_of_holes) .none kV13 dc13 pm13 an13 cd13 ct13), sl13⟩) (c13 : PySem.W.codeIn K cd13 "is_row_of_holes" = true) (k13 : PySem.W.keepIn K (.ref f13) = true)
    (a14 : PySem.W.nsIn K mainGlobals "first_between" = some (some (.ref f14))) (l14 : K.lookup f14 = some ⟨oc14, od14, .func (PySem.W.fnOf "first_between" "first_between" (defArgs s_first_between) (defBody s_first_between) (defScope s_first_between) .none kV14 dc14 pm14 an14 cd14 ct14), sl14⟩) (c14 : PySem.W.codeIn K cd14 "first_between" = true) (k14 : PySem.W.keepIn K (.ref f14) = true)
    (a15 : PySem.W.nsIn K mainGlobals "likely_sign" = some (some (.ref f15))) (l15 : K.lookup f15 = some ⟨oc15, od15, .func (PySem.W.fnOf "likely_sign" "likely_sign" (defArgs s_likely_sign) (defBody s_likely_sign) (defScope s_likely_sign) .none kV15 dc15 pm15 an15 cd15 ct15), sl15⟩) (c15 : PySem.W.codeIn K cd15 "likely_sign" = true) (k15 : PySem.W.keepIn K (.ref f15) = true)
    (a16 : PySem.W.nsIn K mainGlobals "read_holes" = some (some (.ref f16))) (l16 : K.lookup f16 = some ⟨oc16, od16, .func (PySem.W.fnOf "read_holes" "read_holes" (defArgs s_read_holes) (defBody s_read_holes) (defScope s_read_holes) .none kV16 dc16 pm16 an16 cd16 ct16), sl16⟩) (c16 : PySem.W.codeIn K cd16 "read_holes" = true) (k16 : PySem.W.keepIn K (.ref f16) = true)
    (a17 : PySem.W.nsIn K mainGlobals "filled_cells" = some (some (.ref f17))) (l17 : K.lookup f17 = some ⟨oc17, od17, .func (PySem.W.fnOf "filled_cells" "filled_cells" (defArgs s_filled_cells) (defBody s_filled_cells) (defScope s_filled_cells) .none kV17 dc17 pm17 an17 cd17 ct17), sl17⟩) (c17 : PySem.W.codeIn K cd17 "filled_cells" = true) (k17 : PySem.W.keepIn K (.ref f17) = true)
    (a18 : PySem.W.nsIn K mainGlobals "size_of" = some (some (.ref f18))) (l18 : K.lookup f18 = some ⟨oc18, od18, .func (PySem.W.fnOf "size_of" "size_of" (defArgs s_size_of) (defBody s_size_of) (defScope s_size_of) .none kV18 dc18 pm18 an18 cd18 ct18), sl18⟩) (c18 : PySem.W.codeIn K cd18 "size_of" = true) (k18 : PySem.W.keepIn K (.ref f18) = true)
    (a19 : PySem.W.nsIn K mainGlobals "names_in" = some (some (.ref f19))) (l19 : K.lookup f19 = some ⟨oc19, od19, .func (PySem.W.fnOf "names_in" "names_in" (defArgs s_names_in) (defBody s_names_in) (defScope s_names_in) .none kV19 dc19 pm19 an19 cd19 ct19), sl19⟩) (c19 : PySem.W.codeIn K cd19 "names_in" = true) (k19 : PySem.W.keepIn K (.ref f19) = true)
    (a20 : PySem.W.nsIn K mainGlobals "filled_cell_of" = some (some (.ref f20))) (l20 : K.lookup f20 = some ⟨oc20, od20, .func (PySem.W.fnOf "filled_cell_of" "filled_cell_of" (defArgs s_filled_cell_of) (defBody s_filled_cell_of) (defScope s_filled_cell_of) .none kV20 dc20 pm20 an20 cd20 ct20), sl20⟩) (c20 : PySem.W.codeIn K cd20 "filled_cell_of" = true) (k20 : PySem.W.keepIn K (.ref f20) = true)
    (a21 : PySem.W.nsIn K mainGlobals "place_of" = some (some (.ref f21))) (l21 : K.lookup f21 = some ⟨oc21, od21, .func (PySem.W.fnOf "place_of" "place_of" (defArgs s_place_of) (defBody s_place_of) (defScope s_place_of) .none kV21 dc21 pm21 an21 cd21 ct21), sl21⟩) (c21 : PySem.W.codeIn K cd21 "place_of" = true) (k21 : PySem.W.keepIn K (.ref f21) = true)
    (a22 : PySem.W.nsIn K mainGlobals "sign_of_filled" = some (some (.ref f22))) (l22 : K.lookup f22 = some ⟨oc22, od22, .func (PySem.W.fnOf "sign_of_filled" "sign_of_filled" (defArgs s_sign_of_filled) (defBody s_sign_of_filled) (defScope s_sign_of_filled) .none kV22 dc22 pm22 an22 cd22 ct22), sl22⟩) (c22 : PySem.W.codeIn K cd22 "sign_of_filled" = true) (k22 : PySem.W.keepIn K (.ref f22) = true)
    (a23 : PySem.W.nsIn K mainGlobals "sign_of" = some (some (.ref f23))) (l23 : K.lookup f23 = some ⟨oc23, od23, .func (PySem.W.fnOf "sign_of" "sign_of" (defArgs s_sign_of) (defBody s_sign_of) (defScope s_sign_of) .none kV23 dc23 pm23 an23 cd23 ct23), sl23⟩) (c23 : PySem.W.codeIn K cd23 "sign_of" = true) (k23 : PySem.W.keepIn K (.ref f23) = true)
    (a24 : PySem.W.nsIn K mainGlobals "_law_cell" = some (some (.ref f24))) (l24 : K.lookup f24 = some ⟨oc24, od24, .func (PySem.W.fnOf "_law_cell" "_law_cell" (defArgs s_d_law_cell) (defBody s_d_law_cell) (defScope s_d_law_cell) .none kV24 dc24 pm24 an24 cd24 ct24), sl24⟩) (c24 : PySem.W.codeIn K cd24 "_law_cell" = true) (k24 : PySem.W.keepIn K (.ref f24) = true)
    (a25 : PySem.W.nsIn K mainGlobals "_law_bag" = some (some (.ref f25))) (l25 : K.lookup f25 = some ⟨oc25, od25, .func (PySem.W.fnOf "_law_bag" "_law_bag" (defArgs s_d_law_bag) (defBody s_d_law_bag) (defScope s_d_law_bag) .none kV25 dc25 pm25 an25 cd25 ct25), sl25⟩) (c25 : PySem.W.codeIn K cd25 "_law_bag" = true) (k25 : PySem.W.keepIn K (.ref f25) = true)
    (a26 : PySem.W.nsIn K mainGlobals "_law_take" = some (some (.ref f26))) (l26 : K.lookup f26 = some ⟨oc26, od26, .func (PySem.W.fnOf "_law_take" "_law_take" (defArgs s_d_law_take) (defBody s_d_law_take) (defScope s_d_law_take) .none kV26 dc26 pm26 an26 cd26 ct26), sl26⟩) (c26 : PySem.W.codeIn K cd26 "_law_take" = true) (k26 : PySem.W.keepIn K (.ref f26) = true)
    (a27 : PySem.W.nsIn K mainGlobals "_law_name" = some (some (.ref f27))) (l27 : K.lookup f27 = some ⟨oc27, od27, .func (PySem.W.fnOf "_law_name" "_law_name" (defArgs s_d_law_name) (defBody s_d_law_name) (defScope s_d_law_name) .none kV27 dc27 pm27 an27 cd27 ct27), sl27⟩) (c27 : PySem.W.codeIn K cd27 "_law_name" = true) (k27 : PySem.W.keepIn K (.ref f27) = true)
    (a28 : PySem.W.nsIn K mainGlobals "_law_case" = some (some (.ref f28))) (l28 : K.lookup f28 = some ⟨oc28, od28, .func (PySem.W.fnOf "_law_case" "_law_case" (defArgs s_d_law_case) (defBody s_d_law_case) (defScope s_d_law_case) .none kV28 dc28 pm28 an28 cd28 ct28), sl28⟩) (c28 : PySem.W.codeIn K cd28 "_law_case" = true) (k28 : PySem.W.keepIn K (.ref f28) = true)
    (a29 : PySem.W.nsIn K mainGlobals "_law_good" = some (some (.ref f29))) (l29 : K.lookup f29 = some ⟨oc29, od29, .func (PySem.W.fnOf "_law_good" "_law_good" (defArgs s_d_law_good) (defBody s_d_law_good) (defScope s_d_law_good) .none kV29 dc29 pm29 an29 cd29 ct29), sl29⟩) (c29 : PySem.W.codeIn K cd29 "_law_good" = true) (k29 : PySem.W.keepIn K (.ref f29) = true)
    (a30 : PySem.W.nsIn K mainGlobals "_law_rest_good" = some (some (.ref f30))) (l30 : K.lookup f30 = some ⟨oc30, od30, .func (PySem.W.fnOf "_law_rest_good" "_law_rest_good" (defArgs s_d_law_rest_good) (defBody s_d_law_rest_good) (defScope s_d_law_rest_good) .none kV30 dc30 pm30 an30 cd30 ct30), sl30⟩) (c30 : PySem.W.codeIn K cd30 "_law_rest_good" = true) (k30 : PySem.W.keepIn K (.ref f30) = true)
    (a31 : PySem.W.nsIn K mainGlobals "law" = some (some (.ref f31))) (l31 : K.lookup f31 = some ⟨oc31, od31, .func (PySem.W.fnOf "law" "law" (defArgs s_law) (defBody s_law) (defScope s_law) .none kV31 dc31 pm31 an31 cd31 ct31), sl31⟩) (c31 : PySem.W.codeIn K cd31 "law" = true) (k31 : PySem.W.keepIn K (.ref f31) = true)
    (z_abs : PySem.W.nsIn K mainGlobals "abs" = some none)
    (z_all : PySem.W.nsIn K mainGlobals "all" = some none)
    (z_bool : PySem.W.nsIn K mainGlobals "bool" = some none)
    (z_enumerate : PySem.W.nsIn K mainGlobals "enumerate" = some none)
    (z_int : PySem.W.nsIn K mainGlobals "int" = some none)
    (z_isinstance : PySem.W.nsIn K mainGlobals "isinstance" = some none)
    (z_len : PySem.W.nsIn K mainGlobals "len" = some none)
    (z_max : PySem.W.nsIn K mainGlobals "max" = some none)
    (z_min : PySem.W.nsIn K mainGlobals "min" = some none)
    (z_range : PySem.W.nsIn K mainGlobals "range" = some none)
    (z_sorted : PySem.W.nsIn K mainGlobals "sorted" = some none)
    (z_tuple : PySem.W.nsIn K mainGlobals "tuple" = some none)
    (z_zip : PySem.W.nsIn K mainGlobals "zip" = some none)
    (q_BLANK : PySem.W.nsIn K mainGlobals "BLANK" = some (some (.str " " tk0)))
    {ax1 : Addr} {ox1 : Option Addr} {nx1 : Nat} {sx1 : Array (Option Value)} {tk1_0 : Tok}
    (q_BLANK_MARKS : PySem.W.nsIn K mainGlobals "BLANK_MARKS" = some (some (.ref ax1))) (lx_BLANK_MARKS : K.lookup ax1 = some ⟨.type "tuple", ox1, .seq #[.int (28) tk1_0] nx1, sx1⟩)
    {ax2 : Addr} {ox2 : Option Addr} {nx2 : Nat} {sx2 : Array (Option Value)} {tk2_0 tk2_1 : Tok}
    (q_COARSE_MARKS : PySem.W.nsIn K mainGlobals "COARSE_MARKS" = some (some (.ref ax2))) (lx_COARSE_MARKS : K.lookup ax2 = some ⟨.type "tuple", ox2, .seq #[.int (28) tk2_0, .int (29) tk2_1] nx2, sx2⟩)
    {ax3 : Addr} {ox3 : Option Addr} {nx3 : Nat} {sx3 : Array (Option Value)} {tk3_0 tk3_1 : Tok}
    (q_FINE_MARKS : PySem.W.nsIn K mainGlobals "FINE_MARKS" = some (some (.ref ax3))) (lx_FINE_MARKS : K.lookup ax3 = some ⟨.type "tuple", ox3, .seq #[.int (28) tk3_0, .int (30) tk3_1] nx3, sx3⟩)
    (q_FIRST_MARK : PySem.W.nsIn K mainGlobals "FIRST_MARK" = some (some (.int 28 tk4)))
    (q_FIRST_ROW_HOLE : PySem.W.nsIn K mainGlobals "FIRST_ROW_HOLE" = some (some (.int 14 tk5)))
    (q_LAST_HOLE : PySem.W.nsIn K mainGlobals "LAST_HOLE" = some (some (.int 30 tk6)))
    (q_LAST_STEP : PySem.W.nsIn K mainGlobals "LAST_STEP" = some (some (.int 14 tk7)))
    {ax8 : Addr} {ox8 : Option Addr} {nx8 : Nat} {sx8 : Array (Option Value)} {tk8_0 : Tok}
    (q_NARROWER_MARKS : PySem.W.nsIn K mainGlobals "NARROWER_MARKS" = some (some (.ref ax8))) (lx_NARROWER_MARKS : K.lookup ax8 = some ⟨.type "tuple", ox8, .seq #[.int (30) tk8_0] nx8, sx8⟩)
    {ax9 : Addr} {ox9 : Option Addr} {nx9 : Nat} {sx9 : Array (Option Value)} {tk9_0 tk9_1 tk9_2 : Tok}
    (q_STRUCK_MARKS : PySem.W.nsIn K mainGlobals "STRUCK_MARKS" = some (some (.ref ax9))) (lx_STRUCK_MARKS : K.lookup ax9 = some ⟨.type "tuple", ox9, .seq #[.int (28) tk9_0, .int (29) tk9_1, .int (30) tk9_2] nx9, sx9⟩)
    {ax10 : Addr} {ox10 : Option Addr} {nx10 : Nat} {sx10 : Array (Option Value)} {tk10_0 : Tok}
    (q_WIDER_MARKS : PySem.W.nsIn K mainGlobals "WIDER_MARKS" = some (some (.ref ax10))) (lx_WIDER_MARKS : K.lookup ax10 = some ⟨.type "tuple", ox10, .seq #[.int (29) tk10_0] nx10, sx10⟩) :
    ∃ t : Adr, Txt K mg t ∧ LawD t := by
  have F0 := fun_mk (st := s_is_whole) l0 c0 k0
  have F1 := fun_mk (st := s_is_whole_within) l1 c1 k1
  have F2 := fun_mk (st := s_is_cam) l2 c2 k2
  have F3 := fun_mk (st := s_is_place) l3 c3 k3
  have F4 := fun_mk (st := s_is_letter_sign) l4 c4 k4
  have F5 := fun_mk (st := s_is_blank_sign) l5 c5 k5
  have F6 := fun_mk (st := s_is_step_sign) l6 c6 k6
  have F7 := fun_mk (st := s_is_sign) l7 c7 k7
  have F8 := fun_mk (st := s_hole_of) l8 c8 k8
  have F9 := fun_mk (st := s_place_holes) l9 c9 k9
  have F10 := fun_mk (st := s_step_holes) l10 c10 k10
  have F11 := fun_mk (st := s_cam_marks) l11 c11 k11
  have F12 := fun_mk (st := s_strike) l12 c12 k12
  have F13 := fun_mk (st := s_is_row_of_holes) l13 c13 k13
  have F14 := fun_mk (st := s_first_between) l14 c14 k14
  have F15 := fun_mk (st := s_likely_sign) l15 c15 k15
  have F16 := fun_mk (st := s_read_holes) l16 c16 k16
  have F17 := fun_mk (st := s_filled_cells) l17 c17 k17
  have F18 := fun_mk (st := s_size_of) l18 c18 k18
  have F19 := fun_mk (st := s_names_in) l19 c19 k19
  have F20 := fun_mk (st := s_filled_cell_of) l20 c20 k20
  have F21 := fun_mk (st := s_place_of) l21 c21 k21
  have F22 := fun_mk (st := s_sign_of_filled) l22 c22 k22
  have F23 := fun_mk (st := s_sign_of) l23 c23 k23
  have F24 := fun_mk (st := s_d_law_cell) l24 c24 k24
  have F25 := fun_mk (st := s_d_law_bag) l25 c25 k25
  have F26 := fun_mk (st := s_d_law_take) l26 c26 k26
  have F27 := fun_mk (st := s_d_law_name) l27 c27 k27
  have F28 := fun_mk (st := s_d_law_case) l28 c28 k28
  have F29 := fun_mk (st := s_d_law_good) l29 c29 k29
  have F30 := fun_mk (st := s_d_law_rest_good) l30 c30 k30
  have F31 := fun_mk (st := s_law) l31 c31 k31
  refine ⟨⟨f0, _, f1, _, f2, _, f3, _, f4, _, f5, _, f6, _, f7, _, f8, _, f9, _, f10, _, f11, _, f12, _, f13, _, f14, _, f15, _, f16, _, f17, _, f18, _, f19, _, f20, _, f21, _, f22, _, f23, _, f24, _, f25, _, f26, _, f27, _, f28, _, f29, _, f30, _, f31, _⟩, ⟨
    F0, PySem.W.mg_of X G a0, k0, F0.binds (ps := ["thing"]) fun _ _ _ _ _ _ => us1 fun _ => rfl,
    F1, PySem.W.mg_of X G a1, k1, F1.binds (ps := ["thing", "least", "greatest"]) fun _ _ _ _ _ _ => us3 fun _ _ _ => rfl,
    F2, PySem.W.mg_of X G a2, k2, F2.binds (ps := ["thing"]) fun _ _ _ _ _ _ => us1 fun _ => rfl,
    F3, PySem.W.mg_of X G a3, k3, F3.binds (ps := ["size", "column", "row"]) fun _ _ _ _ _ _ => us3 fun _ _ _ => rfl,
    F4, PySem.W.mg_of X G a4, k4, F4.binds (ps := ["size", "thing"]) fun _ _ _ _ _ _ => us2 fun _ _ => rfl,
    F5, PySem.W.mg_of X G a5, k5, F5.binds (ps := ["size", "thing"]) fun _ _ _ _ _ _ => us2 fun _ _ => rfl,
    F6, PySem.W.mg_of X G a6, k6, F6.binds (ps := ["thing"]) fun _ _ _ _ _ _ => us1 fun _ => rfl,
    F7, PySem.W.mg_of X G a7, k7, F7.binds (ps := ["size", "thing"]) fun _ _ _ _ _ _ => us2 fun _ _ => rfl,
    F8, PySem.W.mg_of X G a8, k8, F8.binds (ps := ["number", "last", "first_hole"]) fun _ _ _ _ _ _ => us3 fun _ _ _ => rfl,
    F9, PySem.W.mg_of X G a9, k9, F9.binds (ps := ["size", "column", "row"]) fun _ _ _ _ _ _ => us3 fun _ _ _ => rfl,
    F10, PySem.W.mg_of X G a10, k10, F10.binds (ps := ["step"]) fun _ _ _ _ _ _ => us1 fun _ => rfl,
    F11, PySem.W.mg_of X G a11, k11, F11.binds (ps := ["cam"]) fun _ _ _ _ _ _ => us1 fun _ => rfl,
    F12, PySem.W.mg_of X G a12, k12, F12.binds (ps := ["size", "sign"]) fun _ _ _ _ _ _ => us2 fun _ _ => rfl,
    F13, PySem.W.mg_of X G a13, k13, F13.binds (ps := ["thing"]) fun _ _ _ _ _ _ => us1 fun _ => rfl,
    F14, PySem.W.mg_of X G a14, k14, F14.binds (ps := ["holes", "low", "high", "last"]) fun _ _ _ _ _ _ => us4 fun _ _ _ _ => rfl,
    F15, PySem.W.mg_of X G a15, k15, F15.binds (ps := ["size", "holes"]) fun _ _ _ _ _ _ => us2 fun _ _ => rfl,
    F16, PySem.W.mg_of X G a16, k16, F16.binds (ps := ["size", "thing"]) fun _ _ _ _ _ _ => us2 fun _ _ => rfl,
    F17, PySem.W.mg_of X G a17, k17, F17.binds (ps := ["case"]) fun _ _ _ _ _ _ => us1 fun _ => rfl,
    F18, PySem.W.mg_of X G a18, k18, F18.binds (ps := ["case"]) fun _ _ _ _ _ _ => us1 fun _ => rfl,
    F19, PySem.W.mg_of X G a19, k19, F19.binds (ps := ["case"]) fun _ _ _ _ _ _ => us1 fun _ => rfl,
    F20, PySem.W.mg_of X G a20, k20, F20.binds (ps := ["case", "thing"]) fun _ _ _ _ _ _ => us2 fun _ _ => rfl,
    F21, PySem.W.mg_of X G a21, k21, F21.binds (ps := ["case", "thing"]) fun _ _ _ _ _ _ => us2 fun _ _ => rfl,
    F22, PySem.W.mg_of X G a22, k22, F22.binds (ps := ["filled"]) fun _ _ _ _ _ _ => us1 fun _ => rfl,
    F23, PySem.W.mg_of X G a23, k23, F23.binds (ps := ["case", "thing"]) fun _ _ _ _ _ _ => us2 fun _ _ => rfl,
    F24, PySem.W.mg_of X G a24, k24, F24.binds (ps := ["_law_script", "_law_k"]) fun _ _ _ _ _ _ => us2 fun _ _ => rfl,
    F25, PySem.W.mg_of X G a25, k25, F25.binds (ps := ["_law_script", "_law_at"]) fun _ _ _ _ _ _ => us2 fun _ _ => rfl,
    F26, PySem.W.mg_of X G a26, k26, F26.binds (ps := ["_law_bag_here", "_law_many"]) fun _ _ _ _ _ _ => us2 fun _ _ => rfl,
    F27, PySem.W.mg_of X G a27, k27, F27.binds (ps := ["_law_bag_here", "_law_letters"]) fun _ _ _ _ _ _ => us2 fun _ _ => rfl,
    F28, PySem.W.mg_of X G a28, k28, F28.binds (ps := ["_law_bag_here", "_law_great"]) fun _ _ _ _ _ _ => us2 fun _ _ => rfl,
    F29, PySem.W.mg_of X G a29, k29, F29.binds (ps := ["_law_case_here", "_law_size", "_law_name_here", "_law_met"]) fun _ _ _ _ _ _ => us4 fun _ _ _ _ => rfl,
    F30, PySem.W.mg_of X G a30, k30, F30.binds (ps := ["_law_case_here", "_law_size", "_law_met"]) fun _ _ _ _ _ _ => us3 fun _ _ _ => rfl,
    F31, PySem.W.mg_of X G a31, k31, F31.binds (ps := ["_law_script"]) fun _ _ _ _ _ _ => us1 fun _ => rfl,
    PySem.W.mg_none_of X G z_abs,
    PySem.W.mg_none_of X G z_all,
    PySem.W.mg_none_of X G z_bool,
    PySem.W.mg_none_of X G z_enumerate,
    PySem.W.mg_none_of X G z_int,
    PySem.W.mg_none_of X G z_isinstance,
    PySem.W.mg_none_of X G z_len,
    PySem.W.mg_none_of X G z_max,
    PySem.W.mg_none_of X G z_min,
    PySem.W.mg_none_of X G z_range,
    PySem.W.mg_none_of X G z_sorted,
    PySem.W.mg_none_of X G z_tuple,
    PySem.W.mg_none_of X G z_zip,
    ⟨_, PySem.W.mg_of X G q_BLANK⟩,
    ⟨_, PySem.W.mg_of X G q_BLANK_MARKS, _, _, _, lx_BLANK_MARKS, rfl, rfl, small_line (by show 1 ≤ 1000; decide), (.cons ⟨_, rfl⟩ .nil)⟩,
    ⟨_, PySem.W.mg_of X G q_COARSE_MARKS, _, _, _, lx_COARSE_MARKS, rfl, rfl, small_line (by show 2 ≤ 1000; decide), (.cons ⟨_, rfl⟩ (.cons ⟨_, rfl⟩ .nil))⟩,
    ⟨_, PySem.W.mg_of X G q_FINE_MARKS, _, _, _, lx_FINE_MARKS, rfl, rfl, small_line (by show 2 ≤ 1000; decide), (.cons ⟨_, rfl⟩ (.cons ⟨_, rfl⟩ .nil))⟩,
    ⟨_, PySem.W.mg_of X G q_FIRST_MARK⟩,
    ⟨_, PySem.W.mg_of X G q_FIRST_ROW_HOLE⟩,
    ⟨_, PySem.W.mg_of X G q_LAST_HOLE⟩,
    ⟨_, PySem.W.mg_of X G q_LAST_STEP⟩,
    ⟨_, PySem.W.mg_of X G q_NARROWER_MARKS, _, _, _, lx_NARROWER_MARKS, rfl, rfl, small_line (by show 1 ≤ 1000; decide), (.cons ⟨_, rfl⟩ .nil)⟩,
    ⟨_, PySem.W.mg_of X G q_STRUCK_MARKS, _, _, _, lx_STRUCK_MARKS, rfl, rfl, small_line (by show 3 ≤ 1000; decide), (.cons ⟨_, rfl⟩ (.cons ⟨_, rfl⟩ (.cons ⟨_, rfl⟩ .nil)))⟩,
    ⟨_, PySem.W.mg_of X G q_WIDER_MARKS, _, _, _, lx_WIDER_MARKS, rfl, rfl, small_line (by show 1 ≤ 1000; decide), (.cons ⟨_, rfl⟩ .nil)⟩⟩, _, _, _, _, _, _, rfl⟩
theorem walk {l : PySem.W.OpenLaw} {q : Program} {loose : List Str} {XP : (Str → Option Value) → Heap → Prop} {YP : World → Heap → Prop} {d : DefRec} {K : Params → PySem.W.Frag} (hn : l.most = some 63) (hdf : d.params.defaults = [])
    (hY : ∀ (w : World) (h : Heap), YP w h → (K w.params).In h)
    (F : ∀ (w : World) (mg : Str → Option Value) (fa : Addr) (h : Heap), (K w.params).In h → h.Ns mainGlobals mg → mg d.name = some (.ref fa) →
      ∃ fd : FuncData, (∀ (s : Shared) (u : Value), BindsTo s fd ⟨[u], []⟩ [("_law_script", u)]) ∧ ∀ base : Heap, (K w.params).In base → base.Ns mainGlobals mg → FnOk l.prog w (K w.params) mg base CX0 8 fa fd ["_law_script"] (spP (K w.params) 1 .cl sd_law)) :
    PySem.W.WalkO q loose XP YP l.row.toRowW d [] (fun f vs => PySem.call f vs) :=
  L2.walk_of (n := 63) (k := 8) (x := "_law_script") (CX := fun _ => CX0) (sp := fun w => spP (K w.params) 1 .cl sd_law) hn (by decide) hdf ⟨rfl, by decide, by decide⟩ hY F (fun _ _ a ns hl hO hS => spLaw hl hO hS) fun _ _ _ _ _ z => z
end Rc
open PySem PySem.W PyProof.Rows
set_option maxRecDepth 100000 in
set_option maxHeartbeats 0 in
theorem PySem.Challenge.cw_ribboncast_k10_whole_case_to_holes_holds : PySem.Challenge.rw_ribboncast_k10_whole_case_to_holes.Holds := by
  w_on; o_law; k_head; (case hw => w_witness2)
  k_fill
  refine Rc.walk (l := PySem.Challenge.rw_ribboncast_k10_whole_case_to_holes) rfl rfl (fun w h Y => PySem.W.kIn_of Y) ?F
  case F =>
    intro w mg fa h KX G hmg
    have T : ∃ t : Rc.Adr, Rc.Txt (L2.KOf KX) mg t ∧ Rc.LawD t := by
      dsimp only [L2.KOf]
      refine' Rc.txt_mk (w := w) KX G ?a0 ?l0 ?c0 ?k0 ?a1 ?l1 ?c1 ?k1 ?a2 ?l2 ?c2 ?k2 ?a3 ?l3 ?c3 ?k3 ?a4 ?l4 ?c4 ?k4 ?a5 ?l5 ?c5 ?k5 ?a6 ?l6 ?c6 ?k6 ?a7 ?l7 ?c7 ?k7 ?a8 ?l8 ?c8 ?k8 ?a9 ?l9 ?c9 ?k9 ?a10 ?l10 ?c10 ?k10 ?a11 ?l11 ?c11 ?k11 ?a12 ?l12 ?c12 ?k12 ?a13 ?l13 ?c13 ?k13 ?a14 ?l14 ?c14 ?k14 ?a15 ?l15 ?c15 ?k15 ?a16 ?l16 ?c16 ?k16 ?a17 ?l17 ?c17 ?k17 ?a18 ?l18 ?c18 ?k18 ?a19 ?l19 ?c19 ?k19 ?a20 ?l20 ?c20 ?k20 ?a21 ?l21 ?c21 ?k21 ?a22 ?l22 ?c22 ?k22 ?a23 ?l23 ?c23 ?k23 ?a24 ?l24 ?c24 ?k24 ?a25 ?l25 ?c25 ?k25 ?a26 ?l26 ?c26 ?k26 ?a27 ?l27 ?c27 ?k27 ?a28 ?l28 ?c28 ?k28 ?a29 ?l29 ?c29 ?k29 ?a30 ?l30 ?c30 ?k30 ?a31 ?l31 ?c31 ?k31 ?z_abs ?z_all ?z_bool ?z_enumerate ?z_int ?z_isinstance ?z_len ?z_max ?z_min ?z_range ?z_sorted ?z_tuple ?z_zip ?q_BLANK ?q_BLANK_MARKS ?lx_BLANK_MARKS ?q_COARSE_MARKS ?lx_COARSE_MARKS ?q_FINE_MARKS ?lx_FINE_MARKS ?q_FIRST_MARK ?q_FIRST_ROW_HOLE ?q_LAST_HOLE ?q_LAST_STEP ?q_NARROWER_MARKS ?lx_NARROWER_MARKS ?q_STRUCK_MARKS ?lx_STRUCK_MARKS ?q_WIDER_MARKS ?lx_WIDER_MARKS
      (case a0 => k_is)
      (case l0 => k_is)
      (case c0 => k_is)
      (case k0 => k_is)
      (case a1 => k_is)
      (case l1 => k_is)
      (case c1 => k_is)
      (case k1 => k_is)
      (case a2 => k_is)
      (case l2 => k_is)
      (case c2 => k_is)
      (case k2 => k_is)
      (case a3 => k_is)
      (case l3 => k_is)
      (case c3 => k_is)
      (case k3 => k_is)
      (case a4 => k_is)
      (case l4 => k_is)
      (case c4 => k_is)
      (case k4 => k_is)
      (case a5 => k_is)
      (case l5 => k_is)
      (case c5 => k_is)
      (case k5 => k_is)
      (case a6 => k_is)
      (case l6 => k_is)
      (case c6 => k_is)
      (case k6 => k_is)
      (case a7 => k_is)
      (case l7 => k_is)
      (case c7 => k_is)
      (case k7 => k_is)
      (case a8 => k_is)
      (case l8 => k_is)
      (case c8 => k_is)
      (case k8 => k_is)
      (case a9 => k_is)
      (case l9 => k_is)
      (case c9 => k_is)
      (case k9 => k_is)
      (case a10 => k_is)
      (case l10 => k_is)
      (case c10 => k_is)
      (case k10 => k_is)
      (case a11 => k_is)
      (case l11 => k_is)
      (case c11 => k_is)
      (case k11 => k_is)
      (case a12 => k_is)
      (case l12 => k_is)
      (case c12 => k_is)
      (case k12 => k_is)
      (case a13 => k_is)
      (case l13 => k_is)
      (case c13 => k_is)
      (case k13 => k_is)
      (case a14 => k_is)
      (case l14 => k_is)
      (case c14 => k_is)
      (case k14 => k_is)
      (case a15 => k_is)
      (case l15 => k_is)
      (case c15 => k_is)
      (case k15 => k_is)
      (case a16 => k_is)
      (case l16 => k_is)
      (case c16 => k_is)
      (case k16 => k_is)
      (case a17 => k_is)
      (case l17 => k_is)
      (case c17 => k_is)
      (case k17 => k_is)
      (case a18 => k_is)
      (case l18 => k_is)
      (case c18 => k_is)
      (case k18 => k_is)
      (case a19 => k_is)
      (case l19 => k_is)
      (case c19 => k_is)
      (case k19 => k_is)
      (case a20 => k_is)
      (case l20 => k_is)
      (case c20 => k_is)
      (case k20 => k_is)
      (case a21 => k_is)
      (case l21 => k_is)
      (case c21 => k_is)
      (case k21 => k_is)
      (case a22 => k_is)
      (case l22 => k_is)
      (case c22 => k_is)
      (case k22 => k_is)
      (case a23 => k_is)
      (case l23 => k_is)
      (case c23 => k_is)
      (case k23 => k_is)
      (case a24 => k_is)
      (case l24 => k_is)
      (case c24 => k_is)
      (case k24 => k_is)
      (case a25 => k_is)
      (case l25 => k_is)
      (case c25 => k_is)
      (case k25 => k_is)
      (case a26 => k_is)
      (case l26 => k_is)
      (case c26 => k_is)
      (case k26 => k_is)
      (case a27 => k_is)
      (case l27 => k_is)
      (case c27 => k_is)
      (case k27 => k_is)
      (case a28 => k_is)
      (case l28 => k_is)
      (case c28 => k_is)
      (case k28 => k_is)
      (case a29 => k_is)
      (case l29 => k_is)
      (case c29 => k_is)
      (case k29 => k_is)
      (case a30 => k_is)
      (case l30 => k_is)
      (case c30 => k_is)
      (case k30 => k_is)
      (case a31 => k_is)
      (case l31 => k_is)
      (case c31 => k_is)
      (case k31 => k_is)
      (case z_abs => k_is)
      (case z_all => k_is)
      (case z_bool => k_is)
      (case z_enumerate => k_is)
      (case z_int => k_is)
      (case z_isinstance => k_is)
      (case z_len => k_is)
      (case z_max => k_is)
      (case z_min => k_is)
      (case z_range => k_is)
      (case z_sorted => k_is)
      (case z_tuple => k_is)
      (case z_zip => k_is)
      (case q_BLANK => k_is)
      (case q_BLANK_MARKS => k_is)
      (case lx_BLANK_MARKS => k_is)
      (case q_COARSE_MARKS => k_is)
      (case lx_COARSE_MARKS => k_is)
      (case q_FINE_MARKS => k_is)
      (case lx_FINE_MARKS => k_is)
      (case q_FIRST_MARK => k_is)
      (case q_FIRST_ROW_HOLE => k_is)
      (case q_LAST_HOLE => k_is)
      (case q_LAST_STEP => k_is)
      (case q_NARROWER_MARKS => k_is)
      (case lx_NARROWER_MARKS => k_is)
      (case q_STRUCK_MARKS => k_is)
      (case lx_STRUCK_MARKS => k_is)
      (case q_WIDER_MARKS => k_is)
      (case lx_WIDER_MARKS => k_is)
    obtain ⟨t, T, _, _, _, _, _, _, e2⟩ := T
    dsimp only [L2.KOf] at T
    have e0 := hmg.symm.trans T.m_law
    cases e0
    refine ⟨t.d_law, fun s u => ?_, fun base _ _ => Rc.ok_law T⟩
    rw [e2]; exact .of_eq rfl
#print axioms PySem.Challenge.cw_ribboncast_k10_whole_case_to_holes_holds
