import PyProof.Rows.All
import Wide.All
import OpenK.AllK
import Wide.FinOn
import Lean
import PyProof.EqAt
import PyProof.EqKinds
import PyProof.TupleCall
import PyProof.ZipIter
import PyProof.TupleIter
import PyProof.CompUse
import KE.KRevIter
import KE.KIntText
import PyProof.FString
import PyProof.Rows.StrNews2
import PyProof.Rows.StrSplitCount
import PyProof.Rows.StrClose3
import KE.IntTextText
import PyProof.StrLawsTight
import PyProof.StationsW
import PyProof.PassesOwn
import PyProof.ExcInit
import PyProof.ExcBaseAll.ValueError
import PyProof.InstStoreFacts
import KE.KIsNot
import PyProof.ExcArgs
import PyProof.RulesAs
import KE.KEqDict
import KE.KSortTup
import KE.KSorted
import KE.LcSums
import KE.KListMore
import PyProof.NsDelKeeps
import PyProof.SetScanFacts
import PyProof.Rows.SetFrom
import PyProof.SetRoads
import PyProof.CollectWalk
import PyProof.DictValues
import PySem.Challenge.RW_foldlog_k28_whole_one_shortest_table
set_option maxHeartbeats 4000000
set_option Elab.async false
set_option linter.all false
set_option maxRecDepth 100000
namespace L2
open PySem PySem.Spec PyProof.Rows
noncomputable abbrev Key := Sum Int Str
noncomputable def keyIs : Key → Value → Bool
  | .inl k, v => Value.isInt k v
  | .inr x, v => Value.isStrOf x v
noncomputable def keyH (w : World) : Key → Int
  | .inl k => hashInt k
  | .inr x => hashStr w x
theorem keyIs_shape : ∀ {k : Key} {v : Value}, keyIs k v = true → (∃ i t, k = Sum.inl i ∧ v = Value.int i t) ∨ (∃ x t, k = Sum.inr x ∧ v = Value.str x t)
  | .inl i, v, h => by
    obtain ⟨t, e⟩ := Value.isInt_shape (k := i) (v := v) h
    exact .inl ⟨i, t, rfl, e⟩
  | .inr x, v, h => by
    obtain ⟨t, e⟩ := Value.isStrOf_shape (x := x) (v := v) h
    exact .inr ⟨x, t, rfl, e⟩
theorem key_ll (a b : Int) : decide ((Sum.inl a : Key) = Sum.inl b) = (a == b) := by
  by_cases e : a = b
  · subst e; simp
  · have h : ¬ (Sum.inl a : Key) = Sum.inl b := fun q => e (Sum.inl.inj q)
    rw [decide_eq_false h]
    exact (beq_eq_false_iff_ne.mpr e).symm
theorem key_rr (a b : Str) : decide ((Sum.inr a : Key) = Sum.inr b) = decide (a = b) := by
  by_cases e : a = b
  · subst e; simp
  · have h : ¬ (Sum.inr a : Key) = Sum.inr b := fun q => e (Sum.inr.inj q)
    rw [decide_eq_false h, decide_eq_false e]
theorem key_lr (a : Int) (b : Str) : decide ((Sum.inl a : Key) = Sum.inr b) = false := decide_eq_false (fun q => nomatch q)
theorem key_rl (a : Str) (b : Int) : decide ((Sum.inr a : Key) = Sum.inl b) = false := decide_eq_false (fun q => nomatch q)
noncomputable def mixKind (prog : Program) (w : World) : PySem.KeyKind prog w Key where
  is := keyIs
  hash := keyH w
  inj := fun v a b ha hb => by
    rcases keyIs_shape ha with ⟨i, t, rfl, rfl⟩ | ⟨x, t, rfl, rfl⟩
    · rcases keyIs_shape hb with ⟨j, u, rfl, e⟩ | ⟨y, u, rfl, e⟩
      · injection e with e1 _; rw [e1]
      · exact nomatch e
    · rcases keyIs_shape hb with ⟨j, u, rfl, e⟩ | ⟨y, u, rfl, e⟩
      · exact nomatch e
      · injection e with e1 _; rw [e1]
  byValue := fun k v h => by
    rcases keyIs_shape h with ⟨i, t, rfl, rfl⟩ | ⟨x, t, rfl, rfl⟩ <;> rfl
  pyHash := fun hv h => by
    rcases keyIs_shape hv with ⟨i, t, rfl, rfl⟩ | ⟨x, t, rfl, rfl⟩
    · exact wpAny_pyHash_int h
    · exact wpAny_pyHash_str h
  eqBool := fun hu hv h => by
    rcases keyIs_shape hu with ⟨i, t, rfl, rfl⟩ | ⟨x, t, rfl, rfl⟩
    · rcases keyIs_shape hv with ⟨j, u, rfl, rfl⟩ | ⟨y, u, rfl, rfl⟩
      · rw [key_ll] at h; exact wpAny_eqBool_int h
      · rw [key_lr] at h; exact SeqAt.EqAt.int_str i t y u _ _ _ _ h
    · rcases keyIs_shape hv with ⟨j, u, rfl, rfl⟩ | ⟨y, u, rfl, rfl⟩
      · rw [key_rl] at h; exact SeqAt.EqAt.str_int x t j u _ _ _ _ h
      · rw [key_rr] at h; exact wpAny_eqBool_str h
  «strs» := fun k x t v h => by
    rcases keyIs_shape h with ⟨i, u, rfl, e⟩ | ⟨y, u, rfl, e⟩
    · exact nomatch e
    · injection e with e1 _
      subst e1
      cases v <;> rfl
end L2
namespace L2
open PySem PySem.Spec PyProof.Rows
inductive V where
  | non | bl (b : Bool) | int (i : Int) | str (x : Str) | byt (b : Array UInt8) | flt (b : UInt64) | ref (a : Addr) | ty (n : String)
  deriving DecidableEq
noncomputable def RelV : V → Value → Prop
  | .non, u => u = Value.none
  | .bl b, u => u = Value.bool b
  | .int i, u => ∃ t, u = Value.int i t
  | .str x, u => ∃ t, u = Value.str x t
  | .byt b, u => ∃ t, u = Value.bytes b t
  | .flt b, u => ∃ t, u = Value.float b t
  | .ref a, u => u = Value.ref a
  | .ty n, u => u = Value.type n
noncomputable abbrev Vals : List V → List Value → Prop := Paired RelV
theorem Vals.length {xs : List V} {us : List Value} (r : Vals xs us) : xs.length = us.length := Paired.length r
theorem Vals.get : ∀ {xs : List V} {us : List Value} {i : Nat} {x : V}, Vals xs us → xs[i]? = some x → ∃ u, us[i]? = some u ∧ RelV x u
  | _, _, _, _, .nil, e => by simp at e
  | _, _, 0, _, .cons r _, e => by simp at e; subst e; exact ⟨_, rfl, r⟩
  | _, _, i + 1, x, .cons _ t, e => by
    obtain ⟨u, h1, h2⟩ := Vals.get (i := i) (x := x) t (by simpa using e)
    exact ⟨u, by simpa using h1, h2⟩
theorem Vals.set {x : V} {u : Value} (r : RelV x u) : ∀ {xs : List V} {us : List Value} (i : Nat), Vals xs us → Vals (xs.set i x) (us.set i u)
  | _, _, _, .nil => .nil
  | _, _, 0, .cons _ t => .cons r t
  | _, _, i + 1, .cons q t => .cons q (Vals.set r i t)
theorem Vals.append : ∀ {xs ys : List V} {us ws : List Value}, Vals xs us → Vals ys ws → Vals (xs ++ ys) (us ++ ws)
  | _, _, _, _, .nil, s => s
  | _, _, _, _, .cons r t, s => .cons r (Vals.append t s)
theorem Vals.take : ∀ {xs : List V} {us : List Value} (n : Nat), Vals xs us → Vals (xs.take n) (us.take n)
  | _, _, 0, _ => .nil
  | _, _, _ + 1, .nil => .nil
  | _, _, n + 1, .cons r t => .cons r (Vals.take n t)
theorem Vals.drop : ∀ {xs : List V} {us : List Value} (n : Nat), Vals xs us → Vals (xs.drop n) (us.drop n)
  | _, _, 0, r => r
  | _, _, _ + 1, .nil => .nil
  | _, _, n + 1, .cons _ t => Vals.drop n t
noncomputable def RelO : Option V → Option Value → Prop
  | some v, some u => RelV v u
  | none, none => True
  | _, _ => False
noncomputable def KV {κ : Type} : List (κ × V) → List (κ × Value) → Prop := Paired fun (p : κ × V) (q : κ × Value) => p.1 = q.1 ∧ RelV p.2 q.2
noncomputable def kV : Key → V
  | .inl i => .int i
  | .inr x => .str x
inductive HO where
    | lst (xs : List V)
    | tup (xs : List V)
    | dK (kvs : List (Key × V)) | dT (kvs : List (List Key × V))
    | set (S : Int → Bool) (n : Nat)
    | ins (C dx : Addr) (fs : List (Str × V))
    | own (x : Addr)
    | xd (fs : List (Str × V))
    | met (f x : Addr)
    | rng (lo hi : Int)
    | frz (o : Obj) (u : HO)
    | tbl (ps : Array Value)
    | ext (φ : Heap → Prop)
noncomputable abbrev Hp := Addr → Option HO
noncomputable def upd (H : Hp) (a : Addr) (o : HO) : Hp := fun b => if b = a then some o else H b
theorem upd_same {H : Hp} {a : Addr} {o : HO} : upd H a o a = some o := by unfold upd; rw [if_pos rfl]
theorem upd_ne {H : Hp} {a b : Addr} {o : HO} (h : b ≠ a) : upd H a o b = H b := by unfold upd; rw [if_neg h]
theorem ne_of {H : Hp} {a b : Addr} {o u : HO} (h : H a = some o) (h' : H b = some u) (d : o ≠ u) : a ≠ b := by
  intro e; subst e; rw [h] at h'; exact d (Option.some.inj h')
theorem ne_of_none {H : Hp} {a b : Addr} {o : HO} (h : H a = some o) (h' : H b = none) : a ≠ b := by
  intro e; subst e; rw [h] at h'; cases h'
section
variable (P : Program) (w : World)
noncomputable def ObjOk (H : Hp) (h : Heap) (a : Addr) : HO → Prop
  | .lst xs => xs.length ≤ sizeLine ∧ ∃ (its : List Value) (n : Nat), Vals xs its ∧ h.get? a = some { cls := .type "list", data := .seq its.toArray n }
  | .tup xs => xs.length ≤ sizeLine ∧ ∃ its : List Value, Vals xs its ∧ IsTup h a its.toArray
  | .dK kvs => kvs.length ≤ sizeLine ∧ (a == sysModules) = false ∧ ∃ vs, KV kvs vs ∧ h.DictOf (mixKind P w) a vs
  | .dT kvs => kvs.length ≤ sizeLine ∧ (a == sysModules) = false ∧ ∃ xs : List (List Key × Addr × Value),
      Paired (fun (p : List Key × V) (q : List Key × Addr × Value) => p.1 = q.1 ∧ H q.2.1 = some (.tup (p.1.map kV)) ∧ RelV p.2 q.2.2) kvs xs ∧
      ∃ o es ep, h.get? a = some o ∧ o.ExactDict ∧ o.data = .dict es ep ∧ es.toList = xs.map (entryOfKey (tupleKind (mixKind P w))) ∧ (xs.map (·.1)).Nodup
  | .set S n => h.SetOf (intKind P w) a S n
  | .ins C dx fs => H dx = some (.own a) ∧ fs.length ≤ 1000 ∧ dx ≠ a ∧ h.get? a = some (PySem.W.instObj C dx) ∧
      ∃ mA, h.Ns1 dx mA ∧ (∀ f, RelO (fs.lookup f) (mA f)) ∧ PySem.Within mA (fs.map (·.1))
  | .own _ => ∃ o, h.get? a = some o
  | .xd fs => ∃ mA, h.Ns1 a mA ∧ ∀ f, RelO (fs.lookup f) (mA f)
  | .rng lo hi => ∃ t u v, h.get? a = some { cls := .type "range", data := .fields #[.int lo t, .int hi u, .int 1 v] }
  | .frz o u => h.get? a = some o ∧ ObjOk H h a u
  | .tbl ps => h.get? a = some { cls := .none, data := .fields ps }
  | .met f x => h.get? a = some (PySem.W.methodObj (.ref f) (.ref x))
  | .ext φ => φ h ∧ (∃ o, h.get? a = some o) ∧ ∀ h1 h2 : Heap, φ h1 → (∀ o, h1.get? a = some o → h2.get? a = some o) → φ h2
noncomputable def HOk (H : Hp) (h : Heap) : Prop := ∀ a o, H a = some o → ObjOk P w H h a o
end
section
variable {P : Program} {w : World} {H H' : Hp} {h h' : Heap} {a : Addr} {o : HO}
theorem ObjOk.lt (x : ObjOk P w H h a o) : a < h.objs.size := by
  cases o with
  | lst xs => obtain ⟨_, _, _, _, e⟩ := x; exact Heap.lt_size e
  | tup xs => obtain ⟨_, _, _, p⟩ := x; exact p.lt
  | dK kvs => obtain ⟨_, _, _, _, o, _, _, e, _⟩ := x; exact Heap.lt_size e
  | dT kvs => obtain ⟨_, _, _, _, o, _, _, e, _⟩ := x; exact Heap.lt_size e
  | set S n => obtain ⟨o, _, _, _, e, _⟩ := x; exact Heap.lt_size e
  | ins C dx fs => obtain ⟨_, _, _, e, _⟩ := x; exact Heap.lt_size e
  | own y => obtain ⟨_, e⟩ := x; exact Heap.lt_size e
  | xd fs => obtain ⟨_, ⟨_, _, _, e, _⟩, _⟩ := x; exact Heap.lt_size e
  | rng lo hi => obtain ⟨_, _, _, e⟩ := x; exact Heap.lt_size e
  | frz ob u => obtain ⟨e, _⟩ := x; exact Heap.lt_size e
  | tbl ps => exact Heap.lt_size (show h.get? a = some _ from x)
  | met f y => exact Heap.lt_size (show h.get? a = some _ from x)
  | ext φ => obtain ⟨_, ⟨_, e⟩, _⟩ := x; exact Heap.lt_size e
theorem Paired.mapP {α β : Type} {F G : α → β → Prop} : ∀ {l₁ : List α} {l₂ : List β}, Paired F l₁ l₂ → (∀ a b, F a b → G a b) → Paired G l₁ l₂
  | _, _, .nil, _ => .nil
  | _, _, .cons r t, f => .cons (f _ _ r) (Paired.mapP t f)
theorem ObjOk.stay (x : ObjOk P w H h a o) (k : ∀ b u, (b = a ∨ H b = some (.own a)) → h.get? b = some u → h'.get? b = some u)
    (ho : ∀ b, H b = some (.own a) → H' b = some (.own a)) (ht : ∀ b xs, H b = some (.tup xs) → H' b = some (.tup xs)) : ObjOk P w H' h' a o := by
  induction o with
  | lst xs => obtain ⟨z, its, n, r, e⟩ := x; exact ⟨z, its, n, r, k _ _ (.inl rfl) e⟩
  | tup xs => obtain ⟨z, its, r, ob, e, c⟩ := x; exact ⟨z, its, r, ob, k _ _ (.inl rfl) e, c⟩
  | dK kvs => obtain ⟨z, y, vs, r, ob, es, ep, e, c⟩ := x; exact ⟨z, y, vs, r, ob, es, ep, k _ _ (.inl rfl) e, c⟩
  | dT kvs =>
    obtain ⟨z, y, xs, r, ob, es, ep, e, c⟩ := x
    exact ⟨z, y, xs, Paired.mapP r fun p q z => ⟨z.1, ht _ _ z.2.1, z.2.2⟩, ob, es, ep, k _ _ (.inl rfl) e, c⟩
  | set S n => obtain ⟨ob, es, ep, t, e, c⟩ := x; exact ⟨ob, es, ep, t, k _ _ (.inl rfl) e, c⟩
  | ins C dx fs =>
    obtain ⟨d, z, ne, e, mA, ⟨od, es, ep, e2, c⟩, r⟩ := x
    exact ⟨ho _ d, z, ne, k _ _ (.inl rfl) e, mA, ⟨od, es, ep, k _ _ (.inr d) e2, c⟩, r⟩
  | own y => obtain ⟨ob, e⟩ := x; exact ⟨ob, k _ _ (.inl rfl) e⟩
  | xd fs => obtain ⟨mA, ⟨od, es, ep, e, c⟩, r⟩ := x; exact ⟨mA, ⟨od, es, ep, k _ _ (.inl rfl) e, c⟩, r⟩
  | rng lo hi => obtain ⟨t, u, v, e⟩ := x; exact ⟨t, u, v, k _ _ (.inl rfl) e⟩
  | frz ob u ih => obtain ⟨e, q⟩ := x; exact ⟨k _ _ (.inl rfl) e, ih q⟩
  | tbl ps =>
    have e : h.get? a = some { cls := .none, data := .fields ps } := x
    show h'.get? a = some { cls := .none, data := .fields ps }
    exact k a _ (.inl rfl) e
  | met f y =>
    have e : h.get? a = some (PySem.W.methodObj (.ref f) (.ref y)) := x
    show h'.get? a = some (PySem.W.methodObj (.ref f) (.ref y))
    exact k a _ (.inl rfl) e
  | ext φ => obtain ⟨p, ⟨o, e⟩, st⟩ := x; exact ⟨st _ _ p fun o q => k _ _ (.inl rfl) q, ⟨o, k _ _ (.inl rfl) e⟩, st⟩
theorem HOk.lt (x : HOk P w H h) (e : H a = some o) : a < h.objs.size := (x a o e).lt
theorem HOk.fresh (x : HOk P w H h) (e : h.objs.size ≤ a) : H a = none := by
  cases q : H a with
  | none => rfl
  | some u => exact absurd (Nat.lt_of_lt_of_le (x.lt q) e) (Nat.lt_irrefl _)
theorem HOk.kept (x : HOk P w H h) (k : ∀ b u, h.get? b = some u → h'.get? b = some u) : HOk P w H h' := fun a o e =>
  (x a o e).stay (fun b u _ q => k b u q) (fun _ q => q) fun _ _ q => q
theorem HOk.laid (x : HOk P w H h) (k : ∀ b u, h.get? b = some u → h'.get? b = some u) (hp : h.objs.size ≤ a) (new : ObjOk P w (upd H a o) h' a o) : HOk P w (upd H a o) h' := fun b u e => by
  have hn := x.fresh hp
  by_cases hb : b = a
  · subst hb; rw [upd_same] at e; cases e; exact new
  · rw [upd_ne hb] at e
    exact (x b u e).stay (fun c v _ q => k c v q) (fun c q => by rw [upd_ne (ne_of_none q hn)]; exact q) fun c xs q => by rw [upd_ne (ne_of_none q hn)]; exact q
end
noncomputable def Rd (H : Hp) (a : Addr) (u : HO) : Prop := H a = some u ∨ ∃ o, H a = some (.frz o u)
theorem Rd.ok {P : Program} {w : World} {H : Hp} {h : Heap} {a : Addr} {u : HO} (r : Rd H a u) (x : HOk P w H h) : ObjOk P w H h a u := by
  rcases r with r | ⟨o, r⟩
  · exact x a u r
  · obtain ⟨_, q⟩ := x a _ r
    exact q
noncomputable def Mut : Option HO → Prop
  | some (.lst _) => True
  | some (.dK _) => True
  | some (.dT _) => True
  | some (.set _ _) => True
  | some (.ins _ _ _) => True
  | some (.ext _) => True
  | _ => False
section
variable {P : Program} {w : World} {H : Hp} {h h' : Heap} {x e : Addr} {o' : HO}
theorem HOk.write (ok : HOk P w H h) (mu : Mut (H x)) (he : e = x ∨ H e = some (.own x)) (k : ∀ b u, b ≠ e → h.get? b = some u → h'.get? b = some u) (heo : ∃ u, h'.get? e = some u)
    (new : ObjOk P w (upd H x o') h' x o') : HOk P w (upd H x o') h' := fun b u q => by
  have nown : ∀ c y, H c = some (.own y) → c ≠ x := fun c y r z => by subst z; rw [r] at mu; exact mu
  have ntup : ∀ c xs, H c = some (.tup xs) → c ≠ x := fun c xs r z => by subst z; rw [r] at mu; exact mu
  by_cases hb : b = x
  · subst hb; rw [upd_same] at q; cases q; exact new
  · rw [upd_ne hb] at q
    by_cases hbe : b = e
    · have q' : H b = some (.own x) := by
        rcases he with z | z
        · exact absurd (hbe.trans z) hb
        · rw [hbe]; exact z
      rw [q] at q'; cases q'
      obtain ⟨v, hv⟩ := heo
      exact ⟨v, by rw [hbe]; exact hv⟩
    · refine (ok b u q).stay (fun c v hc r => k c v ?_ r) (fun c r => by rw [upd_ne (nown c b r)]; exact r) fun c xs r => by rw [upd_ne (ntup c xs r)]; exact r
      rcases hc with rfl | hc
      · exact hbe
      · rintro rfl
        rcases he with z | z
        · exact nown c b hc z
        · rw [hc] at z; cases z; exact hb rfl
end
structure Un (fs ex : List Addr) (H H' : Hp) (h h' : Heap) : Prop where
  keep : ∀ b o, h.get? b = some o → H b = none → b ∉ fs → b ∉ ex → h'.get? b = some o
  slot : ∀ b o, h.get? b = some o → H b = none → b ∈ fs → b ∉ ex → ∃ sl, h'.get? b = some { o with slots := sl }
  free : ∀ b o, h.get? b = some o → H b = none → b ∉ ex → H' b = none
  there : ∀ b o, h.get? b = some o → b ∉ ex → ∃ o', h'.get? b = some o'
  tups : ∀ b xs, H b = some (.tup xs) → H' b = some (.tup xs)
  frzs : ∀ b o u, H b = some (.frz o u) → H' b = some (.frz o u)
  tbls : ∀ b ps, H b = some (.tbl ps) → ∃ more, H' b = some (.tbl (ps ++ more))
section
variable {fs fs' ex ex' : List Addr} {H H1 H2 : Hp} {h h1 h2 h' : Heap} {a x e : Addr} {o : HO}
theorem Un.any (u : Un fs ex H H1 h h1) {b : Addr} {ob : Obj} (q : h.get? b = some ob) (n : H b = none) (hx : b ∉ ex) : ∃ sl, h1.get? b = some { ob with slots := sl } := by
  by_cases hb : b ∈ fs
  · exact u.slot b ob q n hb hx
  · exact ⟨ob.slots, u.keep b ob q n hb hx⟩
theorem Un.kept (k : ∀ b u, h.get? b = some u → h'.get? b = some u) : Un fs ex H H h h' :=
  ⟨fun b ob q _ _ _ => k b ob q, fun b ob q _ _ _ => ⟨ob.slots, k b ob q⟩, fun _ _ _ n _ => n, fun b ob q _ => ⟨ob, k b ob q⟩, fun _ _ q => q, fun _ _ _ q => q, fun _ ps q => ⟨#[], by rw [q]; simp⟩⟩
theorem Un.refl : Un fs ex H H h h := Un.kept fun _ _ q => q
theorem Un.laid (k : ∀ b u, h.get? b = some u → h'.get? b = some u) (hp : h.objs.size ≤ a) (hn : H a = none) : Un fs ex H (upd H a o) h h' where
  keep := fun b u q _ _ _ => k b u q
  slot := fun b u q _ _ _ => ⟨u.slots, k b u q⟩
  free := fun b u q n _ => by rw [upd_ne (Nat.ne_of_lt (Nat.lt_of_lt_of_le (Heap.lt_size q) hp))]; exact n
  there := fun b u q _ => ⟨u, k b u q⟩
  tups := fun b xs q => by rw [upd_ne (ne_of_none q hn)]; exact q
  frzs := fun b u xs q => by rw [upd_ne (ne_of_none q hn)]; exact q
  tbls := fun b ps q => ⟨#[], by rw [upd_ne (ne_of_none q hn), q]; simp⟩
theorem Un.write (mu : Mut (H x)) (he : e = x ∨ H e = some (.own x)) (k : ∀ b u, b ≠ e → h.get? b = some u → h'.get? b = some u) (heo : ∃ u, h'.get? e = some u) : Un fs ex H (upd H x o) h h' := by
  have hx : ∀ b, H b = none → b ≠ x := fun b n z => by subst z; rw [n] at mu; exact mu
  have hb : ∀ b, H b = none → b ≠ e := fun b n z => by
    subst z
    rcases he with r | r
    · exact hx b n r
    · rw [n] at r; cases r
  have hm : ∀ b u, H b = some u → ¬ Mut (some u) → b ≠ x := fun b u q nm z => by subst z; rw [q] at mu; exact nm mu
  refine ⟨fun b u q n _ _ => k b u (hb b n) q, fun b u q n _ _ => ⟨u.slots, k b u (hb b n) q⟩, fun b u q n _ => by rw [upd_ne (hx b n)]; exact n, fun b u q _ => ?_,
    fun b xs q => by rw [upd_ne (hm b _ q fun z => z)]; exact q, fun b u xs q => by rw [upd_ne (hm b _ q fun z => z)]; exact q, fun b ps q => ⟨#[], by rw [upd_ne (hm b _ q fun z => z), q]; simp⟩⟩
  by_cases hbe : b = e
  · subst hbe; exact heo
  · exact ⟨u, k b u hbe q⟩
end
noncomputable def trk (h : Heap) (H : Hp) : List Addr := (List.range h.objs.size).filter fun a => (H a).isSome
noncomputable def hidT (h : Heap) (H : Hp) : Heap := PySem.W.hideAll h (trk h H)
theorem hidT_size (h : Heap) (H : Hp) : (hidT h H).objs.size = h.objs.size := PySem.W.hideAll_size _ _
theorem hidT_get {h : Heap} {H : Hp} {b : Addr} {o : Obj} (e : h.get? b = some o) (n : H b = none) : (hidT h H).get? b = some o :=
  PySem.W.hideAll_get _ e fun hm => by
    have q : (H b).isSome = true := (List.mem_filter.mp hm).2
    rw [n] at q; simp at q
theorem of_hidT {h : Heap} {H : Hp} {b : Addr} {o : Obj} (e : (hidT h H).get? b = some o) : h.get? b = some o ∧ H b = none := by
  have e' : h.get? b = some o := PySem.W.of_hideAll (trk h H) e
  refine ⟨e', ?_⟩
  cases q : H b with
  | none => rfl
  | some x =>
    have hm : b ∈ trk h H := List.mem_filter.mpr ⟨List.mem_range.mpr (Heap.lt_size e'), by simp [q]⟩
    have z : (hidT h H).get? b = none := PySem.W.hideAll_none (trk h H) hm
    rw [z] at e; cases e
end L2
namespace L2
open PySem PySem.Spec PyProof.Rows
structure Mod (K : PySem.W.Frag) (mg : Str → Option Value) (base : Heap) : Prop where
  kin : K.In base
  glob : base.Ns mainGlobals mg
  blt : ∃ mb, base.Ns builtinsNs mb ∧ ∀ x : Str, x ≠ "__name__" → mb x = bootBuiltins x
  nolimit : base.NoLimit
structure Cx where
  prog : Program
  w : World
  K : PySem.W.Frag
  mg : Str → Option Value
  base : Heap
  A : Around
  N : List Str
  s₀ : Shared
  H₀ : Hp
  env : Env
  outer : List Env
  stack : List Env
  ex : List Addr
  fn : Str → Bool
  calm : Bool
  pn : List (Addr × Obj)
  xe : Value → Shared → Prop
noncomputable def frs (l : List Env) : List Addr := l.filterMap (·.frame)
noncomputable abbrev Cx.fs (X : Cx) : List Addr := frs X.outer
noncomputable def Vis (sc : Scope) (x : Str) : Prop := sc.names.lookup x = some .local ∨ sc.names.lookup x = some .cell ∨ sc.names.lookup x = some .free
noncomputable def Loc (sc : Scope) (x : Str) : Prop := sc.names.lookup x = some .local ∨ sc.names.lookup x = some .cell
noncomputable def Look (env : Env) (h : Heap) (m : Str → Option Value) (x : Str) (u : Value) : Prop :=
  (env.kindOf x = some .local ∧ m x = some u) ∨ ((env.kindOf x = some .cell ∨ env.kindOf x = some .free) ∧ ∃ c, env.cells.lookup x = some c ∧ h.IsCell c (some u))
structure Cx.Ok (X : Cx) : Prop where
  mod : Mod X.K X.mg X.base
  kind : X.env.scope.kind = .function
  glob : X.env.globals = mainGlobals
  blt : X.env.builtins = builtinsNs
  above : X.s₀.heap.objs.size ≤ X.env.locals
  inj : ∀ x y c, X.env.cells.lookup x = some c → X.env.cells.lookup y = some c → x = y
  has : ∀ x, (X.env.kindOf x = some .cell ∨ X.env.kindOf x = some .free) → ∃ c, X.env.cells.lookup x = some c
  cab : ∀ x c, X.fn x = true → X.env.cells.lookup x = some c → X.s₀.heap.objs.size ≤ c
  hd : X.calm = true → X.A.handled = none
  frames : X.A.frames = some X.stack
  stk : X.stack = X.outer ∨ (X.stack = X.env :: X.outer ∧ X.env.frame = some X.env.locals)
  exf : ∀ b ∈ X.ex, b ≠ X.env.locals ∧ ∀ x c, X.env.cells.lookup x = some c → c ≠ b
  bs : ∀ b o, X.base.get? b = some o → X.s₀.heap.get? b = some o ∧ X.H₀ b = none
  bsz : X.base.objs.size ≤ X.s₀.heap.objs.size
  noex : ∀ b o, X.base.get? b = some o → b ∉ X.ex
  exfs : ∀ b ∈ X.ex, b ∉ X.fs
  funs : X.s₀.heap.FunFrames X.base X.outer
  frf : ∀ b ∈ X.fs, X.H₀ b = none
structure Inv (X : Cx) (pins : List (Addr × Obj)) (σ : List (Option V)) (H : Hp) (s : Shared) : Prop where
  ok : X.Ok
  os : s.os = X.s₀.os
  bare : AllBare s.gens
  base : Un X.fs X.ex X.H₀ H X.s₀.heap s.heap
  loc : ∃ m, s.heap.Ns X.env.locals m ∧ ∀ (i : Nat) (x : Str) (v : V), X.N[i]? = some x → σ[i]? = some (some v) → Vis X.env.scope x → ∃ u, RelV v u ∧ Look X.env s.heap m x u
  cell : ∀ x c, X.env.cells.lookup x = some c → ∃ v, s.heap.IsCell c v
  free : H X.env.locals = none
  freeC : ∀ x c, X.env.cells.lookup x = some c → H c = none
  pin : ∀ p ∈ X.pn ++ pins, s.heap.get? p.1 = some p.2 ∧ H p.1 = none ∧ p.1 ≠ X.env.locals ∧ p.1 ∉ X.fs ∧ ∀ v, p.2.data ≠ .cell v
  hok : HOk X.prog X.w H s.heap
  len : σ.length = X.N.length
section
variable {X : Cx} {pins : List (Addr × Obj)} {σ : List (Option V)} {H H' : Hp} {s : Shared} {h' : Heap}
theorem Cx.Ok.nofr (ok : X.Ok) {b : Addr} {o : Obj} (e : X.base.get? b = some o) : b ∉ X.fs := fun hb => by
  have := (ok.funs.mem hb).1
  rw [e] at this; cases this
theorem Inv.bs (I : Inv X pins σ H s) : ∀ b o, X.base.get? b = some o → s.heap.get? b = some o ∧ H b = none := fun b o e =>
  ⟨I.base.keep b o (I.ok.bs b o e).1 (I.ok.bs b o e).2 (I.ok.nofr e) (I.ok.noex b o e), I.base.free b o (I.ok.bs b o e).1 (I.ok.bs b o e).2 (I.ok.noex b o e)⟩
theorem Inv.bk (I : Inv X pins σ H s) : ∀ b o, X.base.get? b = some o → s.heap.get? b = some o := fun b o e => (I.bs b o e).1
theorem Inv.mod (I : Inv X pins σ H s) : Mod X.K X.mg X.base := I.ok.mod
theorem Inv.kIn (I : Inv X pins σ H s) : X.K.In s.heap := I.ok.mod.kin.keeps I.bk
theorem Inv.fr (I : Inv X pins σ H s) : ∃ m, Fr X.base X.env.locals s.heap m :=
  let ⟨m, hn, _⟩ := I.loc
  ⟨m, hn, I.bk, Nat.le_trans I.ok.bsz I.ok.above⟩
theorem Inv.lt (I : Inv X pins σ H s) : X.env.locals < s.heap.objs.size := let ⟨_, hn, _⟩ := I.loc; hn.lt
theorem Inv.sz (I : Inv X pins σ H s) : X.s₀.heap.objs.size ≤ s.heap.objs.size := Nat.le_trans I.ok.above (Nat.le_of_lt I.lt)
theorem Inv.nofs (I : Inv X pins σ H s) {a : Addr} (h : s.heap.objs.size ≤ a) : a ∉ X.fs := fun hb => by
  obtain ⟨_, o, ho, _⟩ := I.ok.funs.mem hb
  exact absurd (Nat.lt_of_lt_of_le (Heap.lt_size ho) (Nat.le_trans I.sz h)) (Nat.lt_irrefl _)
theorem Inv.cne (I : Inv X pins σ H s) : ∀ x c, X.env.cells.lookup x = some c → c ≠ X.env.locals := fun x c e z => by
  obtain ⟨v, o, ho, hd⟩ := I.cell x c e
  obtain ⟨m, ⟨o', es, ep, ho', hd', _⟩, _⟩ := I.loc
  rw [z, ho'] at ho; cases ho; rw [hd'] at hd; cases hd
theorem Inv.funs (I : Inv X pins σ H s) : s.heap.FunFrames X.base X.outer := by
  have all : ∀ (l : List Env), (∀ b ∈ frs l, b ∈ X.fs) → X.s₀.heap.FunFrames X.base l → s.heap.FunFrames X.base l := by
    intro l
    induction l with
    | nil => intro _ _; trivial
    | cons env r ih =>
      intro hs hl
      obtain ⟨hk, ⟨L, o, hf, hn, ho, hd⟩, hr⟩ := hl
      have hL : L ∈ X.fs := hs L (by unfold frs; rw [List.filterMap_cons, hf]; exact List.mem_cons_self)
      obtain ⟨sl, e⟩ := I.base.slot L o ho (I.ok.frf L hL) hL fun z => I.ok.exfs L z hL
      exact ⟨hk, ⟨L, _, hf, hn, e, hd⟩, ih (fun b hb => hs b (by unfold frs; rw [List.filterMap_cons, hf]; exact List.mem_cons_of_mem _ hb)) hr⟩
  exact all X.outer (fun _ hb => hb) I.ok.funs
theorem Inv.stack (I : Inv X pins σ H s) : s.heap.FunFrames X.base X.stack := by
  rcases I.ok.stk with e | ⟨e, hf⟩
  · rw [e]; exact I.funs
  · rw [e]
    obtain ⟨m, hn, _⟩ := I.loc
    refine .cons (by rw [I.ok.kind]; decide) hf hn ?_ I.funs
    exact Heap.get?_none_of_le (Nat.le_trans I.ok.bsz I.ok.above)
theorem Inv.stkSub (I : Inv X pins σ H s) : ∀ b ∈ frs X.stack, b ∈ X.env.locals :: X.fs := fun b hb => by
  rcases I.ok.stk with e | ⟨e, hf⟩
  · rw [e] at hb; exact List.mem_cons_of_mem _ hb
  · rw [e] at hb
    unfold frs at hb
    rw [List.filterMap_cons, hf] at hb
    exact hb
theorem Inv.stkFree (I : Inv X pins σ H s) : ∀ b ∈ frs X.stack, H b = none := fun b hb => by
  rcases List.mem_cons.mp (I.stkSub b hb) with e | hb
  · rw [e]; exact I.free
  · obtain ⟨_, o, ho, _⟩ := I.ok.funs.mem hb
    exact I.base.free b o ho (I.ok.frf b hb) fun z => I.ok.exfs b z hb
theorem Inv.step {g' : Array GenState} {t' : Nat} {d' : Drawn} {ch : List Addr} (I : Inv X pins σ H s)
    (hch : ∀ b ∈ ch, (b ∈ X.ex ∨ X.s₀.heap.objs.size ≤ b) ∧ b ≠ X.env.locals ∧ (∀ x c, X.env.cells.lookup x = some c → c ≠ b) ∧ ∀ p ∈ X.pn ++ pins, p.1 ≠ b)
    (keep : ∀ b o, b ≠ X.env.locals → b ∉ X.fs → b ∉ ch → s.heap.get? b = some o → H b = none → h'.get? b = some o)
    (slot : ∀ b o, b ≠ X.env.locals → b ∈ X.fs → b ∉ ch → s.heap.get? b = some o → H b = none → ∃ sl, h'.get? b = some { o with slots := sl }) (free : ∀ b o, b ∉ ch → s.heap.get? b = some o → H b = none → H' b = none)
    (there : ∀ b o, b ∉ ch → s.heap.get? b = some o → ∃ o', h'.get? b = some o')
    (tups : ∀ b xs, H b = some (.tup xs) → H' b = some (.tup xs)) (frzs : ∀ b o u, H b = some (.frz o u) → H' b = some (.frz o u)) (tbls : ∀ b ps, H b = some (.tbl ps) → ∃ more, H' b = some (.tbl (ps ++ more)))
    (ns : ∀ m, s.heap.Ns X.env.locals m → h'.Ns X.env.locals m) (hok : HOk X.prog X.w H' h') (hg : AllBare g') :
    Inv X pins σ H' { s with heap := h', gens := g', drawn := d', toks := t' } := by
  have neL : ∀ b o, X.s₀.heap.get? b = some o → b ≠ X.env.locals := fun b o e => Nat.ne_of_lt (Nat.lt_of_lt_of_le (Heap.lt_size e) I.ok.above)
  have neC : ∀ b o, X.s₀.heap.get? b = some o → b ∉ X.ex → b ∉ ch := fun b o e hx hb => by
    rcases (hch b hb).1 with z | z
    · exact hx z
    · exact absurd (Nat.lt_of_lt_of_le (Heap.lt_size e) z) (Nat.lt_irrefl _)
  have cellK : ∀ x c, X.env.cells.lookup x = some c → ∀ v, s.heap.IsCell c v → h'.IsCell c v := fun x c e v ⟨o, ho, hd⟩ => by
    have nch : c ∉ ch := fun z => (hch c z).2.2.1 x c e rfl
    by_cases hc : c ∈ X.fs
    · obtain ⟨sl, q⟩ := slot c o (I.cne x c e) hc nch ho (I.freeC x c e)
      exact ⟨_, q, hd⟩
    · exact ⟨o, keep c o (I.cne x c e) hc nch ho (I.freeC x c e), hd⟩
  refine ⟨I.ok, I.os, hg, ⟨fun b o e n hb hx => ?_, fun b o e n hb hx => ?_, fun b o e n hx => ?_, fun b o e hx => ?_, fun b xs e => tups b xs (I.base.tups b xs e), fun b o xs e => frzs b o xs (I.base.frzs b o xs e), fun b ps e => ?_⟩, ?_, fun x c e => ?_, ?_, fun x c e => ?_, fun p hp => ?_, hok, I.len⟩
  · exact keep b o (neL b o e) hb (neC b o e hx) (I.base.keep b o e n hb hx) (I.base.free b o e n hx)
  · obtain ⟨sl, e1⟩ := I.base.slot b o e n hb hx
    obtain ⟨sl', e2⟩ := slot b _ (neL b o e) hb (neC b o e hx) e1 (I.base.free b o e n hx)
    exact ⟨sl', e2⟩
  · obtain ⟨o', e1⟩ := I.base.there b o e hx
    exact free b o' (neC b o e hx) e1 (I.base.free b o e n hx)
  · obtain ⟨o', e1⟩ := I.base.there b o e hx
    exact there b o' (neC b o e hx) e1
  · obtain ⟨m1, e1⟩ := I.base.tbls b ps e
    obtain ⟨m2, e2⟩ := tbls b _ e1
    exact ⟨m1 ++ m2, by rw [e2, Array.append_assoc]⟩
  · obtain ⟨m, hn, hl⟩ := I.loc
    refine ⟨m, ns m hn, fun i x v e1 e2 e3 => ?_⟩
    obtain ⟨u, r, l⟩ := hl i x v e1 e2 e3
    refine ⟨u, r, ?_⟩
    rcases l with l | ⟨k, c, e, z⟩
    · exact .inl l
    · exact .inr ⟨k, c, e, cellK x c e _ z⟩
  · obtain ⟨v, z⟩ := I.cell x c e
    exact ⟨v, cellK x c e v z⟩
  · obtain ⟨m, ⟨o, _, _, ho, _⟩, _⟩ := I.loc
    exact free _ o (fun z => (hch _ z).2.1 rfl) ho I.free
  · obtain ⟨v, o, ho, hd⟩ := I.cell x c e
    exact free c o (fun z => (hch c z).2.2.1 x c e rfl) ho (I.freeC x c e)
  · obtain ⟨e, n, ne, nf, d⟩ := I.pin p hp
    have nch : p.1 ∉ ch := fun z => (hch p.1 z).2.2.2 p hp rfl
    exact ⟨keep p.1 p.2 ne nf nch e n, free p.1 p.2 nch e n, ne, nf, d⟩
theorem Inv.un {t' : Nat} (I : Inv X pins σ H s) (u : Un X.fs [] H H' s.heap h') (hok : HOk X.prog X.w H' h') : Inv X pins σ H' { s with heap := h', toks := t' } := by
  obtain ⟨m, ⟨o, es, ep, ho, r⟩, _⟩ := id I.loc
  obtain ⟨sl, hL⟩ := u.any ho I.free (by simp)
  exact I.step (g' := s.gens) (d' := s.drawn) (ch := []) (fun _ z => nomatch z) (fun b o _ hb _ e n => u.keep b o e n hb (by simp)) (fun b o _ hb _ e n => u.slot b o e n hb (by simp)) (fun b o _ e n => u.free b o e n (by simp)) (fun b o _ e => u.there b o e (by simp)) u.tups u.frzs u.tbls (fun m' hm => by
    obtain ⟨o', es', ep', ho', r'⟩ := hm
    rw [ho] at ho'; cases ho'
    exact ⟨_, es', ep', hL, r'⟩) hok I.bare
theorem Inv.call {g' : Array GenState} {t' : Nat} {d' : Drawn} {ch : List Addr} (I : Inv X pins σ H s) (u : Un (frs X.stack) ch H H' s.heap h') (hok : HOk X.prog X.w H' h') (hg : AllBare g')
    (hch : ∀ b ∈ ch, (b ∈ X.ex ∨ X.s₀.heap.objs.size ≤ b) ∧ b ≠ X.env.locals ∧ (∀ x c, X.env.cells.lookup x = some c → c ≠ b) ∧ ∀ p ∈ X.pn ++ pins, p.1 ≠ b) :
    Inv X pins σ H' { s with heap := h', gens := g', drawn := d', toks := t' } := by
  obtain ⟨m, ⟨o, es, ep, ho, r⟩, _⟩ := id I.loc
  obtain ⟨sl, hL⟩ := u.any ho I.free fun z => (hch _ z).2.1 rfl
  exact I.step (ch := ch) hch (fun b o hL hb hc e n => u.keep b o e n (fun z => (List.mem_cons.mp (I.stkSub b z)).elim hL hb) hc) (fun b o _ _ hc e n => u.any e n hc) (fun b o hc e n => u.free b o e n hc) (fun b o hc e => u.there b o e hc) u.tups u.frzs u.tbls (fun m' hm => by
    obtain ⟨o', es', ep', ho', r'⟩ := hm
    rw [ho] at ho'; cases ho'
    exact ⟨_, es', ep', hL, r'⟩) hok hg
theorem Inv.turned {t' : Nat} {it : Addr} (I : Inv X pins σ H s) (k : ∀ b o, b ≠ it → s.heap.get? b = some o → h'.get? b = some o) (hn : H it = none) (hL : it ≠ X.env.locals)
    (h1 : it ∈ X.ex ∨ X.s₀.heap.objs.size ≤ it) (h2 : ∀ x c, X.env.cells.lookup x = some c → c ≠ it) (h3 : ∀ p ∈ X.pn ++ pins, p.1 ≠ it) : Inv X pins σ H { s with heap := h', toks := t' } := by
  have nit : ∀ b u, H b = some u → b ≠ it := fun b u e z => by rw [z, hn] at e; cases e
  refine I.step (g' := s.gens) (d' := s.drawn) (ch := [it]) (fun b hb => ?_) (fun b o _ _ hc e _ => k b o (fun z => hc (by simp [z])) e) (fun b o _ _ hc e _ => ⟨o.slots, k b o (fun z => hc (by simp [z])) e⟩) (fun _ _ _ _ n => n)
    (fun b o hc e => ⟨o, k b o (fun z => hc (by simp [z])) e⟩) (fun _ _ e => e) (fun _ _ _ e => e) (fun b ps e => ⟨#[], by rw [e]; simp⟩) (fun m hm => ?_) (fun b u e => ?_) I.bare
  · have e : b = it := by simpa using hb
    subst e
    exact ⟨h1, hL, h2, h3⟩
  · obtain ⟨o, es, ep, ho, r⟩ := hm
    exact ⟨o, es, ep, k _ o (Ne.symm hL) ho, r⟩
  · refine (I.hok b u e).stay (fun c v hc q => k c v ?_ q) (fun _ q => q) fun _ _ q => q
    rcases hc with z | z
    · rw [z]; exact nit b u e
    · exact nit c _ z
theorem Inv.tok (I : Inv X pins σ H s) (t : Nat) : Inv X pins σ H { s with toks := t } := I.un (h' := s.heap) (t' := t) Un.refl I.hok
theorem Inv.kept {t' : Nat} (I : Inv X pins σ H s) (k : ∀ b u, s.heap.get? b = some u → h'.get? b = some u) : Inv X pins σ H { s with heap := h', toks := t' } := I.un (Un.kept k) (I.hok.kept k)
theorem Inv.laid {a : Addr} {o : HO} {t' : Nat} (I : Inv X pins σ H s) (k : ∀ b u, s.heap.get? b = some u → h'.get? b = some u) (hp : s.heap.objs.size ≤ a) (new : ObjOk X.prog X.w (upd H a o) h' a o) :
    Inv X pins σ (upd H a o) { s with heap := h', toks := t' } := I.un (Un.laid k hp (I.hok.fresh hp)) (I.hok.laid k hp new)
theorem Inv.write {x e : Addr} {o : HO} {t' : Nat} (I : Inv X pins σ H s) (mu : Mut (H x)) (he : e = x ∨ H e = some (.own x)) (k : ∀ b u, b ≠ e → s.heap.get? b = some u → h'.get? b = some u) (heo : ∃ u, h'.get? e = some u)
    (new : ObjOk X.prog X.w (upd H x o) h' x o) : Inv X pins σ (upd H x o) { s with heap := h', toks := t' } := I.un (Un.write mu he k heo) (I.hok.write mu he k heo new)
theorem Inv.pins_of {pins' : List (Addr × Obj)} (I : Inv X pins σ H s) (h : ∀ p ∈ pins', s.heap.get? p.1 = some p.2 ∧ H p.1 = none ∧ p.1 ≠ X.env.locals ∧ p.1 ∉ X.fs ∧ ∀ v, p.2.data ≠ .cell v) : Inv X pins' σ H s :=
  ⟨I.ok, I.os, I.bare, I.base, I.loc, I.cell, I.free, I.freeC, fun p hp => (List.mem_append.mp hp).elim (fun z => I.pin p (List.mem_append_left _ z)) (h p), I.hok, I.len⟩
theorem nodup_ix {N : List Str} (hN : N.Nodup) {i j : Nat} {x : Str} (a : N[i]? = some x) (b : N[j]? = some x) : i = j := by
  obtain ⟨h1, e1⟩ := List.getElem?_eq_some_iff.mp a
  obtain ⟨h2, e2⟩ := List.getElem?_eq_some_iff.mp b
  exact (List.getElem_inj hN).mp (e1.trans e2.symm)
theorem store_ok2 {M : Model} {A : Around} {E : Value → Shared → Prop} {i : Nat} {x : Str} {v : V} {u : Value} {Q : Unit → Shared → Prop} (I : Inv X pins σ H s) (hN : X.N.Nodup) (hi : X.N[i]? = some x) (hx : Loc X.env.scope x) (r : RelV v u)
    (h : ∀ s', Inv X pins (σ.set i (some v)) H s' → (∃ a, Heap.SameBut a s.heap s'.heap ∧ (a = X.env.locals ∨ X.env.cells.lookup x = some a)) → Q () s') (hf : X.fn x = true ∨ X.env.scope.names.lookup x = some .local := by first | exact .inl rfl | exact .inr rfl | assumption) : wpAny M A (storeName X.env x u) Q E s := by
  obtain ⟨m, hn, hl⟩ := id I.loc
  have hcls : (X.env.scope.kind == .class || (X.env.scope.kind == .module && X.env.locals != X.env.globals)) = false := by rw [I.ok.kind]; rfl
  have hiσ : i < σ.length := by rw [I.len]; exact (List.getElem?_eq_some_iff.mp hi).1
  have cne := I.cne
  have tracked : ∀ {a : Addr} {h' : Heap}, (∃ o, s.heap.get? a = some o ∧ H a = none) → Heap.SameBut a s.heap h' → HOk X.prog X.w H h' := fun {a h'} ha hs b ob e => by
    obtain ⟨_, _, hfree⟩ := ha
    refine (I.hok b ob e).stay (fun c w' hc q => (hs.2 c ?_).trans q) (fun _ q => q) fun _ _ q => q
    rintro rfl
    rcases hc with rfl | hc
    · rw [hfree] at e; cases e
    · rw [hfree] at hc; cases hc
  rcases hx with hk | hk
  · refine wpAny_storeName_local hk hn (fun h' hn' hs => ?_) hcls
    obtain ⟨oL, _, _, hoL, _⟩ := id hn
    refine h _ ⟨I.ok, I.os, I.bare, ⟨fun b o e n hb hx => ?_, fun b o e n hb hx => ?_, I.base.free, fun b o e hx => ?_, I.base.tups, I.base.frzs, I.base.tbls⟩, ⟨_, hn', fun j y v' e1 e2 e3 => ?_⟩, fun y c e => ?_, I.free, I.freeC, fun p hp => ?_, tracked ⟨oL, hoL, I.free⟩ hs, by simpa using I.len⟩ ⟨_, hs, .inl rfl⟩
    · exact (hs.2 b (Nat.ne_of_lt (Nat.lt_of_lt_of_le (Heap.lt_size e) I.ok.above))).trans (I.base.keep b o e n hb hx)
    · obtain ⟨sl, e1⟩ := I.base.slot b o e n hb hx
      exact ⟨sl, (hs.2 b (Nat.ne_of_lt (Nat.lt_of_lt_of_le (Heap.lt_size e) I.ok.above))).trans e1⟩
    · obtain ⟨o', e1⟩ := I.base.there b o e hx
      exact ⟨o', (hs.2 b (Nat.ne_of_lt (Nat.lt_of_lt_of_le (Heap.lt_size e) I.ok.above))).trans e1⟩
    · by_cases hj : j = i
      · subst hj
        rw [hi] at e1; cases e1
        rw [List.getElem?_set_self hiσ] at e2
        cases e2
        exact ⟨u, r, .inl ⟨hk, by simp⟩⟩
      · rw [List.getElem?_set_ne (Ne.symm hj)] at e2
        obtain ⟨u', r', q⟩ := hl j y v' e1 e2 e3
        refine ⟨u', r', ?_⟩
        rcases q with ⟨k, e⟩ | ⟨k, c, e, z⟩
        · refine .inl ⟨k, ?_⟩
          have : y ≠ x := fun e => hj (nodup_ix hN e1 (e ▸ hi))
          simp [this, e]
        · exact .inr ⟨k, c, e, z.sameBut hs (cne y c e)⟩
    · obtain ⟨w', z⟩ := I.cell y c e
      exact ⟨w', z.sameBut hs (cne y c e)⟩
    · obtain ⟨e, n, ne, nf, d⟩ := I.pin p hp
      exact ⟨(hs.2 p.1 ne).trans e, n, ne, nf, d⟩
  · have hfn : X.fn x = true := by
      rcases hf with z | z
      · exact z
      · rw [z] at hk; cases hk
    obtain ⟨c, hc⟩ := I.ok.has x (.inl hk)
    obtain ⟨w', z⟩ := I.cell x c hc
    refine wpAny_storeName_cell I.ok.kind hk hc z (fun h' hc' hs => ?_)
    obtain ⟨oc, hoc, hocd⟩ := id z
    refine h { s with heap := h' } ⟨I.ok, I.os, I.bare, ⟨fun b o e n hb hx => ?_, fun b o e n hb hx => ?_, I.base.free, fun b o e hx => ?_, I.base.tups, I.base.frzs, I.base.tbls⟩, ⟨m, hn.sameBut hs (Ne.symm (cne x c hc)), fun j y v' e1 e2 e3 => ?_⟩, fun y c' e => ?_, I.free, I.freeC, fun p hp => ?_, tracked ⟨oc, hoc, I.freeC x c hc⟩ hs, by simpa using I.len⟩ ⟨c, hs, .inr hc⟩
    · exact (hs.2 b (Nat.ne_of_lt (Nat.lt_of_lt_of_le (Heap.lt_size e) (I.ok.cab x c hfn hc)))).trans (I.base.keep b o e n hb hx)
    · obtain ⟨sl, e1⟩ := I.base.slot b o e n hb hx
      exact ⟨sl, (hs.2 b (Nat.ne_of_lt (Nat.lt_of_lt_of_le (Heap.lt_size e) (I.ok.cab x c hfn hc)))).trans e1⟩
    · obtain ⟨o', e1⟩ := I.base.there b o e hx
      exact ⟨o', (hs.2 b (Nat.ne_of_lt (Nat.lt_of_lt_of_le (Heap.lt_size e) (I.ok.cab x c hfn hc)))).trans e1⟩
    · by_cases hj : j = i
      · subst hj
        rw [hi] at e1; cases e1
        rw [List.getElem?_set_self hiσ] at e2
        cases e2
        exact ⟨u, r, .inr ⟨.inl hk, c, hc, hc'⟩⟩
      · rw [List.getElem?_set_ne (Ne.symm hj)] at e2
        obtain ⟨u', r', q⟩ := hl j y v' e1 e2 e3
        refine ⟨u', r', ?_⟩
        rcases q with q | ⟨k, c', e, z'⟩
        · exact .inl q
        · refine .inr ⟨k, c', e, z'.sameBut hs ?_⟩
          rintro rfl
          exact hj (nodup_ix hN e1 (I.ok.inj _ _ _ e hc ▸ hi))
    · by_cases hcc : c' = c
      · subst hcc; exact ⟨_, hc'⟩
      · obtain ⟨w2, z2⟩ := I.cell y c' e
        exact ⟨w2, z2.sameBut hs hcc⟩
    · obtain ⟨e, n, ne, nf, d⟩ := I.pin p hp
      refine ⟨(hs.2 p.1 ?_).trans e, n, ne, nf, d⟩
      intro q
      rw [q, hoc] at e
      have q' : oc = p.2 := Option.some.inj e
      exact d w' (by rw [← q']; exact hocd)
theorem store_ok {M : Model} {A : Around} {E : Value → Shared → Prop} {i : Nat} {x : Str} {v : V} {u : Value} {Q : Unit → Shared → Prop} (I : Inv X pins σ H s) (hN : X.N.Nodup) (hi : X.N[i]? = some x) (hx : Loc X.env.scope x) (r : RelV v u)
    (h : ∀ s', Inv X pins (σ.set i (some v)) H s' → Q () s') (hf : X.fn x = true ∨ X.env.scope.names.lookup x = some .local := by first | exact .inl rfl | exact .inr rfl | assumption) : wpAny M A (storeName X.env x u) Q E s :=
  store_ok2 I hN hi hx r (fun s' I' _ => h s' I') hf
theorem Inv.call' {s' : Shared} {ch : List Addr} (I : Inv X pins σ H s) (ho : s'.os = s.os) (u : Un (frs X.stack) ch H H' s.heap s'.heap) (hok : HOk X.prog X.w H' s'.heap) (hg : AllBare s'.gens)
    (hch : ∀ b ∈ ch, (b ∈ X.ex ∨ X.s₀.heap.objs.size ≤ b) ∧ b ≠ X.env.locals ∧ (∀ x c, X.env.cells.lookup x = some c → c ≠ b) ∧ ∀ p ∈ X.pn ++ pins, p.1 ≠ b) : Inv X pins σ H' s' := by
  obtain ⟨h', g', d', t', o'⟩ := s'
  have e : o' = s.os := ho
  subst e
  exact I.call (g' := g') (t' := t') (d' := d') u hok hg hch
end
noncomputable abbrev XK := Value → Option Addr → Hp → Prop
noncomputable abbrev St := List (Option V)
noncomputable abbrev VK := V → Hp → Prop
noncomputable abbrev TE := St → Hp → VK → Prop
noncomputable abbrev TT := St → Hp → (Bool → Hp → Prop) → Prop
noncomputable abbrev TA := St → Hp → (List V → Hp → Prop) → Prop
structure Ends where
  nx : St → Hp → Prop
  rt : VK
  bk : St → Hp → Prop := fun _ _ => False
  ct : St → Hp → Prop := fun _ _ => False
noncomputable abbrev TS := Ends → St → Hp → Prop
inductive EP_P (X : Cx) (pins : List (Addr × Obj)) (σ : St) (Q : VK) (u : Value) (s' : Shared) : Prop
  | mk (v H' : _) (h1 : Inv X pins σ H' s') (h2 : RelV v u) (h3 : Q v H') : EP_P X pins σ Q u s'
noncomputable def EP (X : Cx) (pins : List (Addr × Obj)) (σ : St) (Q : VK) (u : Value) (s' : Shared) : Prop := EP_P X pins σ Q u s'
noncomputable def TP (X : Cx) (pins : List (Addr × Obj)) (σ : St) (Q : Bool → Hp → Prop) (b : Bool) (s' : Shared) : Prop := ∃ H', Inv X pins σ H' s' ∧ Q b H'
inductive AP_P (X : Cx) (pins : List (Addr × Obj)) (σ : St) (Q : List V → Hp → Prop) (us : List Value) (s' : Shared) : Prop
  | mk (vs H' : _) (h1 : Inv X pins σ H' s') (h2 : Vals vs us) (h3 : Q vs H') : AP_P X pins σ Q us s'
noncomputable def AP (X : Cx) (pins : List (Addr × Obj)) (σ : St) (Q : List V → Hp → Prop) (us : List Value) (s' : Shared) : Prop := AP_P X pins σ Q us s'
noncomputable def SP (X : Cx) (pins : List (Addr × Obj)) (D : Ends) (f : Flow) (s' : Shared) : Prop :=
  match f with
  | .next => ∃ σ' H', Inv X pins σ' H' s' ∧ D.nx σ' H'
  | .brk => ∃ σ' H', Inv X pins σ' H' s' ∧ D.bk σ' H'
  | .cont => ∃ σ' H', Inv X pins σ' H' s' ∧ D.ct σ' H'
  | .ret u => ∃ v σ' H', Inv X pins σ' H' s' ∧ RelV v u ∧ D.rt v H'
noncomputable def PE (X : Cx) (e : Expr) (t : TE) : Prop :=
  ∀ (pins : List (Addr × Obj)) (s : Shared) (σ : St) (H : Hp) (Q : VK), Inv X pins σ H s → t σ H Q → wpAny (model X.prog X.w) X.A (eval e X.env) (EP X pins σ Q) X.xe s
noncomputable def PT (X : Cx) (e : Expr) (t : TT) : Prop :=
  ∀ (pins : List (Addr × Obj)) (s : Shared) (σ : St) (H : Hp) (Q : Bool → Hp → Prop), Inv X pins σ H s → t σ H Q → wpAny (model X.prog X.w) X.A (isTrue e X.env (eval e X.env)) (TP X pins σ Q) X.xe s
noncomputable def PW (X : Cx) (e : Expr) (t : TT) : Prop :=
  ∀ (whole : Sem Value) (pins : List (Addr × Obj)) (s : Shared) (σ : St) (H : Hp) (Q : Bool → Hp → Prop), Inv X pins σ H s → t σ H Q → wpAny (model X.prog X.w) X.A (isTrue e X.env whole) (TP X pins σ Q) X.xe s
theorem PW.pt {X : Cx} {e : Expr} {t : TT} (h : PW X e t) : PT X e t := h _
noncomputable def PA (X : Cx) (es : List Expr) (t : TA) : Prop :=
  ∀ (pos : Pos) (pins : List (Addr × Obj)) (s : Shared) (σ : St) (H : Hp) (Q : List V → Hp → Prop), Inv X pins σ H s → t σ H Q → wpAny (model X.prog X.w) X.A (spliced (backTo pos (starEach es X.env))) (AP X pins σ Q) X.xe s
noncomputable def PS (X : Cx) (st : Stmt) (t : TS) : Prop :=
  ∀ (pins : List (Addr × Obj)) (s : Shared) (σ : St) (H : Hp) (D : Ends), Inv X pins σ H s → t D σ H → wpAny (model X.prog X.w) X.A (exec st X.env) (SP X pins D) X.xe s
noncomputable def PSs (X : Cx) (st : List Stmt) (t : TS) : Prop :=
  ∀ (pins : List (Addr × Obj)) (s : Shared) (σ : St) (H : Hp) (D : Ends), Inv X pins σ H s → t D σ H → wpAny (model X.prog X.w) X.A (execs st X.env) (SP X pins D) X.xe s
theorem thn {α : Type} {t : Sem α} {Q Q' : α → Shared → Prop} {M : Model} {A : Around} {E : Value → Shared → Prop} {s : Shared} (h : wpAny M A t Q E s) (hQ : ∀ a s, Q a s → Q' a s) : wpAny M A t Q' E s := wpAny_mono h hQ fun _ _ x => x
end L2
namespace L2
open PySem PySem.Spec PyProof.Rows
section
variable {X : Cx}
inductive tVar_P (i : Nat) (σ : St) (H : Hp) (Q : VK) : Prop
  | mk (v : _) (h1 : σ[i]? = some (some v)) (h2 : Q v H) : tVar_P i σ H Q
noncomputable def tVar (i : Nat) : TE := fun σ H Q => tVar_P i σ H Q
noncomputable def tC (v : V) : TE := fun _ H Q => Q v H
theorem pe_var {i : Nat} {x : Str} {pos : Pos} (hN : X.N[i]? = some x) (hv : Vis X.env.scope x) (hd : (x == ("__debug__" : Str)) = false := by decide) (hcd : (x == ("__classdict__" : Str)) = false := by decide) : PE X (.Name x pos) (tVar i) := by
  intro pins s σ H Q I h
  obtain ⟨v, e, h⟩ := h
  obtain ⟨m, hn, hl⟩ := I.loc
  obtain ⟨u, r, l⟩ := hl i x v hN e hv
  have fin : EP X pins σ Q u s := ⟨v, H, I, r, h⟩
  rcases l with ⟨hk, hm⟩ | ⟨hk, c, hc, hcell⟩
  · exact wpAny_Name (wpAny_loadName_local I.ok.kind hk hn hm fin) hd
  · rcases hk with hk | hk
    · exact wpAny_Name (wpAny_loadName_cell I.ok.kind hk hc hcell fin) hd
    · exact wpAny_Name (wpAny_loadName_free I.ok.kind hk hc hcell fin hcd) hd
theorem pe_int {i j pos} : PE X (.Constant (.int i) j pos) (tC (.int i)) := fun _ _ _ H _ I h => wpAny_Constant_int ⟨.int i, H, I.tok _, ⟨_, rfl⟩, h⟩
theorem pe_bl {b j pos} : PE X (.Constant (.bool b) j pos) (tC (.bl b)) := fun _ _ _ H _ I h => Constant_bool ⟨.bl b, H, I, rfl, h⟩
theorem pe_non {j pos} : PE X (.Constant .none j pos) (tC .non) := fun _ _ _ H _ I h => Constant_none ⟨.non, H, I, rfl, h⟩
theorem pe_str {x j pos} : PE X (.Constant (.str x) j pos) (tC (.str x)) := fun _ _ _ H _ I h => Calls.Constant_str ⟨.str x, H, I.tok _, ⟨_, rfl⟩, h⟩
noncomputable def Gl (X : Cx) (x : Str) : Prop := X.env.kindOf x = some .globalImplicit
theorem ld_glob {E : Value → Shared → Prop} {pins : List (Addr × Obj)} {s : Shared} {σ : St} {H : Hp} {x : Str} {u : Value} {pos : Pos} {Q : Value → Shared → Prop} (I : Inv X pins σ H s) (hg : Gl X x) (hm : X.mg x = some u) (h : Q u s)
    (hd : (x == ("__debug__" : Str)) = false := by decide) : wpAny (model X.prog X.w) X.A (eval (.Name x pos) X.env) Q E s :=
  Calls.Name_function_global I.ok.kind hg (Calls.loadGlobal_global (by rw [I.ok.glob]; exact I.mod.glob.keeps I.bk) hm h) hd
theorem ld_blt {E : Value → Shared → Prop} {pins : List (Addr × Obj)} {s : Shared} {σ : St} {H : Hp} {x : Str} {u : Value} {pos : Pos} {Q : Value → Shared → Prop} (I : Inv X pins σ H s) (hg : Gl X x) (hm : X.mg x = none) (hv : bootBuiltins x = some u) (h : Q u s)
    (hn : x ≠ "__name__" := by decide) (hd : (x == ("__debug__" : Str)) = false := by decide) : wpAny (model X.prog X.w) X.A (eval (.Name x pos) X.env) Q E s := by
  obtain ⟨mb, h1, h2⟩ := I.mod.blt
  exact Calls.Name_function_global I.ok.kind hg (Calls.loadGlobal_builtin (by rw [I.ok.glob]; exact I.mod.glob.keeps I.bk) hm (by rw [I.ok.blt]; exact h1.keeps I.bk) ((h2 x hn).trans hv) h) hd
theorem pe_glob {x : Str} {v : V} {u : Value} {pos : Pos} (hg : Gl X x) (hm : X.mg x = some u) (r : RelV v u) (hd : (x == ("__debug__" : Str)) = false := by decide) : PE X (.Name x pos) (tC v) :=
  fun _ _ _ H _ I h => ld_glob I hg hm ⟨v, H, I, r, h⟩ hd
theorem pe_bltn {x : Str} {v : V} {u : Value} {pos : Pos} (hg : Gl X x) (hm : X.mg x = none) (hv : bootBuiltins x = some u) (r : RelV v u) (hn : x ≠ "__name__" := by decide) (hd : (x == ("__debug__" : Str)) = false := by decide) : PE X (.Name x pos) (tC v) :=
  fun _ _ _ H _ I h => ld_blt I hg hm hv ⟨v, H, I, r, h⟩ hn hd
variable {a b : Expr} {ta tb : TE} {pos : Pos}
inductive tB_P (Q : (Bool → Hp → Prop)) (x : V) (H1 : Hp) : Prop
  | mk (c : _) (h1 : x = .bl c) (h2 : Q c H1) : tB_P Q x H1
noncomputable def tB (t : TE) : TT := fun σ H Q => t σ H fun x H1 => tB_P Q x H1
theorem pt_val {e : Expr} {t : TE} (h : PE X e t) (he : ∀ whole, isTrue e X.env whole = (do let v ← whole; standAt e.pos; holding [v] (truthy v)) := by intro _; rfl) : PT X e (tB t) := by
  intro pins s σ H Q I hw
  refine isTrue_plain (thn (h pins s σ H _ I hw) fun v s1 zz_ => ?_) (he _)
  obtain ⟨x, H1, I1, r1, q1⟩ := zz_
  obtain ⟨d, rfl, q⟩ := q1
  cases r1
  exact wpAny_truthy_bool ⟨H1, I1, q⟩
variable {tA tB' : TT} {rest : List Expr}
noncomputable def tAnd (t u : TT) : TT := fun σ H Q => t σ H fun c H1 => if c = true then u σ H1 Q else Q false H1
noncomputable def tOr (t u : TT) : TT := fun σ H Q => t σ H fun c H1 => if c = true then Q true H1 else u σ H1 Q
noncomputable def tNot (t : TT) : TT := fun σ H Q => t σ H fun c H1 => Q (!c) H1
theorem pw_and1 (ha : PT X a tA) : PW X (.BoolOp .And [a] pos) tA := by
  intro wh pins s σ H Q I h
  refine isTrue_and (thn (ha pins s σ H Q I h) fun c s1 e => ?_)
  cases c with
  | true => exact isTrue_and_nil e
  | false => exact e
theorem pw_or1 (ha : PT X a tA) : PW X (.BoolOp .Or [a] pos) tA := by
  intro wh pins s σ H Q I h
  refine isTrue_or (thn (ha pins s σ H Q I h) fun c s1 e => ?_)
  cases c with
  | false => exact isTrue_or_nil e
  | true => exact e
theorem pw_and (ha : PT X a tA) (hb : PW X (.BoolOp .And (b :: rest) pos) tB') : PW X (.BoolOp .And (a :: b :: rest) pos) (tAnd tA tB') := by
  intro wh pins s σ H Q I h
  refine isTrue_and (thn (ha pins s σ H _ I h) fun c s1 zz_ => ?_)
  obtain ⟨H1, I1, q1⟩ := zz_
  cases c with
  | true => exact hb wh pins s1 σ H1 Q I1 q1
  | false => exact ⟨H1, I1, q1⟩
theorem pw_or (ha : PT X a tA) (hb : PW X (.BoolOp .Or (b :: rest) pos) tB') : PW X (.BoolOp .Or (a :: b :: rest) pos) (tOr tA tB') := by
  intro wh pins s σ H Q I h
  refine isTrue_or (thn (ha pins s σ H _ I h) fun c s1 zz_ => ?_)
  obtain ⟨H1, I1, q1⟩ := zz_
  cases c with
  | true => exact ⟨H1, I1, q1⟩
  | false => exact hb wh pins s1 σ H1 Q I1 q1
theorem pt_not (ha : PT X a tA) : PT X (.UnaryOp .Not a pos) (tNot tA) := by
  intro pins s σ H Q I h
  exact isTrue_not (ha pins s σ H (fun c H1 => Q (!c) H1) I h)
noncomputable def tAndV (ta tb : TE) : TE := fun σ H Q => ta σ H fun x H1 => ∃ c, x = .bl c ∧ if c = true then tb σ H1 Q else Q (.bl false) H1
inductive tNotV_P (Q : VK) (x : V) (H1 : Hp) : Prop
  | mk (c : _) (h1 : x = .bl c) (h2 : Q (.bl (!c)) H1) : tNotV_P Q x H1
noncomputable def tNotV (ta : TE) : TE := fun σ H Q => ta σ H fun x H1 => tNotV_P Q x H1
theorem pe_one {op} {t : TE} (h : PE X a t) : PE X (.BoolOp op [a] pos) t := fun pins s σ H Q I hw => BoolOp_one (h pins s σ H Q I hw)
theorem pe_and (ha : PE X a ta) (hb : PE X (.BoolOp .And (b :: rest) pos) tb) : PE X (.BoolOp .And (a :: b :: rest) pos) (tAndV ta tb) := by
  intro pins s σ H Q I h
  refine BoolOp_and (thn (ha pins s σ H _ I h) fun v s1 zz_ => ?_)
  obtain ⟨x, H1, I1, r1, q1⟩ := zz_
  obtain ⟨c, rfl, q1⟩ := q1
  cases r1
  refine wpAny_truthy_bool ?_
  cases c with
  | true => exact hb pins s1 σ H1 Q I1 q1
  | false => exact ⟨.bl false, H1, I1, rfl, q1⟩
theorem pe_not (ha : PE X a ta) : PE X (.UnaryOp .Not a pos) (tNotV ta) := by
  intro pins s σ H Q I h
  refine UnaryOp_ (thn (ha pins s σ H _ I h) fun v s1 zz_ => ?_)
  obtain ⟨x, H1, I1, r1, q1⟩ := zz_
  obtain ⟨c, rfl, q1⟩ := q1
  cases r1
  exact not_of (wpAny_truthy_bool ⟨.bl (!c), H1, I1, rfl, q1⟩)
noncomputable def tIf (t : TT) (ta tb : TE) : TE := fun σ H Q => t σ H fun c H1 => if c = true then ta σ H1 Q else tb σ H1 Q
theorem pe_ifExp {c : Expr} (hc : PT X c tA) (ha : PE X a ta) (hb : PE X b tb) : PE X (.IfExp c a b pos) (tIf tA ta tb) := by
  intro pins s σ H Q I h
  refine wpAny_IfExp (thn (hc pins s σ H _ I h) fun d s1 zz_ => ?_)
  obtain ⟨H1, I1, q1⟩ := zz_
  cases d with
  | true => exact ha pins s1 σ H1 Q I1 q1
  | false => exact hb pins s1 σ H1 Q I1 q1
end
end L2
namespace L2
open PySem PySem.Spec PyProof.Rows
noncomputable def SqL (K : PySem.W.Frag) (H : Hp) (a : Addr) (xs : List V) : Prop :=
  Rd H a (.lst xs) ∨
    ∃ (o : Obj) (its : Array Value) (n : Nat), K.lookup a = some o ∧ o.cls = .type "list" ∧ o.dict = none ∧ o.data = .seq its n ∧ its.size ≤ sizeLine ∧ Vals xs its.toList
noncomputable def SqT (K : PySem.W.Frag) (H : Hp) (a : Addr) (xs : List V) : Prop :=
  Rd H a (.tup xs) ∨
    ∃ (o : Obj) (its : Array Value) (n : Nat), K.lookup a = some o ∧ o.cls = .type "tuple" ∧ o.data = .seq its n ∧ its.size ≤ sizeLine ∧ Vals xs its.toList
noncomputable def absV : Value → Option V
  | .none => some .non
  | .bool b => some (.bl b)
  | .int i _ => some (.int i)
  | .str x _ => some (.str x)
  | .bytes b _ => some (.byt b)
  | .float b _ => some (.flt b)
  | .ref a => some (.ref a)
  | .type n => some (.ty n)
  | _ => none
theorem RelV.abs {x : V} {u : Value} (r : RelV x u) : absV u = some x := by
  cases x with
  | non => cases r; rfl
  | bl _ => cases r; rfl
  | int _ => obtain ⟨t, rfl⟩ := r; rfl
  | str _ => obtain ⟨t, rfl⟩ := r; rfl
  | byt _ => obtain ⟨t, rfl⟩ := r; rfl
  | flt _ => obtain ⟨t, rfl⟩ := r; rfl
  | ref _ => cases r; rfl
  | ty _ => cases r; rfl
theorem RelV.inj {x y : V} {u : Value} (r : RelV x u) (q : RelV y u) : x = y := Option.some.inj (r.abs.symm.trans q.abs)
theorem Vals.inj : ∀ {xs ys : List V} {us : List Value}, Vals xs us → Vals ys us → xs = ys
  | _, _, _, .nil, .nil => rfl
  | _, _, _, .cons r t, .cons r' t' => by rw [r.inj r', Vals.inj t t']
section
variable {X : Cx} {pins : List (Addr × Obj)} {σ : St} {H : Hp} {s : Shared} {a : Addr} {xs ys : List V}
theorem SqL.of {K : PySem.W.Frag} (h : H a = some (.lst xs)) : SqL K H a xs := .inl (.inl h)
theorem SqT.of {K : PySem.W.Frag} (h : H a = some (.tup xs)) : SqT K H a xs := .inl (.inl h)
theorem Inv.list (I : Inv X pins σ H s) (h : SqL X.K H a xs) : ∃ its : List Value, Vals xs its ∧ PlainL s.heap a its.toArray ∧ xs.length ≤ sizeLine := by
  rcases h with h | ⟨o, its, n, hk, hc, hd, hs, hz, r⟩
  · obtain ⟨z, its, n, r, e⟩ := h.ok I.hok
    exact ⟨its, r, ⟨_, n, e, rfl, rfl, rfl⟩, z⟩
  · refine ⟨its.toList, r, ⟨o, n, I.kIn a o hk, hc, hd, by simpa using hs⟩, ?_⟩
    have e := r.length
    simp only [Array.length_toList] at e
    omega
theorem Inv.tuple (I : Inv X pins σ H s) (h : SqT X.K H a xs) : ∃ its : List Value, Vals xs its ∧ IsTup s.heap a its.toArray ∧ xs.length ≤ sizeLine := by
  rcases h with h | ⟨o, its, n, hk, hc, hs, hz, r⟩
  · obtain ⟨z, its, r, p⟩ := h.ok I.hok
    exact ⟨its, r, p, z⟩
  · refine ⟨its.toList, r, ⟨o, I.kIn a o hk, hc, n, by simpa using hs⟩, ?_⟩
    have e := r.length
    simp only [Array.length_toList] at e
    omega
theorem Inv.list_inj (I : Inv X pins σ H s) (h : SqL X.K H a xs) (h' : SqL X.K H a ys) : xs = ys := by
  obtain ⟨its, r, ⟨o, n, e, _, _, d⟩, _⟩ := I.list h
  obtain ⟨its', r', ⟨o', n', e', _, _, d'⟩, _⟩ := I.list h'
  rw [e] at e'; cases e'
  rw [d] at d'
  injection d' with d1 _
  have : its = its' := by simpa using congrArg Array.toList d1
  subst this
  exact r.inj r'
theorem Inv.tuple_inj (I : Inv X pins σ H s) (h : SqT X.K H a xs) (h' : SqT X.K H a ys) : xs = ys := by
  obtain ⟨its, r, ⟨o, e, _, n, d⟩, _⟩ := I.tuple h
  obtain ⟨its', r', ⟨o', e', _, n', d'⟩, _⟩ := I.tuple h'
  rw [e] at e'; cases e'
  rw [d] at d'
  injection d' with d1 _
  have : its = its' := by simpa using congrArg Array.toList d1
  subst this
  exact r.inj r'
end
noncomputable abbrev Cx.wish (X : Cx) (E : Value → Shared → Prop) : Cx := { X with xe := E }
noncomputable abbrev Cx.nox (X : Cx) : Cx := X.wish fun _ _ => False
theorem Cx.Ok.wish {X : Cx} (ok : X.Ok) (E : Value → Shared → Prop) : (X.wish E).Ok :=
  ⟨ok.mod, ok.kind, ok.glob, ok.blt, ok.above, ok.inj, ok.has, ok.cab, ok.hd, ok.frames, ok.stk, ok.exf, ok.bs, ok.bsz, ok.noex, ok.exfs, ok.funs, ok.frf⟩
theorem Cx.Ok.unwish {X : Cx} {E : Value → Shared → Prop} (ok : (X.wish E).Ok) : X.Ok :=
  ⟨ok.mod, ok.kind, ok.glob, ok.blt, ok.above, ok.inj, ok.has, ok.cab, ok.hd, ok.frames, ok.stk, ok.exf, ok.bs, ok.bsz, ok.noex, ok.exfs, ok.funs, ok.frf⟩
section
variable {X : Cx} {pins : List (Addr × Obj)} {σ : St} {H : Hp} {s : Shared} {E : Value → Shared → Prop}
theorem Inv.wish (I : Inv X pins σ H s) (E : Value → Shared → Prop) : Inv (X.wish E) pins σ H s := ⟨I.ok.wish E, I.os, I.bare, I.base, I.loc, I.cell, I.free, I.freeC, I.pin, I.hok, I.len⟩
theorem Inv.unwish (I : Inv (X.wish E) pins σ H s) : Inv X pins σ H s := ⟨I.ok.unwish, I.os, I.bare, I.base, I.loc, I.cell, I.free, I.freeC, I.pin, I.hok, I.len⟩
theorem SP.unwish {D : Ends} {f : Flow} {s' : Shared} (h : SP (X.wish E) pins D f s') : SP X pins D f s' := by
  cases f with
  | next => obtain ⟨σ', H', I, q⟩ := h; exact ⟨σ', H', I.unwish, q⟩
  | brk => obtain ⟨σ', H', I, q⟩ := h; exact ⟨σ', H', I.unwish, q⟩
  | cont => obtain ⟨σ', H', I, q⟩ := h; exact ⟨σ', H', I.unwish, q⟩
  | ret u => obtain ⟨v, σ', H', I, r, q⟩ := h; exact ⟨v, σ', H', I.unwish, r, q⟩
theorem PSs.nox {st : List Stmt} {t : TS} (h : PSs X.nox st t) : PSs X st t := fun pins s σ H D I hw =>
  wpAny_mono (h pins s σ H D (I.wish _) hw) (fun _ _ q => q.unwish) fun _ _ z => False.elim z
end
section
variable {X : Cx} {st : Stmt} {rest : List Stmt} {t u : TS} {e : Expr} {te : TE} {pos : Pos}
noncomputable def tNext : TS := fun D σ H => D.nx σ H
noncomputable def tSeq (t u : TS) : TS := fun D σ H => t { D with nx := u D } σ H
theorem pss_nil : PSs X [] tNext := fun _ _ σ H _ I h => wpAny_execs_nil ⟨σ, H, I, h⟩
theorem pss_cons (h1 : PS X st t) (h2 : PSs X rest u) : PSs X (st :: rest) (tSeq t u) := by
  intro pins s σ H D I h
  refine wpAny_execs_cons (thn (h1 pins s σ H { D with nx := u D } I h) fun f s1 q => ?_)
  cases f with
  | next =>
    obtain ⟨σ', H', I', q⟩ := q
    exact h2 pins s1 σ' H' D I' q
  | ret v => exact q
  | brk => exact q
  | cont => exact q
theorem pss_one (h1 : PS X st t) : PSs X [st] t := by
  intro pins s σ H D I h
  refine wpAny_execs_cons (thn (h1 pins s σ H D I h) fun f s1 q => ?_)
  cases f with
  | next => exact wpAny_execs_nil q
  | ret v => exact q
  | brk => exact q
  | cont => exact q
theorem Inv.quiet {pins : List (Addr × Obj)} {σ : St} {H : Hp} {s : Shared} (I : Inv X pins σ H s) : interactive X.env = false := by simp [interactive, I.ok.kind]
noncomputable def tDrop (te : TE) : TS := fun D σ H => te σ H fun _ H1 => D.nx σ H1
theorem ps_expr (he : PE X e te) (hs : swapsWith e none pos.line X.env = pure false := by rfl) : PS X (.Expr e pos) (tDrop te) := by
  intro pins s σ H D I h
  exact wpAny_Expr_any (thn (he pins s σ H _ I h) fun v s1 ⟨x, H1, I1, r1, q1⟩ => ⟨σ, H1, I1, q1⟩) I.quiet hs
noncomputable def tRet (te : TE) : TS := fun D σ H => te σ H D.rt
theorem ps_ret (he : PE X e te) : PS X (.Return (some e) pos) (tRet te) := by
  intro pins s σ H D I h
  exact wpAny_Return_some (thn (he pins s σ H _ I h) fun v s1 ⟨x, H1, I1, r1, q1⟩ => ⟨x, σ, H1, I1, r1, q1⟩)
noncomputable def tIfS (c : TT) (t u : TS) : TS := fun D σ H => c σ H fun b H1 => if b = true then t D σ H1 else u D σ H1
theorem ps_if {c : Expr} {a b : List Stmt} {tc : TT} (hc : PT X c tc) (ha : PSs X a t) (hb : PSs X b u) : PS X (.If c a b pos) (tIfS tc t u) := by
  intro pins s σ H D I h
  refine wpAny_If (thn (hc pins s σ H _ I h) fun d s1 zz_ => ?_)
  obtain ⟨H1, I1, q1⟩ := zz_
  cases d with
  | true => exact ha pins s1 σ H1 D I1 q1
  | false => exact hb pins s1 σ H1 D I1 q1
noncomputable def tNever : TS := fun _ _ _ => False
theorem ps_never : PS X st tNever := fun _ _ _ _ _ _ h => h.elim
end
noncomputable abbrev TG := V → St → Hp → (St → Hp → Prop) → Prop
noncomputable abbrev TGs := List V → St → Hp → (St → Hp → Prop) → Prop
noncomputable def PG (X : Cx) (target : Expr) (t : TG) : Prop :=
  ∀ (pins : List (Addr × Obj)) (s : Shared) (σ : St) (H : Hp) (v : V) (u : Value) (Q : St → Hp → Prop), Inv X pins σ H s → RelV v u → t v σ H Q →
    wpAny (model X.prog X.w) X.A (assign target X.env u) (fun _ s' => ∃ σ' H', Inv X pins σ' H' s' ∧ Q σ' H') X.xe s
noncomputable def PGs (X : Cx) (ts : List Expr) (t : TGs) : Prop :=
  ∀ (pins : List (Addr × Obj)) (s : Shared) (σ : St) (H : Hp) (vs : List V) (us : List Value) (Q : St → Hp → Prop), Inv X pins σ H s → Vals vs us → t vs σ H Q →
    wpAny (model X.prog X.w) X.A (assignInOrder ((assignEach ts X.env).map (·.2)) us) (fun _ s' => ∃ σ' H', Inv X pins σ' H' s' ∧ Q σ' H') X.xe s
noncomputable abbrev TSet := V → V → V → Hp → (Hp → Prop) → Prop
noncomputable def PSet (X : Cx) (t : TSet) : Prop :=
  ∀ (pins : List (Addr × Obj)) (s : Shared) (σ : St) (H : Hp) (o i v : V) (ov iv u : Value) (Q : Hp → Prop), Inv X pins σ H s → RelV o ov → RelV i iv → RelV v u → t o i v H Q →
    wpAny (model X.prog X.w) X.A (setItem ov iv u) (fun _ s' => ∃ H', Inv X pins σ H' s' ∧ Q H') X.xe s
section
variable {X : Cx} {pos : Pos}
noncomputable def gName (i : Nat) : TG := fun v σ H Q => Q (σ.set i (some v)) H
theorem pg_name {i : Nat} {x : Str} (hN : X.N.Nodup) (hi : X.N[i]? = some x) (hx : Loc X.env.scope x) (hf : X.fn x = true ∨ X.env.scope.names.lookup x = some .local := by first | exact .inl rfl | exact .inr rfl | assumption) : PG X (.Name x pos) (gName i) := by
  intro pins s σ H v u Q I r h
  exact wpAny_assign_Name (store_ok I hN hi hx r (fun s' I' => ⟨_, H, I', h⟩) hf)
noncomputable def gNil : TGs := fun vs σ H Q => vs = [] ∧ Q σ H
inductive gCons_P (t : TG) (u : TGs) (vs : List V) (σ : St) (H : Hp) (Q : (St → Hp → Prop)) : Prop
  | mk (v r : _) (h1 : vs = v :: r) (h2 : t v σ H fun σ' H' => u r σ' H' Q) : gCons_P t u vs σ H Q
noncomputable def gCons (t : TG) (u : TGs) : TGs := fun vs σ H Q => gCons_P t u vs σ H Q
theorem pgs_nil : PGs X [] gNil := by
  intro pins s σ H vs us Q I r h
  obtain ⟨e, h⟩ := h
  subst e
  cases r
  exact assignInOrder_nil ⟨σ, H, I, h⟩
theorem pgs_cons {e : Expr} {es : List Expr} {t : TG} {u : TGs} (h1 : PG X e t) (h2 : PGs X es u)
    (hs : (assignEach (e :: es) X.env).map (·.2) = assign e X.env :: (assignEach es X.env).map (·.2) := by rfl) : PGs X (e :: es) (gCons t u) := by
  intro pins s σ H vs us Q I r h
  obtain ⟨v, vr, e1, h⟩ := h
  subst e1
  cases r with
  | cons r rr =>
    rw [hs]
    refine assignInOrder_cons (thn (h1 pins s σ H _ _ _ I r h) fun _ s1 zz_ => ?_)
    obtain ⟨σ1, H1, I1, q1⟩ := zz_
    exact h2 pins s1 σ1 H1 _ _ Q I1 rr q1
inductive gTup_P (K : PySem.W.Frag) (n : Nat) (t : TGs) (v : V) (σ : St) (H : Hp) (Q : (St → Hp → Prop)) : Prop
  | mk (a xs : _) (h1 : v = .ref a) (h2 : SqT K H a xs) (h3 : xs.length = n) (h4 : t xs σ H Q) : gTup_P K n t v σ H Q
noncomputable def gTup (K : PySem.W.Frag) (n : Nat) (t : TGs) : TG := fun v σ H Q => gTup_P K n t v σ H Q
theorem pg_tup {es : List Expr} {k : Nat} {t : TGs} {n : Nat} (hc : X.calm = true) (h : PGs X es t)
    (hn : (assignEach es X.env).length = n := by rfl) (hst : (assignEach es X.env).findIdx? (·.1) = none := by rfl) : PG X (.Tuple es k pos) (gTup X.K n t) := by
  intro pins s σ H v u Q I r hw
  obtain ⟨a, xs, e1, hq, hl, hw⟩ := hw
  subst e1
  cases r
  obtain ⟨its, rv, ht, hz⟩ := I.tuple hq
  refine assign_Tuple_tuple (I.ok.hd hc) ht (by simp [hn, ← hl, rv.length]) hst fun h' hx => ?_
  have I1 : Inv X pins σ H { s with heap := h' } := I.kept (t' := s.toks) fun b o e => hx b o (Nat.ne_of_lt (Heap.lt_size e)) e
  exact h pins _ σ H xs _ Q I1 (by simpa using rv) hw
noncomputable def gSub (to ti : TE) (t : TSet) : TG := fun v σ H Q => to σ H fun o H1 => ti σ H1 fun i H2 => t o i v H2 fun H3 => Q σ H3
theorem pg_sub {o i : Expr} {to ti : TE} {t : TSet} (ho : PE X o to) (hi : PE X i ti) (hs : PSet X t)
    (ha : ∀ v, assign (.Subscript o i pos) X.env v = (do
      let ov ← holding [v] (eval o X.env)
      let iv ← holding [v, ov] (eval i X.env)
      standAt pos
      holding [v, ov, iv] (setItem ov iv v)
      release [v, ov, iv] []) := by intro _; rfl) : PG X (.Subscript o i pos) (gSub to ti t) := by
  intro pins s σ H v u Q I r h
  rw [ha]
  refine wpAny_bind (wpAny_holding (thn (ho pins s σ H _ I h) fun ov s1 zz_ => ?_))
  obtain ⟨x, H1, I1, r1, q1⟩ := zz_
  refine wpAny_bind (wpAny_holding (thn (hi pins s1 σ H1 _ I1 q1) fun iv s2 zz_ => ?_))
  obtain ⟨y, H2, I2, r2, q2⟩ := zz_
  refine wpAny_bind (wpAny_standAt (wpAny_bind (wpAny_holding (thn (hs pins s2 σ H2 x y v ov iv u _ I2 r1 r2 r q2) fun _ s3 zz_ => ?_))))
  obtain ⟨H3, I3, q3⟩ := zz_
  exact wpAny_release ⟨σ, H3, I3, q3⟩
noncomputable def tAsg (te : TE) (g : TG) : TS := fun D σ H => te σ H fun x H1 => g x σ H1 D.nx
theorem ps_asg {tg e : Expr} {te : TE} {g : TG} (he : PE X e te) (hg : PG X tg g) (hs : swapsWithSole [tg] e pos.line X.env = pure false := by rfl) (hw : swappedStores [tg] e X.env = pure none := by rfl)
    (h1 : (assignEach [tg] X.env).map (·.2) = [assign tg X.env] := by rfl) : PS X (.Assign [tg] e pos) (tAsg te g) := by
  intro pins s σ H D I h
  refine wpAny_Assign_stores (thn (he pins s σ H _ I h) fun v s1 zz_ => ?_) hs hw
  obtain ⟨x, H1, I1, r1, q1⟩ := zz_
  rw [h1]
  exact thn (hg pins s1 σ H1 x v _ I1 r1 q1) fun _ s2 q => q
theorem ps_set {i : Nat} {x : Str} {e : Expr} {te : TE} {pos' : Pos} (hN : X.N.Nodup) (hi : X.N[i]? = some x) (hx : Loc X.env.scope x) (he : PE X e te) (hs : swapsWith e (some (.Name x pos')) pos.line X.env = pure false := by rfl) (hf : X.fn x = true ∨ X.env.scope.names.lookup x = some .local := by first | exact .inl rfl | exact .inr rfl | assumption) :
    PS X (.Assign [.Name x pos'] e pos) (tAsg te (gName i)) := by
  intro pins s σ H D I h
  refine wpAny_Assign_Name (thn (he pins s σ H _ I h) fun v s1 zz_ => ?_) hs
  obtain ⟨y, H1, I1, r1, q1⟩ := zz_
  exact store_ok I1 hN hi hx r1 (fun s2 I2 => ⟨_, H1, I2, q1⟩) hf
end
section
variable {X : Cx} {pos : Pos}
end
structure It where
  go : Nat → Hp → Prop
  yld : Nat → Hp → V → Hp → Prop
  stop : Nat → Hp → Prop
noncomputable def FpOk (X : Cx) (pins : List (Addr × Obj)) (H : Hp) (b : Addr) : Prop :=
  H b = none ∧ b ≠ X.env.locals ∧ b ∉ X.fs ∧ (b ∈ X.ex ∨ X.s₀.heap.objs.size ≤ b) ∧ (∀ x c, X.env.cells.lookup x = some c → c ≠ b) ∧ ∀ p ∈ X.pn ++ pins, p.1 ≠ b
theorem Inv.fpOk {X : Cx} {pins : List (Addr × Obj)} {σ : St} {H H' : Hp} {s : Shared} {b : Addr} (I : Inv X pins σ H s) (hb : s.heap.objs.size ≤ b) (hn : H' b = none) : FpOk X pins H' b := by
  refine ⟨hn, Nat.ne_of_gt (Nat.lt_of_lt_of_le I.lt hb), I.nofs hb, .inr (Nat.le_trans I.sz hb), fun x c e z => ?_, fun p hp z => ?_⟩
  · obtain ⟨v, q⟩ := I.cell x c e
    exact absurd (Nat.lt_of_lt_of_le q.lt (by rw [z]; exact hb)) (Nat.lt_irrefl _)
  · exact absurd (Nat.lt_of_lt_of_le (Heap.lt_size (I.pin p hp).1) (by rw [z]; exact hb)) (Nat.lt_irrefl _)
structure Turn (P : Program) (w : World) (K : PySem.W.Frag) (tg : Expr) (J : It) (fp : List Addr) (it : Addr) (tn : Nat → Heap → Prop) : Prop where
  mem : it ∈ fp
  obj : ∀ i h, tn i h → ∀ b ∈ fp, ∃ o, h.get? b = some o ∧ ∀ v, o.data ≠ .cell v
  keep : ∀ i h h', tn i h → (∀ b ∈ fp, ∀ o, h.get? b = some o → h'.get? b = some o) → tn i h'
  item : ∀ (X : Cx), X.prog = P → X.w = w → X.K = K → X.calm = true → ∀ (i : Nat) (pins : List (Addr × Obj)) (s : Shared) (σ : St) (H : Hp) (E : Value → Shared → Prop), Inv X pins σ H s → (∀ b ∈ fp, FpOk X pins H b) → tn i s.heap → J.go i H →
    wpAny (model P w) X.A (pyNext (.ref it)) (fun r s1 => ∃ u, r = some u ∧
      wpAny (model P w) X.A (letOwnedTupleGo tg (.ref it) u) (fun _ s2 => ∃ x H', Inv X pins σ H' s2 ∧ RelV x u ∧ J.yld i H x H' ∧ tn (i + 1) s2.heap ∧ ∀ b ∈ fp, H' b = none) E s1) E s
  done : ∀ (X : Cx), X.prog = P → X.w = w → X.K = K → X.calm = true → ∀ (i : Nat) (pins : List (Addr × Obj)) (s : Shared) (σ : St) (H : Hp) (E : Value → Shared → Prop), Inv X pins σ H s → (∀ b ∈ fp, FpOk X pins H b) → tn i s.heap → J.stop i H →
    wpAny (model P w) X.A (pyNext (.ref it)) (fun r s1 => r = none ∧ Inv X pins σ H s1) E s
  self : ∀ (A : Around) (i : Nat) (s : Shared) (Q : Value → Shared → Prop) (E : Value → Shared → Prop), tn i s.heap → Q (.ref it) s → wpAny (model P w) A (pyIter (.ref it)) Q E s
noncomputable abbrev TI := St → Hp → (It → Hp → Prop) → Prop
noncomputable def PIE (X : Cx) (pins : List (Addr × Obj)) (σ : St) (tg : Expr) (R : It → Hp → Prop) (itv : Value) (s2 : Shared) : Prop :=
  ∃ (it : Addr) (fp : List Addr) (tn : Nat → Heap → Prop) (J : It) (H' : Hp), itv = .ref it ∧ Inv X pins σ H' s2 ∧ Turn X.prog X.w X.K tg J fp it tn ∧ tn 0 s2.heap ∧ (∀ b ∈ fp, FpOk X pins H' b) ∧ R J H'
noncomputable def PI (X : Cx) (tg iter : Expr) (wi : TI) : Prop :=
  ∀ (pins : List (Addr × Obj)) (s : Shared) (σ : St) (H : Hp) (R : It → Hp → Prop), Inv X pins σ H s → wi σ H R →
    wpAny (model X.prog X.w) X.A (eval iter X.env) (fun v s1 => wpAny (model X.prog X.w) X.A (pyIter v) (PIE X pins σ tg R) X.xe s1) X.xe s
theorem go_of {M : Model} {A : Around} {E : Value → Shared → Prop} {s : Shared} {tg : Expr} {it : Addr} {u : Value} {o : Obj} {n : String} {vs : Array Value} {Q : Unit → Shared → Prop} (ho : s.heap.get? it = some o) (hc : o.cls = .type n) (hd : o.data = .fields vs)
    (hn : ["enumerate", "zip", "dict_itemiterator", "dict_reverseitemiterator", "odict_iterator", "itertools.zip_longest", "itertools.pairwise"].contains n = false) (hQ : Q () s) : wpAny M A (letOwnedTupleGo tg (.ref it) u) Q E s := by
  unfold letOwnedTupleGo
  cases tg <;> first
    | exact wpAny_pure hQ
    | (cases u <;> first
        | exact wpAny_pure hQ
        | (refine wpAny_bind (wpAny_load ho ?_)
           rw [hc, hd]
           show wpAny M A (if (["enumerate", "zip", "dict_itemiterator", "dict_reverseitemiterator", "odict_iterator", "itertools.zip_longest", "itertools.pairwise"].contains n && vs[0]? == some (rawInt _)) = true then _ else _) Q E s
           rw [if_neg (by intro h; rw [hn, Bool.false_and] at h; cases h)]
           exact wpAny_pure hQ))
noncomputable def Itl (K : PySem.W.Frag) (a : Addr) : It :=
  ⟨fun i H => ∃ xs x, SqL K H a xs ∧ xs[i]? = some x, fun i H x H' => H' = H ∧ ∀ xs, SqL K H a xs → xs[i]? = some x, fun i H => ∃ xs, SqL K H a xs ∧ xs.length ≤ i⟩
noncomputable def Itr (lo : Int) (n : Nat) : It := ⟨fun i _ => i < n, fun i H x H' => H' = H ∧ x = .int (lo + i), fun i _ => n ≤ i⟩
theorem turn_list {P : Program} {w : World} {K : PySem.W.Frag} {tg : Expr} (a it : Addr) : Turn P w K tg (Itl K a) [it] it (fun i h => h.IsListIter it a i) where
  mem := by simp
  obj := fun i h st b hb => by
    have e : b = it := by simpa using hb
    subst e
    obtain ⟨o, e, c, d⟩ := st
    exact ⟨o, e, fun v z => by rw [d] at z; cases z⟩
  keep := fun i h h' st k => st.at fun o e => k it (by simp) o e
  item := by
    intro X hP hw hK hc i pins s σ H E I hf st hg
    subst hP hw hK
    obtain ⟨xs, x, hq, hx⟩ := hg
    obtain ⟨its, rv, p, hz⟩ := I.list hq
    obtain ⟨u, hu, ru⟩ := rv.get hx
    obtain ⟨f0, f1, f2, f3, f4, f5⟩ := hf it (by simp)
    refine wpAny_pyNext_list_item st p.isList (x := u) (by simpa using hu) fun h' st' sb => ?_
    have I1 : Inv X pins σ H { s with heap := h' } := I.turned (t' := s.toks) (fun b o hb e => (sb.2 b hb).trans e) f0 f1 f3 f4 f5
    obtain ⟨o, e, c, d⟩ := id st'
    exact ⟨u, rfl, go_of (s := { s with heap := h' }) e c d (by decide) ⟨x, H, I1, ru, ⟨rfl, fun ys hy => by rw [I.list_inj hy hq]; exact hx⟩, st', fun b hb => (hf b hb).1⟩⟩
  done := by
    intro X hP hw hK hc i pins s σ H E I hf st hg
    subst hP hw hK
    obtain ⟨xs, hq, hx⟩ := hg
    obtain ⟨its, rv, p, hz⟩ := I.list hq
    obtain ⟨f0, f1, f2, f3, f4, f5⟩ := hf it (by simp)
    have hl := rv.length
    exact wpAny_pyNext_list_end (I.ok.hd hc) st p.isList (by simp; omega) fun h' eb => ⟨rfl, I.turned (t' := s.toks) (fun b o hb e => eb b o hb e) f0 f1 f3 f4 f5⟩
  self := fun _ _ _ _ _ st h => wpAny_pyIter_listiter st h
theorem turn_range {P : Program} {w : World} {K : PySem.W.Frag} {tg : Expr} (it : Addr) (lo : Int) (n : Nat) : Turn P w K tg (Itr lo n) [it] it (fun i h => IsRangeIter h it (lo + (i : Nat) * 1) ((n : Int) - (i : Nat)) 1) where
  mem := by simp
  obj := fun i h st b hb => by
    have e : b = it := by simpa using hb
    subst e
    exact ⟨_, st, fun v z => by
      have z' : Data.fields _ = Data.cell v := z
      cases z'⟩
  keep := fun i h h' st k => k it (by simp) _ st
  item := by
    intro X hP hw hK hc i pins s σ H E I hf st hg
    subst hP hw hK
    obtain ⟨f0, f1, f2, f3, f4, f5⟩ := hf it (by simp)
    have W := Walks.range (prog := X.prog) (w := X.w) (I.ok.hd hc) it lo 1 n
    refine W.item i s _ _ hg st fun v h' tk hv st' kk => ?_
    obtain ⟨t, rfl⟩ := hv
    have I1 : Inv X pins σ H { s with heap := h', toks := tk } := I.turned (fun b o hb e => kk b o (by simpa using hb) e) f0 f1 f3 f4 f5
    refine ⟨_, rfl, go_of (s := { s with heap := h', toks := tk }) (n := "range_iterator") st' rfl rfl (by decide) ⟨.int (lo + i), H, I1, ⟨t, ?_⟩, ⟨rfl, rfl⟩, st', fun b hb => (hf b hb).1⟩⟩
    rw [Int.mul_one]
  done := by
    intro X hP hw hK hc i pins s σ H E I hf st hg
    subst hP hw hK
    obtain ⟨f0, f1, f2, f3, f4, f5⟩ := hf it (by simp)
    exact wpAny_pyNext_range_end (I.ok.hd hc) st (by have : n ≤ i := hg; omega) fun h' eb => ⟨rfl, I.turned (t' := s.toks) (fun b o hb e => eb b o hb e) f0 f1 f3 f4 f5⟩
  self := fun _ _ _ _ _ st h => wpAny_pyIter_rangeiter st h
end L2
namespace L2
open PySem PySem.Spec PyProof.Rows
section
variable {X : Cx} {tg : Expr}
inductive iList_P (K : PySem.W.Frag) (R : (It → Hp → Prop)) (x : V) (H1 : Hp) : Prop
  | mk (a : _) (h1 : x = .ref a) (h2 : (∃ xs, SqL K H1 a xs)) (h3 : R (Itl K a) H1) : iList_P K R x H1
noncomputable def iList (K : PySem.W.Frag) (tl : TE) : TI := fun σ H R => tl σ H fun x H1 => iList_P K R x H1
theorem pi_list {l : Expr} {tl : TE} (hl : PE X l tl) : PI X tg l (iList X.K tl) := by
  intro pins s σ H R I h
  refine thn (hl pins s σ H _ I h) fun v s1 zz_ => ?_
  obtain ⟨x, H1, I1, r1, q1⟩ := zz_
  obtain ⟨a, e, ⟨xs, hq⟩, q⟩ := q1
  subst e
  cases r1
  obtain ⟨its, rv, p, hz⟩ := I1.list hq
  refine wpAny_pyIter_list p.isList ?_
  refine ⟨s1.heap.objs.size, [s1.heap.objs.size], _, _, H1, rfl, I1.kept (t' := s1.toks) fun b o e => Heap.get?_push_of_some _ e, turn_list a _, ⟨_, Heap.get?_push_size _ rfl, rfl, rfl⟩, fun b hb => ?_, q⟩
  have e : b = s1.heap.objs.size := by simpa using hb
  subst e
  exact I1.fpOk (Nat.le_refl _) (I1.hok.fresh (Nat.le_refl _))
theorem range_it {pins : List (Addr × Obj)} {σ : St} {H : Hp} {s : Shared} {R : It → Hp → Prop} {E : Value → Shared → Prop} {lo hi : Int} {t u v : Tok} {tk : Nat} (I : Inv X pins σ H s) (h1 : -(2 ^ 62) ≤ lo) (h2 : lo < 2 ^ 62) (h3 : -(2 ^ 62) ≤ hi) (h4 : hi < 2 ^ 62)
    (q : R (Itr lo (hi - lo).toNat) H) : wpAny (model X.prog X.w) X.A (pyIter (.ref s.heap.objs.size)) (PIE X pins σ tg R) E { s with heap := s.heap.push { cls := .type "range", data := .fields #[.int lo t, .int hi u, .int 1 v] }, toks := tk } := by
  refine wpAny_pyIter_range (IsRange.new ..) (small_one h1 h2 h3 h4) ?_
  have I1 : Inv X pins σ H { s with heap := s.heap.push { cls := .type "range", data := .fields #[.int lo t, .int hi u, .int 1 v] }, toks := tk } := I.kept fun b o e => Heap.get?_push_of_some _ e
  refine ⟨(s.heap.push { cls := .type "range", data := .fields #[.int lo t, .int hi u, .int 1 v] }).objs.size, [(s.heap.push { cls := .type "range", data := .fields #[.int lo t, .int hi u, .int 1 v] }).objs.size], _, _, H, rfl,
    I1.kept (t' := tk) fun b o e => Heap.get?_push_of_some _ e, turn_range _ lo (hi - lo).toNat, ?_, fun b hb => ?_, q⟩
  · have e1 : lo + ((0 : Nat) : Int) * 1 = lo := by simp
    have e2 : (((hi - lo).toNat : Nat) : Int) - ((0 : Nat) : Int) = Builtin.Range.rangeSize lo hi 1 := by rw [rangeSize_one]; split <;> omega
    show IsRangeIter _ _ (lo + ((0 : Nat) : Int) * 1) ((((hi - lo).toNat : Nat) : Int) - ((0 : Nat) : Int)) 1
    rw [e1, e2]
    exact Heap.get?_push_size _ rfl
  · have e : b = (s.heap.push { cls := .type "range", data := .fields #[.int lo t, .int hi u, .int 1 v] }).objs.size := by simpa using hb
    subst e
    exact I1.fpOk (Nat.le_refl _) (I1.hok.fresh (Nat.le_refl _))
inductive iRng1_P (R : (It → Hp → Prop)) (vs : List V) (H1 : Hp) : Prop
  | mk (j : Int) (h1 : vs = [.int j]) (h2 : -(2 ^ 62) ≤ j) (h3 : j < 2 ^ 62) (h4 : R (Itr 0 j.toNat) H1) : iRng1_P R vs H1
noncomputable def iRng1 (ta : TA) : TI := fun σ H R => ta σ H fun vs H1 => iRng1_P R vs H1
theorem pi_range1 {a : Expr} {ta : TA} {p pos : Pos} (hg : Gl X "range") (hm : X.mg "range" = none) (ha : PA X [a] ta) (hs : starEach [a] X.env = [(false, eval a X.env)] := by rfl) : PI X tg (.Call (.Name "range" p) [a] [] pos) (iRng1 ta) := by
  intro pins s σ H R I h
  refine Call_ (ld_blt I hg hm boot_range (PyProof.Rows.callWith_type1 (thn (ha pos pins s σ H _ I h) fun us s1 zz_ => ?_) hs rfl))
  obtain ⟨vs, H1, I1, r1, q1⟩ := zz_
  obtain ⟨j, e, q1, q2, q⟩ := q1
  subst e
  cases r1 with
  | cons r rr =>
    cases rr
    obtain ⟨t, rfl⟩ := r
    exact call_range_1 (range_it I1 (by omega) (by omega) q1 q2 (by simpa using q))
noncomputable def tFor (wi : TI) (g : TG) (tb : TS) : TS := fun D σ H => wi σ H fun J H1 => ∃ W : Nat → Nat → St → Hp → Prop, (∃ m, W 0 m σ H1) ∧ ∀ i m σ H, W i m σ H →
  (J.stop i H ∧ D.nx σ H) ∨ (J.go i H ∧ ∃ N : St → Hp → Prop, (∀ σ' H', N σ' H' → ∃ m', m' < m ∧ W (i + 1) m' σ' H') ∧ ∀ x H', J.yld i H x H' → g x σ H' fun σ2 H2 => tb { D with nx := N, ct := N, bk := D.nx } σ2 H2)
noncomputable def pinsAt (fp : List Addr) (h : Heap) : List (Addr × Obj) := fp.filterMap fun b => (h.get? b).map fun o => (b, o)
theorem mem_pinsAt {fp : List Addr} {h : Heap} {b : Addr} {o : Obj} (hb : b ∈ fp) (e : h.get? b = some o) : (b, o) ∈ pinsAt fp h := List.mem_filterMap.mpr ⟨b, hb, by rw [e]; rfl⟩
theorem of_pinsAt {fp : List Addr} {h : Heap} {p : Addr × Obj} (hp : p ∈ pinsAt fp h) : p.1 ∈ fp ∧ h.get? p.1 = some p.2 := by
  obtain ⟨b, hb, e⟩ := List.mem_filterMap.mp hp
  cases q : h.get? b with
  | none => rw [q] at e; cases e
  | some o =>
    rw [q] at e
    have e' : (b, o) = p := Option.some.inj e
    subst e'
    exact ⟨hb, q⟩
theorem Inv.pinned {pins : List (Addr × Obj)} {σ : St} {H : Hp} {s : Shared} {fp : List Addr} (I : Inv X pins σ H s) (hf : ∀ b ∈ fp, FpOk X pins H b) (ho : ∀ b ∈ fp, ∃ o, s.heap.get? b = some o ∧ ∀ v, o.data ≠ .cell v) : Inv X (pins ++ pinsAt fp s.heap) σ H s :=
  I.pins_of fun p hp => (List.mem_append.mp hp).elim (fun z => I.pin p (List.mem_append_right _ z)) fun z => by
    obtain ⟨hb, e⟩ := of_pinsAt z
    obtain ⟨f0, f1, f2, _⟩ := hf p.1 hb
    obtain ⟨o, e', d⟩ := ho p.1 hb
    rw [e] at e'; cases e'
    exact ⟨e, f0, f1, f2, d⟩
theorem Inv.unpinned {pins pl : List (Addr × Obj)} {σ : St} {H : Hp} {s : Shared} (I : Inv X (pins ++ pl) σ H s) : Inv X pins σ H s := I.pins_of fun p hp => I.pin p (List.mem_append_right _ (List.mem_append_left _ hp))
theorem ps_for {iter : Expr} {body : List Stmt} {wi : TI} {g : TG} {tb : TS} {pos : Pos} (hp : PassesOwn (model X.prog X.w) X.A X.env X.xe) (hc : X.calm = true) (hi : PI X tg iter wi) (hg : PG X tg g) (hb : PSs X body tb)
    (hs : ∀ x, foldedSetIterable iter X.env x = pure x := by intro _; rfl) : PS X (.For tg iter body [] pos) (tFor wi g tb) := by
  intro pins s σ H D I h
  refine wpAny_For (thn (hi pins s σ H _ I h) fun v s1 h1 => thn h1 fun itv s2 h2 => ?_) hs
  obtain ⟨it, fp, tn, J, H2, e, I2, T, st2, f2, W, ⟨m0, w0⟩, turn⟩ := h2
  subst e
  -- what stays true of the iterator's objects through the loop
  have stat : ∀ {H' : Hp}, (∀ b ∈ fp, H' b = none) → ∀ b ∈ fp, FpOk X pins H' b := fun hn b hb => ⟨hn b hb, (f2 b hb).2⟩
  refine codeAny_forLoop_any (fun n s' => ∃ i σ' H', Inv X pins σ' H' s' ∧ tn i s'.heap ∧ (∀ b ∈ fp, H' b = none) ∧ W i n σ' H') ?_ m0 ⟨0, σ, H2, I2, st2, fun b hb => (f2 b hb).1, w0⟩
  rintro n s3 ⟨i, σ3, H3, I3, st3, fr3, w3⟩
  rcases turn i n σ3 H3 w3 with ⟨stop, qn⟩ | ⟨go, N, hN, step⟩
  · refine wpAny_passesOwn hp (thn (T.done X rfl rfl rfl hc i pins s3 σ3 H3 X.xe I3 (stat fr3) st3 stop) fun r s4 ⟨hr, I4⟩ => ?_)
    subst hr
    exact wpAny_execs_nil ⟨σ3, H3, I4, qn⟩
  · refine wpAny_passesOwn hp (thn (T.item X rfl rfl rfl hc i pins s3 σ3 H3 X.xe I3 (stat fr3) st3 go) fun r s4 ⟨u, hr, h4⟩ => ?_)
    subst hr
    refine wpAny_passesOwn hp (thn h4 fun _ s5 zz_ => ?_)
    obtain ⟨x, H5, I5, r5, y5, st5, fr5⟩ := zz_
    have I5' := I5.pinned (stat fr5) (T.obj _ _ st5)
    refine wpAny_passesOwn hp (thn (hg _ s5 σ3 H5 x u _ I5' r5 (step x H5 y5)) fun _ s6 zz_ => ?_)
    obtain ⟨σ6, H6, I6, q6⟩ := zz_
    refine wpAny_passesOwn hp (thn (hb _ s6 σ6 H6 _ I6 q6) fun f s7 q7 => ?_)
    have again : ∀ {σ7 : St} {H7 : Hp}, Inv X (pins ++ pinsAt fp s5.heap) σ7 H7 s7 → N σ7 H7 → ∃ m, m < n ∧ ∃ i σ' H', Inv X pins σ' H' s7 ∧ tn i s7.heap ∧ (∀ b ∈ fp, H' b = none) ∧ W i m σ' H' := fun {σ7 H7} I7 n7 => by
      obtain ⟨m', hm, w7⟩ := hN σ7 H7 n7
      refine ⟨m', hm, i + 1, σ7, H7, I7.unpinned, T.keep _ _ _ st5 fun b hb o e => (I7.pin (b, o) (List.mem_append_right _ (List.mem_append_right _ (mem_pinsAt hb e)))).1, fun b hb => ?_, w7⟩
      obtain ⟨o, e, d⟩ := T.obj _ _ st5 b hb
      exact (I7.pin (b, o) (List.mem_append_right _ (List.mem_append_right _ (mem_pinsAt hb e)))).2.1
    cases f with
    | next => obtain ⟨σ7, H7, I7, n7⟩ := q7; exact again I7 n7
    | cont => obtain ⟨σ7, H7, I7, n7⟩ := q7; exact again I7 n7
    | brk => obtain ⟨σ7, H7, I7, q7⟩ := q7; exact ⟨σ7, H7, I7.unpinned, q7⟩
    | ret v => obtain ⟨x7, σ7, H7, I7, r7, q7⟩ := q7; exact ⟨x7, σ7, H7, I7.unpinned, r7, q7⟩
end
theorem for_list {K : PySem.W.Frag} {a : Addr} {xs : List V} {g : TG} {tb : TS} {D : Ends} {σ : St} {H : Hp} (Pv : Nat → St → Hp → Prop) (h0 : Pv 0 σ H) (hl : ∀ i σ H, i ≤ xs.length → Pv i σ H → SqL K H a xs)
    (hs : ∀ i x σ H, xs[i]? = some x → Pv i σ H → g x σ H fun σ2 H2 => tb { D with nx := Pv (i + 1), ct := Pv (i + 1), bk := D.nx } σ2 H2) (hd : ∀ σ H, Pv xs.length σ H → D.nx σ H) :
    ∃ W : Nat → Nat → St → Hp → Prop, (∃ m, W 0 m σ H) ∧ ∀ i m σ H, W i m σ H →
      ((Itl K a).stop i H ∧ D.nx σ H) ∨ ((Itl K a).go i H ∧ ∃ N : St → Hp → Prop, (∀ σ' H', N σ' H' → ∃ m', m' < m ∧ W (i + 1) m' σ' H') ∧ ∀ x H', (Itl K a).yld i H x H' → g x σ H' fun σ2 H2 => tb { D with nx := N, ct := N, bk := D.nx } σ2 H2) := by
  refine ⟨fun i m σ H => m = xs.length - i ∧ i ≤ xs.length ∧ Pv i σ H, ⟨xs.length, by simp, Nat.zero_le _, h0⟩, ?_⟩
  rintro i m σ H ⟨rfl, hi, p⟩
  have q := hl i σ H hi p
  by_cases hlt : i < xs.length
  · refine .inr ⟨⟨xs, xs[i], q, by simp [hlt]⟩, Pv (i + 1), fun σ' H' p' => ⟨xs.length - (i + 1), by omega, rfl, hlt, p'⟩, fun x H' y => ?_⟩
    obtain ⟨e, y⟩ := y
    subst e
    exact hs i x σ _ (y xs q) p
  · have e : i = xs.length := by omega
    subst e
    exact .inl ⟨⟨xs, q, Nat.le_refl _⟩, hd σ H p⟩
theorem for_range {lo : Int} {n : Nat} {g : TG} {tb : TS} {D : Ends} {σ : St} {H : Hp} (Pv : Nat → St → Hp → Prop) (h0 : Pv 0 σ H)
    (hs : ∀ i σ H, i < n → Pv i σ H → g (.int (lo + i)) σ H fun σ2 H2 => tb { D with nx := Pv (i + 1), ct := Pv (i + 1), bk := D.nx } σ2 H2) (hd : ∀ σ H, Pv n σ H → D.nx σ H) :
    ∃ W : Nat → Nat → St → Hp → Prop, (∃ m, W 0 m σ H) ∧ ∀ i m σ H, W i m σ H →
      ((Itr lo n).stop i H ∧ D.nx σ H) ∨ ((Itr lo n).go i H ∧ ∃ N : St → Hp → Prop, (∀ σ' H', N σ' H' → ∃ m', m' < m ∧ W (i + 1) m' σ' H') ∧ ∀ x H', (Itr lo n).yld i H x H' → g x σ H' fun σ2 H2 => tb { D with nx := N, ct := N, bk := D.nx } σ2 H2) := by
  refine ⟨fun i m σ H => m = n - i ∧ i ≤ n ∧ Pv i σ H, ⟨n, by simp, Nat.zero_le _, h0⟩, ?_⟩
  rintro i m σ H ⟨rfl, hi, p⟩
  by_cases hlt : i < n
  · refine .inr ⟨hlt, Pv (i + 1), fun σ' H' p' => ⟨n - (i + 1), by omega, rfl, hlt, p'⟩, fun x H' y => ?_⟩
    obtain ⟨e, y⟩ := y
    subst e y
    exact hs i σ _ hlt p
  · have e : i = n := by omega
    subst e
    exact .inl ⟨Nat.le_refl _, hd σ H p⟩
end L2
namespace L2
open PySem PySem.Spec PyProof.Rows
noncomputable abbrev R2 := V → V → Hp → VK → Prop
noncomputable def OpR (X : Cx) (f : Value → Value → Sem Value) (r : R2) : Prop :=
  ∀ (pins : List (Addr × Obj)) (s : Shared) (σ : St) (H : Hp) (x y : V) (v u : Value) (Q : VK), Inv X pins σ H s → RelV x v → RelV y u → r x y H Q →
    wpAny (model X.prog X.w) X.A (f v u) (EP X pins σ Q) X.xe s
noncomputable def UnR (X : Cx) (f : Value → Sem Value) (r : V → Hp → VK → Prop) : Prop :=
  ∀ (pins : List (Addr × Obj)) (s : Shared) (σ : St) (H : Hp) (x : V) (v : Value) (Q : VK), Inv X pins σ H s → RelV x v → r x H Q →
    wpAny (model X.prog X.w) X.A (f v) (EP X pins σ Q) X.xe s
noncomputable def CallR (X : Cx) (f : Value) (r : List V → Hp → VK → Prop) : Prop :=
  ∀ (pins : List (Addr × Obj)) (s : Shared) (σ : St) (H : Hp) (xs : List V) (us : List Value) (Q : VK), Inv X pins σ H s → Vals xs us → r xs H Q →
    wpAny (model X.prog X.w) X.A (call f us) (EP X pins σ Q) X.xe s
noncomputable def TruR (X : Cx) (r : V → Hp → (Bool → Hp → Prop) → Prop) : Prop :=
  ∀ (pins : List (Addr × Obj)) (s : Shared) (σ : St) (H : Hp) (x : V) (v : Value) (Q : Bool → Hp → Prop), Inv X pins σ H s → RelV x v → r x H Q →
    wpAny (model X.prog X.w) X.A (truthy v) (TP X pins σ Q) X.xe s
noncomputable def tOp (r : R2) (ta tb : TE) : TE := fun σ H Q => ta σ H fun x H1 => tb σ H1 fun y H2 => r x y H2 Q
noncomputable def tUn (r : V → Hp → VK → Prop) (ta : TE) : TE := fun σ H Q => ta σ H fun x H1 => r x H1 Q
inductive rI_P (C : Int → Int → Prop) (g : Int → Int → V) (x : V) (y : V) (H : Hp) (Q : VK) : Prop
  | mk (i j : _) (h1 : x = .int i) (h2 : y = .int j) (h3 : C i j) (h4 : Q (g i j) H) : rI_P C g x y H Q
noncomputable def rI (C : Int → Int → Prop) (g : Int → Int → V) : R2 := fun x y H Q => rI_P C g x y H Q
inductive rI0_P (g : Int → Int → V) (x : V) (y : V) (H : Hp) (Q : VK) : Prop
  | mk (i j : _) (h1 : x = .int i) (h2 : y = .int j) (h3 : Q (g i j) H) : rI0_P g x y H Q
noncomputable def rI0 (g : Int → Int → V) : R2 := fun x y H Q => rI0_P g x y H Q
inductive rU_P (g : Int → V) (x : V) (H : Hp) (Q : VK) : Prop
  | mk (i : _) (h1 : x = .int i) (h2 : Q (g i) H) : rU_P g x H Q
noncomputable def rU (g : Int → V) : V → Hp → VK → Prop := fun x H Q => rU_P g x H Q
section
variable {X : Cx} {a b c : Expr} {ta tb tc : TE} {pos : Pos}
theorem binT (ha : PE X a ta) (hb : PE X b tb) {pins : List (Addr × Obj)} {s : Shared} {σ : St} {H : Hp} {R : V → V → Hp → Prop} (I : Inv X pins σ H s)
    (h : ta σ H fun x H1 => tb σ H1 fun y H2 => R x y H2) {Q : Value → Shared → Prop} {f : Value → Value → Sem Value}
    (hf : ∀ v u s2 x y H2, Inv X pins σ H2 s2 → RelV x v → RelV y u → R x y H2 → wpAny (model X.prog X.w) X.A (f v u) Q X.xe s2) :
    wpAny (model X.prog X.w) X.A (eval a X.env) (fun v s₁ => wpAny (model X.prog X.w) X.A (eval b X.env) (fun u s₂ => wpAny (model X.prog X.w) X.A (f v u) Q X.xe s₂) X.xe s₁) X.xe s := by
  refine thn (ha pins s σ H _ I h) fun v s1 zz_ => ?_
  obtain ⟨x, H1, I1, r1, q1⟩ := zz_
  refine thn (hb pins s1 σ H1 _ I1 q1) fun u s2 zz_ => ?_
  obtain ⟨y, H2, I2, r2, q2⟩ := zz_
  exact hf v u s2 x y H2 I2 r1 r2 q2
theorem pe_op {op : Operator} {r : R2} (ho : OpR X (binaryOp op) r) (ha : PE X a ta) (hb : PE X b tb) : PE X (.BinOp a op b pos) (tOp r ta tb) := by
  intro pins s σ H Q I h
  exact wpAny_BinOp (binT ha hb I h fun v u s2 x y H2 I2 rx ry q => ho pins s2 σ H2 x y v u Q I2 rx ry q)
theorem pe_un {op : UnaryOp} {r : V → Hp → VK → Prop} (ho : UnR X (unaryOp op) r) (ha : PE X a ta) : PE X (.UnaryOp op a pos) (tUn r ta) := by
  intro pins s σ H Q I h
  exact UnaryOp_ (thn (ha pins s σ H _ I h) fun v s1 ⟨x, H1, I1, r1, q1⟩ => ho pins s1 σ H1 x v Q I1 r1 q1)
theorem opI {f : Value → Value → Sem Value} {C : Int → Int → Prop} {g : Int → Int → Int}
    (rule : ∀ (i j : Int) (t u : Tok) (s : Shared) (Q : Value → Shared → Prop) (E : Value → Shared → Prop), C i j → Q (.int (g i j) s.toks) { s with toks := s.toks + 1 } → wpAny (model X.prog X.w) X.A (f (.int i t) (.int j u)) Q E s) :
    OpR X f (rI C fun i j => .int (g i j)) := by
  intro pins s σ H x y v u Q I rx ry h
  obtain ⟨i, j, rfl, rfl, hc, q⟩ := h
  obtain ⟨t, rfl⟩ := rx
  obtain ⟨t', rfl⟩ := ry
  exact rule i j t t' s _ _ hc ⟨.int (g i j), H, I.tok _, ⟨_, rfl⟩, q⟩
theorem opI0 {f : Value → Value → Sem Value} {g : Int → Int → Int}
    (rule : ∀ (i j : Int) (t u : Tok) (s : Shared) (Q : Value → Shared → Prop) (E : Value → Shared → Prop), Q (.int (g i j) s.toks) { s with toks := s.toks + 1 } → wpAny (model X.prog X.w) X.A (f (.int i t) (.int j u)) Q E s) :
    OpR X f (rI0 fun i j => .int (g i j)) := by
  intro pins s σ H x y v u Q I rx ry h
  obtain ⟨i, j, rfl, rfl, q⟩ := h
  obtain ⟨t, rfl⟩ := rx
  obtain ⟨t', rfl⟩ := ry
  exact rule i j t t' s _ _ ⟨.int (g i j), H, I.tok _, ⟨_, rfl⟩, q⟩
theorem opB0 {f : Value → Value → Sem Value} {g : Int → Int → Bool}
    (rule : ∀ (i j : Int) (t u : Tok) (s : Shared) (Q : Value → Shared → Prop) (E : Value → Shared → Prop), Q (.bool (g i j)) s → wpAny (model X.prog X.w) X.A (f (.int i t) (.int j u)) Q E s) :
    OpR X f (rI0 fun i j => .bl (g i j)) := by
  intro pins s σ H x y v u Q I rx ry h
  obtain ⟨i, j, rfl, rfl, q⟩ := h
  obtain ⟨t, rfl⟩ := rx
  obtain ⟨t', rfl⟩ := ry
  exact rule i j t t' s _ _ ⟨.bl (g i j), H, I, rfl, q⟩
noncomputable def CDiv (i j : Int) : Prop := 0 < j ∧ j < 1073741824
noncomputable def CPow (i j : Int) : Prop := 0 ≤ j ∧ j ≤ 1000000 ∧ i.natAbs < 2 ^ 64
noncomputable def CMul (i j : Int) : Prop := (-(2 ^ 64) < i ∧ i < 2 ^ 64) ∨ (-(2 ^ 64) < j ∧ j < 2 ^ 64)
theorem CMul.ok {i j : Int} (h : CMul i j) : IntMulOk i j := by
  rcases h with ⟨h1, h2⟩ | ⟨h1, h2⟩
  · exact .of_left (intBits_le_64 h1 h2)
  · exact .of_right (intBits_le_64 h1 h2)
theorem op_add : OpR X (binaryOp .Add) (rI0 fun i j => .int (i + j)) := opI0 fun _ _ _ _ _ _ _ q => add_int q
theorem op_sub : OpR X (binaryOp .Sub) (rI0 fun i j => .int (i - j)) := opI0 fun _ _ _ _ _ _ _ q => sub_int q
theorem op_mul : OpR X (binaryOp .Mult) (rI CMul fun i j => .int (i * j)) := opI fun _ _ _ _ _ _ _ hc q => mul_int q hc.ok
theorem op_fdiv : OpR X (binaryOp .FloorDiv) (rI CDiv fun i j => .int (i / j)) := opI fun i j _ _ _ _ _ hc q => by
  have h1 : (0 : Int) < j := hc.1
  have h2 : j < 1073741824 := hc.2
  exact floordiv_int (by omega) (by rw [Int.fdiv_eq_ediv_of_nonneg i (by omega)]; exact q) (.inl (PyProof.noPylong_small (by omega)))
theorem op_mod : OpR X (binaryOp .Mod) (rI (fun _ j => 0 < j) fun i j => .int (i % j)) := opI fun i j _ _ _ _ _ hc q => by
  have h1 : (0 : Int) < j := hc
  exact mod_int' (by omega) (by rw [Int.fmod_eq_emod_of_nonneg i (by omega)]; exact q)
theorem op_pow : OpR X (binaryOp .Pow) (rI CPow fun i j => .int (i ^ j.toNat)) := opI fun _ _ _ _ _ _ _ hc q => pow_int_small hc.1 hc.2.1 hc.2.2 q
theorem unI {f : Value → Sem Value} {g : Int → Int}
    (rule : ∀ (i : Int) (t : Tok) (s : Shared) (Q : Value → Shared → Prop) (E : Value → Shared → Prop), Q (.int (g i) s.toks) { s with toks := s.toks + 1 } → wpAny (model X.prog X.w) X.A (f (.int i t)) Q E s) :
    UnR X f (rU fun i => .int (g i)) := by
  intro pins s σ H x v Q I rx h
  obtain ⟨i, rfl, q⟩ := h
  obtain ⟨t, rfl⟩ := rx
  exact rule i t s _ _ ⟨.int (g i), H, I.tok _, ⟨_, rfl⟩, q⟩
theorem un_neg : UnR X (unaryOp .USub) (rU fun i => .int (-i)) := unI fun _ _ _ _ _ q => neg_int q
end
noncomputable def scal : V → V → Bool
  | .non, .non => true | .non, .int _ => true | .int _, .non => true | .non, .bl _ => true | .bl _, .non => true | .non, .str _ => true | .str _, .non => true
  | .int _, .int _ => true | .bl _, .bl _ => true | .str _, .str _ => true | .byt _, .byt _ => true
  | .int _, .str _ => true | .str _, .int _ => true | .bl _, .str _ => true | .str _, .bl _ => true
  | _, _ => false
noncomputable def rEq : R2 := fun x y H Q => scal x y = true ∧ Q (.bl (decide (x = y))) H
noncomputable def rNe : R2 := fun x y H Q => scal x y = true ∧ Q (.bl (!decide (x = y))) H
theorem dec_int {i j : Int} : decide (V.int i = V.int j) = (i == j) := by
  rw [Bool.eq_iff_iff]
  simp
theorem dec_bl {i j : Bool} : decide (V.bl i = V.bl j) = (i == j) := by
  rw [Bool.eq_iff_iff]
  simp
theorem dec_str {i j : Str} : decide (V.str i = V.str j) = (i == j) := by
  rw [Bool.eq_iff_iff]
  simp
theorem dec_byt {i j : Array UInt8} : decide (V.byt i = V.byt j) = (i.toList == j.toList) := by
  rw [Bool.eq_iff_iff]
  cases i
  cases j
  simp
section
variable {X : Cx} {a b c : Expr} {ta tb tc : TE} {pos : Pos}
theorem fin_bl {pins : List (Addr × Obj)} {σ : St} {H : Hp} {s : Shared} {Q : VK} {k k' : Bool} (I : Inv X pins σ H s) (q : Q (.bl k) H) (e : k = k') : EP X pins σ Q (.bool k') s := by
  subst e
  exact ⟨.bl k, H, I, rfl, q⟩
theorem op_eq : OpR X (compareOp .Eq) rEq := by
  intro pins s σ H x y v u Q I rx ry h
  obtain ⟨hs, q⟩ := h
  cases x with
  | non =>
    cases rx
    cases y with
    | non => cases ry; exact PySem.EqNone.eq_none_none (fin_bl I q (by simp))
    | bl j => cases ry; exact PySem.EqNone.eq_none_bool (fin_bl I q (by simp))
    | int j => obtain ⟨t', rfl⟩ := ry; exact PySem.EqNone.eq_none_int (fin_bl I q (by simp))
    | str j => obtain ⟨t', rfl⟩ := ry; exact PySem.EqNone.eq_none_str (fin_bl I q (by simp))
    | _ => exact absurd (show false = true from hs) Bool.false_ne_true
  | bl i =>
    cases rx
    cases y with
    | non => cases ry; exact PySem.EqNone.eq_bool_none (fin_bl I q (by simp))
    | bl j => cases ry; exact eq_bool (fin_bl I q dec_bl)
    | str j => obtain ⟨t', rfl⟩ := ry; exact PySem.EqMixed.eq_bool_str (fin_bl I q (by simp))
    | _ => exact absurd (show false = true from hs) Bool.false_ne_true
  | int i =>
    obtain ⟨t, rfl⟩ := rx
    cases y with
    | non => cases ry; exact PySem.EqNone.eq_int_none (fin_bl I q (by simp))
    | int j => obtain ⟨t', rfl⟩ := ry; exact eq_int (fin_bl I q dec_int)
    | str j => obtain ⟨t', rfl⟩ := ry; exact PySem.EqMixed.eq_int_str (fin_bl I q (by simp))
    | _ => exact absurd (show false = true from hs) Bool.false_ne_true
  | str i =>
    obtain ⟨t, rfl⟩ := rx
    cases y with
    | non => cases ry; exact PySem.EqNone.eq_str_none (fin_bl I q (by simp))
    | bl j => cases ry; exact PySem.EqMixed.eq_str_bool (fin_bl I q (by simp))
    | int j => obtain ⟨t', rfl⟩ := ry; exact PySem.EqMixed.eq_str_int (fin_bl I q (by simp))
    | str j => obtain ⟨t', rfl⟩ := ry; exact eq_str (fin_bl I q dec_str)
    | _ => exact absurd (show false = true from hs) Bool.false_ne_true
  | byt i =>
    obtain ⟨t, rfl⟩ := rx
    cases y with
    | byt j => obtain ⟨t', rfl⟩ := ry; exact PySem.W.eq_bytes (fin_bl I q dec_byt)
    | _ => exact absurd (show false = true from hs) Bool.false_ne_true
  | _ => cases y <;> exact absurd (show false = true from hs) Bool.false_ne_true
theorem op_ne : OpR X (compareOp .NotEq) rNe := by
  intro pins s σ H x y v u Q I rx ry h
  obtain ⟨hs, q⟩ := h
  cases x with
  | non =>
    cases rx
    cases y with
    | non => cases ry; exact PySem.EqNone.ne_none_none (fin_bl I q (by simp))
    | bl j => cases ry; exact PySem.EqNone.ne_none_bool (fin_bl I q (by simp))
    | int j => obtain ⟨t', rfl⟩ := ry; exact PySem.EqNone.ne_none_int (fin_bl I q (by simp))
    | str j => obtain ⟨t', rfl⟩ := ry; exact PySem.EqNone.ne_none_str (fin_bl I q (by simp))
    | _ => exact absurd (show false = true from hs) Bool.false_ne_true
  | bl i =>
    cases rx
    cases y with
    | non => cases ry; exact PySem.EqNone.ne_bool_none (fin_bl I q (by simp))
    | bl j => cases ry; exact ne_bool (fin_bl I q (congrArg not dec_bl))
    | str j => obtain ⟨t', rfl⟩ := ry; exact PySem.EqMixed.ne_bool_str (fin_bl I q (by simp))
    | _ => exact absurd (show false = true from hs) Bool.false_ne_true
  | int i =>
    obtain ⟨t, rfl⟩ := rx
    cases y with
    | non => cases ry; exact PySem.EqNone.ne_int_none (fin_bl I q (by simp))
    | int j => obtain ⟨t', rfl⟩ := ry; exact ne_int (fin_bl I q (congrArg not dec_int))
    | str j => obtain ⟨t', rfl⟩ := ry; exact PySem.EqMixed.ne_int_str (fin_bl I q (by simp))
    | _ => exact absurd (show false = true from hs) Bool.false_ne_true
  | str i =>
    obtain ⟨t, rfl⟩ := rx
    cases y with
    | non => cases ry; exact PySem.EqNone.ne_str_none (fin_bl I q (by simp))
    | bl j => cases ry; exact PySem.EqMixed.ne_str_bool (fin_bl I q (by simp))
    | int j => obtain ⟨t', rfl⟩ := ry; exact PySem.EqMixed.ne_str_int (fin_bl I q (by simp))
    | str j => obtain ⟨t', rfl⟩ := ry; exact ne_str (fin_bl I q (congrArg not dec_str))
    | _ => exact absurd (show false = true from hs) Bool.false_ne_true
  | byt i =>
    obtain ⟨t, rfl⟩ := rx
    cases y with
    | byt j => obtain ⟨t', rfl⟩ := ry; exact PySem.W.ne_bytes (fin_bl I q (congrArg not dec_byt))
    | _ => exact absurd (show false = true from hs) Bool.false_ne_true
  | _ => cases y <;> exact absurd (show false = true from hs) Bool.false_ne_true
theorem op_lt : OpR X (compareOp .Lt) (rI0 fun i j => .bl (decide (i < j))) := opB0 fun _ _ _ _ _ _ _ q => lt_int q
theorem op_le : OpR X (compareOp .LtE) (rI0 fun i j => .bl (decide (i ≤ j))) := opB0 fun _ _ _ _ _ _ _ q => le_int q
theorem op_gt : OpR X (compareOp .Gt) (rI0 fun i j => .bl (decide (j < i))) := opB0 fun _ _ _ _ _ _ _ q => gt_int q
theorem op_ge : OpR X (compareOp .GtE) (rI0 fun i j => .bl (decide (j ≤ i))) := opB0 fun _ _ _ _ _ _ _ q => ge_int q
theorem op_isN : OpR X (compareOp .Is) (fun x y H Q => y = .non ∧ Q (.bl (decide (x = .non))) H) := by
  intro pins s σ H x y v u Q I rx ry h
  obtain ⟨rfl, q⟩ := h
  cases ry
  refine is_none_gen (fin_bl I q ?_)
  cases x <;> first
    | (cases rx; rfl)
    | (obtain ⟨t, rfl⟩ := rx; rfl)
theorem op_notN : OpR X (compareOp .IsNot) (fun x y H Q => y = .non ∧ Q (.bl (!decide (x = .non))) H) := by
  intro pins s σ H x y v u Q I rx ry h
  obtain ⟨rfl, q⟩ := h
  cases ry
  refine isnot_none_gen (fin_bl I q ?_)
  cases x <;> first
    | (cases rx; rfl)
    | (obtain ⟨t, rfl⟩ := rx; rfl)
theorem OpR.or {f : Value → Value → Sem Value} {r r' : R2} (h : OpR X f r) (h' : OpR X f r') : OpR X f (fun x y H Q => r x y H Q ∨ r' x y H Q) := by
  intro pins s σ H x y v u Q I rx ry q
  rcases q with q | q
  · exact h pins s σ H x y v u Q I rx ry q
  · exact h' pins s σ H x y v u Q I rx ry q
theorem nomark (b : Expr) {op : CmpOp} (h : op ≠ .In := by decide) (h2 : op ≠ .NotIn := by decide) : behindInMarks op b = false := by
  have e1 : (op == CmpOp.In) = false := by cases op <;> first | rfl | exact absurd rfl h
  have e2 : (op == CmpOp.NotIn) = false := by cases op <;> first | rfl | exact absurd rfl h2
  cases b <;> simp [behindInMarks, e1, e2]
theorem pe_cmpR {op : CmpOp} {r : R2} (ho : OpR X (compareOp op) r) (ha : PE X a ta) (hb : PE X b tb) (hm : behindInMarks op b = false) : PE X (.Compare a [op] [b] pos) (tOp r ta tb) := by
  intro pins s σ H Q I h
  exact wpAny_Compare1 (binT ha hb I h fun v u s2 x y H2 I2 rx ry q => ho pins s2 σ H2 x y v u Q I2 rx ry q) hm
inductive tTest_P (Q : (Bool → Hp → Prop)) (x : V) (H' : Hp) : Prop
  | mk (k : _) (h1 : x = .bl k) (h2 : Q k H') : tTest_P Q x H'
noncomputable def tTest (t : TE) : TT := fun σ H Q => t σ H fun x H' => tTest_P Q x H'
theorem pt_cmpR {op : CmpOp} {r : R2} (ho : OpR X (compareOp op) r) (ha : PE X a ta) (hb : PE X b tb) (hm : behindInMarks op b = false) : PT X (.Compare a [op] [b] pos) (tTest (tOp r ta tb)) := by
  intro pins s σ H Q I h
  refine wpAny_isTrue_Compare1 (thn (ha pins s σ H _ I h) fun v s1 ⟨x, H1, I1, r1, q1⟩ => thn (hb pins s1 σ H1 _ I1 q1) fun u s2 ⟨y, H2, I2, r2, q2⟩ =>
    thn (ho pins s2 σ H2 x y v u _ I2 r1 r2 q2) fun c s3 ⟨z, H3, I3, r3, k, e, q3⟩ => ?_) hm
  subst e
  cases r3
  exact wpAny_truthy_bool ⟨H3, I3, q3⟩
noncomputable def tChain (r r' : R2) (ta tb tc : TE) : TE := fun σ H Q => ta σ H fun x H1 => tb σ H1 fun y H2 => r x y H2 fun z H3 => ∃ k, z = .bl k ∧
  (if k = true then tc σ H3 fun w' H4 => r' y w' H4 Q else Q (.bl false) H3)
theorem pe_chain {op op' : CmpOp} {r r' : R2} (ho : OpR X (compareOp op) r) (ho' : OpR X (compareOp op') r') (ha : PE X a ta) (hb : PE X b tb) (hc : PE X c tc)
    (hm : lastMarks [op, op'] [b, c] = false := by with_unfolding_all rfl) : PE X (.Compare a [op, op'] [b, c] pos) (tChain r r' ta tb tc) := by
  intro pins s σ H Q I h
  refine Compare_chain (thn (ha pins s σ H _ I h) fun v s1 ⟨x, H1, I1, r1, q1⟩ => chain_link (thn (hb pins s1 σ H1 _ I1 q1) fun u s2 ⟨y, H2, I2, r2, q2⟩ =>
    thn (ho pins s2 σ H2 x y v u _ I2 r1 r2 q2) fun d s3 ⟨z, H3, I3, r3, k, e, q3⟩ => ?_)) hm
  subst e
  cases r3
  refine wpAny_truthy_bool ?_
  cases k with
  | false => exact ite_ff ⟨.bl false, H3, I3, rfl, q3⟩
  | true => exact ite_tt (chain_last (thn (hc pins s3 σ H3 _ I3 q3) fun w' s4 ⟨z', H4, I4, r4, q4⟩ => ho' pins s4 σ H4 y z' u w' Q I4 r2 r4 q4))
noncomputable def TruV (K : PySem.W.Frag) (x : V) (H : Hp) (k : Bool) : Prop :=
  match x with
  | .non => k = false
  | .bl b => k = b
  | .int i => k = (i != 0)
  | .str y => y.length ≤ sizeLine ∧ k = ((y.length : Int) != 0)
  | .byt y => y.size ≤ sizeLine ∧ k = ((y.size : Int) != 0)
  | .ref p => (∃ xs, SqL K H p xs ∧ k = !xs.isEmpty) ∨ (∃ xs, SqT K H p xs ∧ k = !xs.isEmpty) ∨ ∃ kvs, H p = some (.dK kvs) ∧ k = !kvs.isEmpty
  | _ => False
theorem isEmpty_kv {κ : Type} {kvs : List (κ × V)} {vs : List (κ × Value)} (r : KV kvs vs) : (!vs.isEmpty) = !kvs.isEmpty := by
  cases r <;> rfl
theorem isEmpty_of {xs : List V} {its : List Value} (r : Vals xs its) : (!its.toArray.isEmpty) = !xs.isEmpty := by
  cases r <;> simp
theorem line63 : (sizeLine : Nat) < 2 ^ 63 := by rw [sizeLine_eq]; decide
theorem tru_ok : TruR X (fun x H Q => ∃ k, TruV X.K x H k ∧ Q k H) := by
  intro pins s σ H x v Q I rx h
  obtain ⟨k, e, q⟩ := h
  have hl := line63
  have hs : sizeLine = 16777216 := sizeLine_eq
  cases x with
  | non =>
    cases rx
    have e' : k = false := e
    subst e'
    exact truthy_none ⟨H, I, q⟩
  | bl b =>
    cases rx
    have e' : k = b := e
    subst e'
    exact wpAny_truthy_bool ⟨H, I, q⟩
  | int i =>
    obtain ⟨t, rfl⟩ := rx
    have e' : k = (i != 0) := e
    subst e'
    exact PySem.P.truthy_int ⟨H, I, q⟩
  | str y =>
    obtain ⟨t, rfl⟩ := rx
    obtain ⟨hy, e'⟩ : y.length ≤ sizeLine ∧ k = ((y.length : Int) != 0) := e
    subst e'
    exact PySem.P.truthy_str (by omega) ⟨H, I.tok _, q⟩
  | byt y =>
    obtain ⟨t, rfl⟩ := rx
    obtain ⟨hy, e'⟩ : y.size ≤ sizeLine ∧ k = ((y.size : Int) != 0) := e
    subst e'
    exact PySem.W.truthy_bytes (by omega) ⟨H, I.tok _, q⟩
  | ref p =>
    cases rx
    have e' : (∃ xs, SqL X.K H p xs ∧ k = !xs.isEmpty) ∨ (∃ xs, SqT X.K H p xs ∧ k = !xs.isEmpty) ∨ ∃ kvs, H p = some (.dK kvs) ∧ k = !kvs.isEmpty := e
    rcases e' with ⟨xs, hx, e'⟩ | ⟨xs, hx, e'⟩ | ⟨kvs, hx, e'⟩
    · subst e'
      obtain ⟨its, r, pl, hz⟩ := I.list hx
      have hlen := r.length
      exact wpAny_truthy_list pl.isList (by simp only [List.size_toArray]; omega) ⟨H, I.tok _, by rw [isEmpty_of r]; exact q⟩
    · subst e'
      obtain ⟨its, r, pl, hz⟩ := I.tuple hx
      have hlen := r.length
      exact truthy_tuple pl (by simp only [List.size_toArray]; omega) ⟨H, I.tok _, by rw [isEmpty_of r]; exact q⟩
    · subst e'
      obtain ⟨hz, hS, vs, r, m⟩ : kvs.length ≤ sizeLine ∧ (p == sysModules) = false ∧ ∃ vs, KV kvs vs ∧ s.heap.DictOf (mixKind X.prog X.w) p vs := I.hok p _ hx
      have hlen : kvs.length = vs.length := Paired.length r
      exact wpAny_truthy_dict hS m (by omega) ⟨H, I.tok _, by rw [isEmpty_kv r]; exact q⟩
  | _ => exact (show False from e).elim
theorem pt_truth (ha : PE X a ta) (he : ∀ whole, isTrue a X.env whole = (do let v ← whole; standAt a.pos; holding [v] (truthy v))) :
    PT X a (fun σ H Q => ta σ H fun x H' => ∃ k, TruV X.K x H' k ∧ Q k H') := by
  intro pins s σ H Q I h
  exact isTrue_plain (thn (ha pins s σ H _ I h) fun v s1 ⟨x, H1, I1, r1, q1⟩ => tru_ok pins s1 σ H1 x v Q I1 r1 q1) (he _)
theorem op_add_str : OpR X (binaryOp .Add) (fun x y H Q => ∃ i j, x = .str i ∧ y = .str j ∧ i.length + j.length ≤ sizeLine ∧ Q (.str (i ++ j)) H) := by
  intro pins s σ H x y v u Q I rx ry h
  obtain ⟨i, j, rfl, rfl, hz, q⟩ := h
  obtain ⟨t, rfl⟩ := rx
  obtain ⟨t', rfl⟩ := ry
  exact add_str (fun t' tk => ⟨.str (i ++ j), H, I.tok _, ⟨_, rfl⟩, q⟩) hz
theorem vals1 {x : V} {us : List Value} (r : Vals [x] us) : ∃ u, us = [u] ∧ RelV x u := by
  cases r with
  | cons r1 r2 => cases r2; exact ⟨_, rfl, r1⟩
theorem vals2 {x y : V} {us : List Value} (r : Vals [x, y] us) : ∃ u w', us = [u, w'] ∧ RelV x u ∧ RelV y w' := by
  cases r with
  | cons r1 r2 =>
    cases r2 with
    | cons r3 r4 => cases r4; exact ⟨_, _, rfl, r1, r3⟩
theorem call_max2 (hc : X.calm = true) : CallR X (.builtin "max") (fun xs H Q => ∃ i j, xs = [.int i, .int j] ∧ Q (.int (if j > i then j else i)) H) := by
  intro pins s σ H xs us Q I r h
  obtain ⟨i, j, rfl, q⟩ := h
  obtain ⟨u, w', rfl, ⟨t, rfl⟩, ⟨t', rfl⟩⟩ := vals2 r
  refine max_two_ints (I.ok.hd hc) fun h' tk k => ⟨_, H, I.kept k, ?_, q⟩
  by_cases hj : j > i
  · rw [if_pos hj, if_pos hj]; exact ⟨_, rfl⟩
  · rw [if_neg hj, if_neg hj]; exact ⟨_, rfl⟩
theorem call_min2 (hc : X.calm = true) : CallR X (.builtin "min") (fun xs H Q => ∃ i j, xs = [.int i, .int j] ∧ Q (.int (if j < i then j else i)) H) := by
  intro pins s σ H xs us Q I r h
  obtain ⟨i, j, rfl, q⟩ := h
  obtain ⟨u, w', rfl, ⟨t, rfl⟩, ⟨t', rfl⟩⟩ := vals2 r
  refine min_two_ints (I.ok.hd hc) fun h' tk k => ⟨_, H, I.kept k, ?_, q⟩
  by_cases hj : j < i
  · rw [if_pos hj, if_pos hj]; exact ⟨_, rfl⟩
  · rw [if_neg hj, if_neg hj]; exact ⟨_, rfl⟩
noncomputable def LenV (K : PySem.W.Frag) (x : V) (H : Hp) (n : Nat) : Prop :=
  match x with
  | .str y => y.length ≤ sizeLine ∧ n = y.length
  | .byt y => y.size ≤ sizeLine ∧ n = y.size
  | .ref p => (∃ xs, SqL K H p xs ∧ n = xs.length) ∨ ∃ xs, SqT K H p xs ∧ n = xs.length
  | _ => False
theorem call_len : CallR X (.builtin "len") (fun xs H Q => ∃ x n, xs = [x] ∧ LenV X.K x H n ∧ Q (.int n) H) := by
  intro pins s σ H xs us Q I r h
  obtain ⟨x, n, rfl, e, q⟩ := h
  obtain ⟨u, rfl, rx⟩ := vals1 r
  have hl := line63
  have hs : sizeLine = 16777216 := sizeLine_eq
  cases x with
  | str y =>
    obtain ⟨t, rfl⟩ := rx
    obtain ⟨hy, e'⟩ : y.length ≤ sizeLine ∧ n = y.length := e
    subst e'
    exact len_str (by omega) ⟨.int _, H, I.tok _, ⟨_, rfl⟩, q⟩
  | byt y =>
    obtain ⟨t, rfl⟩ := rx
    obtain ⟨hy, e'⟩ : y.size ≤ sizeLine ∧ n = y.size := e
    subst e'
    exact PySem.W.len_bytes (by omega) ⟨.int _, H, I.tok _, ⟨_, rfl⟩, q⟩
  | ref p =>
    cases rx
    have e' : (∃ xs, SqL X.K H p xs ∧ n = xs.length) ∨ ∃ xs, SqT X.K H p xs ∧ n = xs.length := e
    rcases e' with ⟨xs, hx, e'⟩ | ⟨xs, hx, e'⟩
    · subst e'
      obtain ⟨its, r', pl, hz⟩ := I.list hx
      have hlen := r'.length
      exact Calls.call_len_list pl.isList (by simp only [List.size_toArray]; omega) ⟨.int xs.length, H, I.tok _, ⟨_, by simp only [List.size_toArray]; rw [hlen]⟩, q⟩
    · subst e'
      obtain ⟨its, r', pl, hz⟩ := I.tuple hx
      have hlen := r'.length
      exact len_tuple pl (by simp only [List.size_toArray]; omega) ⟨.int xs.length, H, I.tok _, ⟨_, by simp only [List.size_toArray]; rw [hlen]⟩, q⟩
  | _ => exact (show False from e).elim
end
end L2
namespace L2
open PySem PySem.Spec PyProof.Rows
structure ObjM (h : Heap) (x dx C : Addr) (mA : Str → Option Value) : Prop where
  obj : h.get? x = some (PySem.W.instObj C dx)
  ns : h.Ns1 dx mA
  ne : dx ≠ x
theorem lookIn_ns {h : Heap} {dx : Addr} {mA : Str → Option Value} (n : h.Ns1 dx mA) : ∃ od, h.get? dx = some od ∧ ∀ name, PySem.W.lookIn name od = some (mA name) := by
  obtain ⟨o, es, ep, ho, hd, hk, _, hm⟩ := n
  refine ⟨o, ho, fun name => ?_⟩
  have e := hm name
  unfold nsFind findBy at e
  rw [← Array.find?_toList] at e
  unfold PySem.W.lookIn
  rw [hd]
  dsimp only
  split
  · rename_i y q
    rw [q] at e
    exact congrArg some e
  · rename_i q
    rw [q] at e
    have a : es.toList.any (·.refKey) = false := by
      rw [List.any_eq_false]
      intro y hy
      obtain ⟨z, t, hkey⟩ := hk y (Array.mem_toList_iff.mp hy)
      simp [DictEntry.refKey, hkey]
    have a' : ¬ es.toList.any (·.refKey) = true := by rw [a]; exact Bool.false_ne_true
    rw [if_neg a']
    exact congrArg some e
theorem ObjM.look {h : Heap} {x dx C : Addr} {mA : Str → Option Value} (I : ObjM h x dx C mA) : ∃ od, PySem.W.InstAt h x (PySem.W.instObj C dx) C (some od) ∧ ∀ name, PySem.W.lookIn name od = some (mA name) :=
  let ⟨od, ho, hl⟩ := lookIn_ns I.ns
  ⟨od, ⟨I.obj, rfl, rfl, ho⟩, hl⟩
section
variable {prog : Program} {w : World} {A : Around} {E : Value → Shared → Prop} {s : Shared} {K : PySem.W.Frag} {x dx C f : Addr} {mA : Str → Option Value} {name : Str} {v : Value}
theorem get_map {expr : Bool} {Q : Value → Shared → Prop} (X : K.In s.heap) (I : ObjM s.heap x dx C mA) (hg : PySem.W.plainGet K C name = true) (hh : PySem.W.hasDictIn K C = true)
    (ha : PySem.W.findIn K (.ref C) name = some none) (hv : mA name = some v) (hv' : PySem.W.handedIn v = true) (h : Q v { s with toks := s.toks + 1 }) :
    wpAny (model prog w) A (getAttr (.ref x) name expr) Q E s := by
  obtain ⟨od, J, hl⟩ := I.look
  exact PySem.W.get_value X J (PySem.W.plainGet_of hg).1 (PySem.W.findObj_own hh ha rfl (by rw [hl, hv])) hv' h
theorem get_meth {pl : Sem Bool} {Q : Value × List Value → Shared → Prop} (X : K.In s.heap) (I : ObjM s.heap x dx C mA) (hg : PySem.W.plainGet K C name = true)
    (hf : PySem.W.findIn K (.ref C) name = some (some (.ref f))) (ht : PySem.W.isFn K (.ref f) = true) (hv : mA name = none) (h : Q (.ref f, [.ref x]) s) :
    wpAny (model prog w) A (getMethod (.ref x) name pl) Q E s := by
  obtain ⟨od, J, hl⟩ := I.look
  exact PySem.W.method_fn X J (PySem.W.plainGet_of hg).1 (PySem.W.plainGet_of hg).2 hf (beq_iff_eq.mp ht) (by show (PySem.W.lookIn name od).map (·.isSome) = some false; rw [hl, hv]; rfl) h
theorem set_map {ns : List Str} {Q : Unit → Shared → Prop} (X : K.In s.heap) (I : ObjM s.heap x dx C mA)
    (hs : PySem.W.findIn K (.ref C) "__setattr__" = some (some (.builtin "object.__setattr__"))) (hp : PySem.W.plainOver K C = true) (ht : PySem.W.takerIn K C name = some none) (hh : PySem.W.hasDictIn K C = true)
    (hw : PySem.Within mA ns) (hsz : ns.length ≤ sizeLine)
    (h : ∀ h', ObjM h' x dx C (fun y => if y = name then some v else mA y) → Heap.SameBut dx s.heap h' → Q () { s with heap := h', toks := s.toks + 2 }) :
    wpAny (model prog w) A (setAttr (.ref x) name v) Q E s := by
  obtain ⟨od, J, hl⟩ := I.look
  refine PySem.W.set_plain X J hs (PySem.W.osa_open (s := { s with toks := s.toks + 1 }) (r := none) X J hp ht fun b => ?_)
  obtain ⟨cd, hc, hd'⟩ := PySem.W.any_some hh
  have hx : s.heap.get? x = some ⟨.ref C, some dx, .plain, #[]⟩ := I.obj
  refine wpAny_bind (wpAny_pure (wpAny_bind (wpAny_bind (wpAny_loadPart hx (wpAny_bind (PySem.W.Looks.here (s := { s with toks := s.toks + 1 }) (PySem.W.looks_clsIn X hc) ?_))))))
  rw [hd']
  refine wpAny_pure (a := some dx) (wpAny_bind (wpAny_pure (wpAny_bind ?_)))
  refine wpAny_nsSet1 (s := { s with toks := s.toks + 1 }) I.ns fun h' hn2 hs2 => ?_
  obtain ⟨oD, esD, epD, hoD, hdD, hcD⟩ := hn2.count (PySem.Within.cons name v hw)
  refine wpAny_bind (wpAny_lookBehind hoD (by rw [hdD]; exact pastItsLine_dict (Nat.le_trans hcD (by rw [List.length_cons]; omega))) ?_)
  exact wpAny_pure (h _ ⟨(hs2.2 _ (Ne.symm I.ne)).trans I.obj, hn2, I.ne⟩ hs2)
theorem make_map {R : Result → Shared → Prop} {vs : List Value} {kw : List (Str × Value)} (X : K.In s.heap) (hm : PySem.W.makesIn K C = true)
    (hi : PySem.W.findIn K (.ref C) "__init__" = some (some (.ref f))) (hf : PySem.W.typeIn K (.ref f) = some (.type "function"))
    (h : codeAny (model prog w) (A.under (.builtin "type.__call__" ⟨.ref C :: vs, kw⟩)) (.call (.ref f) ⟨.ref (s.heap.objs.size + 1) :: vs, kw⟩) (PySem.W.InitBack (s.heap.objs.size + 1) R)
      { s with heap := (s.heap.push PySem.W.emptyDict).push (PySem.W.instObj C s.heap.objs.size) }) :
    codeAny (model prog w) A (.call (.ref C) ⟨vs, kw⟩) R s := by
  obtain ⟨hh, g, d, t, os⟩ := s
  exact PySem.W.make_core (PySem.W.makes_of X hm) (PySem.W.looks_findIn X hi) (fun self => PySem.W.bind_fn X self hf) (.inl rfl) h
end
noncomputable def putF (f : Str) (v : V) : List (Str × V) → List (Str × V)
  | [] => [(f, v)]
  | (g, x) :: r => if g = f then (g, v) :: r else (g, x) :: putF f v r
theorem lookup_putF (f g : Str) (v : V) : ∀ fs : List (Str × V), (putF f v fs).lookup g = if g = f then some v else fs.lookup g
  | [] => by
    show List.lookup g [(f, v)] = _
    by_cases h : g = f
    · have hb : (g == f) = true := beq_iff_eq.mpr h
      simp only [List.lookup, hb, if_pos h]
    · have hb : (g == f) = false := beq_eq_false_iff_ne.mpr h
      simp only [List.lookup, hb, if_neg h]
  | (k, x) :: r => by
    have ih := lookup_putF f g v r
    rw [show putF f v ((k, x) :: r) = (if k = f then (k, v) :: r else (k, x) :: putF f v r) from rfl]
    by_cases hk : k = f
    · rw [if_pos hk]
      by_cases h : g = k
      · have hb : (g == k) = true := beq_iff_eq.mpr h
        simp only [List.lookup, hb, if_pos (h.trans hk)]
      · have hb : (g == k) = false := beq_eq_false_iff_ne.mpr h
        simp only [List.lookup, hb, if_neg (fun e : g = f => h (e.trans hk.symm))]
    · rw [if_neg hk]
      by_cases h : g = k
      · have hb : (g == k) = true := beq_iff_eq.mpr h
        simp only [List.lookup, hb, if_neg (fun e : g = f => hk (h.symm.trans e))]
      · have hb : (g == k) = false := beq_eq_false_iff_ne.mpr h
        simp only [List.lookup, hb]
        exact ih
theorem keys_putF (f : Str) (v : V) : ∀ fs : List (Str × V), f ∈ (putF f v fs).map (·.1) ∧ ∀ g, g ∈ fs.map (·.1) → g ∈ (putF f v fs).map (·.1)
  | [] => ⟨by simp [putF], fun g h => by simp at h⟩
  | (k, x) :: r => by
    obtain ⟨i1, i2⟩ := keys_putF f v r
    rw [show putF f v ((k, x) :: r) = (if k = f then (k, v) :: r else (k, x) :: putF f v r) from rfl]
    by_cases hk : k = f
    · rw [if_pos hk]
      subst hk
      exact ⟨by simp, fun g h => by simpa using h⟩
    · rw [if_neg hk]
      refine ⟨?_, fun g h => ?_⟩
      · rw [List.map_cons]
        exact List.mem_cons_of_mem _ i1
      · rw [List.map_cons] at h ⊢
        rcases List.mem_cons.mp h with e | e
        · exact List.mem_cons.mpr (.inl e)
        · exact List.mem_cons_of_mem _ (i2 g e)
theorem length_putF (f : Str) (v : V) : ∀ fs : List (Str × V), (putF f v fs).length ≤ fs.length + 1
  | [] => by simp [putF]
  | (k, x) :: r => by
    have ih := length_putF f v r
    rw [show putF f v ((k, x) :: r) = (if k = f then (k, v) :: r else (k, x) :: putF f v r) from rfl]
    by_cases hk : k = f
    · rw [if_pos hk, List.length_cons, List.length_cons]; omega
    · rw [if_neg hk, List.length_cons, List.length_cons]; omega
theorem RelO.some_of {v : V} {o : Option Value} (r : RelO (some v) o) : ∃ u, o = some u ∧ RelV v u := by
  cases o with
  | none => exact (show False from r).elim
  | some u => exact ⟨u, rfl, r⟩
theorem RelO.none_of {o : Option Value} (r : RelO none o) : o = none := by
  cases o with
  | none => rfl
  | some u => exact (show False from r).elim
theorem handed_of {v : V} {u : Value} (r : RelV v u) : PySem.W.handedIn u = true := by
  cases v with
  | non => cases (show u = Value.none from r); rfl
  | bl b => cases (show u = Value.bool b from r); rfl
  | int i => obtain ⟨t, e⟩ := (show ∃ t, u = Value.int i t from r); cases e; rfl
  | str x => obtain ⟨t, e⟩ := (show ∃ t, u = Value.str x t from r); cases e; rfl
  | byt b => obtain ⟨t, e⟩ := (show ∃ t, u = Value.bytes b t from r); cases e; rfl
  | flt b => obtain ⟨t, e⟩ := (show ∃ t, u = Value.float b t from r); cases e; rfl
  | ref a => cases (show u = Value.ref a from r); rfl
  | ty n => cases (show u = Value.type n from r); rfl
section
variable {P : Program} {w : World} {H H' : Hp} {h h' : Heap} {a C dx : Addr} {fs fs' : List (Str × V)}
theorem ins_get (hok : HOk P w H h) (e : H a = some (.ins C dx fs)) : ∃ mA, ObjM h a dx C mA ∧ (∀ f, RelO (fs.lookup f) (mA f)) ∧ PySem.Within mA (fs.map (·.1)) ∧ fs.length ≤ 1000 ∧ H dx = some (.own a) := by
  obtain ⟨d, z, ne, ob, mA, n, r, q⟩ := (show ObjOk P w H h a (.ins C dx fs) from hok a _ e)
  exact ⟨mA, ⟨ob, n, ne⟩, r, q, z, d⟩
end
structure Cls (K : PySem.W.Frag) (C : Addr) : Prop where
  pg : PySem.W.plainGet K C Str.empty = true
  hd : PySem.W.hasDictIn K C = true
  po : PySem.W.plainOver K C = true
  sa : PySem.W.findIn K (.ref C) "__setattr__" = some (some (.builtin "object.__setattr__"))
theorem Cls.get {K : PySem.W.Frag} {C : Addr} (c : Cls K C) (f : Str) : PySem.W.plainGet K C f = true := c.pg
noncomputable def NoAttr (K : PySem.W.Frag) (C : Addr) (f : Str) : Prop := PySem.W.findIn K (.ref C) f = some none
theorem NoAttr.taker {K : PySem.W.Frag} {C : Addr} {f : Str} (n : NoAttr K C f) : PySem.W.takerIn K C f = some none := by
  unfold PySem.W.takerIn
  rw [show PySem.W.findIn K (.ref C) f = some none from n]
  rfl
structure Meth (K : PySem.W.Frag) (C : Addr) (m : Str) (f : Addr) : Prop where
  at_ : PySem.W.findIn K (.ref C) m = some (some (.ref f))
  fn : PySem.W.isFn K (.ref f) = true
  kp : PySem.W.keepIn K (.ref f) = true
section
variable {X : Cx} {pins : List (Addr × Obj)} {σ : St} {H : Hp} {s : Shared} {a C dx : Addr} {fs : List (Str × V)} {f : Str} {v : V} {A : Around} {E : Value → Shared → Prop}
theorem getattr_ok {b : Bool} {Q : Value → Shared → Prop} (I : Inv X pins σ H s) (e : H a = some (.ins C dx fs)) (c : Cls X.K C) (n : NoAttr X.K C f) (l : fs.lookup f = some v)
    (h : ∀ u s', Inv X pins σ H s' → RelV v u → Q u s') : wpAny (model X.prog X.w) A (getAttr (.ref a) f b) Q E s := by
  obtain ⟨mA, O, r, _, _, _⟩ := ins_get I.hok e
  obtain ⟨u, hu, ru⟩ := RelO.some_of (v := v) (o := mA f) (by rw [← l]; exact r f)
  exact get_map I.kIn O (c.get f) c.hd n hu (handed_of ru) (h u _ (I.tok _) ru)
theorem getmeth_ok {m : Str} {g : Addr} {pl : Sem Bool} {Q : Value × List Value → Shared → Prop} (I : Inv X pins σ H s) (e : H a = some (.ins C dx fs)) (c : Cls X.K C) (k : Meth X.K C m g) (l : fs.lookup m = none)
    (h : Q (.ref g, [.ref a]) s) : wpAny (model X.prog X.w) A (getMethod (.ref a) m pl) Q E s := by
  obtain ⟨mA, O, r, _, _, _⟩ := ins_get I.hok e
  have hn : mA m = none := RelO.none_of (by rw [← l]; exact r m)
  exact get_meth I.kIn O (c.get m) k.at_ k.fn hn h
theorem setattr_ok {y : V} {u : Value} {Q : Unit → Shared → Prop} (I : Inv X pins σ H s) (e : H a = some (.ins C dx fs)) (c : Cls X.K C) (n : NoAttr X.K C f) (hl : fs.length < 1000) (ry : RelV y u)
    (h : ∀ s', Inv X pins σ (upd H a (.ins C dx (putF f y fs))) s' → Q () s') : wpAny (model X.prog X.w) A (setAttr (.ref a) f u) Q E s := by
  obtain ⟨mA, O, r, wi, _, ho⟩ := ins_get I.hok e
  have hz : (fs.map (·.1)).length ≤ sizeLine := by rw [List.length_map, sizeLine_eq]; omega
  refine set_map I.kIn O c.sa c.po n.taker c.hd wi hz fun h' O' sb => h _ ?_
  have hd : ∃ o, h'.get? dx = some o := let ⟨o, _, _, e', _⟩ := O'.ns; ⟨o, e'⟩
  refine I.write (x := a) (e := dx) (by rw [e]; exact True.intro) (.inr ho) (fun b q hb z => (sb.2 b hb).trans z) hd ?_
  refine ⟨by rw [upd_ne O.ne]; exact ho, ?_, O.ne, O'.obj, _, O'.ns, fun g => ?_, fun g hg => ?_⟩
  · have := length_putF f y fs; omega
  · show RelO ((putF f y fs).lookup g) (if g = f then some u else mA g)
    rw [lookup_putF]
    by_cases q : g = f
    · rw [if_pos q, if_pos q]; exact ry
    · rw [if_neg q, if_neg q]; exact r g
  · by_cases q : g = f
    · rw [q]; exact (keys_putF f y fs).1
    · refine (keys_putF f y fs).2 g (wi g fun z => hg ?_)
      show (if g = f then some u else mA g) = none
      rw [if_neg q]; exact z
theorem Inv.made (I : Inv X pins σ H s) : Inv X pins σ (upd (upd H s.heap.objs.size (.own (s.heap.objs.size + 1))) (s.heap.objs.size + 1) (.ins C s.heap.objs.size []))
    { s with heap := (s.heap.push PySem.W.emptyDict).push (PySem.W.instObj C s.heap.objs.size) } := by
  have e1 : (s.heap.push PySem.W.emptyDict).get? s.heap.objs.size = some PySem.W.emptyDict := Heap.get?_push_size s.heap rfl
  have e2 : ((s.heap.push PySem.W.emptyDict).push (PySem.W.instObj C s.heap.objs.size)).get? (s.heap.objs.size + 1) = some (PySem.W.instObj C s.heap.objs.size) := by
    have := Heap.get?_push_size (s.heap.push PySem.W.emptyDict) (o := PySem.W.instObj C s.heap.objs.size) rfl
    rwa [Heap.size_push] at this
  have e3 : (s.heap.push PySem.W.emptyDict).Ns s.heap.objs.size (fun _ => none) := ⟨PySem.W.emptyDict, #[], _, e1, rfl, (fun e he => absurd he (by simp)), fun _ => rfl⟩
  have I1 := I.laid (a := s.heap.objs.size) (o := .own (s.heap.objs.size + 1)) (h' := s.heap.push PySem.W.emptyDict) (t' := s.toks) (fun b u q => Heap.get?_push_of_some _ q) (Nat.le_refl _) ⟨_, e1⟩
  refine I1.laid (a := s.heap.objs.size + 1) (o := .ins C s.heap.objs.size []) (t' := s.toks) (fun b u q => Heap.get?_push_of_some _ q) (Nat.le_of_eq (Heap.size_push _ _)) ?_
  have ne : s.heap.objs.size ≠ s.heap.objs.size + 1 := Nat.ne_of_lt (Nat.lt_succ_self _)
  refine ⟨by rw [upd_ne ne, upd_same], Nat.zero_le _, ne, e2, fun _ => none, (Heap.Ns1.of_empty e3).at fun o q => Heap.get?_push_of_some _ q, fun _ => True.intro, fun y hy => absurd rfl hy⟩
theorem attr_of {prog : Program} {w : World} {env : Env} {e : Expr} {f : Str} {pos : Pos} {s : Shared} {Q : Value → Shared → Prop} (hb : attributeBase e f env (eval e env) = eval e env)
    (h : wpAny (model prog w) A (eval e env) (fun o s₁ => wpAny (model prog w) A (getAttr o f true) Q E s₁) E s) : wpAny (model prog w) A (eval (.Attribute e f pos) env) Q E s :=
  Attribute_any_ h (by rw [arm_eval_Attribute, hb])
end
inductive tFld_P (K : PySem.W.Frag) (f : Str) (Q : VK) (x : V) (H1 : Hp) : Prop
  | mk (a C dx fs v : _) (h1 : x = .ref a) (h2 : H1 a = some (.ins C dx fs)) (h3 : Cls K C) (h4 : NoAttr K C f) (h5 : fs.lookup f = some v) (h6 : Q v H1) : tFld_P K f Q x H1
noncomputable def tFld (K : PySem.W.Frag) (ta : TE) (f : Str) : TE := fun σ H Q => ta σ H fun x H1 => tFld_P K f Q x H1
noncomputable def sFld (K : PySem.W.Frag) (ta tv : TE) (f : Str) : TS := fun D σ H => tv σ H fun y H1 => ta σ H1 fun x H2 => ∃ a C dx fs, x = .ref a ∧ H2 a = some (.ins C dx fs) ∧ Cls K C ∧ NoAttr K C f ∧ fs.length < 1000 ∧
  D.nx σ (upd H2 a (.ins C dx (putF f y fs)))
section
variable {X : Cx} {o e value : Expr} {f : Str} {pos pos' tpos : Pos} {ta tv : TE}
theorem pe_fld (he : PE X e ta) (hb : attributeBase e f X.env (eval e X.env) = eval e X.env) : PE X (.Attribute e f pos) (tFld X.K ta f) := by
  intro pins s σ H Q I h
  refine attr_of hb (thn (he pins s σ H _ I h) fun u s1 zz_ => ?_)
  obtain ⟨x, H1, I1, rx, a, C, dx, fs, v, ex, ea, c, n, l, q⟩ := zz_
  subst ex
  obtain rfl : u = Value.ref a := rx
  exact getattr_ok I1 ea c n l fun u' s2 I2 ru => ⟨v, H1, I2, ru, q⟩
theorem ps_fld (ha : PE X o ta) (hv : PE X value tv) (hs : swapsWith value (some (.Attribute o f pos')) pos.line X.env = pure false) : PS X (.Assign [.Attribute o f pos'] value pos) (sFld X.K ta tv f) := by
  intro pins s σ H D I h
  refine plainObj_wpAny_Assign_Attribute (thn (hv pins s σ H _ I h) fun u s1 ⟨y, H1, I1, ry, q⟩ => thn (ha pins s1 σ H1 _ I1 q) fun ov s2 zz_ => ?_) hs
  obtain ⟨x, H2, I2, rx, a, C, dx, fs, ex, ea, c, n, l, q2⟩ := zz_
  subst ex
  obtain rfl : ov = Value.ref a := rx
  exact setattr_ok I2 ea c n l ry fun s3 I3 => ⟨σ, _, I3, q2⟩
end
section
variable {X : Cx} {pins : List (Addr × Obj)} {σ : St} {H : Hp} {s : Shared} {A : Around} {E : Value → Shared → Prop} {Q : Value → Shared → Prop} {c : Value} {b : Bool}
inductive TyOf (K : PySem.W.Frag) (H : Hp) : V → Value → Prop where
  | non : TyOf K H .non (.type "NoneType")
  | bl (x : Bool) : TyOf K H (.bl x) (.type "bool")
  | int (i : Int) : TyOf K H (.int i) (.type "int")
  | str (x : Str) : TyOf K H (.str x) (.type "str")
  | flt (x : UInt64) : TyOf K H (.flt x) (.type "float")
  | lst {a : Addr} {xs : List V} (e : H a = some (.lst xs)) : TyOf K H (.ref a) (.type "list")
  | frz {a : Addr} {o : Obj} {xs : List V} (e : H a = some (.frz o (.lst xs))) : TyOf K H (.ref a) (.type "list")
  | tup {a : Addr} {xs : List V} (e : H a = some (.tup xs)) : TyOf K H (.ref a) (.type "tuple")
  | dK {a : Addr} {kvs : List (Key × V)} (e : H a = some (.dK kvs)) : TyOf K H (.ref a) (.type "dict")
  | dT {a : Addr} {kvs : List (List Key × V)} (e : H a = some (.dT kvs)) : TyOf K H (.ref a) (.type "dict")
  | ins {a C dx : Addr} {fs : List (Str × V)} (e : H a = some (.ins C dx fs)) (cl : Cls K C) (ha : PySem.W.findIn K (.ref C) "__class__" = some (some (.builtin "object.__class__")))
      (hn : PySem.W.specialIn K (.builtin "object.__class__") "__get__" = some (some (.builtin "getset_descriptor.__get__"))) (htk : PySem.W.takesIn K (.builtin "object.__class__") = some true)
      (hm : PySem.W.mroIn K C (.type "object") = some true) : TyOf K H (.ref a) (.ref C)
theorem isinst_ok {x : V} {u t : Value} (I : Inv X pins σ H s) (rx : RelV x u) (ty : TyOf X.K H x t) (e : PySem.W.kitOne X.K t c = some b) (h : ∀ tk, Q (.bool b) { s with toks := tk }) :
    wpAny (model X.prog X.w) A (call (.builtin "isinstance") [u, c]) Q E s := by
  cases ty with
  | non => cases (show u = Value.none from rx); exact PySem.W.kia_one PySem.W.kitx_none I.kIn True.intro e (fun z => nomatch z) h
  | bl y => cases (show u = Value.bool y from rx); exact PySem.W.kia_one PySem.W.kitx_bool I.kIn True.intro e (fun z => nomatch z) h
  | int i => obtain ⟨t, q⟩ := (show ∃ t, u = Value.int i t from rx); cases q; exact PySem.W.kia_one PySem.W.kitx_int I.kIn True.intro e (fun z => nomatch z) h
  | str y => obtain ⟨t, q⟩ := (show ∃ t, u = Value.str y t from rx); cases q; exact PySem.W.kia_one PySem.W.kitx_str I.kIn True.intro e (fun z => nomatch z) h
  | flt y => obtain ⟨t, q⟩ := (show ∃ t, u = Value.float y t from rx); cases q; exact PySem.W.kia_one PySem.W.kitx_float I.kIn True.intro e (fun z => nomatch z) h
  | @lst a xs ea =>
    cases (show u = Value.ref a from rx)
    obtain ⟨_, _, n, _, h1⟩ := (show ObjOk X.prog X.w H s.heap a (.lst xs) from I.hok a _ ea)
    exact PySem.W.kia_one PySem.W.kitx_list I.kIn ⟨_, h1, rfl⟩ e (fun z => nomatch z) h
  | @frz a ob xs ea =>
    cases (show u = Value.ref a from rx)
    obtain ⟨_, _, _, n, _, h1⟩ := (show ObjOk X.prog X.w H s.heap a (.frz ob (.lst xs)) from I.hok a _ ea)
    exact PySem.W.kia_one PySem.W.kitx_list I.kIn ⟨_, h1, rfl⟩ e (fun z => nomatch z) h
  | @tup a xs ea =>
    cases (show u = Value.ref a from rx)
    obtain ⟨_, _, _, p⟩ := (show ObjOk X.prog X.w H s.heap a (.tup xs) from I.hok a _ ea)
    obtain ⟨o, h1, h2, _⟩ := p
    exact PySem.W.kia_one PySem.W.kitx_tuple I.kIn ⟨o, h1, h2⟩ e (fun z => nomatch z) h
  | @dK a kvs ea =>
    cases (show u = Value.ref a from rx)
    obtain ⟨_, _, vs, _, p⟩ := (show ObjOk X.prog X.w H s.heap a (.dK kvs) from I.hok a _ ea)
    obtain ⟨o, es, ep, h1, h2, _⟩ := p
    exact PySem.W.kia_one PySem.W.kitx_dict I.kIn ⟨o, h1, h2.1⟩ e (fun z => nomatch z) h
  | @dT a kvs ea =>
    cases (show u = Value.ref a from rx)
    obtain ⟨_, _, xs, _, o, es, ep, h1, h2, _⟩ := (show ObjOk X.prog X.w H s.heap a (.dT kvs) from I.hok a _ ea)
    exact PySem.W.kia_one PySem.W.kitx_dict I.kIn ⟨o, h1, h2.1⟩ e (fun z => nomatch z) h
  | @ins a C dx fs ea cl ha hn htk hm =>
    cases (show u = Value.ref a from rx)
    obtain ⟨mA, O, _⟩ := ins_get I.hok ea
    obtain ⟨od, J, _⟩ := O.look
    exact PySem.W.kia_one (PySem.W.kitx_own (cl.get _) cl.hd ha hn htk hm) I.kIn J e (fun z => nomatch z) h
end
end L2
namespace L2
open PySem PySem.Spec PyProof.Rows
structure Room (k : Nat) (A : Around) : Prop where
  hd : A.handled = none
  dp : A.depth + 3 * k + 5 < recursionLimit
  un : A.units + 16 * k + 200 < cLine
theorem Room.mono {j k : Nat} {A : Around} (r : Room k A) (h : j ≤ k) : Room j A := ⟨r.hd, by have := r.dp; omega, by have := r.un; omega⟩
theorem Room.deeper {k : Nat} {A : Around} (r : Room (k + 1) A) (env : Env) : Room k (A.deeper env) :=
  ⟨r.hd, by have := r.dp; show A.depth + 1 + 3 * k + 5 < _; omega, by have := r.un; show A.units + 3 + 16 * k + 200 < _; omega⟩
theorem make_depth {A : Around} {C : Addr} {us : List Value} {kw : List (Str × Value)} : (A.under (.builtin "type.__call__" ⟨.ref C :: us, kw⟩)).depth = A.depth + 1 := by
  first | rfl | simp [Around.under, Code.weight, Code.isCreation, Code.isGuard, Code.isCaller, Code.frames, Code.isFrame, guardIds]
theorem make_units {A : Around} {C : Addr} {us : List Value} {kw : List (Str × Value)} : (A.under (.builtin "type.__call__" ⟨.ref C :: us, kw⟩)).units = A.units + 1 := by
  first | rfl | simp [Around.under, Code.cUnits, Code.frames, Code.isFrame]
theorem Room.make {k : Nat} {A : Around} (r : Room (k + 1) A) (C : Addr) (us : List Value) (kw : List (Str × Value)) : Room k (A.under (.builtin "type.__call__" ⟨.ref C :: us, kw⟩)) :=
  ⟨r.hd, by have := r.dp; rw [make_depth]; omega, by have := r.un; rw [make_units]; omega⟩
theorem Room.depth {k : Nat} {A : Around} (r : Room k A) : A.depth < recursionLimit := by have := r.dp; omega
theorem Room.units {k : Nat} {A : Around} (r : Room k A) : A.units + 64 < cLine := by have := r.un; omega
noncomputable def tNil : TA := fun _ H Q => Q [] H
noncomputable def tCons (ta : TE) (tr : TA) : TA := fun σ H Q => ta σ H fun x H1 => tr σ H1 fun xs H2 => Q (x :: xs) H2
section
variable {X : Cx} {e : Expr} {es : List Expr} {te : TE} {t : TA} {pos : Pos}
theorem pa_nil : PA X [] tNil := fun _ _ _ _ H Q I h => Calls.spliced_nil ⟨[], H, I, .nil, h⟩
theorem pa_cons (ha : PE X e te) (hr : PA X es t) (hs : starEach (e :: es) X.env = (false, eval e X.env) :: starEach es X.env := by rfl) : PA X (e :: es) (tCons te t) := by
  intro pos pins s σ H Q I h
  rw [hs]
  show wpAny _ _ (spliced ((false, eval e X.env) :: backTo pos (starEach es X.env))) _ _ s
  refine Calls.spliced_cons (thn (ha pins s σ H _ I h) fun u s1 zz_ => ?_)
  obtain ⟨x, H1, I1, r1, q1⟩ := zz_
  exact thn (hr pos pins s1 σ H1 _ I1 q1) fun us s2 ⟨xs, H2, I2, r2, q2⟩ => ⟨x :: xs, H2, I2, .cons r1 r2, q2⟩
noncomputable def tTup (t : TA) : TE := fun σ H Q => t σ H fun xs H1 => xs.length ≤ sizeLine ∧ ∀ p, H1 p = none → Q (.ref p) (upd H1 p (.tup xs))
noncomputable def tLst (t : TA) : TE := fun σ H Q => t σ H fun xs H1 => xs.length ≤ sizeLine ∧ ∀ p, H1 p = none → Q (.ref p) (upd H1 p (.lst xs))
theorem pe_tup {x1} (h : PA X es t) : PE X (.Tuple es x1 pos) (tTup t) := by
  intro pins s σ H Q I hq
  refine wpAny_Tuple_spliced (thn (h pos pins s σ H _ I hq) fun us s1 ⟨xs, H1, I1, r, z, q⟩ => ⟨by rw [← r.length]; exact z, ?_⟩)
  have hf : H1 s1.heap.objs.size = none := I1.hok.fresh (Nat.le_refl _)
  refine ⟨.ref s1.heap.objs.size, upd H1 s1.heap.objs.size (.tup xs), I1.laid (t' := s1.toks) (fun b u e => Heap.get?_push_of_some _ e) (Nat.le_refl _) ?_, rfl, q _ hf⟩
  exact ⟨z, us, r, ⟨_, Heap.get?_push_size _ rfl, rfl, _, rfl⟩⟩
theorem pe_lst (h : PA X es t) : PE X (.List es pos) (tLst t) := by
  intro pins s σ H Q I hq
  refine wpAny_List_spliced (thn (h pos pins s σ H _ I hq) fun us s1 ⟨xs, H1, I1, r, z, q⟩ => ⟨by rw [← r.length]; exact z, ?_⟩)
  have hf : H1 s1.heap.objs.size = none := I1.hok.fresh (Nat.le_refl _)
  refine ⟨.ref s1.heap.objs.size, upd H1 s1.heap.objs.size (.lst xs), I1.laid (t' := s1.toks) (fun b u e => Heap.get?_push_of_some _ e) (Nat.le_refl _) ?_, rfl, q _ hf⟩
  exact ⟨z, us, 0, r, Heap.get?_push_size _ rfl⟩
end
noncomputable abbrev Sp := List V → Hp → VK → XK → Prop
noncomputable abbrev CXT := List Env → Hp → Shared → XK → Value → Shared → Prop
structure Env0 (P : Program) (w : World) (K : PySem.W.Frag) (mg : Str → Option Value) (base : Heap) (A : Around) (outer : List Env) (s : Shared) (H : Hp) : Prop where
  frames : A.frames = some outer
  mod : Mod K mg base
  bs : ∀ b o, base.get? b = some o → s.heap.get? b = some o ∧ H b = none
  bsz : base.objs.size ≤ s.heap.objs.size
  funs : s.heap.FunFrames base outer
  frf : ∀ b ∈ frs outer, H b = none
  hok : HOk P w H s.heap
  bare : AllBare s.gens
noncomputable def CE (outer : List Env) (P : Program) (w : World) (H : Hp) (s : Shared) (Q : VK) (u : Value) (s' : Shared) : Prop :=
  ∃ v H', s'.os = s.os ∧ AllBare s'.gens ∧ Un (frs outer) [] H H' s.heap s'.heap ∧ HOk P w H' s'.heap ∧ RelV v u ∧ Q v H'
noncomputable def CR (CX : CXT) (outer : List Env) (P : Program) (w : World) (H : Hp) (s : Shared) (Q : VK) (E : XK) (r : Result) (s' : Shared) : Prop :=
  match r with
  | .ok (.ret u) => CE outer P w H s Q u s'
  | .ok _ => False
  | .error e => CX outer H s E e s'
structure FnOk (P : Program) (w : World) (K : PySem.W.Frag) (mg : Str → Option Value) (base : Heap) (CX : CXT) (k : Nat) (f : Addr) (fd : FuncData) (ps : List Str) (sp : Sp) : Prop where
  len : ∀ vs H Q E, sp vs H Q E → vs.length = ps.length
  run : ∀ (A : Around) (outer : List Env) (s : Shared) (H : Hp) (args : Args) (us : List Value) (vs : List V) (Q : VK) (E : XK), Room k A → Env0 P w K mg base A outer s H → BindsTo s fd args (ps.zip us) → Vals vs us → sp vs H Q E →
    codeAny (model P w) A (.call (.ref f) args) (CR CX outer P w H s Q E) s
theorem Env0.make {P : Program} {w : World} {K : PySem.W.Frag} {mg : Str → Option Value} {base : Heap} {A : Around} {outer : List Env} {s : Shared} {H : Hp} (e : Env0 P w K mg base A outer s H) (C : Addr) (us : List Value) (kw : List (Str × Value)) :
    Env0 P w K mg base (A.under (.builtin "type.__call__" ⟨.ref C :: us, kw⟩)) outer s H := ⟨by first | exact e.frames | (simpa [Around.under, Code.envs, Code.isFrame, pushEnvs] using e.frames), e.mod, e.bs, e.bsz, e.funs, e.frf, e.hok, e.bare⟩
section
variable {X : Cx} {pins : List (Addr × Obj)} {σ : St} {H : Hp} {s s' : Shared}
theorem Inv.env0 (I : Inv X pins σ H s) : Env0 X.prog X.w X.K X.mg X.base X.A X.stack s H :=
  ⟨I.ok.frames, I.ok.mod, I.bs, Nat.le_trans I.ok.bsz I.sz, I.stack, I.stkFree, I.hok, I.bare⟩
theorem Inv.after {Q : VK} {u : Value} (I : Inv X pins σ H s) (h : CE X.stack X.prog X.w H s Q u s') : EP X pins σ Q u s' := by
  obtain ⟨v, H', os, bare, un, hok, r, q⟩ := h
  obtain ⟨hh, g, d, t, os'⟩ := s'
  obtain rfl : os' = s.os := os
  exact ⟨v, H', I.call (h' := hh) (g' := g) (d' := d) (t' := t) (ch := []) un hok bare (fun b z => absurd z (by simp)), r, q⟩
end
noncomputable def tCall (sp : Sp) (dvs : List V) (E : XK) (t : TA) : TE := fun σ H Q => t σ H fun vs H1 => sp (vs ++ dvs) H1 Q E
inductive tMeth_P (C : Addr) (m : Str) (sp : Sp) (dvs : List V) (E : XK) (t : TA) (σ : St) (Q : VK) (x : V) (H1 : Hp) : Prop
  | mk (a dx fs : _) (h1 : x = .ref a) (h2 : H1 a = some (.ins C dx fs)) (h3 : fs.lookup m = none) (h4 : t σ H1 fun vs H2 => sp (x :: (vs ++ dvs)) H2 Q E) : tMeth_P C m sp dvs E t σ Q x H1
noncomputable def tMeth (C : Addr) (m : Str) (sp : Sp) (dvs : List V) (E : XK) (ta : TE) (t : TA) : TE := fun σ H Q => ta σ H fun x H1 => tMeth_P C m sp dvs E t σ Q x H1
noncomputable def tMake (C : Addr) (sp : Sp) (dvs : List V) (E : XK) (t : TA) : TE := fun σ H Q => t σ H fun vs H1 => ∀ x dx, H1 x = none → H1 dx = none → dx ≠ x →
  sp (.ref x :: (vs ++ dvs)) (upd (upd H1 dx (.own x)) x (.ins C dx [])) (fun v H2 => v = .non ∧ Q (.ref x) H2) E
noncomputable def Binds (K : PySem.W.Frag) (fd : FuncData) (ps : List Str) (ds : List Value) : Prop :=
  ∀ (s : Shared) (us : List Value), K.In s.heap → (us ++ ds).length = ps.length → BindsTo s fd ⟨us, []⟩ (ps.zip (us ++ ds))
theorem Binds.all {K : PySem.W.Frag} {fd : FuncData} {ps : List Str} (h : ∀ us : List Value, us.length = ps.length → bindArgs fd ⟨us, []⟩ = pure (ps.zip us)) : Binds K fd ps [] := fun s us _ hl => by
  rw [List.append_nil] at hl ⊢
  exact .of_eq (h us hl)
noncomputable def Passes (CX : CXT) (X : Cx) (E : XK) : Prop := ∀ (pins : List (Addr × Obj)) (σ : St) (H : Hp) (s : Shared) (e : Value) (s' : Shared), Inv X pins σ H s → CX X.stack H s E e s' → X.xe e s'
section
variable {X : Cx} {CX : CXT} {k : Nat} {f C : Addr} {fd : FuncData} {ps : List Str} {sp : Sp} {dvs : List V} {ds : List Value} {E : XK} {x m : Str} {p pos apos : Pos} {e o : Expr} {es : List Expr} {ta : TE} {t : TA}
theorem run_fn {pins : List (Addr × Obj)} {σ : St} {H : Hp} {s : Shared} {Q : VK} {us : List Value} {vs : List V} (F : FnOk X.prog X.w X.K X.mg X.base CX k f fd ps sp) (hr : Room k X.A) (hb : Binds X.K fd ps ds) (hd : Vals dvs ds) (hx : Passes CX X E)
    (I : Inv X pins σ H s) (r : Vals vs us) (h : sp (vs ++ dvs) H Q E) : wpAny (model X.prog X.w) X.A (call (.ref f) us) (EP X pins σ Q) X.xe s := by
  have r2 : Vals (vs ++ dvs) (us ++ ds) := r.append hd
  have hl : (us ++ ds).length = ps.length := by rw [← r2.length]; exact F.len _ _ _ _ h
  refine wpAny_call (codeAny_mono (F.run X.A X.stack s H ⟨us, []⟩ (us ++ ds) (vs ++ dvs) Q E hr I.env0 (hb s us I.kIn hl) r2 h) fun r s' hq => ?_)
  cases r with
  | error e => exact hx pins σ H s e s' I hq
  | ok fl =>
    cases fl with
    | ret u => exact I.after hq
    | next => exact False.elim hq
    | brk => exact False.elim hq
    | cont => exact False.elim hq
theorem pe_call (F : FnOk X.prog X.w X.K X.mg X.base CX k f fd ps sp) (hr : Room k X.A) (hg : Gl X x) (hm : X.mg x = some (.ref f)) (hk : PySem.W.keepIn X.K (.ref f) = true) (hb : Binds X.K fd ps ds) (hd : Vals dvs ds) (hx : Passes CX X E)
    (ha : PA X (e :: es) t) (hdb : (x == ("__debug__" : Str)) = false := by decide) (he : starEach (e :: es) X.env = (false, eval e X.env) :: starEach es X.env := by rfl) (hpl : (backTo pos (starEach es X.env)).any (·.1) = false := by rfl) :
    PE X (.Call (.Name x p) (e :: es) [] pos) (tCall sp dvs E t) := by
  intro pins s σ H Q I h
  refine wpAny_Call_Name_kw (ld_glob I hg hm ?_ hdb)
  refine PySem.W.callWith_K (h₀ := X.base) I.ok.mod.kin hk (thn (ha pos pins s σ H _ I h) fun us s1 ⟨vs, H1, I1, r, q⟩ => ⟨I1.kIn, ?_⟩) he hpl
  exact run_fn F hr hb hd hx I1 r q
theorem pe_meth {pl : Sem Bool} (he : PE X o ta) (c : Cls X.K C) (hm : Meth X.K C m f) (F : FnOk X.prog X.w X.K X.mg X.base CX k f fd ps sp) (hr : Room k X.A) (hb : Binds X.K fd ps ds) (hd : Vals dvs ds) (hx : Passes CX X E) (ha : PA X (e :: es) t)
    (hst : starEach (e :: es) X.env = (false, eval e X.env) :: starEach es X.env := by rfl) (hpl : (backTo pos (starEach es X.env)).any (·.1) = false := by rfl)
    (ht : eval (.Call (.Attribute o m apos) (e :: es) [] pos) X.env = (do
      let ov ← eval o X.env
      standAt apos.atName
      let (f, first) ← holding [ov] (getMethod ov m pl)
      callWith pos f first (backTo pos (starEach (e :: es) X.env)) (backToKw pos (keywordEach [] X.env))) := by rfl) :
    PE X (.Call (.Attribute o m apos) (e :: es) [] pos) (tMeth C m sp dvs E ta t) := by
  intro pins s σ H Q I h
  refine PySem.W.methodCall_KW (pl := pl) (thn (he pins s σ H _ I h) fun u s1 zz_ => ?_) ht
  obtain ⟨x, H1, I1, rx, a, dx, fs, ex, ea, l, q⟩ := zz_
  subst ex
  obtain rfl : u = Value.ref a := rx
  refine getmeth_ok I1 ea c hm l ?_
  refine PySem.W.callWith_K (first := [.ref a]) (h₀ := X.base) I.ok.mod.kin hm.kp (thn (ha pos pins s1 σ H1 _ I1 q) fun us s2 ⟨vs, H2, I2, r, q2⟩ => ⟨I2.kIn, ?_⟩) hst hpl
  exact run_fn (us := .ref a :: us) (vs := .ref a :: vs) F hr hb hd hx I2 (.cons rfl r) q2
theorem pe_meth0 {pl : Sem Bool} (he : PE X o ta) (c : Cls X.K C) (hm : Meth X.K C m f) (F : FnOk X.prog X.w X.K X.mg X.base CX k f fd ps sp) (hr : Room k X.A) (hb : Binds X.K fd ps ds) (hd : Vals dvs ds) (hx : Passes CX X E)
    (ht : eval (.Call (.Attribute o m apos) [] [] pos) X.env = (do
      let ov ← eval o X.env
      standAt apos.atName
      let (f, first) ← holding [ov] (getMethod ov m pl)
      callWith pos f first (backTo pos (starEach [] X.env)) (backToKw pos (keywordEach [] X.env))) := by rfl) :
    PE X (.Call (.Attribute o m apos) [] [] pos) (tMeth C m sp dvs E ta tNil) := by
  intro pins s σ H Q I h
  refine PySem.W.methodCall_KW (pl := pl) (thn (he pins s σ H _ I h) fun u s1 zz_ => ?_) ht
  obtain ⟨x, H1, I1, rx, a, dx, fs, ex, ea, l, q⟩ := zz_
  subst ex
  obtain rfl : u = Value.ref a := rx
  refine getmeth_ok I1 ea c hm l ?_
  exact PySem.W.callWith_K0 (first := [.ref a]) I1.kIn hm.kp (run_fn (us := [.ref a]) (vs := [.ref a]) F hr hb hd hx I1 (.cons rfl .nil) q)
structure Mk (K : PySem.W.Frag) (C f : Addr) : Prop where
  makes : PySem.W.makesIn K C = true
  init : PySem.W.findIn K (.ref C) "__init__" = some (some (.ref f))
  fn : PySem.W.isFn K (.ref f) = true
  kp : PySem.W.keepIn K (.ref C) = true
theorem run_make {pins : List (Addr × Obj)} {σ : St} {H : Hp} {s : Shared} {Q : VK} {us : List Value} {vs : List V} (M : Mk X.K C f) (F : FnOk X.prog X.w X.K X.mg X.base CX k f fd ps sp) (hr : Room (k + 1) X.A) (hb : Binds X.K fd ps ds) (hd : Vals dvs ds)
    (hx : Passes CX X E) (I : Inv X pins σ H s) (r : Vals vs us)
    (h : ∀ x dx, H x = none → H dx = none → dx ≠ x → sp (.ref x :: (vs ++ dvs)) (upd (upd H dx (.own x)) x (.ins C dx [])) (fun v H2 => v = .non ∧ Q (.ref x) H2) E) :
    wpAny (model X.prog X.w) X.A (call (.ref C) us) (EP X pins σ Q) X.xe s := by
  have hq := h (s.heap.objs.size + 1) s.heap.objs.size (I.hok.fresh (Nat.le_succ _)) (I.hok.fresh (Nat.le_refl _)) (Nat.ne_of_lt (Nat.lt_succ_self _))
  have I2 := Inv.made (C := C) I
  have r2 : Vals (V.ref (s.heap.objs.size + 1) :: (vs ++ dvs)) (Value.ref (s.heap.objs.size + 1) :: (us ++ ds)) := .cons rfl (r.append hd)
  have hl : (Value.ref (s.heap.objs.size + 1) :: us ++ ds).length = ps.length := by
    have e := r2.length
    rw [F.len _ _ _ _ hq] at e
    exact e.symm
  refine wpAny_call (make_map (f := f) I.kIn M.makes M.init (beq_iff_eq.mp M.fn) (codeAny_mono (F.run _ X.stack _ _ ⟨Value.ref (s.heap.objs.size + 1) :: us, []⟩ (Value.ref (s.heap.objs.size + 1) :: (us ++ ds)) _ _ E (hr.make C us [])
    (I2.env0.make C us []) (hb _ (Value.ref (s.heap.objs.size + 1) :: us) I2.kIn hl) r2 hq) fun r s' hq' => ?_))
  cases r with
  | error e => exact hx pins σ _ _ e s' I2 hq'
  | ok fl =>
    cases fl with
    | ret u =>
      obtain ⟨v, H', I3, rv, ev, q3⟩ := I2.after hq'
      subst ev
      exact ⟨rv, ⟨V.ref (s.heap.objs.size + 1), H', I3, rfl, q3⟩⟩
    | next => exact False.elim hq'
    | brk => exact False.elim hq'
    | cont => exact False.elim hq'
theorem pe_make (M : Mk X.K C f) (F : FnOk X.prog X.w X.K X.mg X.base CX k f fd ps sp) (hr : Room (k + 1) X.A) (hg : Gl X x) (hm : X.mg x = some (.ref C)) (hb : Binds X.K fd ps ds) (hd : Vals dvs ds) (hx : Passes CX X E)
    (ha : PA X (e :: es) t) (hdb : (x == ("__debug__" : Str)) = false := by decide) (he : starEach (e :: es) X.env = (false, eval e X.env) :: starEach es X.env := by rfl) (hpl : (backTo pos (starEach es X.env)).any (·.1) = false := by rfl) :
    PE X (.Call (.Name x p) (e :: es) [] pos) (tMake C sp dvs E t) := by
  intro pins s σ H Q I h
  refine wpAny_Call_Name_kw (ld_glob I hg hm ?_ hdb)
  refine PySem.W.callWith_K (h₀ := X.base) I.ok.mod.kin M.kp (thn (ha pos pins s σ H _ I h) fun us s1 ⟨vs, H1, I1, r, q⟩ => ⟨I1.kIn, ?_⟩) he hpl
  exact run_make M F hr hb hd hx I1 r q
end
section
variable {X : Cx} {CX : CXT} {k : Nat} {f C : Addr} {fd : FuncData} {ps ks : List Str} {sp : Sp} {E : XK} {x m : Str} {p pos apos kpos : Pos} {e o : Expr} {es : List Expr} {kws : List Keyword} {te ta : TE} {t tk : TA} {nm : Option Str}
variable {g : List Value → List Value → List Value} {gV : List V → List V → List V}
end
structure FnScope (N P : List Str) (sc : Scope) : Prop where
  kind : sc.kind = .function
  co : sc.isCoroutine = false
  gen : sc.isGenerator = false
  nd : N.Nodup
  pre : N.take P.length = P
  par : ∀ x ∈ P, sc.names.lookup x = some .local ∨ sc.names.lookup x = some .cell
  nofree : ∀ y ∈ sc.names, y.2 ≠ .free
theorem bindL_out {kindOf : Str → Option NameKind} {x : Str} : ∀ {binds : List (Str × Value)} {m : Str → Option Value}, (∀ v, (x, v) ∉ binds) → bindL kindOf binds m x = m x
  | [], _, _ => rfl
  | (n, v) :: r, m, h => by
    unfold bindL
    rw [bindL_out fun w hw => h w (List.mem_cons_of_mem _ hw)]
    split
    · have : x ≠ n := by rintro rfl; exact h v List.mem_cons_self
      simp [this]
    · rfl
theorem bindC_out {kindOf : Str → Option NameKind} {x : Str} : ∀ {binds : List (Str × Value)} {m : Str → Option Value}, (∀ v, (x, v) ∉ binds) → bindC kindOf binds m x = m x
  | [], _, _ => rfl
  | (n, v) :: r, m, h => by
    unfold bindC
    rw [bindC_out fun w hw => h w (List.mem_cons_of_mem _ hw)]
    split
    · rfl
    · have : x ≠ n := by rintro rfl; exact h v List.mem_cons_self
      simp [this]
theorem bindL_get {kindOf : Str → Option NameKind} {x : Str} {v : Value} : ∀ {P : List Str} {vs : List Value} {i : Nat} {m : Str → Option Value}, P.Nodup → P[i]? = some x → vs[i]? = some v → kindOf x = some .local →
    bindL kindOf (P.zip vs) m x = some v
  | [], _, _, _, _, h, _, _ => by simp at h
  | _ :: _, [], _, _, _, _, h, _ => by simp at h
  | p :: P, w :: vs, 0, m, nd, h1, h2, hk => by
    simp at h1 h2; subst h1; subst h2
    show bindL kindOf ((p, w) :: P.zip vs) m p = _
    unfold bindL
    rw [bindL_out fun v hv => (List.nodup_cons.mp nd).1 (List.of_mem_zip hv).1, if_pos hk]
    simp
  | p :: P, w :: vs, i + 1, m, nd, h1, h2, hk => by
    show bindL kindOf ((p, w) :: P.zip vs) m x = _
    unfold bindL
    exact bindL_get (i := i) (List.nodup_cons.mp nd).2 (by simpa using h1) (by simpa using h2) hk
theorem bindC_get {kindOf : Str → Option NameKind} {x : Str} {v : Value} : ∀ {P : List Str} {vs : List Value} {i : Nat} {m : Str → Option Value}, P.Nodup → P[i]? = some x → vs[i]? = some v → kindOf x ≠ some .local →
    bindC kindOf (P.zip vs) m x = some v
  | [], _, _, _, _, h, _, _ => by simp at h
  | _ :: _, [], _, _, _, _, h, _ => by simp at h
  | p :: P, w :: vs, 0, m, nd, h1, h2, hk => by
    simp at h1 h2; subst h1; subst h2
    show bindC kindOf ((p, w) :: P.zip vs) m p = _
    unfold bindC
    rw [bindC_out fun v hv => (List.nodup_cons.mp nd).1 (List.of_mem_zip hv).1, if_neg hk]
    simp
  | p :: P, w :: vs, i + 1, m, nd, h1, h2, hk => by
    show bindC kindOf ((p, w) :: P.zip vs) m x = _
    unfold bindC
    exact bindC_get (i := i) (List.nodup_cons.mp nd).2 (by simpa using h1) (by simpa using h2) hk
noncomputable def start (N : List Str) (vs : List V) : St := vs.map some ++ List.replicate (N.length - vs.length) none
noncomputable def cxOf (CX : CXT) (P : Program) (w : World) (K : PySem.W.Frag) (mg : Str → Option Value) (base : Heap) (N : List Str) (qual : Str) (scope : Scope) (f : Addr) (cd : Value) (A : Around) (outer : List Env) (s : Shared) (H : Hp) (E : XK) : Cx where
  prog := P
  w := w
  K := K
  mg := mg
  base := base
  A := A.deeper (envOfC qual scope s.heap.objs.size f cd)
  N := N
  s₀ := s
  H₀ := H
  env := envOfC qual scope s.heap.objs.size f cd
  outer := outer
  stack := envOfC qual scope s.heap.objs.size f cd :: outer
  ex := []
  calm := true
  fn := fun _ => true
  pn := []
  xe := fun e s' => wpAny (model P w) (A.deeper (envOfC qual scope s.heap.objs.size f cd)) (leaving (envOfC qual scope s.heap.objs.size f cd) e) (fun _ s'' => CX outer H s E e s'') (fun e' s'' => CX outer H s E e' s'') s'
theorem cell_has {sc : Scope} {n : Nat} {x : Str} (h : sc.names.lookup x = some .cell) : ∃ c, (cellsFrom n sc.names []).lookup x = some c := by
  have q := PySem.W.cellsFrom_some sc.names n [] (.inl h)
  exact Option.isSome_iff_exists.mp q
theorem inv_start {CX : CXT} {P : Program} {w : World} {K : PySem.W.Frag} {mg : Str → Option Value} {base : Heap} {N ps : List Str} {qual : Str} {scope : Scope} {f : Addr} {cd : Value} {A : Around} {outer : List Env} {s s1 : Shared} {H : Hp} {E : XK} {us : List Value} {vs : List V}
    (S : FnScope N ps scope) (hd : A.handled = none) (e0 : Env0 P w K mg base A outer s H) (hl : vs.length = ps.length) (r : Vals vs us)
    (x : InCallC s s.heap.objs.size (bindL (envOfC qual scope s.heap.objs.size f cd).kindOf (ps.zip us) fun _ => none) (cellsFrom (s.heap.objs.size + 1) scope.names []) (bindC (envOfC qual scope s.heap.objs.size f cd).kindOf (ps.zip us) fun _ => none) s1) :
    Inv (cxOf CX P w K mg base N qual scope f cd A outer s H E) [] (start N vs) H s1 := by
  have hpl : ps.length ≤ N.length := by have := congrArg List.length S.pre; rw [List.length_take] at this; omega
  obtain ⟨h1, tk, rfl, hk⟩ := x.done
  have noA : ∀ b : Addr, b ∉ (cxOf CX P w K mg base N qual scope f cd A outer s H E).ex := fun b z => absurd (show b ∈ ([] : List Addr) from z) (by simp)
  refine ⟨⟨e0.mod, S.kind, rfl, rfl, Nat.le_refl _, fun y z c h1 h2 => ?_, fun y hy => ?_, fun y c _ h => ?_, fun _ => hd, Around.frames_deeper e0.frames, .inr ⟨rfl, rfl⟩, fun b z => absurd z (noA b), e0.bs, e0.bsz, fun b _ _ => noA b, fun b z => absurd z (noA b), e0.funs, e0.frf⟩,
    rfl, e0.bare, Un.kept hk, ⟨_, x.toInCall.ns, fun i y v h1 h2 h3 => ?_⟩, fun y c h => ⟨_, x.cell y c h⟩, e0.hok.fresh (Nat.le_refl _), fun y c h => ?_, fun p hp => absurd (show p ∈ ([] : List (Addr × Obj)) from hp) (by simp), e0.hok.kept hk, ?_⟩
  · exact name_of_addr x.apart (PySem.mem_of_lookup h1) (PySem.mem_of_lookup h2)
  · have hy : scope.names.lookup y = some .cell ∨ scope.names.lookup y = some .free := hy
    rcases hy with hy | hy
    · exact cell_has hy
    · exact absurd rfl (S.nofree _ (PySem.mem_of_lookup hy))
  · exact Nat.le_of_lt (x.above y c (PySem.mem_of_lookup h))
  · have hi : i < vs.length := by
      unfold start at h2
      by_cases hi : i < vs.length
      · exact hi
      · rw [List.getElem?_append_right (by simpa using hi)] at h2
        rw [List.getElem?_replicate] at h2
        split at h2 <;> cases h2
    have ha : vs[i]? = some v := by
      unfold start at h2
      rw [List.getElem?_append_left (by simpa using hi), List.getElem?_map] at h2
      cases e : vs[i]? with
      | none => rw [e] at h2; cases h2
      | some a => rw [e] at h2; cases h2; rfl
    obtain ⟨u, hu, rv⟩ := r.get ha
    have hp : ps[i]? = some y := by
      rw [← S.pre, List.getElem?_take_of_lt (by omega)]; exact h1
    have ndP : ps.Nodup := by rw [← S.pre]; exact S.nd.sublist (List.take_sublist _ _)
    refine ⟨u, rv, ?_⟩
    rcases S.par y (List.mem_of_getElem? hp) with k | k
    · exact .inl ⟨k, bindL_get ndP hp hu k⟩
    · obtain ⟨c, e⟩ := cell_has (n := s.heap.objs.size + 1) k
      refine .inr ⟨.inl k, c, e, ?_⟩
      have q := x.cell y c e
      rw [bindC_get ndP hp hu (by show scope.names.lookup y ≠ _; rw [k]; decide)] at q
      exact q
  · exact e0.hok.fresh (Nat.le_of_lt (x.above y c (PySem.mem_of_lookup h)))
  · unfold start
    show _ = N.length
    rw [List.length_append, List.length_map, List.length_replicate]
    omega
theorem fn_of {CX : CXT} {P : Program} {w : World} {K : PySem.W.Frag} {mg : Str → Option Value} {base : Heap} {k : Nat} {f : Addr} {name qual : Str} {params : Arguments} {body : List Stmt} {scope : Scope} {dV kV doc pm cdv ct oc : Value} {an od : Option Addr}
    {osl : Array (Option Value)} {N ps : List Str} {sp : Sp} (lk : K.lookup f = some ⟨oc, od, .func (PySem.W.fnOf name qual params body scope dV kV doc pm an cdv ct), osl⟩) (hcd : PySem.W.codeIn K cdv qual = true) (S : FnScope N ps scope)
    (len : ∀ vs H Q E, sp vs H Q E → vs.length = ps.length)
    (hbody : ∀ (A : Around) (outer : List Env) (s : Shared) (H : Hp) (vs : List V) (Q : VK) (E : XK), Room k (A.deeper (envOfC qual scope s.heap.objs.size f cdv)) → sp vs H Q E →
      ∃ t, PSs (cxOf CX P w K mg base N qual scope f cdv A outer s H E) body t ∧ t { nx := fun _ H' => Q .non H', rt := Q } (start N vs) H) :
    FnOk P w K mg base CX (k + 1) f (PySem.W.fnOf name qual params body scope dV kV doc pm an cdv ct) ps sp := by
  refine ⟨len, fun A outer s H args us vs Q E hr e0 hb r hsp => ?_⟩
  have hl := len _ _ _ _ hsp
  have KX : K.In s.heap := e0.mod.kin.keeps fun b o e => (e0.bs b o e).1
  have lim : s.heap.NoLimit := e0.mod.nolimit.keeps fun b o e => (e0.bs b o e).1
  have hkind : ∀ y ∈ ps.zip us, scope.names.lookup y.1 = some .local ∨ (scope.names.lookup y.1 = some .cell ∧ ((cellsFrom (s.heap.objs.size + 1) scope.names []).lookup y.1).isSome = true) := fun ⟨n, v⟩ hy => by
    rcases S.par n (List.of_mem_zip hy).1 with q | q
    · exact .inl q
    · exact .inr ⟨q, PySem.W.cellsFrom_some _ _ _ (.inl q)⟩
  refine codeAny_call_function hr.depth (KX _ _ lk) rfl S.co S.gen rfl (PySem.W.codeRec_of KX hcd) (hb _ _ _ _ ?_)
  refine wpAny_newFunctionEnv_cells S.kind hkind fun env he s1 x => ?_
  subst he
  refine ⟨lim.keeps x.toInCall.keep, codeAny_func ?_⟩
  obtain ⟨t, ht, hq⟩ := hbody A outer s H vs Q E (hr.deeper _) hsp
  have I : Inv (cxOf CX P w K mg base N qual scope f cdv A outer s H E) [] (start N vs) H s1 := inv_start S hr.hd e0 hl r x
  refine wpAny_mono (ht [] s1 (start N vs) H _ I hq) (fun fl s' hs => ?_) fun e s' hs => hs
  have fin : ∀ {σ' : St} {H' : Hp} {v : V} {u : Value}, Inv (cxOf CX P w K mg base N qual scope f cdv A outer s H E) [] σ' H' s' → RelV v u → Q v H' → CE outer P w H s Q u s' :=
    fun {σ' H' v u} J rv q => ⟨v, H', J.os, J.bare, J.base, J.hok, rv, q⟩
  cases fl with
  | ret u =>
    obtain ⟨v, σ', H', J, rv, q⟩ := hs
    exact fin J rv q
  | next =>
    obtain ⟨σ', H', J, q⟩ := hs
    exact fin (v := V.non) (u := Value.none) J rfl q
  | brk =>
    obtain ⟨_, _, _, q⟩ := hs
    exact False.elim q
  | cont =>
    obtain ⟨_, _, _, q⟩ := hs
    exact False.elim q
end L2
namespace L2
open PySem PySem.Spec PyProof.Rows
section
variable {X : Cx} {x : Str} {p pos : Pos} {e : Expr} {es : List Expr} {t : TA} {id T : String} {r : List V → Hp → VK → Prop}
noncomputable def tCB (r : List V → Hp → VK → Prop) (t : TA) : TE := fun σ H Q => t σ H fun vs H1 => r vs H1 Q
theorem pe_callB (hc : CallR X (.builtin id) r) (hg : Gl X x) (hm : X.mg x = none) (hv : bootBuiltins x = some (.builtin id)) (ha : PA X (e :: es) t) (hn : x ≠ "__name__" := by decide) (hdb : (x == ("__debug__" : Str)) = false := by decide)
    (he : starEach (e :: es) X.env = (false, eval e X.env) :: starEach es X.env := by rfl) (hpl : (backTo pos (starEach es X.env)).any (·.1) = false := by rfl) : PE X (.Call (.Name x p) (e :: es) [] pos) (tCB r t) := by
  intro pins s σ H Q I h
  refine wpAny_Call_Name_kw (ld_blt I hg hm hv ?_ hn hdb)
  exact PyProof.Rows.callWith_builtin1 (thn (ha pos pins s σ H _ I h) fun us s1 ⟨vs, H1, I1, r1, q1⟩ => hc pins s1 σ H1 vs us Q I1 r1 q1) he hpl
theorem pe_callTy (hc : CallR X (.type T) r) (hg : Gl X x) (hm : X.mg x = none) (hv : bootBuiltins x = some (.type T)) (ha : PA X (e :: es) t) (hn : x ≠ "__name__" := by decide) (hdb : (x == ("__debug__" : Str)) = false := by decide)
    (he : starEach (e :: es) X.env = (false, eval e X.env) :: starEach es X.env := by rfl) (hpl : (backTo pos (starEach es X.env)).any (·.1) = false := by rfl) : PE X (.Call (.Name x p) (e :: es) [] pos) (tCB r t) := by
  intro pins s σ H Q I h
  refine wpAny_Call_Name_kw (ld_blt I hg hm hv ?_ hn hdb)
  exact PyProof.Rows.callWith_type1 (thn (ha pos pins s σ H _ I h) fun us s1 ⟨vs, H1, I1, r1, q1⟩ => hc pins s1 σ H1 vs us Q I1 r1 q1) he hpl
end
end L2
namespace HT
open PySem PyProof.Rows
section
open PySem.SeqAt
open PySem.AutoSeq1 (wpAny_loadPart')
open PySem.MeetsSeq PySem.MeetsSeq2 PySem.MeetsSeq3
end
section
variable {prog : Program} {w : World} {A : Around} {E : Value → Shared → Prop} {s : Shared}
noncomputable def sIx (n d : Nat) : Option Int → Nat
  | none => d
  | some v => if v < 0 then (v + (n : Int)).toNat else min v.toNat n
theorem sIx_nat (n d k : Nat) : sIx n d (some (k : Int)) = min k n := by
  show (if (k : Int) < 0 then ((k : Int) + (n : Int)).toNat else min (k : Int).toNat n) = min k n
  rw [if_neg (by omega), Int.toNat_natCast]
end
end HT
namespace L2
open PySem PySem.Spec PyProof.Rows
noncomputable abbrev TO := St → Hp → (Option Int → Hp → Prop) → Prop
noncomputable def PO (X : Cx) (e : Option Expr) (t : TO) : Prop :=
  ∀ (pins : List (Addr × Obj)) (s : Shared) (σ : St) (H : Hp) (Q : Option Int → Hp → Prop), Inv X pins σ H s → t σ H Q →
    wpAny (model X.prog X.w) X.A (evalPart e X.env) (fun u s' => ∃ o H', Inv X pins σ H' s' ∧ IsPart u o ∧ Q o H') X.xe s
inductive tPart_P (Q : (Option Int → Hp → Prop)) (x : V) (H1 : Hp) : Prop
  | mk (i : _) (h1 : x = .int i) (h2 : Q (some i) H1) : tPart_P Q x H1
noncomputable def tPart (t : TE) : TO := fun σ H Q => t σ H fun x H1 => tPart_P Q x H1
section
variable {X : Cx} {e : Expr} {te : TE} {lo hi : Option Expr} {tl th : TO} {pos p2 : Pos}
theorem po_some (h : PE X e te) : PO X (some e) (tPart te) := by
  intro pins s σ H Q I hw
  rw [evalPart_some]
  refine thn (h pins s σ H _ I hw) fun u s1 zz_ => ?_
  obtain ⟨x, H1, I1, r1, q1⟩ := zz_
  obtain ⟨i, rfl, q⟩ := q1
  obtain ⟨t, rfl⟩ := r1
  exact ⟨some i, H1, I1, .int i t, q⟩
noncomputable def SlR (X : Cx) (r : V → Option Int → Option Int → Hp → VK → Prop) : Prop :=
  ∀ (pins : List (Addr × Obj)) (s : Shared) (σ : St) (H : Hp) (x : V) (v vl vu : Value) (lo hi : Option Int) (sl : Addr) (Q : VK), Inv X pins σ H s → RelV x v → s.heap.IsSliceOf sl vl vu .none → IsPart vl lo → IsPart vu hi → r x lo hi H Q →
    ∃ T id, typeLookup (.type T) "__getitem__" = pure (some (.builtin id)) ∧ s.TypeIs v T ∧ wpAny (model X.prog X.w) X.A (getItem v (.ref sl)) (EP X pins σ Q) X.xe s
theorem SlR.or {r r' : V → Option Int → Option Int → Hp → VK → Prop} (h : SlR X r) (h' : SlR X r') : SlR X (fun x lo hi H Q => r x lo hi H Q ∨ r' x lo hi H Q) := by
  intro pins s σ H x v vl vu lo hi sl Q I rx hs pl pu q
  rcases q with q | q
  · exact h pins s σ H x v vl vu lo hi sl Q I rx hs pl pu q
  · exact h' pins s σ H x v vl vu lo hi sl Q I rx hs pl pu q
noncomputable def tSl (r : V → Option Int → Option Int → Hp → VK → Prop) (te : TE) (tl th : TO) : TE := fun σ H Q => te σ H fun x H1 => tl σ H1 fun l H2 => th σ H2 fun u H3 => r x l u H3 Q
theorem pe_slice {r : V → Option Int → Option Int → Hp → VK → Prop} (hr : SlR X r) (he : PE X e te) (hl : PO X lo tl) (hu : PO X hi th) : PE X (.Subscript e (.Slice lo hi none p2) pos) (tSl r te tl th) := by
  intro pins s σ H Q I h
  refine Subscript_ (thn (he pins s σ H _ I h) fun v s1 zz_ => ?_)
  obtain ⟨x, H1, I1, r1, q1⟩ := zz_
  refine wpAny_Slice (thn (hl pins s1 σ H1 _ I1 q1) fun vl s2 ⟨l, H2, I2, pl, q2⟩ => thn (hu pins s2 σ H2 _ I2 q2) fun vu s3 zz_ => ?_)
  obtain ⟨u, H3, I3, pu, q3⟩ := zz_
  rw [evalPart_none]
  refine wpAny_pure ?_
  have I4 : Inv X pins σ H3 { s3 with heap := s3.heap.push { cls := .type "slice", data := .fields #[vl, vu, .none] } } := I3.kept (t' := s3.toks) fun b ob q => Heap.get?_push_of_some _ q
  obtain ⟨T, id, hT, ht, hg⟩ := hr pins { s3 with heap := s3.heap.push { cls := .type "slice", data := .fields #[vl, vu, .none] } } σ H3 x v vl vu l u s3.heap.objs.size Q I4 r1 (Heap.IsSliceOf.new ..) pl pu q3
  show wpAny (model X.prog X.w) X.A (subscriptTail e (.Slice lo hi none p2) v (.ref s3.heap.objs.size)) (EP X pins σ Q) X.xe { s3 with heap := s3.heap.push { cls := .type "slice", data := .fields #[vl, vu, .none] } }
  exact tail_any (ops := [.ref s3.heap.objs.size, v]) ht hT hg (by with_unfolding_all rfl)
noncomputable def cutV (xs : List V) (lo hi : Option Int) : List V := (xs.drop (HT.sIx xs.length 0 lo)).take (HT.sIx xs.length xs.length hi - HT.sIx xs.length 0 lo)
theorem cutV_length (xs : List V) (lo hi : Option Int) : (cutV xs lo hi).length ≤ xs.length := by
  unfold cutV
  refine Nat.le_trans (List.length_take_le' _ _) ?_
  rw [List.length_drop]
  exact Nat.sub_le _ _
end
end L2
namespace L2
open PySem PySem.Spec PyProof.Rows
noncomputable def ixN (n : Nat) (i : Int) : Option Nat := if 0 ≤ i then (if i < n then some i.toNat else none) else if -(n : Int) ≤ i then some (i + n).toNat else none
noncomputable def atI {α : Type} (xs : List α) (i : Int) : Option α := (ixN xs.length i).bind fun j => xs[j]?
theorem ixN_seq {n : Nat} {i : Int} {j : Nat} (h : ixN n i = some j) : seqIndex? i n = some j ∧ j < n ∧ -(n : Int) ≤ i ∧ i < n := by
  unfold ixN at h
  by_cases h0 : 0 ≤ i
  · rw [if_pos h0] at h
    by_cases h1 : i < n
    · rw [if_pos h1] at h
      have e : i.toNat = j := Option.some.inj h
      exact ⟨by rw [seqIndex_of h0 h1, e], by omega, by omega, h1⟩
    · rw [if_neg h1] at h; cases h
  · rw [if_neg h0] at h
    by_cases h1 : -(n : Int) ≤ i
    · rw [if_pos h1] at h
      have e : (i + n).toNat = j := Option.some.inj h
      exact ⟨by rw [seqIndex_neg (by omega) h1, e], by omega, h1, by omega⟩
    · rw [if_neg h1] at h; cases h
theorem atI_get {α : Type} {xs : List α} {i : Int} {v : α} (h : atI xs i = some v) : ∃ j, seqIndex? i xs.length = some j ∧ xs[j]? = some v ∧ j < xs.length ∧ -(xs.length : Int) ≤ i ∧ i < xs.length := by
  unfold atI at h
  cases e : ixN xs.length i with
  | none => rw [e] at h; cases h
  | some j =>
    rw [e] at h
    obtain ⟨h1, h2, h3, h4⟩ := ixN_seq e
    exact ⟨j, h1, h, h2, h3, h4⟩
theorem atI_nat {α : Type} {xs : List α} {j : Nat} {v : α} (h : xs[j]? = some v) : atI xs (j : Int) = some v := by
  have hj : j < xs.length := (List.getElem?_eq_some_iff.mp h).1
  have e : ixN xs.length (j : Int) = some j := by
    unfold ixN
    rw [if_pos (by omega), if_pos (by omega)]; simp
  unfold atI; rw [e]; exact h
noncomputable def PlainIx (b : Expr) : Prop := ∀ o i, subscripted b false o i = operate [o, i] (getItem o i)
noncomputable def IxR (X : Cx) (r : R2) : Prop :=
  ∀ (value slice : Expr) (pins : List (Addr × Obj)) (s : Shared) (σ : St) (H : Hp) (x y : V) (v u : Value) (Q : VK), Inv X pins σ H s → RelV x v → RelV y u → r x y H Q →
    subscripted slice false v u = operate [v, u] (getItem v u) → wpAny (model X.prog X.w) X.A (subscriptTail value slice v u) (EP X pins σ Q) X.xe s
noncomputable def MtR (X : Cx) (id : String) (r : V → List V → Hp → VK → Prop) : Prop :=
  ∀ (pins : List (Addr × Obj)) (s : Shared) (σ : St) (H : Hp) (x : V) (xs : List V) (v : Value) (us : List Value) (Q : VK), Inv X pins σ H s → RelV x v → Vals xs us → r x xs H Q →
    wpAny (model X.prog X.w) X.A (call (.builtin id) (v :: us)) (EP X pins σ Q) X.xe s
section
variable {X : Cx} {a b : Expr} {ta tb : TE} {pos : Pos}
theorem IxR.or {r r' : R2} (h : IxR X r) (h' : IxR X r') : IxR X (fun x y H Q => r x y H Q ∨ r' x y H Q) := by
  intro value slice pins s σ H x y v u Q I rx ry q hs
  rcases q with q | q
  · exact h value slice pins s σ H x y v u Q I rx ry q hs
  · exact h' value slice pins s σ H x y v u Q I rx ry q hs
theorem pe_ix {r : R2} (hr : IxR X r) (ha : PE X a ta) (hb : PE X b tb) (hs : PlainIx b) : PE X (.Subscript a b pos) (tOp r ta tb) := by
  intro pins s σ H Q I h
  exact Subscript_ (binT ha hb I h fun v u s2 x y H2 I2 rx ry q => hr a b pins s2 σ H2 x y v u Q I2 rx ry q (hs _ _))
inductive rIxL_P (K : PySem.W.Frag) (x : V) (y : V) (H : Hp) (Q : VK) : Prop
  | mk (p xs i v : _) (h1 : x = .ref p) (h2 : y = .int i) (h3 : SqL K H p xs) (h4 : atI xs i = some v) (h5 : Q v H) : rIxL_P K x y H Q
noncomputable def rIxL (K : PySem.W.Frag) : R2 := fun x y H Q => rIxL_P K x y H Q
inductive rIxT_P (K : PySem.W.Frag) (x : V) (y : V) (H : Hp) (Q : VK) : Prop
  | mk (p xs i v : _) (h1 : x = .ref p) (h2 : y = .int i) (h3 : SqT K H p xs) (h4 : atI xs i = some v) (h5 : Q v H) : rIxT_P K x y H Q
noncomputable def rIxT (K : PySem.W.Frag) : R2 := fun x y H Q => rIxT_P K x y H Q
noncomputable def rIxS : R2 := fun x y H Q => ∃ z i c, x = .str z ∧ y = .int i ∧ z.length ≤ sizeLine ∧ atI z.cps.toList i = some c ∧ Q (.str ⟨#[c]⟩) H
theorem ix_list : IxR X (rIxL X.K) := by
  intro value slice pins s σ H x y v u Q I rx ry h hs
  obtain ⟨p, xs, i, z, rfl, rfl, hq, he, q⟩ := h
  cases rx
  obtain ⟨t, rfl⟩ := ry
  obtain ⟨its, r, pl, hz⟩ := I.list hq
  obtain ⟨j, h1, h2, h3, h4, h5⟩ := atI_get he
  obtain ⟨w, ew, rw'⟩ := r.get h2
  have hl := r.length
  have hn := line63
  have fin : EP X pins σ Q w s := ⟨z, H, I, rw', q⟩
  by_cases h0 : 0 ≤ i
  · have hj : i.toNat = j := by
      rw [seqIndex_of h0 h5] at h1
      exact Option.some.inj h1
    exact item_listR pl.isList h0 (by omega) (by rw [hj]; simpa using ew) fin hs
  · have hj : (i + (its.toArray.size : Int)).toNat = j := by
      rw [seqIndex_neg (by omega) h4] at h1
      rw [List.size_toArray, ← hl]
      exact Option.some.inj h1
    exact subscriptTail_builtinR (x := w) pl.isList.typeIs slot_list_getitem.lookup
      (wpAny_getItem_list_neg (Q := fun r s' => r = w ∧ EP X pins σ Q r s') pl.isList (by omega) (by rw [List.size_toArray] <;> omega) (by omega) (by rw [hj]; simpa using ew) ⟨rfl, fin⟩) hs
theorem ix_tup : IxR X (rIxT X.K) := by
  intro value slice pins s σ H x y v u Q I rx ry h hs
  obtain ⟨p, xs, i, z, rfl, rfl, hq, he, q⟩ := h
  cases rx
  obtain ⟨t, rfl⟩ := ry
  obtain ⟨its, r, pl, hz⟩ := I.tuple hq
  obtain ⟨j, h1, h2, h3, h4, h5⟩ := atI_get he
  obtain ⟨w, ew, rw'⟩ := r.get h2
  have hl := r.length
  have hn := line63
  have fin : EP X pins σ Q w s := ⟨z, H, I, rw', q⟩
  exact subscriptTail_builtinR (x := w) pl.typeIs slot_tuple_getitem.lookup
    (getItem_tuple (j := j) (Q := fun r s' => r = w ∧ EP X pins σ Q r s') pl (by omega) (by omega) (by rw [List.size_toArray, ← hl]; exact h1) (by simpa using ew) ⟨rfl, fin⟩) hs
theorem ix_str : IxR X rIxS := by
  intro value slice pins s σ H x y v u Q I rx ry h hs
  obtain ⟨z, i, c, rfl, rfl, hz, he, q⟩ := h
  obtain ⟨t, rfl⟩ := rx
  obtain ⟨t', rfl⟩ := ry
  obtain ⟨j, h1, h2, h3, h4, h5⟩ := atI_get he
  have hl : z.cps.toList.length = z.length := by simp [Str.length]
  rw [hl] at h1 h4 h5
  have hn := line63
  exact tail_any (typeIs_str s z t) slot_str_getitem.lookup (getItem_str (c := c) (by
    have e1 : decide (i < -(2 ^ 63 : Int)) = false := decide_eq_false (by omega)
    have e2 : decide (i ≥ 2 ^ 63) = false := decide_eq_false (by omega)
    rw [e1, e2, Bool.or_false]) (by rw [h1]; simpa using h2) ⟨.str ⟨#[c]⟩, H, I.tok _, ⟨_, rfl⟩, q⟩) hs
noncomputable def rIx (K : PySem.W.Frag) : R2 := fun x y H Q => rIxL K x y H Q ∨ rIxT K x y H Q ∨ rIxS x y H Q
theorem ix_seq : IxR X (rIx X.K) := ix_list.or (ix_tup.or ix_str)
theorem mapSeq_set (its : List Value) (n j : Nat) (u : Value) : Obj.mapSeq (·.setIfInBounds j u) { cls := .type "list", data := .seq its.toArray n } = { cls := .type "list", data := .seq (its.set j u).toArray n } := by
  simp [Obj.mapSeq]
theorem Inv.lst {pins : List (Addr × Obj)} {σ : St} {H : Hp} {s : Shared} {p : Addr} {xs : List V} (I : Inv X pins σ H s) (h : H p = some (.lst xs)) :
    ∃ (its : List Value) (n : Nat), Vals xs its ∧ s.heap.get? p = some { cls := .type "list", data := .seq its.toArray n } ∧ xs.length ≤ sizeLine := by
  obtain ⟨z, its, n, r, e⟩ := I.hok p _ h
  exact ⟨its, n, r, e, z⟩
theorem Inv.lstUpd {pins : List (Addr × Obj)} {σ : St} {H : Hp} {s : Shared} {p : Addr} {xs ys : List V} {its its' : List Value} {n n' : Nat} {f : Obj → Obj} (I : Inv X pins σ H s) (h : H p = some (.lst xs))
    (ho : s.heap.get? p = some { cls := .type "list", data := .seq its.toArray n }) (hf : f { cls := .type "list", data := .seq its.toArray n } = { cls := .type "list", data := .seq its'.toArray n' }) (r : Vals ys its') (hz : ys.length ≤ sizeLine) (t : Nat) :
    Inv X pins σ (upd H p (.lst ys)) { s with heap := s.heap.update p f, toks := t } := by
  have e : (s.heap.update p f).get? p = some { cls := .type "list", data := .seq its'.toArray n' } := by
    rw [Heap.get?_update_self f ho (by rw [hf] <;> rfl), hf]
  refine I.write (x := p) (e := p) (by rw [h]; trivial) (.inl rfl) (fun b u hb q => (Heap.get?_update_other _ _ (Ne.symm hb)).trans q) ⟨_, e⟩ ?_
  exact ⟨hz, its', n', r, e⟩
inductive rSetL_P (o : V) (i : V) (v : V) (H : Hp) (Q : (Hp → Prop)) : Prop
  | mk (p xs k j : _) (h1 : o = .ref p) (h2 : i = .int k) (h3 : H p = some (.lst xs)) (h4 : ixN xs.length k = some j) (h5 : Q (upd H p (.lst (xs.set j v)))) : rSetL_P o i v H Q
noncomputable def rSetL : V → V → V → Hp → (Hp → Prop) → Prop := fun o i v H Q => rSetL_P o i v H Q
theorem set_list : PSet X rSetL := by
  intro pins s σ H o i v ov iv u Q I ro ri rv h
  obtain ⟨p, xs, k, j, rfl, rfl, hp, hj, q⟩ := h
  cases ro
  obtain ⟨t, rfl⟩ := ri
  obtain ⟨its, n, r, ho, hz⟩ := I.lst hp
  obtain ⟨h1, h2, h3, h4⟩ := ixN_seq hj
  have hl := r.length
  have hn := line63
  have I' : Inv X pins σ (upd H p (.lst (xs.set j v))) { s with heap := s.heap.update p (Obj.mapSeq (·.setIfInBounds j u)) } :=
    I.lstUpd hp ho (mapSeq_set its n j u) (r.set rv j) (by rw [List.length_set]; exact hz) s.toks
  by_cases h0 : 0 ≤ k
  · have hk : k.toNat = j := by
      rw [seqIndex_of h0 h4] at h1
      exact Option.some.inj h1
    exact PySem.W.ki_setAt ho h0 (by omega) (by rw [List.size_toArray, ← hl]; exact h4) (by rw [hk]; exact ⟨_, I', q⟩)
  · have hk : (k + (its.toArray.size : Int)).toNat = j := by
      rw [seqIndex_neg (by omega) h3] at h1
      rw [List.size_toArray, ← hl]
      exact Option.some.inj h1
    exact PySem.W.ki_setBack ho (by omega) (by rw [List.size_toArray, ← hl]; exact h3) (by omega) (by rw [hk]; exact ⟨_, I', q⟩)
theorem tn_ (n : Nat) : ((-1 : Int) + (n : Int)).toNat = n - 1 := by
  rw [Int.add_comm]; exact Int.toNat_sub n 1
theorem sb_one (i : Int) (n : Nat) : max 0 (min (if i < 0 then i + (n : Int) else i) (n : Int)) = ((if i < 0 then (i + (n : Int)).toNat else min i.toNat n : Nat) : Int) := by
  by_cases h : i < 0
  · have h' : i + (n : Int) ≤ n := by have := Int.add_le_add_right (Int.le_of_lt h) n; rwa [Int.zero_add] at this
    rw [if_pos h, if_pos h, Int.min_eq_left h', Int.ofNat_toNat, Int.max_comm]
  · obtain ⟨k, rfl⟩ := Int.eq_ofNat_of_zero_le (Int.not_lt.mp h)
    rw [if_neg h, if_neg h, Int.toNat_natCast]
    rcases Nat.le_total k n with g | g
    · rw [Nat.min_eq_left g, Int.min_eq_left (Int.ofNat_le.mpr g), Int.max_eq_right (Int.natCast_nonneg _)]
    · rw [Nat.min_eq_right g, Int.min_eq_right (Int.ofNat_le.mpr g), Int.max_eq_right (Int.natCast_nonneg _)]
theorem slice_bounds (lo hi : Option Int) (n : Nat) : (sliceBounds lo hi none n).1 = ((HT.sIx n 0 lo : Nat) : Int) ∧ (sliceBounds lo hi none n).2.1 = ((HT.sIx n n hi : Nat) : Int) ∧ (sliceBounds lo hi none n).2.2 = 1 := by
  refine ⟨?_, ?_, rfl⟩
  · cases lo with
    | none => simp [sliceBounds, HT.sIx]
    | some i =>
      simp only [sliceBounds, HT.sIx, Option.getD_none, show (1 : Int) > 0 by decide, if_true]
      exact sb_one i n
  · cases hi with
    | none => simp [sliceBounds, HT.sIx]
    | some i =>
      simp only [sliceBounds, HT.sIx, Option.getD_none, show (1 : Int) > 0 by decide, if_true]
      exact sb_one i n
theorem slicePick_cut (its : List Value) (lo hi : Option Int) : slicePick its.toArray lo hi none = ((its.drop (HT.sIx its.length 0 lo)).take (HT.sIx its.length its.length hi - HT.sIx its.length 0 lo)).toArray := by
  obtain ⟨h1, h2, h3⟩ := slice_bounds lo hi its.toArray.size
  unfold slicePick
  rw [h1, h2, h3]
  simp only [sliceRange_one, pick_run, List.size_toArray] <;> rfl
inductive rSlL_P (K : PySem.W.Frag) (x : V) (lo : Option Int) (hi : Option Int) (H : Hp) (Q : VK) : Prop
  | mk (a xs : _) (h1 : x = .ref a) (h2 : SqL K H a xs) (h3 : ∀ p, H p = none → Q (.ref p) (upd H p (.lst (cutV xs lo hi)))) : rSlL_P K x lo hi H Q
noncomputable def rSlL (K : PySem.W.Frag) : V → Option Int → Option Int → Hp → VK → Prop := fun x lo hi H Q => rSlL_P K x lo hi H Q
theorem sl_list : SlR X (rSlL X.K) := by
  intro pins s σ H x v vl vu lo hi sl Q I rx hs pl pu h
  obtain ⟨a, xs, rfl, hx, q⟩ := h
  cases rx
  obtain ⟨its, r, ht, hz⟩ := I.list hx
  have hlen := r.length
  refine ⟨"list", _, slot_list_getitem.lookup, ht.isList.typeIs, ?_⟩
  refine wpAny_getItem_list_slice ht.isList hs pl pu .none (by simp) ?_ (by rw [List.size_toArray] <;> omega)
  rw [slicePick_cut, ← hlen]
  refine ⟨.ref s.heap.objs.size, _, I.laid (t' := s.toks) (o := .lst (cutV xs lo hi)) (fun b ob q => Heap.get?_push_of_some _ q) (Nat.le_refl _) ?_, rfl, q _ (I.hok.fresh (Nat.le_refl _))⟩
  exact ⟨Nat.le_trans (cutV_length xs lo hi) hz, _, 0, (r.drop (HT.sIx xs.length 0 lo)).take (HT.sIx xs.length xs.length hi - HT.sIx xs.length 0 lo), Heap.get?_push_size _ rfl⟩
theorem call_list_of : CallR X (.type "list") (fun xs H Q => ∃ p ys, xs = [.ref p] ∧ (SqL X.K H p ys ∨ SqT X.K H p ys) ∧ ∀ l, H l = none → Q (.ref l) (upd H l (.lst ys))) := by
  intro pins s σ H xs us Q I r h
  obtain ⟨p, ys, rfl, hq, q⟩ := h
  obtain ⟨u, rfl, rx⟩ := vals1 r
  cases rx
  have fin : ∀ (its : List Value), Vals ys its → ys.length ≤ sizeLine → ∀ (h' : Heap) (c' : Nat), (∀ b o', s.heap.get? b = some o' → h'.get? b = some o') →
      h'.get? s.heap.objs.size = some { cls := .type "list", dict := none, data := .seq its.toArray c', slots := #[] } → EP X pins σ Q (.ref s.heap.objs.size) { s with heap := h' } := fun its r' hz h' c' kp e =>
    ⟨.ref s.heap.objs.size, _, I.laid (t' := s.toks) kp (Nat.le_refl _) (show ObjOk X.prog X.w _ h' _ (.lst ys) from ⟨hz, its, c', r', e⟩), rfl, q _ (I.hok.fresh (Nat.le_refl _))⟩
  rcases hq with hq | hq
  · obtain ⟨its, r', pl, hz⟩ := I.list hq
    have hlen := r'.length
    obtain ⟨o, ho, hc, n, hd⟩ := pl.isList
    exact call_list_seq p (.inl rfl) ho hc hd (fun h' c' kp e => fin its r' hz h' c' kp e) (by simp only [List.size_toArray] <;> omega)
  · obtain ⟨its, r', pl, hz⟩ := I.tuple hq
    have hlen := r'.length
    obtain ⟨o, ho, hc, n, hd⟩ := pl
    exact call_list_seq p (.inr rfl) ho hc hd (fun h' c' kp e => fin its r' hz h' c' kp e) (by simp only [List.size_toArray] <;> omega)
noncomputable def tyV (K : PySem.W.Frag) (T : String) (x : V) (H : Hp) : Prop := match x with
  | .str _ => T = "str"
  | .int _ => T = "int"
  | .ref p => (T = "list" ∧ ∃ xs, SqL K H p xs) ∨ (T = "tuple" ∧ ∃ o, K.lookup p = some o ∧ o.cls = .type "tuple" ∧ o.dict = none) ∨
      (T = "dict" ∧ ((∃ kvs, H p = some (.dK kvs)) ∨ ∃ kvs, H p = some (.dT kvs))) ∨ (T = "set" ∧ ∃ S n, H p = some (.set S n))
  | _ => False
theorem tyV_is {pins : List (Addr × Obj)} {σ : St} {H : Hp} {s : Shared} {T : String} {x : V} {v : Value} (I : Inv X pins σ H s) (r : RelV x v) (ty : tyV X.K T x H) :
    s.TypeIs v T ∧ ∀ a, v = .ref a → ∃ ob, s.heap.get? a = some ob ∧ ob.dict = none := by
  cases x with
  | str z =>
    obtain ⟨t, rfl⟩ := r
    cases (show T = "str" from ty)
    exact ⟨typeIs_str s z t, fun _ e => nomatch e⟩
  | int i =>
    obtain ⟨t, rfl⟩ := r
    cases (show T = "int" from ty)
    exact ⟨typeIs_int s i t, fun _ e => nomatch e⟩
  | ref p =>
    cases r
    rcases ty with ⟨rfl, xs, hq⟩ | ⟨rfl, o, hk, hc, hd⟩ | ⟨rfl, hk⟩ | ⟨rfl, S, n, hk⟩
    · obtain ⟨its, _, pl, _⟩ := I.list hq
      refine ⟨pl.isList.typeIs, fun a e => ?_⟩
      cases e
      obtain ⟨o, n, e, c, hd, _⟩ := pl
      exact ⟨o, e, hd⟩
    · refine ⟨⟨o, I.kIn p o hk, hc⟩, fun a e => ?_⟩
      cases e
      exact ⟨o, I.kIn _ o hk, hd⟩
    · have z : ∃ o, s.heap.get? p = some o ∧ o.ExactDict := by
        rcases hk with ⟨kvs, hk⟩ | ⟨kvs, hk⟩
        · obtain ⟨_, _, _, _, o, _, _, e, ex, _⟩ := I.hok p _ hk
          exact ⟨o, e, ex⟩
        · obtain ⟨_, _, _, _, o, _, _, e, ex, _⟩ := I.hok p _ hk
          exact ⟨o, e, ex⟩
      obtain ⟨o, e, ex⟩ := z
      refine ⟨⟨o, e, ex.1⟩, fun a e2 => ?_⟩
      cases e2
      exact ⟨o, e, ex.2.1⟩
    · obtain ⟨o, _, _, _, e, ex, _⟩ := I.hok p _ hk
      refine ⟨⟨o, e, ex.1⟩, fun a e2 => ?_⟩
      cases e2
      exact ⟨o, e, ex.2.1⟩
  | _ => exact False.elim ty
noncomputable def tBM (K : PySem.W.Frag) (T : String) (r : V → List V → Hp → VK → Prop) (to : TE) (t : TA) : TE := fun σ H Q => to σ H fun x H1 => tyV K T x H1 ∧ t σ H1 fun xs H2 => r x xs H2 Q
variable {o e : Expr} {es : List Expr} {to : TE} {t : TA} {name : Str} {apos cpos : Pos} {T id : String} {r : V → List V → Hp → VK → Prop}
theorem pe_bm (pa : PlainAttrs T) (slot : Slot T name id) (hty : typeOf (.builtin id) = pure (.type "method_descriptor")) (hm : MtR X id r) (ho : PE X o to) (ha : PA X (e :: es) t)
    (hbase : attributeBase o name X.env (eval o X.env) = eval o X.env := by rfl)
    (hfew : ((backTo cpos (starEach (e :: es) X.env)).all (fun x => !x.1) && (backToKw cpos (keywordEach [] X.env)).all (fun x => x.1.isSome)
      && decide ((e :: es).length + ([] : List Keyword).length + (if ([] : List Keyword).isEmpty then 0 else 1) < 30)) = true := by rfl)
    (hline : (apos.endLine == cpos.line) = true := by rfl) (hs : starEach (e :: es) X.env = (false, eval e X.env) :: starEach es X.env := by rfl) (hplain : (backTo cpos (starEach es X.env)).any (·.1) = false := by rfl) :
    PE X (.Call (.Attribute o name apos) (e :: es) [] cpos) (tBM X.K T r to t) := by
  intro pins s σ H Q I h
  refine wpAny_Call_method_late hbase hfew hline rfl (thn (ho pins s σ H _ I h) fun v s1 zz_ => ?_)
  obtain ⟨x, H1, I1, r1, ty, q1⟩ := zz_
  obtain ⟨h1, h2⟩ := tyV_is I1 r1 ty
  refine ⟨T, id, pa, slot, hty, h1, h2, ?_⟩
  have hA := ha cpos pins s1 σ H1 _ I1 q1
  rw [hs] at hA ⊢
  refine Calls.callWith_builtin (by show (false || (backTo cpos (starEach es X.env)).any (·.1)) = false; rw [hplain] <;> rfl) (Calls.evalArgs_plain ?_)
  exact thn hA fun us s2 ⟨vs, H2, I2, r2, q2⟩ => hm pins s2 σ H2 x vs v us Q I2 r1 r2 q2
end
end L2
namespace L2
open PySem PySem.Spec PyProof.Rows
noncomputable def MtM (X : Cx) (id : String) (r : V → List V → Hp → VK → Prop) : Prop :=
  ∀ (pins : List (Addr × Obj)) (s : Shared) (σ : St) (H : Hp) (x : V) (xs : List V) (v : Value) (us : List Value) (Q : VK), Inv X pins σ H s → RelV x v → Vals xs us → r x xs H Q →
    wpAny (model X.prog X.w) X.A (call (.builtin id) (v :: us)) (EP X pins σ Q) X.xe s
theorem Vals.one {x : V} {us : List Value} (h : Vals [x] us) : ∃ u, us = [u] ∧ RelV x u := by
  cases h with
  | cons r t => cases t; exact ⟨_, rfl, r⟩
theorem Vals.two {x y : V} {us : List Value} (h : Vals [x, y] us) : ∃ u v, us = [u, v] ∧ RelV x u ∧ RelV y v := by
  cases h with
  | cons r t =>
    cases t with
    | cons q t => cases t; exact ⟨_, _, rfl, r, q⟩
theorem Vals.rep {xs : List V} {us : List Value} (h : Vals xs us) : ∀ k : Nat, Vals (List.replicate k xs).flatten (List.replicate k us).flatten
  | 0 => .nil
  | k + 1 => by
    rw [List.replicate_succ, List.replicate_succ, List.flatten_cons, List.flatten_cons]
    exact Vals.append h (Vals.rep h k)
theorem foldl_rep (its : List Value) : ∀ (k : Nat) (acc : List Value),
    List.foldl (fun x1 x2 => x1 ++ x2) acc.toArray (List.replicate k its.toArray) = (acc ++ (List.replicate k its).flatten).toArray
  | 0, acc => by simp
  | k + 1, acc => by
    have e : acc.toArray ++ its.toArray = (acc ++ its).toArray := by simp
    have e2 : (acc ++ its) ++ (List.replicate k its).flatten = acc ++ (List.replicate (k + 1) its).flatten := by
      rw [List.replicate_succ, List.flatten_cons, List.append_assoc]
    rw [← e2, ← foldl_rep its k (acc ++ its), ← e, List.replicate_succ, List.foldl_cons]
section
variable {X : Cx} {pins : List (Addr × Obj)} {σ : St} {H : Hp} {s : Shared} {l b : Addr} {xs ys zs : List V}
theorem Inv.lset {its its' : List Value} {n : Nat} {f : Array Value → Array Value} {t' : Nat} (I : Inv X pins σ H s) (hH : H l = some (.lst xs))
    (e : s.heap.get? l = some { cls := .type "list", data := .seq its.toArray n }) (hf : f its.toArray = its'.toArray) (hv : Vals ys its') (hz : ys.length ≤ sizeLine) :
    Inv X pins σ (upd H l (.lst ys)) { s with heap := s.heap.update l (Obj.mapSeq f), toks := t' } := by
  have q := PySem.IsL.update e f
  rw [hf] at q
  refine I.write (x := l) (e := l) (by rw [hH]; exact trivial) (.inl rfl) (fun b' u hb hu => (Heap.get?_update_other s.heap (Obj.mapSeq f) (Ne.symm hb)).trans hu) ⟨_, q⟩ ?_
  exact ⟨hz, its', _, hv, q⟩
theorem Inv.lnew {its : List Value} {t' : Nat} (I : Inv X pins σ H s) (hv : Vals ys its) (hz : ys.length ≤ sizeLine) :
    Inv X pins σ (upd H s.heap.objs.size (.lst ys)) { s with heap := s.heap.push { cls := .type "list", data := .seq its.toArray }, toks := t' } :=
  I.laid (fun _ _ q => Heap.get?_push_of_some _ q) (Nat.le_refl _) ⟨hz, its, 0, hv, Heap.get?_push_size _ rfl⟩
theorem Inv.fresh (I : Inv X pins σ H s) : H s.heap.objs.size = none := I.hok.fresh (Nat.le_refl _)
theorem Inv.lstM (I : Inv X pins σ H s) (hH : H l = some (.lst xs)) : xs.length ≤ sizeLine ∧ ∃ (its : List Value) (n : Nat), Vals xs its ∧ xs.length = its.length ∧ s.heap.get? l = some { cls := .type "list", data := .seq its.toArray n } := by
  obtain ⟨z, its, n, r, e⟩ := I.hok l _ hH
  exact ⟨z, its, n, r, r.length, e⟩
theorem notLongL {n : Nat} (h : n ≤ sizeLine) : Builtin.List.listTooLong n = false := by
  unfold Builtin.List.listTooLong
  exact decide_eq_false (by omega)
end
section
variable {X : Cx}
inductive rAppend_P (x : V) (vs : List V) (H : Hp) (Q : VK) : Prop
  | mk (l xs y : _) (h1 : x = .ref l) (h2 : vs = [y]) (h3 : H l = some (.lst xs)) (h4 : xs.length < sizeLine) (h5 : Q .non (upd H l (.lst (xs ++ [y])))) : rAppend_P x vs H Q
noncomputable def rAppend : V → List V → Hp → VK → Prop := fun x vs H Q => rAppend_P x vs H Q
theorem mt_append : MtM X "list.append" rAppend := by
  intro pins s σ H x vs v us Q I rx rv h
  obtain ⟨l, xs, y, rfl, rfl, hH, hz, q⟩ := h
  cases rx
  obtain ⟨u, rfl, ru⟩ := rv.one
  obtain ⟨z, its, n, r, hl, e⟩ := I.lstM hH
  refine call_meets F.slot_list_append ⟨_, e, rfl⟩ F.entry_list_append (F.args_list_append_2 _ _) (PySem.list_append l its.toArray n u (by rw [List.size_toArray]; omega)) ⟨e, ?_⟩
  refine ⟨.non, _, I.lset (its' := its ++ [u]) hH e (by simp) (r.append (.cons ru .nil)) ?_, rfl, q⟩
  rw [List.length_append, List.length_singleton]
  omega
inductive rCat_P (x : V) (y : V) (H : Hp) (Q : VK) : Prop
  | mk (l b xs zs : _) (h1 : x = .ref l) (h2 : y = .ref b) (h3 : H l = some (.lst xs)) (h4 : H b = some (.lst zs)) (h5 : xs.length + zs.length ≤ sizeLine) (h6 : ∀ p, H p = none → Q (.ref p) (upd H p (.lst (xs ++ zs)))) : rCat_P x y H Q
noncomputable def rCat : R2 := fun x y H Q => rCat_P x y H Q
theorem op_cat : OpR X (binaryOp .Add) rCat := by
  intro pins s σ H x y v u Q I rx ry h
  obtain ⟨l, b, xs, zs, rfl, rfl, hH, hB, hz, q⟩ := h
  cases rx
  cases ry
  obtain ⟨z, its, n, r, hl, e⟩ := I.lstM hH
  obtain ⟨z2, its2, n2, r2, hl2, e2⟩ := I.lstM hB
  refine PySem.P.add_list e e2 ?_ (by rw [List.size_toArray, List.size_toArray]; omega)
  have ea : its.toArray ++ its2.toArray = (its ++ its2).toArray := by simp
  rw [ea]
  exact ⟨.ref _, _, I.lnew (t' := s.toks) (r.append r2) (by rw [List.length_append]; omega), rfl, q _ I.fresh⟩
noncomputable def rRep : R2 := fun x y H Q => ∃ l k xs, x = .ref l ∧ y = .int k ∧ H l = some (.lst xs) ∧ -(2 ^ 63) ≤ k ∧ k < 2 ^ 63 ∧ xs.length * k.toNat ≤ sizeLine ∧
  ∀ p, H p = none → Q (.ref p) (upd H p (.lst (List.replicate k.toNat xs).flatten))
theorem len_rep {α : Type} (xs : List α) (k : Nat) : (List.replicate k xs).flatten.length = k * xs.length := by
  induction k with
  | zero => simp
  | succ k ih => rw [List.replicate_succ, List.flatten_cons, List.length_append, ih, Nat.succ_mul, Nat.add_comm]
theorem op_rep : OpR X (binaryOp .Mult) rRep := by
  intro pins s σ H x y v u Q I rx ry h
  obtain ⟨l, k, xs, rfl, rfl, hH, h1, h2, hz, q⟩ := h
  cases rx
  obtain ⟨t, rfl⟩ := ry
  obtain ⟨z, its, n, r, hl, e⟩ := I.lstM hH
  have hlen : its.toArray.size * k.toNat ≤ sizeLine := by rw [List.size_toArray, ← hl]; exact hz
  have hcap : ¬ its.toArray.size * k.toNat > (2 ^ 63 - 1) / 8 := by
    have : (sizeLine : Nat) ≤ (2 ^ 63 - 1) / 8 := by decide
    omega
  have hfit : ¬ (!Builtin.List.listFitsIndex k) = true := by
    rw [fitsIndex_both h1 h2]
    exact Bool.false_ne_true
  have hlong : ¬ Builtin.List.listTooLong (its.toArray.size * k.toNat) = true := by
    rw [notLongL hlen]
    exact Bool.false_ne_true
  have hnew : List.foldl (fun x1 x2 => x1 ++ x2) #[] (List.replicate (if its.toArray.isEmpty = true then 0 else k.toNat) its.toArray) = (List.replicate k.toNat its).flatten.toArray := by
    have f0 : ∀ m : Nat, List.foldl (fun x1 x2 => x1 ++ x2) #[] (List.replicate m its.toArray) = (List.replicate m its).flatten.toArray := fun m => by
      have := foldl_rep its m []
      rw [List.nil_append] at this
      exact this
    rw [f0]
    cases its with
    | nil => simp
    | cons a r' => rw [if_neg (by simp)]
  refine wpAny_binaryOp_repeat_ref (T := "list") (U := "int") (by decide) ⟨_, e, rfl⟩ (fun s' => typeIs_int s' k t) noFill_list_mul F.fills_int_mul F.slot_int_rmul repeat_list F.slot_int_index.lookup
    (call_meets F.slot_int_rmul (typeIs_int s k t) F.entry_int_rmul (F.args_int_rmul_2 _ _) (int___rmul___int_list k t l its.toArray n)
      ⟨e, rfl, ⟨_, e, rfl⟩, call_meets F.slot_list_mul ⟨_, e, rfl⟩ F.entry_list_mul (F.args_list_mul_2 _ _) (AutoListH.list___mul___list_int_3 l its.toArray n k t hfit hcap hlong) ⟨e, ?_⟩⟩)
  rw [hnew]
  exact ⟨.ref _, _, I.lnew (t' := s.toks) (r.rep k.toNat) (by rw [len_rep, Nat.mul_comm]; exact hz), rfl, q _ I.fresh⟩
end
section
variable {prog : Program} {w : World} {A : Around} {E : Value → Shared → Prop} {s : Shared}
end
section
variable {X : Cx}
end
end L2
namespace L2
open PySem PySem.Spec PyProof.Rows
section
variable {κ : Type} [DecidableEq κ]
end
section
variable {P : Program} {w : World} {H : Hp} {h : Heap} {a : Addr}
end
section
variable {X : Cx} {pins : List (Addr × Obj)} {σ : St} {H : Hp} {s : Shared} {a : Addr} {y v : V} {u r : Value} {o : Option V} {A : Around} {E : Value → Shared → Prop}
end
section
variable {X : Cx} {pins : List (Addr × Obj)} {σ : St} {H : Hp} {s : Shared} {a : Addr} {kvs : List (Key × V)} {k : Key} {u : Value} {A : Around} {E : Value → Shared → Prop}
end
section
variable {X : Cx} {o i e value : Expr} {pos pos' tpos : Pos} {td ty tv : TE}
end
section
variable {X : Cx} {pos : Pos}
end
section
variable {X : Cx} {pins : List (Addr × Obj)} {σ : St} {H : Hp} {s : Shared} {a : Addr} {y d : V} {u r : Value} {o : Option V} {A : Around} {E : Value → Shared → Prop}
end
section
variable {X : Cx} {o e f : Expr} {apos cpos : Pos} {td ty tx : TE}
end
section
variable {X : Cx} {pins : List (Addr × Obj)} {σ : St} {H : Hp} {s : Shared} {a : Addr} {kvs : List (Key × V)} {A : Around} {E : Value → Shared → Prop}
end
section
variable {X : Cx} {pins : List (Addr × Obj)} {σ : St} {H : Hp} {s : Shared} {a : Addr} {y : V} {u : Value} {A : Around} {E : Value → Shared → Prop}
end
end L2
namespace Att
open PySem PySem.W PySem.Calls PyProof.Rows
theorem ints_of_wellAll {P : Params} {h : Heap} : ∀ (ns : List Int) (vs : List Value), WellAll P h vs (ns.map WData.int) → IntsAre vs ns := by
  intro ns
  induction ns with
  | nil =>
    intro vs w
    rw [List.map_nil] at w
    cases w
    exact .nil
  | cons n ns ih =>
    intro vs w
    rw [List.map_cons] at w
    cases w with
    | cons a b =>
      cases a
      exact .cons _ _ (ih _ b)
theorem script_of {l : OpenLaw} {n : Nat} (hn : l.most = some n) {P : Params} {h : Heap} {args : List WData} {vals : List Value}
    (hpre : l.row.toRowW.claim.pre args = true) (hwl : WellAll P h vals args) :
    ∃ a vs ns, vals = [Value.ref a] ∧ args = [WData.list (ns.map WData.int)] ∧ h.get? a = some { cls := .type "list", data := .seq vs.toArray } ∧ IntsAre vs ns ∧ ns.length ≤ n := by
  have hsh : WShape.hasAll [] args [.list .int] = true := (pre_splitW hpre).1
  have hc : l.pre.holds [] { args := args } = true := (pre_splitW hpre).2
  obtain ⟨d, r, rfl, h1, h2⟩ := hasAllW_cons hsh
  obtain rfl := hasAllW_nil h2
  obtain ⟨xs, rfl, h3⟩ := hasW_list h1
  obtain ⟨ns, rfl⟩ := items_int h3
  have hlen : ns.length ≤ n := by
    unfold OpenLaw.pre at hc
    have h4 : (WTm.not (.lt (.lit (.int (n : Int))) (.len (.arg 0)))).holds [] { args := [.list (ns.map .int)] } = true := by
      have h4 := (holds_andW hc).1
      rw [hn] at h4
      exact h4
    have h5 := condW_of h4 (w_not (w_lt w_lit (w_len_list (w_arg rfl))))
    rw [List.length_map] at h5
    refine Nat.le_of_not_lt fun q => ?_
    have q' : (n : Int) < ((ns.length : Nat) : Int) := by omega
    first
      | (rw [decide_eq_true q'] at h5; exact absurd h5 (by decide))
      | (simp at h5; omega)
  cases hwl with
  | cons w1 w2 =>
    cases w2
    cases w1 with
    | list ho hall => exact ⟨_, _, ns, rfl, rfl, ho, ints_of_wellAll ns _ hall, hlen⟩
theorem post_true (l : OpenLaw) (args : List WData) : l.row.toRowW.claim.post args (.bool true) args = true :=
  postW_of (r := l.row.toRowW) (X := (true == true))
    (show WShape.has [] (.bool true) .bool = true by first | rfl | decide | simp [WShape.has, WShape.arms, WShape.armsAll])
    (show (WTm.eq .res (.lit (.bool true))).value [] { args := args, res := some (.bool true), after := args } = some (.bool (true == true)) from w_eq_bool (w_res rfl) w_lit) rfl
theorem attach_call {l : OpenLaw} {n : Nat} {q : Program} {loose : List Str} {XP : (Str → Option Value) → Heap → Prop} {YP : World → Heap → Prop} {d : DefRec}
    (hn : l.most = some n) (hdf : d.params.defaults = [])
    (call : ∀ (w : World) (s₀ s₁ : Shared) (mg mb : Str → Option Value) (fa : Addr) (o : Obj) (pm cd doc : Value) (a : Addr) (vs : List Value) (ns : List Int),
      Ground q loose [] XP w s₀ mg mb s₁.heap → YP w s₁.heap →
      s₁.heap.get? fa = some o → o.data = .func (docDef d.name d.params d.body d.scope pm cd doc) → s₁.heap.CodeRec cd d.name → mg d.name = some (.ref fa) →
      s₁.heap.get? a = some { cls := .type "list", data := .seq vs.toArray } → IntsAre vs ns → ns.length ≤ n → s₁.gens = #[] →
      codeAny (model l.prog w) callerA (.call (.ref fa) ⟨[.ref a], []⟩) (fun r s' => r = .ok (.ret (.bool true)) ∧ OldK s₁.heap s'.heap ∧ s'.os = s₁.os ∧ AllBare s'.gens) s₁) :
    WalkO q loose XP YP l.row.toRowW d [] (fun f vs => PySem.call f vs) := by
  intro w s₀ s₁ mg mb G Y fa o pm cd doc dV kV ho hd hcd hD hmg hg args vals as hpre hlay hrd hwl hlo
  obtain rfl : dV = .none := Dflts.none hD hdf
  obtain rfl : kV = .none := Dflts.noKw hD
  obtain ⟨a, vs, ns, rfl, rfl, hobj, hints, hlen⟩ := script_of hn hpre hwl
  refine enter_call (codeAny_mono (call w s₀ s₁ mg mb fa o pm cd doc a vs ns G Y ho (fd_plain hd) hcd hmg hobj hints hlen hg) fun r s' hq => ?_)
  obtain ⟨rfl, h2, h3, h4⟩ := hq
  exact ⟨.inl ⟨.bool true, .bool true, [], rfl, fun _ => rfl, .bool true, post_true l _, fun _ => ⟨List.Pairwise.nil, fun _ hm => (nomatch hm)⟩⟩, h2, h3, h4⟩
section
variable {prog : Program} {w : World} {A : Around} {E : Value → Shared → Prop} {s : Shared} {K : Frag}
end
end Att
namespace L2
open PySem PySem.Spec PyProof.Rows
theorem vals_ints : ∀ {vs : List Value} {ns : List Int}, IntsAre vs ns → Vals (ns.map V.int) vs
  | _, _, .nil => .nil
  | _, _, .cons n t h => .cons ⟨t, rfl⟩ (vals_ints h)
noncomputable def Only (H : Hp) : Prop := ∀ b, H b = none ∨ ∃ o xs, H b = some (.frz o (.lst xs))
theorem law_call {P : Program} {w : World} {K : PySem.W.Frag} {mg mb : Str → Option Value} {CX : CXT} {k : Nat} {fa a : Addr} {fd : FuncData} {x : Str} {sp : Sp} {s₁ : Shared} {vs : List Value} {ns : List Int}
    (KX : K.In s₁.heap) (hns : s₁.heap.Ns mainGlobals mg) (hb : s₁.heap.Ns builtinsNs mb) (hbb : ∀ x : Str, x ≠ "__name__" → mb x = bootBuiltins x) (hlim : s₁.heap.NoLimit) (hg : s₁.gens = #[])
    (ha : s₁.heap.get? a = some { cls := .type "list", data := .seq vs.toArray }) (hi : IntsAre vs ns) (hl : ns.length ≤ sizeLine) (hr : Room k callerA)
    (F : ∀ base : Heap, K.In base → base.Ns mainGlobals mg → FnOk P w K mg base CX k fa fd [x] sp) (hbind : ∀ (s : Shared) (u : Value), BindsTo s fd ⟨[u], []⟩ [(x, u)])
    (hsp : ∀ H : Hp, Only H → SqL K H a (ns.map V.int) → sp [.ref a] H (fun v _ => v = .bl true) fun _ _ _ => False)
    (hCX : ∀ H e s', CX [] H s₁ (fun _ _ _ => False) e s' → False) :
    codeAny (model P w) callerA (.call (.ref fa) ⟨[.ref a], []⟩) (fun r s' => r = .ok (.ret (.bool true)) ∧ OldK s₁.heap s'.heap ∧ s'.os = s₁.os ∧ AllBare s'.gens) s₁ := by
  have rv := vals_ints hi
  have lenV := hi.length
  -- from an abstract heap in which nothing but the script may be tracked
  have core : ∀ H : Hp, Only H → SqL K H a (ns.map V.int) → HOk P w H s₁.heap → (∀ b, H b ≠ none → b = a) → (H a ≠ none → K.lookup a = none) →
      codeAny (model P w) callerA (.call (.ref fa) ⟨[.ref a], []⟩) (fun r s' => r = .ok (.ret (.bool true)) ∧ OldK s₁.heap s'.heap ∧ s'.os = s₁.os ∧ AllBare s'.gens) s₁ := by
    intro H hO hS hok hA hK
    have base_of : ∀ {b : Addr} {o : Obj}, s₁.heap.get? b = some o → H b = none → (hidT s₁.heap H).get? b = some o := fun e n => hidT_get e n
    have noA : ∀ {b : Addr} {o : Obj} {es : Array DictEntry} {ep : Nat}, s₁.heap.get? b = some o → o.data = .dict es ep → H b = none := fun {b o es ep} e d => by
      cases q : H b with
      | none => rfl
      | some u =>
        have e' : b = a := hA b (by rw [q]; simp)
        subst e'
        rw [ha] at e; cases e
        have d' : Data.seq vs.toArray _ = Data.dict es ep := d
        cases d'
    have nsK : ∀ {b : Addr} {m : Str → Option Value}, s₁.heap.Ns b m → (hidT s₁.heap H).Ns b m := fun {b m} ⟨o, es, ep, e, d, r⟩ => ⟨o, es, ep, base_of e (noA e d), d, r⟩
    have hKb : K.In (hidT s₁.heap H) := fun b o e => base_of (KX b o e) (by
      cases q : H b with
      | none => rfl
      | some u =>
        have e' : b = a := hA b (by rw [q]; simp)
        subst e'
        rw [hK (by rw [q]; simp)] at e; cases e)
    have hM : Mod K mg (hidT s₁.heap H) := ⟨hKb, nsK hns, ⟨mb, nsK hb, hbb⟩, let ⟨mc, h1, h2⟩ := hlim; ⟨mc, nsK h1, h2⟩⟩
    have e0 : Env0 P w K mg (hidT s₁.heap H) callerA [] s₁ H := ⟨rfl, hM, fun b o e => of_hidT e, Nat.le_of_eq (hidT_size _ _), trivial, fun b hb => absurd (show b ∈ ([] : List Addr) from hb) (by simp), hok, .of_eq hg⟩
    refine codeAny_mono ((F _ hKb (nsK hns)).run callerA [] s₁ H ⟨[.ref a], []⟩ [.ref a] [.ref a] _ _ hr e0 (hbind s₁ (.ref a)) (.cons rfl .nil) (hsp H hO hS)) fun r s' h => ?_
    cases r with
    | error e => exact (hCX H e s' h).elim
    | ok fl =>
      cases fl with
      | next => exact False.elim h
      | brk => exact False.elim h
      | cont => exact False.elim h
      | ret u =>
        obtain ⟨v, H', os, bare, un, hok', r', q⟩ := h
        have q' : v = .bl true := q
        subst q'
        obtain rfl : u = Value.bool true := r'
        refine ⟨rfl, OldK.of_keep fun b o e => ?_, os, bare⟩
        cases q : H b with
        | none => exact un.keep b o e q (by intro z; exact absurd (show b ∈ ([] : List Addr) from z) (by simp)) (by simp)
        | some u =>
          rcases hO b with z | ⟨ob, xs, z⟩
          · rw [q] at z; cases z
          · have z2 := un.frzs b ob _ z
            obtain ⟨e1, _⟩ := hok b _ z
            obtain ⟨e2, _⟩ := hok' b _ z2
            rw [e] at e1; cases e1
            exact e2
  cases hk : K.lookup a with
  | some o =>
    -- the script is one of the module's own objects
    have e := KX a o hk
    rw [ha] at e
    cases e
    refine core (fun _ => none) (fun _ => .inl rfl) (.inr ⟨_, vs.toArray, _, hk, rfl, rfl, rfl, by rw [List.size_toArray, lenV]; exact hl, by simpa using rv⟩) (fun b u z => by have z' : (none : Option HO) = some u := z; cases z') (fun b z => absurd rfl z) fun z => absurd rfl z
  | none =>
    refine core (fun b => if b = a then some (.frz { cls := .type "list", data := .seq vs.toArray } (.lst (ns.map V.int))) else none) (fun b => ?_) (.inl (.inr ⟨{ cls := .type "list", data := .seq vs.toArray }, if_pos rfl⟩)) (fun b u z => ?_) (fun b z => ?_) fun _ => hk
    · by_cases hb : b = a
      · exact .inr ⟨_, _, if_pos hb⟩
      · exact .inl (if_neg hb)
    · by_cases hb : b = a
      · have z' := (if_pos hb).symm.trans z
        cases z'
        subst hb
        exact ⟨ha, by rw [List.length_map]; exact hl, vs, _, rv, ha⟩
      · have z' := (if_neg hb).symm.trans z
        cases z'
    · by_cases hb : b = a
      · exact hb
      · exact absurd (if_neg hb) z
end L2
namespace L2
open PySem PySem.Spec PyProof.Rows
theorem walk_of {l : PySem.W.OpenLaw} {n k : Nat} {q : Program} {loose : List Str} {XP : (Str → Option Value) → Heap → Prop} {YP : World → Heap → Prop} {d : DefRec} {K : Params → PySem.W.Frag} {CX : World → CXT} {sp : World → Sp} {x : Str}
    (hn : l.most = some n) (hn2 : n ≤ sizeLine) (hdf : d.params.defaults = []) (hr : Room k callerA)
    (hY : ∀ (w : World) (h : Heap), YP w h → (K w.params).In h)
    (F : ∀ (w : World) (mg : Str → Option Value) (fa : Addr) (h : Heap), (K w.params).In h → h.Ns mainGlobals mg → mg d.name = some (.ref fa) →
      ∃ fd : FuncData, (∀ (s : Shared) (u : Value), BindsTo s fd ⟨[u], []⟩ [(x, u)]) ∧
        ∀ base : Heap, (K w.params).In base → base.Ns mainGlobals mg → FnOk l.prog w (K w.params) mg base (CX w) k fa fd [x] (sp w))
    (hsp : ∀ (w : World) (H : Hp) (a : Addr) (ns : List Int), ns.length ≤ n → Only H → SqL (K w.params) H a (ns.map V.int) → sp w [.ref a] H (fun v _ => v = .bl true) fun _ _ _ => False)
    (hCX : ∀ (w : World) (H : Hp) (s : Shared) (e : Value) (s' : Shared), CX w [] H s (fun _ _ _ => False) e s' → False) :
    PySem.W.WalkO q loose XP YP l.row.toRowW d [] (fun f vs => PySem.call f vs) := by
  refine Att.attach_call hn hdf fun w s₀ s₁ mg mb fa o pm cd doc a vs ns G Y ho hd hcd hmg hobj hints hlen hg => ?_
  have KX := hY w _ Y
  obtain ⟨fd, hb, hF⟩ := F w mg fa _ KX G.T.g hmg
  exact law_call KX G.T.g G.T.b G.T.builtins G.T.nolimit hg hobj hints (Nat.le_trans hlen hn2) hr hF hb (fun H hO hS => hsp w H a ns hlen hO hS) fun H e s' => hCX w H s₁ e s'
end L2
namespace L2
open PySem PySem.Spec PyProof.Rows
noncomputable def inClass (s : Stmt) (j : Nat) : Stmt := match s with
  | .ClassDef _ _ _ body _ _ _ _ _ _ _ => body.getD j (.Pass ⟨0, 0, 0, 0⟩)
  | _ => .Pass ⟨0, 0, 0, 0⟩
noncomputable def defArgs (s : Stmt) : Arguments := match s with
  | .FunctionDef _ a _ _ _ _ _ _ _ _ => a
  | _ => { posonlyargs := [], args := [], vararg := none, kwonlyargs := [], kw_defaults := [], kwarg := none, defaults := [] }
noncomputable def defBody (s : Stmt) : List Stmt := match s with
  | .FunctionDef _ _ b _ _ _ _ _ _ _ => b
  | _ => []
noncomputable def defScope (s : Stmt) : Scope := match s with
  | .FunctionDef _ _ _ _ _ _ sc _ _ _ => sc
  | _ => { kind := .function, names := [], isGenerator := false, isCoroutine := false }
noncomputable abbrev CX0 : CXT := fun _ _ _ _ _ _ => False
noncomputable abbrev E0 : XK := fun _ _ _ => False
theorem pass0 {X : Cx} : Passes CX0 X E0 := fun _ _ _ _ _ _ _ h => h.elim
structure Fun (K : PySem.W.Frag) (x qual : Str) (st : Stmt) (f : Addr) (fd : FuncData) : Prop where
  ex : ∃ (oc : Value) (od : Option Addr) (kV doc pm : Value) (an : Option Addr) (cdv ct : Value) (osl : Array (Option Value)),
    fd = PySem.W.fnOf x qual (defArgs st) (defBody st) (defScope st) .none kV doc pm an cdv ct ∧ K.lookup f = some ⟨oc, od, .func fd, osl⟩ ∧ PySem.W.codeIn K cdv qual = true
  kp : PySem.W.keepIn K (.ref f) = true
section
variable {P : Program} {w : World} {K : PySem.W.Frag} {mg : Str → Option Value} {base : Heap}
theorem Fun.ok {x qual : Str} {st : Stmt} {f : Addr} {fd : FuncData} {N ps : List Str} {k : Nat} {sp : Sp} (F : Fun K x qual st f fd) (S : FnScope N ps (defScope st)) (len : ∀ vs H Q E, sp vs H Q E → vs.length = ps.length)
    (hbody : ∀ (cdv : Value) (A : Around) (outer : List Env) (s : Shared) (H : Hp) (vs : List V) (Q : VK) (E : XK), Room k (A.deeper (envOfC qual (defScope st) s.heap.objs.size f cdv)) → sp vs H Q E →
      ∃ t, PSs (cxOf CX0 P w K mg base N qual (defScope st) f cdv A outer s H E).nox (defBody st) t ∧ t { nx := fun _ H' => Q .non H', rt := Q } (start N vs) H) : FnOk P w K mg base CX0 (k + 1) f fd ps sp := by
  obtain ⟨oc, od, kV, doc, pm, an, cdv, ct, osl, rfl, lk, hcd⟩ := F.ex
  refine fn_of lk hcd S len fun A outer s H vs Q E hr hsp => ?_
  obtain ⟨t, h, q⟩ := hbody cdv A outer s H vs Q E hr hsp
  exact ⟨t, h.nox, q⟩
theorem Fun.binds {x qual : Str} {st : Stmt} {f : Addr} {fd : FuncData} {ps : List Str} (F : Fun K x qual st f fd)
    (h : ∀ (kV doc pm : Value) (an : Option Addr) (cdv ct : Value) (us : List Value), us.length = ps.length → bindArgs (PySem.W.fnOf x qual (defArgs st) (defBody st) (defScope st) .none kV doc pm an cdv ct) ⟨us, []⟩ = pure (ps.zip us)) : Binds K fd ps [] := by
  obtain ⟨oc, od, kV, doc, pm, an, cdv, ct, osl, rfl, lk, hcd⟩ := F.ex
  exact .all (h kV doc pm an cdv ct)
theorem fun_mk {x qual : Str} {st : Stmt} {f : Addr} {oc : Value} {od an : Option Addr} {osl : Array (Option Value)} {kV doc pm cdv ct : Value} (l : K.lookup f = some ⟨oc, od, .func (PySem.W.fnOf x qual (defArgs st) (defBody st) (defScope st) .none kV doc pm an cdv ct), osl⟩)
    (c : PySem.W.codeIn K cdv qual = true) (k : PySem.W.keepIn K (.ref f) = true) : Fun K x qual st f (PySem.W.fnOf x qual (defArgs st) (defBody st) (defScope st) .none kV doc pm an cdv ct) := ⟨⟨oc, od, kV, doc, pm, an, cdv, ct, osl, rfl, l, c⟩, k⟩
end
theorem hu_of {A : Around} {k : Nat} (hr : Room k A) : A.units + 1 < cLine := Nat.lt_of_le_of_lt (Nat.add_le_add_left (by decide : 1 ≤ 64) _) hr.units
theorem small1000 {n : Nat} (h : n ≤ 1000) : n < sizeLine := Nat.lt_of_le_of_lt h (by decide)
section
variable {X : Cx}
theorem pv (i : Nat) {x : Str} {pos : Pos} (hN : X.N[i]? = some x := by rfl) (hv : Vis X.env.scope x := by first | exact Or.inl rfl | exact Or.inr (Or.inl rfl) | exact Or.inr (Or.inr rfl)) (hd : (x == ("__debug__" : Str)) = false := by decide)
    (hcd : (x == ("__classdict__" : Str)) = false := by decide) : PE X (.Name x pos) (tVar i) := pe_var hN hv hd hcd
end
theorem iteF {A B : Prop} (h : B) : if false = true then A else B := by
  rw [if_neg Bool.false_ne_true]
  exact h
theorem iteT {A B : Prop} (h : A) : if true = true then A else B := by
  rw [if_pos rfl]
  exact h
theorem iteNS {c A B : Prop} [Decidable c] (hc : c) (h : B) : if (!decide c) = true then A else B := by
  rw [decide_eq_true hc]
  exact iteF h
noncomputable def Same (H H' : Hp) : Prop := ∀ b o, H b = some o → H' b = some o
theorem Same.refl (H : Hp) : Same H H := fun _ _ h => h
theorem Same.trans {H H1 H2 : Hp} (a : Same H H1) (b : Same H1 H2) : Same H H2 := fun c o h => b c o (a c o h)
theorem Same.seq {K : PySem.W.Frag} {H H' : Hp} {a : Addr} {xs : List V} (e : Same H H') (h : SqL K H a xs) : SqL K H' a xs := by
  rcases h with (h | ⟨o, h⟩) | h
  · exact .inl (.inl (e _ _ h))
  · exact .inl (.inr ⟨o, e _ _ h⟩)
  · exact .inr h
section
variable {κ : Type} [DecidableEq κ]
end
end L2
set_option Elab.async false
set_option linter.all false
set_option maxRecDepth 100000
namespace L2
open PySem PySem.Spec PyProof.Rows
section
variable {X : Cx} {pins : List (Addr × Obj)} {σ : St} {H : Hp} {s : Shared} {h' : Heap}
theorem Inv.turnLaid {ch : List Addr} {a : Addr} {o : HO} {t' : Nat} (I : Inv X pins σ H s) (k : ∀ b u, b ∉ ch → s.heap.get? b = some u → h'.get? b = some u) (hf : ∀ b ∈ ch, FpOk X pins H b)
    (hp : s.heap.objs.size ≤ a) (new : ObjOk X.prog X.w (upd H a o) h' a o) : Inv X pins σ (upd H a o) { s with heap := h', toks := t' } := by
  have hn : H a = none := I.hok.fresh hp
  refine I.step (g' := s.gens) (d' := s.drawn) (ch := ch) (fun b hb => ?_) (fun b u _ _ hc e _ => k b u hc e) (fun b u _ _ hc e _ => ⟨u.slots, k b u hc e⟩)
    (fun b u _ e n => ?_) (fun b u hc e => ⟨u, k b u hc e⟩) (fun b xs e => ?_) (fun b u v e => ?_) (fun b ps e => ?_) (fun m hm => ?_) (fun b u e => ?_) I.bare
  · obtain ⟨_, f1, _, f3, f4, f5⟩ := hf b hb
    exact ⟨f3, f1, f4, f5⟩
  · rw [upd_ne (Nat.ne_of_lt (Nat.lt_of_lt_of_le (Heap.lt_size e) hp))]; exact n
  · rw [upd_ne (ne_of_none e hn)]; exact e
  · rw [upd_ne (ne_of_none e hn)]; exact e
  · exact ⟨#[], by rw [upd_ne (ne_of_none e hn), e]; simp⟩
  · obtain ⟨ob, es, ep, ho, r⟩ := hm
    exact ⟨ob, es, ep, k _ ob (fun z => (hf _ z).2.1 rfl) ho, r⟩
  · by_cases hb : b = a
    · subst hb; rw [upd_same] at e; cases e; exact new
    · rw [upd_ne hb] at e
      refine (I.hok b u e).stay (fun c v hc q => k c v ?_ q) (fun c q => by rw [upd_ne (ne_of_none q hn)]; exact q) fun c xs q => by rw [upd_ne (ne_of_none q hn)]; exact q
      intro z
      have zz := (hf c z).1
      rcases hc with rfl | hc
      · rw [e] at zz; cases zz
      · rw [hc] at zz; cases zz
theorem Inv.turnL {ch : List Addr} {t' : Nat} (I : Inv X pins σ H s) (k : ∀ b u, b ∉ ch → s.heap.get? b = some u → h'.get? b = some u) (hf : ∀ b ∈ ch, FpOk X pins H b) :
    Inv X pins σ H { s with heap := h', toks := t' } := by
  refine I.step (g' := s.gens) (d' := s.drawn) (ch := ch) (fun b hb => ?_) (fun b u _ _ hc e _ => k b u hc e) (fun b u _ _ hc e _ => ⟨u.slots, k b u hc e⟩)
    (fun b u _ e n => n) (fun b u hc e => ⟨u, k b u hc e⟩) (fun b xs e => e) (fun b u v e => e) (fun b ps e => ⟨#[], by rw [e]; simp⟩) (fun m hm => ?_) (fun b u e => ?_) I.bare
  · obtain ⟨_, f1, _, f3, f4, f5⟩ := hf b hb
    exact ⟨f3, f1, f4, f5⟩
  · obtain ⟨ob, es, ep, ho, r⟩ := hm
    exact ⟨ob, es, ep, k _ ob (fun z => (hf _ z).2.1 rfl) ho, r⟩
  · refine (I.hok b u e).stay (fun c v hc q => k c v ?_ q) (fun c q => q) fun c xs q => q
    intro z
    have zz := (hf c z).1
    rcases hc with rfl | hc
    · rw [e] at zz; cases zz
    · rw [hc] at zz; cases zz
end
noncomputable def Ite (K : PySem.W.Frag) (a : Addr) : It :=
  ⟨fun i H => ∃ xs x, SqL K H a xs ∧ xs[i]? = some x,
   fun i H x H' => ∃ p v, H p = none ∧ x = .ref p ∧ (∀ xs, SqL K H a xs → xs[i]? = some v) ∧ H' = upd H p (.tup [.int i, v]),
   fun i H => ∃ xs, SqL K H a xs ∧ xs.length ≤ i⟩
theorem turn_enum {P : Program} {w : World} {K : PySem.W.Frag} {elts : List Expr} {k : Nat} {pos : Pos} (a e it : Addr) (hne : e ≠ it) :
    Turn P w K (.Tuple elts k pos) (Ite K a) [e, it] e (fun i h => (∃ old, IsEnum h e it i old) ∧ h.IsListIter it a i) where
  mem := by simp
  obj := fun i h st b hb => by
    obtain ⟨⟨old, he⟩, hit⟩ := st
    rcases List.mem_cons.mp hb with rfl | hb
    · exact ⟨_, he, fun v z => by cases z⟩
    · have e1 : b = it := by simpa using hb
      subst e1
      obtain ⟨o, q, c, d⟩ := hit
      exact ⟨o, q, fun v z => by rw [d] at z; cases z⟩
  keep := fun i h h' st kk => by
    obtain ⟨⟨old, he⟩, hit⟩ := st
    exact ⟨⟨old, kk e (by simp) _ he⟩, hit.at fun o q => kk it (by simp) o q⟩
  item := by
    intro X hP hw hK hc i pins s σ H E I hf st hg
    subst hP hw hK
    obtain ⟨xs, x, hq, hx⟩ := hg
    obtain ⟨its, rv, p, hz⟩ := I.list hq
    obtain ⟨u, hu, ru⟩ := rv.get hx
    obtain ⟨⟨old, he⟩, hit⟩ := st
    refine wpAny_pyNext_enum_item he hit p.isList (x := u) (by simpa using hu) hne fun h1 ho hit1 hT hsz hk => ?_
    refine ⟨_, rfl, wpAny_letOwnedTupleGo_enum (s := { s with heap := h1, toks := s.toks + 1 }) ho fun h2 he2 hs2 => ?_⟩
    have hel : e < s.heap.objs.size := Heap.lt_size he
    have hil : it < s.heap.objs.size := by obtain ⟨_, q, _⟩ := hit; exact Heap.lt_size q
    have hT2 : h2.get? s.heap.objs.size = some { cls := .type "tuple", data := .seq #[.int i s.toks, u] } := (hs2.2 _ (Nat.ne_of_gt hel)).trans hT
    have I1 : Inv X pins σ (upd H s.heap.objs.size (.tup [.int i, x])) { s with heap := h2, toks := s.toks + 1 } := by
      refine I.turnLaid (ch := [e, it]) (fun b o hb q => ?_) hf (Nat.le_refl _) ⟨by show 2 ≤ sizeLine; decide, [.int i s.toks, u], .cons ⟨_, rfl⟩ (.cons ru .nil), ⟨_, hT2, rfl, _, rfl⟩⟩
      have b1 : b ≠ e := fun z => hb (by simp [z])
      have b2 : b ≠ it := fun z => hb (by simp [z])
      exact (hs2.2 b b1).trans (hk b o b1 b2 q)
    refine ⟨.ref s.heap.objs.size, _, I1, rfl, ⟨_, x, I.hok.fresh (Nat.le_refl _), rfl, fun ys hy => by rw [I.list_inj hy hq]; exact hx, rfl⟩, ⟨⟨_, by simpa using he2⟩, hit1.at fun o q => (hs2.2 it hne.symm).trans q⟩, fun b hb => ?_⟩
    have hbl : b < s.heap.objs.size := by
      rcases List.mem_cons.mp hb with rfl | hb
      · exact hel
      · have e1 : b = it := by simpa using hb
        rw [e1]; exact hil
    rw [upd_ne (Nat.ne_of_lt hbl)]
    exact (hf b hb).1
  done := by
    intro X hP hw hK hc i pins s σ H E I hf st hg
    subst hP hw hK
    obtain ⟨xs, hq, hx⟩ := hg
    obtain ⟨its, rv, p, hz⟩ := I.list hq
    obtain ⟨⟨old, he⟩, hit⟩ := st
    have hl := rv.length
    refine wpAny_pyNext_enum_end (I.ok.hd hc) he hit p.isList (by simp; omega) fun h' eb => ⟨rfl, I.turnL (t' := s.toks) (ch := [e, it]) (fun b o hb q => eb b o (fun z => hb (by simp [z])) q) hf⟩
  self := fun _ _ _ _ _ st h => by
    obtain ⟨⟨old, he⟩, _⟩ := st
    exact wpAny_pyIter_enum he h
theorem boot_enum : bootBuiltins "enumerate" = some (.type "enumerate") := by decide +kernel
inductive iEnum_P (K : PySem.W.Frag) (R : (It → Hp → Prop)) (vs : List V) (H1 : Hp) : Prop
  | mk (a : _) (h1 : vs = [.ref a]) (h2 : (∃ xs, SqL K H1 a xs)) (h3 : R (Ite K a) H1) : iEnum_P K R vs H1
noncomputable def iEnum (K : PySem.W.Frag) (ta : TA) : TI := fun σ H R => ta σ H fun vs H1 => iEnum_P K R vs H1
section
variable {X : Cx}
theorem pi_enum {a : Expr} {ta : TA} {p pos tp : Pos} {elts : List Expr} {kk : Nat} (hg : Gl X "enumerate") (hm : X.mg "enumerate" = none) (ha : PA X [a] ta) (hs : starEach [a] X.env = [(false, eval a X.env)] := by rfl) :
    PI X (.Tuple elts kk tp) (.Call (.Name "enumerate" p) [a] [] pos) (iEnum X.K ta) := by
  intro pins s σ H R I h
  refine Call_ (ld_blt I hg hm boot_enum (PyProof.Rows.callWith_type1 (thn (ha pos pins s σ H _ I h) fun us s1 zz_ => ?_) hs rfl))
  obtain ⟨vs, H1, I1, r1, q1⟩ := zz_
  obtain ⟨l, e, ⟨xs, hq⟩, q⟩ := q1
  subst e
  obtain ⟨u, rfl, ru⟩ := vals1 r1
  cases ru
  obtain ⟨its, rv, pl, hz⟩ := I1.list hq
  refine call_enumerate_list pl.isList fun h' he hit hsz hk => ?_
  have I2 : Inv X pins σ H1 { s1 with heap := h' } := I1.kept (t' := s1.toks) hk
  refine wpAny_pyIter_enum he ⟨s1.heap.objs.size + 1, [s1.heap.objs.size + 1, s1.heap.objs.size], _, Ite X.K l, H1, rfl, I2, turn_enum l _ _ (Nat.succ_ne_self _), ⟨⟨_, he⟩, hit⟩, fun b hb => ?_, q⟩
  have hb1 : s1.heap.objs.size ≤ b := by
    rcases List.mem_cons.mp hb with e1 | hb
    · rw [e1]; exact Nat.le_succ _
    · have e1 : b = s1.heap.objs.size := by simpa using hb
      rw [e1]; exact Nat.le_refl _
  exact I1.fpOk hb1 (I1.hok.fresh hb1)
end
theorem for_enum {K : PySem.W.Frag} {a : Addr} {xs : List V} {g : TG} {tb : TS} {D : Ends} {σ : St} {H : Hp} (Pv : Nat → St → Hp → Prop) (h0 : Pv 0 σ H) (hl : ∀ i σ H, i ≤ xs.length → Pv i σ H → SqL K H a xs)
    (hs : ∀ i x σ H p, xs[i]? = some x → Pv i σ H → H p = none → g (.ref p) σ (upd H p (.tup [.int i, x])) fun σ2 H2 => tb { D with nx := Pv (i + 1), ct := Pv (i + 1), bk := D.nx } σ2 H2) (hd : ∀ σ H, Pv xs.length σ H → D.nx σ H) :
    ∃ W : Nat → Nat → St → Hp → Prop, (∃ m, W 0 m σ H) ∧ ∀ i m σ H, W i m σ H →
      ((Ite K a).stop i H ∧ D.nx σ H) ∨ ((Ite K a).go i H ∧ ∃ N : St → Hp → Prop, (∀ σ' H', N σ' H' → ∃ m', m' < m ∧ W (i + 1) m' σ' H') ∧ ∀ x H', (Ite K a).yld i H x H' → g x σ H' fun σ2 H2 => tb { D with nx := N, ct := N, bk := D.nx } σ2 H2) := by
  refine ⟨fun i m σ H => m = xs.length - i ∧ i ≤ xs.length ∧ Pv i σ H, ⟨xs.length, by simp, Nat.zero_le _, h0⟩, ?_⟩
  rintro i m σ H ⟨rfl, hi, p⟩
  have q := hl i σ H hi p
  by_cases hlt : i < xs.length
  · refine .inr ⟨⟨xs, xs[i], q, by simp [hlt]⟩, Pv (i + 1), fun σ' H' p' => ⟨xs.length - (i + 1), by omega, rfl, hlt, p'⟩, fun x H' y => ?_⟩
    obtain ⟨t, v, hn, rfl, y, rfl⟩ := y
    exact hs i v σ _ t (y xs q) p hn
  · have e : i = xs.length := by omega
    subst e
    exact .inl ⟨⟨xs, q, Nat.le_refl _⟩, hd σ H p⟩
noncomputable def tyN (H : Hp) : V → Option String
  | .non => some "NoneType"
  | .bl _ => some "bool"
  | .int _ => some "int"
  | .str _ => some "str"
  | .ref a => match H a with
    | some (.lst _) => some "list"
    | some (.tup _) => some "tuple"
    | some (.dK _) => some "dict"
    | _ => none
  | _ => none
noncomputable def isaT (c t : String) : Bool := t == c || (t == "bool" && c == "int")
theorem tyOf_tyN {K : PySem.W.Frag} {H : Hp} {v : V} {t : String} (h : tyN H v = some t) : TyOf K H v (.type t) := by
  cases v with
  | non => cases h; exact .non
  | bl b => cases h; exact .bl b
  | int b => cases h; exact .int b
  | str b => cases h; exact .str b
  | byt b => cases h
  | flt b => cases h
  | ty b => cases h
  | ref a =>
    simp only [tyN] at h
    split at h
    · rename_i e; cases h; exact .lst e
    · rename_i e; cases h; exact .tup e
    · rename_i e; cases h; exact .dK e
    · cases h
noncomputable def tyNames : List String := ["NoneType", "bool", "int", "str", "list", "tuple", "dict"]
theorem tyN_mem {H : Hp} {v : V} {t : String} (h : tyN H v = some t) : t ∈ tyNames := by
  cases v with
  | non => cases h; decide
  | bl b => cases h; decide
  | int b => cases h; decide
  | str b => cases h; decide
  | byt b => cases h
  | flt b => cases h
  | ty b => cases h
  | ref a =>
    simp only [tyN] at h
    split at h <;> first | (cases h; decide) | cases h
noncomputable def isaNames : List String := ["bool", "int", "str", "list", "tuple", "dict"]
theorem isa_ok (K : PySem.W.Frag) {t c : String} (ht : t ∈ tyNames) (hc : c ∈ isaNames) : PySem.W.kitOne K (.type t) (.type c) = some (isaT c t) := by
  simp only [tyNames, isaNames, List.mem_cons, List.not_mem_nil, or_false] at ht hc
  rcases ht with rfl | rfl | rfl | rfl | rfl | rfl | rfl <;> rcases hc with rfl | rfl | rfl | rfl | rfl | rfl <;> (unfold PySem.W.kitOne PySem.W.kitCls; rfl)
inductive rIsi_P (xs : List V) (H : Hp) (Q : VK) : Prop
  | mk (x c t : _) (h1 : xs = [x, .ty c]) (h2 : c ∈ isaNames) (h3 : tyN H x = some t) (h4 : Q (.bl (isaT c t)) H) : rIsi_P xs H Q
noncomputable def rIsi : List V → Hp → VK → Prop := fun xs H Q => rIsi_P xs H Q
section
variable {X : Cx}
theorem call_isi : CallR X (.builtin "isinstance") rIsi := by
  intro pins s σ H xs us Q I r h
  obtain ⟨x, c, t, rfl, hc, ht, q⟩ := h
  obtain ⟨u, w', rfl, ru, rw'⟩ := vals2 r
  cases (show w' = Value.type c from rw')
  exact isinst_ok I ru (tyOf_tyN ht) (isa_ok X.K (tyN_mem ht) hc) fun tk => ⟨.bl _, H, I.tok tk, rfl, q⟩
end
section
variable {X : Cx}
end
mutual
inductive DV (H : Hp) : V → PyData → Prop
  | non : DV H .non .none
  | bl (b) : DV H (.bl b) (.bool b)
  | int (i) : DV H (.int i) (.int i)
  | str (x) : DV H (.str x) (.str x)
  | lst {a xs ds} : Rd H a (.lst xs) → DVs H xs ds → DV H (.ref a) (.list ds)
  | tup {a xs ds} : Rd H a (.tup xs) → DVs H xs ds → DV H (.ref a) (.tuple ds)
inductive DVs (H : Hp) : List V → List PyData → Prop
  | nil : DVs H [] []
  | cons {x xs d ds} : DV H x d → DVs H xs ds → DVs H (x :: xs) (d :: ds)
end
section
variable {P : Program} {w : World} {H : Hp} {h : Heap}
mutual
theorem DV.reads (ok : HOk P w H h) : ∀ {v : V} {d : PyData} {u : Value}, DV H v d → RelV v u → ∃ as, Reads h u d as
  | _, _, u, .non, r => by cases (show u = Value.none from r); exact ⟨_, .none⟩
  | _, _, u, .bl b, r => by cases (show u = Value.bool b from r); exact ⟨_, .bool b⟩
  | _, _, u, .int i, r => by obtain ⟨t, q⟩ := (show ∃ t, u = Value.int i t from r); cases q; exact ⟨_, .int i t⟩
  | _, _, u, .str x, r => by obtain ⟨t, q⟩ := (show ∃ t, u = Value.str x t from r); cases q; exact ⟨_, .str x t⟩
  | _, _, u, .lst (a := a) rd q, r => by
    cases (show u = Value.ref a from r)
    obtain ⟨_, its, n, rv, e⟩ := rd.ok ok
    obtain ⟨as, z⟩ := DVs.reads ok q rv
    exact ⟨_, .list e rfl rfl z⟩
  | _, _, u, .tup (a := a) rd q, r => by
    cases (show u = Value.ref a from r)
    obtain ⟨_, its, rv, ob, e, c, n, d⟩ := rd.ok ok
    obtain ⟨as, z⟩ := DVs.reads ok q rv
    exact ⟨_, .tuple e c d z⟩
theorem DVs.reads (ok : HOk P w H h) : ∀ {vs : List V} {ds : List PyData} {us : List Value}, DVs H vs ds → Vals vs us → ∃ as, ReadsAll h us ds as
  | _, _, _, .nil, .nil => ⟨_, .nil⟩
  | _, _, _, .cons a b, .cons r t => by
    obtain ⟨as, z⟩ := DV.reads ok a r
    obtain ⟨bs, y⟩ := DVs.reads ok b t
    exact ⟨_, .cons z y⟩
end
end
section
variable {X : Cx}
inductive rEqD_P (x : V) (y : V) (H : Hp) (Q : VK) : Prop
  | mk (d e : _) (h1 : DV H x d) (h2 : DV H y e) (h3 : SeqAt.shaped d = true) (h4 : SeqAt.shaped e = true) (h5 : Q (.bl (PyData.eqv d e)) H) : rEqD_P x y H Q
noncomputable def rEqD : R2 := fun x y H Q => rEqD_P x y H Q
inductive rNeD_P (x : V) (y : V) (H : Hp) (Q : VK) : Prop
  | mk (d e : _) (h1 : DV H x d) (h2 : DV H y e) (h3 : SeqAt.shaped d = true) (h4 : SeqAt.shaped e = true) (h5 : Q (.bl (!PyData.eqv d e)) H) : rNeD_P x y H Q
noncomputable def rNeD : R2 := fun x y H Q => rNeD_P x y H Q
theorem op_eqD (hu : X.A.units + 64 < cLine) : OpR X (compareOp .Eq) rEqD := by
  intro pins s σ H x y v u Q I rx ry h
  obtain ⟨d, e, hd, he, sd, se, q⟩ := h
  obtain ⟨as, ra⟩ := hd.reads I.hok rx
  obtain ⟨bs, rb⟩ := he.reads I.hok ry
  exact eq_dataH ra rb sd se hu ⟨.bl _, H, I, rfl, q⟩
theorem op_neD (hu : X.A.units + 64 < cLine) : OpR X (compareOp .NotEq) rNeD := by
  intro pins s σ H x y v u Q I rx ry h
  obtain ⟨d, e, hd, he, sd, se, q⟩ := h
  obtain ⟨as, ra⟩ := hd.reads I.hok rx
  obtain ⟨bs, rb⟩ := he.reads I.hok ry
  exact ne_dataH ra rb sd se hu ⟨.bl _, H, I, rfl, q⟩
end
section
variable {X : Cx}
end
section
variable {X : Cx}
noncomputable def rAddU : R2 := fun x y H Q => rI0 (fun i j => .int (i + j)) x y H Q ∨ rCat x y H Q ∨ ∃ i j, x = .str i ∧ y = .str j ∧ i.length + j.length ≤ sizeLine ∧ Q (.str (i ++ j)) H
theorem uAdd : OpR X (binaryOp .Add) rAddU := op_add.or (op_cat.or op_add_str)
noncomputable def rEqU : R2 := fun x y H Q => rEq x y H Q ∨ rEqD x y H Q
noncomputable def rNeU : R2 := fun x y H Q => rNe x y H Q ∨ rNeD x y H Q
theorem uEq (hU : X.A.units + 64 < cLine) : OpR X (compareOp .Eq) rEqU := op_eq.or (op_eqD hU)
theorem uNe (hU : X.A.units + 64 < cLine) : OpR X (compareOp .NotEq) rNeU := op_ne.or (op_neD hU)
end
theorem boot_tuple' : bootBuiltins "tuple" = some (.type "tuple") := by decide +kernel
theorem boot_list' : bootBuiltins "list" = some (.type "list") := by decide +kernel
theorem boot_int' : bootBuiltins "int" = some (.type "int") := by decide +kernel
theorem boot_bool' : bootBuiltins "bool" = some (.type "bool") := by decide +kernel
theorem boot_len' : bootBuiltins "len" = some (.builtin "len") := by decide +kernel
theorem boot_max' : bootBuiltins "max" = some (.builtin "max") := by decide +kernel
theorem boot_min' : bootBuiltins "min" = some (.builtin "min") := by decide +kernel
theorem boot_isinstance' : bootBuiltins "isinstance" = some (.builtin "isinstance") := by decide +kernel
structure Df (K : PySem.W.Frag) (mg : Str → Option Value) (x : Str) (st : Stmt) (ps : List Str) (f : Addr) (fd : FuncData) : Prop where
  F : Fun K x x st f fd
  b : Binds K fd ps []
  m : mg x = some (.ref f)
  k : PySem.W.keepIn K (.ref f) = true
theorem Same.new {H : Hp} {p : Addr} (o : HO) (h : H p = none) : Same H (upd H p o) := fun b u e => by rw [upd_ne (ne_of_none e h)]; exact e
theorem Same.then {H H1 : Hp} (s : Same H H1) {p : Addr} (o : HO) (h : H1 p = none) : Same H (upd H1 p o) := s.trans (Same.new o h)
noncomputable def But (p : Addr) (H H' : Hp) : Prop := ∀ b o, H b = some o → b ≠ p → H' b = some o
theorem small60 {n : Nat} (h : n ≤ 1000) : n ≤ sizeLine := Nat.le_of_lt (small1000 h)
theorem iteFF {b : Bool} {A B : Prop} (e : b = false) (h : B) : if b = true then A else B := by rw [e]; exact iteF h
theorem iteTT {b : Bool} {A B : Prop} (e : b = true) (h : A) : if b = true then A else B := by rw [e]; exact iteT h
theorem iteD {c A B : Prop} [Decidable c] (h1 : c → A) (h2 : ¬ c → B) : if (decide c) = true then A else B := by
  by_cases h : c
  · rw [decide_eq_true h]; exact iteT (h1 h)
  · rw [decide_eq_false h]; exact iteF (h2 h)
theorem iteND {c A B : Prop} [Decidable c] (h1 : ¬ c → A) (h2 : c → B) : if (!decide c) = true then A else B := by
  by_cases h : c
  · rw [decide_eq_true h]; exact iteF (h2 h)
  · rw [decide_eq_false h]; exact iteT (h1 h)
end L2
set_option Elab.async false
set_option linter.all false
set_option maxRecDepth 100000
namespace L2
open PySem PySem.Spec PyProof.Rows
section
variable {prog : Program} {w : World} {A : Around} {R : Result → Shared → Prop} {s : Shared}
noncomputable abbrev noE : Value → Shared → Prop := fun _ _ => False
theorem compLoop_go {elt target iter : Expr} {ifs : List Expr} {scope : Scope} {pos : Pos} {it acc : Value} {env : Env} (I : Nat → Shared → Prop)
    (turn : ∀ n s, I n s → wpAny (model prog w) A (pyNext it) (fun r s₁ => match r with
      | none => R (.ok .next) s₁
      | some v => wpAny (model prog w) A (letOwnedTupleGo target it v) (fun _ s₀ => wpAny (model prog w) A (assign target env v) (fun _ s₂ =>
          wpAny (model prog w) A (forIn ifs true fun c r => if r = true then do let ok ← isTrue c env (eval c env); pure (ForInStep.yield ok) else pure (ForInStep.yield r)) (fun ok s₃ =>
            if ok = true then wpAny (model prog w) A (eval elt env) (fun x s₄ =>
              wpAny (model prog w) A (call (.builtin "list.append") [acc, x]) (fun _ s₅ => ∃ m, m < n ∧ I m s₅) noE s₄) noE s₃
            else ∃ m, m < n ∧ I m s₃) noE s₂) noE s₀) noE s₁) noE s)
    (n : Nat) (h : I n s) :
    codeAny (model prog w) A (.compLoop (.ListComp elt [⟨target, iter, ifs, 0⟩] scope pos) 0 it acc env) R s := by
  refine codeAny_loop rfl I (fun n s hI => ?_) n h
  show wpAny _ A ((compTurn (.ListComp elt [⟨target, iter, ifs, 0⟩] scope pos) 0 it acc env).onRaise (fun x => do noteFrame x env; theTreesLotGoes x)) _ _ s
  refine wpAny_noted ?_
  rw [compTurn_list]
  refine wpAny_bind (wpAny_standAt (wpAny_bind (wpAny_mono (turn n s hI) (fun r s₁ h₁ => ?_) fun _ _ h' => h'.elim)))
  cases r with
  | none => exact wpAny_pure h₁
  | some v =>
    refine wpAny_bind (wpAny_mono h₁ (fun _ s₀ h₀ => ?_) fun _ _ h' => h'.elim)
    refine wpAny_bind (wpAny_mono h₀ (fun _ s₂ h₂ => wpAny_bind (wpAny_mono h₂ (fun ok s₃ h₃ => ?_) fun _ _ h' => h'.elim)) fun _ _ h' => h'.elim)
    cases ok with
    | false => exact wpAny_pure ⟨rfl, h₃⟩
    | true =>
      exact wpAny_bind (wpAny_bind (wpAny_mono h₃ (fun x s₄ h₄ => wpAny_bind (wpAny_mono h₄ (fun _ s₅ h₅ => wpAny_pure (wpAny_pure ⟨rfl, h₅⟩)) fun _ _ h' => h'.elim)) fun _ _ h' => h'.elim))
end
noncomputable def compCx (X : Cx) (scope : Scope) (N : List Str) (cl : List (Str × Addr)) (C : Addr) (s₀ : Shared) (H₀ : Hp) (ex : List Addr) (pn : List (Addr × Obj)) : Cx where
  prog := X.prog
  w := X.w
  K := X.K
  mg := X.mg
  base := X.base
  A := X.A
  N := N
  s₀ := s₀
  H₀ := H₀
  env := compEnvC scope cl C X.env
  outer := X.stack
  stack := X.stack
  ex := ex
  fn := fun x => !(cl.lookup x).isSome
  calm := X.calm
  pn := pn
  xe := noE
noncomputable def st0 (js : List (Option Nat)) (σ : St) : St := js.map fun o => o.bind fun j => (σ[j]?).join
noncomputable def PTs (X : Cx) (ifs : List Expr) (t : TT) : Prop :=
  ∀ (pins : List (Addr × Obj)) (s : Shared) (σ : St) (H : Hp) (Q : Bool → Hp → Prop), Inv X pins σ H s → t σ H Q →
    wpAny (model X.prog X.w) X.A (forIn ifs true fun c r => if r = true then do let ok ← isTrue c X.env (eval c X.env); pure (ForInStep.yield ok) else pure (ForInStep.yield r)) (TP X pins σ Q) X.xe s
noncomputable def tYes : TT := fun _ H Q => Q true H
theorem pts_nil {X : Cx} : PTs X [] tYes := fun _ _ _ H _ I h => wpAny_tests_nil ⟨H, I, h⟩
theorem pts_one {X : Cx} {c : Expr} {t : TT} (h : PT X c t) : PTs X [c] t := fun pins s σ H Q I q => wpAny_tests_one (h pins s σ H Q I q)
noncomputable def compGoal (J : It) (g : TG) (tt : TT) (te : TE) (D : Addr) (Q : VK) (σ0 : St) (H0 : Hp) : Prop :=
  ∃ W : Nat → Nat → St → Hp → Prop, (∃ m, W 0 m σ0 H0) ∧ ∀ i m σ' H', W i m σ' H' →
    (J.stop i H' ∧ Q (.ref D) H') ∨ (J.go i H' ∧ ∃ N : St → Hp → Prop, (∀ σ2 H2, N σ2 H2 → ∃ m', m' < m ∧ W (i + 1) m' σ2 H2) ∧
      ∀ x H2, J.yld i H' x H2 → g x σ' H2 fun σ3 H3 => tt σ3 H3 fun ok H4 => if ok = true then te σ3 H4 fun y H5 => ∃ ys, H5 D = some (.lst ys) ∧ ys.length < sizeLine ∧ N σ3 (upd H5 D (.lst (ys ++ [y]))) else N σ3 H4)
noncomputable def tComp (wi : TI) (g : TG) (tt : TT) (te : TE) (js : List (Option Nat)) : TE := fun σ H Q => wi σ H fun J H1 => ∀ D, H1 D = none → compGoal J g tt te D Q (st0 js σ) (upd H1 D (.lst []))
structure CompOk (X : Cx) (scope : Scope) (N : List Str) (cl : List (Str × Addr)) (js : List (Option Nat)) : Prop where
  clos : closureFor scope X.env = pure cl
  sub : ∀ x c, cl.lookup x = some c → X.env.cells.lookup x = some c
  all : ∀ x, ((relabel scope X.env).names.lookup x = some .cell ∨ (relabel scope X.env).names.lookup x = some .free) → ∃ c, cl.lookup x = some c
  cell : ∀ y ∈ scope.names, y.2 ≠ .cell
  kind : scope.kind = .function
  names : ∀ y ∈ scope.names, y.2 = .local → scope.names.lookup y.1 = some .local
  len : js.length = N.length
  fr : ∀ (i j : Nat) (x : Str), js[i]? = some (some j) → N[i]? = some x → X.N[j]? = some x ∧ X.env.kindOf x = some .cell ∧ ((relabel scope X.env).names.lookup x = some .cell ∨ (relabel scope X.env).names.lookup x = some .free)
section
variable {X : Cx}
theorem st0_get {js : List (Option Nat)} {σ : St} {i : Nat} {v : V} (h : (st0 js σ)[i]? = some (some v)) : ∃ j, js[i]? = some (some j) ∧ σ[j]? = some (some v) := by
  unfold st0 at h
  rw [List.getElem?_map] at h
  cases e : js[i]? with
  | none => rw [e] at h; cases h
  | some o =>
    rw [e] at h
    cases o with
    | none => cases h
    | some j =>
      refine ⟨j, rfl, ?_⟩
      have h' : (σ[j]?).join = some v := by simpa using h
      cases e2 : σ[j]? with
      | none => rw [e2] at h'; cases h'
      | some o2 => rw [e2] at h'; cases o2 with
        | none => cases h'
        | some u => rw [show u = v by simpa using h']
theorem comp_ok {pins : List (Addr × Obj)} {σ : St} {H : Hp} {s : Shared} {scope : Scope} {N : List Str} {cl : List (Str × Addr)} {js : List (Option Nat)} {C : Addr} {fp : List Addr} (k : CompOk X scope N cl js) (I : Inv X pins σ H s)
    (hf : ∀ b ∈ fp, FpOk X pins H b) (hfl : ∀ b ∈ fp, b < s.heap.objs.size) (hC : s.heap.objs.size ≤ C) : (compCx X scope N cl C s H fp (X.pn ++ pins)).Ok where
  mod := I.ok.mod
  kind := k.kind
  glob := I.ok.glob
  blt := I.ok.blt
  above := hC
  inj := fun x y c h1 h2 => I.ok.inj x y c (k.sub _ _ h1) (k.sub _ _ h2)
  has := fun x h => k.all x h
  cab := fun x c h1 h2 => by
    have h1' : (!(cl.lookup x).isSome) = true := h1
    have h2' : cl.lookup x = some c := h2
    rw [h2'] at h1'; cases h1'
  hd := I.ok.hd
  frames := I.ok.frames
  stk := .inl rfl
  exf := fun b hb => ⟨Nat.ne_of_lt (Nat.lt_of_lt_of_le (hfl b hb) hC), fun x c h => (hf b hb).2.2.2.2.1 x c (k.sub _ _ h)⟩
  bs := I.bs
  bsz := Nat.le_trans I.ok.bsz I.sz
  noex := fun b o e hb => by
    rcases (hf b hb).2.2.2.1 with z | z
    · exact I.ok.noex b o e z
    · exact absurd (Nat.lt_of_lt_of_le (Heap.lt_size e) (Nat.le_trans I.ok.bsz z)) (Nat.lt_irrefl _)
  exfs := fun b hb z => by
    rcases List.mem_cons.mp (I.stkSub b z) with e | e
    · exact (hf b hb).2.1 e
    · exact (hf b hb).2.2.1 e
  funs := I.stack
  frf := I.stkFree
theorem comp_inv {pins : List (Addr × Obj)} {σ : St} {H : Hp} {s : Shared} {h1 : Heap} {t' : Nat} {scope : Scope} {N : List Str} {cl : List (Str × Addr)} {js : List (Option Nat)} {C D : Addr} {fp : List Addr} {m : Str → Option Value} (k : CompOk X scope N cl js) (I : Inv X pins σ H s)
    (hf : ∀ b ∈ fp, FpOk X pins H b) (hfl : ∀ b ∈ fp, b < s.heap.objs.size) (hD : s.heap.objs.size ≤ D) (hC : s.heap.objs.size ≤ C) (hDC : D ≠ C)
    (hn : h1.Ns C m) (hl : h1.get? D = some { cls := .type "list", data := .seq ([] : List Value).toArray }) (hk : ∀ b o, s.heap.get? b = some o → h1.get? b = some o) :
    Inv (compCx X scope N cl C s H fp (X.pn ++ pins)) [] (st0 js σ) (upd H D (.lst [])) { s with heap := h1, toks := t' } := by
  have fD : H D = none := I.hok.fresh hD
  have fC : H C = none := I.hok.fresh hC
  have nC : ∀ b, b < s.heap.objs.size → b ≠ C := fun b hb => Nat.ne_of_lt (Nat.lt_of_lt_of_le hb hC)
  refine ⟨comp_ok k I hf hfl hC, rfl, I.bare, ?_, ?_, ?_, ?_, ?_, ?_, ?_, ?_⟩
  · exact (Un.laid (fs := frs X.stack) (ex := fp) (o := .lst []) hk hD fD)
  · refine ⟨m, hn, fun i x v e1 e2 e3 => ?_⟩
    obtain ⟨j, f1, f2⟩ := st0_get e2
    obtain ⟨g1, g2, g3⟩ := k.fr i j x f1 e1
    obtain ⟨m', hn', hl'⟩ := I.loc
    obtain ⟨u, ru, lk⟩ := hl' j x v g1 f2 (.inr (.inl g2))
    refine ⟨u, ru, .inr ⟨g3, ?_⟩⟩
    obtain ⟨c, hc⟩ := k.all x g3
    rcases lk with ⟨z, _⟩ | ⟨_, c', hc', ic⟩
    · rw [g2] at z; cases z
    · have e := k.sub _ _ hc
      rw [hc'] at e; cases e
      obtain ⟨o, ho, hd⟩ := ic
      exact ⟨c, hc, o, hk _ _ ho, hd⟩
  · intro x c h
    obtain ⟨v, o, ho, hd⟩ := I.cell x c (k.sub _ _ h)
    exact ⟨v, o, hk _ _ ho, hd⟩
  · show (upd H D (.lst [])) C = none
    rw [upd_ne hDC.symm]; exact fC
  · intro x c h
    obtain ⟨v, o, ho, hd⟩ := I.cell x c (k.sub _ _ h)
    rw [upd_ne (Nat.ne_of_lt (Nat.lt_of_lt_of_le (Heap.lt_size ho) hD))]
    exact I.freeC x c (k.sub _ _ h)
  · intro p hp
    have hp' : p ∈ X.pn ++ pins := by simpa [compCx] using hp
    obtain ⟨e, n, ne, nf, d⟩ := I.pin p hp'
    have lt := Heap.lt_size e
    refine ⟨hk _ _ e, by rw [upd_ne (Nat.ne_of_lt (Nat.lt_of_lt_of_le lt hD))]; exact n, nC _ lt, fun z => ?_, d⟩
    rcases List.mem_cons.mp (I.stkSub _ z) with e | e
    · exact ne e
    · exact nf e
  · exact I.hok.laid hk hD ⟨Nat.zero_le _, [], 0, .nil, hl⟩
  · show (st0 js σ).length = N.length
    unfold st0
    rw [List.length_map]; exact k.len
theorem pe_comp {elt iter tg : Expr} {ifs : List Expr} {scope : Scope} {pos : Pos} {wi : TI} {g : TG} {tt : TT} {te : TE} {N : List Str} {cl : List (Str × Addr)} {js : List (Option Nat)} (hc : X.calm = true) (k : CompOk X scope N cl js) (hi : PI X tg iter wi)
    (hg : ∀ C s₀ H₀ ex pn, PG (compCx X scope N cl C s₀ H₀ ex pn) tg g) (ht : ∀ C s₀ H₀ ex pn, PTs (compCx X scope N cl C s₀ H₀ ex pn) ifs tt) (he : ∀ C s₀ H₀ ex pn, PE (compCx X scope N cl C s₀ H₀ ex pn) elt te)
    (hs : ∀ x, foldedSetIterable iter X.env x = pure x := by intro _; rfl) :
    PE X (.ListComp elt [⟨tg, iter, ifs, 0⟩] scope pos) (tComp wi g tt te js) := by
  intro pins s σ H Q I h
  rw [eval_ListComp]
  refine wpAny_comprehension_free (use := none) rfl hs k.clos k.kind k.names ?_
  refine thn (hi pins s σ H _ I h) fun v s1 h1 => thn h1 fun itv s2 h2 => ?_
  obtain ⟨it, fp, tn, J, H2, e, I2, T, st2, f2, hD⟩ := h2
  subst e
  refine wpAny_newObj_type (wpAny_newFunctionEnv k.cell (by intro y hy; simp at hy) (fun h₁ hns₁ hsb₁ => ?_) k.kind)
  dsimp only at hns₁ hsb₁ ⊢
  generalize hH2 : s2.heap.push { cls := .type "list", dict := none, data := .seq ([] : List Value).toArray } = P2 at hns₁ hsb₁ ⊢
  have hC : P2.objs.size = s2.heap.objs.size + 1 := by rw [← hH2, Heap.size_push]
  have hDC : s2.heap.objs.size ≠ P2.objs.size := by rw [hC]; exact Nat.ne_of_lt (Nat.lt_succ_self _)
  have hCle : s2.heap.objs.size ≤ P2.objs.size := by rw [hC]; exact Nat.le_succ _
  have old : ∀ b o, s2.heap.get? b = some o → h₁.get? b = some o := fun b o e => hsb₁.extBut b o (Nat.ne_of_lt (Nat.lt_of_lt_of_le (Heap.lt_size e) hCle)) (Heap.get?_push_of_some _ (hH2 ▸ Heap.get?_push_of_some _ e))
  have hacc : h₁.get? s2.heap.objs.size = some { cls := .type "list", data := .seq ([] : List Value).toArray } := hsb₁.extBut _ _ hDC (Heap.get?_push_of_some _ (hH2 ▸ Heap.get?_push_size _ rfl))
  have hfl : ∀ b ∈ fp, b < s2.heap.objs.size := fun b hb => by
    obtain ⟨o, e, _⟩ := T.obj _ _ st2 b hb
    exact Heap.lt_size e
  have fD : H2 s2.heap.objs.size = none := I2.hok.fresh (Nat.le_refl _)
  obtain ⟨W, ⟨m0, w0⟩, turn⟩ := hD _ fD
  have IX : Inv (compCx X scope N cl P2.objs.size s2 H2 fp (X.pn ++ pins)) [] (st0 js σ) (upd H2 s2.heap.objs.size (.lst [])) { s2 with heap := h₁, toks := s2.toks + ([] : List (Str × Value)).length } :=
    comp_inv k I2 f2 hfl (Nat.le_refl _) hCle hDC hns₁ hacc old
  have hg' := hg P2.objs.size s2 H2 fp (X.pn ++ pins)
  have ht' := ht P2.objs.size s2 H2 fp (X.pn ++ pins)
  have he' := he P2.objs.size s2 H2 fp (X.pn ++ pins)
  have stat : ∀ {H' : Hp}, (∀ b ∈ fp, H' b = none) → ∀ b ∈ fp, FpOk (compCx X scope N cl P2.objs.size s2 H2 fp (X.pn ++ pins)) [] H' b := fun hn b hb => by
    obtain ⟨g0, g1, g2, g3, g4, g5⟩ := f2 b hb
    refine ⟨hn b hb, Nat.ne_of_lt (Nat.lt_of_lt_of_le (hfl b hb) hCle), fun z => ?_, .inl hb, fun x c h => g4 x c (k.sub _ _ h), fun p hp => g5 p (by simpa [compCx] using hp)⟩
    rcases List.mem_cons.mp (I2.stkSub b z) with e | e
    · exact g1 e
    · exact g2 e
  have loop : ∀ s₃ : Shared, s₃ = { s2 with heap := h₁, toks := s2.toks + ([] : List (Str × Value)).length } →
      codeAny (model X.prog X.w) X.A (.compLoop (.ListComp elt [⟨tg, iter, ifs, 0⟩] scope pos) 0 (.ref it) (.ref s2.heap.objs.size) (compEnvC scope cl P2.objs.size X.env))
        (compPost (model X.prog X.w) X.A X.xe none (EP X pins σ Q) (.ref s2.heap.objs.size) P2.objs.size) s₃ := by
    rintro s₃ rfl
    refine compLoop_go (fun n s' => ∃ i σ' H', Inv (compCx X scope N cl P2.objs.size s2 H2 fp (X.pn ++ pins)) [] σ' H' s' ∧ tn i s'.heap ∧ (∀ b ∈ fp, H' b = none) ∧ W i n σ' H') ?_ m0
      ⟨0, st0 js σ, _, IX, T.keep _ _ _ st2 (fun b hb o e => old b o e), fun b hb => by rw [upd_ne (Nat.ne_of_lt (hfl b hb))]; exact (f2 b hb).1, w0⟩
    rintro n s3 ⟨i, σ3, H3, I3, st3, fr3, w3⟩
    rcases turn i n σ3 H3 w3 with ⟨stop, qn⟩ | ⟨go, N2, hN, step⟩
    · refine thn (T.done (compCx X scope N cl P2.objs.size s2 H2 fp (X.pn ++ pins)) rfl rfl rfl hc i [] s3 σ3 H3 noE I3 (stat fr3) st3 stop) fun r s4 ⟨hr, I4⟩ => ?_
      subst hr
      obtain ⟨m4, hn4, _⟩ := id I4.loc
      refine ⟨m4, hn4, fun h' hsb => ⟨.ref s2.heap.objs.size, H3, ?_, rfl, qn⟩⟩
      have u4 : Un (frs X.stack) fp H2 H3 s2.heap s4.heap := I4.base
      have ltC : ∀ b o, s2.heap.get? b = some o → b ≠ P2.objs.size := fun b o e => Nat.ne_of_lt (Nat.lt_of_lt_of_le (Heap.lt_size e) hCle)
      have u5 : Un (frs X.stack) fp H2 H3 s2.heap h' :=
        { keep := fun b o e n hb hx => hsb.extBut b o (ltC b o e) (u4.keep b o e n hb hx)
          slot := fun b o e n hb hx => by
            obtain ⟨sl, q⟩ := u4.slot b o e n hb hx
            exact ⟨sl, hsb.extBut b _ (ltC b o e) q⟩
          free := u4.free
          there := fun b o e hx => by
            obtain ⟨o', q⟩ := u4.there b o e hx
            exact ⟨o', hsb.extBut b _ (ltC b o e) q⟩
          tups := u4.tups
          frzs := u4.frzs
          tbls := u4.tbls }
      have fC : H3 P2.objs.size = none := I4.free
      have hok5 : HOk X.prog X.w H3 h' := fun b u e => (I4.hok b u e).stay (fun c v hc' q => hsb.extBut c v (fun z => by
        rcases hc' with y | y
        · rw [y] at z; rw [z, fC] at e; cases e
        · rw [z, fC] at y; cases y) q) (fun _ q => q) fun _ _ q => q
      exact I2.call' (s' := { s4 with heap := h' }) I4.os u5 hok5 I4.bare fun b hb => by
        obtain ⟨g0, g1, g2, g3, g4, g5⟩ := f2 b hb
        exact ⟨g3, g1, g4, g5⟩
    · refine thn (T.item (compCx X scope N cl P2.objs.size s2 H2 fp (X.pn ++ pins)) rfl rfl rfl hc i [] s3 σ3 H3 noE I3 (stat fr3) st3 go) fun r s4 ⟨u, hr, h4⟩ => ?_
      subst hr
      refine thn h4 fun _ s5 zz_ => ?_
      obtain ⟨x, H5, I5, r5, y5, st5, fr5⟩ := zz_
      have I5' := I5.pinned (stat fr5) (T.obj _ _ st5)
      refine thn (hg' _ s5 σ3 H5 x u _ I5' r5 (step x H5 y5)) fun _ s6 zz_ => ?_
      obtain ⟨σ6, H6, I6, q6⟩ := zz_
      refine thn (ht' _ s6 σ6 H6 _ I6 q6) fun ok s7 zz_ => ?_
      obtain ⟨H7, I7, q7⟩ := zz_
      have again : ∀ {s8 : Shared} {σ8 : St} {H8 : Hp}, Inv (compCx X scope N cl P2.objs.size s2 H2 fp (X.pn ++ pins)) ([] ++ pinsAt fp s5.heap) σ8 H8 s8 → N2 σ8 H8 →
          ∃ m, m < n ∧ ∃ i σ' H', Inv (compCx X scope N cl P2.objs.size s2 H2 fp (X.pn ++ pins)) [] σ' H' s8 ∧ tn i s8.heap ∧ (∀ b ∈ fp, H' b = none) ∧ W i m σ' H' := fun {s8 σ8 H8} I8 n8 => by
        obtain ⟨m', hm, w8⟩ := hN σ8 H8 n8
        refine ⟨m', hm, i + 1, σ8, H8, I8.unpinned, T.keep _ _ _ st5 fun b hb o e => (I8.pin (b, o) (List.mem_append_right _ (List.mem_append_right _ (mem_pinsAt hb e)))).1, fun b hb => ?_, w8⟩
        obtain ⟨o, e, d⟩ := T.obj _ _ st5 b hb
        exact (I8.pin (b, o) (List.mem_append_right _ (List.mem_append_right _ (mem_pinsAt hb e)))).2.1
      cases ok with
      | false => exact again I7 (by simpa using q7)
      | true =>
        have q7' : te σ6 H7 fun y H5 => ∃ ys, H5 s2.heap.objs.size = some (.lst ys) ∧ ys.length < sizeLine ∧ N2 σ6 (upd H5 s2.heap.objs.size (.lst (ys ++ [y]))) := by simpa using q7
        refine thn (he' _ s7 σ6 H7 _ I7 q7') fun xv s8 zz_ => ?_
        obtain ⟨y, H8, I8, r8, ys, hy, hlen, n8⟩ := zz_
        refine thn (mt_append (X := compCx X scope N cl P2.objs.size s2 H2 fp (X.pn ++ pins)) _ s8 σ6 H8 (.ref s2.heap.objs.size) [y] (.ref s2.heap.objs.size) [xv] (fun _ H9 => N2 σ6 H9) I8 rfl (.cons r8 .nil) ⟨_, ys, y, rfl, rfl, hy, hlen, n8⟩) fun _ s9 ⟨_, H9, I9, _, n9⟩ => again I9 n9
  exact codeAny_compStart_list (loop _ rfl) (T.self _ 0 _ _ _ (T.keep _ _ _ st2 (fun b hb o e => old b o e)) (loop _ rfl))
end
end L2
set_option Elab.async false
set_option linter.all false
set_option maxRecDepth 100000
namespace L2
open PySem PySem.Spec PyProof.Rows
section
variable {X : Cx} {tg : Expr}
end
theorem comp_list {K : PySem.W.Frag} {a : Addr} {xs : List V} {g : TG} {tt : TT} {te : TE} {D : Addr} {Q : VK} {σ : St} {H : Hp} (Pv : Nat → St → Hp → Prop) (h0 : Pv 0 σ H) (hl : ∀ i σ H, i ≤ xs.length → Pv i σ H → SqL K H a xs)
    (hs : ∀ i x σ H, xs[i]? = some x → Pv i σ H → g x σ H fun σ3 H3 => tt σ3 H3 fun ok H4 => if ok = true then te σ3 H4 fun y H5 => ∃ ys, H5 D = some (.lst ys) ∧ ys.length < sizeLine ∧ Pv (i + 1) σ3 (upd H5 D (.lst (ys ++ [y]))) else Pv (i + 1) σ3 H4)
    (hd : ∀ σ H, Pv xs.length σ H → Q (.ref D) H) :
    compGoal (Itl K a) g tt te D Q σ H := by
  refine ⟨fun i m σ H => m = xs.length - i ∧ i ≤ xs.length ∧ Pv i σ H, ⟨xs.length, by simp, Nat.zero_le _, h0⟩, ?_⟩
  rintro i m σ H ⟨rfl, hi, p⟩
  have q := hl i σ H hi p
  by_cases hlt : i < xs.length
  · refine .inr ⟨⟨xs, xs[i], q, by simp [hlt]⟩, Pv (i + 1), fun σ' H' p' => ⟨xs.length - (i + 1), by omega, rfl, hlt, p'⟩, fun v H' y => ?_⟩
    obtain ⟨e, y⟩ := y
    subst e
    exact hs i v σ _ (y xs q) p
  · have e : i = xs.length := by omega
    subst e
    exact .inl ⟨⟨xs, q, Nat.le_refl _⟩, hd σ H p⟩
section
variable {X : Cx}
end
section
variable {X : Cx}
noncomputable def rSlS : V → Option Int → Option Int → Hp → VK → Prop := fun x lo hi H Q => ∃ z, x = .str z ∧ z.length ≤ sizeLine ∧ Q (.str (Txt.slice z lo hi)) H
theorem sl_str : SlR X rSlS := by
  intro pins s σ H x v vl vu lo hi sl Q I rx hs pl pu h
  obtain ⟨z, rfl, hz, q⟩ := h
  obtain ⟨t, rfl⟩ := rx
  refine ⟨"str", _, F.slot_str_getitem.lookup, typeIs_str _ _ _, ?_⟩
  have fin : ∀ t' k, EP X pins σ Q (.str (Txt.slice z lo hi) t') { s with toks := k } := fun t' k => ⟨.str _, H, I.tok k, ⟨_, rfl⟩, q⟩
  obtain ⟨o, e1, e2, e3⟩ := hs
  cases pl with
  | none =>
    cases pu with
    | none => exact wpAny_getItem_str_slice (l := none) (u := none) (st := none) ⟨o, e1, e2, e3⟩ rfl (post_val_or_str ⟨Nat.le_trans (Txt.slice_le z _ _) hz, fin⟩)
    | int j u => exact wpAny_getItem_str_slice (l := none) (u := some (j, u)) (st := none) ⟨o, e1, e2, e3⟩ rfl (post_val_or_str ⟨Nat.le_trans (Txt.slice_le z _ _) hz, fin⟩)
  | int i ui =>
    cases pu with
    | none => exact wpAny_getItem_str_slice (l := some (i, ui)) (u := none) (st := none) ⟨o, e1, e2, e3⟩ rfl (post_val_or_str ⟨Nat.le_trans (Txt.slice_le z _ _) hz, fin⟩)
    | int j u => exact wpAny_getItem_str_slice (l := some (i, ui)) (u := some (j, u)) (st := none) ⟨o, e1, e2, e3⟩ rfl (post_val_or_str ⟨Nat.le_trans (Txt.slice_le z _ _) hz, fin⟩)
theorem uSl : SlR X (fun x lo hi H Q => rSlL X.K x lo hi H Q ∨ rSlS x lo hi H Q) := sl_list.or sl_str
end
end L2
set_option Elab.async false
set_option linter.all false
set_option maxRecDepth 100000
namespace L2
open PySem PySem.Spec PyProof.Rows
noncomputable def compCl (cells : List (Str × Addr)) : List (Str × NameKind) → List (Str × Addr) → List (Str × Addr)
  | [], acc => acc
  | (n, k) :: r, acc => compCl cells r (if k == .free then (n, (cells.lookup n).getD 0) :: acc else acc)
noncomputable def clStep (env : Env) (x : Str × NameKind) (cs : List (Str × Addr)) : Sem (ForInStep (List (Str × Addr))) := match x with
  | (name, kind) => if (kind == NameKind.free) = true then (do let a ← cellOf env name; pure (ForInStep.yield ((name, a) :: cs))) else pure (ForInStep.yield cs)
theorem clStep_eq {env : Env} {n : Str} {k : NameKind} {acc : List (Str × Addr)} (h : k = .free → ∃ c, env.cells.lookup n = some c) :
    clStep env (n, k) acc = pure (ForInStep.yield (if k == .free then (n, (env.cells.lookup n).getD 0) :: acc else acc)) := by
  by_cases hk : k = .free
  · subst hk
    obtain ⟨c, hc⟩ := h rfl
    show (do let a ← cellOf env n; pure (ForInStep.yield ((n, a) :: acc))) = (pure (ForInStep.yield ((n, (env.cells.lookup n).getD 0) :: acc)) : Sem _)
    unfold cellOf
    rw [hc]
    rfl
  · cases k <;> first | exact absurd rfl hk | rfl
theorem closure_go {env : Env} : ∀ (names : List (Str × NameKind)) (acc : List (Str × Addr)), (∀ y ∈ names, y.2 = .free → ∃ c, env.cells.lookup y.1 = some c) →
    (forIn names acc (clStep env)) = (pure (compCl env.cells names acc) : Sem (List (Str × Addr)))
  | [], acc, _ => rfl
  | (n, k) :: r, acc, h => by
    rw [List.forIn_cons, clStep_eq fun e => h (n, k) List.mem_cons_self e]
    exact closure_go (env := env) r _ fun y hy => h y (List.mem_cons_of_mem _ hy)
theorem closure_cl {scope : Scope} {env : Env} (h : ∀ y ∈ scope.names, y.2 = .free → ∃ c, env.cells.lookup y.1 = some c) : closureFor scope env = pure (compCl env.cells scope.names []) := by
  unfold closureFor
  exact (congrArg (fun (m : Sem (List (Str × Addr))) => m >>= fun cs => pure cs) (closure_go (env := env) scope.names [] h)).trans rfl
theorem compCl_lookup {cells : List (Str × Addr)} {x : Str} : ∀ (names : List (Str × NameKind)) (acc : List (Str × Addr)), (∀ y ∈ names, y.2 = .free → ∃ c, cells.lookup y.1 = some c) → (∀ c, acc.lookup x = some c → cells.lookup x = some c) →
    (∀ c, (compCl cells names acc).lookup x = some c → cells.lookup x = some c) ∧ (((x, NameKind.free) ∈ names ∨ (acc.lookup x).isSome = true) → ((compCl cells names acc).lookup x).isSome = true)
  | [], acc, _, ha => ⟨ha, fun h => h.elim (fun z => nomatch z) id⟩
  | (n, k) :: r, acc, h, ha => by
    unfold compCl
    have hr : ∀ y ∈ r, y.2 = .free → ∃ c, cells.lookup y.1 = some c := fun y hy => h y (List.mem_cons_of_mem _ hy)
    cases hk : (k == NameKind.free) with
    | false =>
      obtain ⟨i1, i2⟩ := compCl_lookup (cells := cells) (x := x) r acc hr ha
      refine ⟨by simpa using i1, fun z => ?_⟩
      have : ((compCl cells r acc).lookup x).isSome = true := i2 (by
        rcases z with z | z
        · rcases List.mem_cons.mp z with e | e
          · cases e; cases hk
          · exact .inl e
        · exact .inr z)
      simpa using this
    | true =>
      obtain ⟨c, hc⟩ := h (n, k) List.mem_cons_self (by simpa using hk)
      have hc : cells.lookup n = some c := hc
      have ek : k = NameKind.free := by simpa using hk
      subst ek
      have ha' : ∀ c', ((n, (cells.lookup n).getD 0) :: acc).lookup x = some c' → cells.lookup x = some c' := fun c' z => by
        rw [List.lookup_cons] at z
        cases e : x == n with
        | true =>
          rw [e] at z
          have e' : x = n := by simpa using e
          rw [e', hc] at *
          simpa using z
        | false => rw [e] at z; exact ha c' z
      obtain ⟨i1, i2⟩ := compCl_lookup (cells := cells) (x := x) r _ hr ha'
      refine ⟨i1, fun z => i2 ?_⟩
      by_cases e : x = n
      · right
        rw [List.lookup_cons, e]; simp
      · rcases z with z | z
        · rcases List.mem_cons.mp z with q | q
          · cases q; exact absurd rfl e
          · exact .inl q
        · right
          rw [List.lookup_cons]
          have : (x == n) = false := by simpa using e
          rw [this]; exact z
theorem lookup_mem {x : Str} {k : NameKind} : ∀ {names : List (Str × NameKind)}, names.lookup x = some k → (x, k) ∈ names
  | [], h => by cases h
  | (n, j) :: r, h => by
    rw [List.lookup_cons] at h
    cases e : x == n with
    | true =>
      rw [e] at h
      have e' : x = n := by simpa using e
      cases h
      rw [e']; exact List.mem_cons_self
    | false => rw [e] at h; exact List.mem_cons_of_mem _ (lookup_mem h)
theorem relabel_mem {scope : Scope} {env : Env} {x : Str} {k : NameKind} (h : (x, k) ∈ (relabel scope env).names) : (x, k) ∈ scope.names ∨ (k = .cell ∧ (x, NameKind.free) ∈ scope.names) := by
  have h' : (x, k) ∈ scope.names.map fun (n, k) => if (k == .free && env.scope.kind == .function && env.kindOf n == some .cell) then (n, .cell) else (n, k) := h
  obtain ⟨⟨n, j⟩, hm, e⟩ := List.mem_map.mp h'
  simp only at e
  split at e
  · rename_i c
    cases e
    have : j = .free := by
      have c1 := (Bool.and_eq_true_iff.mp (Bool.and_eq_true_iff.mp c).1).1
      simpa using c1
    subst this
    exact .inr ⟨rfl, hm⟩
  · cases e; exact .inl hm
theorem lookup_relabel_free {env : Env} {x : Str} (hX : env.scope.kind = .function) (g3 : env.kindOf x = some .cell) : ∀ {names : List (Str × NameKind)}, names.lookup x = some .free →
    (names.map fun (n, k) => if (k == NameKind.free && env.scope.kind == .function && env.kindOf n == some .cell) then (n, NameKind.cell) else (n, k)).lookup x = some .cell
  | [], h => by cases h
  | (n, k) :: r, h => by
    have ih := lookup_relabel_free hX g3 (names := r)
    show List.lookup x ((if (k == NameKind.free && env.scope.kind == .function && env.kindOf n == some .cell) = true then (n, NameKind.cell) else (n, k)) :: _) = _
    rw [List.lookup_cons] at h
    cases e : x == n with
    | true =>
      rw [e] at h
      have e' : x = n := by simpa using e
      have ek : k = .free := by simpa using h
      rw [ek, ← e', if_pos (show (NameKind.free == NameKind.free && env.scope.kind == .function && env.kindOf x == some .cell) = true by rw [hX, g3]; decide), List.lookup_cons]
      simp
    | false =>
      rw [e] at h
      by_cases hc : (k == NameKind.free && env.scope.kind == .function && env.kindOf n == some .cell) = true
      · rw [if_pos hc, List.lookup_cons, e]; exact ih h
      · rw [if_neg hc, List.lookup_cons, e]; exact ih h
theorem CompOk.of {X : Cx} {scope : Scope} {N : List Str} {js : List (Option Nat)} (hkind : scope.kind = .function) (hcell : ∀ y ∈ scope.names, y.2 ≠ .cell) (hnames : ∀ y ∈ scope.names, y.2 = .local → scope.names.lookup y.1 = some .local)
    (hX : X.env.scope.kind = .function) (hfree : ∀ y ∈ scope.names, y.2 = .free → X.env.kindOf y.1 = some .cell ∧ ∃ c, X.env.cells.lookup y.1 = some c) (len : js.length = N.length)
    (hfr : ∀ (i j : Nat) (x : Str), js[i]? = some (some j) → N[i]? = some x → X.N[j]? = some x ∧ scope.names.lookup x = some .free) :
    CompOk X scope N (compCl X.env.cells scope.names []) js where
  clos := closure_cl fun y hy z => (hfree y hy z).2
  sub := fun x c h => (compCl_lookup scope.names [] (fun y hy z => (hfree y hy z).2) (fun c h => by cases h)).1 c h
  all := fun x h => by
    have hm : (x, NameKind.free) ∈ scope.names := by
      rcases h with h | h
      · rcases relabel_mem (lookup_mem h) with z | ⟨_, z⟩
        · exact absurd rfl (hcell _ z)
        · exact z
      · rcases relabel_mem (lookup_mem h) with z | ⟨e, _⟩
        · exact z
        · cases e
    have := (compCl_lookup (cells := X.env.cells) (x := x) scope.names [] (fun y hy z => (hfree y hy z).2) (fun c h => by cases h)).2 (.inl hm)
    exact Option.isSome_iff_exists.mp this
  cell := hcell
  kind := hkind
  names := hnames
  len := len
  fr := fun i j x h1 h2 => by
    obtain ⟨g1, g2⟩ := hfr i j x h1 h2
    obtain ⟨g3, _⟩ := hfree (x, .free) (lookup_mem g2) rfl
    refine ⟨g1, g3, .inl ?_⟩
    exact lookup_relabel_free hX g3 g2
noncomputable def frChk (sc : Scope) (N0 N : List Str) (js : List (Option Nat)) : Bool := (js.zip N).all fun p => match p.1 with
  | none => true
  | some j => N0[j]? == some p.2 && sc.names.lookup p.2 == some .free
theorem frChk_of {sc : Scope} {N0 : List Str} : ∀ {js : List (Option Nat)} {N : List Str}, frChk sc N0 N js = true → ∀ (i j : Nat) (x : Str), js[i]? = some (some j) → N[i]? = some x → N0[j]? = some x ∧ sc.names.lookup x = some .free := by
  intro js N h i j x h1 h2
  have hm : (some j, x) ∈ js.zip N := by
    refine List.mem_of_getElem? (i := i) ?_
    rw [List.getElem?_zip_eq_some]
    exact ⟨h1, h2⟩
  have := List.all_eq_true.mp h _ hm
  simpa using this
theorem CompOk.def {CX : CXT} {P : Program} {w : World} {K : PySem.W.Frag} {mg : Str → Option Value} {base : Heap} {N0 : List Str} {qual : Str} {sc0 : Scope} {f : Addr} {cd : Value} {A : Around} {outer : List Env} {s : Shared} {H : Hp} {E : XK} {scope : Scope}
    (N : List Str) (js : List (Option Nat)) (hk0 : sc0.kind = .function := by rfl) (hk : scope.kind = .function := by rfl) (hcell : ∀ y ∈ scope.names, y.2 ≠ .cell := by decide +kernel) (hnames : ∀ y ∈ scope.names, y.2 = .local → scope.names.lookup y.1 = some .local := by decide +kernel)
    (hfr0 : ∀ y ∈ scope.names, y.2 = .free → sc0.names.lookup y.1 = some .cell := by decide +kernel) (len : js.length = N.length := by rfl) (hfr : frChk scope N0 N js = true := by decide +kernel) :
    CompOk (cxOf CX P w K mg base N0 qual sc0 f cd A outer s H E).nox scope N (compCl (cxOf CX P w K mg base N0 qual sc0 f cd A outer s H E).nox.env.cells scope.names []) js :=
  CompOk.of hk hcell hnames hk0 (fun y hy z => ⟨hfr0 y hy z, Option.isSome_iff_exists.mp (PySem.W.cellsFrom_some _ _ _ (.inl (hfr0 y hy z)))⟩) len (frChk_of hfr)
inductive rEqNil_P (K : PySem.W.Frag) (x : V) (y : V) (H : Hp) (Q : VK) : Prop
  | mk (p b xs : _) (h1 : x = .ref p) (h2 : y = .ref b) (h3 : SqL K H p xs) (h4 : SqL K H b []) (h5 : Q (.bl xs.isEmpty) H) : rEqNil_P K x y H Q
noncomputable def rEqNil (K : PySem.W.Frag) : R2 := fun x y H Q => rEqNil_P K x y H Q
theorem op_eqNil {X : Cx} (hu : X.A.units + 64 < cLine) : OpR X (compareOp .Eq) (rEqNil X.K) := by
  intro pins s σ H x y v u Q I rx ry h
  obtain ⟨p, b, xs, rfl, rfl, hp, hb, q⟩ := h
  cases rx
  cases ry
  obtain ⟨its, rv, pl, _⟩ := I.list hp
  obtain ⟨its2, rv2, pl2, _⟩ := I.list hb
  cases rv2
  have hl := rv.length
  cases xs with
  | nil =>
    cases rv
    exact SeqAt.eq_listAt (e := fun _ => true) pl.isList pl2.isList rfl (by omega) (fun j h1 h2 => by simp at h1) ⟨.bl true, H, I, rfl, q⟩
  | cons a r => exact SeqAt.eq_list_lengthsAt pl.isList pl2.isList (by simp; intro z; rw [z] at hl; cases hl) (by omega) ⟨.bl false, H, I, rfl, q⟩
end L2
set_option Elab.async false
set_option linter.all false
set_option maxRecDepth 100000
namespace L2
open PySem PySem.Spec PyProof.Rows
section
variable {prog : Program} {w : World} {A : Around} {E : Value → Shared → Prop} {s : Shared}
theorem nxT_item {j u : Addr} {k : Nat} {xs : Array Value} {x : Value} {Q : Value → Shared → Prop} (a : s.heap.IsTupleIter j u k) (b : s.heap.IsTuple u xs) (e : xs[k]? = some x)
    (q : ∀ h', h'.IsTupleIter j u (k + 1) → Heap.SameBut j s.heap h' → Q x { s with heap := h' }) : wpAny (model prog w) A (Builtin.SmallTypes.nextOf (.ref j)) Q E s := by
  obtain ⟨oj, gj, cj, dj⟩ := id a
  obtain ⟨ou, gu, _, nu, du⟩ := b
  unfold Builtin.SmallTypes.nextOf
  refine wpAny_bind (wpAny_callSpecial?_slot (name := Str.ofString "__next__") a.typeIs F.slot_tuple_iterator_next (wpAny_call_entry F.slot_tuple_iterator_next a.typeIs F.entry_tuple_iterator_next ?_ (F.args_tuple_iterator_next_1 _)))
  show wpAny _ _ (field (.ref j) 0 >>= _) _ _ s
  refine wpAny_bind (wpAny_field gj dj (x := .ref u) rfl ?_)
  show wpAny _ _ (if (Value.ref u == Value.none) = true then _ else _) _ _ s
  rw [if_neg (show ¬ ((Value.ref u == Value.none) = true) from Bool.false_ne_true)]
  show wpAny _ _ (field (.ref j) 1 >>= _) _ _ s
  refine wpAny_bind (wpAny_field gj dj (x := .int k 0) rfl ?_)
  show wpAny _ _ (seqItems? (.ref u) >>= _) _ _ s
  refine wpAny_bind (wpAny_seqItems gu du ?_)
  simp only [Int.toNat_natCast, e]
  refine wpAny_bind (wpAny_setField gj dj (by simp) (wpAny_pure ⟨x, rfl, wpAny_pure (q _ ?_ (Heap.SameBut.update ..))⟩))
  refine ⟨_, Heap.get?_update_self _ gj (Obj.isFreed_of_fields (Obj.data_mapFields dj _)), (Obj.cls_mapFields ..).trans cj, ?_⟩
  rw [Obj.data_mapFields dj]; simp [rawInt]
theorem nxT_end {j u : Addr} {k : Nat} {xs : Array Value} {Q : Value → Shared → Prop} (hd : A.handled = none) (a : s.heap.IsTupleIter j u k) (b : s.heap.IsTuple u xs) (e : xs[k]? = none)
    (q : ∀ h' z, Heap.ExtBut j s.heap h' → (∃ o, h'.get? z = some o ∧ o.cls = .type "StopIteration") → E (.ref z) { s with heap := h' }) : wpAny (model prog w) A (Builtin.SmallTypes.nextOf (.ref j)) Q E s := by
  obtain ⟨oj, gj, cj, dj⟩ := id a
  obtain ⟨ou, gu, _, nu, du⟩ := b
  unfold Builtin.SmallTypes.nextOf
  refine wpAny_bind (wpAny_callSpecial?_slot (name := Str.ofString "__next__") a.typeIs F.slot_tuple_iterator_next (wpAny_call_entry F.slot_tuple_iterator_next a.typeIs F.entry_tuple_iterator_next ?_ (F.args_tuple_iterator_next_1 _)))
  show wpAny _ _ (field (.ref j) 0 >>= _) _ _ s
  refine wpAny_bind (wpAny_field gj dj (x := .ref u) rfl ?_)
  show wpAny _ _ (if (Value.ref u == Value.none) = true then _ else _) _ _ s
  rw [if_neg (show ¬ ((Value.ref u == Value.none) = true) from Bool.false_ne_true)]
  show wpAny _ _ (field (.ref j) 1 >>= _) _ _ s
  refine wpAny_bind (wpAny_field gj dj (x := .int k 0) rfl ?_)
  show wpAny _ _ (seqItems? (.ref u) >>= _) _ _ s
  refine wpAny_bind (wpAny_seqItems gu du ?_)
  simp only [Int.toNat_natCast, e]
  refine wpAny_bind (wpAny_rule (wpAny_bind (wpAny_setField gj dj (by simp) ?_)))
  show wpAny _ _ (newExc (.type "StopIteration") [] >>= _) _ _ { s with heap := _ }
  refine wpAny_bind ?_
  simp only [newExc, newTuple]
  refine wpAny_bind (wpAny_newObj_type ?_ (by size_fits))
  refine wpAny_bind (m := firstArgMember _ _) (wpAny_of_eq (a := Value.none) (by first | rfl | (simp only [firstArgMember]; rfl)) (wpAny_newObj_type ?_ (by size_fits)))
  simp only [raiseNew]
  refine wpAny_bind (wpAny_handled ?_)
  first | rw [show A.in1.handled = none from hd] | rw [hd]
  exact wpAny_bind (wpAny_pure (wpAny_throw (q _ _ (((Heap.SameBut.update ..).extBut.push _).push _) ⟨_, Heap.get?_push_size _ rfl, rfl⟩)))
noncomputable def itK : Bool → Heap → Addr → Addr → Nat → Prop
  | false, h, j, u, k => h.IsListIter j u k
  | true, h, j, u, k => h.IsTupleIter j u k
noncomputable def sqK : Bool → Heap → Addr → Array Value → Prop
  | false, h, u, xs => h.IsList u xs
  | true, h, u, xs => h.IsTuple u xs
theorem itK.at {t : Bool} {h h' : Heap} {j u : Addr} {k : Nat} (x : itK t h j u k) (e : ∀ o, h.get? j = some o → h'.get? j = some o) : itK t h' j u k := by
  cases t with
  | false => exact Heap.IsListIter.at x e
  | true => obtain ⟨o, g, r⟩ := x; exact ⟨o, e o g, r⟩
theorem itK.get {t : Bool} {h : Heap} {j u : Addr} {k : Nat} (x : itK t h j u k) : ∃ o, h.get? j = some o ∧ o.data = .fields #[.ref u, .int k 0] := by
  cases t with
  | false => obtain ⟨o, g, _, d⟩ := x; exact ⟨o, g, d⟩
  | true => obtain ⟨o, g, _, d⟩ := x; exact ⟨o, g, d⟩
theorem sqK.at {t : Bool} {h h' : Heap} {u : Addr} {xs : Array Value} (x : sqK t h u xs) (e : ∀ o, h.get? u = some o → h'.get? u = some o) : sqK t h' u xs := by
  cases t with
  | false => exact Heap.IsList.at x e
  | true => obtain ⟨o, g, r⟩ := x; exact ⟨o, e o g, r⟩
theorem sqK.lt {t : Bool} {h : Heap} {u : Addr} {xs : Array Value} (x : sqK t h u xs) : u < h.objs.size := by
  cases t with
  | false => obtain ⟨o, g, _⟩ := x; exact Heap.lt_size g
  | true => obtain ⟨o, g, _⟩ := x; exact Heap.lt_size g
theorem nxK_item {t : Bool} {j u : Addr} {k : Nat} {xs : Array Value} {x : Value} {Q : Value → Shared → Prop} (a : itK t s.heap j u k) (b : sqK t s.heap u xs) (e : xs[k]? = some x)
    (q : ∀ h', itK t h' j u (k + 1) → Heap.SameBut j s.heap h' → Q x { s with heap := h' }) : wpAny (model prog w) A (Builtin.SmallTypes.nextOf (.ref j)) Q E s := by
  cases t with
  | false => exact wpAny_nextOf_list_item a b e q
  | true => exact nxT_item a b e q
theorem nxK_end {t : Bool} {j u : Addr} {k : Nat} {xs : Array Value} {Q : Value → Shared → Prop} (hd : A.handled = none) (a : itK t s.heap j u k) (b : sqK t s.heap u xs) (e : xs[k]? = none)
    (q : ∀ h' z, Heap.ExtBut j s.heap h' → (∃ o, h'.get? z = some o ∧ o.cls = .type "StopIteration") → E (.ref z) { s with heap := h' }) : wpAny (model prog w) A (Builtin.SmallTypes.nextOf (.ref j)) Q E s := by
  cases t with
  | false => exact wpAny_nextOf_list_end hd a b e q
  | true => exact nxT_end hd a b e q
theorem zK_item {t : Bool} {z TI TO i1 i2 l1 l2 : Addr} {k : Nat} {xs ys : Array Value} {x y a b : Value} {Q : Value → Shared → Prop} (D : ZipApart z TI TO i1 i2 l1 l2)
    (gz : IsZip s.heap z TI TO .none) (gI : IsPair s.heap TI (.ref i1) (.ref i2)) (gO : IsPair s.heap TO a b) (j1 : itK t s.heap i1 l1 k) (j2 : itK t s.heap i2 l2 k) (m1 : sqK t s.heap l1 xs) (m2 : sqK t s.heap l2 ys) (ex : xs[k]? = some x) (ey : ys[k]? = some y)
    (q : ∀ h', IsZip h' z TI TO (rawInt s.heap.objs.size) → IsPair h' TO x y → itK t h' i1 l1 (k + 1) → itK t h' i2 l2 (k + 1) → IsPair h' s.heap.objs.size x y →
      (∀ c o, c ≠ z → c ≠ TO → c ≠ i1 → c ≠ i2 → s.heap.get? c = some o → h'.get? c = some o) → Q (.ref s.heap.objs.size) { s with heap := h' }) :
    wpAny (model prog w) A (Builtin.«zip.__next__» ⟨[.ref z], []⟩) (fun fin s' => ∃ v, fin = .done (.ret v) ∧ Q v s') E s := by
  show wpAny _ _ (field (.ref z) 2 >>= _) _ _ s
  refine wpAny_bind (wpAny_field gz rfl (x := .bool false) rfl ?_)
  show wpAny _ _ (field (.ref z) 3 >>= _) _ _ s
  refine wpAny_bind (wpAny_field gz rfl (x := .ref TI) rfl (wpAny_bind (wpAny_seqItems gI rfl ?_)))
  show wpAny _ _ (Builtin.SmallTypes.ownedTupleIsFree (.ref z) >>= _) _ _ s
  refine wpAny_bind ?_
  unfold Builtin.SmallTypes.ownedTupleIsFree
  refine wpAny_bind (wpAny_field gz rfl (x := .none) rfl (wpAny_pure ?_))
  simp only [if_true]
  refine wpAny_bind (wpAny_rule (wpAny_bind (wpAny_field gz rfl (x := .ref TO) rfl (wpAny_bind (wpAny_setField_rec gz (by simp) fun g1 z1 n1 => ?_)))))
  replace z1 : IsZip g1 z TI TO .ellipsis := z1
  refine wpAny_bind ?_
  simp only [List.zipIdx_cons, List.zipIdx_nil, List.forIn_cons, List.forIn_nil]
  refine wpAny_bind (wpAny_bind (wpAny_onRaise ?_))
  show wpAny _ _ (Builtin.SmallTypes.nextOf (.ref i1) >>= _) _ _ { s with heap := g1 }
  refine wpAny_bind (nxK_item (t := t) (s := { s with heap := g1 }) (j1.at fun o e => n1.extBut _ o D.i1z e) (m1.at fun o e => n1.extBut _ o D.l1z e) ex fun g2 j12 n2 => wpAny_pure ?_)
  have O2 : IsPair g2 TO a b := n2.extBut _ _ D.TOi1 (n1.extBut _ _ D.TOz gO)
  refine wpAny_bind (wpAny_seqItems O2 rfl (wpAny_bind (wpAny_updateSeq_pair O2 fun g3 O3 n3 => ?_)))
  replace O3 : IsPair g3 TO x b := O3
  refine wpAny_bind (wpAny_letGo (wpAny_pure (wpAny_bind (wpAny_bind (wpAny_onRaise ?_)))))
  show wpAny _ _ (Builtin.SmallTypes.nextOf (.ref i2) >>= _) _ _ { s with heap := g3 }
  have k3 : ∀ c o, c ≠ z → c ≠ i1 → c ≠ TO → s.heap.get? c = some o → g3.get? c = some o := fun c o c1 c2 c3 e => n3.extBut _ _ c3 (n2.extBut _ _ c2 (n1.extBut _ _ c1 e))
  refine wpAny_bind (nxK_item (t := t) (s := { s with heap := g3 }) (j2.at fun o e => k3 _ o D.i2z D.i12.symm D.TOi2.symm e) (m2.at fun o e => k3 _ o D.l2z D.l2i1 D.l2TO e) ey fun g4 j24 n4 => wpAny_pure ?_)
  have O4 : IsPair g4 TO x b := n4.extBut _ _ D.TOi2 O3
  refine wpAny_bind (wpAny_seqItems O4 rfl (wpAny_bind (wpAny_updateSeq_pair O4 fun g5 O5 n5 => ?_)))
  replace O5 : IsPair g5 TO x y := O5
  refine wpAny_bind (wpAny_letGo (wpAny_pure (wpAny_pure (wpAny_bind (wpAny_seqItems O5 rfl (wpAny_bind (wpAny_newTuple ?_)))))))
  have sz : g5.objs.size = s.heap.objs.size := by rw [n5.1, n4.1, n3.1, n2.1, n1.1]
  have z5 : IsZip g5 z TI TO .ellipsis := n5.extBut _ _ D.TOz.symm (n4.extBut _ _ D.i2z.symm (n3.extBut _ _ D.TOz.symm (n2.extBut _ _ D.i1z.symm z1)))
  have k5 : ∀ c o, c ≠ z → c ≠ TO → c ≠ i1 → c ≠ i2 → s.heap.get? c = some o → g5.get? c = some o := fun c o c1 c2 c3 c4 e => n5.extBut _ _ c2 (n4.extBut _ _ c4 (k3 c o c1 c3 c2 e))
  have p1 : itK t g5 i1 l1 (k + 1) := ((j12.at fun o e => n3.extBut _ o D.TOi1.symm e).at fun o e => n4.extBut _ o D.i12 e).at fun o e => n5.extBut _ o D.TOi1.symm e
  have p2 : itK t g5 i2 l2 (k + 1) := j24.at fun o e => n5.extBut _ o D.TOi2.symm e
  have lz : z < g5.objs.size := Heap.lt_size z5
  show wpAny _ _ (Builtin.SmallTypes.ownedTupleHandOut (.ref z) (.ref g5.objs.size) >>= _) _ _ { s with heap := _ }
  refine wpAny_bind ?_
  unfold Builtin.SmallTypes.ownedTupleHandOut
  have z6 : IsZip (g5.push { cls := .type "tuple", data := .seq #[x, y] }) z TI TO .ellipsis := Heap.get?_push_of_some _ z5
  refine wpAny_bind (wpAny_setField_rec z6 (by simp) fun g7 z7 n7 => ?_)
  replace z7 : IsZip g7 z TI TO (rawInt g5.objs.size) := z7
  refine wpAny_setField_rec z7 (by simp) fun g8 z8 n8 => ?_
  replace z8 : IsZip g8 z TI TO (rawInt g5.objs.size) := z8
  have up : ∀ c o, c ≠ z → g5.get? c = some o → g8.get? c = some o := fun c o c1 e => n8.extBut _ _ c1 (n7.extBut _ _ c1 (Heap.get?_push_of_some _ e))
  have T8 : IsPair g8 g5.objs.size x y := n8.extBut _ _ (Nat.ne_of_gt lz) (n7.extBut _ _ (Nat.ne_of_gt lz) (Heap.get?_push_size _ rfl))
  rw [sz] at z8 T8
  refine wpAny_pure ⟨_, rfl, ?_⟩
  show Q (.ref g5.objs.size) { s with heap := g8 }
  rw [sz]
  exact q g8 z8 (up _ _ D.TOz O5) (p1.at fun o e => up _ o D.i1z e) (p2.at fun o e => up _ o D.i2z e) T8 fun c o c1 c2 c3 c4 e => up c o c1 (k5 c o c1 c2 c3 c4 e)
theorem zK_end {t : Bool} {z TI TO i1 i2 l1 l2 : Addr} {k : Nat} {xs ys : Array Value} {a b : Value} {Q : Fin → Shared → Prop} (hd : A.handled = none) (D : ZipApart z TI TO i1 i2 l1 l2)
    (gz : IsZip s.heap z TI TO .none) (gI : IsPair s.heap TI (.ref i1) (.ref i2)) (gO : IsPair s.heap TO a b) (j1 : itK t s.heap i1 l1 k) (j2 : itK t s.heap i2 l2 k) (m1 : sqK t s.heap l1 xs) (m2 : sqK t s.heap l2 ys) (en : xs[k]? = none ∨ ys[k]? = none)
    (q : ∀ h' v, (∀ c o, c ≠ z → c ≠ TO → c ≠ i1 → c ≠ i2 → s.heap.get? c = some o → h'.get? c = some o) → (∃ o, h'.get? v = some o ∧ o.cls = .type "StopIteration") → E (.ref v) { s with heap := h' }) :
    wpAny (model prog w) A (Builtin.«zip.__next__» ⟨[.ref z], []⟩) Q E s := by
  show wpAny _ _ (field (.ref z) 2 >>= _) _ _ s
  refine wpAny_bind (wpAny_field gz rfl (x := .bool false) rfl ?_)
  show wpAny _ _ (field (.ref z) 3 >>= _) _ _ s
  refine wpAny_bind (wpAny_field gz rfl (x := .ref TI) rfl (wpAny_bind (wpAny_seqItems gI rfl ?_)))
  show wpAny _ _ (Builtin.SmallTypes.ownedTupleIsFree (.ref z) >>= _) _ _ s
  refine wpAny_bind ?_
  unfold Builtin.SmallTypes.ownedTupleIsFree
  refine wpAny_bind (wpAny_field gz rfl (x := .none) rfl (wpAny_pure ?_))
  simp only [if_true]
  refine wpAny_bind (wpAny_rule (wpAny_bind (wpAny_field gz rfl (x := .ref TO) rfl (wpAny_bind (wpAny_setField_rec gz (by simp) fun g1 z1 n1 => ?_)))))
  replace z1 : IsZip g1 z TI TO .ellipsis := z1
  refine wpAny_bind ?_
  simp only [List.zipIdx_cons, List.zipIdx_nil, List.forIn_cons, List.forIn_nil]
  refine wpAny_bind (wpAny_bind (wpAny_onRaise ?_))
  show wpAny _ _ (Builtin.SmallTypes.nextOf (.ref i1) >>= _) _ _ { s with heap := g1 }
  have a1 : itK t g1 i1 l1 k := j1.at fun o e => n1.extBut _ o D.i1z e
  have b1 : sqK t g1 l1 xs := m1.at fun o e => n1.extBut _ o D.l1z e
  cases ex : xs[k]? with
  | none =>
    refine wpAny_bind (nxK_end (t := t) (s := { s with heap := g1 }) hd a1 b1 ex fun g2 v n2 sv => ?_)
    obtain ⟨ov, gv, cv⟩ := sv
    have z2 : IsZip g2 z TI TO .ellipsis := n2 _ _ D.i1z.symm z1
    have vz : v ≠ z := fun e => by subst e; rw [z2] at gv; cases gv; simp at cv
    exact wpAny_setField_rec z2 (by simp) fun g3 _ n3 => q g3 v (fun c o c1 _ c3 _ e => n3.extBut _ _ c1 (n2 _ _ c3 (n1.extBut _ _ c1 e))) ⟨ov, n3.extBut _ _ vz gv, cv⟩
  | some x =>
    have ey : ys[k]? = none := en.resolve_left fun e => by rw [ex] at e; cases e
    refine wpAny_bind (nxK_item (t := t) (s := { s with heap := g1 }) a1 b1 ex fun g2 j12 n2 => wpAny_pure ?_)
    have O2 : IsPair g2 TO a b := n2.extBut _ _ D.TOi1 (n1.extBut _ _ D.TOz gO)
    refine wpAny_bind (wpAny_seqItems O2 rfl (wpAny_bind (wpAny_updateSeq_pair O2 fun g3 O3 n3 => ?_)))
    refine wpAny_bind (wpAny_letGo (wpAny_pure (wpAny_bind (wpAny_bind (wpAny_onRaise ?_)))))
    show wpAny _ _ (Builtin.SmallTypes.nextOf (.ref i2) >>= _) _ _ { s with heap := g3 }
    have k3 : ∀ c o, c ≠ z → c ≠ i1 → c ≠ TO → s.heap.get? c = some o → g3.get? c = some o := fun c o c1 c2 c3 e => n3.extBut _ _ c3 (n2.extBut _ _ c2 (n1.extBut _ _ c1 e))
    refine wpAny_bind (nxK_end (t := t) (s := { s with heap := g3 }) hd (j2.at fun o e => k3 _ o D.i2z D.i12.symm D.TOi2.symm e) (m2.at fun o e => k3 _ o D.l2z D.l2i1 D.l2TO e) ey fun g4 v n4 sv => ?_)
    obtain ⟨ov, gv, cv⟩ := sv
    have z4 : IsZip g4 z TI TO .ellipsis := n4 _ _ D.i2z.symm (n3.extBut _ _ D.TOz.symm (n2.extBut _ _ D.i1z.symm z1))
    have vz : v ≠ z := fun e => by subst e; rw [z4] at gv; cases gv; simp at cv
    exact wpAny_setField_rec z4 (by simp) fun g5 _ n5 => q g5 v (fun c o c1 c2 c3 c4 e => n5.extBut _ _ c1 (n4 _ _ c4 (k3 c o c1 c3 c2 e))) ⟨ov, n5.extBut _ _ vz gv, cv⟩
theorem pnK_item {t : Bool} {z TI TO i1 i2 l1 l2 : Addr} {k : Nat} {xs ys : Array Value} {x y a b : Value} {Q : Option Value → Shared → Prop} (D : ZipApart z TI TO i1 i2 l1 l2)
    (gz : IsZip s.heap z TI TO .none) (gI : IsPair s.heap TI (.ref i1) (.ref i2)) (gO : IsPair s.heap TO a b) (j1 : itK t s.heap i1 l1 k) (j2 : itK t s.heap i2 l2 k) (m1 : sqK t s.heap l1 xs) (m2 : sqK t s.heap l2 ys) (ex : xs[k]? = some x) (ey : ys[k]? = some y)
    (q : ∀ h', IsZip h' z TI TO (rawInt s.heap.objs.size) → IsPair h' TO x y → itK t h' i1 l1 (k + 1) → itK t h' i2 l2 (k + 1) → IsPair h' s.heap.objs.size x y →
      (∀ c o, c ≠ z → c ≠ TO → c ≠ i1 → c ≠ i2 → s.heap.get? c = some o → h'.get? c = some o) → Q (some (.ref s.heap.objs.size)) { s with heap := h' }) :
    wpAny (model prog w) A (pyNext (.ref z)) Q E s := by
  have T : s.TypeIs (.ref z) "zip" := ⟨_, gz, rfl⟩
  unfold pyNext
  exact wpAny_bind (wpAny_attempt (wpAny_callSpecial?_slot (name := Str.ofString "__next__") T F.slot_zip_next (wpAny_call_entry F.slot_zip_next T F.entry_zip_next
    (zK_item D gz gI gO j1 j2 m1 m2 ex ey fun h' c1 c2 c3 c4 c5 c6 => wpAny_pure (q h' c1 c2 c3 c4 c5 c6)) (F.args_zip_next_1 _))))
theorem pnK_end {t : Bool} {z TI TO i1 i2 l1 l2 : Addr} {k : Nat} {xs ys : Array Value} {a b : Value} {Q : Option Value → Shared → Prop} (hd : A.handled = none) (D : ZipApart z TI TO i1 i2 l1 l2)
    (gz : IsZip s.heap z TI TO .none) (gI : IsPair s.heap TI (.ref i1) (.ref i2)) (gO : IsPair s.heap TO a b) (j1 : itK t s.heap i1 l1 k) (j2 : itK t s.heap i2 l2 k) (m1 : sqK t s.heap l1 xs) (m2 : sqK t s.heap l2 ys) (en : xs[k]? = none ∨ ys[k]? = none)
    (q : ∀ h', (∀ c o, c ≠ z → c ≠ TO → c ≠ i1 → c ≠ i2 → s.heap.get? c = some o → h'.get? c = some o) → Q none { s with heap := h' }) : wpAny (model prog w) A (pyNext (.ref z)) Q E s := by
  have T : s.TypeIs (.ref z) "zip" := ⟨_, gz, rfl⟩
  unfold pyNext
  refine wpAny_bind (wpAny_attempt (wpAny_callSpecial?_slot (name := Str.ofString "__next__") T F.slot_zip_next (wpAny_call_entry F.slot_zip_next T F.entry_zip_next
    (zK_end hd D gz gI gO j1 j2 m1 m2 en fun h' v hk sv => ?_) (F.args_zip_next_1 _))))
  obtain ⟨o, go, co⟩ := sv
  exact wpAny_bind (wpAny_isInstance (T := "StopIteration") (b := true) ⟨o, go, co⟩ isSubtype_stop (wpAny_pure (q _ hk)))
end
noncomputable def itN : Bool → String
  | false => "list_iterator"
  | true => "tuple_iterator"
noncomputable abbrev zk1 (t : Bool) (h : Heap) (u : Addr) : Heap := h.push { cls := .type (itN t), data := .fields #[.ref u, .int 0 0] }
noncomputable abbrev zk3 (t : Bool) (h : Heap) (u v : Addr) : Heap := (zk1 t (zk1 t h u) v).push { cls := .type "tuple", data := .seq #[.ref h.objs.size, .ref (zk1 t h u).objs.size] }
noncomputable abbrev zk4 (t : Bool) (h : Heap) (u v : Addr) : Heap := (zk3 t h u v).push { cls := .type "tuple", data := .seq #[.none, .none] }
noncomputable abbrev zk5 (t : Bool) (h : Heap) (u v : Addr) : Heap := (zk4 t h u v).push { cls := .type "zip", data := .fields #[.none, .bool false, .bool false, .ref (zk1 t (zk1 t h u) v).objs.size, .ref (zk3 t h u v).objs.size] }
theorem zk_new (t : Bool) (u v : Addr) (xs ys : Array Value) : Meets (Builtin.«zip.__new__» ⟨[.type "zip", .ref u, .ref v], []⟩) (fun _ R s => sqK t s.heap u xs ∧ sqK t s.heap v ys ∧
      R (.ok (.ret (.ref (zk4 t s.heap u v).objs.size))) { s with heap := zk5 t s.heap u v }) :=
  .of_wp fun prog w A R s h => by
    obtain ⟨hp, g, d, tk, os⟩ := s; obtain ⟨m1, m2, h⟩ := h
    have hsub := sub_zip
    cases t with
    | false =>
      have L1 : Heap.IsList (Shared.heap ⟨hp, g, d, tk, os⟩) u xs := m1
      have L2 : Heap.IsList (Shared.heap ⟨hp.push { cls := .type "list_iterator", data := .fields #[.ref u, .int 0 0] }, g, d, tk, os⟩) v ys := Heap.IsList.push m2 _
      wp_walk using wpAny_pyIter_list L1, wpAny_pyIter_list L2
      exact ⟨_, rfl, h⟩
    | true =>
      have L1 : Heap.IsTuple (Shared.heap ⟨hp, g, d, tk, os⟩) u xs := m1
      have L2 : Heap.IsTuple (Shared.heap ⟨hp.push { cls := .type "tuple_iterator", data := .fields #[.ref u, .int 0 0] }, g, d, tk, os⟩) v ys := Heap.IsTuple.push m2 _
      wp_walk using wpAny_pyIter_tuple L1, wpAny_pyIter_tuple L2
      exact ⟨_, rfl, h⟩
section
variable {prog : Program} {w : World} {A : Around} {E : Value → Shared → Prop} {s : Shared}
theorem itK.new {t : Bool} {h : Heap} {j u : Addr} (g : h.get? j = some { cls := .type (itN t), data := .fields #[.ref u, .int 0 0] }) : itK t h j u 0 := by
  cases t with
  | false => exact ⟨_, g, rfl, rfl⟩
  | true => exact ⟨_, g, rfl, rfl⟩
theorem call_zipK {t : Bool} {u v : Addr} {xs ys : Array Value} {Q : Value → Shared → Prop} (m1 : sqK t s.heap u xs) (m2 : sqK t s.heap v ys)
    (q : ∀ h', IsZip h' (s.heap.objs.size + 4) (s.heap.objs.size + 2) (s.heap.objs.size + 3) .none → IsPair h' (s.heap.objs.size + 2) (.ref s.heap.objs.size) (.ref (s.heap.objs.size + 1)) →
      IsPair h' (s.heap.objs.size + 3) .none .none → itK t h' s.heap.objs.size u 0 → itK t h' (s.heap.objs.size + 1) v 0 → (∀ c o, s.heap.get? c = some o → h'.get? c = some o) → Q (.ref (s.heap.objs.size + 4)) { s with heap := h' }) :
    wpAny (model prog w) A (call (.type "zip") [.ref u, .ref v]) Q E s := by
  refine callType_new F.called_zip (by decide) (F.typeCall_zip_2 _ _) (F.newCall_zip_2 _ _) (fun obj => F.args_object_init_3 obj _ _) F.entry_zip_new (zk_new t u v xs ys) ⟨m1, m2, ?_⟩
  have y1 : (zk1 t s.heap u).objs.size = s.heap.objs.size + 1 := Heap.size_push ..
  have y2 : (zk1 t (zk1 t s.heap u) v).objs.size = s.heap.objs.size + 2 := by rw [Heap.size_push, y1]
  have y3 : (zk3 t s.heap u v).objs.size = s.heap.objs.size + 3 := by rw [Heap.size_push, y2]
  have y4 : (zk4 t s.heap u v).objs.size = s.heap.objs.size + 4 := by rw [Heap.size_push, y3]
  have f5 : (zk5 t s.heap u v).get? (zk4 t s.heap u v).objs.size = some _ := Heap.get?_push_size _ rfl
  have f4 : (zk5 t s.heap u v).get? (zk3 t s.heap u v).objs.size = some _ := Heap.get?_push_of_some _ (Heap.get?_push_size _ rfl)
  have f3 : (zk5 t s.heap u v).get? (zk1 t (zk1 t s.heap u) v).objs.size = some _ := Heap.get?_push_of_some _ (Heap.get?_push_of_some _ (Heap.get?_push_size _ rfl))
  have f2 : (zk5 t s.heap u v).get? (zk1 t s.heap u).objs.size = some _ := Heap.get?_push_of_some _ (Heap.get?_push_of_some _ (Heap.get?_push_of_some _ (Heap.get?_push_size _ rfl)))
  have f1 : (zk5 t s.heap u v).get? s.heap.objs.size = some _ := Heap.get?_push_of_some _ (Heap.get?_push_of_some _ (Heap.get?_push_of_some _ (Heap.get?_push_of_some _ (Heap.get?_push_size _ rfl))))
  show _ ∧ _
  rw [y2, y3, y4] at f5
  rw [y1, y2] at f3
  rw [y3] at f4
  rw [y1] at f2
  rw [y4]
  exact ⟨⟨_, f5, rfl⟩, q _ f5 f3 f4 (.new f1) (.new f2) fun c o e => Heap.get?_push_of_some _ (Heap.get?_push_of_some _ (Heap.get?_push_of_some _ (Heap.get?_push_of_some _ (Heap.get?_push_of_some _ e))))⟩
end
end L2
set_option Elab.async false
set_option linter.all false
set_option maxRecDepth 100000
namespace L2
open PySem PySem.Spec PyProof.Rows
noncomputable def SqK (K : PySem.W.Frag) : Bool → Hp → Addr → List V → Prop
  | false => SqL K
  | true => SqT K
noncomputable def Itz (K : PySem.W.Frag) (t : Bool) (a b : Addr) : It :=
  ⟨fun i H => ∃ xs ys x y, SqK K t H a xs ∧ SqK K t H b ys ∧ xs[i]? = some x ∧ ys[i]? = some y,
   fun i H v H' => ∃ p x y, H p = none ∧ v = .ref p ∧ (∀ xs ys, SqK K t H a xs → SqK K t H b ys → xs[i]? = some x ∧ ys[i]? = some y) ∧ H' = upd H p (.tup [x, y]),
   fun i H => ∃ xs ys, SqK K t H a xs ∧ SqK K t H b ys ∧ (xs.length ≤ i ∨ ys.length ≤ i)⟩
section
variable {X : Cx} {pins : List (Addr × Obj)} {σ : St} {H : Hp} {s : Shared}
theorem Inv.seqK {t : Bool} {a : Addr} {xs : List V} (I : Inv X pins σ H s) (h : SqK X.K t H a xs) : ∃ its : List Value, Vals xs its ∧ sqK t s.heap a its.toArray ∧ xs.length ≤ sizeLine := by
  cases t with
  | false =>
    obtain ⟨its, rv, p, z⟩ := I.list h
    exact ⟨its, rv, p.isList, z⟩
  | true => exact I.tuple h
theorem Inv.seqK_inj {t : Bool} {a : Addr} {xs ys : List V} (I : Inv X pins σ H s) (h : SqK X.K t H a xs) (h' : SqK X.K t H a ys) : xs = ys := by
  cases t with
  | false => exact I.list_inj h h'
  | true => exact I.tuple_inj h h'
end
structure ZSt (t : Bool) (z TI TO i1 i2 a b : Addr) (i : Nat) (h : Heap) : Prop where
  gz : IsZip h z TI TO .none
  gI : IsPair h TI (.ref i1) (.ref i2)
  gO : ∃ u v, IsPair h TO u v
  j1 : itK t h i1 a i
  j2 : itK t h i2 b i
theorem turn_zip {P : Program} {w : World} {K : PySem.W.Frag} {elts : List Expr} {k : Nat} {pos : Pos} {t : Bool} (z TI TO i1 i2 a b : Addr) (D : ZipApart z TI TO i1 i2 a b) :
    Turn P w K (.Tuple elts k pos) (Itz K t a b) [z, TI, TO, i1, i2] z (ZSt t z TI TO i1 i2 a b) where
  mem := by simp
  obj := fun i h st c hc => by
    obtain ⟨gz, gI, ⟨u, v, gO⟩, j1, j2⟩ := st
    simp only [List.mem_cons, List.not_mem_nil, or_false] at hc
    rcases hc with rfl | rfl | rfl | rfl | rfl
    · exact ⟨_, gz, fun v e => by cases e⟩
    · exact ⟨_, gI, fun v e => by cases e⟩
    · exact ⟨_, gO, fun v e => by cases e⟩
    · obtain ⟨o, g, d⟩ := j1.get; exact ⟨o, g, fun v e => by rw [d] at e; cases e⟩
    · obtain ⟨o, g, d⟩ := j2.get; exact ⟨o, g, fun v e => by rw [d] at e; cases e⟩
  keep := fun i h h' st kk => by
    obtain ⟨gz, gI, ⟨u, v, gO⟩, j1, j2⟩ := st
    exact ⟨kk z (by simp) _ gz, kk TI (by simp) _ gI, ⟨u, v, kk TO (by simp) _ gO⟩, j1.at fun o e => kk i1 (by simp) o e, j2.at fun o e => kk i2 (by simp) o e⟩
  item := by
    intro X hP hw hK hc i pins s σ H E I hf st hg
    subst hP hw hK
    obtain ⟨xs, ys, x, y, hq, hq2, hx, hy⟩ := hg
    obtain ⟨its, rv, p, hz⟩ := I.seqK hq
    obtain ⟨its2, rv2, p2, hz2⟩ := I.seqK hq2
    obtain ⟨u, hu, ru⟩ := rv.get hx
    obtain ⟨u2, hu2, ru2⟩ := rv2.get hy
    obtain ⟨gz, gI, ⟨_, _, gO⟩, j1, j2⟩ := st
    refine pnK_item (t := t) D gz gI gO j1 j2 p p2 (x := u) (y := u2) (by simpa using hu) (by simpa using hu2) fun h1 w1 w2 w3 w4 w5 hk => ?_
    refine ⟨_, rfl, wpAny_letOwnedTupleGo_zip (s := { s with heap := h1 }) w1 fun h2 gz2 hs2 => ?_⟩
    have lz : z < s.heap.objs.size := Heap.lt_size gz
    have lI : TI < s.heap.objs.size := Heap.lt_size gI
    have lO : TO < s.heap.objs.size := Heap.lt_size gO
    have l1 : i1 < s.heap.objs.size := by obtain ⟨o, g, _⟩ := j1.get; exact Heap.lt_size g
    have l2 : i2 < s.heap.objs.size := by obtain ⟨o, g, _⟩ := j2.get; exact Heap.lt_size g
    have T2 : h2.get? s.heap.objs.size = some { cls := .type "tuple", data := .seq #[u, u2] } := (hs2.2 _ (Nat.ne_of_gt lz)).trans w5
    have I1 : Inv X pins σ (upd H s.heap.objs.size (.tup [x, y])) { s with heap := h2, toks := s.toks } := by
      refine I.turnLaid (ch := [z, TI, TO, i1, i2]) (fun c o hc q => ?_) hf (Nat.le_refl _) ⟨by show 2 ≤ sizeLine; decide, [u, u2], .cons ru (.cons ru2 .nil), ⟨_, T2, rfl, _, rfl⟩⟩
      have c1 : c ≠ z := fun e => hc (by simp [e])
      exact (hs2.2 c c1).trans (hk c o c1 (fun e => hc (by simp [e])) (fun e => hc (by simp [e])) (fun e => hc (by simp [e])) q)
    refine ⟨.ref s.heap.objs.size, _, I1, rfl, ⟨_, x, y, I.hok.fresh (Nat.le_refl _), rfl, fun ys1 ys2 q1 q2 => by rw [I.seqK_inj q1 hq, I.seqK_inj q2 hq2]; exact ⟨hx, hy⟩, rfl⟩, ?_, fun c hc => ?_⟩
    · exact ⟨gz2, (hs2.2 _ D.TIz).trans (hk _ _ D.TIz D.TITO D.TIi1 D.TIi2 gI), ⟨_, _, (hs2.2 _ D.TOz).trans w2⟩, w3.at fun o e => (hs2.2 _ D.i1z).trans e, w4.at fun o e => (hs2.2 _ D.i2z).trans e⟩
    · have hcl : c < s.heap.objs.size := by
        simp only [List.mem_cons, List.not_mem_nil, or_false] at hc
        rcases hc with rfl | rfl | rfl | rfl | rfl <;> assumption
      rw [upd_ne (Nat.ne_of_lt hcl)]
      exact (hf c hc).1
  done := by
    intro X hP hw hK hc i pins s σ H E I hf st hg
    subst hP hw hK
    obtain ⟨xs, ys, hq, hq2, hx⟩ := hg
    obtain ⟨its, rv, p, hz⟩ := I.seqK hq
    obtain ⟨its2, rv2, p2, hz2⟩ := I.seqK hq2
    obtain ⟨gz, gI, ⟨_, _, gO⟩, j1, j2⟩ := st
    have e1 := rv.length
    have e2 := rv2.length
    refine pnK_end (t := t) (I.ok.hd hc) D gz gI gO j1 j2 p p2 (by simp; omega) fun h' hk => ⟨rfl, I.turnL (t' := s.toks) (ch := [z, TI, TO, i1, i2]) (fun c o hc q => hk c o (fun e => hc (by simp [e])) (fun e => hc (by simp [e])) (fun e => hc (by simp [e])) (fun e => hc (by simp [e])) q) hf⟩
  self := fun _ _ _ _ _ st h => wpAny_pyIter_zip st.gz h
theorem boot_zip' : bootBuiltins "zip" = some (.type "zip") := by decide +kernel
inductive iZip_P (K : PySem.W.Frag) (R : (It → Hp → Prop)) (vs : List V) (H1 : Hp) : Prop
  | mk (t a b : _) (h1 : vs = [.ref a, .ref b]) (h2 : (∃ xs, SqK K t H1 a xs)) (h3 : (∃ ys, SqK K t H1 b ys)) (h4 : R (Itz K t a b) H1) : iZip_P K R vs H1
noncomputable def iZip (K : PySem.W.Frag) (ta : TA) : TI := fun σ H R => ta σ H fun vs H1 => iZip_P K R vs H1
section
variable {X : Cx}
theorem pi_zip {e1 e2 : Expr} {ta : TA} {p pos tp : Pos} {elts : List Expr} {kk : Nat} (hg : Gl X "zip") (hm : X.mg "zip" = none) (ha : PA X [e1, e2] ta) (hs : starEach [e1, e2] X.env = (false, eval e1 X.env) :: starEach [e2] X.env := by rfl)
    (hpl : (backTo pos (starEach [e2] X.env)).any (·.1) = false := by rfl) : PI X (.Tuple elts kk tp) (.Call (.Name "zip" p) [e1, e2] [] pos) (iZip X.K ta) := by
  intro pins s σ H R I h
  refine Call_ (ld_blt I hg hm boot_zip' (PyProof.Rows.callWith_type1 (thn (ha pos pins s σ H _ I h) fun us s1 zz_ => ?_) hs hpl))
  obtain ⟨vs, H1, I1, r1, q1⟩ := zz_
  obtain ⟨t, a, b, e, ⟨xs, hq⟩, ⟨ys, hq2⟩, q⟩ := q1
  subst e
  obtain ⟨u, v, rfl, ru, rv⟩ := vals2 r1
  cases ru
  cases rv
  obtain ⟨its, rv, pl, hz⟩ := I1.seqK hq
  obtain ⟨its2, rv2, pl2, hz2⟩ := I1.seqK hq2
  refine call_zipK (t := t) pl pl2 fun h' gz gI gO j1 j2 hk => ?_
  have I2 : Inv X pins σ H1 { s1 with heap := h' } := I1.kept (t' := s1.toks) hk
  have la := pl.lt
  have lb := pl2.lt
  have D : ZipApart (s1.heap.objs.size + 4) (s1.heap.objs.size + 2) (s1.heap.objs.size + 3) s1.heap.objs.size (s1.heap.objs.size + 1) a b := by
    constructor <;> (intro h; have h' := @id (@Eq Nat _ _) h; clear h; revert la lb h'; exact fun (la : @LT.lt Nat _ _ _) (lb : @LT.lt Nat _ _ _) h' => by omega)
  refine wpAny_pyIter_zip gz ⟨s1.heap.objs.size + 4, _, _, Itz X.K t a b, H1, rfl, I2, turn_zip _ _ _ _ _ _ _ D, ⟨gz, gI, ⟨_, _, gO⟩, j1, j2⟩, fun c hc => ?_, q⟩
  have hc1 : s1.heap.objs.size ≤ c := by
    simp only [List.mem_cons, List.not_mem_nil, or_false] at hc
    rcases hc with rfl | rfl | rfl | rfl | rfl <;> omega
  exact I1.fpOk hc1 (I1.hok.fresh hc1)
end
section
variable {X : Cx} {pins : List (Addr × Obj)} {σ : St} {H : Hp} {s : Shared} {A : Around} {E : Value → Shared → Prop} {Q : Value → Shared → Prop} {b : Bool}
end
end L2
set_option Elab.async false
set_option linter.all false
set_option maxRecDepth 100000
namespace L2
open PySem PySem.Spec PyProof.Rows
theorem Same.but {G H H' : Hp} {p : Addr} (s : Same G H) (b : But p H H') (n : G p = none) : Same G H' := fun c o e => b c o (s c o e) (ne_of_none e n)
theorem Same.put {G H : Hp} {p : Addr} (s : Same G H) (n : G p = none) (o : HO) : Same G (upd H p o) := fun c u e => by rw [upd_ne (ne_of_none e n)]; exact s c u e
theorem Same.none {G H : Hp} {p : Addr} (s : Same G H) (n : H p = none) : G p = none := by
  cases e : G p with
  | none => rfl
  | some o => rw [s p o e] at n; cases n
theorem snoc_get {α : Type} {xs : List α} {x y : α} {i : Nat} (h : (xs ++ [x])[i]? = some y) : xs[i]? = some y ∨ (i = xs.length ∧ y = x) := by
  rw [List.getElem?_append] at h
  by_cases hi : i < xs.length
  · rw [if_pos hi] at h; exact .inl h
  · rw [if_neg hi] at h
    have e : i - xs.length = 0 := by
      cases n : i - xs.length with
      | zero => rfl
      | succ k => rw [n] at h; simp at h
    rw [e] at h
    exact .inr ⟨by omega, by simpa using h.symm⟩
theorem atI_mem {xs : List V} {i : Int} (h0 : 0 ≤ i) (h1 : i < xs.length) : ∃ v, atI xs i = some v ∧ v ∈ xs := by
  obtain ⟨n, rfl⟩ := Int.eq_ofNat_of_zero_le h0
  have hn : n < xs.length := by omega
  exact ⟨xs[n], atI_nat (List.getElem?_eq_getElem hn), List.getElem_mem hn⟩
noncomputable def bnd (lo hi : Int) : List V → Bool
  | [] => true
  | .int i :: r => decide (lo ≤ i) && decide (i ≤ hi) && bnd lo hi r
  | _ :: _ => false
theorem bnd_of {lo hi : Int} : ∀ {xs : List V}, bnd lo hi xs = true → ∀ v ∈ xs, ∃ i, v = .int i ∧ lo ≤ i ∧ i ≤ hi
  | .int j :: r, h, v, m => by
    simp only [bnd, Bool.and_eq_true, decide_eq_true_eq] at h
    rcases List.mem_cons.mp m with e | m
    · exact ⟨j, e, h.1.1, h.1.2⟩
    · exact bnd_of (xs := r) h.2 v m
  | .non :: r, h, _, _ => by cases h
  | .bl _ :: r, h, _, _ => by cases h
  | .str _ :: r, h, _, _ => by cases h
  | .byt _ :: r, h, _, _ => by cases h
  | .flt _ :: r, h, _, _ => by cases h
  | .ty _ :: r, h, _, _ => by cases h
  | .ref _ :: r, h, _, _ => by cases h
theorem rIx_bd {K : PySem.W.Frag} (lo hi : Int) {G : Hp} {l : Addr} {xs : List V} {d : Int} {Q : VK} (e : G l = some (.lst xs)) (d0 : 0 ≤ d) (d1 : d < xs.length) (ai : bnd lo hi xs = true) (k : ∀ i, lo ≤ i → i ≤ hi → Q (.int i) G) : rIx K (.ref l) (.int d) G Q := by
  obtain ⟨v, hv, mv⟩ := atI_mem d0 d1
  obtain ⟨i, rfl, h1, h2⟩ := bnd_of ai v mv
  exact .inl ⟨l, _, _, _, rfl, rfl, SqL.of e, hv, k i h1 h2⟩
noncomputable def ho : Bool → List V → HO
  | false, xs => .lst xs
  | true, xs => .tup xs
noncomputable def tnK : Bool → String
  | false => "list"
  | true => "tuple"
theorem tyK {H : Hp} {t : Bool} {a : Addr} {xs : List V} (h : H a = some (ho t xs)) : tyN H (.ref a) = some (tnK t) := by
  cases t with
  | false => simp only [tyN, ho] at h ⊢; rw [h]; rfl
  | true => simp only [tyN, ho] at h ⊢; rw [h]; rfl
noncomputable def rLof (K : PySem.W.Frag) : List V → Hp → VK → Prop := fun xs H Q => ∃ p ys, xs = [.ref p] ∧ (SqL K H p ys ∨ SqT K H p ys) ∧ ∀ l, H l = none → Q (.ref l) (upd H l (.lst ys))
end L2
set_option Elab.async false
set_option linter.all false
set_option maxRecDepth 100000
namespace L2
open PySem PySem.Spec PyProof.Rows
section
variable {X : Cx}
theorem ps_setC {i : Nat} {x : Str} {pos' pos : Pos} {elt iter tg : Expr} {ifs : List Expr} {scope : Scope} {cpos : Pos} {wi : TI} {g : TG} {tt : TT} {te : TE} {N : List Str} {cl : List (Str × Addr)} {js : List (Option Nat)} (hN : X.N.Nodup) (hi0 : X.N[i]? = some x) (hx : Loc X.env.scope x)
    (hc : X.calm = true) (k : CompOk X scope N cl js) (hi : PI X tg iter wi)
    (hg : ∀ C s₀ H₀ ex pn, PG (compCx X scope N cl C s₀ H₀ ex pn) tg g) (ht : ∀ C s₀ H₀ ex pn, PTs (compCx X scope N cl C s₀ H₀ ex pn) ifs tt) (he : ∀ C s₀ H₀ ex pn, PE (compCx X scope N cl C s₀ H₀ ex pn) elt te)
    (hsw : swapsWith (.ListComp elt [⟨tg, iter, ifs, 0⟩] scope cpos) (some (.Name x pos')) pos.line X.env = pure true := by rfl)
    (hf : X.fn x = true ∨ X.env.scope.names.lookup x = some .local := by first | exact .inl rfl | exact .inr rfl | assumption)
    (hs : ∀ x, foldedSetIterable iter X.env x = pure x := by intro _; rfl) :
    PS X (.Assign [.Name x pos'] (.ListComp elt [⟨tg, iter, ifs, 0⟩] scope cpos) pos) (tAsg (tComp wi g tt te js) (gName i)) := by
  intro pins s σ H D0 I h
  rw [exec_Assign_Name_used _ _ _ _ hsw]
  refine wpAny_bind (wpAny_standAt (wpAny_bind ?_))
  show wpAny _ X.A (do let _ ← comprehension (.ListComp elt [⟨tg, iter, ifs, 0⟩] scope cpos) scope X.env _ (newList []) false (eval iter X.env) (some (assign (.Name x pos') X.env))) _ _ s
  refine wpAny_bind (wpAny_mono (wpAny_comprehension_free (use := some (assign (.Name x pos') X.env)) (Q := fun _ s' => ∃ σ' H', Inv X pins σ' H' s' ∧ D0.nx σ' H') rfl hs k.clos k.kind k.names ?_) (fun _ s' hq => wpAny_pure (wpAny_pure hq)) fun _ _ e => e)
  refine thn (hi pins s σ H _ I h) fun v s1 h1 => thn h1 fun itv s2 h2 => ?_
  obtain ⟨it, fp, tn, J, H2, e, I2, T, st2, f2, hD⟩ := h2
  subst e
  refine wpAny_newObj_type (wpAny_newFunctionEnv k.cell (by intro y hy; simp at hy) (fun h₁ hns₁ hsb₁ => ?_) k.kind)
  dsimp only at hns₁ hsb₁ ⊢
  generalize hH2 : s2.heap.push { cls := .type "list", dict := none, data := .seq ([] : List Value).toArray } = P2 at hns₁ hsb₁ ⊢
  have hC : P2.objs.size = s2.heap.objs.size + 1 := by rw [← hH2, Heap.size_push]
  have hDC : s2.heap.objs.size ≠ P2.objs.size := by rw [hC]; exact Nat.ne_of_lt (Nat.lt_succ_self _)
  have hCle : s2.heap.objs.size ≤ P2.objs.size := by rw [hC]; exact Nat.le_succ _
  have old : ∀ b o, s2.heap.get? b = some o → h₁.get? b = some o := fun b o e => hsb₁.extBut b o (Nat.ne_of_lt (Nat.lt_of_lt_of_le (Heap.lt_size e) hCle)) (Heap.get?_push_of_some _ (hH2 ▸ Heap.get?_push_of_some _ e))
  have hacc : h₁.get? s2.heap.objs.size = some { cls := .type "list", data := .seq ([] : List Value).toArray } := hsb₁.extBut _ _ hDC (Heap.get?_push_of_some _ (hH2 ▸ Heap.get?_push_size _ rfl))
  have hfl : ∀ b ∈ fp, b < s2.heap.objs.size := fun b hb => by
    obtain ⟨o, e, _⟩ := T.obj _ _ st2 b hb
    exact Heap.lt_size e
  have fD : H2 s2.heap.objs.size = none := I2.hok.fresh (Nat.le_refl _)
  obtain ⟨W, ⟨m0, w0⟩, turn⟩ := hD _ fD
  have IX : Inv (compCx X scope N cl P2.objs.size s2 H2 fp (X.pn ++ pins)) [] (st0 js σ) (upd H2 s2.heap.objs.size (.lst [])) { s2 with heap := h₁, toks := s2.toks + ([] : List (Str × Value)).length } :=
    comp_inv k I2 f2 hfl (Nat.le_refl _) hCle hDC hns₁ hacc old
  have hg' := hg P2.objs.size s2 H2 fp (X.pn ++ pins)
  have ht' := ht P2.objs.size s2 H2 fp (X.pn ++ pins)
  have he' := he P2.objs.size s2 H2 fp (X.pn ++ pins)
  have stat : ∀ {H' : Hp}, (∀ b ∈ fp, H' b = none) → ∀ b ∈ fp, FpOk (compCx X scope N cl P2.objs.size s2 H2 fp (X.pn ++ pins)) [] H' b := fun hn b hb => by
    obtain ⟨g0, g1, g2, g3, g4, g5⟩ := f2 b hb
    refine ⟨hn b hb, Nat.ne_of_lt (Nat.lt_of_lt_of_le (hfl b hb) hCle), fun z => ?_, .inl hb, fun x c h => g4 x c (k.sub _ _ h), fun p hp => g5 p (by simpa [compCx] using hp)⟩
    rcases List.mem_cons.mp (I2.stkSub b z) with e | e
    · exact g1 e
    · exact g2 e
  have loop : ∀ s₃ : Shared, s₃ = { s2 with heap := h₁, toks := s2.toks + ([] : List (Str × Value)).length } →
      codeAny (model X.prog X.w) X.A (.compLoop (.ListComp elt [⟨tg, iter, ifs, 0⟩] scope cpos) 0 (.ref it) (.ref s2.heap.objs.size) (compEnvC scope cl P2.objs.size X.env))
        (compPost (model X.prog X.w) X.A X.xe (some (assign (.Name x pos') X.env)) (fun _ s' => ∃ σ' H', Inv X pins σ' H' s' ∧ D0.nx σ' H') (.ref s2.heap.objs.size) P2.objs.size) s₃ := by
    rintro s₃ rfl
    refine compLoop_go (fun n s' => ∃ i σ' H', Inv (compCx X scope N cl P2.objs.size s2 H2 fp (X.pn ++ pins)) [] σ' H' s' ∧ tn i s'.heap ∧ (∀ b ∈ fp, H' b = none) ∧ W i n σ' H') ?_ m0
      ⟨0, st0 js σ, _, IX, T.keep _ _ _ st2 (fun b hb o e => old b o e), fun b hb => by rw [upd_ne (Nat.ne_of_lt (hfl b hb))]; exact (f2 b hb).1, w0⟩
    rintro n s3 ⟨i, σ3, H3, I3, st3, fr3, w3⟩
    rcases turn i n σ3 H3 w3 with ⟨stop, qn⟩ | ⟨go, N2, hN, step⟩
    · refine thn (T.done (compCx X scope N cl P2.objs.size s2 H2 fp (X.pn ++ pins)) rfl rfl rfl hc i [] s3 σ3 H3 noE I3 (stat fr3) st3 stop) fun r s4 ⟨hr, I4⟩ => ?_
      subst hr
      obtain ⟨m4, hn4, _⟩ := id I4.loc
      have u4 : Un (frs X.stack) fp H2 H3 s2.heap s4.heap := I4.base
      have fC : H3 P2.objs.size = none := I4.free
      have I6 : Inv X pins σ H3 s4 := I2.call' (s' := s4) I4.os u4 I4.hok I4.bare fun b hb => by
        obtain ⟨g0, g1, g2, g3, g4, g5⟩ := f2 b hb
        exact ⟨g3, g1, g4, g5⟩
      have fpC : FpOk X pins H3 P2.objs.size := I2.fpOk hCle fC
      have hn4' : s4.heap.Ns P2.objs.size m4 := hn4
      obtain ⟨oC, esC, epC, gC, rC⟩ := id hn4'
      have I7 := I6.pinned (fp := [P2.objs.size]) (fun b hb => by rw [show b = P2.objs.size by simpa using hb]; exact fpC) (fun b hb => ⟨oC, by rw [show b = P2.objs.size by simpa using hb]; exact gC, fun v z => by rw [rC.1] at z; cases z⟩)
      show wpAny _ X.A (assign (.Name x pos') X.env (.ref s2.heap.objs.size)) _ _ s4
      refine wpAny_assign_Name (store_ok I7 hN hi0 hx (v := .ref s2.heap.objs.size) rfl (fun s5 I8 => ?_) hf)
      have g5 := (I8.pin (P2.objs.size, oC) (List.mem_append_right _ (List.mem_append_right _ (mem_pinsAt (by simp) gC)))).1
      refine ⟨m4, hn4'.at' (fun o e => by rw [gC] at e; cases e; exact g5), fun h' hsb => ⟨_, H3, ?_, qn⟩⟩
      exact I8.unpinned.turnL (t' := s5.toks) (ch := [P2.objs.size]) (fun b o hb e => hsb.extBut b o (fun z => hb (by simp [z])) e) (fun b hb => by rw [show b = P2.objs.size by simpa using hb]; exact fpC)
    · refine thn (T.item (compCx X scope N cl P2.objs.size s2 H2 fp (X.pn ++ pins)) rfl rfl rfl hc i [] s3 σ3 H3 noE I3 (stat fr3) st3 go) fun r s4 ⟨u, hr, h4⟩ => ?_
      subst hr
      refine thn h4 fun _ s5 zz_ => ?_
      obtain ⟨x, H5, I5, r5, y5, st5, fr5⟩ := zz_
      have I5' := I5.pinned (stat fr5) (T.obj _ _ st5)
      refine thn (hg' _ s5 σ3 H5 x u _ I5' r5 (step x H5 y5)) fun _ s6 zz_ => ?_
      obtain ⟨σ6, H6, I6, q6⟩ := zz_
      refine thn (ht' _ s6 σ6 H6 _ I6 q6) fun ok s7 zz_ => ?_
      obtain ⟨H7, I7, q7⟩ := zz_
      have again : ∀ {s8 : Shared} {σ8 : St} {H8 : Hp}, Inv (compCx X scope N cl P2.objs.size s2 H2 fp (X.pn ++ pins)) ([] ++ pinsAt fp s5.heap) σ8 H8 s8 → N2 σ8 H8 →
          ∃ m, m < n ∧ ∃ i σ' H', Inv (compCx X scope N cl P2.objs.size s2 H2 fp (X.pn ++ pins)) [] σ' H' s8 ∧ tn i s8.heap ∧ (∀ b ∈ fp, H' b = none) ∧ W i m σ' H' := fun {s8 σ8 H8} I8 n8 => by
        obtain ⟨m', hm, w8⟩ := hN σ8 H8 n8
        refine ⟨m', hm, i + 1, σ8, H8, I8.unpinned, T.keep _ _ _ st5 fun b hb o e => (I8.pin (b, o) (List.mem_append_right _ (List.mem_append_right _ (mem_pinsAt hb e)))).1, fun b hb => ?_, w8⟩
        obtain ⟨o, e, d⟩ := T.obj _ _ st5 b hb
        exact (I8.pin (b, o) (List.mem_append_right _ (List.mem_append_right _ (mem_pinsAt hb e)))).2.1
      cases ok with
      | false => exact again I7 (by simpa using q7)
      | true =>
        have q7' : te σ6 H7 fun y H5 => ∃ ys, H5 s2.heap.objs.size = some (.lst ys) ∧ ys.length < sizeLine ∧ N2 σ6 (upd H5 s2.heap.objs.size (.lst (ys ++ [y]))) := by simpa using q7
        refine thn (he' _ s7 σ6 H7 _ I7 q7') fun xv s8 zz_ => ?_
        obtain ⟨y, H8, I8, r8, ys, hy, hlen, n8⟩ := zz_
        refine thn (mt_append (X := compCx X scope N cl P2.objs.size s2 H2 fp (X.pn ++ pins)) _ s8 σ6 H8 (.ref s2.heap.objs.size) [y] (.ref s2.heap.objs.size) [xv] (fun _ H9 => N2 σ6 H9) I8 rfl (.cons r8 .nil) ⟨_, ys, y, rfl, rfl, hy, hlen, n8⟩) fun _ s9 ⟨_, H9, I9, _, n9⟩ => again I9 n9
  exact codeAny_compStart_list (loop _ rfl) (T.self _ 0 _ _ _ (T.keep _ _ _ st2 (fun b hb o e => old b o e)) (loop _ rfl))
end
end L2
set_option Elab.async false
set_option linter.all false
set_option maxRecDepth 100000
namespace L2
open PySem PySem.Spec PyProof.Rows
section
variable {prog : Program} {w : World} {A : Around} {E : Value → Shared → Prop}
theorem draw_lst {j u : Addr} {xs : Array Value} (ne : u ≠ j) : ∀ (n k : Nat) (s : Shared) (Q : List Value → Shared → Prop), s.heap.IsListIter j u k → s.heap.IsList u xs → k + n ≤ xs.size →
    (∀ h', h'.IsListIter j u (k + n) → Heap.SameBut j s.heap h' → Q ((xs.toList.drop k).take n) { s with heap := h' }) → wpAny (model prog w) A (draw (.ref j) n) Q E s
  | 0, k, s, Q, a, _, _, q => by
    show wpAny _ _ (pure []) Q E s
    exact wpAny_pure (by simpa using q s.heap a (Heap.SameBut.refl ..))
  | n + 1, k, s, Q, a, b, le, q => by
    have lt : k < xs.size := by omega
    show wpAny _ _ (pyNext (.ref j) >>= _) Q E s
    refine wpAny_bind (wpAny_pyNext_list_item a b (x := xs[k]) (by simp [lt]) fun g1 a1 n1 => wpAny_bind (wpAny_holding ?_))
    refine draw_lst ne n (k + 1) _ _ a1 (b.extBut n1.extBut ne) (by omega) fun g2 a2 n2 => wpAny_pure ?_
    have e : xs.toList.drop k = xs[k] :: xs.toList.drop (k + 1) := by simp [List.drop_eq_getElem_cons, lt]
    have z := q g2 (by rw [show k + (n + 1) = k + 1 + n by omega]; exact a2) (n1.trans n2)
    rw [e, List.take_succ_cons] at z
    exact z
theorem unpack_lst {s : Shared} {u : Addr} {xs : Array Value} {Q : List Value → Shared → Prop} (hd : A.handled = none) (b : s.heap.IsList u xs)
    (q : ∀ h', Heap.ExtBut s.heap.objs.size s.heap h' → Q xs.toList { s with heap := h' }) : wpAny (model prog w) A (unpackItems (.ref u) xs.size none) Q E s := by
  have ne : u ≠ s.heap.objs.size := by obtain ⟨o, g, _⟩ := b; exact Nat.ne_of_lt (Heap.lt_size g)
  unfold unpackItems
  refine wpAny_bind ?_
  · unfold notIterableAtAll
    refine wpAny_bind (wpAny_specialOf b.typeIs slot_list_iter.lookup (wpAny_pure ?_))
    simp only [Bool.false_eq_true, if_false]
    refine wpAny_bind (wpAny_holding (wpAny_pyIter_list b (wpAny_bind (wpAny_holding ?_))))
    refine draw_lst ne xs.size 0 _ _ ⟨_, Heap.get?_push_size _ rfl, rfl, rfl⟩ (b.push _) (by omega) fun g1 a1 n1 => ?_
    rw [show List.take xs.size (List.drop 0 xs.toList) = xs.toList by rw [List.drop_zero]; exact List.take_of_length_le (by simp), if_neg (by simp)]
    have b1 : g1.IsList u xs := (b.push _).extBut n1.extBut ne
    refine wpAny_bind (wpAny_holding (wpAny_pyNext_list_end hd (by simpa using a1) b1 (by simp) fun g2 n2 => ?_))
    simp only [Option.isSome_none, Bool.false_eq_true, if_false]
    exact wpAny_pure (q g2 fun c o hc e => n2 c o hc (n1.extBut c o hc (Heap.get?_push_of_some _ e)))
end
inductive gLst_P (K : PySem.W.Frag) (n : Nat) (t : TGs) (v : V) (σ : St) (H : Hp) (Q : (St → Hp → Prop)) : Prop
  | mk (a xs : _) (h1 : v = .ref a) (h2 : SqL K H a xs) (h3 : xs.length = n) (h4 : t xs σ H Q) : gLst_P K n t v σ H Q
noncomputable def gLst (K : PySem.W.Frag) (n : Nat) (t : TGs) : TG := fun v σ H Q => gLst_P K n t v σ H Q
theorem pg_lst {X : Cx} {pos : Pos} {es : List Expr} {k : Nat} {t : TGs} {n : Nat} (hc : X.calm = true) (h : PGs X es t)
    (hn : (assignEach es X.env).length = n := by rfl) (hst : (assignEach es X.env).findIdx? (·.1) = none := by rfl) : PG X (.Tuple es k pos) (gLst X.K n t) := by
  intro pins s σ H v u Q I r hw
  obtain ⟨a, xs, rfl, hq, hl, hw⟩ := hw
  cases r
  obtain ⟨its, rv, pl, hz⟩ := I.list hq
  have hsz : (assignEach es X.env).length = its.toArray.size := by simp [hn, ← hl, rv.length]
  rw [assign_Tuple]
  refine wpAny_bind (wpAny_standAt ?_)
  unfold unpack
  rw [hsz, hst]
  refine wpAny_bind (wpAny_holding (unpack_lst (I.ok.hd hc) pl.isList fun h' hx => ?_))
  have I1 : Inv X pins σ H { s with heap := h' } := I.kept (t' := s.toks) fun b o e => hx b o (Nat.ne_of_lt (Heap.lt_size e)) e
  exact h pins _ σ H xs _ Q I1 (by simpa using rv) hw
theorem for_zip {K : PySem.W.Frag} {t : Bool} {a b : Addr} {xs ys : List V} {g : TG} {tb : TS} {D : Ends} {σ : St} {H : Hp} (Pv : Nat → St → Hp → Prop) (he : xs.length = ys.length) (h0 : Pv 0 σ H) (hl : ∀ i σ H, i ≤ xs.length → Pv i σ H → SqK K t H a xs ∧ SqK K t H b ys)
    (hs : ∀ i x y σ H p, xs[i]? = some x → ys[i]? = some y → Pv i σ H → H p = none → g (.ref p) σ (upd H p (.tup [x, y])) fun σ2 H2 => tb { D with nx := Pv (i + 1), ct := Pv (i + 1), bk := D.nx } σ2 H2) (hd : ∀ σ H, Pv xs.length σ H → D.nx σ H) :
    ∃ W : Nat → Nat → St → Hp → Prop, (∃ m, W 0 m σ H) ∧ ∀ i m σ H, W i m σ H →
      ((Itz K t a b).stop i H ∧ D.nx σ H) ∨ ((Itz K t a b).go i H ∧ ∃ N : St → Hp → Prop, (∀ σ' H', N σ' H' → ∃ m', m' < m ∧ W (i + 1) m' σ' H') ∧ ∀ x H', (Itz K t a b).yld i H x H' → g x σ H' fun σ2 H2 => tb { D with nx := N, ct := N, bk := D.nx } σ2 H2) := by
  refine ⟨fun i m σ H => m = xs.length - i ∧ i ≤ xs.length ∧ Pv i σ H, ⟨xs.length, by simp, Nat.zero_le _, h0⟩, ?_⟩
  rintro i m σ H ⟨rfl, hi, p⟩
  obtain ⟨q1, q2⟩ := hl i σ H hi p
  by_cases hlt : i < xs.length
  · have hlt2 : i < ys.length := by omega
    refine .inr ⟨⟨xs, ys, xs[i], ys[i], q1, q2, by simp [hlt], by simp [hlt2]⟩, Pv (i + 1), fun σ' H' p' => ⟨xs.length - (i + 1), by omega, rfl, hlt, p'⟩, fun x H' y => ?_⟩
    obtain ⟨c, u, v, hn, rfl, z, rfl⟩ := y
    obtain ⟨z1, z2⟩ := z xs ys q1 q2
    exact hs i u v σ _ c z1 z2 p hn
  · have e : i = xs.length := by omega
    subst e
    exact .inl ⟨⟨xs, ys, q1, q2, .inl (Nat.le_refl _)⟩, hd σ H p⟩
end L2
set_option Elab.async false
set_option linter.all false
set_option maxRecDepth 100000
namespace L2
open PySem PySem.Spec PyProof.Rows
end L2
set_option Elab.async false
set_option linter.all false
set_option maxRecDepth 100000
namespace L2
open PySem PySem.Spec PyProof.Rows
theorem seq_split {t u : TS} {D : Ends} {σ : St} {H : Hp} (Post : St → Hp → Prop) (h1 : ∀ N : St → Hp → Prop, (∀ σ' H', Post σ' H' → N σ' H') → t { D with nx := N } σ H) (h2 : ∀ σ' H', Post σ' H' → u D σ' H') : tSeq t u D σ H := h1 (u D) h2
inductive rIsC_P (K : PySem.W.Frag) (xs : List V) (H : Hp) (Q : VK) : Prop
  | mk (x C : _) (h1 : xs = [x, .ref C]) (h2 : TyOf K H x (.ref C)) (h3 : Q (.bl true) H) : rIsC_P K xs H Q
noncomputable def rIsC (K : PySem.W.Frag) : List V → Hp → VK → Prop := fun xs H Q => rIsC_P K xs H Q
theorem call_isC {X : Cx} : CallR X (.builtin "isinstance") (rIsC X.K) := by
  intro pins s σ H xs us Q I r h
  obtain ⟨x, C, rfl, ht, q⟩ := h
  obtain ⟨u, w', rfl, ru, rw'⟩ := vals2 r
  cases (show w' = Value.ref C from rw')
  exact isinst_ok I ru ht (by unfold PySem.W.kitOne; rw [if_pos (by simp)]) fun tk => ⟨.bl _, H, I.tok tk, rfl, q⟩
inductive TupOf {β : Type} (f : β → List V) (H : Hp) (ps : List β) (i : Nat) (z : V) : Prop
  | mk (p : β) (t : Addr) (h1 : ps[i]? = some p) (h2 : z = .ref t) (h3 : H t = some (.tup (f p))) : TupOf f H ps i z
inductive TupIt {β : Type} (f : β → List V) (H : Hp) (zs : List V) (i : Nat) (p : β) : Prop
  | mk (t : Addr) (h1 : zs[i]? = some (.ref t)) (h2 : H t = some (.tup (f p))) : TupIt f H zs i p
noncomputable def TupL {β : Type} (f : β → List V) (H : Hp) (zs : List V) (ps : List β) : Prop := zs.length = ps.length ∧ ∀ (i : Nat) z p, zs[i]? = some z → ps[i]? = some p → ∃ t, z = .ref t ∧ H t = some (.tup (f p))
section
variable {β : Type} {f : β → List V} {H H' : Hp} {zs : List V} {ps : List β}
theorem TupL.nil : TupL f H [] [] := ⟨rfl, fun i z p e => by simp at e⟩
theorem TupL.same (h : TupL f H zs ps) (s : Same H H') : TupL f H' zs ps := ⟨h.1, fun i z p e1 e2 => by
  obtain ⟨t, e, q⟩ := h.2 i z p e1 e2
  exact ⟨t, e, s _ _ q⟩⟩
theorem TupL.put {q : Addr} {xs ys : List V} (h : TupL f H zs ps) (hq : H q = some (.lst xs)) : TupL f (upd H q (.lst ys)) zs ps := ⟨h.1, fun i z y e1 e2 => by
  obtain ⟨t, e, r⟩ := h.2 i z y e1 e2
  exact ⟨t, e, by rw [upd_ne (ne_of r hq (by intro z; cases z))]; exact r⟩⟩
theorem TupL.snoc {t : Addr} {p : β} (h : TupL f H zs ps) (q : H t = some (.tup (f p))) : TupL f H (zs ++ [.ref t]) (ps ++ [p]) := ⟨by rw [List.length_append, List.length_append, h.1]; rfl, fun i z y e1 e2 => by
  rcases snoc_get e1 with e | ⟨ei, e⟩
  · rcases snoc_get e2 with e' | ⟨ei', _⟩
    · exact h.2 i z y e e'
    · have := (List.getElem?_eq_some_iff.mp e).1
      rw [ei', ← h.1] at this
      exact absurd this (Nat.lt_irrefl _)
  · rcases snoc_get e2 with e' | ⟨_, e'⟩
    · have := (List.getElem?_eq_some_iff.mp e').1
      rw [ei, h.1] at this
      exact absurd this (Nat.lt_irrefl _)
    · exact ⟨t, e, e' ▸ q⟩⟩
theorem TupL.at_ (h : TupL f H zs ps) {i : Nat} {p : β} (e : ps[i]? = some p) : TupIt f H zs i p := by
  have hi : i < zs.length := by rw [h.1]; exact (List.getElem?_eq_some_iff.mp e).1
  obtain ⟨t, et, q⟩ := h.2 i _ p (List.getElem?_eq_getElem hi) e
  exact ⟨t, by rw [List.getElem?_eq_getElem hi, et], q⟩
theorem TupL.of (h : TupL f H zs ps) {i : Nat} {z : V} (e : zs[i]? = some z) : TupOf f H ps i z := by
  have hi : i < ps.length := by rw [← h.1]; exact (List.getElem?_eq_some_iff.mp e).1
  obtain ⟨t, et, q⟩ := h.2 i z _ e (List.getElem?_eq_getElem hi)
  exact ⟨_, t, List.getElem?_eq_getElem hi, et, q⟩
end
end L2
set_option Elab.async false
set_option linter.all false
set_option maxRecDepth 100000
namespace L2
open PySem PySem.Spec PyProof.Rows PySem.Builtin.Str PySem.NumText
section
variable {X : Cx}
end
end L2
set_option Elab.async false
set_option linter.all false
set_option maxRecDepth 100000
namespace L2
open PySem PySem.Spec PyProof.Rows PySem.Builtin PySem.Builtin.Str PySem.NumText
section
variable {X : Cx}
end
end L2
set_option Elab.async false
set_option linter.all false
set_option maxRecDepth 100000
namespace KC
open PySem L2 PySem.NumText PyProof.Rows
section
variable {c : Nat} {a r : List Nat}
end
end KC
set_option Elab.async false
set_option linter.all false
set_option maxRecDepth 100000
namespace KC
open PySem L2 PySem.NumText PyProof.Rows
section
variable (n : Int) {q : Nat} (lo hi : Int)
end
end KC
set_option Elab.async false
set_option linter.all false
set_option maxRecDepth 100000
namespace KC
open PySem L2 PySem.NumText PyProof.Rows
end KC
set_option Elab.async false
set_option linter.all false
set_option maxRecDepth 100000
namespace KC
open PySem L2 PySem.NumText PyProof.Rows PySem.Builtin PySem.Builtin.Str
end KC
set_option Elab.async false
set_option linter.all false
set_option maxRecDepth 100000
namespace L2
open PySem PySem.Spec PyProof.Rows
noncomputable def ExO (ea C : Addr) (dx : Option Addr) (tb : Value) : Heap → Prop := fun h =>
  ∃ o vs, h.get? ea = some o ∧ o.cls = .ref C ∧ o.dict = dx ∧ o.data = .fields vs ∧ vs.size = 6 ∧ vs[1]? = some tb
noncomputable def TbO (T : Addr) : Heap → Prop := fun h => ∃ o ts, h.get? T = some o ∧ o.data = .fields ts ∧ ts[3]? = some Value.none
noncomputable def XAt (H : Hp) (ea C : Addr) (dx : Option Addr) : Prop :=
  ∃ tb, H ea = some (.ext (ExO ea C dx tb)) ∧ (tb = .none ∨ ∃ T, tb = .ref T ∧ H T = some (.ext (TbO T)) ∧ T ≠ ea)
theorem exo_ok {P : Program} {w : World} {H : Hp} {h : Heap} {ea C : Addr} {dx : Option Addr} {tb : Value} (x : ExO ea C dx tb h) : ObjOk P w H h ea (.ext (ExO ea C dx tb)) := by
  obtain ⟨o, vs, e, r⟩ := id x
  exact ⟨x, ⟨o, e⟩, fun h1 h2 ⟨o', vs', e', r'⟩ k => ⟨o', vs', k _ e', r'⟩⟩
theorem tbo_ok {P : Program} {w : World} {H : Hp} {h : Heap} {T : Addr} (x : TbO T h) : ObjOk P w H h T (.ext (TbO T)) := by
  obtain ⟨o, vs, e, r⟩ := id x
  exact ⟨x, ⟨o, e⟩, fun h1 h2 ⟨o', vs', e', r'⟩ k => ⟨o', vs', k _ e', r'⟩⟩
section
variable {M : Model} {A : Around} {E : Value → Shared → Prop} {s : Shared}
structure Looked (L : List Addr) (e : Addr) (oe : Obj) (h h' : Heap) (T : Addr) (fl : Value) : Prop where
  new : T = h.objs.size
  keep : ∀ b o, b ≠ e → b ∉ L → h.get? b = some o → h'.get? b = some o
  slot : ∀ b o, b ≠ e → h.get? b = some o → ∃ sl, h'.get? b = some { o with slots := sl }
  exc : h'.get? e = some (oe.mapFields (·.setIfInBounds 1 (.ref T)))
  tb : ∃ oT ts, h'.get? T = some oT ∧ oT.data = .fields ts ∧ ts[3]? = some fl
theorem entry_core {base : Heap} {env : Env} {outer : List Env} {L e : Addr} {oe : Obj} {vs : Array Value} {head : Value} {hadNext : Bool} {Q : Unit → Shared → Prop}
    (hfr : A.frames = some (env :: outer)) (hl : s.heap.FunFrames base (env :: outer)) (hf : env.frame = some L)
    (he : s.heap.get? e = some oe) (hd : oe.data = .fields vs) (hsz : 1 < vs.size)
    (h : ∀ h' T, Looked (frs (env :: outer)) e oe s.heap h' T (rawInt L) → Q () { s with heap := h' }) :
    wpAny M A (do
      let a ← frameOf env
      let pl ← entryPlaceOf L hadNext
      let b ← EntryCells.newEntry head a .none (rawInt L) .none pl
      setField (.ref e) 1 b) Q E s := by
  have hene : e ∉ (env :: outer).filterMap (·.frame) := fun hm => by
    obtain ⟨_, o, ho, hnf⟩ := hl.mem hm
    rw [he] at ho
    cases ho
    exact hnf vs hd
  refine wpAny_bind (wpAny_frameOf_fun hfr hl hf fun g1 hs1 => ?_)
  refine wpAny_bind (wpAny_entryPlaceOf fun pl hpl => ?_)
  unfold EntryCells.newEntry newFields
  refine wpAny_bind (wpAny_newObj_type ?_ (hpl.sizeOk5 _ _ _ _ _))
  have he1 : g1.get? e = some oe := (hs1.2.1 e hene).trans he
  generalize hob : ({ cls := .type "traceback", dict := none, data := .fields ([head, .ref L, .none, rawInt L, .none] ++ (if pl.isEmpty then List.replicate 6 Value.none else pl)).toArray } : Obj) = ob
  have hobd : ob.data = .fields ([head, .ref L, .none, rawInt L, .none] ++ (if pl.isEmpty then List.replicate 6 Value.none else pl)).toArray := by rw [← hob]
  have hof : ob.isFreed = false := by rw [← hob]; rfl
  have he2 := Heap.get?_push_of_some (h := g1) ob he1
  refine wpAny_setField he2 hd hsz (h _ g1.objs.size ?_)
  have hTe : g1.objs.size ≠ e := Nat.ne_of_gt (Heap.lt_size he1)
  have hd3 := Obj.data_mapFields hd (·.setIfInBounds 1 (Value.ref g1.objs.size))
  have keep : ∀ b o, b ≠ e → g1.get? b = some o → ((g1.push ob).update e (Obj.mapFields (·.setIfInBounds 1 (Value.ref g1.objs.size)))).get? b = some o := fun b o hbe hb => by
    rw [Heap.get?_update_other _ _ (Ne.symm hbe)]
    exact Heap.get?_push_of_some _ hb
  refine ⟨hs1.1, fun b o hbe hbL hb => keep b o hbe ((hs1.2.1 b hbL).trans hb), fun b o hbe hb => ?_, Heap.get?_update_self _ he2 (Obj.isFreed_of_fields hd3), ob, _, ?_, hobd, ?_⟩
  · obtain ⟨sl, q⟩ := hs1.2.2 b o hb
    exact ⟨sl, keep b _ hbe q⟩
  · rw [Heap.get?_update_other _ _ (Ne.symm hTe)]
    exact Heap.get?_push_size g1 hof
  · simp
theorem note_core {base : Heap} {env : Env} {outer : List Env} {L e : Addr} {oe : Obj} {vs : Array Value} {tb : Value} {Q : Unit → Shared → Prop}
    (hfr : A.frames = some (env :: outer)) (hl : s.heap.FunFrames base (env :: outer)) (hf : env.frame = some L)
    (he : s.heap.get? e = some oe) (hd : oe.data = .fields vs) (h1 : vs[1]? = some tb) (ht : tb = .none ∨ ∃ T, tb = .ref T ∧ TbO T s.heap)
    (h : ∀ h' T, Looked (frs (env :: outer)) e oe s.heap h' T (rawInt L) → Q () { s with heap := h' }) : wpAny M A (noteFrame (.ref e) env) Q E s := by
  unfold noteFrame
  simp only [hf]
  refine wpAny_bind (wpAny_field he hd h1 ?_)
  have hsz := (Array.getElem?_eq_some_iff.mp h1).1
  rcases ht with rfl | ⟨T, rfl, oT, ts, hT, hdT, h3⟩
  · rw [if_neg (by decide)]
    exact entry_core hfr hl hf he hd hsz h
  · rw [if_pos (show (Value.ref T != Value.none) = true from by simp)]
    refine wpAny_bind (wpAny_field hT hdT h3 ?_)
    rw [if_neg (show ¬ ((Value.none == rawInt L) = true) from by simp [rawInt])]
    refine wpAny_bind (wpAny_setField hT hdT (Array.getElem?_eq_some_iff.mp h3).1 ?_)
    rw [Heap.update_setField_same s.heap T oT ts 3 Value.none hT hdT h3]
    exact entry_core hfr hl hf he hd hsz h
theorem look_core {base : Heap} {env : Env} {outer : List Env} {L e : Addr} {oe : Obj} {vs : Array Value} {tb : Value} {Q : Unit → Shared → Prop}
    (hfr : A.frames = some (env :: outer)) (hl : s.heap.FunFrames base (env :: outer)) (hf : env.frame = some L)
    (he : s.heap.get? e = some oe) (hd : oe.data = .fields vs) (h1 : vs[1]? = some tb) (ht : tb = .none ∨ ∃ T, tb = .ref T ∧ TbO T s.heap)
    (h : ∀ h' T, Looked (frs (env :: outer)) e oe s.heap h' T .none → Q () { s with heap := h' }) :
    wpAny M A (noteFrame (.ref e) env) (fun _ s2 => wpAny M A (setFlight (.ref e) none) Q E s2) E s := by
  refine note_core hfr hl hf he hd h1 ht fun h' T K => ?_
  obtain ⟨k1, k2, k3, k4, oT, ts, k5, k6, k7⟩ := K
  have hsz := (Array.getElem?_eq_some_iff.mp h1).1
  have h3 : 3 < ts.size := (Array.getElem?_eq_some_iff.mp k7).1
  have hTe : e ≠ T := by rw [k1]; exact Nat.ne_of_lt (Heap.lt_size he)
  unfold setFlight
  refine wpAny_bind (wpAny_field k4 (Obj.data_mapFields hd _) (x := .ref T) (by simp [hsz]) ?_)
  rw [if_pos (show (Value.ref T != Value.none) = true from by simp)]
  refine wpAny_setField k5 k6 h3 (h _ T ⟨k1, fun b o hbe hbL hb => ?_, fun b o hbe hb => ?_, ?_, _, _, Heap.get?_update_self _ k5 (Obj.isFreed_of_fields (Obj.data_mapFields k6 _)), Obj.data_mapFields k6 _, by simp [h3]⟩)
  · have : T ≠ b := by rw [k1]; exact Nat.ne_of_gt (Heap.lt_size hb)
    rw [Heap.get?_update_other _ _ this]; exact k2 b o hbe hbL hb
  · have : T ≠ b := by rw [k1]; exact Nat.ne_of_gt (Heap.lt_size hb)
    rw [Heap.get?_update_other _ _ this]; exact k3 b o hbe hb
  · rw [Heap.get?_update_other _ _ (Ne.symm hTe)]; exact k4
end
section
variable {X : Cx} {pins : List (Addr × Obj)} {σ : St} {H : Hp} {s : Shared} {ea C : Addr} {dx : Option Addr}
noncomputable def lookH (H : Hp) (ea C : Addr) (dx : Option Addr) (T : Addr) : Hp := upd (upd H ea (.ext (ExO ea C dx (.ref T)))) T (.ext (TbO T))
theorem lookH_old {T : Addr} {b : Addr} {o : HO} (hT : H T = none) (hb : b ≠ ea) (e : H b = some o) : lookH H ea C dx T b = some o := by
  unfold lookH
  rw [upd_ne (ne_of_none e hT), upd_ne hb]
  exact e
theorem lookH_x {T : Addr} (hT : H T = none) (hne : T ≠ ea) : XAt (lookH H ea C dx T) ea C dx := by
  refine ⟨.ref T, ?_, .inr ⟨T, rfl, ?_, hne⟩⟩
  · unfold lookH
    rw [upd_ne (Ne.symm hne), upd_same]
  · unfold lookH
    rw [upd_same]
theorem look_ok {M : Model} {A : Around} {E : Value → Shared → Prop} {Q : Unit → Shared → Prop} (I : Inv X pins σ H s) (hst : X.stack = X.env :: X.outer) (hf : X.env.frame = some X.env.locals) (hfr : A.frames = some X.stack) (x : XAt H ea C dx)
    (h : ∀ s' T, H T = none → T ≠ ea → Inv X pins σ (lookH H ea C dx T) s' → Q () s') :
    wpAny M A (noteFrame (.ref ea) X.env) (fun _ s2 => wpAny M A (setFlight (.ref ea) none) Q E s2) E s := by
  obtain ⟨tb, e1, e2⟩ := x
  obtain ⟨⟨oe, vs, he, hc, hdx, hd, hz, h1⟩, _, _⟩ := (show ObjOk X.prog X.w H s.heap ea (.ext (ExO ea C dx tb)) from I.hok ea _ e1)
  have ht : tb = .none ∨ ∃ T, tb = .ref T ∧ TbO T s.heap := by
    rcases e2 with e2 | ⟨T, e2, e3, _⟩
    · exact .inl e2
    · obtain ⟨q, _, _⟩ := (show ObjOk X.prog X.w H s.heap T (.ext (TbO T)) from I.hok T _ e3)
      exact .inr ⟨T, e2, q⟩
  have hl := I.stack
  rw [hst] at hl hfr
  have hea : ea ∉ frs X.stack := fun z => by have := I.stkFree ea z; rw [e1] at this; cases this
  refine look_core hfr hl hf he hd h1 ht fun h' T K => ?_
  obtain ⟨k1, k2, k3, k4, oT, ts, k5, k6, k7⟩ := K
  rw [← hst] at k2
  have hT : H T = none := I.hok.fresh (by rw [k1]; exact Nat.le_refl _)
  have hTe : T ≠ ea := by rw [k1]; exact Nat.ne_of_gt (Heap.lt_size he)
  have nT : ∀ b ob, s.heap.get? b = some ob → b ≠ T := fun b ob e => by rw [k1]; exact Nat.ne_of_lt (Heap.lt_size e)
  have trk : ∀ b u, H b = some u → b ∉ frs X.stack := fun b u e z => by have := I.stkFree b z; rw [e] at this; cases this
  have nex : ∀ b u, H b = some u → (∀ φ, u ≠ .ext φ) → b ≠ ea := fun b u e n z => by subst z; rw [e1] at e; cases e; exact n _ rfl
  have old : ∀ b u, H b = some u → (∀ φ, u ≠ .ext φ) → lookH H ea C dx T b = some u := fun b u e n => lookH_old hT (nex b u e n) e
  have un : Un (frs X.stack) [] H (lookH H ea C dx T) s.heap h' := by
    refine ⟨fun b o e n hb _ => k2 b o (fun z => by subst z; rw [e1] at n; cases n) hb e, fun b o e n hb _ => k3 b o (fun z => by subst z; rw [e1] at n; cases n) e, fun b o e n _ => ?_, fun b o e _ => ?_,
      fun b xs e => old b _ e fun φ z => (nomatch z), fun b o u e => old b _ e fun φ z => (nomatch z), fun b ps e => ⟨#[], by rw [old b _ e fun φ z => (nomatch z)]; simp⟩⟩
    · unfold lookH
      rw [upd_ne (nT b o e), upd_ne fun z => by subst z; rw [e1] at n; cases n]
      exact n
    · by_cases z : b = ea
      · subst z; exact ⟨_, k4⟩
      · obtain ⟨sl, q⟩ := k3 b o z e
        exact ⟨_, q⟩
  have hok : HOk X.prog X.w (lookH H ea C dx T) h' := fun b u e => by
    by_cases z : b = T
    · subst z
      unfold lookH at e
      rw [upd_same] at e; cases e
      exact tbo_ok ⟨oT, ts, k5, k6, k7⟩
    · by_cases z2 : b = ea
      · subst z2
        unfold lookH at e
        rw [upd_ne z, upd_same] at e; cases e
        refine exo_ok ⟨_, _, k4, (Obj.cls_mapFields _ _).trans hc, ?_, Obj.data_mapFields hd _, by simp [hz], by simp [hz]⟩
        rw [← hdx]
        obtain ⟨oc, od, odt, osl⟩ := oe
        have hd' : odt = .fields vs := hd
        subst hd'
        rfl
      · have e' : H b = some u := by
          unfold lookH at e
          rw [upd_ne z, upd_ne z2] at e
          exact e
        refine (I.hok b u e').stay (fun c v hc q => ?_) (fun c q => old c _ q fun φ z => (nomatch z)) fun c xs q => old c _ q fun φ z => (nomatch z)
        rcases hc with hc | hc
        · subst hc; exact k2 c v z2 (trk c u e') q
        · exact k2 c v (nex c _ hc fun φ z => (nomatch z)) (trk c _ hc) q
  exact h _ T hT hTe (I.call' (s' := { s with heap := h' }) rfl un hok I.bare fun b z => absurd z (by simp))
noncomputable def Sure (E : XK) (C ea : Addr) (dx : Option Addr) (H : Hp) : Prop := ∀ H', (∀ b o, b ≠ ea → H b = some o → H' b = some o) → XAt H' ea C dx → E (.ref C) (some ea) H'
theorem Sure.look {E : XK} {T : Addr} (h : Sure E C ea dx H) (hT : H T = none) : Sure E C ea dx (lookH H ea C dx T) := fun H' k x => h H' (fun b o hb e => k b o hb (lookH_old hT hb e)) x
inductive CX1_P (P : Program) (w : World) (outer : List Env) (H : Hp) (s : Shared) (E : XK) (e : Value) (s' : Shared) : Prop
  | mk (ea C dx H' : _) (h1 : e = .ref ea) (h2 : s'.os = s.os) (h3 : AllBare s'.gens) (h4 : Un (frs outer) [] H H' s.heap s'.heap) (h5 : HOk P w H' s'.heap) (h6 : XAt H' ea C dx) (h7 : Sure E C ea dx H') : CX1_P P w outer H s E e s'
noncomputable def CX1 (P : Program) (w : World) : CXT := fun outer H s E e s' => CX1_P P w outer H s E e s'
noncomputable def Throws (X : Cx) (E : XK) : Prop := ∀ (pins : List (Addr × Obj)) (σ : St) (H : Hp) (s : Shared) (ea C : Addr) (dx : Option Addr), Inv X pins σ H s → XAt H ea C dx → Sure E C ea dx H → X.xe (.ref ea) s
theorem Throws.passes {E : XK} (t : Throws X E) : Passes (CX1 X.prog X.w) X E := by
  intro pins σ H s e s' I ⟨ea, C, dx, H', e1, os, bare, un, hok, x, q⟩
  subst e1
  exact t pins σ H' s' ea C dx (I.call' os un hok bare fun b z => absurd z (by simp)) x q
theorem throws_cx {P : Program} {w : World} {K : PySem.W.Frag} {mg : Str → Option Value} {base : Heap} {N : List Str} {qual : Str} {scope : Scope} {f : Addr} {cd : Value} {A : Around} {outer : List Env} {s₀ : Shared} {H₀ : Hp} {E : XK} :
    Throws (cxOf (CX1 P w) P w K mg base N qual scope f cd A outer s₀ H₀ E) E := by
  intro pins σ H s ea C dx I x q
  show wpAny _ _ (leaving _ _) _ _ _
  unfold leaving
  refine wpAny_bind (look_ok I rfl rfl I.ok.frames x fun s' T hT hne J => ?_)
  exact ⟨ea, C, dx, _, rfl, J.os, J.bare, J.base, J.hok, lookH_x hT hne, q.look hT⟩
end
end L2
set_option Elab.async false
set_option linter.all false
set_option maxRecDepth 100000
namespace L2
open PySem PySem.Spec PyProof.Rows
noncomputable def tyS : Value → String
  | .type a => a
  | _ => ""
theorem tyS_is {v : Value} {s : String} (h : tyS v = s) (n : s ≠ "") : v = .type s := by
  cases v with
  | type a => exact congrArg _ h
  | _ => exact absurd h.symm n
theorem tyS_all {l : List Value} : ∀ {ss : List String}, l.map tyS = ss → (∀ s ∈ ss, s ≠ "") → l = ss.map Value.type := by
  induction l with
  | nil => intro ss h _; rw [← h]; rfl
  | cons v l ih =>
    intro ss h n
    cases ss with
    | nil => cases h
    | cons s ss =>
      have h1 : tyS v = s := (List.cons.inj h).1
      have h2 : l.map tyS = ss := (List.cons.inj h).2
      rw [tyS_is h1 (n s List.mem_cons_self), ih h2 fun x m => n x (List.mem_cons_of_mem _ m)]
      rfl
noncomputable def xTail : List Value → Bool
  | [] => false
  | x :: r => match x with
    | .ref _ => xTail r
    | _ => (x :: r).map tyS == ["ValueError", "Exception", "BaseException", "object"]
theorem xTail_cases {l : List Value} (e : xTail l = true) : (∃ c r, l = .ref c :: r ∧ xTail r = true) ∨ l = [.type "ValueError", .type "Exception", .type "BaseException", .type "object"] := by
  cases l with
  | nil => cases e
  | cons x r =>
    unfold xTail at e
    split at e
    · exact .inl ⟨_, r, rfl, e⟩
    · exact .inr (tyS_all (eq_of_beq e) (by decide))
theorem xTail_has {T : String} {v : Bool} (h4 : ([.type "ValueError", .type "Exception", .type "BaseException", .type "object"] : List Value).contains (.type T) = v) {l : List Value} : xTail l = true → l.contains (.type T) = v := by
  induction l with
  | nil => intro e; cases e
  | cons x r ih =>
    intro e
    rcases xTail_cases e with ⟨c, r', h, e'⟩ | h
    · cases h
      rw [List.contains_cons, ih e', show (Value.type T == Value.ref c) = false from rfl, Bool.false_or]
    · rw [h]; exact h4
inductive XCls_P (K : PySem.W.Frag) (C : Addr) : Prop
  | mk (nm qn : Str) (N : Addr) (bs bm : List Value) (sn : List Str) (sub : List Value) (ab : Bool) (col : Option Bool) (dd : Option Addr) (k0 k1 k2 k3 k5 : Option Value) (h1 : K.lookup C = some (excClassObj nm qn C N bs bm true sn sub ab col dd k0 k1 k2 k3 k5 "ValueError.__new__")) (h2 : xTail bm = true) : XCls_P K C
noncomputable def XCls (K : PySem.W.Frag) (C : Addr) : Prop := XCls_P K C
noncomputable def xIn (K : PySem.W.Frag) (C : Addr) : Bool := @decide (XCls K C) (Classical.propDecidable _)
theorem xIn_iff {K : PySem.W.Frag} {C : Addr} : xIn K C = true ↔ XCls K C := @decide_eq_true_iff (XCls K C) (Classical.propDecidable _)
theorem xcls {K : PySem.W.Frag} {h : Heap} {C : Addr} (X : K.In h) (q : xIn K C = true) : ∃ nm qn N bs bm sn sub ab col dd k0 k1 k2 k3 k5,
    h.get? C = some (excClassObj nm qn C N bs bm true sn sub ab col dd k0 k1 k2 k3 k5 "ValueError.__new__") ∧ xTail bm = true := by
  obtain ⟨nm, qn, N, bs, bm, sn, sub, ab, col, dd, k0, k1, k2, k3, k5, ho, hx⟩ := xIn_iff.mp q
  exact ⟨nm, qn, N, bs, bm, sn, sub, ab, col, dd, k0, k1, k2, k3, k5, X _ _ ho, hx⟩
section
variable {M : Model} {A : Around} {E : Value → Shared → Prop} {h : Heap} {g : Array GenState} {d : Drawn} {t : Nat} {os : OsState}
variable {nm q : Str} {C N : Addr} {bs bm bmB : List Value} {sn : List Str} {sub : List Value} {ab : Bool} {col : Option Bool} {dd : Option Addr} {k0 k1 k2 k3 k5 : Option Value} {B newId initId : String}
theorem x_check_new (F : ExcBaseFacts B newId initId bmB) {rest : List Value} {Q : Unit → Shared → Prop} (hC : h.get? C = some (excClassObj nm q C N bs bm true sn sub ab col dd k0 k1 k2 k3 k5 newId))
    (hcont : (Value.ref C :: bm).contains (.type B) = true) (hq : Q () ⟨h, g, d, t, os⟩) : wpAny M A (checkBuiltinCall newId ⟨.ref C :: rest, []⟩) Q E ⟨h, g, d, t, os⟩ := by
  have hstar := F.noStar
  simp only [checkBuiltinCall, F.newKind, F.newSplit, F.newRow]
  repeat (first
    | refine wpAny_loadPart_at hC ?_
    | (refine wpAny_isSubtype_exc hC ?_; rw [hcont])
    | refine wpAny_staticBase_exc hC ?_
    | refine wpAny_madeBy_exc hC ?_
    | simp only [bne_self_eq_false, Bool.false_eq_true, if_false]
    | wp_step)
  exact hq
end
section
variable {prog : Program} {w : World} {A : Around} {R : Result → Shared → Prop} {E : Value → Shared → Prop} {h : Heap} {g : Array GenState} {d : Drawn} {t : Nat} {os : OsState}
variable {nm q : Str} {C N : Addr} {bs bm bmB : List Value} {sn : List Str} {sub : List Value} {ab : Bool} {col : Option Bool} {dd : Option Addr} {k0 k1 k2 k3 k5 : Option Value} {B newId initId : String}
noncomputable abbrev excObj (C : Addr) (t : Addr) : Obj := { cls := .ref C, data := .fields #[.ref t, .none, .none, .none, .bool false, .none] }
theorem x_new (F : ExcBaseFacts B newId initId bmB) {rest : List Value} (hC : h.get? C = some (excClassObj nm q C N bs bm true sn sub ab col dd k0 k1 k2 k3 k5 newId))
    (hcB : (Value.ref C :: bm).contains (.type B) = true) (hcA : (Value.ref C :: bm).contains (.type "AttributeError") = false) (hcN : (Value.ref C :: bm).contains (.type "NameError") = false)
    (hq : R (.ok (.ret (.ref (h.objs.size + 1)))) ⟨(h.push { cls := .type "tuple", data := .seq rest.toArray }).push (excObj C h.objs.size), g, d, t, os⟩) (hrest : rest.length ≤ sizeLine) :
    codeAny (model prog w) A (.builtin newId ⟨.ref C :: rest, []⟩) R ⟨h, g, d, t, os⟩ := by
  have hends := F.ends
  refine codeAny_builtinAt F.entry ?_
  unfold Builtin.«BaseException.__new__»
  refine PySem.wpAt_bind ?_
  show PySem.wpAt _ _ _ (stack >>= _) _ _ _
  refine PySem.wpAt_bind (PySem.wpAt_stack fun p below => PySem.wpAt_of_wpAny ?_)
  wp_walk
  refine PySem.wpAt_of_wpAny ?_
  rw [F.owner]
  repeat (first
    | with_reducible refine wpAny_madeHere_exc F.canon hC ?_
    | with_reducible refine wpAny_loadPart_at hC ?_
    | (with_reducible refine wpAny_isSubtype_exc hC ?_; first | rw [hcB] | rw [hcA] | rw [hcN])
    | wp_step)
  show R _ _
  rw [Heap.size_push]
  exact hq
theorem x_make {K : PySem.W.Frag} {rest : List Value} {fI : Addr} {Q : Value → Shared → Prop} (X : K.In h) (xi : xIn K C = true)
    (hi : PySem.W.findIn K (.ref C) "__init__" = some (some (.ref fI))) (hf : PySem.W.typeIn K (.ref fI) = some (.type "function"))
    (hq : wpAny (model prog w) (A.under (.builtin "type.__call__" ⟨.ref C :: rest, []⟩)) (call (.ref fI) (.ref (h.objs.size + 1) :: rest)) (fun r s' => r = .none ∧ Q (.ref (h.objs.size + 1)) s') E
      ⟨(h.push { cls := .type "tuple", data := .seq rest.toArray }).push (excObj C h.objs.size), g, d, t, os⟩) (hrest : rest.length ≤ sizeLine) :
    wpAny (model prog w) A (call (.ref C) rest) Q E ⟨h, g, d, t, os⟩ := by
  obtain ⟨nm, qn, N, bs, bm, sn, sub, ab, col, dd, k0, k1, k2, k3, k5, hC, hx⟩ := xcls X xi
  have F := PySem.F.excBase_ValueError
  have f1 := tc_lookup
  have f2 := tc_bind (.ref C)
  have hT : (⟨h, g, d, t, os⟩ : Shared).TypeIs (.ref C) "type" := ⟨_, hC, rfl⟩
  have hcB : (Value.ref C :: bm).contains (.type "ValueError") = true := by rw [List.contains_cons, xTail_has (v := true) (by decide +kernel) hx, Bool.or_true]
  have hcA : (Value.ref C :: bm).contains (.type "AttributeError") = false := by rw [List.contains_cons, xTail_has (v := false) (by decide +kernel) hx]; rfl
  have hcN : (Value.ref C :: bm).contains (.type "NameError") = false := by rw [List.contains_cons, xTail_has (v := false) (by decide +kernel) hx]; rfl
  refine wpAny_call (codeAny_of_tree ?_)
  show wpAny _ _ (callAny (.ref C) _) _ _ _
  repeat (any_goals (first
    | assumption
    | with_reducible refine wpAny_loadPart_at hC ?_
    | wp_step))
  refine ⟨rfl, ?_⟩
  refine codeAny_call_builtin_at (Code.quiet_builtin _ (by decide +kernel)) entry_typeCall (wpAny_check_type_call_sub hC ?_)
  repeat (first
    | with_reducible refine wpAny_loadPart_at hC ?_
    | with_reducible refine wpAny_madeBy_exc hC ?_
    | wp_step)
  refine codeAny_call_builtin_code (Code.quiet_builtin _ F.quiet) (x_check_new F hC hcB ?_)
  refine x_new F hC hcB hcA hcN ?_ hrest
  show wpAny _ _ _ _ _ (⟨(h.push { cls := .type "tuple", data := .seq rest.toArray }).push (excObj C h.objs.size), g, d, t, os⟩ : Shared)
  have kp : ∀ b o, h.get? b = some o → ((h.push { cls := .type "tuple", data := .seq rest.toArray }).push (excObj C h.objs.size)).get? b = some o := fun b o e => Heap.get?_push_of_some _ (Heap.get?_push_of_some _ e)
  have hC1 := kp _ _ hC
  have X1 := X.keeps kp
  have hget : ((h.push { cls := .type "tuple", data := .seq rest.toArray }).push (excObj C h.objs.size)).get? (h.objs.size + 1) = some (excObj C h.objs.size) := by heap_get
  have hcC : (Value.ref C :: bm).contains (.ref C) = true := by simp
  unfold isInstance
  repeat (first
    | with_reducible refine wpAny_loadPart_at hget ?_
    | (show wpAny _ _ (isSubtype (.ref C) _) _ _ _; with_reducible refine wpAny_isSubtype_exc hC1 ?_; rw [hcC])
    | wp_step)
  show wpAny _ _ (typeLookup (.ref C) _) _ _ _
  refine (PySem.W.looks_findIn X1 hi).at ?_
  refine wpAny_holding (wpAny_bind ((PySem.W.bind_fn X1 _ hf).at ?_))
  refine wpAny_bind (wpAny_mono hq (fun r s' hr => ?_) fun _ _ x => x)
  obtain ⟨rfl, hQ⟩ := hr
  wp_walk
  exact hQ
end
end L2
set_option Elab.async false
set_option linter.all false
set_option maxRecDepth 100000
namespace L2
open PySem PySem.Spec PyProof.Rows
theorem xcd {K : PySem.W.Frag} {C : Addr} (q : xIn K C = true) : ∃ cd bm, PySem.W.clsIn K C = some cd ∧ cd.mro = .ref C :: bm ∧ xTail bm = true ∧ cd.hasDict = true := by
  obtain ⟨nm, qn, N, bs, bm, sn, sub, ab, col, dd, k0, k1, k2, k3, k5, ho, hx⟩ := xIn_iff.mp q
  have e : ∃ cd, PySem.W.clsIn K C = some cd ∧ cd.mro = .ref C :: bm ∧ cd.hasDict = true := by
    unfold PySem.W.clsIn
    rw [ho]
    exact ⟨_, rfl, rfl, rfl⟩
  obtain ⟨cd, h1, h2, h3⟩ := e
  exact ⟨cd, bm, h1, h2, hx, h3⟩
theorem xmro {K : PySem.W.Frag} {C : Addr} {T : String} (q : xIn K C = true) (h4 : ([.type "ValueError", .type "Exception", .type "BaseException", .type "object"] : List Value).contains (.type T) = true) : PySem.W.mroIn K C (.type T) = some true := by
  obtain ⟨cd, bm, h1, h2, h3, _⟩ := xcd q
  unfold PySem.W.mroIn
  rw [h1, Option.bind_some, h2, if_neg (by simp), List.contains_cons, xTail_has h4 h3, Bool.or_true]
section
variable {M : Model} {A : Around} {E : Value → Shared → Prop} {s : Shared} {env : Env}
theorem x_raise {x : Sem Value} {Q : Flow → Shared → Prop} (hh : A.handled = none)
    (h : wpAny M A x (fun v s1 => ∃ (ea C : Addr) (o : Obj) (vs : Array Value) (K : PySem.W.Frag), v = .ref ea ∧ K.In s1.heap ∧ xIn K C = true ∧ s1.heap.get? ea = some o ∧ o.cls = .ref C ∧ o.data = .fields vs ∧ vs[1]? = some .none ∧ E (.ref ea) s1) E s) :
    wpAny M A (raiseStmt env (some x) none) Q E s := by
  unfold raiseStmt
  refine wpAny_bind (wpAny_mono h (fun v s1 h1 => ?_) fun _ _ x => x)
  obtain ⟨ea, C, o, vs, K, rfl, X, xi, he, hc, hd, hv, hE⟩ := h1
  obtain ⟨nm, qn, N, bs, bm, sn, sub, ab, col, dd, k0, k1, k2, k3, k5, hC, hx⟩ := xcls X xi
  have hcB : (Value.ref C :: bm).contains (.type "BaseException") = true := by rw [List.contains_cons, xTail_has (v := true) (by decide +kernel) hx, Bool.or_true]
  obtain ⟨oc, od, odt, osl⟩ := o
  dsimp only at hc hd
  subst hc hd
  obtain ⟨hp, g, d, tk, os⟩ := s1
  repeat (first
    | with_reducible refine wpAny_field he rfl hv ?_
    | with_reducible refine wpAny_loadPart_at he ?_
    | with_reducible refine wpAny_loadPart_at hC ?_
    | (with_reducible refine wpAny_isSubtype_exc hC ?_; rw [hcB])
    | wp_step)
  exact wpAny_raiseNew_none hh hE
end
section
variable {prog : Program} {w : World} {A : Around} {E : Value → Shared → Prop} {s : Shared} {K : PySem.W.Frag} {C x : Addr} {ox : Obj} {name : Str} {v : Value}
theorem x_binit {rest : List Value} {vs : Array Value} {Q : Value → Shared → Prop} (X : K.In s.heap) (xi : xIn K C = true) (hx : s.heap.get? x = some ox) (hc : ox.cls = .ref C) (hd : ox.data = .fields vs) (hz : vs.size = 6) (hl : rest.length ≤ sizeLine)
    (h : ∀ h' tp, (∀ b o, b ≠ x → s.heap.get? b = some o → h'.get? b = some o) → h'.get? x = some (ox.mapFields (·.setIfInBounds 0 tp)) → Q .none { s with heap := h' }) :
    wpAny (model prog w) A (call (.builtin "ValueError.__init__") (.ref x :: rest)) Q E s := by
  obtain ⟨hp, g, d, tk, os⟩ := s
  have F := PySem.F.excBase_ValueError
  obtain ⟨nm, qn, N, bs, bm, sn, sub, ab, col, dd, k0, k1, k2, k3, k5, hC, hxt⟩ := xcls X xi
  have hcB : (Value.ref C :: bm).contains (.type "ValueError") = true := by rw [List.contains_cons, xTail_has (v := true) (by decide +kernel) hxt, Bool.or_true]
  have hshort := F.noStar
  have chk : wpAny (model prog w) A.in1 (checkBuiltinCall "ValueError.__init__" ⟨.ref x :: rest, []⟩) (fun _ s' => s' = ⟨hp, g, d, tk, os⟩) (fun _ _ => False) ⟨hp, g, d, tk, os⟩ := by
    simp only [checkBuiltinCall, F.initKind, F.initSplit, F.initRow]
    repeat (first
      | (with_reducible refine wpAny_loadPart_at hx ?_; rw [hc])
      | with_reducible refine wpAny_loadPart_at hC ?_
      | (with_reducible refine wpAny_isSubtype_exc hC ?_; rw [hcB])
      | wp_step)
    refine wpAny_onRaise ?_
    rw [show ∀ (a b : String) (n : Nat), Bind.check ⟨.positional, "*", "ValueError", .self, [⟨"args", .varPos, false⟩]⟩ a b n (List.map (fun x => x.fst) ({ pos := Value.ref x :: rest } : Args).kw) = pure () from
      fun a b n => check_star_args _ _ _ _ _ _]
    exact wpAny_pure rfl
  refine wpAny_call (codeAny_call_builtin F.init.plain F.initEntry (wpAny_mono chk (fun _ s1 e => ?_) fun _ _ z => z.elim))
  subst e
  unfold Builtin.«BaseException.__init__»
  repeat (first
    | with_reducible refine wpAny_loadPart_at hx ?_
    | wp_step)
  obtain ⟨a0, h0⟩ : ∃ a0, vs[0]? = some a0 := ⟨_, Array.getElem?_eq_getElem (by omega)⟩
  rw [hd]
  refine wpAny_pure ?_
  rw [h0]
  refine wpAny_pure ?_
  have hx1 : (hp.push { cls := .type "tuple", data := .seq rest.toArray }).get? x = some ox := Heap.get?_push_of_some _ hx
  refine wpAny_bind (wpAny_setField hx1 hd (by omega) ?_)
  have fin := h ((hp.push { cls := .type "tuple", data := .seq rest.toArray }).update x (Obj.mapFields (·.setIfInBounds 0 (.ref hp.objs.size)))) (.ref hp.objs.size) (fun b o hb e => by
    rw [Heap.get?_update_other _ _ (Ne.symm hb)]
    exact Heap.get?_push_of_some _ e) (Heap.get?_update_self _ hx1 (Obj.isFreed_of_fields (Obj.data_mapFields hd _)))
  cases a0 <;> (repeat wp_step) <;> exact fin
end
theorem x_refuse (self : Value) {l : List Value} : xTail l = true → refuseLoop self "__setattr__" l = pure () := by
  induction l with
  | nil => intro e; cases e
  | cons x r ih =>
    intro e
    rcases xTail_cases e with ⟨c, r', h, e'⟩ | h
    · cases h
      rw [refuseLoop_ref]
      exact ih e'
    · rw [h]; exact PySem.F.store_ValueError.passes self
section
variable {prog : Program} {w : World} {A : Around} {E : Value → Shared → Prop} {s : Shared} {K : PySem.W.Frag} {C x : Addr} {ox : Obj} {name : Str} {v : Value}
theorem x_set {vs : Array Value} {Q : Unit → Shared → Prop} (X : K.In s.heap) (xi : xIn K C = true) (hx : s.heap.get? x = some ox) (hc : ox.cls = .ref C) (hd : ox.data = .fields vs) (hdn : ox.dict = none)
    (hs : PySem.W.findIn K (.ref C) "__setattr__" = some (some (.builtin "object.__setattr__"))) (ha : PySem.W.findIn K (.ref C) name = some none)
    (h : ∀ h' dx, s.heap.objs.size ≤ dx → h'.get? x = some { ox with dict := some dx } → h'.Ns1 dx (fun y => if y = name then some v else none) → (∀ b o, b ≠ x → s.heap.get? b = some o → h'.get? b = some o) →
      Q () { s with heap := h', toks := s.toks + 2 }) :
    wpAny (model prog w) A (setAttr (.ref x) name v) Q E s := by
  have SF := PySem.F.store_object
  obtain ⟨cd, bm, hcd, hmro, hxt, hdict⟩ := xcd xi
  have I : PySem.W.InstAt s.heap x ox C none := ⟨hx, hc, by unfold PySem.W.notCls; rw [hd], by rw [hdn]; exact True.intro⟩
  refine PySem.W.set_plain X I hs ?_
  have sub : PySem.W.Looks (model prog w) s.heap (isInstance (.ref x) (.type "object")) true := I.type.andThen (PySem.W.looks_mroIn X (xmro xi (by decide +kernel)))
  refine codeAny_call_builtin SF.slot.plain SF.entry (@PySem.W.check_slot (model prog w) _ _ { s with toks := s.toks + 1 } "object.__setattr__" "object" "__setattr__" (.ref x) [.str name s.toks, v] [] _ SF.kind SF.split sub (SF.args (.ref x) (.str name s.toks) v) ?_)
  have hm : PySem.W.Looks (model prog w) s.heap (mroOf (.ref C)) cd.mro := (PySem.W.looks_clsIn X hcd).andThen .now
  rw [PySem.W.osa_eq, refuse_eq]
  refine wpAny_bind (wpAny_bind (I.type.here (s := { s with toks := s.toks + 1 }) (wpAny_bind (hm.here (s := { s with toks := s.toks + 1 }) ?_))))
  rw [hmro, refuseLoop_ref, x_refuse _ hxt]
  refine wpAny_pure (wpAny_bind (I.type.here (s := { s with toks := s.toks + 1 }) (wpAny_bind ((PySem.W.looks_findIn X ha).here (s := { s with toks := s.toks + 1 }) (wpAny_bind (wpAny_pure ?_))))))
  dsimp only
  unfold PySem.Builtin.ObjectAttr.storeInOwnDict
  refine wpAny_bind (wpAny_pure ?_)
  rw [if_neg (by simp)]
  refine wpAny_bind (wpAny_bind (wpAny_loadPart hx ?_))
  rw [hc]
  dsimp only
  refine wpAny_bind ((PySem.W.looks_clsIn X hcd).here (s := { s with toks := s.toks + 1 }) ?_)
  rw [hdict, hdn, if_neg (by decide)]
  dsimp only
  rw [if_neg (by simp [typeHasDict]), hd]
  dsimp only
  have hx1 : (s.heap.push { cls := .type "dict", data := .dict #[] }).get? x = some ox := Heap.get?_push_of_some _ hx
  have hxs : x ≠ s.heap.objs.size := Nat.ne_of_lt (Heap.lt_size hx)
  refine wpAny_bind (wpAny_alloc' ?_)
  refine wpAny_bind (wpAny_update' hx1 ?_)
  refine wpAny_pure (a := some s.heap.objs.size) ?_
  generalize hg : ((s.heap.push { cls := .type "dict", data := .dict #[] }).update x fun o => { cls := o.cls, dict := some s.heap.objs.size, data := o.data, slots := o.slots }) = g1
  have hgd : g1.get? s.heap.objs.size = some { cls := .type "dict", data := .dict #[] } := by
    rw [← hg]; exact (Heap.get?_update_ne _ _ _ _ hxs.symm).trans (Heap.get?_push_at rfl rfl)
  have hnd : g1.Ns s.heap.objs.size (fun _ => none) := ⟨_, #[], _, hgd, rfl, fun e he => absurd he (by simp), fun _ => rfl⟩
  have hgx : g1.get? x = some { ox with dict := some s.heap.objs.size } := by
    rw [← hg]
    refine Heap.get?_update_self _ hx1 ?_
    have hfr := (Heap.get?_some_iff.mp hx).2
    obtain ⟨oc, od, odt, osl⟩ := ox
    cases odt <;> first | rfl | exact hfr
  have hgo : ∀ b o, b ≠ x → s.heap.get? b = some o → g1.get? b = some o := fun b o hb e => by
    rw [← hg]
    exact (Heap.get?_update_ne _ _ _ _ hb).trans (Heap.get?_push_of_some _ e)
  show wpAny _ _ (PySem.Builtin.ObjectAttr.storeInDict s.heap.objs.size (.str name s.toks) name v) _ _ _
  unfold PySem.Builtin.ObjectAttr.storeInDict PySem.Builtin.ObjectAttr.newKeyGuard
  refine wpAny_bind (wpAny_pure (wpAny_bind (wpAny_nsSet1 (Heap.Ns1.of_empty hnd) fun h' hn' hs' => ?_)))
  obtain ⟨oD, esD, epD, hoD, hdD, hcD⟩ := hn'.count (Within.cons name v Within.nil)
  refine wpAny_bind (wpAny_lookBehind hoD (by rw [hdD]; exact pastItsLine_dict (Nat.le_trans hcD (by rw [List.length_cons, List.length_nil, sizeLine_eq]; omega))) ?_)
  refine wpAny_pure (h h' s.heap.objs.size (Nat.le_refl _) ((hs'.2 x hxs).trans hgx) hn' fun b o hb e => (hs'.2 b (Nat.ne_of_lt (Heap.lt_size e))).trans (hgo b o hb e))
end
section
variable {prog : Program} {w : World} {A : Around} {E : Value → Shared → Prop} {s : Shared} {K : PySem.W.Frag} {C x : Addr} {ox : Obj} {od : Option Obj} {name : Str} {v : Value}
end
end L2
set_option Elab.async false
set_option linter.all false
set_option maxRecDepth 100000
namespace L2
open PySem PySem.Spec PyProof.Rows
structure XC (K : PySem.W.Frag) (C : Addr) : Prop where
  xi : xIn K C = true
  ga : PySem.W.findIn K (.ref C) "__getattribute__" = some (some (.builtin "BaseException.__getattribute__"))
  na : PySem.W.findIn K (.ref C) "__getattr__" = some none
  sa : PySem.W.findIn K (.ref C) "__setattr__" = some (some (.builtin "object.__setattr__"))
  cl : PySem.W.findIn K (.ref C) "__class__" = some (some (.builtin "object.__class__"))
  gt : PySem.W.specialIn K (.builtin "object.__class__") "__get__" = some (some (.builtin "getset_descriptor.__get__"))
  tk : PySem.W.takesIn K (.builtin "object.__class__") = some true
section
variable {prog : Program} {w : World} {A : Around} {E : Value → Shared → Prop} {s : Shared} {K : PySem.W.Frag} {C x : Addr} {ox : Obj} {od : Option Obj}
end
end L2
set_option Elab.async false
set_option linter.all false
set_option maxRecDepth 100000
namespace L2
open PySem PySem.Spec PyProof.Rows
section
variable {X : Cx} {pins : List (Addr × Obj)} {σ : St} {H : Hp} {s : Shared} {h' : Heap}
theorem Inv.two {x a : Addr} {o1 o2 : HO} {t' : Nat} (I : Inv X pins σ H s) (mu : Mut (H x)) (hp : s.heap.objs.size ≤ a) (k : ∀ b u, b ≠ x → s.heap.get? b = some u → h'.get? b = some u) (hx : ∃ u, h'.get? x = some u)
    (n1 : ObjOk X.prog X.w (upd (upd H x o1) a o2) h' x o1) (n2 : ObjOk X.prog X.w (upd (upd H x o1) a o2) h' a o2) : Inv X pins σ (upd (upd H x o1) a o2) { s with heap := h', toks := t' } := by
  have ha : H a = none := I.hok.fresh hp
  have ne : ∀ b, H b = none → b ≠ x := fun b n z => by subst z; rw [n] at mu; exact mu
  have nm : ∀ b u, H b = some u → ¬ Mut (some u) → b ≠ x := fun b u q n z => by subst z; rw [q] at mu; exact n mu
  have old : ∀ b u, H b = some u → ¬ Mut (some u) → upd (upd H x o1) a o2 b = some u := fun b u q n => by rw [upd_ne (ne_of_none q ha), upd_ne (nm b u q n)]; exact q
  refine I.un ⟨fun b u e n _ _ => k b u (ne b n) e, fun b u e n _ _ => ⟨u.slots, k b u (ne b n) e⟩, fun b u e n _ => ?_, fun b u e _ => ?_, fun b xs e => old b _ e fun z => z, fun b o u e => old b _ e fun z => z, fun b ps e => ⟨#[], by rw [old b _ e fun z => z]; simp⟩⟩ fun b u e => ?_
  · rw [upd_ne (Nat.ne_of_lt (Nat.lt_of_lt_of_le (Heap.lt_size e) hp)), upd_ne (ne b n)]; exact n
  · by_cases z : b = x
    · subst z; exact hx
    · exact ⟨u, k b u z e⟩
  · by_cases z : b = a
    · subst z; rw [upd_same] at e; cases e; exact n2
    · rw [upd_ne z] at e
      by_cases z2 : b = x
      · subst z2; rw [upd_same] at e; cases e; exact n1
      · rw [upd_ne z2] at e
        refine (I.hok b u e).stay (fun c v hc q => ?_) (fun c q => old c _ q fun z => z) fun c xs q => old c _ q fun z => z
        rcases hc with hc | hc
        · subst hc; exact k c v z2 q
        · exact k c v (nm c _ hc fun z => z) q
end
section
variable {X : Cx} {o e value : Expr} {es : List Expr} {f x : Str} {p apos pos pos' tpos : Pos} {ta tv : TE} {t : TA} {C fa : Addr}
structure XMk (K : PySem.W.Frag) (C f : Addr) : Prop where
  c : XC K C
  init : PySem.W.findIn K (.ref C) "__init__" = some (some (.ref f))
  fn : PySem.W.isFn K (.ref f) = true
  kp : PySem.W.keepIn K (.ref C) = true
noncomputable def tXMake (C : Addr) (sp : Sp) (t : TA) : TE := fun σ H Q => t σ H fun vs H1 => vs.length ≤ 10 ∧ ∀ ea, H1 ea = none →
  sp (.ref ea :: vs) (upd H1 ea (.ext (ExO ea C none .none))) (fun v H2 => v = .non ∧ Q (.ref ea) H2) E0
theorem run_xmake {k : Nat} {fd : FuncData} {ps : List Str} {sp : Sp} {pins : List (Addr × Obj)} {σ : St} {H : Hp} {s : Shared} {Q : VK} {us : List Value} {vs : List V} (M : XMk X.K C fa) (F : FnOk X.prog X.w X.K X.mg X.base CX0 k fa fd ps sp)
    (hr : Room (k + 1) X.A) (hb : Binds X.K fd ps []) (I : Inv X pins σ H s) (r : Vals vs us) (hl10 : vs.length ≤ 10)
    (h : ∀ ea, H ea = none → sp (.ref ea :: vs) (upd H ea (.ext (ExO ea C none .none))) (fun v H2 => v = .non ∧ Q (.ref ea) H2) E0) :
    wpAny (model X.prog X.w) X.A (call (.ref C) us) (EP X pins σ Q) X.xe s := by
  have hq := h (s.heap.objs.size + 1) (I.hok.fresh (Nat.le_succ _))
  have hul : us.length ≤ sizeLine := by rw [← r.length, sizeLine_eq]; omega
  have kp : ∀ b o, s.heap.get? b = some o → ((s.heap.push { cls := .type "tuple", data := .seq us.toArray }).push (excObj C s.heap.objs.size)).get? b = some o := fun b o e => Heap.get?_push_of_some _ (Heap.get?_push_of_some _ e)
  have hget : ((s.heap.push { cls := .type "tuple", data := .seq us.toArray }).push (excObj C s.heap.objs.size)).get? (s.heap.objs.size + 1) = some (excObj C s.heap.objs.size) := by heap_get
  have I2 : Inv X pins σ (upd H (s.heap.objs.size + 1) (.ext (ExO (s.heap.objs.size + 1) C none .none))) { s with heap := (s.heap.push { cls := .type "tuple", data := .seq us.toArray }).push (excObj C s.heap.objs.size) } :=
    I.laid (t' := s.toks) kp (Nat.le_succ _) (exo_ok ⟨_, _, hget, rfl, rfl, rfl, rfl, rfl⟩)
  have r2 : Vals (V.ref (s.heap.objs.size + 1) :: vs) (Value.ref (s.heap.objs.size + 1) :: us) := .cons rfl r
  have hl : (Value.ref (s.heap.objs.size + 1) :: us ++ []).length = ps.length := by
    have e := r2.length
    rw [F.len _ _ _ _ hq] at e
    rw [List.append_nil]
    exact e.symm
  obtain ⟨hp, g, d, tk, os⟩ := s
  refine x_make I.kIn M.c.xi M.init (beq_iff_eq.mp M.fn) (wpAny_call (codeAny_mono (F.run _ X.stack _ _ ⟨Value.ref (hp.objs.size + 1) :: us, []⟩ (Value.ref (hp.objs.size + 1) :: us) _ _ E0 (hr.make C us [])
    (I2.env0.make C us []) (by have := hb _ (Value.ref (hp.objs.size + 1) :: us) I2.kIn hl; rw [List.append_nil] at this; exact this) r2 hq) fun r s' hq' => ?_)) hul
  cases r with
  | error e => exact False.elim hq'
  | ok fl =>
    cases fl with
    | ret u =>
      obtain ⟨v, H', I3, rv, ev, q3⟩ := I2.after hq'
      subst ev
      exact ⟨rv, ⟨V.ref (hp.objs.size + 1), H', I3, rfl, q3⟩⟩
    | next => exact False.elim hq'
    | brk => exact False.elim hq'
    | cont => exact False.elim hq'
theorem pe_xmake {k : Nat} {fd : FuncData} {ps : List Str} {sp : Sp} (M : XMk X.K C fa) (F : FnOk X.prog X.w X.K X.mg X.base CX0 k fa fd ps sp) (hr : Room (k + 1) X.A) (hg : Gl X x) (hm : X.mg x = some (.ref C)) (hb : Binds X.K fd ps [])
    (ha : PA X (e :: es) t) (hdb : (x == ("__debug__" : Str)) = false := by decide) (he : starEach (e :: es) X.env = (false, eval e X.env) :: starEach es X.env := by rfl) (hpl : (backTo pos (starEach es X.env)).any (·.1) = false := by rfl) :
    PE X (.Call (.Name x p) (e :: es) [] pos) (tXMake C sp t) := by
  intro pins s σ H Q I h
  refine wpAny_Call_Name_kw (ld_glob I hg hm ?_ hdb)
  refine PySem.W.callWith_K (h₀ := X.base) I.ok.mod.kin M.kp (thn (ha pos pins s σ H _ I h) fun us s1 ⟨vs, H1, I1, r, q⟩ => ⟨I1.kIn, ?_⟩) he hpl
  exact run_xmake M F hr hb I1 r q.1 q.2
inductive tRaise_P (K : PySem.W.Frag) (E : XK) (x : V) (H1 : Hp) : Prop
  | mk (ea C dx : _) (h1 : x = .ref ea) (h2 : xIn K C = true) (h3 : H1 ea = some (.ext (ExO ea C dx .none))) (h4 : Sure E C ea dx H1) : tRaise_P K E x H1
noncomputable def tRaise (K : PySem.W.Frag) (E : XK) (te : TE) : TS := fun _ σ H => te σ H fun x H1 => tRaise_P K E x H1
theorem ps_raise {E : XK} {te : TE} (th : Throws X E) (hc : X.calm = true) (he : PE X e te) : PS X (.Raise (some e) none pos) (tRaise X.K E te) := by
  intro pins s σ H D I h
  rw [arm_exec_Raise]
  refine wpAny_bind (wpAny_standAt ?_)
  simp only [evalOpt, Option.map]
  refine x_raise (I.ok.hd hc) (wpAny_bind (thn (he pins s σ H _ I h) fun u s1 ⟨x, H1, I1, rx, ea, C, dx, ex, xi, e1, sr⟩ => wpAny_bind (wpAny_standAt (wpAny_pure ?_))))
  subst ex
  obtain rfl : u = Value.ref ea := rx
  obtain ⟨⟨oe, vs, hx, hcl, hdx, hd, hz, h1⟩, _, _⟩ := (show ObjOk X.prog X.w H1 s1.heap ea (.ext (ExO ea C dx .none)) from I1.hok ea _ e1)
  exact ⟨ea, C, oe, vs, X.K, rfl, I1.kIn, xi, hx, hcl, hd, h1, th pins σ H1 s1 ea C dx I1 ⟨.none, e1, .inl rfl⟩ sr⟩
inductive tVInit_P (K : PySem.W.Frag) (Q : VK) (vs : List V) (H1 : Hp) : Prop
  | mk (ea C dx tb rest : _) (h1 : vs = .ref ea :: rest) (h2 : rest.length ≤ 10) (h3 : H1 ea = some (.ext (ExO ea C dx tb))) (h4 : xIn K C = true) (h5 : Q .non H1) : tVInit_P K Q vs H1
noncomputable def tVInit (K : PySem.W.Frag) (t : TA) : TE := fun σ H Q => t σ H fun vs H1 => tVInit_P K Q vs H1
theorem upd_self {H : Hp} {a : Addr} {o : HO} (h : H a = some o) : upd H a o = H := by
  funext b
  unfold upd
  split
  · rename_i e; rw [e, h]
  · rfl
theorem vinit_cls : PySem.W.findCls [] (.type "ValueError") (.type "type") "__init__" = some (.val (.builtin "ValueError.__init__")) := by kernel_rfl
theorem pe_vinit {pl : Sem Bool} (hg : Gl X x) (hm : X.mg x = none) (hv : bootBuiltins x = some (.type "ValueError")) (ha : PA X (e :: es) t) (hn : x ≠ "__name__" := by decide) (hdb : (x == ("__debug__" : Str)) = false := by decide)
    (hst : starEach (e :: es) X.env = (false, eval e X.env) :: starEach es X.env := by rfl) (hpl : (backTo pos (starEach es X.env)).any (·.1) = false := by rfl)
    (ht : eval (.Call (.Attribute (.Name x p) "__init__" apos) (e :: es) [] pos) X.env = (do
      let ov ← eval (.Name x p) X.env
      standAt apos.atName
      let (f, first) ← holding [ov] (getMethod ov "__init__" pl)
      callWith pos f first (backTo pos (starEach (e :: es) X.env)) (backToKw pos (keywordEach [] X.env))) := by rfl) :
    PE X (.Call (.Attribute (.Name x p) "__init__" apos) (e :: es) [] pos) (tVInit X.K t) := by
  intro pins s σ H Q I h
  refine PySem.W.methodCall_KW (pl := pl) (ld_blt I hg hm hv ?_ hn hdb) ht
  obtain ⟨m, F⟩ := I.fr
  refine PySem.W.method_type (v := .builtin "ValueError.__init__") F I.mod.kin (by kernel_rfl) (by decide +kernel) vinit_cls rfl ?_
  have I0 := I.tok (s.toks + 1)
  refine PyProof.Rows.callWith_builtin1 (thn (ha pos pins _ σ H _ I0 h) fun us s1 zz_ => ?_) hst hpl
  obtain ⟨vs, H1, I1, r, ea, C, dx, tb, rest, ev, hl, e1, xi, q⟩ := zz_
  subst ev
  obtain ⟨u0, us0, rfl, r0, r1⟩ : ∃ u0 us0, us = u0 :: us0 ∧ RelV (.ref ea) u0 ∧ Vals rest us0 := by
    cases r with
    | cons a b => exact ⟨_, _, rfl, a, b⟩
  obtain rfl : u0 = Value.ref ea := r0
  obtain ⟨⟨oe, vs, hx, hcl, hdx, hd, hz, h1⟩, _, _⟩ := (show ObjOk X.prog X.w H1 s1.heap ea (.ext (ExO ea C dx tb)) from I1.hok ea _ e1)
  refine x_binit I1.kIn xi hx hcl hd hz (by rw [← r1.length, sizeLine_eq]; omega) fun h' tp k1 k2 => ⟨.non, H1, ?_, rfl, q⟩
  have J : Inv X pins σ (upd H1 ea (.ext (ExO ea C dx tb))) { s1 with heap := h', toks := s1.toks } := by
    refine I1.write (x := ea) (e := ea) (by rw [e1]; exact True.intro) (.inl rfl) k1 ⟨_, k2⟩ (exo_ok ⟨_, _, k2, (Obj.cls_mapFields _ _).trans hcl, ?_, Obj.data_mapFields hd _, by simp [hz], ?_⟩)
    · rw [← hdx]
      obtain ⟨oc, od, odt, osl⟩ := oe
      have hd' : odt = .fields vs := hd
      subst hd'
      rfl
    · rw [Array.getElem?_setIfInBounds_ne (by decide)]; exact h1
  rw [upd_self e1] at J
  exact J
structure CInit (K : PySem.W.Frag) (C f : Addr) : Prop where
  sp : PySem.W.specialIn K (.ref C) "__getattribute__" = some (some (.builtin "type.__getattribute__"))
  rd : PySem.W.readsIn K C (.type "type") = true
  at_ : PySem.W.findCls K (.ref C) (.type "type") "__init__" = some (.val (.ref f))
  kp : PySem.W.keepIn K (.ref f) = true
theorem pe_cinit {k : Nat} {fd : FuncData} {ps : List Str} {sp : Sp} {pl : Sem Bool} (c : CInit X.K C fa) (F : FnOk X.prog X.w X.K X.mg X.base CX0 k fa fd ps sp) (hr : Room k X.A) (hb : Binds X.K fd ps []) (hg : Gl X x) (hm : X.mg x = some (.ref C))
    (ha : PA X (e :: es) t) (hdb : (x == ("__debug__" : Str)) = false := by decide)
    (hst : starEach (e :: es) X.env = (false, eval e X.env) :: starEach es X.env := by rfl) (hpl : (backTo pos (starEach es X.env)).any (·.1) = false := by rfl)
    (ht : eval (.Call (.Attribute (.Name x p) "__init__" apos) (e :: es) [] pos) X.env = (do
      let ov ← eval (.Name x p) X.env
      standAt apos.atName
      let (f, first) ← holding [ov] (getMethod ov "__init__" pl)
      callWith pos f first (backTo pos (starEach (e :: es) X.env)) (backToKw pos (keywordEach [] X.env))) := by rfl) :
    PE X (.Call (.Attribute (.Name x p) "__init__" apos) (e :: es) [] pos) (tCall sp [] E0 t) := by
  intro pins s σ H Q I h
  refine PySem.W.methodCall_KW (pl := pl) (ld_glob I hg hm ?_ hdb) ht
  refine PySem.W.method_cls I.kIn c.sp (PySem.W.cls_value I.kIn c.rd c.at_ rfl ?_)
  have I0 := I.tok (s.toks + 1)
  refine PySem.W.callWith_K (h₀ := X.base) I.ok.mod.kin c.kp (thn (ha pos pins _ σ H _ I0 h) fun us s1 ⟨vs, H1, I1, r, q⟩ => ⟨I1.kIn, ?_⟩) hst hpl
  exact run_fn F hr hb .nil pass0 I1 r q
noncomputable def sXFld (K : PySem.W.Frag) (ta tv : TE) (f : Str) : TS := fun D σ H => tv σ H fun y H1 => ta σ H1 fun x H2 => ∃ ea C tb, x = .ref ea ∧ H2 ea = some (.ext (ExO ea C none tb)) ∧ XC K C ∧ NoAttr K C f ∧
  ∀ dx, H2 dx = none → dx ≠ ea → D.nx σ (upd (upd H2 ea (.ext (ExO ea C (some dx) tb))) dx (.xd [(f, y)]))
theorem ps_xfld (ha : PE X o ta) (hv : PE X value tv) (hs : swapsWith value (some (.Attribute o f pos')) pos.line X.env = pure false) : PS X (.Assign [.Attribute o f pos'] value pos) (sXFld X.K ta tv f) := by
  intro pins s σ H D I h
  refine plainObj_wpAny_Assign_Attribute (thn (hv pins s σ H _ I h) fun u s1 ⟨y, H1, I1, ry, q⟩ => thn (ha pins s1 σ H1 _ I1 q) fun ov s2 zz_ => ?_) hs
  obtain ⟨x, H2, I2, rx, ea, C, tb, ex, e1, c, n, q2⟩ := zz_
  subst ex
  obtain rfl : ov = Value.ref ea := rx
  obtain ⟨⟨oe, vs, hx, hcl, hdx, hd, hz, h1⟩, _, _⟩ := (show ObjOk X.prog X.w H2 s2.heap ea (.ext (ExO ea C none tb)) from I2.hok ea _ e1)
  refine x_set I2.kIn c.xi hx hcl hd hdx c.sa n fun h' dx hp k1 k2 k3 => ⟨σ, _, ?_, q2 dx (I2.hok.fresh hp) (Nat.ne_of_gt (Nat.lt_of_lt_of_le (Heap.lt_size hx) hp))⟩
  refine I2.two (by rw [e1]; exact True.intro) hp k3 ⟨_, k1⟩ (exo_ok ⟨_, _, k1, hcl, rfl, hd, hz, h1⟩) ⟨_, k2, fun g => ?_⟩
  by_cases z : g = f
  · subst z; simp [List.lookup]; exact ry
  · have : (g == f) = false := by simp [z]
    simp [List.lookup, this, z]; exact True.intro
noncomputable def xIsa (K : PySem.W.Frag) (C : Addr) : V → Option Bool
  | .ref D => if (PySem.W.clsIn K D).isSome && PySem.W.typeIn K (.ref D) == some (.type "type") then PySem.W.subIn K (.ref C) (.ref D) else none
  | .ty T => if T == "ValueError" then some true else none
  | _ => none
end
end L2
set_option Elab.async false
set_option linter.all false
set_option maxRecDepth 100000
namespace L2
open PySem PySem.Spec PyProof.Rows
noncomputable abbrev deadX (X : Cx) : Cx := { X with xe := fun _ _ => False }
noncomputable abbrev markX (X : Cx) (ea : Addr) : Cx := { X with A := X.A.mark (some (.ref ea)), calm := false, xe := fun _ _ => False }
section
variable {X : Cx} {pins : List (Addr × Obj)} {σ : St} {H : Hp} {s : Shared}
theorem Inv.dead (I : Inv X pins σ H s) : Inv (deadX X) pins σ H s := by
  obtain ⟨⟨a1, a2, a3, a4, a5, a6, a7, a8, a9, a10, a11, a12, a13, a14, a15, a16, a17, a18⟩, b1, b2, b3, b4, b5, b6, b7, b8, b9, b10⟩ := I
  exact ⟨⟨a1, a2, a3, a4, a5, a6, a7, a8, a9, a10, a11, a12, a13, a14, a15, a16, a17, a18⟩, b1, b2, b3, b4, b5, b6, b7, b8, b9, b10⟩
theorem Inv.live (I : Inv (deadX X) pins σ H s) : Inv X pins σ H s := by
  obtain ⟨⟨a1, a2, a3, a4, a5, a6, a7, a8, a9, a10, a11, a12, a13, a14, a15, a16, a17, a18⟩, b1, b2, b3, b4, b5, b6, b7, b8, b9, b10⟩ := I
  exact ⟨⟨a1, a2, a3, a4, a5, a6, a7, a8, a9, a10, a11, a12, a13, a14, a15, a16, a17, a18⟩, b1, b2, b3, b4, b5, b6, b7, b8, b9, b10⟩
theorem Inv.mark (I : Inv X pins σ H s) (ea : Addr) : Inv (markX X ea) pins σ H s := by
  obtain ⟨⟨a1, a2, a3, a4, a5, a6, a7, a8, a9, a10, a11, a12, a13, a14, a15, a16, a17, a18⟩, b1, b2, b3, b4, b5, b6, b7, b8, b9, b10⟩ := I
  exact ⟨⟨a1, a2, a3, a4, a5, a6, a7, a8, fun z => (nomatch z), a10, a11, a12, a13, a14, a15, a16, a17, a18⟩, b1, b2, b3, b4, b5, b6, b7, b8, b9, b10⟩
theorem Inv.unmark {ea : Addr} {A0 : Prop} (k : X.Ok) (I : Inv (markX X ea) pins σ H s) : Inv X pins σ H s := by
  obtain ⟨_, b1, b2, b3, b4, b5, b6, b7, b8, b9, b10⟩ := I
  exact ⟨k, b1, b2, b3, b4, b5, b6, b7, b8, b9, b10⟩
end
section
variable {M : Model} {A : Around} {E : Value → Shared → Prop} {s : Shared}
end
noncomputable abbrev XTE := St → Hp → VK → XK → Prop
noncomputable abbrev XTS := Ends → XK → St → Hp → Prop
noncomputable def Wish (X : Cx) (pins : List (Addr × Obj)) (σ : St) (E : XK) (Ex : Value → Shared → Prop) : Prop :=
  ∀ (ea C : Addr) (dx : Option Addr) (H' : Hp) (s' : Shared), Inv X pins σ H' s' → XAt H' ea C dx → Sure E C ea dx H' → Ex (.ref ea) s'
noncomputable def PEX (X : Cx) (e : Expr) (t : XTE) : Prop :=
  ∀ (pins : List (Addr × Obj)) (s : Shared) (σ : St) (H : Hp) (Q : VK) (E : XK) (Ex : Value → Shared → Prop), Inv X pins σ H s → t σ H Q E → Wish X pins σ E Ex → wpAny (model X.prog X.w) X.A (eval e X.env) (EP X pins σ Q) Ex s
noncomputable def PX (X : Cx) (st : List Stmt) (t : XTS) : Prop :=
  ∀ (pins : List (Addr × Obj)) (s : Shared) (σ : St) (H : Hp) (D : Ends) (E : XK) (Ex : Value → Shared → Prop), Inv X pins σ H s → t D E σ H → Wish X pins σ E Ex → wpAny (model X.prog X.w) X.A (execs st X.env) (SP X pins D) Ex s
section
variable {X : Cx} {e o c : Expr} {es : List Expr} {a b : List Stmt} {x m : Str} {p pos apos : Pos} {ta : TE} {t : TA} {tc : TT} {f C : Addr} {fd : FuncData} {ps : List Str} {sp : Sp} {k : Nat}
theorem any_of_dead {α : Type} {u : Sem α} {Q : α → Shared → Prop} {M : Model} {A : Around} {Ex : Value → Shared → Prop} {s : Shared} (h : wpAny M A u Q (fun _ _ => False) s) : wpAny M A u Q Ex s := wpAny_mono h (fun _ _ z => z) fun _ _ z => z.elim
theorem run_fnX {pins : List (Addr × Obj)} {σ : St} {H : Hp} {s : Shared} {Q : VK} {E : XK} {Ex : Value → Shared → Prop} {us : List Value} {vs : List V} (F : FnOk X.prog X.w X.K X.mg X.base (CX1 X.prog X.w) k f fd ps sp) (hr : Room k X.A) (hb : Binds X.K fd ps [])
    (I : Inv X pins σ H s) (r : Vals vs us) (h : sp vs H Q E) (w : Wish X pins σ E Ex) : wpAny (model X.prog X.w) X.A (call (.ref f) us) (EP X pins σ Q) Ex s := by
  have hl : (us ++ []).length = ps.length := by rw [List.append_nil, ← r.length]; exact F.len _ _ _ _ h
  have hbb := hb s us I.kIn hl
  rw [List.append_nil] at hbb
  refine wpAny_call (codeAny_mono (F.run X.A X.stack s H ⟨us, []⟩ us vs Q E hr I.env0 hbb r h) fun r s' hq => ?_)
  cases r with
  | error e =>
    obtain ⟨ea, C, dx, H', e1, os, bare, un, hok, x, q⟩ := hq
    subst e1
    exact w ea C dx H' s' (I.call' os un hok bare fun b z => absurd z (by simp)) x q
  | ok fl =>
    cases fl with
    | ret u => exact I.after hq
    | next => exact False.elim hq
    | brk => exact False.elim hq
    | cont => exact False.elim hq
noncomputable def xCall (sp : Sp) (t : TA) : XTE := fun σ H Q E => t σ H fun vs H1 => sp vs H1 Q E
theorem pex_call (F : FnOk X.prog X.w X.K X.mg X.base (CX1 X.prog X.w) k f fd ps sp) (hr : Room k X.A) (hg : Gl X x) (hm : X.mg x = some (.ref f)) (hk : PySem.W.keepIn X.K (.ref f) = true) (hb : Binds X.K fd ps [])
    (ha : PA (deadX X) (e :: es) t) (hdb : (x == ("__debug__" : Str)) = false := by decide) (he : starEach (e :: es) X.env = (false, eval e X.env) :: starEach es X.env := by rfl) (hpl : (backTo pos (starEach es X.env)).any (·.1) = false := by rfl) :
    PEX X (.Call (.Name x p) (e :: es) [] pos) (xCall sp t) := by
  intro pins s σ H Q E Ex I h w
  refine wpAny_Call_Name_kw (ld_glob I hg hm ?_ hdb)
  refine PySem.W.callWith_K (h₀ := X.base) I.ok.mod.kin hk (thn (any_of_dead (ha pos pins s σ H _ I.dead h)) fun us s1 ⟨vs, H1, I1, r, q⟩ => ⟨I1.kIn, ?_⟩) he hpl
  exact run_fnX F hr hb I1.live r q w
end
end L2
set_option Elab.async false
set_option linter.all false
set_option maxRecDepth 100000
namespace L2
open PySem PySem.Spec PyProof.Rows
noncomputable def isTyp (v : Value) : Bool := match v with
  | .type s => s == "type"
  | _ => false
noncomputable def isNew (v : Option Value) : Bool := match v with
  | some (.builtin s) => s == "ValueError.__new__"
  | _ => false
noncomputable def mroC (C : Addr) (l : List Value) : Bool := match l with
  | .ref C1 :: bm => C1 == C && xTail bm
  | _ => false
noncomputable def xOb (C : Addr) (o : Obj) : Bool := match o.data with
  | .cls cd => isTyp o.cls && mroC C cd.mro && !cd.hasDel && cd.hasDict && o.slots.size == 6 && isNew (o.slots.getD 4 none)
  | _ => false
theorem isTyp_eq {v : Value} (h : isTyp v = true) : v = .type "type" := by
  cases v with
  | type s => rw [eq_of_beq (show (s == "type") = true from h)]
  | _ => cases h
theorem isNew_eq {v : Option Value} (h : isNew v = true) : v = some (.builtin "ValueError.__new__") := by
  cases v with
  | none => cases h
  | some v =>
    cases v with
    | builtin s => rw [eq_of_beq (show (s == "ValueError.__new__") = true from h)]
    | _ => cases h
theorem mroC_eq {C : Addr} {l : List Value} (h : mroC C l = true) : ∃ bm, l = .ref C :: bm ∧ xTail bm = true := by
  cases l with
  | nil => cases h
  | cons v bm =>
    cases v with
    | ref C1 =>
      have h' : (C1 == C && xTail bm) = true := h
      rw [Bool.and_eq_true] at h'
      exact ⟨bm, by rw [eq_of_beq h'.1], h'.2⟩
    | _ => cases h
theorem six {α : Type} {l : List α} (h : l.length = 6) : ∃ a b c d e f, l = [a, b, c, d, e, f] := by
  obtain ⟨a, l, rfl⟩ := List.exists_cons_of_length_eq_add_one h
  obtain ⟨b, l, rfl⟩ := List.exists_cons_of_length_eq_add_one (Nat.succ.inj h)
  obtain ⟨c, l, rfl⟩ := List.exists_cons_of_length_eq_add_one (Nat.succ.inj (Nat.succ.inj h))
  obtain ⟨d, l, rfl⟩ := List.exists_cons_of_length_eq_add_one (Nat.succ.inj (Nat.succ.inj (Nat.succ.inj h)))
  obtain ⟨e, l, rfl⟩ := List.exists_cons_of_length_eq_add_one (Nat.succ.inj (Nat.succ.inj (Nat.succ.inj (Nat.succ.inj h))))
  obtain ⟨f, l, rfl⟩ := List.exists_cons_of_length_eq_add_one (Nat.succ.inj (Nat.succ.inj (Nat.succ.inj (Nat.succ.inj (Nat.succ.inj h)))))
  have : l = [] := List.eq_nil_of_length_eq_zero (Nat.succ.inj (Nat.succ.inj (Nat.succ.inj (Nat.succ.inj (Nat.succ.inj (Nat.succ.inj h))))))
  subst this
  exact ⟨a, b, c, d, e, f, rfl⟩
theorem xIn_of {K : PySem.W.Frag} {C : Addr} {o : Obj} (h : K.lookup C = some o) (q : xOb C o = true) : xIn K C = true := by
  obtain ⟨oc, dd, od, ⟨sl⟩⟩ := o
  cases od with
  | cls cd =>
    have q' : (isTyp oc && mroC C cd.mro && !cd.hasDel && cd.hasDict && sl.length == 6 && isNew ((Array.mk sl).getD 4 none)) = true := q
    simp only [Bool.and_eq_true, beq_iff_eq, Bool.not_eq_true'] at q'
    obtain ⟨⟨⟨⟨⟨q0, q1⟩, q2⟩, q3⟩, q4⟩, q5⟩ := q'
    obtain ⟨bm, hm, hx⟩ := mroC_eq q1
    obtain ⟨k0, k1, k2, k3, k4, k5, rfl⟩ := six q4
    have e4 : k4 = some (.builtin "ValueError.__new__") := isNew_eq q5
    have e0 := isTyp_eq q0
    obtain ⟨nm, bs, mro, ns, qn, hdc, sn, sub, ab, col, del⟩ := cd
    dsimp only at hm q2 q3
    subst hm q2 q3 e4 e0
    exact xIn_iff.mpr ⟨nm, qn, ns, bs, bm, sn, sub, ab, col, dd, k0, k1, k2, k3, k5, h, hx⟩
  | _ => cases q
theorem xIsa_of {K : PySem.W.Frag} {C D : Addr} {b : Bool} (h1 : PySem.W.isClsIn K D = true) (h2 : PySem.W.typeIn K (.ref D) = some (.type "type")) (h3 : PySem.W.subIn K (.ref C) (.ref D) = some b) : xIsa K C (.ref D) = some b := by
  unfold xIsa
  have h1' : (PySem.W.clsIn K D).isSome = true := h1
  simp only [h1', h2, Bool.true_and, beq_self_eq_true, if_true]
  exact h3
theorem dead1 {P : Program} {w : World} {X : Cx} : Passes (CX1 P w) X E0 := fun _ _ _ _ _ _ _ ⟨_, _, _, H', _, _, _, _, _, x, q⟩ => (q H' (fun _ _ _ e => e) x).elim
noncomputable def Rz (C : Addr) (f : Str) (v : V) (H : Hp) (E : XK) : Prop := ∀ (ea dx : Addr) (H' : Hp), Same H H' → H ea = none → H dx = none → H' dx = some (.xd [(f, v)]) → XAt H' ea C (some dx) → E (.ref C) (some ea) H'
theorem Rz.same {C : Addr} {f : Str} {v : V} {H G : Hp} {E : XK} (h : Rz C f v H E) (s : Same H G) : Rz C f v G E := fun ea dx H' s' n1 n2 e x => h ea dx H' (s.trans s') (s.none n1) (s.none n2) e x
theorem Rz.sure {C : Addr} {f : Str} {v : V} {H : Hp} {E : XK} (h : Rz C f v H E) {ea dx : Addr} {tb : Value} (n1 : H ea = none) (n2 : H dx = none) (ne : dx ≠ ea) :
    Sure E C ea (some dx) (upd (upd (upd H ea (.ext (ExO ea C none .none))) ea (.ext (ExO ea C (some dx) tb))) dx (.xd [(f, v)])) := by
  intro H' k x
  refine h ea dx H' (fun b o e => k b o (ne_of_none e n1) ?_) n1 n2 (k dx _ ne upd_same) x
  rw [upd_ne (ne_of_none e n2), upd_ne (ne_of_none e n1), upd_ne (ne_of_none e n1)]
  exact e
section
variable {P : Program} {w : World} {K : PySem.W.Frag} {mg : Str → Option Value} {base : Heap}
theorem Fun.okX {x qual : Str} {st : Stmt} {f : Addr} {fd : FuncData} {N ps : List Str} {k : Nat} {sp : Sp} (F : Fun K x qual st f fd) (S : FnScope N ps (defScope st)) (len : ∀ vs H Q E, sp vs H Q E → vs.length = ps.length)
    (hbody : ∀ (cdv : Value) (A : Around) (outer : List Env) (s : Shared) (H : Hp) (vs : List V) (Q : VK) (E : XK), Room k (A.deeper (envOfC qual (defScope st) s.heap.objs.size f cdv)) → sp vs H Q E →
      ∃ t, PSs (cxOf (CX1 P w) P w K mg base N qual (defScope st) f cdv A outer s H E) (defBody st) t ∧ t { nx := fun _ H' => Q .non H', rt := Q } (start N vs) H) : FnOk P w K mg base (CX1 P w) (k + 1) f fd ps sp := by
  obtain ⟨oc, od, kV, doc, pm, an, cdv, ct, osl, rfl, lk, hcd⟩ := F.ex
  exact fn_of lk hcd S len fun A outer s H vs Q E hr hsp => hbody cdv A outer s H vs Q E hr hsp
end
end L2
set_option Elab.async false
set_option linter.all false
set_option maxRecDepth 100000
namespace L2
open PySem PySem.Spec PyProof.Rows
noncomputable def CDivB (i j : Int) : Prop := 0 < j ∧ j < 18446744073709551616
theorem op_fdivB {X : Cx} : OpR X (binaryOp .FloorDiv) (rI CDivB fun i j => .int (i / j)) := opI fun i j _ _ _ _ _ hc q => by
  have h1 : (0 : Int) < j := hc.1
  have h2 : j < 18446744073709551616 := hc.2
  have h3 : j.natAbs < 2 ^ 64 := by omega
  have h4 : j.natAbs.log2 < 64 := (Nat.log2_lt (by omega)).mpr h3
  exact floordiv_int (by omega) (by rw [Int.fdiv_eq_ediv_of_nonneg i (by omega)]; exact q) (.inl (PyProof.noPylong_of_log2 (by omega)))
theorem CompOk.defX {CX : CXT} {P : Program} {w : World} {K : PySem.W.Frag} {mg : Str → Option Value} {base : Heap} {N0 : List Str} {qual : Str} {sc0 : Scope} {f : Addr} {cd : Value} {A : Around} {outer : List Env} {s : Shared} {H : Hp} {E : XK} {scope : Scope}
    (N : List Str) (js : List (Option Nat)) (hk0 : sc0.kind = .function := by rfl) (hk : scope.kind = .function := by rfl) (hcell : ∀ y ∈ scope.names, y.2 ≠ .cell := by decide +kernel) (hnames : ∀ y ∈ scope.names, y.2 = .local → scope.names.lookup y.1 = some .local := by decide +kernel)
    (hfr0 : ∀ y ∈ scope.names, y.2 = .free → sc0.names.lookup y.1 = some .cell := by decide +kernel) (len : js.length = N.length := by rfl) (hfr : frChk scope N0 N js = true := by decide +kernel) :
    CompOk (cxOf CX P w K mg base N0 qual sc0 f cd A outer s H E) scope N (compCl (cxOf CX P w K mg base N0 qual sc0 f cd A outer s H E).env.cells scope.names []) js :=
  CompOk.of hk hcell hnames hk0 (fun y hy z => ⟨hfr0 y hy z, Option.isSome_iff_exists.mp (PySem.W.cellsFrom_some _ _ _ (.inl (hfr0 y hy z)))⟩) len (frChk_of hfr)
end L2
set_option Elab.async false
set_option linter.all false
set_option maxRecDepth 100000
namespace L2
open PySem PySem.Spec PyProof.Rows
theorem xself {K : PySem.W.Frag} {C : Addr} (q : xIn K C = true) : PySem.W.mroIn K C (.ref C) = some true := by
  obtain ⟨cd, bm, h1, h2, _, _⟩ := xcd q
  unfold PySem.W.mroIn
  rw [h1, Option.bind_some, h2, if_neg (by simp)]
  simp
end L2
set_option Elab.async false
set_option linter.all false
set_option maxRecDepth 100000
namespace L2
open PySem PySem.Spec PyProof.Rows
end L2
set_option Elab.async false
set_option linter.all false
set_option maxRecDepth 100000
namespace Srt
open PySem PySem.W PyProof.Rows
section
variable {lt : Nat → Nat → Bool} {n : Nat}
end
end Srt
set_option Elab.async false
set_option linter.all false
set_option maxRecDepth 100000
namespace L2
open PySem PySem.Spec PyProof.Rows
theorem ObjOk.lies {P : Program} {w : World} {H : Hp} {h : Heap} {a : Addr} {o : HO} (x : ObjOk P w H h a o) : ∃ ob, h.get? a = some ob := by
  cases o with
  | lst xs => obtain ⟨_, _, _, _, e⟩ := x; exact ⟨_, e⟩
  | tup xs => obtain ⟨_, _, _, o, e, _⟩ := x; exact ⟨_, e⟩
  | dK kvs => obtain ⟨_, _, _, _, o, _, _, e, _⟩ := x; exact ⟨_, e⟩
  | dT kvs => obtain ⟨_, _, _, _, o, _, _, e, _⟩ := x; exact ⟨_, e⟩
  | set S n => obtain ⟨o, _, _, _, e, _⟩ := x; exact ⟨_, e⟩
  | ins C dx fs => obtain ⟨_, _, _, e, _⟩ := x; exact ⟨_, e⟩
  | own y => obtain ⟨_, e⟩ := x; exact ⟨_, e⟩
  | xd fs => obtain ⟨_, ⟨_, _, _, e, _⟩, _⟩ := x; exact ⟨_, e⟩
  | rng lo hi => obtain ⟨_, _, _, e⟩ := x; exact ⟨_, e⟩
  | frz ob u => obtain ⟨e, _⟩ := x; exact ⟨_, e⟩
  | tbl ps => exact ⟨_, (show h.get? a = some _ from x)⟩
  | met f y => exact ⟨_, (show h.get? a = some _ from x)⟩
  | ext φ => obtain ⟨_, ⟨_, e⟩, _⟩ := x; exact ⟨_, e⟩
section
variable {X : Cx} {pins : List (Addr × Obj)} {σ : List (Option V)} {H : Hp} {s : Shared} {h' : Heap}
theorem Inv.unlaid {a : Addr} (I : Inv X pins σ H s) (e : s.heap.get? a = none) : H a = none := by
  cases q : H a with
  | none => rfl
  | some o =>
    obtain ⟨ob, z⟩ := (I.hok a o q).lies
    rw [e] at z; cases z
theorem Inv.laidL {a : Addr} {o : HO} {t' : Nat} (I : Inv X pins σ H s) (k : ∀ b u, b ≠ X.env.locals → s.heap.get? b = some u → h'.get? b = some u) (ns : ∀ m, s.heap.Ns X.env.locals m → h'.Ns X.env.locals m)
    (hp : s.heap.get? a = none) (new : ObjOk X.prog X.w (upd H a o) h' a o) : Inv X pins σ (upd H a o) { s with heap := h', toks := t' } := by
  have hn : H a = none := I.unlaid hp
  have nL : ∀ b u, H b = some u → b ≠ X.env.locals := fun b u e z => by rw [z, I.free] at e; cases e
  have na : ∀ b u, s.heap.get? b = some u → b ≠ a := fun b u q z => by rw [z, hp] at q; cases q
  refine I.step (g' := s.gens) (d' := s.drawn) (ch := []) (fun _ z => nomatch z) (fun b o hb _ _ e _ => k b o hb e) (fun b o hb _ _ e _ => ⟨o.slots, k b o hb e⟩) (fun b o _ e n => by rw [upd_ne (na b o e)]; exact n) (fun b o _ e => ?_)
    (fun b xs q => by rw [upd_ne (ne_of_none q hn)]; exact q) (fun b u xs q => by rw [upd_ne (ne_of_none q hn)]; exact q) (fun b ps q => ⟨#[], by rw [upd_ne (ne_of_none q hn), q]; simp⟩) ns (fun b u e => ?_) I.bare
  · by_cases z : b = X.env.locals
    · obtain ⟨m, hm, _⟩ := I.loc
      obtain ⟨o', _, _, ho', _⟩ := ns m hm
      exact ⟨o', by rw [z]; exact ho'⟩
    · exact ⟨o, k b o z e⟩
  · by_cases z : b = a
    · subst z; rw [upd_same] at e; cases e; exact new
    · rw [upd_ne z] at e
      refine (I.hok b u e).stay (fun c v hc q => k c v ?_ q) (fun c q => by rw [upd_ne (ne_of_none q hn)]; exact q) fun c xs q => by rw [upd_ne (ne_of_none q hn)]; exact q
      rcases hc with z | z
      · rw [z]; exact nL b u e
      · exact nL c _ z
end
section
variable {X : Cx} {pins : List (Addr × Obj)} {σ : List (Option V)} {H : Hp} {s : Shared} {h' : Heap}
theorem ints_are : ∀ {ns : List Int} {vs : List Value}, Vals (ns.map V.int) vs → IntsAre vs ns
  | [], _, .nil => .nil
  | n :: ns, _, .cons r t => by
    obtain ⟨tk, rfl⟩ := (show ∃ t, _ = Value.int n t from r)
    exact .cons n tk (ints_are t)
theorem ints_of : ∀ {ns : List Int} {vs : List Value}, IntsAre vs ns → Vals (ns.map V.int) vs
  | _, _, .nil => .nil
  | _, _, .cons n t r => .cons ⟨t, rfl⟩ (ints_of r)
end
end L2
set_option Elab.async false
set_option linter.all false
set_option maxRecDepth 100000
namespace L2
open PySem PySem.Spec PyProof.Rows
section
variable {prog : Program} {w : World} {A : Around} {s : Shared}
end
section
variable {X : Cx} {pins : List (Addr × Obj)} {σ : List (Option V)} {H : Hp} {s : Shared}
end
end L2
set_option Elab.async false
set_option linter.all false
set_option maxRecDepth 100000
namespace L2
open PySem PySem.Spec PyProof.Rows
section
variable {prog : Program} {w : World} {A : Around} {E : Value → Shared → Prop} {s : Shared}
end
section
variable {X : Cx}
end
end L2
set_option Elab.async false
set_option linter.all false
set_option maxRecDepth 100000
namespace L2
open PySem PySem.Spec PyProof.Rows
section
variable {X : Cx} {pins : List (Addr × Obj)} {σ : List (Option V)} {H : Hp} {s : Shared} {h' : Heap}
end
end L2
set_option Elab.async false
set_option linter.all false
set_option maxRecDepth 100000
namespace L2
open PySem PySem.Spec PyProof.Rows
section
variable {X : Cx} {pins : List (Addr × Obj)} {σ : List (Option V)} {H : Hp} {s : Shared} {pos : Pos}
end
end L2
set_option Elab.async false
set_option linter.all false
set_option maxRecDepth 100000
namespace L2
open PySem PySem.Spec PyProof.Rows
end L2
set_option Elab.async false
set_option linter.all false
set_option maxRecDepth 100000
namespace L2
open PySem PySem.Spec PyProof.Rows
section
variable {M : Model} {A : Around} {E : Value → Shared → Prop} {s : Shared}
theorem x_matchesB {K : PySem.W.Frag} {C L x : Addr} {ox : Obj} {Q : Bool → Shared → Prop} {b : Bool} (X : K.In s.heap) (xc : xIn K C = true) (xl : xIn K L = true) (hm : PySem.W.mroIn K C (.ref L) = some b) (hx : s.heap.get? x = some ox) (hc : ox.cls = .ref C)
    (h : Q b s) : wpAny M A (excMatches (.ref x) (.ref L)) Q E s := by
  obtain ⟨hp, g, d, tk, os⟩ := s
  obtain ⟨nm, qn, N, bs, bm, sn, sub, ab, col, dd, k0, k1, k2, k3, k5, hC, hxt⟩ := xcls X xl
  have hcB : (Value.ref L :: bm).contains (.type "BaseException") = true := by rw [List.contains_cons, xTail_has (v := true) (by decide +kernel) hxt, Bool.or_true]
  have f := tc_notTuple
  have LL := PySem.W.looks_mroIn (M := M) X hm
  cases b <;> unfold excMatches <;> repeat (first
    | (with_reducible refine wpAny_loadPart_at hx ?_; rw [hc])
    | with_reducible refine wpAny_loadPart_at hC ?_
    | (with_reducible refine wpAny_isSubtype_exc hC ?_; rw [hcB])
    | (with_reducible refine LL.at ?_)
    | wp_step)
  all_goals exact h
end
section
variable {X : Cx} {e : Expr} {pos : Pos}
noncomputable def xRet (te : XTE) : XTS := fun D E σ H => te σ H (fun v H1 => D.rt v H1) E
theorem px_ret {te : XTE} (he : PEX X e te) : PX X [.Return (some e) pos] (xRet te) := by
  intro pins s σ H D E Ex I h w
  refine wpAny_execs_cons (wpAny_Return_some (thn (he pins s σ H _ E Ex I h w) fun v s1 zz_ => ?_))
  obtain ⟨x, H1, I1, r1, q1⟩ := zz_
  exact (show SP X pins D (.ret v) s1 from ⟨x, σ, H1, I1, r1, q1⟩)
noncomputable abbrev TH := Ends → St → Addr → Addr → Hp → Prop
noncomputable def HD (X : Cx) (hs : List ExceptHandler) (t : TH) : Prop := ∀ (pins : List (Addr × Obj)) (s : Shared) (σ : St) (H : Hp) (D : Ends) (ea C : Addr) (dx : Option Addr) (T : Addr), Inv X pins σ H s → H ea = some (.ext (ExO ea C dx (.ref T))) → H T = some (.ext (TbO T)) → xIn X.K C = true → t D σ ea C H →
  wpAny (model X.prog X.w) X.A (handleBy (.ref ea) X.env hs) (SP X pins D) X.xe s
theorem hd_nil : HD X [] (fun _ _ _ _ _ => False) := fun _ _ _ _ _ _ _ _ _ _ _ _ _ h => h.elim
noncomputable def tTrys (K : PySem.W.Frag) (tb : XTS) (th : TH) : TS := fun D σ H => tb D (fun Cv eo H' => ∃ C ea, Cv = .ref C ∧ eo = some ea ∧ xIn K C = true ∧ th D σ ea C H') σ H
theorem ps_trys {body : List Stmt} {h0 : ExceptHandler} {hs : List ExceptHandler} {tb : XTS} {th : TH} (hst : X.stack = X.env :: X.outer) (hfr : X.env.frame = some X.env.locals) (hb : PX X body tb) (hh : HD X (h0 :: hs) th) : PS X (.Try body (h0 :: hs) [] [] pos) (tTrys X.K tb th) := by
  intro pins s σ H D I h
  refine wpAny_Try_except ?_
  refine wpAny_mono (hb pins s σ H D _ (fun e s₁ => wpAny (model X.prog X.w) X.A (noteFrame e X.env) (fun _ s₂ => wpAny (model X.prog X.w) X.A (setFlight e none) (fun _ s₃ => wpAny (model X.prog X.w) X.A (handleBy e X.env (h0 :: hs)) (SP X pins D) X.xe s₃) X.xe s₂) X.xe s₁) I h ?_)
    (fun f s1 q => ?_) fun e s1 q => q
  · intro ea C dx H' s' J xa sr
    refine look_ok J hst hfr J.ok.frames xa fun s2 T hT hne J2 => ?_
    obtain ⟨C1, ea1, e1, e2, xc, q⟩ := sr _ (fun b o hb e => lookH_old hT hb e) (lookH_x hT hne)
    cases e1
    cases e2
    have tb1 : lookH H' ea C dx T ea = some (.ext (ExO ea C dx (.ref T))) := by unfold lookH; rw [upd_ne (Ne.symm hne), upd_same]
    have tb2 : lookH H' ea C dx T T = some (.ext (TbO T)) := by unfold lookH; rw [upd_same]
    exact hh pins s2 σ _ D ea C dx T J2 tb1 tb2 xc q
  · cases f with
    | next => exact wpAny_execs_nil q
    | ret v => exact q
    | brk => exact q
    | cont => exact q
end
end L2
set_option Elab.async false
set_option linter.all false
set_option maxRecDepth 100000
namespace L2
open PySem PySem.Spec PyProof.Rows
section
variable {X : Cx}
inductive rIns_P (x : V) (vs : List V) (H : Hp) (Q : VK) : Prop
  | mk (l : Addr) (xs : List V) (i : Nat) (y : V) (h1 : x = .ref l) (h2 : vs = [.int i, y]) (h3 : H l = some (.lst xs)) (h4 : i ≤ xs.length) (h5 : i ≤ 1000) (h6 : xs.length < sizeLine) (h7 : Q .non (upd H l (.lst (xs.take i ++ y :: xs.drop i)))) : rIns_P x vs H Q
noncomputable def rIns : V → List V → Hp → VK → Prop := fun x vs H Q => rIns_P x vs H Q
theorem vals_take {vs : List V} {us : List Value} (h : Vals vs us) : ∀ i, Vals (vs.take i) (us.take i) := by
  induction h with
  | nil => intro i; rw [List.take_nil, List.take_nil]; exact .nil
  | cons r _ ih =>
    intro i
    cases i with
    | zero => exact .nil
    | succ i => exact .cons r (ih i)
theorem vals_drop {vs : List V} {us : List Value} (h : Vals vs us) : ∀ i, Vals (vs.drop i) (us.drop i) := by
  induction h with
  | nil => intro i; rw [List.drop_nil, List.drop_nil]; exact .nil
  | cons r k ih =>
    intro i
    cases i with
    | zero => exact .cons r k
    | succ i => exact ih i
theorem vals_app {vs ws : List V} {us zs : List Value} (h : Vals vs us) (k : Vals ws zs) : Vals (vs ++ ws) (us ++ zs) := by
  induction h with
  | nil => exact k
  | cons r _ ih => exact .cons r ih
theorem mt_ins : MtM X "list.insert" rIns := by
  intro pins s σ H x vs v us Q I rx rv h
  obtain ⟨l, xs, i, y, rfl, rfl, hH, hi, h10, hz, q⟩ := h
  cases rx
  obtain ⟨u0, u, rfl, ru0, ru⟩ := rv.two
  obtain ⟨t, rfl⟩ := (show ∃ t, u0 = Value.int i t from ru0)
  obtain ⟨z, its, n, r, hl, e⟩ := I.lstM hH
  have fit : ¬(!Builtin.List.listFitsIndex (i : Int)) = true := by
    unfold Builtin.List.listFitsIndex
    simp
    omega
  generalize hk : (i : Int) = k at fit rv ru0 ⊢
  have hle : its.length ≤ sizeLine := Nat.le_of_lt (by rw [← hl]; exact hz)
  have hsz : its.toArray.size ≤ sizeLine := by rw [List.size_toArray]; exact hle
  refine call_meets F.slot_list_insert ⟨_, e, rfl⟩ F.entry_list_insert (F.args_list_insert_3 _ _ _) (PySem.AutoSeq1.list_insert_list_int_val_1 l its.toArray n k t u fit hsz) ⟨e, ?_⟩
  have r2 : Vals (xs.take i ++ y :: xs.drop i) (its.take i ++ u :: its.drop i) := vals_app (vals_take r i) (.cons ru (vals_drop r i))
  refine ⟨.non, _, I.lset (its' := its.take i ++ u :: its.drop i) hH e ?_ r2 ?_, rfl, q⟩
  · have ek : (if k < 0 then (k + (its.toArray.size : Int)).toNat else min k.toNat its.toArray.size) = i := by
      rw [if_neg (by omega), ← hk]
      simp
      omega
    show ((its.toArray.extract 0 (if k < 0 then (k + (its.toArray.size : Int)).toNat else min k.toNat its.toArray.size)).push u ++ its.toArray.extract (if k < 0 then (k + (its.toArray.size : Int)).toNat else min k.toNat its.toArray.size)) = (its.take i ++ u :: its.drop i).toArray
    rw [ek]
    apply Array.toList_inj.mp
    simp
    exact List.take_of_length_le (by rw [List.length_drop]; exact Nat.le_refl _)
  · rw [List.length_append, List.length_cons, List.length_take, List.length_drop]
    omega
end
end L2
set_option Elab.async false
set_option linter.all false
set_option maxRecDepth 100000
namespace SetO
open PySem
noncomputable def Bel (xs : Array Nat) (j r : Nat) : Prop := r ≤ xs.size ∧ (∀ i, i < r → xs.getD i 0 < j) ∧ ∀ i, r ≤ i → i < xs.size → j ≤ xs.getD i 0
noncomputable def Up (xs : Array Nat) : Prop := ∀ i k, i < k → k < xs.size → xs.getD i 0 < xs.getD k 0
theorem getD_any {xs : Array Nat} {i : Nat} (h : i < xs.size) (d e : Nat) : xs.getD i d = xs.getD i e := by simp [Array.getD, h]
theorem below_go {xs : Array Nat} {j : Nat} (up : Up xs) : ∀ (fuel lo hi : Nat), hi - lo ≤ fuel → lo ≤ hi → hi ≤ xs.size → (∀ i, i < lo → xs.getD i 0 < j) → (∀ i, hi ≤ i → i < xs.size → j ≤ xs.getD i 0) → Bel xs j (SetTable.below.go xs j fuel lo hi)
  | 0, lo, hi, f, h1, h2, h3, h4 => by
    have e : lo = hi := by omega
    subst e
    exact ⟨h2, h3, h4⟩
  | fuel + 1, lo, hi, f, h1, h2, h3, h4 => by
    unfold SetTable.below.go
    by_cases g : lo < hi
    · rw [if_pos g]
      dsimp only
      have hm : (lo + hi) / 2 < xs.size := by omega
      by_cases c : xs.getD ((lo + hi) / 2) j < j
      · rw [if_pos c]
        refine below_go up fuel _ _ (by omega) (by omega) h2 (fun i hi' => ?_) h4
        rw [getD_any hm j 0] at c
        by_cases e : i = (lo + hi) / 2
        · rw [e]; exact c
        · have := up i ((lo + hi) / 2) (by omega) hm
          omega
      · rw [if_neg c]
        refine below_go up fuel _ _ (by omega) (by omega) (by omega) h3 (fun i hi' hs => ?_)
        rw [getD_any hm j 0] at c
        by_cases e : i = (lo + hi) / 2
        · rw [e]; omega
        · have := up ((lo + hi) / 2) i (by omega) hs
          omega
    · rw [if_neg g]
      have e : lo = hi := by omega
      subst e
      exact ⟨h2, h3, h4⟩
theorem below_ok {xs : Array Nat} (up : Up xs) (j : Nat) : Bel xs j (SetTable.below xs j) :=
  below_go up _ _ _ (by omega) (Nat.zero_le _) (Nat.le_refl _) (fun _ h => absurd h (by omega)) (fun i h1 h2 => by omega)
theorem Bel.one {xs : Array Nat} {j r q : Nat} (h : Bel xs j r) (k : Bel xs j q) : r = q := by
  rcases Nat.lt_trichotomy r q with g | g | g
  · have := k.2.1 r g
    have := h.2.2 r (Nat.le_refl _) (Nat.lt_of_lt_of_le g k.1)
    omega
  · exact g
  · have := h.2.1 q g
    have := k.2.2 q (Nat.le_refl _) (Nat.lt_of_lt_of_le g h.1)
    omega
theorem insert_size {α : Type} (xs : Array α) (p : Nat) (x : α) (h : p ≤ xs.size) : (SetTable.insertAt xs p x).size = xs.size + 1 := by
  rw [← Array.length_toList, SetTable.toList_insertAt, List.length_append, List.length_cons, ← Nat.add_assoc, ← List.length_append, List.take_append_drop, Array.length_toList]
theorem insert_at {xs : Array Nat} {p x : Nat} (h : p ≤ xs.size) (i : Nat) : (SetTable.insertAt xs p x).getD i 0 = if i < p then xs.getD i 0 else if i = p then x else xs.getD (i - 1) 0 := by
  have e : ∀ (ys : Array Nat) (k : Nat), ys.getD k 0 = ys.toList[k]?.getD 0 := fun ys k => by simp [Array.getD_eq_getD_getElem?]
  rw [e, SetTable.toList_insertAt, e, e]
  have l : (xs.toList.take p).length = p := List.length_take_of_le (by rw [Array.length_toList]; exact h)
  by_cases c : i < p
  · rw [if_pos c, List.getElem?_append_left (by rw [l]; exact c), List.getElem?_take_of_lt c]
  · rw [if_neg c, List.getElem?_append_right (by rw [l]; exact Nat.le_of_not_lt c), l]
    by_cases c2 : i = p
    · rw [if_pos c2, c2, Nat.sub_self]; rfl
    · obtain ⟨d, rfl⟩ := Nat.exists_eq_add_of_lt (Nat.lt_of_le_of_ne (Nat.le_of_not_lt c) (Ne.symm c2))
      rw [if_neg c2, Nat.add_assoc, Nat.add_sub_cancel_left, List.getElem?_cons_succ, List.getElem?_drop]; rfl
theorem insert_up {xs : Array Nat} {j r : Nat} (up : Up xs) (b : Bel xs j r) (no : xs[r]? ≠ some j) : Up (SetTable.insertAt xs r j) := by
  intro i k hik hk
  rw [insert_size _ _ _ b.1] at hk
  have b1 := b.1
  rw [insert_at b.1, insert_at b.1]
  have gt : ∀ i, r ≤ i → i < xs.size → j < xs.getD i 0 := fun i h1 h2 => by
    have h0 : r < xs.size := by omega
    have n : xs.getD r 0 ≠ j := fun z => no (by rw [Array.getElem?_eq_getElem h0]; congr 1; simpa [Array.getD, h0] using z)
    have := b.2.2 r (Nat.le_refl _) h0
    by_cases e : i = r
    · rw [e]; omega
    · have := up r i (by omega) h2
      omega
  by_cases c1 : i < r
  · rw [if_pos c1]
    by_cases c2 : k < r
    · rw [if_pos c2]; exact up i k hik (by omega)
    · rw [if_neg c2]
      by_cases c3 : k = r
      · rw [if_pos c3]; exact b.2.1 i c1
      · rw [if_neg c3]; exact up i (k - 1) (by omega) (by omega)
  · rw [if_neg c1, if_neg (show ¬ k < r by omega)]
    by_cases c3 : i = r
    · rw [if_pos c3, if_neg (show ¬ k = r by omega)]
      exact gt (k - 1) (by omega) (by omega)
    · rw [if_neg c3, if_neg (show ¬ k = r by omega)]
      exact up (i - 1) (k - 1) (by omega) (by omega)
noncomputable def Tab (t : SetTable) : Prop := t.plain = true → Up t.place ∧ t.dummies = #[]
theorem slot_nd {t : SetTable} {j : Nat} (h : t.dummies = #[]) : t.slot j ≠ .dummy := by
  unfold SetTable.slot
  dsimp only
  split
  · intro z; cases z
  · rw [if_neg (by rw [h]; simp [SetTable.has])]
    intro z; cases z
theorem probe_go {t : SetTable} {h : Int} (nd : t.dummies = #[]) : ∀ (fuel : Nat) (p : SetTable.Probe) (m : SetTable.Met), p.dummy = none → SetTable.probe.go t (fun _ => h + 1) h fuel p = some m → ∃ j, m = .empty j none ∧ t.slot j = .empty
  | 0, p, m, hp, e => by unfold SetTable.probe.go at e; cases e
  | fuel + 1, p, m, hp, e => by
    unfold SetTable.probe.go at e
    have adv : (t.advance p).dummy = none := by
      unfold SetTable.advance
      split
      · exact hp
      · exact hp
    cases s : t.slot p.j with
    | empty =>
      rw [s] at e
      dsimp only at e
      cases e
      exact ⟨p.j, by rw [hp], s⟩
    | dummy => exact absurd s (slot_nd nd)
    | live i =>
      rw [s] at e
      dsimp only at e
      rw [if_neg (by simp; omega)] at e
      exact probe_go nd fuel _ m adv e
theorem free_ok {t : SetTable} {h : Int} {j : Nat} {wd : Bool} (nd : t.dummies = #[]) (e : t.freeSlot h = some (j, wd)) : t.slot j = .empty := by
  unfold SetTable.freeSlot at e
  cases m : t.probe (fun _ => h + 1) h (t.probeStart h) with
  | none => rw [m] at e; cases e
  | some x =>
    obtain ⟨k, rfl, hk⟩ := probe_go nd _ _ x (by rfl) m
    rw [m] at e
    have : k = j := by
      have := (Prod.mk.inj (Option.some.inj e)).1
      simpa using this
    rw [← this]; exact hk
theorem slot_no {t : SetTable} {j : Nat} (h : t.slot j = .empty) : t.place[SetTable.below t.place j]? ≠ some j := by
  unfold SetTable.slot at h
  dsimp only at h
  intro z
  rw [z] at h
  simp at h
theorem put_tab {t : SetTable} {h : Int} {j : Nat} {wd : Bool} (k : Tab t) (e : t.freeSlot h = some (j, wd)) : Tab (t.put j).1 := fun pl => by
  have pl' : t.plain = true := pl
  obtain ⟨up, nd⟩ := k pl'
  refine ⟨insert_up up (below_ok up j) (slot_no (free_ok nd e)), ?_⟩
  show (if SetTable.has t.dummies j then _ else t.dummies) = #[]
  rw [nd, if_neg (by simp [SetTable.has])]
theorem stand_tab (t : SetTable) (n : Nat) : Tab (t.standIn n) := fun pl => nomatch pl
theorem lay_tab {t : SetTable} (k : Tab t) (es : Array (Int × Value)) (h : Int) (x : Value) : Tab (layNew t es h x).2.1 ∧ (layNew t es h x).2.1.led = t.led := by
  unfold layNew
  split
  · rename_i j wd e
    have kt := put_tab k e
    show Tab ((t.put j).1.orStandIn _) ∧ ((t.put j).1.orStandIn _).led = t.led
    unfold SetTable.orStandIn
    split
    · exact ⟨kt, rfl⟩
    · exact ⟨stand_tab _ _, rfl⟩
  · exact ⟨stand_tab _ _, rfl⟩
theorem up_of_pairwise {l : List Nat} (h : l.Pairwise (· < ·)) : Up l.toArray := fun i k hik hk => by
  have hk' : k < l.length := by simpa using hk
  have := List.pairwise_iff_getElem.mp h i k (by omega) hk' hik
  simp [Array.getD, hk', show i < l.length by omega]
  exact this
theorem live_up (owner : Array (Option Nat)) (m : Nat) : (((List.range m).filterMap fun j => (owner.getD j none).map (j, ·)).map (·.1)).Pairwise (· < ·) := by
  rw [List.map_filterMap]
  refine List.Pairwise.filterMap _ (fun a b hab x hx y hy => ?_) (List.pairwise_lt_range (n := m))
  have e1 : a = x := by
    cases e : owner.getD a none with
    | none => rw [e] at hx; cases hx
    | some o => rw [e] at hx; simpa using hx
  have e2 : b = y := by
    cases e : owner.getD b none with
    | none => rw [e] at hy; cases hy
    | some o => rw [e] at hy; simpa using hy
  omega
theorem relay_tab (t : SetTable) (es : Array (Int × Value)) (n : Nat) : Tab (relayAll t es n).2.1 ∧ (relayAll t es n).2.1.led = t.led := by
  unfold relayAll
  split
  · rename_i t' order e
    dsimp only
    unfold SetTable.relaid SetTable.laid at e
    split
    · simp only [Option.bind_eq_bind, Option.pure_def, Option.bind_eq_some_iff] at e
      obtain ⟨owner, _, e⟩ := e
      obtain ⟨rfl, _⟩ := Prod.mk.inj (Option.some.inj e)
      exact ⟨fun _ => ⟨up_of_pairwise (live_up owner _), rfl⟩, rfl⟩
    · exact ⟨stand_tab _ _, rfl⟩
  · exact ⟨stand_tab _ _, rfl⟩
theorem below_next {xs : Array Nat} (up : Up xs) {i : Nat} (h : i ≤ xs.size) : SetTable.below xs (if i = 0 then 0 else xs.getD (i - 1) 0 + 1) = i := by
  refine (below_ok up _).one ⟨h, fun k hk => ?_, fun k h1 h2 => ?_⟩
  · rw [if_neg (by omega)]
    by_cases e : k = i - 1
    · rw [e]; omega
    · have := up k (i - 1) (by omega) (by omega)
      omega
  · by_cases e : i = 0
    · rw [if_pos e]; omega
    · rw [if_neg e]
      exact up (i - 1) k (by omega) h2
end SetO
set_option Elab.async false
set_option linter.all false
set_option maxRecDepth 100000
namespace SetO
open PySem PySem.Spec PyProof.Rows
noncomputable def Zs (prog : Program) (w : World) (o : Obj) (txt : Bool) (ds : List Int) : Prop := ∃ es ep t, o.ExactSet ∧ o.data = .set es ep t ∧ ElemsOf (intKind prog w) es.toList ∧ (∃ zs, zs.Perm ds ∧ IntsAre (es.toList.map (·.2)) zs) ∧ es.size < scanBound ∧ t.fits es.size = true ∧ (txt = false → t.led = true) ∧ Tab t
section
variable {prog : Program} {w : World} {A : Around} {E : Value → Shared → Prop} {s : Shared}
theorem ints_perm {vs us : List Value} (p : us.Perm vs) : ∀ {zs : List Int}, IntsAre vs zs → ∃ ys, ys.Perm zs ∧ IntsAre us ys := by
  induction p with
  | nil => intro zs h; exact ⟨zs, .refl _, h⟩
  | cons x _ ih =>
    intro zs h
    cases h with
    | cons n t h1 => obtain ⟨ys, p1, h2⟩ := ih h1; exact ⟨n :: ys, p1.cons _, .cons n t h2⟩
  | swap x y l =>
    intro zs h
    cases h with
    | cons n t h1 => cases h1 with | cons m u h2 => exact ⟨_, .swap _ _ _, .cons _ _ (.cons _ _ h2)⟩
  | trans _ _ ih1 ih2 =>
    intro zs h
    obtain ⟨y1, p1, h1⟩ := ih2 h
    obtain ⟨y2, p2, h2⟩ := ih1 h1
    exact ⟨y2, p2.trans p1, h2⟩
theorem ints_snoc {vs : List Value} {zs : List Int} (h : IntsAre vs zs) (n : Int) (t : Tok) : IntsAre (vs ++ [.int n t]) (zs ++ [n]) := by
  induction h with
  | nil => exact .cons n t .nil
  | cons m u _ ih => exact .cons m u ih
theorem ints_mem {vs : List Value} {zs : List Int} (h : IntsAre vs zs) (k : Int) : k ∈ zs ↔ ∃ v ∈ vs, Value.isInt k v = true := by
  induction h with
  | nil => simp
  | cons m u _ ih =>
    rw [List.mem_cons, ih]
    constructor
    · rintro (rfl | ⟨v, hv, e⟩)
      · exact ⟨_, List.mem_cons_self, by simp [Value.isInt]⟩
      · exact ⟨v, List.mem_cons_of_mem _ hv, e⟩
    · rintro ⟨v, hv, e⟩
      rcases List.mem_cons.mp hv with rfl | hv
      · obtain ⟨t, e2⟩ := Value.isInt_shape e
        cases e2
        exact .inl rfl
      · exact .inr ⟨v, hv, e⟩
theorem put_is {o : Obj} {es : Array (Int × Value)} {ep : Nat} {t : SetTable} {h : Heap} {a : Addr} (es' : Array (Int × Value)) (t' : SetTable) (ho : h.get? a = some o) (hd : o.data = .set es ep t) :
    (h.update a (Obj.putSet es' t')).get? a = some { o with data := .set es' (ep + 1) t' } := by
  have := Heap.get?_update_self (Obj.putSet es' t') ho (by rw [putSet_of es' t' hd]; rfl)
  rw [putSet_of es' t' hd] at this
  exact this
theorem add_tail {g : Bool → Sem Unit} (hg : ∀ (b : Bool) (s₁ : Shared) (Q' : Unit → Shared → Prop), Q' () s₁ → wpAny (model prog w) A (g b) Q' E s₁) {a : Addr} {o : Obj} {es : Array (Int × Value)} {ep : Nat} {t : SetTable} (ho : s.heap.get? a = some o) (hex : o.ExactSet) (hd : o.data = .set es ep t)
    {e1 : Array (Int × Value)} {t1 : SetTable} {txt : Bool} {ds : List Int} (el : ElemsOf (intKind prog w) e1.toList) (iz : ∃ zs, zs.Perm ds ∧ IntsAre (e1.toList.map (·.2)) zs) (few : e1.size < scanBound) (fit : t1.fits e1.size = true) (led : txt = false → t1.led = true) (tab : Tab t1)
    {wd : Bool} {R : Option Bool → Shared → Prop} (fin : ∀ h' o', Heap.SameBut a s.heap h' → h'.get? a = some o' → Zs prog w o' txt ds → R (some true) { s with heap := h' }) :
    wpAny (model prog w) A (do
        storeSet a e1 t1
        if (!wd && t1.tooFull) = true then do
            g (relayAll t1 e1 (SetTable.grown e1.size)).2.2
            storeSet a (relayAll t1 e1 (SetTable.grown e1.size)).1 (relayAll t1 e1 (SetTable.grown e1.size)).2.1
            pure (some true)
          else pure (some true)) R E s := by
  refine wpAny_bind (wpAny_storeSet_of ho hd ?_ (fits_of_scanBound few))
  have g1 := put_is e1 t1 ho hd
  have sb := Heap.SameBut.update s.heap a (Obj.putSet e1 t1)
  split
  · have hp := relayAll_perm t1 e1 (SetTable.grown e1.size)
    have hf := relayAll_fits t1 e1 (SetTable.grown e1.size)
    have ht := relay_tab t1 e1 (SetTable.grown e1.size)
    generalize relayAll t1 e1 (SetTable.grown e1.size) = Rl at hp hf ht ⊢
    obtain ⟨e2, t2, gv⟩ := Rl
    dsimp only at hp hf ht ⊢
    have few2 : e2.size < scanBound := by rw [← Array.length_toList, hp.length_eq, Array.length_toList]; exact few
    refine wpAny_bind (hg _ _ _ (wpAny_bind (wpAny_storeSet_of g1 rfl ?_ (fits_of_scanBound few2))))
    refine wpAny_pure (fin _ _ (sb.trans (Heap.SameBut.update _ a _)) (put_is e2 t2 g1 rfl) ⟨e2, _, t2, hex, rfl, el.perm hp, ?_, few2, hf, fun z => ht.2.trans (led z), ht.1⟩)
    obtain ⟨zs, p, hz⟩ := iz
    obtain ⟨ys, p2, hy⟩ := ints_perm (hp.map (·.2)) hz
    exact ⟨ys, p2.trans p, hy⟩
  · exact wpAny_pure (fin _ _ sb g1 ⟨e1, _, t1, hex, rfl, el, iz, few, fit, led, tab⟩)
theorem add_ok {a : Addr} {o : Obj} {txt : Bool} {ds : List Int} {k : Int} {tk : Tok} {Q : Bool → Shared → Prop} (ho : s.heap.get? a = some o) (z : Zs prog w o txt ds) (room : ds.length + 1 < scanBound)
    (fin : ∀ b h' o', Heap.SameBut a s.heap h' → h'.get? a = some o' → Zs prog w o' txt (step_dedup ds k) → Q b { s with heap := h' }) :
    wpAny (model prog w) A (setAddHashed a (.int k tk) ((intKind prog w).hash k)) Q E s := by
  obtain ⟨es, ep, t, hex, hd, el, ⟨zs, pz, hz⟩, few, fit, led, tab⟩ := id z
  have key : (intKind prog w).is k (.int k tk) = true := by simp [intKind, Value.isInt]
  have sz : es.size = ds.length := by
    have := IntsAre.length hz
    rw [List.length_map, Array.length_toList] at this
    rw [this, pz.length_eq]
  unfold setAddHashed setAddHashedIn
  refine wpAny_holding (wpAny_bind (wpAny_setState_of ho hd fit ?_))
  dsimp only
  rw [byScan_of (knd := intKind prog w) (x := .int k tk) rfl few el]
  simp only [↓reduceIte]
  unfold setAddByScan
  refine wpAny_bind (wpAny_bind (wpAny_rule (wpAny_bind (wpAny_setScan_of key ho hd fit el ?_))))
  have met : k ∈ ds ↔ ∃ e ∈ es.toList, (intKind prog w).is k e.2 = true := by
    rw [← pz.mem_iff, ints_mem hz k]
    constructor
    · rintro ⟨v, hv, e⟩
      obtain ⟨x, hx, rfl⟩ := List.mem_map.mp hv
      exact ⟨x, hx, e⟩
    · rintro ⟨x, hx, e⟩
      exact ⟨x.2, List.mem_map.mpr ⟨x, hx, rfl⟩, e⟩
  cases hr : List.findIdx? (fun e => (intKind prog w).is k e.2) es.toList with
  | some j =>
    dsimp only
    obtain ⟨hj, hpj, _⟩ := List.findIdx?_eq_some_iff_getElem.mp hr
    have m : k ∈ ds := met.mpr ⟨es.toList[j], List.getElem_mem hj, hpj⟩
    have e0 : step_dedup ds k = ds := if_pos (by simpa using m)
    rw [e0] at fin
    exact wpAny_pure (wpAny_pure (fin false s.heap o (Heap.SameBut.refl a s.heap) ho z))
  | none =>
    dsimp only
    have m : k ∉ ds := fun h => by
      obtain ⟨e, he, hp⟩ := met.mp h
      have := List.findIdx?_eq_none_iff.mp hr e he
      rw [hp] at this; cases this
    have e0 : step_dedup ds k = ds ++ [k] := if_neg (by simpa using m)
    rw [e0] at fin
    have gw : ∀ (b : Bool) {s₁ : Shared} {Q' : Unit → Shared → Prop}, Q' () s₁ → wpAny (model prog w) A (match b with | true => rule "set.scan.the-table-gave-way" | false => pure ()) Q' E s₁ :=
      fun b s₁ Q' hq => by cases b <;> first | exact wpAny_pure hq | exact wpAny_rule hq
    have hp := layNew_perm t es ((intKind prog w).hash k) (.int k tk)
    have hf := layNew_fits t es ((intKind prog w).hash k) (.int k tk)
    have ht := lay_tab tab es ((intKind prog w).hash k) (.int k tk)
    generalize layNew t es ((intKind prog w).hash k) (.int k tk) = L at hp hf ht ⊢
    obtain ⟨e1, t1, wd, gv⟩ := L
    dsimp only at hp hf ht ⊢
    rw [Array.toList_push] at hp
    have el1 : ElemsOf (intKind prog w) e1.toList := (el.push key rfl).perm hp
    have few1 : e1.size < scanBound := by rw [← Array.length_toList, hp.length_eq, List.length_append, Array.length_toList, sz]; exact room
    have iz : ∃ ys, ys.Perm (ds ++ [k]) ∧ IntsAre (e1.toList.map (·.2)) ys := by
      have h1 : IntsAre ((es.toList ++ [((intKind prog w).hash k, Value.int k tk)]).map (·.2)) (zs ++ [k]) := by rw [List.map_append]; exact ints_snoc hz k tk
      obtain ⟨ys, p2, hy⟩ := ints_perm (hp.map (·.2)) h1
      exact ⟨ys, p2.trans (pz.append_right _), hy⟩
    refine wpAny_bind (gw _ ?_)
    have led1 : txt = false → t1.led = true := fun q => ht.2.trans (led q)
    have end_ : ∀ h' o', Heap.SameBut a s.heap h' → h'.get? a = some o' → Zs prog w o' txt (ds ++ [k]) → Q true { s with heap := h' } := fun h' o' s1 s2 s3 => fin true h' o' s1 s2 s3
    split
    · refine wpAny_bind ?_
      rw [hashByValue_scannable 8 (x := .int k tk) rfl]
      refine wpAny_pure ?_
      simp only [plainKind, ↓reduceIte]
      refine add_tail ?_ ho hex hd el1 iz few1 hf led1 ht.1 ?_
      · intro b s₁ Q' hq; cases b <;> first | exact wpAny_pure hq | exact wpAny_rule hq
      · intro h' o' s1 s2 s3; dsimp only; exact wpAny_pure (end_ h' o' s1 s2 s3)
    · refine wpAny_bind (wpAny_pure ?_)
      simp only [↓reduceIte]
      refine add_tail ?_ ho hex hd el1 iz few1 hf led1 ht.1 ?_
      · intro b s₁ Q' hq; cases b <;> first | exact wpAny_pure hq | exact wpAny_rule hq
      · intro h' o' s1 s2 s3; dsimp only; exact wpAny_pure (end_ h' o' s1 s2 s3)
end
end SetO
set_option Elab.async false
set_option linter.all false
set_option maxRecDepth 100000
set_option maxHeartbeats 8000000
namespace SetO
open PySem PySem.Spec PyProof.Rows
noncomputable abbrev byT (w : World) : Bool := w.params.followText "set-order"
noncomputable abbrev set0 (led : Bool) : Obj := { cls := .type "set", dict := none, data := .set #[] 0 (.fresh 0 0 led) }
section
variable {prog : Program} {w : World} {A : Around} {E : Value → Shared → Prop} {s : Shared}
theorem code_new (a : Value) {Q₁ : Value → Shared → Prop} (h : Q₁ (.ref s.heap.objs.size) { s with heap := s.heap.push (set0 (!byT w)) }) : codeAny (model prog w) A (.call (.builtin "set.__new__") ⟨[.type "set", a], []⟩) (wants Q₁ E) s := by
  refine codeAny_of_tree ?_
  show wpAny _ A.in1 (do checkBuiltinCall "set.__new__" ⟨[.type "set", a], []⟩; again (.builtin "set.__new__" ⟨[.type "set", a], []⟩)) _ _ s
  refine wpAny_bind (wpAny_of_eq (PySem.F.newCall_set_1 a) (wpAny_pure ⟨plainId_quiet PySem.F.plain_set_new _, codeAny_builtin PySem.F.entry_set_new ?_⟩))
  rw [Around.under_plainId PySem.F.plain_set_new _]; unfold Builtin.«set.__new__» Builtin.Frozenset.newClass
  have hsub := sub_set_self
  obtain ⟨hp, g, d, tk, os⟩ := s
  dsimp only
  wp_walk
  refine wpAny_askSetting (wpAny_pure ?_); dsimp only
  simp only [newObj]; refine wpAny_bind (wpAny_alloc (wpAny_pure ?_))
  exact wpAny_pure h
theorem zs_new : Zs prog w (set0 (!byT w)) (byT w) [] :=
  ⟨#[], 0, _, ⟨rfl, rfl, rfl⟩, rfl, (fun e he => by simp at he), ⟨[], .refl _, .nil⟩, by decide, by rfl, (fun z => by show (!byT w) = true; rw [z]; rfl), fun _ => ⟨fun i k _ h => absurd h (by show ¬ k < 0; omega), rfl⟩⟩
end
section
variable {prog : Program} {w : World} {A : Around} {R : Result → Shared → Prop} {I : Addr} {fp wr : List Addr} {G : Array GenState → Array GenState → Prop} {n : Nat} {P : Nat → Value → Prop} {Sw : Nat → Shared → Prop} {txt : Bool}
theorem up_loop (W : WalksS prog w A.in1 I fp wr G n P Sw) (S : Addr) (nS : S ∉ fp) (val : Nat → Int) (hval : ∀ i v, P i v → ∃ t, v = .int (val i) t) (hb : n + 1 < scanBound) :
    ∀ (k i : Nat) (s : Shared) (o : Obj), n - i = k → i ≤ n → Sw i s → s.heap.get? S = some o → Zs prog w o txt (firstMet val i) →
      (∀ s' o', Moved (S :: wr) G s s' → s'.heap.get? S = some o' → Zs prog w o' txt (firstMet val n) → R (.ok (.ret .none)) s') →
      codeAny (model prog w) A (.builtin "set.update.loop" ⟨[.ref S, .ref I], []⟩) R s := by
  have wS : S ∉ wr := fun z => nS (W.sub _ z)
  have sub : ∀ b ∈ wr, b ∈ S :: wr := fun b z => List.mem_cons_of_mem _ z
  intro k
  induction k with
  | zero =>
    intro i s o k0 i0 st gS zS fin
    have e : i = n := by omega
    subst e
    refine codeAny_builtin PyProof.Rows.F.entry_set_update_loop ?_
    rw [Around.under_plainId PyProof.Rows.F.plain_set_update_loop _]
    show wpAny _ A.in1 (pyNext (.ref I) >>= _) _ _ s; refine wpAny_bind (W.done s _ _ st fun s' mv => ?_)
    show wpAny _ A.in1 (ret Value.none) _ _ s'; exact wpAny_pure (fin s' o (mv.mono sub) (mv.heap S _ wS gS) zS)
  | succ k ih =>
    intro i s o k0 i0 st gS zS fin
    have lt : i < n := by omega
    refine codeAny_builtin PyProof.Rows.F.entry_set_update_loop ?_
    rw [Around.under_plainId PyProof.Rows.F.plain_set_update_loop _]
    show wpAny _ A.in1 (pyNext (.ref I) >>= _) _ _ s; refine wpAny_bind (W.item i s _ _ lt st fun v s' pv st' mv => ?_)
    obtain ⟨t, rfl⟩ := hval i v pv
    have gS' := mv.heap S _ wS gS
    show wpAny _ A.in1 (holding [Value.int (val i) t] (setAdd S (.int (val i) t)) >>= _) _ _ s'
    refine wpAny_bind (wpAny_holding ?_); unfold setAdd
    refine wpAny_holding (wpAny_bind ((intKind prog w).pyHash (k := val i) (intKind_is _ _ _ _) ?_))
    have room : (firstMet val i).length + 1 < scanBound := by have := firstMet_length_le val i; omega
    refine add_ok (s := { s' with toks := s'.toks + 1 }) gS' zS room fun b h' o' sb g2 z2 => ?_
    rw [← firstMet_succ] at z2
    refine wpAny_pure ⟨plainId_quiet PyProof.Rows.F.plain_set_update_loop _, ih (i + 1) _ o' (by omega) lt (W.frame _ s' _ _ st' (Nat.le_succ _) fun b mb o e => ?_) g2 z2 fun s'' o'' mv2 g3 z3 => ?_⟩
    · rw [sb.2 b (fun z : b = S => nS (by rw [← z]; exact mb))]; exact e
    · refine fin s'' o'' (Moved.trans W.gtrans ((mv.mono sub).then_heap (Nat.le_succ _) fun b o nb e => ?_) mv2) g3 z3
      rw [sb.2 b (fun z : b = S => nb (by rw [z]; exact List.mem_cons_self))]; exact e
end
section
variable {prog : Program} {w : World} {A : Around} {E : Value → Shared → Prop} {s : Shared}
theorem call_set {l : Addr} {items : Array Value} {ns : List Int} {Q : Value → Shared → Prop} (hh : A.handled = none) (hl : s.heap.IsList l items) (hi : IntsAre items.toList ns) (hb : items.size + 1 < scanBound)
    (fin : ∀ (h' : Heap) (tk : Nat) (o : Obj), h'.get? s.heap.objs.size = some o → Zs prog w o (byT w) (firstMet (fun i => ns.getD i 0) items.size) → (∀ b o, b < s.heap.objs.size → s.heap.get? b = some o → h'.get? b = some o) → Q (.ref s.heap.objs.size) { s with heap := h', toks := tk }) :
    wpAny (model prog w) A (call (.type "set") [.ref l]) Q E s := by
  obtain ⟨c, tl, hmro⟩ := PySem.F.called_set.mro
  have hmade := PySem.F.called_set.made
  have hsub := PySem.F.called_set.sub
  refine wpAny_call (codeAny_of_tree ?_)
  show wpAny _ _ (callAny (.type "set") _) _ _ _; refine wpAny_pure ⟨Code.quiet_builtin _ (by decide +kernel), codeAny_builtin PySem.F.entry_type_call ?_⟩
  rw [Around.under_plain (weight_type_call_type "set" [.ref l] []) rfl]
  have h1 := PySem.F.called_set.notType
  have h2 := PySem.F.called_set.canCreate
  have hct := PySem.F.typeCall_set_1 (.ref l)
  repeat (any_goals (first | assumption | wp_step))
  refine codeAny_mono (code_new (.ref l) (E := E) (Q₁ := fun obj s₁ => obj = .ref s.heap.objs.size ∧ s₁ = { s with heap := s.heap.push (set0 (!byT w)) }) ⟨rfl, rfl⟩) fun r s₁ hr => ?_
  cases r with
  | error e => exact hr
  | ok fl =>
    cases fl with
    | ret obj =>
      obtain ⟨rfl, rfl⟩ := hr
      have hS : (s.heap.push (set0 (!byT w))).get? s.heap.objs.size = some (set0 (!byT w)) := Heap.get?_push_size _ rfl
      have hT : Shared.TypeIs { s with heap := s.heap.push (set0 (!byT w)) } (.ref s.heap.objs.size) "set" := ⟨_, hS, rfl⟩
      have hli := PySem.F.called_set.init.lookup
      have hbi := PySem.F.called_set.init.bind (.ref s.heap.objs.size)
      repeat (any_goals (first | assumption | wp_step))
      refine codeAny_mono (codeAny_call_builtin (R := wants (fun r s₂ => r = .none ∧ ∃ h' tk o, s₂ = { s with heap := h', toks := tk } ∧ h'.get? s.heap.objs.size = some o ∧ Zs prog w o (byT w) (firstMet (fun i => ns.getD i 0) items.size) ∧
          (∀ b o, b < s.heap.objs.size → s.heap.get? b = some o → h'.get? b = some o)) E) PySem.F.called_set.init.plain PySem.F.entry_set_init (check_set_init_1 hT ?_)) fun r₂ s₂ hr₂ => ?_
      · obtain ⟨ol, hol, hcl, nl, hdl⟩ := hl
        obtain ⟨ocls, odict, odata, oslots⟩ := ol
        simp only at hcl hdl
        subst hcl; subst hdl
        have hol' : (s.heap.push (set0 (!byT w))).get? l = some { cls := .type "list", dict := odict, data := .seq items nl, slots := oslots } := Heap.get?_push_of_some _ hol
        have hsls := PySem.F.sub_list_set
        have hslf := PySem.F.sub_list_frozenset
        have hne : (Value.type "list" == Value.type "dict") = false := by decide
        have hl1 : (s.heap.push (set0 (!byT w))).IsList l items := ⟨_, hol', rfl, nl, rfl⟩
        unfold Builtin.«set.__init__» noKeywords Builtin.Frozenset.updateFrom
        generalize hPI : pyIter = PI
        wp_walk
        subst hPI
        refine wpAny_pyIter_list hl1 (wpAny_bind (wpAny_runValue ?_))
        have hlS : l < s.heap.objs.size := Heap.lt_size hol
        have hh3 : A.in1.in1.in1.handled = none := by simp [hh]
        have hneI : l ≠ (s.heap.push (set0 (!byT w))).objs.size := by rw [Heap.size_push]; exact Nat.ne_of_lt (Nat.lt_succ_of_lt hlS)
        have nS : s.heap.objs.size ∉ [(s.heap.push (set0 (!byT w))).objs.size, l] := by
          rw [Heap.size_push]
          simp only [List.mem_cons, List.mem_singleton, List.not_mem_nil, or_false, not_or]; exact ⟨Nat.ne_of_lt (Nat.lt_succ_self _), Nat.ne_of_gt hlS⟩
        have hval : ∀ (i : Nat) (v : Value), items[i]? = some v → ∃ t, v = .int ((fun i => ns.getD i 0) i) t := fun i v hv => IntsAre.int_at hi i v (by rw [Array.getElem?_toList]; exact hv)
        refine up_loop ((Walks.list hh3 _ l hneI items).toS) s.heap.objs.size nS (fun i => ns.getD i 0) hval hb (items.size - 0) 0 _ _ (by omega) (Nat.zero_le _) ⟨⟨_, Heap.get?_push_size _ rfl, rfl, rfl⟩, (hl1.push _)⟩ (Heap.get?_push_of_some _ hS) zs_new ?_
        intro s' o' mv g' z'
        obtain ⟨h', g'', d', tk', os'⟩ := s'
        have eg : g'' = s.gens := mv.gens
        have ed : d' = s.drawn := mv.drawn
        have eo : os' = s.os := mv.os
        subst eg; subst ed; subst eo
        show wpAny _ _ _ _ _ _
        refine wpAny_pure ?_
        show wpAny _ _ (ret Value.none) _ _ _
        refine wpAny_pure ⟨rfl, h', tk', o', rfl, g', z', fun b o hb e => ?_⟩
        have hb1 : b ≠ s.heap.objs.size := Nat.ne_of_lt hb
        have hb2 : b ≠ (s.heap.push (set0 (!byT w))).objs.size := by rw [Heap.size_push]; exact Nat.ne_of_lt (Nat.lt_succ_of_lt hb)
        exact mv.heap b o (by simp only [List.mem_cons, List.mem_singleton, List.not_mem_nil, or_false, not_or]; exact ⟨hb1, hb2⟩) (Heap.get?_push_of_some _ (Heap.get?_push_of_some _ e))
      · cases r₂ with
        | error e => exact hr₂
        | ok fl₂ =>
          cases fl₂ with
          | ret r =>
            obtain ⟨rfl, h', tk, o, rfl, g', z', hk'⟩ := hr₂
            repeat (any_goals (first | assumption | wp_step))
            exact fin _ _ _ g' z' hk'
          | _ => exact hr₂.elim
    | _ => exact hr.elim
end
end SetO
set_option Elab.async false
set_option linter.all false
set_option maxRecDepth 100000
set_option maxHeartbeats 8000000
namespace SetO
open PySem PySem.Spec PyProof.Rows
theorem slot_next : Slot "set_iterator" "__next__" "set_iterator.__next__" :=
  .of (owner := "set_iterator") (n := "__next__") (by rw [typeLookup_type, builtinLookup_eq_fast]; kernel_rfl) (by decide +kernel) (by decide +kernel) (by decide +kernel) (by first | exact .inl (by decide +kernel) | exact .inr (by decide +kernel)) (by rw [isSubtype_type]; kernel_rfl)
theorem entry_next : entryFor table "set_iterator.__next__" = some Builtin.«set_iterator.__next__» := entryFor_of_tree (by kernel_rfl)
theorem args_next (a : Value) : argsOk "set_iterator.__next__" ⟨[a], []⟩ := by unfold argsOk; kernel_rfl
theorem entry_iter : entryFor table "set.__iter__" = some Builtin.«frozenset.__iter__» := entryFor_alias (id' := "frozenset.__iter__") (by kernel_rfl) rfl (by decide +kernel) (by kernel_rfl)
theorem erase_perm {α : Type} : ∀ (l : List α) (i : Nat) (h : i < l.length), (l[i] :: l.eraseIdx i).Perm l
  | x :: xs, 0, _ => .refl _
  | x :: xs, i + 1, h => by
    have ih := erase_perm xs i (by simpa using h)
    have hi : i < xs.length := by simpa using h
    show (xs[i] :: x :: xs.eraseIdx i).Perm (x :: xs)
    exact (List.Perm.swap _ _ _).trans (ih.cons x)
section
variable {M : Model} {A : Around} {E : Value → Shared → Prop} {s : Shared}
theorem choose_ok {src : Source} {n : Nat} {Q : Nat → Shared → Prop} (hn : n ≠ 0) (h : ∀ i d', i < n → Q i { s with drawn := d' }) : wpAny M A (choose src n) Q E s := fun Γ p hΓ => ⟨hn, h _ _ (Nat.mod_lt _ (Nat.pos_of_ne_zero hn))⟩
theorem draw_ok {α : Type} (n : Nat) : ∀ (xs : List α) (s : Shared) (Q : List α → Shared → Prop), n = xs.length → (∀ ys d', ys.Perm xs → Q ys { s with drawn := d' }) → wpAny M A (drawOrder n xs) Q E s := by
  induction n with
  | zero =>
    intro xs s Q e h
    cases xs with
    | nil =>
      unfold drawOrder
      exact wpAny_pure (h [] s.drawn (.refl _))
    | cons x xs => simp at e
  | succ n ih =>
    intro xs s Q e h
    cases xs with
    | nil => simp at e
    | cons x xs =>
      unfold drawOrder
      refine wpAny_bind (choose_ok (by simp) fun i d' hi => ?_)
      have hg : (x :: xs)[i]? = some (x :: xs)[i] := List.getElem?_eq_getElem hi
      rw [hg]
      dsimp only
      refine wpAny_bind (ih ((x :: xs).eraseIdx i) _ _ (by rw [List.length_eraseIdx_of_lt hi, List.length_cons]; rw [List.length_cons] at e; omega) fun ys d2 py => wpAny_pure (h _ d2 ?_))
      exact (py.cons _).trans (erase_perm _ _ hi)
end
theorem pick_perm {α : Type} (next : Nat → Nat) : ∀ (n k : Nat) (left : List α) (out : Array α), n = left.length → (pickOrder.go next n k left out).toList.Perm (out.toList ++ left)
  | 0, k, [], out, _ => by unfold pickOrder.go; simp
  | n + 1, k, x :: xs, out, e => by
    unfold pickOrder.go
    have hl : next k % (x :: xs).length < (x :: xs).length := Nat.mod_lt _ (by simp)
    rw [List.getElem?_eq_getElem hl]
    dsimp only
    have ih := pick_perm next n (k + 1) ((x :: xs).eraseIdx (next k % (x :: xs).length)) (out.push (x :: xs)[next k % (x :: xs).length]) (by rw [List.length_eraseIdx_of_lt hl]; omega)
    refine ih.trans ?_
    rw [Array.toList_push, List.append_assoc]
    refine List.Perm.append_left _ ?_
    exact erase_perm _ _ hl
noncomputable def It (h : Heap) (I : Addr) (first : Value) (i : Nat) (S : Addr) (n ep : Nat) : Prop := ∃ o, h.get? I = some o ∧ o.cls = .type "set_iterator" ∧ o.data = .fields #[first, .int i 0, .ref S, .int n 0, .int ep 0]
theorem It.typ {s : Shared} {I : Addr} {first : Value} {i : Nat} {S : Addr} {n ep : Nat} (h : It s.heap I first i S n ep) : s.TypeIs (.ref I) "set_iterator" := let ⟨o, ho, hc, _⟩ := h; ⟨o, ho, hc⟩
structure At (h : Heap) (S : Addr) (o : Obj) (es : Array (Int × Value)) (ep : Nat) (t : SetTable) : Prop where
  get : h.get? S = some o
  dat : o.data = .set es ep t
  fit : t.fits es.size = true
  cls : o.cls = .type "set"
noncomputable def slotOf (t : SetTable) (i : Nat) : Nat := if i = 0 then 0 else t.place.getD (i - 1) 0 + 1
section
variable {prog : Program} {w : World} {A : Around} {E : Value → Shared → Prop} {s : Shared} {I S : Addr} {i n ep : Nat} {first : Value} {o : Obj} {es : Array (Int × Value)} {t : SetTable}
theorem wp_byT {Q : Bool → Shared → Prop} (h : Q (byT w) s) : wpAny (model prog w) A setsByText Q E s := by
  unfold setsByText
  exact wpAny_bind (wpAny_askSetting (wpAny_pure h))
theorem step_it (it : It s.heap I first i S n ep) (f' : Value) : It ((s.heap.update I (Obj.mapFields (·.setIfInBounds 0 f'))).update I (Obj.mapFields (·.setIfInBounds 1 (rawInt ((i : Int) + 1))))) I f' (i + 1) S n ep := by
  obtain ⟨oi, hi, hc, hd⟩ := it
  have g1 := Heap.get?_update_self (Obj.mapFields (·.setIfInBounds 0 f')) hi (Obj.isFreed_of_fields (Obj.data_mapFields hd _))
  have d1 := Obj.data_mapFields hd (·.setIfInBounds 0 f')
  refine ⟨_, Heap.get?_update_self _ g1 (Obj.isFreed_of_fields (Obj.data_mapFields d1 _)), ?_, ?_⟩
  · rw [Obj.cls_mapFields, Obj.cls_mapFields]; exact hc
  · rw [Obj.data_mapFields d1]; simp [rawInt]
theorem next_some {sl nx : Nat} {x : Value} {Q : Option Value → Shared → Prop} (it : It s.heap I (.int sl 0) i S es.size ep) (a : At s.heap S o es ep t) (hs : ∀ R : Option (Value × Nat) → Shared → Prop, R (some (x, nx)) s → wpAny (model prog w) A.in1 (setNext S sl i ep) R (fun _ _ => False) s)
    (hQ : ∀ h', It h' I (.int nx 0) (i + 1) S es.size ep → Heap.SameBut I s.heap h' → Q (some x) { s with heap := h' }) : wpAny (model prog w) A (pyNext (.ref I)) Q E s := by
  obtain ⟨oi, hi, hc, hd⟩ := id it
  unfold pyNext
  refine wpAny_bind (wpAny_attempt (wpAny_callSpecial?_slot (name := Str.ofString "__next__") it.typ slot_next (wpAny_call_entry slot_next it.typ entry_next ?_ (args_next _))))
  unfold Builtin.«set_iterator.__next__»
  refine wpAny_bind (wpAny_pure ?_); dsimp only
  refine wpAny_bind (wpAny_fieldsOf hi hd ?_); show wpAny _ _ (setEntries S >>= _) _ _ s
  refine wpAny_bind (wpAny_setEntries_of a.get a.dat a.fit ?_); rw [if_neg (by simp)]
  show wpAny _ _ (setNext S sl i ep >>= _) _ _ s
  refine wpAny_bind (wpAny_mono (hs _ ?_) (fun _ _ z => z) fun _ _ z => z.elim)
  dsimp only
  refine wpAny_bind (wpAny_setField hi hd (by simp) ?_)
  have g1 := Heap.get?_update_self (Obj.mapFields (·.setIfInBounds 0 (rawInt nx))) hi (Obj.isFreed_of_fields (Obj.data_mapFields hd _))
  have d1 := Obj.data_mapFields hd (·.setIfInBounds 0 (rawInt nx))
  refine wpAny_bind (wpAny_setField g1 d1 (by simp) ?_)
  exact wpAny_pure ⟨_, rfl, wpAny_pure (hQ _ (step_it it (rawInt nx)) ((Heap.SameBut.update ..).trans (Heap.SameBut.update ..)))⟩
theorem next_none {sl : Nat} {Q : Option Value → Shared → Prop} (hh : A.handled = none) (it : It s.heap I (.int sl 0) i S es.size ep) (a : At s.heap S o es ep t) (hs : ∀ R : Option (Value × Nat) → Shared → Prop, R none s → wpAny (model prog w) A.in1 (setNext S sl i ep) R (fun _ _ => False) s)
    (hQ : ∀ h', Heap.ExtBut I s.heap h' → Q none { s with heap := h' }) : wpAny (model prog w) A (pyNext (.ref I)) Q E s := by
  obtain ⟨oi, hi, hc, hd⟩ := id it
  unfold pyNext
  refine wpAny_bind (wpAny_attempt (wpAny_callSpecial?_slot (name := Str.ofString "__next__") it.typ slot_next (wpAny_call_entry slot_next it.typ entry_next ?_ (args_next _))))
  unfold Builtin.«set_iterator.__next__»
  refine wpAny_bind (wpAny_pure ?_); dsimp only
  refine wpAny_bind (wpAny_fieldsOf hi hd ?_); show wpAny _ _ (setEntries S >>= _) _ _ s
  refine wpAny_bind (wpAny_setEntries_of a.get a.dat a.fit ?_); rw [if_neg (by simp)]
  show wpAny _ _ (setNext S sl i ep >>= _) _ _ s
  refine wpAny_bind (wpAny_mono (hs _ ?_) (fun _ _ z => z) fun _ _ z => z.elim)
  dsimp only
  refine wpAny_bind (wpAny_setField hi hd (by simp) ?_)
  show wpAny _ _ (newExc (.type "StopIteration") [] >>= _) _ _ _
  refine wpAny_bind ?_
  simp only [newExc, newTuple]
  refine wpAny_bind (wpAny_newObj_type ?_ (by size_fits)); refine wpAny_bind (m := firstArgMember _ _) (wpAny_of_eq (a := Value.none) (by first | rfl | (simp only [firstArgMember]; rfl)) ?_)
  refine wpAny_newObj_type ?_ (by size_fits); simp only [raiseNew]
  refine wpAny_bind (wpAny_handled ?_); rw [show A.in1.handled = none from hh]
  refine wpAny_bind (wpAny_pure (wpAny_throw ?_)); refine wpAny_bind (wpAny_isInstance (T := "StopIteration") (b := true) ⟨_, Heap.get?_push_size _ rfl, rfl⟩ isSubtype_stop ?_)
  exact wpAny_pure (hQ _ (((Heap.SameBut.update ..).extBut.push _).push _))
theorem drawn_some {T : Addr} {oT : Obj} {ps : Array Value} {nT pl : Nat} {h0 : Int} {x : Value} {Q : Option Value → Shared → Prop} (it : It s.heap I (.ref T) i S es.size ep) (a : At s.heap S o es ep t) (hT : s.heap.get? T = some oT) (dT : oT.data = .seq ps nT) (hp : ps[i]? = some (.int pl 0)) (hx : es[pl]? = some (h0, x))
    (hQ : ∀ h', It h' I (.ref T) (i + 1) S es.size ep → Heap.SameBut I s.heap h' → Q (some x) { s with heap := h' }) : wpAny (model prog w) A (pyNext (.ref I)) Q E s := by
  obtain ⟨oi, hi, hc, hd⟩ := id it
  unfold pyNext
  refine wpAny_bind (wpAny_attempt (wpAny_callSpecial?_slot (name := Str.ofString "__next__") it.typ slot_next (wpAny_call_entry slot_next it.typ entry_next ?_ (args_next _))))
  unfold Builtin.«set_iterator.__next__»
  refine wpAny_bind (wpAny_pure ?_); dsimp only
  refine wpAny_bind (wpAny_fieldsOf hi hd ?_); show wpAny _ _ (setEntries S >>= _) _ _ s
  refine wpAny_bind (wpAny_setEntries_of a.get a.dat a.fit ?_); rw [if_neg (by simp)]
  show wpAny _ _ (seqItems? (.ref T) >>= _) _ _ s
  refine wpAny_bind (wpAny_seqItems hT dT ?_)
  show wpAny _ _ (match ps[i]? with | some (.int place _) => _ | some _ => _ | none => _) _ _ s
  rw [hp]
  show wpAny _ _ (setNextDrawn S pl ep >>= _) _ _ s
  refine wpAny_bind ?_
  unfold setNextDrawn
  refine wpAny_bind (wpAny_setState_of a.get a.dat a.fit ?_)
  dsimp only
  rw [if_neg (by simp), hx]
  refine wpAny_pure ?_
  refine wpAny_bind (wpAny_setField hi hd (by simp) ?_)
  refine wpAny_pure ⟨_, rfl, wpAny_pure (hQ _ ⟨_, Heap.get?_update_self _ hi (Obj.isFreed_of_fields (Obj.data_mapFields hd _)), (Obj.cls_mapFields ..).trans hc, by rw [Obj.data_mapFields hd]; simp [rawInt]⟩ (Heap.SameBut.update ..))⟩
theorem drawn_none {T : Addr} {oT : Obj} {ps : Array Value} {nT : Nat} {Q : Option Value → Shared → Prop} (hh : A.handled = none) (it : It s.heap I (.ref T) i S es.size ep) (a : At s.heap S o es ep t) (hT : s.heap.get? T = some oT) (dT : oT.data = .seq ps nT) (hp : ps[i]? = none)
    (hQ : ∀ h', Heap.ExtBut I s.heap h' → Q none { s with heap := h' }) : wpAny (model prog w) A (pyNext (.ref I)) Q E s := by
  obtain ⟨oi, hi, hc, hd⟩ := id it
  unfold pyNext
  refine wpAny_bind (wpAny_attempt (wpAny_callSpecial?_slot (name := Str.ofString "__next__") it.typ slot_next (wpAny_call_entry slot_next it.typ entry_next ?_ (args_next _))))
  unfold Builtin.«set_iterator.__next__»
  refine wpAny_bind (wpAny_pure ?_); dsimp only
  refine wpAny_bind (wpAny_fieldsOf hi hd ?_); show wpAny _ _ (setEntries S >>= _) _ _ s
  refine wpAny_bind (wpAny_setEntries_of a.get a.dat a.fit ?_); rw [if_neg (by simp)]
  show wpAny _ _ (seqItems? (.ref T) >>= _) _ _ s
  refine wpAny_bind (wpAny_seqItems hT dT ?_)
  show wpAny _ _ (match ps[i]? with | some (.int place _) => _ | some _ => _ | none => _) _ _ s
  rw [hp]
  refine wpAny_bind (wpAny_setField hi hd (by simp) ?_)
  have g1 := Heap.get?_update_self (Obj.mapFields (·.setIfInBounds 0 (rawInt 0))) hi (Obj.isFreed_of_fields (Obj.data_mapFields hd _))
  have d1 := Obj.data_mapFields hd (·.setIfInBounds 0 (rawInt 0))
  refine wpAny_bind (wpAny_setField g1 d1 (by simp) ?_)
  show wpAny _ _ (newExc (.type "StopIteration") [] >>= _) _ _ _
  refine wpAny_bind ?_
  simp only [newExc, newTuple]
  refine wpAny_bind (wpAny_newObj_type ?_ (by size_fits)); refine wpAny_bind (m := firstArgMember _ _) (wpAny_of_eq (a := Value.none) (by first | rfl | (simp only [firstArgMember]; rfl)) ?_)
  refine wpAny_newObj_type ?_ (by size_fits); simp only [raiseNew]
  refine wpAny_bind (wpAny_handled ?_); rw [show A.in1.handled = none from hh]
  refine wpAny_bind (wpAny_pure (wpAny_throw ?_)); refine wpAny_bind (wpAny_isInstance (T := "StopIteration") (b := true) ⟨_, Heap.get?_push_size _ rfl, rfl⟩ isSubtype_stop ?_)
  exact wpAny_pure (hQ _ ((((Heap.SameBut.update ..).trans (Heap.SameBut.update ..)).extBut.push _).push _))
end
end SetO
set_option Elab.async false
set_option linter.all false
set_option maxRecDepth 100000
set_option maxHeartbeats 8000000
namespace SetO
open PySem PySem.Spec PyProof.Rows
section
variable {prog : Program} {w : World} {A : Around} {E : Value → Shared → Prop} {s : Shared} {I S : Addr} {i n ep : Nat} {first : Value} {o : Obj} {es : Array (Int × Value)} {t : SetTable}
theorem wp_if_true {α : Type} {M : Model} {c : Bool} {u v : Sem α} {Q : α → Shared → Prop} (h : c = true) (k : wpAny M A u Q E s) : wpAny M A (if c = true then u else v) Q E s := by rw [if_pos h]; exact k
theorem fit_size (h : t.fits es.size = true) : t.place.size = es.size := by
  simp only [SetTable.fits, Bool.and_eq_true, beq_iff_eq, decide_eq_true_eq] at h
  exact h.1
theorem nextA {R : Option (Value × Nat) → Shared → Prop} (a : At s.heap S o es ep t) (hb : byT w = false) (nd : (!t.plain && decide (es.size > 1)) = false) (led : t.led = true) (up : Up t.place) (hi : i ≤ es.size)
    (h : R (es[i]?.map fun e => (e.2, slotOf t (i + 1))) s) : wpAny (model prog w) A (setNext S (slotOf t i) i ep) R E s := by
  have sz := fit_size a.fit
  have eb : SetTable.below t.place (slotOf t i) = i := below_next up (by rw [sz]; exact hi)
  unfold setNext
  refine wpAny_bind (wpAny_setState_of a.get a.dat a.fit ?_)
  dsimp only
  refine wpAny_bind (wp_byT ?_)
  rw [hb]
  simp only [Bool.false_eq_true, ↓reduceIte]
  split
  · rename_i z
    have z' : (!t.plain && decide (es.size > 1)) = true := z
    rw [nd] at z'; cases z'
  · show wpAny _ _ ((if (!t.led && !es.isEmpty) = true then unsupported "set:maker-not-led" else pure ()) >>= _) _ _ s
    rw [led]
    simp only [Bool.not_true, Bool.false_and, Bool.false_eq_true, ↓reduceIte]
    refine wpAny_bind (wpAny_pure ?_)
    rw [eb]
    by_cases g : i < es.size
    · have e1 : es[i]? = some es[i] := Array.getElem?_eq_getElem g
      have e2 : t.place[i]? = some (t.place.getD i 0) := by rw [Array.getElem?_eq_getElem (by rw [sz]; exact g)]; simp [Array.getD, show i < t.place.size by rw [sz]; exact g]
      rw [e1, e2]
      rw [e1] at h
      refine wpAny_pure ?_
      have e3 : slotOf t (i + 1) = t.place.getD i 0 + 1 := if_neg (by omega)
      rw [e3] at h
      exact h
    · have e1 : es[i]? = none := Array.getElem?_eq_none (by omega)
      rw [e1]
      rw [e1] at h
      exact wpAny_pure h
theorem nextB {sl : Nat} {R : Option (Value × Nat) → Shared → Prop} (a : At s.heap S o es ep t) (hb : byT w = true) (h : R ((pickOrder (w.params.setOrder S ep) es)[i]?.map fun e => (e.2, sl)) s) : wpAny (model prog w) A (setNext S sl i ep) R E s := by
  unfold setNext
  refine wpAny_bind (wpAny_setState_of a.get a.dat a.fit ?_)
  dsimp only
  refine wpAny_bind (wp_byT ?_)
  rw [hb]
  simp only [↓reduceIte]
  rw [if_neg (by simp)]
  refine wpAny_bind ?_
  unfold setWalk
  refine wpAny_bind (wpAny_setState_of a.get a.dat a.fit ?_)
  dsimp only
  refine wpAny_bind (wp_byT ?_)
  rw [hb]
  simp only [↓reduceIte]
  refine wpAny_bind (wpAny_askSetting (wpAny_pure ?_))
  exact wpAny_pure h
structure Mode (w : World) (h : Heap) (S : Addr) (es : Array (Int × Value)) (ep : Nat) (t : SetTable) (own : List Addr) (first : Nat → Value) (vals : List Value) : Prop where
  len : vals.length = es.size
  perm : vals.Perm (es.toList.map (·.2))
  way : (own = [] ∧ (∀ i, ∃ sl : Nat, first i = .int sl 0 ∧ (i ≤ es.size → ∀ (prog : Program) (A : Around) (E : Value → Shared → Prop) (s : Shared) (o : Obj) (R : Option (Value × Nat) → Shared → Prop), At s.heap S o es ep t → (∃ nx : Nat, first (i + 1) = .int nx 0 ∧ R (vals[i]?.map fun v => (v, nx)) s) → wpAny (model prog w) A (setNext S sl i ep) R E s))) ∨
    ∃ (T : Addr) (oT : Obj) (ps : Array Value) (nT : Nat), own = [T] ∧ first = (fun _ => .ref T) ∧ h.get? T = some oT ∧ oT.data = .seq ps nT ∧ ps.size = es.size ∧ ∀ (i : Nat) (v : Value), vals[i]? = some v → ∃ (pl : Nat) (h0 : Int), ps[i]? = some (Value.int pl 0) ∧ es[pl]? = some (h0, v)
theorem slot_iter2 : Slot "set_iterator" "__iter__" "set_iterator.__iter__" :=
  .of (owner := "set_iterator") (n := "__iter__") (by rw [typeLookup_type, builtinLookup_eq_fast]; kernel_rfl) (by decide +kernel) (by decide +kernel) (by decide +kernel) (by first | exact .inl (by decide +kernel) | exact .inr (by decide +kernel)) (by rw [isSubtype_type]; kernel_rfl)
theorem entry_iter2 : entryFor table "set_iterator.__iter__" = some Builtin.«dict_keyiterator.__iter__» := entryFor_alias (id' := "dict_keyiterator.__iter__") (by kernel_rfl) rfl (by decide +kernel) (by kernel_rfl)
theorem args_iter2 (a : Value) : argsOk "set_iterator.__iter__" ⟨[a], []⟩ := by unfold argsOk; kernel_rfl
theorem self_it {Q : Value → Shared → Prop} (it : It s.heap I first i S n ep) (h : Q (.ref I) s) : wpAny (model prog w) A (pyIter (.ref I)) Q E s := by
  refine wpAny_pyIter_slot it.typ slot_iter2 (wpAny_call_entry slot_iter2 it.typ entry_iter2 ?_ (args_iter2 _))
  show wpAny _ _ (ret (.ref I)) _ _ s; exact wpAny_pure ⟨_, rfl, "set_iterator", _, it.typ, slot_next.lookup, h⟩
theorem iter_ok {Q : Value → Shared → Prop} (hsb : es.size < scanBound) (a : At s.heap S o es ep t) (led : byT w = false → t.led = true) (tab : Tab t)
    (h : ∀ (h' : Heap) (I : Addr) (d' : Drawn) (own : List Addr) (first : Nat → Value) (vals : List Value), Mode w h' S es ep t own first vals → It h' I (first 0) 0 S es.size ep → s.heap.get? I = none → (∀ T ∈ own, s.heap.get? T = none ∧ T ≠ I) → (∀ b x, s.heap.get? b = some x → h'.get? b = some x) → (∀ T ∈ I :: own, T < h'.objs.size) → Q (.ref I) { s with heap := h', drawn := d' }) :
    wpAny (model prog w) A (pyIter (.ref S)) Q E s := by
  have ty : s.TypeIs (.ref S) "set" := ⟨o, a.get, a.cls⟩
  have sz := fit_size a.fit
  refine wpAny_pyIter_slot ty PySem.F.slot_set_iter (wpAny_call_entry PySem.F.slot_set_iter ty entry_iter ?_ (PySem.F.args_set_iter_1 _))
  unfold Builtin.«frozenset.__iter__»
  refine wpAny_bind (wpAny_pure ?_)
  refine wpAny_bind ?_
  unfold Builtin.Frozenset.sizeOf
  refine wpAny_bind (wpAny_setEntries_of a.get a.dat a.fit (wpAny_pure ?_))
  refine wpAny_bind ?_
  unfold setDrawn
  refine wpAny_bind (wpAny_setState_of a.get a.dat a.fit ?_)
  dsimp only
  refine wpAny_bind (wp_byT (wpAny_pure ?_))
  have out : ∀ (first : Nat → Value) (vals : List Value) (f0 : Value), f0 = first 0 → (∀ h', Mode w h' S es ep t [] first vals) → wpAny (model prog w) A.in1 (do ret (← newFields "set_iterator" [f0, rawInt 0, .ref S, rawInt es.size, rawInt (← setEpoch S)])) (fun fin s' => ∃ v, fin = .done (.ret v) ∧ ∃ T' r, s'.TypeIs v T' ∧ typeLookup (.type T') "__next__" = pure (some r) ∧ Q v s') (fun e s' => E e s') s := by
    intro first vals f0 e0 m
    refine wpAny_bind (wpAny_setEpoch_of a.get a.dat a.fit ?_)
    refine wpAny_bind (wpAny_newObj_type ?_)
    refine wpAny_pure ⟨_, rfl, "set_iterator", _, ⟨_, Heap.get?_push_size _ rfl, rfl⟩, slot_next.lookup, ?_⟩
    refine h _ _ s.drawn [] first vals (m _) ⟨_, Heap.get?_push_size _ rfl, rfl, ?_⟩ (Heap.get?_none_of_le (Nat.le_refl _)) (fun _ z => nomatch z) (fun b x e => Heap.get?_push_of_some _ e) (fun T z => ?_)
    · rw [← e0]; rfl
    · have : T = s.heap.objs.size := by simpa using z
      rw [this, Heap.size_push]; exact Nat.lt_succ_self _
  have int_inj : ∀ {x y : Nat}, (Value.int x 0 : Value) = .int y 0 → x = y := fun e => by injection e with e; omega
  cases hb : byT w with
  | true =>
    simp only [Bool.not_true, Bool.false_and, Bool.false_eq_true, ↓reduceIte]
    refine wpAny_bind (wpAny_pure ?_)
    have pp : (pickOrder (w.params.setOrder S ep) es).toList.Perm es.toList := by
      have := pick_perm (w.params.setOrder S ep) es.size 0 es.toList #[] (by simp)
      simpa [pickOrder] using this
    refine out (fun _ => .int 0 0) ((pickOrder (w.params.setOrder S ep) es).toList.map (·.2)) (rawInt 0) rfl fun h' => ⟨by rw [List.length_map, pp.length_eq, Array.length_toList], pp.map _, .inl ⟨rfl, fun i => ⟨0, rfl, fun hi prog A E s o R a' ⟨nx, e, r⟩ => nextB a' hb ?_⟩⟩⟩
    have en : nx = 0 := (int_inj e).symm
    rw [en] at r
    rw [List.getElem?_map, Array.getElem?_toList] at r
    cases q : (pickOrder (w.params.setOrder S ep) es)[i]? with
    | none => rw [q] at r; exact r
    | some x => rw [q] at r; exact r
  | false =>
    split
    · rename_i z
      have z' : (!t.plain && decide (es.size > 1)) = true := z
      refine wpAny_bind (draw_ok es.size (List.range es.size) s _ (by rw [List.length_range]) fun ys d' py => ?_)
      have few : (ys.map fun (i : Nat) => rawInt i).toArray.size ≤ sizeLine := by
        rw [List.size_toArray, List.length_map, py.length_eq, List.length_range]
        exact fits_of_scanBound hsb
      refine wpAny_bind (wpAny_newObj_type ?_ few)
      have a2 : At ({ s with drawn := d', heap := s.heap.push { cls := .type "tuple", data := .seq (ys.map fun (i : Nat) => rawInt i).toArray } } : Shared).heap S o es ep t := ⟨Heap.get?_push_of_some _ a.get, a.dat, a.fit, a.cls⟩
      refine wpAny_bind (wpAny_setEpoch_of (s := { s with drawn := d', heap := s.heap.push { cls := .type "tuple", data := .seq (ys.map fun (i : Nat) => rawInt i).toArray } }) a2.get a2.dat a2.fit ?_)
      refine wpAny_bind (wpAny_newObj_type ?_)
      have sp : (s.heap.push { cls := .type "tuple", data := .seq (ys.map fun (i : Nat) => rawInt i).toArray }).objs.size = s.heap.objs.size + 1 := Heap.size_push ..
      refine wpAny_pure ⟨_, rfl, "set_iterator", _, ⟨_, Heap.get?_push_size _ rfl, rfl⟩, slot_next.lookup, ?_⟩
      have lt : ∀ i ∈ ys, i < es.size := fun i m => List.mem_range.mp (py.mem_iff.mp m)
      refine h _ _ d' [s.heap.objs.size] (fun _ => .ref s.heap.objs.size) (ys.map fun i => (es.getD i (0, .none)).2) ⟨?_, ?_, .inr ⟨_, _, _, _, rfl, rfl, Heap.get?_push_of_some _ (Heap.get?_push_size _ rfl), rfl, ?_, fun i v hv => ?_⟩⟩ ⟨_, Heap.get?_push_size _ rfl, rfl, rfl⟩ (Heap.get?_none_of_le (by rw [sp]; exact Nat.le_succ _)) (fun T m => ?_) (fun b x e => Heap.get?_push_of_some _ (Heap.get?_push_of_some _ e)) (fun T m => ?_)
      · rw [List.length_map, py.length_eq, List.length_range]
      · refine (py.map _).trans ?_
        rw [show (List.range es.size).map (fun i => (es.getD i (0, .none)).2) = es.toList.map (·.2) from ?_]
        refine List.ext_getElem (by simp) fun i h1 h2 => ?_
        have h3 : i < es.size := by simpa using h1
        simp [Array.getD, h3]
      · simp [py.length_eq]
      · rw [List.getElem?_map] at hv
        cases q : ys[i]? with
        | none => rw [q] at hv; cases hv
        | some j =>
          rw [q] at hv
          have hj := lt j (List.mem_of_getElem? q)
          refine ⟨j, es[j].1, ?_, ?_⟩
          · simp [q, rawInt]
          · have ev : (es.getD j (0, .none)).2 = v := by simpa using hv
            rw [Array.getElem?_eq_getElem hj, ← ev]
            simp [Array.getD, hj]
      · have : T = s.heap.objs.size := by simpa using m
        subst this
        exact ⟨Heap.get?_none_of_le (Nat.le_refl _), by rw [sp]; exact Nat.ne_of_lt (Nat.lt_succ_self _)⟩
      · rw [Heap.size_push, sp]
        rcases List.mem_cons.mp m with e | m
        · rw [e, sp]; exact Nat.lt_succ_self _
        · have : T = s.heap.objs.size := by simpa using m
          rw [this]
          exact Nat.lt_succ_of_lt (Nat.lt_succ_self _)
    · rename_i z
      have z' : (!t.plain && decide (es.size > 1)) = false := by
        cases q : (!t.plain && decide (es.size > 1)) with
        | false => rfl
        | true => exact absurd (show (!false && (!t.plain && decide (es.size > 1))) = true by rw [q]; rfl) z
      refine wpAny_bind (wpAny_pure ?_)
      have up : Up t.place := by
        cases pl : t.plain with
        | true => exact (tab pl).1
        | false =>
          intro i k hik hk
          rw [pl] at z'
          have : ¬ es.size > 1 := by simpa using z'
          rw [sz] at hk
          omega
      refine out (fun i => .int (slotOf t i) 0) (es.toList.map (·.2)) (rawInt 0) rfl fun h' => ⟨by simp, .refl _, .inl ⟨rfl, fun i => ⟨slotOf t i, rfl, fun hi prog A E s o R a' ⟨nx, e, r⟩ => nextA a' hb z' (led hb) up hi ?_⟩⟩⟩
      have en : nx = slotOf t (i + 1) := (int_inj e).symm
      rw [en] at r
      rw [List.getElem?_map, Array.getElem?_toList] at r
      cases q : es[i]? with
      | none => rw [q] at r; exact r
      | some x => rw [q] at r; exact r
noncomputable def Stm (w : World) (I S : Addr) (o : Obj) (es : Array (Int × Value)) (ep : Nat) (t : SetTable) (own : List Addr) (first : Nat → Value) (vals : List Value) (i : Nat) (s : Shared) : Prop := It s.heap I (first i) i S es.size ep ∧ At s.heap S o es ep t ∧ Mode w s.heap S es ep t own first vals
theorem Mode.keep {h h' : Heap} {own : List Addr} {first : Nat → Value} {vals : List Value} (m : Mode w h S es ep t own first vals) (k : ∀ T ∈ own, ∀ x, h.get? T = some x → h'.get? T = some x) : Mode w h' S es ep t own first vals := by
  refine ⟨m.len, m.perm, ?_⟩
  rcases m.way with l | ⟨T, oT, ps, nT, e1, e2, e3, e4, e5, e6⟩
  · exact .inl l
  · exact .inr ⟨T, oT, ps, nT, e1, e2, k T (by rw [e1]; exact List.mem_singleton.mpr rfl) _ e3, e4, e5, e6⟩
theorem walk_set (hh : A.handled = none) (I S : Addr) (o : Obj) (es : Array (Int × Value)) (ep : Nat) (t : SetTable) (own : List Addr) (first : Nat → Value) (vals : List Value) (nS : S ≠ I) (nO : ∀ T ∈ own, T ≠ I) :
    WalksS prog w A I (I :: S :: own) [I] (fun a b => b = a) es.size (fun i v => vals[i]? = some v) (Stm w I S o es ep t own first vals) where
  sub := fun b z => by rw [List.mem_singleton.mp z]; exact List.mem_cons_self
  grefl := fun _ => rfl
  gtrans := fun a b c h1 h2 => h2.trans h1
  frame := fun i s h' tk st _ k => by
    obtain ⟨⟨oi, g1, g2, g3⟩, a, m⟩ := st
    exact ⟨⟨oi, k I List.mem_cons_self _ g1, g2, g3⟩, ⟨k S (by simp) _ a.get, a.dat, a.fit, a.cls⟩, m.keep fun T z x e => k T (by simp [z]) x e⟩
  item := fun i s Q E hi st fin => by
    obtain ⟨it, a, m⟩ := st
    obtain ⟨v, hv⟩ : ∃ v, vals[i]? = some v := ⟨_, List.getElem?_eq_getElem (by rw [m.len]; exact hi)⟩
    have step : ∀ h', It h' I (first (i + 1)) (i + 1) S es.size ep → Heap.SameBut I s.heap h' → Q (some v) { s with heap := h' } := fun h' it' sb =>
      fin _ _ hv ⟨it', ⟨(sb.2 S nS).trans a.get, a.dat, a.fit, a.cls⟩, m.keep fun T z x e => (sb.2 T (nO T z)).trans e⟩ ⟨fun b x nb e => (sb.2 b (by simpa using nb)).trans e, rfl, rfl, rfl, Nat.le_refl _⟩
    rcases m.way with ⟨_, l⟩ | ⟨T, oT, ps, nT, e1, e2, e3, e4, e5, e6⟩
    · obtain ⟨sl, f1, k⟩ := l i
      obtain ⟨nx, f2, _⟩ := l (i + 1)
      rw [f1] at it
      refine next_some (x := v) (nx := nx) it a (fun R r => k (Nat.le_of_lt hi) _ _ _ _ _ _ a ⟨nx, f2, by rw [hv]; exact r⟩) fun h' it' sb => step h' (by rw [f2]; exact it') sb
    · obtain ⟨pl, h0, p1, p2⟩ := e6 i _ hv
      rw [e2] at it
      exact drawn_some it a e3 e4 p1 p2 fun h' it' sb => step h' (by rw [e2]; exact it') sb
  done := fun s Q E st fin => by
    obtain ⟨it, a, m⟩ := st
    have hv : vals[es.size]? = none := List.getElem?_eq_none (by rw [m.len]; exact Nat.le_refl _)
    have step : ∀ h', Heap.ExtBut I s.heap h' → Q none { s with heap := h' } := fun h' sb => fin _ ⟨fun b x nb e => sb b x (by simpa using nb) e, rfl, rfl, rfl, Nat.le_refl _⟩
    rcases m.way with ⟨_, l⟩ | ⟨T, oT, ps, nT, e1, e2, e3, e4, e5, e6⟩
    · obtain ⟨sl, f1, k⟩ := l es.size
      obtain ⟨nx, f2, _⟩ := l (es.size + 1)
      rw [f1] at it
      exact next_none hh it a (fun R r => k (Nat.le_refl _) _ _ _ _ _ _ a ⟨nx, f2, by rw [hv]; exact r⟩) step
    · rw [e2] at it
      exact drawn_none hh it a e3 e4 (by rw [Array.getElem?_eq_none]; rw [e5]; exact Nat.le_refl _) step
  self := fun i s Q E st fin => self_it st.1 fin
theorem collect_ok {Q : List Value → Shared → Prop} (hh : A.handled = none) (hsb : es.size < scanBound) (a : At s.heap S o es ep t) (led : byT w = false → t.led = true) (tab : Tab t)
    (fin : ∀ (h' : Heap) (tk : Nat) (d' : Drawn) (vals : List Value), vals.Perm (es.toList.map (·.2)) → (∀ b x, s.heap.get? b = some x → h'.get? b = some x) → Q vals { s with heap := h', toks := tk, drawn := d' }) :
    wpAny (model prog w) A (collect (.ref S)) Q E s := by
  unfold collect
  refine wpAny_bind (wpAny_runValue (codeAny_builtin PySem.F.entry_proto_collect ?_))
  rw [Around.under_plainId PySem.F.plain_proto_collect _]
  show wpAny _ A.in1 (newList [] >>= fun l => again (.builtin "list.__iadd__" ⟨[l, .ref S], []⟩)) _ _ s; refine wpAny_bind (wpAny_newObj_type ?_)
  refine wpAny_pure ⟨plainId_quiet PySem.F.plain_list_iadd _, codeAny_builtin PySem.F.entry_list_iadd ?_⟩; rw [Around.under_plainId PySem.F.plain_list_iadd _]
  show wpAny _ A.in1 (Builtin.List.listExtendWith (.ref s.heap.objs.size) (.ref S) (.ref s.heap.objs.size)) _ _ _; unfold Builtin.List.listExtendWith
  have ty1 : Shared.TypeIs { s with heap := s.heap.push { cls := .type "list", data := .seq ([] : List Value).toArray } } (.ref S) "set" := ⟨o, Heap.get?_push_of_some _ a.get, a.cls⟩
  refine wpAny_bind (wpAny_typeOf ty1 ?_)
  have hlt : S < s.heap.objs.size := Heap.lt_size a.get
  have q1 : Builtin.List.listSameRef (.ref s.heap.objs.size) (.ref S) = false := by simp [Builtin.List.listSameRef, Nat.ne_of_gt hlt]
  have q2 : (Value.type "set" == Value.type "list") = false := by decide
  have q3 : (Value.type "set" == Value.type "tuple") = false := by decide
  simp only [q1, q2, q3, Bool.or_false, Bool.false_eq_true, if_false]
  have hL : (s.heap.push { cls := .type "list", data := .seq ([] : List Value).toArray }).get? s.heap.objs.size = some { cls := .type "list", data := .seq ([] : List Value).toArray } := Heap.get?_push_size _ rfl
  refine wpAny_bind (iter_ok (s := { s with heap := s.heap.push { cls := .type "list", data := .seq ([] : List Value).toArray } }) hsb ⟨Heap.get?_push_of_some _ a.get, a.dat, a.fit, a.cls⟩ led tab fun h' I d' own first vals m it fI fO keep lt => ?_)
  refine wpAny_bind (wpAny_holding ?_)
  unfold Builtin.List.listLengthHint
  have ty2 : Shared.TypeIs { s with heap := h', drawn := d' } (.ref S) "set" := ⟨o, keep _ _ (Heap.get?_push_of_some _ a.get), a.cls⟩
  refine wpAny_bind (wpAny_specialOf ty2 PySem.F.slot_set_len.lookup ?_)
  generalize hid : ("set.__len__" : String) = id0
  wp_delta
  rw [show splitId id0 = some ("set", "__len__") from by subst hid; decide +kernel]
  subst hid
  refine wpAny_bind (wpAny_isInstance (b := true) ty2 sub_set_self ?_)
  rw [if_neg (by decide)]
  refine wp_if_true (by decide +kernel) ?_
  refine wpAny_bind (wpAny_typeOf ty2 ?_)
  refine wpAny_pure ?_
  refine wp_if_true (by decide +kernel) ?_
  refine wpAny_bind (wpAny_rule ?_)
  have hL2 := keep _ _ hL
  refine wpAny_bind ?_
  show wpAny _ A.in1 (updateSeq s.heap.objs.size (·.push .none) >>= fun _ => updateSeq s.heap.objs.size (·.pop)) _ _ _; refine wpAny_bind (wpAny_updateSeq hL2 rfl ?_)
  have hL3 := Heap.get?_update_self (Obj.mapSeq (·.push Value.none)) hL2 rfl
  refine wpAny_updateSeq hL3 rfl ?_
  have hL4 := Heap.get?_update_self (Obj.mapSeq (·.pop)) hL3 rfl
  have oth : ∀ b x, b ≠ s.heap.objs.size → h'.get? b = some x → ((h'.update s.heap.objs.size (Obj.mapSeq (·.push Value.none))).update s.heap.objs.size (Obj.mapSeq (·.pop))).get? b = some x := fun b x nb e => (Heap.get?_update_other _ _ (Ne.symm nb)).trans ((Heap.get?_update_other _ _ (Ne.symm nb)).trans e)
  have nSI : S ≠ I := fun z => by rw [← z] at fI; rw [show (s.heap.push { cls := .type "list", data := .seq ([] : List Value).toArray }).get? S = some o from Heap.get?_push_of_some _ a.get] at fI; cases fI
  have nLI : s.heap.objs.size ≠ I := fun z => by rw [← z] at fI; rw [hL] at fI; cases fI
  have nLO : s.heap.objs.size ∉ I :: S :: own := by
    intro z
    rcases List.mem_cons.mp z with z | z
    · exact nLI z
    · rcases List.mem_cons.mp z with z | z
      · exact absurd z (Nat.ne_of_gt hlt)
      · have := (fO _ z).1
        rw [hL] at this; cases this
  have W := walk_set (prog := prog) (w := w) (A := A.in1) hh I S o es ep t own first vals nSI fun T z => (fO T z).2
  refine wpAny_pure ⟨plainId_quiet PySem.F.plain_extend_loop _, codeAny_extend_loopS W (fits_of_scanBound hsb) _ nLO _ es.size 0 _ _ _ rfl (Nat.zero_le _) (W.frame 0 { s with heap := h', drawn := d' } _ s.toks ⟨it, ⟨keep _ _ (Heap.get?_push_of_some _ a.get), a.dat, a.fit, a.cls⟩, m⟩ (Nat.le_refl _) fun b hb x e => oth b x (fun z => nLO (z ▸ hb)) e) hL4 (ItemsOf.nil _) fun s' acc c' mv gL items => ?_⟩
  show wpAny _ A (load s.heap.objs.size >>= _) _ _ s'; refine wpAny_bind (wpAny_load gL ?_)
  obtain ⟨h2, g2, d2, t2, o2⟩ := s'
  have eg : g2 = s.gens := mv.gens
  have ed : d2 = d' := mv.drawn
  have eo : o2 = s.os := mv.os
  subst eg; subst ed; subst eo
  have ev : acc.toList = vals := by
    refine List.ext_getElem? fun i => ?_
    rw [Array.getElem?_toList]
    cases q : acc[i]? with
    | some v => exact (items.2 i v q).symm
    | none =>
      have : acc.size ≤ i := by
        rcases Nat.lt_or_ge i acc.size with z | z
        · rw [Array.getElem?_eq_getElem z] at q; cases q
        · exact z
      rw [List.getElem?_eq_none]
      rw [m.len, ← items.1]; exact this
  refine wpAny_pure ?_
  show Q acc.toList _
  rw [ev]
  refine fin h2 t2 d2 vals m.perm fun b x e => ?_
  have hb : b < s.heap.objs.size := Heap.lt_size e
  have e1 : (s.heap.push { cls := .type "list", data := .seq ([] : List Value).toArray }).get? b = some x := Heap.get?_push_of_some _ e
  refine mv.heap b x ?_ (oth b x (Nat.ne_of_lt hb) (keep b x e1))
  intro z
  rcases List.mem_cons.mp z with z | z
  · exact absurd z (Nat.ne_of_lt hb)
  · have : b = I := by simpa using z
    rw [← this] at fI
    rw [e1] at fI; cases fI
end
end SetO
set_option Elab.async false
set_option linter.all false
set_option maxRecDepth 100000
set_option maxHeartbeats 8000000
namespace L2
open PySem PySem.Spec PyProof.Rows
theorem firstMet_mem (val : Nat → Int) : ∀ (i : Nat) (x : Int), x ∈ firstMet val i ↔ ∃ j, j < i ∧ val j = x
  | 0, x => by rw [firstMet_zero]; simp
  | i + 1, x => by
    rw [firstMet_succ]
    unfold step_dedup
    by_cases h : ((firstMet val i).any (· == val i)) = true
    · rw [if_pos h, firstMet_mem val i x]
      constructor
      · rintro ⟨j, hj, e⟩; exact ⟨j, by omega, e⟩
      · rintro ⟨j, hj, e⟩
        by_cases c : j = i
        · subst c
          have : val j ∈ firstMet val j := by simpa using h
          rw [e] at this
          exact (firstMet_mem val j x).mp this
        · exact ⟨j, by omega, e⟩
    · rw [if_neg h, List.mem_append, firstMet_mem val i x, List.mem_singleton]
      constructor
      · rintro (⟨j, hj, e⟩ | e)
        · exact ⟨j, by omega, e⟩
        · exact ⟨i, by omega, e.symm⟩
      · rintro ⟨j, hj, e⟩
        by_cases c : j = i
        · subst c; exact .inr e.symm
        · exact .inl ⟨j, by omega, e⟩
theorem firstMet_nd (val : Nat → Int) : ∀ i, (firstMet val i).Nodup
  | 0 => by rw [firstMet_zero]; exact List.nodup_nil
  | i + 1 => by
    rw [firstMet_succ]
    unfold step_dedup
    by_cases h : ((firstMet val i).any (· == val i)) = true
    · rw [if_pos h]; exact firstMet_nd val i
    · rw [if_neg h]
      refine List.nodup_append.mpr ⟨firstMet_nd val i, by simp, fun a ha b hb => ?_⟩
      have : b = val i := by simpa using hb
      subst this
      intro e
      subst e
      exact h (by simpa using ha)
theorem met_mem (ns : List Int) (x : Int) : x ∈ firstMet (fun i => ns.getD i 0) ns.length ↔ x ∈ ns := by
  rw [firstMet_mem]
  constructor
  · rintro ⟨j, hj, e⟩
    rw [← e, List.getD_eq_getElem?_getD, List.getElem?_eq_getElem hj]
    exact List.getElem_mem hj
  · intro h
    obtain ⟨j, hj, e⟩ := List.mem_iff_getElem.mp h
    exact ⟨j, hj, by rw [List.getD_eq_getElem?_getD, List.getElem?_eq_getElem hj]; exact e⟩
section
variable {prog : Program} {w : World} {A : Around} {E : Value → Shared → Prop} {s : Shared}
theorem sort_set {S : Addr} {o : Obj} {ds : List Int} {Q : Value → Shared → Prop} (hh : A.handled = none) (ho : s.heap.get? S = some o) (z : SetO.Zs prog w o (SetO.byT w) ds) (h64 : ds.length < 64)
    (fin : ∀ (h' : Heap) (tk : Nat) (d' : Drawn) (D : Addr) (vs : List Value) (ns : List Int) (c : Nat), s.heap.get? D = none → (∀ b x, s.heap.get? b = some x → h'.get? b = some x) → h'.get? D = some (seqObj "list" vs.toArray c) → IntsAre vs ns → ns.Perm ds → ns.Pairwise (· ≤ ·) → Q (.ref D) { s with heap := h', toks := tk, drawn := d' }) :
    wpAny (model prog w) A (call (.builtin "sorted") [.ref S]) Q E s := by
  obtain ⟨es, ep, t, hex, hd, el, ⟨zs, pz, hz⟩, few, fit, led, tab⟩ := z
  refine Calls.call_function_entry kind_sorted plain_sorted entry_sorted (args_sorted1 _) ?_
  unfold Builtin.«sorted»
  refine wpAny_bind (m := checkCount "sorted" 1 1 _) (wpAny_pure ?_); refine wpAny_bind (SetO.collect_ok (A := A.in1) hh few ⟨ho, hd, fit, hex.1⟩ led tab fun h1 tk d1 vals pv keep => ?_)
  obtain ⟨ys, py, hy⟩ := SetO.ints_perm pv hz
  have lv : vals.length < 64 := by
    rw [IntsAre.length hy, py.length_eq, pz.length_eq]; exact h64
  refine wpAny_bind (wpAny_newList ?_ (by rw [sizeLine_eq]; omega))
  have hoL : (h1.push (seqObj "list" vals.toArray 0)).get? h1.objs.size = some (seqObj "list" vals.toArray 0) := Heap.get?_push_size _ rfl
  show wpAny _ _ _ _ _ { s with heap := h1.push (seqObj "list" vals.toArray 0), toks := tk, drawn := d1 }
  refine wpAny_bind (wpAny_holding (wpAny_call_entry slot_list_sort ⟨_, hoL, rfl⟩ entry_list_sort (list_sort_tree (s := { s with heap := h1.push (seqObj "list" vals.toArray 0), toks := tk, drawn := d1 }) hoL hy lv fun out ns' a1 a2 a3 => ⟨_, rfl, ?_⟩) (args_list_sort _)))
  obtain ⟨e, he⟩ := sortedHeap_at (out := out) hoL
  refine wpAny_pure ⟨_, rfl, fin _ tk d1 h1.objs.size out.toList ns' e ?_ (fun b x hb => ?_) (by simpa using he) a1 (a2.trans (py.trans pz)) a3⟩
  · cases q : s.heap.get? h1.objs.size with
    | none => rfl
    | some x => exact absurd (Heap.lt_size (keep _ _ q)) (Nat.lt_irrefl _)
  · have hb1 := keep b x hb
    rw [sortedHeap_old (Nat.ne_of_lt (Heap.lt_size hb1)) (by rw [size_push']; exact Nat.lt_succ_of_lt (Heap.lt_size hb1))]
    exact Heap.get?_push_of_some _ hb1
end
theorem Inv.dr {X : Cx} {pins : List (Addr × Obj)} {σ : List (Option V)} {H : Hp} {s : Shared} (I : Inv X pins σ H s) (d' : Drawn) : Inv X pins σ H { s with drawn := d' } :=
  ⟨I.ok, I.os, I.bare, I.base, I.loc, I.cell, I.free, I.freeC, I.pin, I.hok, I.len⟩
theorem boot_set' : bootBuiltins "set" = some (.type "set") := by decide +kernel
theorem boot_sorted2 : bootBuiltins "sorted" = some (.builtin "sorted") := by decide +kernel
inductive tSortSet_P (K : PySem.W.Frag) (Q : VK) (vs : List V) (H1 : Hp) : Prop
  | mk (a : Addr) (ns : List Int) (h1 : vs = [.ref a]) (h2 : SqL K H1 a (ns.map V.int)) (h3 : ns.length < 64) (h4 : ∀ (p : Addr) (rs : List Int), H1 p = none → (∀ x, x ∈ rs ↔ x ∈ ns) → rs.length ≤ ns.length → rs.Pairwise (· < ·) → Q (.ref p) (upd H1 p (.lst (rs.map V.int)))) : tSortSet_P K Q vs H1
noncomputable def tSortSet (K : PySem.W.Frag) (ta : TA) : TE := fun σ H Q => ta σ H fun vs H1 => tSortSet_P K Q vs H1
theorem pe_sortset {X : Cx} {e : Expr} {ta : TA} {p p2 p3 pos : Pos} (hc : X.calm = true) (hgl : Gl X "sorted") (hml : X.mg "sorted" = none) (hgr : Gl X "set") (hmr : X.mg "set" = none) (ha : PA X [e] ta) (hs : starEach [e] X.env = [(false, eval e X.env)] := by rfl) :
    PE X (.Call (.Name "sorted" p) [.Call (.Name "set" p2) [e] [] p3] [] pos) (tSortSet X.K ta) := by
  intro pins s σ H Q I h
  refine wpAny_Call_Name_kw (ld_blt I hgl hml boot_sorted2 ?_)
  refine PyProof.Rows.callWith_builtin1 ?_ (by rfl) (by rfl)
  show wpAny _ _ (spliced ((false, eval (.Call (.Name "set" p2) [e] [] p3) X.env) :: backTo pos (starEach [] X.env))) _ _ s
  refine Calls.spliced_cons ?_
  refine Call_ (ld_blt I hgr hmr boot_set' (PyProof.Rows.callWith_type1 (thn (ha p3 pins s σ H _ I h) fun us s1 zz_ => ?_) hs rfl))
  obtain ⟨vs, H1, I1, r1, q1⟩ := zz_
  obtain ⟨l, ns, e, hq, h64, q⟩ := q1
  subst e
  obtain ⟨u, rfl, ru⟩ := vals1 r1
  cases ru
  obtain ⟨its, rv, pl, _⟩ := I1.list hq
  have hl : ns.length = its.length := by have := rv.length; simpa using this
  refine SetO.call_set (ns := ns) (I1.ok.hd hc) pl.isList (by simpa using ints_are rv) (by unfold scanBound; rw [List.size_toArray]; omega) fun h1 tk o go zo hk => ?_
  have I2 : Inv X pins σ H1 { s1 with heap := h1, toks := tk } := I1.kept (t' := tk) fun b o e => hk b o (Heap.lt_size e) e
  refine Calls.spliced_nil ?_
  rw [List.size_toArray, ← hl] at zo
  have ld : (firstMet (fun i => ns.getD i 0) ns.length).length ≤ ns.length := firstMet_length_le _ _
  refine sort_set (s := { s1 with heap := h1, toks := tk }) (I2.ok.hd hc) go zo (by omega) fun h2 tk2 d2 D vs ms c fD keep gD hi pm om => ?_
  have lm : ms.length = (firstMet (fun i => ns.getD i 0) ns.length).length := pm.length_eq
  have I3 := I2.laidL (t' := tk2) (h' := h2) (a := D) (o := .lst (ms.map V.int)) (fun b u _ e => keep b u e) (fun m' hm => hm.at' fun o e => keep _ o e) fD ⟨by rw [List.length_map, sizeLine_eq]; omega, vs, c, ints_of hi, gD⟩
  refine ⟨.ref D, _, I3.dr d2, rfl, q D ms (I2.unlaid fD) (fun x => by rw [pm.mem_iff, met_mem]) (by omega) ?_⟩
  have nd : ms.Nodup := pm.nodup_iff.mpr (firstMet_nd _ _)
  refine (om.and nd).imp fun {a b} h => ?_
  have := h.1
  have := h.2
  omega
end L2
set_option Elab.async false
set_option linter.all false
set_option maxRecDepth 100000
namespace L2
open PySem PySem.Spec PyProof.Rows
section
variable {M : Model} {A : Around} {E : Value → Shared → Prop} {s : Shared}
theorem tt_isTuple : isSubtype (.type "tuple") (.type "tuple") = pure true := by rw [isSubtype_type]; kernel_rfl
theorem x_matches2 {K : PySem.W.Frag} {C L L' x p : Addr} {ox : Obj} {Q : Bool → Shared → Prop} {b b' : Bool} (X : K.In s.heap) (xl : xIn K L = true) (xl' : xIn K L' = true) (hm : PySem.W.mroIn K C (.ref L) = some b) (hm' : PySem.W.mroIn K C (.ref L') = some b')
    (hx : s.heap.get? x = some ox) (hc : ox.cls = .ref C) (ht : s.heap.IsTuple p [Value.ref L, Value.ref L'].toArray) (h : Q (b || b') s) : wpAny M A (excMatches (.ref x) (.ref p)) Q E s := by
  obtain ⟨⟨tc, td, tdata, tsl⟩, ho, tcls, tn, tdt⟩ := ht
  simp only at tcls tdt
  subst tcls tdt
  obtain ⟨hp, g, d, tk, os⟩ := s
  obtain ⟨nm, qn, N, bs, bm, sn, sub, ab, col, dd, k0, k1, k2, k3, k5, hC, hxt⟩ := xcls X xl
  obtain ⟨nm', qn', N', bs', bm', sn', sub', ab', col', dd', k0', k1', k2', k3', k5', hC', hxt'⟩ := xcls X xl'
  have hcB : (Value.ref L :: bm).contains (.type "BaseException") = true := by rw [List.contains_cons, xTail_has (v := true) (by decide +kernel) hxt, Bool.or_true]
  have hcB' : (Value.ref L' :: bm').contains (.type "BaseException") = true := by rw [List.contains_cons, xTail_has (v := true) (by decide +kernel) hxt', Bool.or_true]
  have f := tc_notTuple
  have f2 := tt_isTuple
  have LL := PySem.W.looks_mroIn (M := M) X hm
  have LL' := PySem.W.looks_mroIn (M := M) X hm'
  cases b <;> cases b' <;> unfold excMatches <;> repeat (first
    | (with_reducible refine wpAny_loadPart_at hx ?_; rw [hc])
    | with_reducible refine wpAny_loadPart_at ho ?_
    | with_reducible refine wpAny_loadPart_at hC ?_
    | with_reducible refine wpAny_loadPart_at hC' ?_
    | (with_reducible refine wpAny_isSubtype_exc hC ?_; rw [hcB])
    | (with_reducible refine wpAny_isSubtype_exc hC' ?_; rw [hcB'])
    | (with_reducible refine LL.at ?_)
    | (with_reducible refine LL'.at ?_)
    | wp_step)
  all_goals exact h
end
section
variable {X : Cx}
noncomputable def hConsU (K : PySem.W.Frag) (LC : Addr) (th : TS) (tr : TH) : TH := fun D σ ea C H =>
  (PySem.W.mroIn K C (.ref LC) = some true ∧ th { nx := fun _ _ => False, rt := D.rt } σ H) ∨ (PySem.W.mroIn K C (.ref LC) = some false ∧ tr D σ ea C H)
theorem suiteU {suite : List Stmt} {b₀ : Stmt} {hpos : Pos} {th : TS} (hh : ∀ ea, PSs (markX X ea) (b₀ :: suite) th) {pins : List (Addr × Obj)} {s : Shared} {σ : St} {H : Hp} {D : Ends} {ea C T : Addr} {dx : Option Addr} {R : Except Value Flow → Shared → Prop}
    (J2 : Inv X pins σ H s) (tb1 : H ea = some (.ext (ExO ea C dx (.ref T)))) (tb2 : H T = some (.ext (TbO T))) (q : th { nx := fun _ _ => False, rt := D.rt } σ H) (hR : ∀ u s', SP X pins D (.ret u) s' → R (.ok (.ret u)) s') :
    codeAny (model X.prog X.w) (X.A.mark (some (.ref ea))) (.handlers (.ref ea) [.ExceptHandler none none (b₀ :: suite) hpos] X.env) R s := by
  obtain ⟨⟨oe, vs, hx1, hcl, hdx, hd, hz, h1⟩, _, _⟩ := (show ObjOk X.prog X.w _ s.heap ea (.ext (ExO ea C dx (.ref T))) from J2.hok ea _ tb1)
  obtain ⟨⟨oT, ts, hT1, hTd, hT3⟩, _, _⟩ := (show ObjOk X.prog X.w _ s.heap T (.ext (TbO T)) from J2.hok T _ tb2)
  refine codeAny_handlers_suite ?_
  unfold setFlight
  refine wpAny_bind (wpAny_field hx1 hd h1 ?_)
  rw [if_pos (show (Value.ref T != Value.none) = true from by simp)]
  refine wpAny_setField hT1 hTd (Array.getElem?_eq_some_iff.mp hT3).1 ?_
  rw [show s.heap.update T (Obj.mapFields (·.setIfInBounds 3 ((none : Option Addr).elim Value.none fun f => rawInt f))) = s.heap from Heap.update_setField_same s.heap T oT ts 3 Value.none hT1 hTd hT3]
  refine wpAny_mono (hh ea pins s _ _ _ (J2.mark ea) q) (fun fl s4 q4 => ?_) fun _ _ z => z.elim
  cases fl with
  | next => obtain ⟨_, _, _, z⟩ := q4; exact z.elim
  | brk => obtain ⟨_, _, _, z⟩ := q4; exact z.elim
  | cont => obtain ⟨_, _, _, z⟩ := q4; exact z.elim
  | ret u =>
    obtain ⟨v, σ', H4, J4, rv, z⟩ := q4
    have J5 := Inv.unmark (A0 := True) J2.ok J4
    exact hR u s4 ⟨v, σ', H4, J5, rv, z⟩
theorem hd_consU {suite : List Stmt} {b₀ : Stmt} {lx : Str} {np hpos : Pos} {LC : Addr} {th : TS} {tr : TH} {rest : List ExceptHandler} (hg : Gl X lx) (hm : X.mg lx = some (.ref LC)) (xl : xIn X.K LC = true)
    (hh : ∀ ea, PSs (markX X ea) (b₀ :: suite) th) (hr : HD X rest tr) (hdb : (lx == ("__debug__" : Str)) = false := by decide) :
    HD X (.ExceptHandler (some (.Name lx np)) none (b₀ :: suite) hpos :: rest) (hConsU X.K LC th tr) := by
  intro pins s σ H D ea C dx T J2 tb1 tb2 xc h
  obtain ⟨⟨oe, vs, hx1, hcl, hdx, hd, hz, h1⟩, _, _⟩ := (show ObjOk X.prog X.w _ s.heap ea (.ext (ExO ea C dx (.ref T))) from J2.hok ea _ tb1)
  have JM := J2.mark ea
  refine wpAny_handleBy_cons (codeAny_handlers_test (ld_glob (X := markX X ea) JM hg hm ?_ hdb)) (by intro z; cases z)
  rcases h with ⟨hmr, q⟩ | ⟨hmr, q⟩
  · refine x_matchesB J2.kIn xc xl hmr hx1 hcl ?_
    exact suiteU hh J2 tb1 tb2 q fun u s' z => z
  · refine x_matchesB J2.kIn xc xl hmr hx1 hcl ?_
    exact hr pins s σ H D ea C dx T J2 tb1 tb2 xc q
noncomputable def hTup2 (K : PySem.W.Frag) (L L' : Addr) (th : TS) (tr : TH) : TH := fun D σ ea C H => ∃ b b', PySem.W.mroIn K C (.ref L) = some b ∧ PySem.W.mroIn K C (.ref L') = some b' ∧ ∀ p, H p = none →
  if (b || b') = true then th { nx := fun _ _ => False, rt := D.rt } σ (upd H p (.tup [.ref L, .ref L'])) else tr D σ ea C (upd H p (.tup [.ref L, .ref L']))
theorem hd_tup2 {suite : List Stmt} {b₀ : Stmt} {lx lx' : Str} {np np' hpos tpos : Pos} {cx : Nat} {L L' : Addr} {th : TS} {tr : TH} {rest : List ExceptHandler} (hg : Gl X lx) (hm : X.mg lx = some (.ref L)) (xl : xIn X.K L = true) (hg' : Gl X lx') (hm' : X.mg lx' = some (.ref L')) (xl' : xIn X.K L' = true)
    (hh : ∀ ea, PSs (markX X ea) (b₀ :: suite) th) (hr : HD X rest tr) (hdb : (lx == ("__debug__" : Str)) = false := by decide) (hdb' : (lx' == ("__debug__" : Str)) = false := by decide) :
    HD X (.ExceptHandler (some (.Tuple [.Name lx np, .Name lx' np'] cx tpos)) none (b₀ :: suite) hpos :: rest) (hTup2 X.K L L' th tr) := by
  intro pins s σ H D ea C dx T J2 tb1 tb2 xc ⟨b, b', hb, hb', h⟩
  have JM := J2.mark ea
  refine wpAny_handleBy_cons (codeAny_handlers_test ?_) (by intro z; cases z)
  refine wpAny_mono (pe_tup (X := markX X ea) (pa_cons (pe_glob hg hm (v := .ref L) rfl hdb) (pa_cons (pe_glob hg' hm' (v := .ref L') rfl hdb') pa_nil)) pins s σ H (fun v H1 => ∃ p, v = .ref p ∧ H p = none ∧ H1 = upd H p (.tup [.ref L, .ref L'])) JM ⟨small60 (Nat.le_of_ble_eq_true rfl), fun p fp => ⟨p, rfl, fp, rfl⟩⟩) (fun v s1 zz_ => ?_) fun _ _ z => z.elim
  obtain ⟨x, H1, I1, r1, p, e1, fp, e2⟩ := zz_
  subst e1 e2
  cases r1
  have J1 := Inv.unmark (A0 := True) J2.ok I1
  have SS := Same.new (.tup [.ref L, .ref L']) fp
  have t1 := SS _ _ tb1
  have t2 := SS _ _ tb2
  obtain ⟨⟨oe, vs, hx1, hcl, hdx, hd, hz, h1⟩, _, _⟩ := (show ObjOk X.prog X.w _ s1.heap ea (.ext (ExO ea C dx (.ref T))) from J1.hok ea _ t1)
  obtain ⟨_, its, rv, pt⟩ := (show ObjOk X.prog X.w _ s1.heap p (.tup [.ref L, .ref L']) from J1.hok p _ upd_same)
  have ei : its = [Value.ref L, Value.ref L'] := by
    cases rv with
    | cons r t => cases t with
      | cons r' t' => cases t'; cases r; cases r'; rfl
  subst ei
  have hq := h p fp
  refine x_matches2 J1.kIn xl xl' hb hb' hx1 hcl pt ?_
  by_cases z : (b || b') = true
  · rw [if_pos z] at hq
    rw [z]
    exact suiteU hh J1 t1 t2 hq fun u s' z => z
  · rw [if_neg z] at hq
    rw [Bool.not_eq_true] at z
    rw [z]
    exact hr pins s1 σ _ D ea C dx T J1 t1 t2 xc hq
end
end L2
set_option Elab.async false
set_option linter.all false
set_option maxRecDepth 100000
namespace K28
open PySem L2 PySem.NumText PyProof.Rows KC
noncomputable def top (i : Nat) : Stmt := PySem.Challenge.pw_foldlog_k28_whole_one_shortest_table.main.body.getD i (.Pass ⟨0, 0, 0, 0⟩)
noncomputable abbrev s_is_number : Stmt := top 11
theorem sc_is_number : FnScope ["thing"] ["thing"] (defScope s_is_number) := ⟨rfl, rfl, rfl, by decide +kernel, rfl, by decide +kernel, by decide +kernel⟩
noncomputable abbrev s_is_whole : Stmt := top 12
theorem sc_is_whole : FnScope ["thing", "low", "high"] ["thing", "low", "high"] (defScope s_is_whole) := ⟨rfl, rfl, rfl, by decide +kernel, rfl, by decide +kernel, by decide +kernel⟩
noncomputable abbrev s_is_moment : Stmt := top 13
theorem sc_is_moment : FnScope ["thing"] ["thing"] (defScope s_is_moment) := ⟨rfl, rfl, rfl, by decide +kernel, rfl, by decide +kernel, by decide +kernel⟩
noncomputable abbrev s_is_shift : Stmt := top 14
theorem sc_is_shift : FnScope ["thing"] ["thing"] (defScope s_is_shift) := ⟨rfl, rfl, rfl, by decide +kernel, rfl, by decide +kernel, by decide +kernel⟩
noncomputable abbrev s_is_row : Stmt := top 16
theorem sc_is_row : FnScope ["thing", "widest"] ["thing", "widest"] (defScope s_is_row) := ⟨rfl, rfl, rfl, by decide +kernel, rfl, by decide +kernel, by decide +kernel⟩
noncomputable abbrev s_may_stand : Stmt := top 17
theorem sc_may_stand : FnScope ["rows", "place"] ["rows", "place"] (defScope s_may_stand) := ⟨rfl, rfl, rfl, by decide +kernel, rfl, by decide +kernel, by decide +kernel⟩
noncomputable abbrev s_check_rows : Stmt := top 18
theorem sc_check_rows : FnScope ["rows", "most", "widest", "place", "row"] ["rows", "most", "widest"] (defScope s_check_rows) := ⟨rfl, rfl, rfl, by decide +kernel, rfl, by decide +kernel, by decide +kernel⟩
noncomputable abbrev s_number_at : Stmt := top 19
theorem sc_number_at : FnScope ["rows", "moment"] ["rows", "moment"] (defScope s_number_at) := ⟨rfl, rfl, rfl, by decide +kernel, rfl, by decide +kernel, by decide +kernel⟩
noncomputable abbrev s_shortest_rows : Stmt := top 20
theorem sc_shortest_rows : FnScope ["rows", "told", "moment", "number"] ["rows"] (defScope s_shortest_rows) := ⟨rfl, rfl, rfl, by decide +kernel, rfl, by decide +kernel, by decide +kernel⟩
noncomputable abbrev s_summed : Stmt := top 21
theorem sc_summed : FnScope ["one", "other", "told", "moment"] ["one", "other"] (defScope s_summed) := ⟨rfl, rfl, rfl, by decide +kernel, rfl, by decide +kernel, by decide +kernel⟩
noncomputable abbrev s_differences : Stmt := top 22
theorem sc_differences : FnScope ["one", "other"] ["one", "other"] (defScope s_differences) := ⟨rfl, rfl, rfl, by decide +kernel, rfl, by decide +kernel, by decide +kernel⟩
noncomputable abbrev s_shortened : Stmt := top 27
theorem sc_shortened : FnScope ["table"] ["table"] (defScope s_shortened) := ⟨rfl, rfl, rfl, by decide +kernel, rfl, by decide +kernel, by decide +kernel⟩
noncomputable abbrev s_first_unlike : Stmt := top 28
theorem sc_first_unlike : FnScope ["one", "other", "moment", "number"] ["one", "other"] (defScope s_first_unlike) := ⟨rfl, rfl, rfl, by decide +kernel, rfl, by decide +kernel, by decide +kernel⟩
noncomputable abbrev s_alike : Stmt := top 29
theorem sc_alike : FnScope ["one", "other"] ["one", "other"] (defScope s_alike) := ⟨rfl, rfl, rfl, by decide +kernel, rfl, by decide +kernel, by decide +kernel⟩
noncomputable abbrev s_table_of : Stmt := top 33
theorem sc_table_of : FnScope ["rows", "place", "row"] ["rows"] (defScope s_table_of) := ⟨rfl, rfl, rfl, by decide +kernel, rfl, by decide +kernel, by decide +kernel⟩
noncomputable abbrev s_spliced : Stmt := top 34
theorem sc_spliced : FnScope ["one", "other", "moment", "ahead", "behind"] ["one", "other", "moment"] (defScope s_spliced) := ⟨rfl, rfl, rfl, by decide +kernel, rfl, by decide +kernel, by decide +kernel⟩
noncomputable abbrev s_minutes_from : Stmt := top 35
theorem sc_minutes_from : FnScope ["moment", "minutes"] ["moment", "minutes"] (defScope s_minutes_from) := ⟨rfl, rfl, rfl, by decide +kernel, rfl, by decide +kernel, by decide +kernel⟩
noncomputable abbrev s_put_on : Stmt := top 36
theorem sc_put_on : FnScope ["table", "moment", "minutes"] ["table", "moment", "minutes"] (defScope s_put_on) := ⟨rfl, rfl, rfl, by decide +kernel, rfl, by decide +kernel, by decide +kernel⟩
noncomputable abbrev s_gaps : Stmt := top 37
theorem sc_gaps : FnScope ["one", "other"] ["one", "other"] (defScope s_gaps) := ⟨rfl, rfl, rfl, by decide +kernel, rfl, by decide +kernel, by decide +kernel⟩
noncomputable abbrev s_by_gaps : Stmt := top 38
theorem sc_by_gaps : FnScope ["one", "rows"] ["one", "rows"] (defScope s_by_gaps) := ⟨rfl, rfl, rfl, by decide +kernel, rfl, by decide +kernel, by decide +kernel⟩
noncomputable abbrev s_Lcell_at : Stmt := top 40
theorem sc_Lcell_at : FnScope ["_law_script", "_law_k"] ["_law_script", "_law_k"] (defScope s_Lcell_at) := ⟨rfl, rfl, rfl, by decide +kernel, rfl, by decide +kernel, by decide +kernel⟩
noncomputable abbrev s_Lwhole : Stmt := top 41
theorem sc_Lwhole : FnScope ["_law_found"] ["_law_found"] (defScope s_Lwhole) := ⟨rfl, rfl, rfl, by decide +kernel, rfl, by decide +kernel, by decide +kernel⟩
noncomputable abbrev s_Ldraws : Stmt := top 42
theorem sc_Ldraws : FnScope ["_law_cell", "_law_menus", "_law_found", "_law_left", "_law_k", "_law_number"] ["_law_cell", "_law_menus"] (defScope s_Ldraws) := ⟨rfl, rfl, rfl, by decide +kernel, rfl, by decide +kernel, by decide +kernel⟩
noncomputable abbrev s_Lrows : Stmt := top 43
theorem sc_Lrows : FnScope ["_law_cell", "_law_draws_here", "_law_rows_here", "_law_k", "_law_way", "_law_step", "_law_kind", "_law_number", "_law_moment_here", "_law_shift"] ["_law_cell"] (defScope s_Lrows) := ⟨rfl, rfl, rfl, by decide +kernel, rfl, by decide +kernel, by decide +kernel⟩
noncomputable abbrev s_Lshortest : Stmt := top 44
theorem sc_Lshortest : FnScope ["_law_rows_here", "_law_found", "_law_row"] ["_law_rows_here"] (defScope s_Lshortest) := ⟨rfl, rfl, rfl, by decide +kernel, rfl, by decide +kernel, by decide +kernel⟩
noncomputable abbrev s_Lnumber_at : Stmt := top 45
theorem sc_Lnumber_at : FnScope ["_law_rows_here", "_law_moment_here", "_law_found", "_law_row"] ["_law_rows_here", "_law_moment_here"] (defScope s_Lnumber_at) := ⟨rfl, rfl, rfl, by decide +kernel, rfl, by decide +kernel, by decide +kernel⟩
noncomputable abbrev s_Ltold : Stmt := top 46
theorem sc_Ltold : FnScope ["_law_found", "_law_due", "_law_row", "_law_right", "_law_k"] ["_law_found", "_law_due"] (defScope s_Ltold) := ⟨rfl, rfl, rfl, by decide +kernel, rfl, by decide +kernel, by decide +kernel⟩
noncomputable abbrev s_Lmoment : Stmt := top 47
theorem sc_Lmoment : FnScope ["_law_rows_here", "_law_cell", "_law_near"] ["_law_rows_here", "_law_cell"] (defScope s_Lmoment) := ⟨rfl, rfl, rfl, by decide +kernel, rfl, by decide +kernel, by decide +kernel⟩
noncomputable abbrev s_Lvariant : Stmt := top 48
theorem sc_Lvariant : FnScope ["_law_rows_here", "_law_cell", "_law_kind", "_law_at", "_law_far", "_law_number", "_law_found", "_law_last"] ["_law_rows_here", "_law_cell"] (defScope s_Lvariant) := ⟨rfl, rfl, rfl, by decide +kernel, rfl, by decide +kernel, by decide +kernel⟩
noncomputable abbrev s_Lbehind : Stmt := top 49
theorem sc_Lbehind : FnScope ["_law_rows_here", "_law_others", "_law_moment_here", "_law_minutes_here", "_law_found"] ["_law_rows_here", "_law_others", "_law_moment_here", "_law_minutes_here"] (defScope s_Lbehind) := ⟨rfl, rfl, rfl, by decide +kernel, rfl, by decide +kernel, by decide +kernel⟩
noncomputable abbrev s_Lcan : Stmt := top 50
theorem sc_Lcan : FnScope ["_law_due"] ["_law_due"] (defScope s_Lcan) := ⟨rfl, rfl, rfl, by decide +kernel, rfl, by decide +kernel, by decide +kernel⟩
noncomputable abbrev s_Lput : Stmt := top 51
theorem sc_Lput : FnScope ["_law_table", "_law_moment_here", "_law_minutes_here"] ["_law_table", "_law_moment_here", "_law_minutes_here"] (defScope s_Lput) := ⟨rfl, rfl, rfl, by decide +kernel, rfl, by decide +kernel, by decide +kernel⟩
noncomputable abbrev s_Ljoin : Stmt := top 52
theorem sc_Ljoin : FnScope ["_law_one", "_law_other", "_law_moment_here"] ["_law_one", "_law_other", "_law_moment_here"] (defScope s_Ljoin) := ⟨rfl, rfl, rfl, by decide +kernel, rfl, by decide +kernel, by decide +kernel⟩
noncomputable abbrev s_Lis : Stmt := top 53
theorem sc_Lis : FnScope ["_law_found", "_law_due"] ["_law_found", "_law_due"] (defScope s_Lis) := ⟨rfl, rfl, rfl, by decide +kernel, rfl, by decide +kernel, by decide +kernel⟩
noncomputable abbrev s_Lapart : Stmt := top 54
theorem sc_Lapart : FnScope ["_law_one", "_law_other", "_law_rows_here", "_law_others", "_law_found", "_law_same", "_law_ahead"] ["_law_one", "_law_other", "_law_rows_here", "_law_others"] (defScope s_Lapart) := ⟨rfl, rfl, rfl, by decide +kernel, rfl, by decide +kernel, by decide +kernel⟩
noncomputable abbrev s_Lback : Stmt := top 55
theorem sc_Lback : FnScope ["_law_found", "_law_table", "_law_moment_here", "_law_rows_here", "_law_again"] ["_law_found", "_law_table", "_law_moment_here", "_law_rows_here"] (defScope s_Lback) := ⟨rfl, rfl, rfl, by decide +kernel, rfl, by decide +kernel, by decide +kernel⟩
noncomputable abbrev s_Lminutes : Stmt := top 56
theorem sc_Lminutes : FnScope ["_law_rows_here", "_law_moment_here", "_law_number", "_law_ahead"] ["_law_rows_here", "_law_moment_here", "_law_number"] (defScope s_Lminutes) := ⟨rfl, rfl, rfl, by decide +kernel, rfl, by decide +kernel, by decide +kernel⟩
noncomputable abbrev s_Lturn : Stmt := top 57
theorem sc_Lturn : FnScope ["_law_pair", "_law_state", "_law_draws_here", "_law_table", "_law_rows_here", "_law_kind", "_law_which", "_law_near", "_law_number", "_law_moment_here", "_law_other", "_law_others", "_law_minutes_here", "_law_due"] ["_law_pair", "_law_state", "_law_draws_here"] (defScope s_Lturn) := ⟨rfl, rfl, rfl, by decide +kernel, rfl, by decide +kernel, by decide +kernel⟩
noncomputable abbrev s_law : Stmt := top 58
theorem sc_law : FnScope ["_law_script", "_law_rows_here", "_law_others", "_law_pair", "_law_state", "_law_cell", "_law_found", "_law_due", "_law_moment_here"] ["_law_script"] (defScope s_law) := ⟨rfl, rfl, rfl, by decide +kernel, rfl, by decide +kernel, by decide +kernel⟩
noncomputable abbrev s_Table_init : Stmt := inClass (top 25) 0
theorem sc_Table_init : FnScope ["self", "rows"] ["self", "rows"] (defScope s_Table_init) := ⟨rfl, rfl, rfl, by decide +kernel, rfl, by decide +kernel, by decide +kernel⟩
noncomputable abbrev s_Table_rows : Stmt := inClass (top 25) 1
theorem sc_Table_rows : FnScope ["self"] ["self"] (defScope s_Table_rows) := ⟨rfl, rfl, rfl, by decide +kernel, rfl, by decide +kernel, by decide +kernel⟩
noncomputable abbrev s_Table_shift_at : Stmt := inClass (top 25) 3
theorem sc_Table_shift_at : FnScope ["self", "moment"] ["self", "moment"] (defScope s_Table_shift_at) := ⟨rfl, rfl, rfl, by decide +kernel, rfl, by decide +kernel, by decide +kernel⟩
noncomputable abbrev s_Table_reading : Stmt := inClass (top 25) 4
theorem sc_Table_reading : FnScope ["self", "moment"] ["self", "moment"] (defScope s_Table_reading) := ⟨rfl, rfl, rfl, by decide +kernel, rfl, by decide +kernel, by decide +kernel⟩
noncomputable abbrev s_Beyond_init : Stmt := inClass (top 4) 0
theorem sc_Beyond_init : FnScope ["self", "row"] ["self", "row"] (defScope s_Beyond_init) := ⟨rfl, rfl, rfl, by decide +kernel, rfl, by decide +kernel, by decide +kernel⟩
noncomputable abbrev s_TooMany_init : Stmt := inClass (top 5) 0
theorem sc_TooMany_init : FnScope ["self", "many"] ["self", "many"] (defScope s_TooMany_init) := ⟨rfl, rfl, rfl, by decide +kernel, rfl, by decide +kernel, by decide +kernel⟩
noncomputable abbrev s_LogError_init : Stmt := inClass (top 2) 0
theorem sc_LogError_init : FnScope ["self", "text"] ["self", "text"] (defScope s_LogError_init) := ⟨rfl, rfl, rfl, by decide +kernel, rfl, by decide +kernel, by decide +kernel⟩
set_option genInjectivity false in
structure Ad where
  c_LogError : Addr
  c_NoTable : Addr
  c_Beyond : Addr
  c_TooMany : Addr
  c_NoMoment : Addr
  c_NoMinutes : Addr
  c_Table : Addr
  f_is_number : Addr
  fd_is_number : FuncData
  f_is_whole : Addr
  fd_is_whole : FuncData
  f_is_moment : Addr
  fd_is_moment : FuncData
  f_is_shift : Addr
  fd_is_shift : FuncData
  f_is_row : Addr
  fd_is_row : FuncData
  f_may_stand : Addr
  fd_may_stand : FuncData
  f_check_rows : Addr
  fd_check_rows : FuncData
  f_number_at : Addr
  fd_number_at : FuncData
  f_shortest_rows : Addr
  fd_shortest_rows : FuncData
  f_summed : Addr
  fd_summed : FuncData
  f_differences : Addr
  fd_differences : FuncData
  f_shortened : Addr
  fd_shortened : FuncData
  f_first_unlike : Addr
  fd_first_unlike : FuncData
  f_alike : Addr
  fd_alike : FuncData
  f_table_of : Addr
  fd_table_of : FuncData
  f_spliced : Addr
  fd_spliced : FuncData
  f_minutes_from : Addr
  fd_minutes_from : FuncData
  f_put_on : Addr
  fd_put_on : FuncData
  f_gaps : Addr
  fd_gaps : FuncData
  f_by_gaps : Addr
  fd_by_gaps : FuncData
  f_Lcell_at : Addr
  fd_Lcell_at : FuncData
  f_Lwhole : Addr
  fd_Lwhole : FuncData
  f_Ldraws : Addr
  fd_Ldraws : FuncData
  f_Lrows : Addr
  fd_Lrows : FuncData
  f_Lshortest : Addr
  fd_Lshortest : FuncData
  f_Lnumber_at : Addr
  fd_Lnumber_at : FuncData
  f_Ltold : Addr
  fd_Ltold : FuncData
  f_Lmoment : Addr
  fd_Lmoment : FuncData
  f_Lvariant : Addr
  fd_Lvariant : FuncData
  f_Lbehind : Addr
  fd_Lbehind : FuncData
  f_Lcan : Addr
  fd_Lcan : FuncData
  f_Lput : Addr
  fd_Lput : FuncData
  f_Ljoin : Addr
  fd_Ljoin : FuncData
  f_Lis : Addr
  fd_Lis : FuncData
  f_Lapart : Addr
  fd_Lapart : FuncData
  f_Lback : Addr
  fd_Lback : FuncData
  f_Lminutes : Addr
  fd_Lminutes : FuncData
  f_Lturn : Addr
  fd_Lturn : FuncData
  f_law : Addr
  fd_law : FuncData
  f_Table_init : Addr
  fd_Table_init : FuncData
  f_Table_rows : Addr
  fd_Table_rows : FuncData
  f_Table_shift_at : Addr
  fd_Table_shift_at : FuncData
  f_Table_reading : Addr
  fd_Table_reading : FuncData
  f_Beyond_init : Addr
  fd_Beyond_init : FuncData
  f_TooMany_init : Addr
  fd_TooMany_init : FuncData
  f_LogError_init : Addr
  fd_LogError_init : FuncData
structure DfM (K : PySem.W.Frag) (C : Addr) (x q : Str) (st : Stmt) (ps : List Str) (f : Addr) (fd : FuncData) : Prop where
  F : Fun K x q st f fd
  b : Binds K fd ps []
  mt : Meth K C x f
structure Txt (K : PySem.W.Frag) (mg : Str → Option Value) (a : Ad) : Prop where
  d_is_number : Df K mg "is_number" s_is_number ["thing"] a.f_is_number a.fd_is_number
  d_is_whole : Df K mg "is_whole" s_is_whole ["thing", "low", "high"] a.f_is_whole a.fd_is_whole
  d_is_moment : Df K mg "is_moment" s_is_moment ["thing"] a.f_is_moment a.fd_is_moment
  d_is_shift : Df K mg "is_shift" s_is_shift ["thing"] a.f_is_shift a.fd_is_shift
  d_is_row : Df K mg "is_row" s_is_row ["thing", "widest"] a.f_is_row a.fd_is_row
  d_may_stand : Df K mg "may_stand" s_may_stand ["rows", "place"] a.f_may_stand a.fd_may_stand
  d_check_rows : Df K mg "check_rows" s_check_rows ["rows", "most", "widest"] a.f_check_rows a.fd_check_rows
  d_number_at : Df K mg "number_at" s_number_at ["rows", "moment"] a.f_number_at a.fd_number_at
  d_shortest_rows : Df K mg "shortest_rows" s_shortest_rows ["rows"] a.f_shortest_rows a.fd_shortest_rows
  d_summed : Df K mg "summed" s_summed ["one", "other"] a.f_summed a.fd_summed
  d_differences : Df K mg "differences" s_differences ["one", "other"] a.f_differences a.fd_differences
  d_shortened : Df K mg "shortened" s_shortened ["table"] a.f_shortened a.fd_shortened
  d_first_unlike : Df K mg "first_unlike" s_first_unlike ["one", "other"] a.f_first_unlike a.fd_first_unlike
  d_alike : Df K mg "alike" s_alike ["one", "other"] a.f_alike a.fd_alike
  d_table_of : Df K mg "table_of" s_table_of ["rows"] a.f_table_of a.fd_table_of
  d_spliced : Df K mg "spliced" s_spliced ["one", "other", "moment"] a.f_spliced a.fd_spliced
  d_minutes_from : Df K mg "minutes_from" s_minutes_from ["moment", "minutes"] a.f_minutes_from a.fd_minutes_from
  d_put_on : Df K mg "put_on" s_put_on ["table", "moment", "minutes"] a.f_put_on a.fd_put_on
  d_gaps : Df K mg "gaps" s_gaps ["one", "other"] a.f_gaps a.fd_gaps
  d_by_gaps : Df K mg "by_gaps" s_by_gaps ["one", "rows"] a.f_by_gaps a.fd_by_gaps
  d_Lcell_at : Df K mg "_law_cell_at" s_Lcell_at ["_law_script", "_law_k"] a.f_Lcell_at a.fd_Lcell_at
  d_Lwhole : Df K mg "_law_whole" s_Lwhole ["_law_found"] a.f_Lwhole a.fd_Lwhole
  d_Ldraws : Df K mg "_law_draws" s_Ldraws ["_law_cell", "_law_menus"] a.f_Ldraws a.fd_Ldraws
  d_Lrows : Df K mg "_law_rows" s_Lrows ["_law_cell"] a.f_Lrows a.fd_Lrows
  d_Lshortest : Df K mg "_law_shortest" s_Lshortest ["_law_rows_here"] a.f_Lshortest a.fd_Lshortest
  d_Lnumber_at : Df K mg "_law_number_at" s_Lnumber_at ["_law_rows_here", "_law_moment_here"] a.f_Lnumber_at a.fd_Lnumber_at
  d_Ltold : Df K mg "_law_told" s_Ltold ["_law_found", "_law_due"] a.f_Ltold a.fd_Ltold
  d_Lmoment : Df K mg "_law_moment" s_Lmoment ["_law_rows_here", "_law_cell"] a.f_Lmoment a.fd_Lmoment
  d_Lvariant : Df K mg "_law_variant" s_Lvariant ["_law_rows_here", "_law_cell"] a.f_Lvariant a.fd_Lvariant
  d_Lbehind : Df K mg "_law_behind" s_Lbehind ["_law_rows_here", "_law_others", "_law_moment_here", "_law_minutes_here"] a.f_Lbehind a.fd_Lbehind
  d_Lcan : Df K mg "_law_can" s_Lcan ["_law_due"] a.f_Lcan a.fd_Lcan
  d_Lput : Df K mg "_law_put" s_Lput ["_law_table", "_law_moment_here", "_law_minutes_here"] a.f_Lput a.fd_Lput
  d_Ljoin : Df K mg "_law_join" s_Ljoin ["_law_one", "_law_other", "_law_moment_here"] a.f_Ljoin a.fd_Ljoin
  d_Lis : Df K mg "_law_is" s_Lis ["_law_found", "_law_due"] a.f_Lis a.fd_Lis
  d_Lapart : Df K mg "_law_apart" s_Lapart ["_law_one", "_law_other", "_law_rows_here", "_law_others"] a.f_Lapart a.fd_Lapart
  d_Lback : Df K mg "_law_back" s_Lback ["_law_found", "_law_table", "_law_moment_here", "_law_rows_here"] a.f_Lback a.fd_Lback
  d_Lminutes : Df K mg "_law_minutes" s_Lminutes ["_law_rows_here", "_law_moment_here", "_law_number"] a.f_Lminutes a.fd_Lminutes
  d_Lturn : Df K mg "_law_turn" s_Lturn ["_law_pair", "_law_state", "_law_draws_here"] a.f_Lturn a.fd_Lturn
  d_law : Df K mg "law" s_law ["_law_script"] a.f_law a.fd_law
  d_Table_init : DfM K a.c_Table "__init__" "Table.__init__" s_Table_init ["self", "rows"] a.f_Table_init a.fd_Table_init
  d_Table_rows : DfM K a.c_Table "rows" "Table.rows" s_Table_rows ["self"] a.f_Table_rows a.fd_Table_rows
  d_Table_shift_at : DfM K a.c_Table "shift_at" "Table.shift_at" s_Table_shift_at ["self", "moment"] a.f_Table_shift_at a.fd_Table_shift_at
  d_Table_reading : DfM K a.c_Table "reading" "Table.reading" s_Table_reading ["self", "moment"] a.f_Table_reading a.fd_Table_reading
  d_Beyond_init : DfM K a.c_Beyond "__init__" "Beyond.__init__" s_Beyond_init ["self", "row"] a.f_Beyond_init a.fd_Beyond_init
  d_TooMany_init : DfM K a.c_TooMany "__init__" "TooMany.__init__" s_TooMany_init ["self", "many"] a.f_TooMany_init a.fd_TooMany_init
  d_LogError_init : DfM K a.c_LogError "__init__" "LogError.__init__" s_LogError_init ["self", "text"] a.f_LogError_init a.fd_LogError_init
  g_Table : mg "Table" = some (.ref a.c_Table)
  cl_Table : Cls K a.c_Table
  M_Table : Mk K a.c_Table a.f_Table_init
  n_Table_kept : NoAttr K a.c_Table "kept"
  iT1 : PySem.W.findIn K (.ref a.c_Table) "__class__" = some (some (.builtin "object.__class__"))
  iT2 : PySem.W.specialIn K (.builtin "object.__class__") "__get__" = some (some (.builtin "getset_descriptor.__get__"))
  iT3 : PySem.W.takesIn K (.builtin "object.__class__") = some true
  iT4 : PySem.W.mroIn K a.c_Table (.type "object") = some true
  m_TooMany_Beyond : PySem.W.mroIn K a.c_TooMany (.ref a.c_Beyond) = some false
  m_Beyond_TooMany : PySem.W.mroIn K a.c_Beyond (.ref a.c_TooMany) = some false
  n_len : mg "len" = none
  n_max : mg "max" = none
  n_min : mg "min" = none
  n_isinstance : mg "isinstance" = none
  n_range : mg "range" = none
  n_enumerate : mg "enumerate" = none
  n_int : mg "int" = none
  n_bool : mg "bool" = none
  n_list : mg "list" = none
  n_tuple : mg "tuple" = none
  n_sorted : mg "sorted" = none
  n_zip : mg "zip" = none
  n_set : mg "set" = none
  g_LAST : ∃ t, mg "LAST" = some (.int 1000000000 t)
  g_WIDEST_SHIFT : ∃ t, mg "WIDEST_SHIFT" = some (.int 2880 t)
  g_MOST_ROWS : ∃ t, mg "MOST_ROWS" = some (.int 21 t)
  g_WIDEST_GAP : ∃ t, mg "WIDEST_GAP" = some (.int 5760 t)
  g_MOST_GAPS : ∃ t, mg "MOST_GAPS" = some (.int 41 t)
  n_ValueError : mg "ValueError" = none
  g_LogError : mg "LogError" = some (.ref a.c_LogError)
  g_NoTable : mg "NoTable" = some (.ref a.c_NoTable)
  g_Beyond : mg "Beyond" = some (.ref a.c_Beyond)
  g_TooMany : mg "TooMany" = some (.ref a.c_TooMany)
  g_NoMoment : mg "NoMoment" = some (.ref a.c_NoMoment)
  g_NoMinutes : mg "NoMinutes" = some (.ref a.c_NoMinutes)
  xl_LogError : xIn K a.c_LogError = true
  ci_LogError : CInit K a.c_LogError a.f_LogError_init
  X_Beyond : XMk K a.c_Beyond a.f_Beyond_init
  up_Beyond : PySem.W.mroIn K a.c_Beyond (.ref a.c_LogError) = some true
  n_Beyond_row : NoAttr K a.c_Beyond "row"
  X_TooMany : XMk K a.c_TooMany a.f_TooMany_init
  up_TooMany : PySem.W.mroIn K a.c_TooMany (.ref a.c_LogError) = some true
  n_TooMany_many : NoAttr K a.c_TooMany "many"
  is_Beyond_LogError : xIsa K a.c_Beyond (.ref a.c_LogError) = some true
  is_Beyond_NoTable : xIsa K a.c_Beyond (.ref a.c_NoTable) = some false
  is_Beyond_Beyond : xIsa K a.c_Beyond (.ref a.c_Beyond) = some true
  is_Beyond_TooMany : xIsa K a.c_Beyond (.ref a.c_TooMany) = some false
  is_Beyond_NoMoment : xIsa K a.c_Beyond (.ref a.c_NoMoment) = some false
  is_Beyond_NoMinutes : xIsa K a.c_Beyond (.ref a.c_NoMinutes) = some false
  is_TooMany_LogError : xIsa K a.c_TooMany (.ref a.c_LogError) = some true
  is_TooMany_NoTable : xIsa K a.c_TooMany (.ref a.c_NoTable) = some false
  is_TooMany_Beyond : xIsa K a.c_TooMany (.ref a.c_Beyond) = some false
  is_TooMany_TooMany : xIsa K a.c_TooMany (.ref a.c_TooMany) = some true
  is_TooMany_NoMoment : xIsa K a.c_TooMany (.ref a.c_NoMoment) = some false
  is_TooMany_NoMinutes : xIsa K a.c_TooMany (.ref a.c_NoMinutes) = some false
theorem seq_go {t u : TS} {D : Ends} {σ : L2.St} {H : Hp} (h : ∀ N : L2.St → Hp → Prop, (∀ σ' H', u D σ' H' → N σ' H') → t { D with nx := N } σ H) : tSeq t u D σ H := h (u D) fun _ _ x => x
noncomputable def sr : List (Int × Int) → List (Int × Int) → List (Int × Int)
  | acc, [] => acc
  | acc, r :: rs => if acc = [] ∨ acc.getLast?.map (·.2) ≠ some r.2 then sr (acc ++ [r]) rs else sr acc rs
noncomputable def na (rows : List (Int × Int)) (t : Int) : Option Int := (rows.filter fun r => decide (r.1 ≤ t)).getLast?.map (·.2)
noncomputable def lna (f : Int) (t : Int) : List (Int × Int) → Int
  | [] => f
  | r :: rs => lna (if r.1 ≤ t then r.2 else f) t rs
noncomputable def Asc (rows : List (Int × Int)) : Prop := rows.Pairwise fun a b => a.1 < b.1
theorem lna_na (t : Int) : ∀ (rows acc : List (Int × Int)) (f : Int), na acc t = some f → na (acc ++ rows) t = some (lna f t rows)
  | [], acc, f, h => by rw [List.append_nil]; exact h
  | r :: rs, acc, f, h => by
    have e : acc ++ r :: rs = (acc ++ [r]) ++ rs := by simp
    rw [e]
    show _ = some (lna (if r.1 ≤ t then r.2 else f) t rs)
    refine lna_na t rs (acc ++ [r]) _ ?_
    unfold na
    rw [List.filter_append]
    by_cases g : r.1 ≤ t
    · rw [if_pos g]; simp [g]
    · rw [if_neg g, show List.filter (fun r => decide (r.1 ≤ t)) [r] = [] by simp [g], List.append_nil]; exact h
theorem na_none {t : Int} {rows : List (Int × Int)} (h : ∀ r ∈ rows, t < r.1) : na rows t = none := by
  unfold na
  rw [List.filter_eq_nil_iff.mpr]
  · rfl
  · intro r m
    have := h r m
    simp; omega
theorem na_append (a b : List (Int × Int)) (t : Int) : na (a ++ b) t = (na b t).or (na a t) := by
  unfold na
  rw [List.filter_append, List.getLast?_append]
  cases (List.filter (fun r => decide (r.1 ≤ t)) b).getLast? <;> simp
theorem na_last {t : Int} {acc : List (Int × Int)} {l : Int × Int} (h : acc.getLast? = some l) (g : l.1 ≤ t) : na acc t = some l.2 := by
  unfold na
  obtain ⟨ys, rfl⟩ := List.getLast?_eq_some_iff.mp h
  rw [List.filter_append]
  simp [g]
theorem sr_na (t : Int) : ∀ (rows acc : List (Int × Int)), Asc (acc ++ rows) → na (sr acc rows) t = na (acc ++ rows) t
  | [], acc, _ => by show na acc t = _; rw [List.append_nil]
  | r :: rs, acc, h => by
    have e : acc ++ r :: rs = (acc ++ [r]) ++ rs := by simp
    have hA : Asc (acc ++ rs) := by
      unfold Asc at h ⊢
      refine h.sublist ?_
      exact List.Sublist.append (List.Sublist.refl _) (List.sublist_cons_self r rs)
    by_cases g : acc = [] ∨ acc.getLast?.map (·.2) ≠ some r.2
    · rw [show sr acc (r :: rs) = sr (acc ++ [r]) rs from if_pos g, sr_na t rs (acc ++ [r]) (e ▸ h), e]
    · rw [show sr acc (r :: rs) = sr acc rs from if_neg g, sr_na t rs acc hA, na_append, na_append]
      rw [show r :: rs = [r] ++ rs from rfl, na_append]
      cases hr : na rs t with
      | some v => rfl
      | none =>
        simp only [Option.none_or]
        by_cases gr : r.1 ≤ t
        · obtain ⟨h1, h2⟩ := not_or.mp g
          have h2' : acc.getLast?.map (·.2) = some r.2 := Decidable.not_not.mp h2
          cases hl : acc.getLast? with
          | none => rw [hl] at h2'; cases h2'
          | some l =>
            rw [hl] at h2'
            have el : l.2 = r.2 := by simpa using h2'
            have ml : l ∈ acc := List.mem_of_getLast? hl
            have lt : l.1 < r.1 := (List.pairwise_append.mp h).2.2 l ml r List.mem_cons_self
            rw [na_last hl (by omega), el]
            simp [na, gr]
        · simp [na, gr]
noncomputable def Nb (rows : List (Int × Int)) : Prop := ∀ (i : Nat) a b, rows[i]? = some a → rows[i + 1]? = some b → a.2 ≠ b.2
theorem sr_nb : ∀ (rows acc : List (Int × Int)), Nb acc → Nb (sr acc rows)
  | [], acc, h => h
  | r :: rs, acc, h => by
    by_cases g : acc = [] ∨ acc.getLast?.map (·.2) ≠ some r.2
    · rw [show sr acc (r :: rs) = sr (acc ++ [r]) rs from if_pos g]
      refine sr_nb rs _ fun i a b e1 e2 => ?_
      rw [List.getElem?_append] at e1 e2
      by_cases h1 : i + 1 < acc.length
      · rw [if_pos (by omega)] at e1; rw [if_pos h1] at e2
        exact h i a b e1 e2
      · rw [if_neg h1] at e2
        have e3 : i + 1 - acc.length = 0 := by
          cases n : i + 1 - acc.length with
          | zero => rfl
          | succ k => rw [n] at e2; simp at e2
        have hl : i < acc.length := by
          rcases g with g | g
          · subst g; simp at e3
          · omega
        rw [if_pos hl] at e1
        have eb : b = r := by rw [e3] at e2; simpa using e2.symm
        rcases g with g | g
        · subst g; simp at hl
        · intro z
          apply g
          rw [List.getLast?_eq_getElem?, show acc.length - 1 = i by omega, e1, ← eb, ← z]; rfl
    · rw [show sr acc (r :: rs) = sr acc rs from if_neg g]
      exact sr_nb rs acc h
theorem sr_sub : ∀ (rows acc : List (Int × Int)), (sr acc rows).Sublist (acc ++ rows)
  | [], acc => by show acc.Sublist _; rw [List.append_nil]; exact List.Sublist.refl _
  | r :: rs, acc => by
    by_cases g : acc = [] ∨ acc.getLast?.map (·.2) ≠ some r.2
    · rw [show sr acc (r :: rs) = sr (acc ++ [r]) rs from if_pos g]
      have := sr_sub rs (acc ++ [r])
      simpa using this
    · rw [show sr acc (r :: rs) = sr acc rs from if_neg g]
      exact (sr_sub rs acc).trans (List.Sublist.append (List.Sublist.refl _) (List.sublist_cons_self r rs))
theorem sr_head {r : Int × Int} : ∀ (rows acc : List (Int × Int)), acc.head? = some r → (sr acc rows).head? = some r
  | [], acc, h => h
  | s :: rs, acc, h => by
    by_cases g : acc = [] ∨ acc.getLast?.map (·.2) ≠ some s.2
    · rw [show sr acc (s :: rs) = sr (acc ++ [s]) rs from if_pos g]
      refine sr_head rs _ ?_
      cases acc with
      | nil => cases h
      | cons a b => exact h
    · rw [show sr acc (s :: rs) = sr acc rs from if_neg g]
      exact sr_head rs acc h
noncomputable def g2 (p : Int × Int) : List Int := [p.1, p.2]
noncomputable abbrev pr : Int × Int → List V := fun p => (g2 p).map V.int
theorem ixN_nat {n j : Nat} (h : j < n) : ixN n (j : Int) = some j := by
  unfold ixN
  rw [if_pos (by omega), if_pos (by omega)]
  simp
theorem map_get {α β : Type} {f : α → β} {xs : List α} {i : Nat} {y : β} (h : (xs.map f)[i]? = some y) : ∃ x, xs[i]? = some x ∧ y = f x := by
  rw [List.getElem?_map] at h
  cases e : xs[i]? with
  | none => rw [e] at h; cases h
  | some x => rw [e] at h; exact ⟨x, rfl, (Option.some.inj h).symm⟩
structure GdW (most : Nat) (wd : Int) (rows : List (Int × Int)) : Prop where
  few : rows.length ≤ most
  fst : ∃ n, rows.head? = some (0, n)
  asc : Asc rows
  ok : ∀ r ∈ rows, 0 ≤ r.1 ∧ r.1 ≤ 1000000000 ∧ -wd ≤ r.2 ∧ r.2 ≤ wd
noncomputable abbrev Good (rows : List (Int × Int)) : Prop := GdW 21 2880 rows
noncomputable abbrev GdG (rows : List (Int × Int)) : Prop := GdW 41 5760 rows
theorem GdW.sr {most : Nat} {wd : Int} {rows : List (Int × Int)} (h : GdW most wd rows) : GdW most wd (sr [] rows) := by
  have s := sr_sub rows []
  obtain ⟨n, hn⟩ := h.fst
  refine ⟨Nat.le_trans s.length_le h.few, ⟨n, ?_⟩, h.asc.sublist s, fun r m => h.ok r (s.subset m)⟩
  cases rows with
  | nil => cases hn
  | cons r rs =>
    have e : r = (0, n) := by simpa using hn
    subst e
    rw [show K28.sr [] ((0, n) :: rs) = K28.sr ([] ++ [(0, n)]) rs from if_pos (.inl rfl)]
    exact sr_head rs _ rfl
theorem GdW.ne {most : Nat} {wd : Int} {rows : List (Int × Int)} (h : GdW most wd rows) : 0 < rows.length := by
  obtain ⟨n, hn⟩ := h.fst
  cases rows with
  | nil => cases hn
  | cons r rs => exact Nat.succ_pos _
theorem GdW.na {most : Nat} {wd : Int} {rows : List (Int × Int)} (h : GdW most wd rows) {t : Int} (t0 : 0 ≤ t) : ∃ r rs, rows = r :: rs ∧ na rows t = some (lna r.2 t rows) := by
  obtain ⟨n, hn⟩ := h.fst
  cases rows with
  | nil => cases hn
  | cons r rs =>
    have e : r = (0, n) := by simpa using hn
    subst e
    refine ⟨_, rs, rfl, ?_⟩
    have z := lna_na t rs [(0, n)] n (by simp [K28.na, t0])
    rw [show (0, n) :: rs = [(0, n)] ++ rs from rfl, z]
    show _ = some (lna (if (0 : Int) ≤ t then n else n) t rs)
    rw [if_pos t0]
noncomputable def flds (k : Addr) : List (Str × V) := putF "kept" (.ref k) []
theorem flds_kept (k : Addr) : (flds k).lookup ("kept" : Str) = some (.ref k) := by
  unfold flds
  rw [lookup_putF, if_pos rfl]
theorem flds_no (k : Addr) {m : Str} (h1 : ¬ m = "kept") : (flds k).lookup m = none := by
  unfold flds
  rw [lookup_putF, if_neg h1]
  rfl
inductive Tb_P (a : Ad) (H : Hp) (x : Addr) (rows : List (Int × Int)) : Prop
  | mk (k dx : Addr) (zs : List V) (h1 : H x = some (.ins a.c_Table dx (flds k))) (h2 : H k = some (.lst zs)) (h3 : TupL pr H zs rows) : Tb_P a H x rows
noncomputable def Tb (a : Ad) (H : Hp) (x : Addr) (rows : List (Int × Int)) : Prop := Tb_P a H x rows
theorem Tb.same {a : Ad} {H H' : Hp} {x : Addr} {rows : List (Int × Int)} (h : Tb a H x rows) (s : Same H H') : Tb a H' x rows := by
  obtain ⟨k, dx, zs, h1, h2, h3⟩ := h
  exact ⟨k, dx, zs, s _ _ h1, s _ _ h2, h3.same s⟩
inductive Rs_P (H : Hp) (q : Addr) (rows : List (Int × Int)) : Prop
  | mk (zs : _) (h1 : H q = some (.lst zs)) (h2 : TupL pr H zs rows) : Rs_P H q rows
noncomputable def Rs (H : Hp) (q : Addr) (rows : List (Int × Int)) : Prop := Rs_P H q rows
theorem Rs.same {H H' : Hp} {q : Addr} {rows : List (Int × Int)} (h : Rs H q rows) (s : Same H H') : Rs H' q rows := by
  obtain ⟨zs, h1, h2⟩ := h
  exact ⟨zs, s _ _ h1, h2.same s⟩
theorem boot_ValueError' : bootBuiltins "ValueError" = some (.type "ValueError") := by decide +kernel
noncomputable def isN : V → Bool
  | .int _ => true
  | _ => false
noncomputable def whole : V → Int → Int → Bool
  | .int i, lo, hi => decide (lo ≤ i) && decide (i ≤ hi)
  | _, _, _ => false
noncomputable abbrev mom (v : V) : Bool := whole v 0 1000000000
theorem mom_int {i : Int} (h0 : 0 ≤ i) (h1 : i ≤ 1000000000) : mom (.int i) = true := by show (decide (0 ≤ i) && decide (i ≤ 1000000000)) = true; simp [h0, h1]
theorem whole_int {i lo hi : Int} (h0 : lo ≤ i) (h1 : i ≤ hi) : whole (.int i) lo hi = true := by show (decide (lo ≤ i) && decide (i ≤ hi)) = true; simp [h0, h1]
inductive sp_is_number_P (vs : List V) (H : Hp) (Q : VK) : Prop
  | mk (v t : _) (h1 : vs = [v]) (h2 : tyN H v = some t) (h3 : Q (.bl (isN v)) H) : sp_is_number_P vs H Q
noncomputable def sp_is_number : Sp := fun vs H Q _ => sp_is_number_P vs H Q
inductive sp_Lwhole_P (vs : List V) (H : Hp) (Q : VK) : Prop
  | mk (i : _) (h1 : vs = [.int i]) (h2 : Q (.bl true) H) : sp_Lwhole_P vs H Q
noncomputable def sp_Lwhole : Sp := fun vs H Q _ => sp_Lwhole_P vs H Q
inductive sp_is_whole_P (vs : List V) (H : Hp) (Q : VK) : Prop
  | mk (v : V) (t : String) (lo hi : Int) (h1 : vs = [v, .int lo, .int hi]) (h2 : tyN H v = some t) (h3 : Q (.bl (whole v lo hi)) H) : sp_is_whole_P vs H Q
noncomputable def sp_is_whole : Sp := fun vs H Q _ => sp_is_whole_P vs H Q
inductive sp_is_moment_P (vs : List V) (H : Hp) (Q : VK) : Prop
  | mk (v : V) (t : String) (h1 : vs = [v]) (h2 : tyN H v = some t) (h3 : Q (.bl (mom v)) H) : sp_is_moment_P vs H Q
noncomputable def sp_is_moment : Sp := fun vs H Q _ => sp_is_moment_P vs H Q
inductive sp_is_row_P (vs : List V) (H : Hp) (Q : VK) : Prop
  | mk (t : Addr) (r : Int × Int) (w : Int) (h1 : vs = [.ref t, .int w]) (h2 : H t = some (.tup (pr r))) (h3 : 0 ≤ r.1) (h4 : r.1 ≤ 1000000000) (h5 : -w ≤ r.2) (h6 : r.2 ≤ w) (h7 : Q (.bl true) H) : sp_is_row_P vs H Q
noncomputable def sp_is_row : Sp := fun vs H Q _ => sp_is_row_P vs H Q
inductive sp_may_stand_P (vs : List V) (H : Hp) (Q : VK) : Prop
  | mk (q : Addr) (i most : Nat) (wd : Int) (rows : List (Int × Int)) (h1 : vs = [.ref q, .int i]) (h2 : Rs H q rows) (h3 : GdW most wd rows) (h4 : i < rows.length) (h5 : Q (.bl true) H) : sp_may_stand_P vs H Q
noncomputable def sp_may_stand : Sp := fun vs H Q _ => sp_may_stand_P vs H Q
inductive sp_check_rows_P (vs : List V) (H : Hp) (Q : VK) : Prop
  | mk (q : Addr) (most : Nat) (wd : Int) (rows : List (Int × Int)) (h1 : vs = [.ref q, .int most, .int wd]) (h2 : Rs H q rows) (h3 : GdW most wd rows) (h4 : ∀ H', Same H H' → Q .non H') : sp_check_rows_P vs H Q
noncomputable def sp_check_rows : Sp := fun vs H Q _ => sp_check_rows_P vs H Q
inductive sp_Table_init_P (a : Ad) (vs : List V) (H : Hp) (Q : VK) : Prop
  | mk (x dx q : Addr) (rows : List (Int × Int)) (h1 : vs = [.ref x, .ref q]) (h2 : H x = some (.ins a.c_Table dx [])) (h3 : Rs H q rows) (h4 : Good rows) (h5 : ∀ H', But x H H' → Tb a H' x rows → Q .non H') : sp_Table_init_P a vs H Q
noncomputable def sp_Table_init (a : Ad) : Sp := fun vs H Q _ => sp_Table_init_P a vs H Q
inductive sp_Table_rows_P (a : Ad) (vs : List V) (H : Hp) (Q : VK) : Prop
  | mk (x : Addr) (rows : List (Int × Int)) (h1 : vs = [.ref x]) (h2 : Tb a H x rows) (h3 : ∀ (d : Addr) (H' : Hp), H d = none → Same H H' → Rs H' d rows → Q (.ref d) H') : sp_Table_rows_P a vs H Q
noncomputable def sp_Table_rows (a : Ad) : Sp := fun vs H Q _ => sp_Table_rows_P a vs H Q
inductive sp_number_at_P (vs : List V) (H : Hp) (Q : VK) : Prop
  | mk (q : Addr) (t v : Int) (rows : List (Int × Int)) (h1 : vs = [.ref q, .int t]) (h2 : Rs H q rows) (h3 : rows.length ≤ 64) (h4 : na rows t = some v) (h5 : ∀ H', Same H H' → Q (.int v) H') : sp_number_at_P vs H Q
noncomputable def sp_number_at : Sp := fun vs H Q _ => sp_number_at_P vs H Q
inductive sp_Table_shift_at_P (a : Ad) (vs : List V) (H : Hp) (Q : VK) : Prop
  | mk (x : Addr) (t v : Int) (rows : List (Int × Int)) (h1 : vs = [.ref x, .int t]) (h2 : Tb a H x rows) (h3 : rows.length ≤ 21) (h4 : 0 ≤ t) (h5 : t ≤ 1000000000) (h6 : na rows t = some v) (h7 : ∀ H', Same H H' → Q (.int v) H') : sp_Table_shift_at_P a vs H Q
noncomputable def sp_Table_shift_at (a : Ad) : Sp := fun vs H Q _ => sp_Table_shift_at_P a vs H Q
inductive sp_Table_reading_P (a : Ad) (vs : List V) (H : Hp) (Q : VK) : Prop
  | mk (x : Addr) (t v : Int) (rows : List (Int × Int)) (h1 : vs = [.ref x, .int t]) (h2 : Tb a H x rows) (h3 : rows.length ≤ 21) (h4 : 0 ≤ t) (h5 : t ≤ 1000000000) (h6 : na rows t = some v) (h7 : ∀ H', Same H H' → Q (.int (v + t)) H') : sp_Table_reading_P a vs H Q
noncomputable def sp_Table_reading (a : Ad) : Sp := fun vs H Q _ => sp_Table_reading_P a vs H Q
inductive sp_LogError_init_P (K : PySem.W.Frag) (vs : List V) (H : Hp) (Q : VK) : Prop
  | mk (ea : Addr) (x : Str) (C : Addr) (dx : Option Addr) (tb : Value) (h1 : vs = [.ref ea, .str x]) (h2 : H ea = some (.ext (ExO ea C dx tb))) (h3 : xIn K C = true) (h4 : Q .non H) : sp_LogError_init_P K vs H Q
noncomputable def sp_LogError_init (K : PySem.W.Frag) : Sp := fun vs H Q _ => sp_LogError_init_P K vs H Q
inductive sp_TooMany_init_P (a : Ad) (vs : List V) (H : Hp) (Q : VK) : Prop
  | mk (ea : Addr) (v : V) (h1 : vs = [.ref ea, v]) (h2 : H ea = some (.ext (ExO ea a.c_TooMany none .none))) (h3 : ∀ dx, H dx = none → dx ≠ ea → Q .non (upd (upd H ea (.ext (ExO ea a.c_TooMany (some dx) .none))) dx (.xd [("many", v)]))) : sp_TooMany_init_P a vs H Q
noncomputable def sp_TooMany_init (a : Ad) : Sp := fun vs H Q _ => sp_TooMany_init_P a vs H Q
inductive sp_Beyond_init_P (a : Ad) (vs : List V) (H : Hp) (Q : VK) : Prop
  | mk (ea : Addr) (v : V) (h1 : vs = [.ref ea, v]) (h2 : H ea = some (.ext (ExO ea a.c_Beyond none .none))) (h3 : ∀ dx, H dx = none → dx ≠ ea → Q .non (upd (upd H ea (.ext (ExO ea a.c_Beyond (some dx) .none))) dx (.xd [("row", v)]))) : sp_Beyond_init_P a vs H Q
noncomputable def sp_Beyond_init (a : Ad) : Sp := fun vs H Q _ => sp_Beyond_init_P a vs H Q
inductive sp_shortest_rows_P (vs : List V) (H : Hp) (Q : VK) : Prop
  | mk (q : Addr) (rows : List (Int × Int)) (h1 : vs = [.ref q]) (h2 : Rs H q rows) (h3 : rows.length ≤ 64) (h4 : ∀ (d : Addr) (H' : Hp), H d = none → Same H H' → Rs H' d (sr [] rows) → Q (.ref d) H') : sp_shortest_rows_P vs H Q
noncomputable def sp_shortest_rows : Sp := fun vs H Q _ => sp_shortest_rows_P vs H Q
inductive sp_Lshortest_P (vs : List V) (H : Hp) (Q : VK) : Prop
  | mk (q : Addr) (rows : List (Int × Int)) (h1 : vs = [.ref q]) (h2 : Rs H q rows) (h3 : rows.length ≤ 64) (h4 : ∀ (d : Addr) (H' : Hp), H d = none → Same H H' → Rs H' d (sr [] rows) → Q (.ref d) H') : sp_Lshortest_P vs H Q
noncomputable def sp_Lshortest : Sp := fun vs H Q _ => sp_Lshortest_P vs H Q
inductive sp_shortened_P (a : Ad) (vs : List V) (H : Hp) (Q : VK) : Prop
  | mk (x : Addr) (rows : List (Int × Int)) (h1 : vs = [.ref x]) (h2 : Tb a H x rows) (h3 : Good rows) (h4 : ∀ (y : Addr) (H' : Hp), H y = none → Same H H' → Tb a H' y (sr [] rows) → Q (.ref y) H') : sp_shortened_P a vs H Q
noncomputable def sp_shortened (a : Ad) : Sp := fun vs H Q _ => sp_shortened_P a vs H Q
inductive sp_Lcell_at_P (K : PySem.W.Frag) (vs : List V) (H : Hp) (Q : VK) : Prop
  | mk (sa : Addr) (ns : List Int) (k : Int) (h1 : vs = [.ref sa, .int k]) (h2 : SqL K H sa (ns.map V.int)) (h3 : 0 ≤ k) (h4 : ∀ c, Q (.int c) H) : sp_Lcell_at_P K vs H Q
noncomputable def sp_Lcell_at (K : PySem.W.Frag) : Sp := fun vs H Q _ => sp_Lcell_at_P K vs H Q
inductive sp_Ldraws_P (vs : List V) (H : Hp) (Q : VK) : Prop
  | mk (c : Int) (m : Addr) (ms : List Int) (h1 : vs = [.int c, .ref m]) (h2 : H m = some (.lst (ms.map V.int))) (h3 : ms.length ≤ 200) (h4 : (∀ x ∈ ms, 0 < x ∧ x < 18446744073709551616)) (h5 : ∀ (d : Addr) (ds : List Int) (H' : Hp), H d = none → Same H H' → H' d = some (.lst (ds.map V.int)) → ds.length = ms.length → (∀ (i : Nat) x m, ds[i]? = some x → ms[i]? = some m → 0 ≤ x ∧ x < m) → Q (.ref d) H') : sp_Ldraws_P vs H Q
noncomputable def sp_Ldraws : Sp := fun vs H Q _ => sp_Ldraws_P vs H Q
inductive sp_Lrows_P (vs : List V) (H : Hp) (Q : VK) : Prop
  | mk (c : Int) (h1 : vs = [.int c]) (h2 : ∀ (q : Addr) (rows : List (Int × Int)) (H' : Hp), H q = none → Same H H' → Rs H' q rows → Good rows → Q (.ref q) H') : sp_Lrows_P vs H Q
noncomputable def sp_Lrows : Sp := fun vs H Q _ => sp_Lrows_P vs H Q
inductive sp_Lnumber_at_P (vs : List V) (H : Hp) (Q : VK) : Prop
  | mk (q : Addr) (t : Int) (r : Int × Int) (rs : List (Int × Int)) (h1 : vs = [.ref q, .int t]) (h2 : Rs H q (r :: rs)) (h3 : Q (.int (lna r.2 t (r :: rs))) H) : sp_Lnumber_at_P vs H Q
noncomputable def sp_Lnumber_at : Sp := fun vs H Q _ => sp_Lnumber_at_P vs H Q
inductive sp_Ltold_P (vs : List V) (H : Hp) (Q : VK) : Prop
  | mk (f d : Addr) (rows : List (Int × Int)) (h_0 : rows.length ≤ 64) (h1 : vs = [.ref f, .ref d]) (h2 : Rs H f rows) (h3 : Rs H d rows) (h4 : ∀ H', Same H H' → Q (.bl true) H') : sp_Ltold_P vs H Q
noncomputable def sp_Ltold : Sp := fun vs H Q _ => sp_Ltold_P vs H Q
inductive sp_Lmoment_P (vs : List V) (H : Hp) (Q : VK) : Prop
  | mk (q : Addr) (c : Int) (rows : List (Int × Int)) (h1 : vs = [.ref q, .int c]) (h2 : Rs H q rows) (h3 : Good rows) (h4 : ∀ t : Int, 0 ≤ t → t ≤ 1000000000 → Q (.int t) H) : sp_Lmoment_P vs H Q
noncomputable def sp_Lmoment : Sp := fun vs H Q _ => sp_Lmoment_P vs H Q
theorem na_here {rows : List (Int × Int)} {most : Nat} {wd : Int} (g : GdW most wd rows) {t : Int} (t0 : 0 ≤ t) : na rows t = some ((na rows t).getD 0) := by
  obtain ⟨r, rs, _, e⟩ := g.na t0
  rw [e]; rfl
theorem na_cons (r : Int × Int) (rs : List (Int × Int)) (t : Int) : na (r :: rs) t = (na rs t).or (if r.1 ≤ t then some r.2 else none) := by
  rw [show r :: rs = [r] ++ rs from rfl, na_append]
  congr 1
  unfold na
  by_cases h : r.1 ≤ t
  · rw [if_pos h]; simp [h]
  · rw [if_neg h]; simp [h]
noncomputable def oV : Option Int → V
  | none => .non
  | some i => .int i
noncomputable def Bg (rows others : List (Int × Int)) (t : Int) : Prop := ∃ r, (r ∈ rows ∨ r ∈ others) ∧ r.1 = t
noncomputable def Fu (rows others : List (Int × Int)) : Option Int → Prop
  | some t => Bg rows others t ∧ na rows t ≠ na others t ∧ ∀ u, Bg rows others u → u < t → na rows u = na others u
  | none => ∀ u, Bg rows others u → na rows u = na others u
theorem Bg.sym {rows others : List (Int × Int)} {t : Int} (h : Bg rows others t) : Bg others rows t := by
  obtain ⟨r, m, e⟩ := h
  exact ⟨r, m.symm, e⟩
theorem Fu.sym {rows others : List (Int × Int)} {o : Option Int} (h : Fu rows others o) : Fu others rows o := by
  cases o with
  | none => exact fun u hu => (h u hu.sym).symm
  | some t => exact ⟨h.1.sym, fun z => h.2.1 z.symm, fun u hu lt => (h.2.2 u hu.sym lt).symm⟩
theorem Fu.one {rows others : List (Int × Int)} {o o' : Option Int} (h : Fu rows others o) (k : Fu rows others o') : o = o' := by
  cases o with
  | none =>
    cases o' with
    | none => rfl
    | some t => exact absurd (h t k.1) k.2.1
  | some t =>
    cases o' with
    | none => exact absurd (k t h.1) h.2.1
    | some u =>
      rcases Int.lt_trichotomy t u with g | g | g
      · exact absurd (k.2.2 t h.1 g) h.2.1
      · rw [g]
      · exact absurd (h.2.2 u k.1 g) k.2.1
theorem fu_find {rows others : List (Int × Int)} {ms : List Int} (hm : ∀ t, t ∈ ms ↔ Bg rows others t) (up : ms.Pairwise (· < ·)) : Fu rows others (ms.find? fun t => decide (na rows t ≠ na others t)) := by
  cases e : ms.find? fun t => decide (na rows t ≠ na others t) with
  | none =>
    intro u hu
    have := List.find?_eq_none.mp e u ((hm u).mpr hu)
    simpa using this
  | some t =>
    obtain ⟨p, as, bs, e1, e2⟩ := List.find?_eq_some_iff_append.mp e
    have tm : t ∈ ms := by rw [e1]; simp
    refine ⟨(hm t).mp tm, of_decide_eq_true p, fun u hu lt => ?_⟩
    have um := (hm u).mpr hu
    rw [e1] at um up
    rcases List.mem_append.mp um with m | m
    · have := e2 u m
      simpa using this
    · obtain ⟨_, p2, _⟩ := List.pairwise_append.mp up
      rcases List.mem_cons.mp m with m | m
      · omega
      · have := (List.pairwise_cons.mp p2).1 u m
        omega
noncomputable def nz (p : Int × Int) : Bool := decide (p.2 ≠ 0)
theorem sr_pre : ∀ (ps acc : List (Int × Int)), ∃ bs, sr acc ps = acc ++ bs
  | [], acc => ⟨[], by rw [List.append_nil]; rfl⟩
  | r :: rs, acc => by
    by_cases g : acc = [] ∨ acc.getLast?.map (·.2) ≠ some r.2
    · obtain ⟨bs, e⟩ := sr_pre rs (acc ++ [r])
      exact ⟨r :: bs, by rw [show sr acc (r :: rs) = sr (acc ++ [r]) rs from if_pos g, e, List.append_assoc]; rfl⟩
    · obtain ⟨bs, e⟩ := sr_pre rs acc
      exact ⟨bs, by rw [show sr acc (r :: rs) = sr acc rs from if_neg g, e]⟩
theorem find_zero {acc bs : List (Int × Int)} (h : ∀ p ∈ acc, p.2 = 0) : (acc ++ bs).find? nz = bs.find? nz := by
  rw [List.find?_append, List.find?_eq_none.mpr fun p m => by simp [nz, h p m]]
  rfl
theorem sr_find : ∀ (ps acc : List (Int × Int)), (∀ p ∈ acc, p.2 = 0) → (sr acc ps).find? nz = ps.find? nz
  | [], acc, h => by
    have := find_zero (bs := []) h
    rw [List.append_nil] at this
    exact this
  | r :: rs, acc, h => by
    by_cases z : r.2 = 0
    · have e : (r :: rs).find? nz = rs.find? nz := List.find?_cons_of_neg (by simp [nz, z])
      rw [e]
      by_cases g : acc = [] ∨ acc.getLast?.map (·.2) ≠ some r.2
      · rw [show sr acc (r :: rs) = sr (acc ++ [r]) rs from if_pos g]
        refine sr_find rs _ fun p m => ?_
        rcases List.mem_append.mp m with m | m
        · exact h p m
        · rw [List.mem_singleton.mp m]; exact z
      · rw [show sr acc (r :: rs) = sr acc rs from if_neg g]
        exact sr_find rs acc h
    · have g : acc = [] ∨ acc.getLast?.map (·.2) ≠ some r.2 := by
        cases e : acc.getLast? with
        | none => exact .inl (List.getLast?_eq_none_iff.mp e)
        | some l =>
          refine .inr fun q => z ?_
          have : l.2 = r.2 := by simpa using q
          rw [← this]; exact h l (List.mem_of_getLast? e)
      obtain ⟨bs, eb⟩ := sr_pre rs (acc ++ [r])
      rw [show sr acc (r :: rs) = sr (acc ++ [r]) rs from if_pos g, eb, List.append_assoc, find_zero h]
      show (r :: bs).find? nz = (r :: rs).find? nz
      rw [List.find?_cons_of_pos (by simp [nz, z]), List.find?_cons_of_pos (by simp [nz, z])]
noncomputable def ngr (rows : List (Int × Int)) : List (Int × Int) := rows.map fun r => (r.1, -r.2)
theorem na_ngr (rows : List (Int × Int)) (t : Int) : na (ngr rows) t = (na rows t).map fun n => -n := by
  unfold na ngr
  rw [List.filter_map, List.getLast?_map]
  show Option.map _ (Option.map _ (List.filter (fun r => decide (r.1 ≤ t)) rows).getLast?) = _
  cases (List.filter (fun r => decide (r.1 ≤ t)) rows).getLast? <;> rfl
noncomputable def sums (r1 r2 : List (Int × Int)) (ms : List Int) : List (Int × Int) := ms.map fun t => (t, (na r1 t).getD 0 + (na r2 t).getD 0)
structure GoodM (rows : List (Int × Int)) : Prop where
  fst : ∃ n, rows.head? = some (0, n)
  asc : Asc rows
  ok : ∀ r ∈ rows, 0 ≤ r.1 ∧ r.1 ≤ 1000000000
noncomputable def inS (r : Int × Int) : Bool := decide (-2880 ≤ r.2) && decide (r.2 ≤ 2880)
noncomputable def far (rows : List (Int × Int)) : Option Nat := rows.findIdx? fun r => !inS r
theorem far_none {rows : List (Int × Int)} (h : far rows = none) : ∀ r ∈ rows, -2880 ≤ r.2 ∧ r.2 ≤ 2880 := fun r m => by
  have := List.findIdx?_eq_none_iff.mp h r m
  unfold inS at this
  simp at this
  omega
theorem GoodM.good {rows : List (Int × Int)} (h : GoodM rows) (f : far rows = none) (few : rows.length ≤ 21) : Good rows := ⟨few, h.fst, h.asc, fun r m => ⟨(h.ok r m).1, (h.ok r m).2, (far_none f r m).1, (far_none f r m).2⟩⟩
theorem GoodM.sr {rows : List (Int × Int)} (h : GoodM rows) : GoodM (sr [] rows) := by
  have s := sr_sub rows []
  obtain ⟨n, hn⟩ := h.fst
  refine ⟨⟨n, ?_⟩, h.asc.sublist s, fun r m => h.ok r (s.subset m)⟩
  cases rows with
  | nil => cases hn
  | cons r rs =>
    have e : r = (0, n) := by simpa using hn
    subst e
    rw [show K28.sr [] ((0, n) :: rs) = K28.sr ([] ++ [(0, n)]) rs from if_pos (.inl rfl)]
    exact sr_head rs _ rfl
theorem GdW.m {most : Nat} {wd : Int} {rows : List (Int × Int)} (g : GdW most wd rows) : GoodM rows := ⟨g.fst, g.asc, fun r m => ⟨(g.ok r m).1, (g.ok r m).2.1⟩⟩
theorem GoodM.mem0 {rows : List (Int × Int)} (g : GoodM rows) : ∃ n, (0, n) ∈ rows := by
  obtain ⟨n, hn⟩ := g.fst
  exact ⟨n, List.mem_of_mem_head? (by rw [hn]; rfl)⟩
noncomputable def nm (rows : List (Int × Int)) (u : Int) : Int := (na rows u).getD 0
theorem GoodM.nm {rows : List (Int × Int)} (g : GoodM rows) {u : Int} (u0 : 0 ≤ u) : na rows u = some (nm rows u) := by
  obtain ⟨n, hn⟩ := g.fst
  cases rows with
  | nil => cases hn
  | cons r rs =>
    have e : r = (0, n) := by simpa using hn
    subst e
    have z := lna_na u rs [(0, n)] n (by simp [K28.na, u0])
    have z' : K28.na ((0, n) :: rs) u = some (lna n u rs) := z
    unfold K28.nm
    rw [z']; rfl
theorem na_stays : ∀ {rows : List (Int × Int)} {s u : Int}, s ≤ u → (∀ r ∈ rows, r.1 ≤ u → r.1 ≤ s) → na rows u = na rows s := by
  intro rows s u h k
  unfold na
  congr 2
  refine List.filter_congr fun r m => ?_
  by_cases g : r.1 ≤ u
  · rw [decide_eq_true g, decide_eq_true (k r m g)]
  · rw [decide_eq_false g, decide_eq_false (by omega)]
theorem samp {ms : List Int} {f : Int → Int} (up : ms.Pairwise (· < ·)) (m0 : (0 : Int) ∈ ms) {u : Int} (u0 : 0 ≤ u) : ∃ s, s ∈ ms ∧ s ≤ u ∧ (∀ t ∈ ms, t ≤ u → t ≤ s) ∧ na (ms.map fun t => (t, f t)) u = some (f s) := by
  unfold na
  rw [List.filter_map, List.getLast?_map]
  have e : ((fun r : Int × Int => decide (r.1 ≤ u)) ∘ fun t => (t, f t)) = fun t => decide (t ≤ u) := rfl
  rw [e]
  cases q : (ms.filter fun t => decide (t ≤ u)).getLast? with
  | none =>
    have z := List.getLast?_eq_none_iff.mp q
    have : (0 : Int) ∈ ms.filter fun t => decide (t ≤ u) := List.mem_filter.mpr ⟨m0, decide_eq_true u0⟩
    rw [z] at this; cases this
  | some s =>
    obtain ⟨ys, ey⟩ := List.getLast?_eq_some_iff.mp q
    have ms' := List.mem_filter.mp (List.mem_of_getLast? q)
    refine ⟨s, ms'.1, of_decide_eq_true ms'.2, fun t mt ht => ?_, rfl⟩
    have p := up.filter (fun t => decide (t ≤ u))
    have mt' : t ∈ ms.filter fun t => decide (t ≤ u) := List.mem_filter.mpr ⟨mt, decide_eq_true ht⟩
    rw [ey] at p mt'
    rcases List.mem_append.mp mt' with h | h
    · have := (List.pairwise_append.mp p).2.2 t h s List.mem_cons_self
      omega
    · rw [List.mem_singleton.mp h]; exact Int.le_refl _
noncomputable def Sm (r1 r2 due : List (Int × Int)) : Prop := ∃ ms : List Int, (∀ t, t ∈ ms ↔ Bg r1 r2 t) ∧ ms.Pairwise (· < ·) ∧ ms.length ≤ 62 ∧ due = sr [] (sums r1 r2 ms)
theorem Sm.good {r1 r2 due : List (Int × Int)} (h : Sm r1 r2 due) (g1 : GoodM r1) (g2 : GoodM r2) : GoodM due := by
  obtain ⟨ms, h1, h2, _, rfl⟩ := h
  refine GoodM.sr ⟨?_, List.pairwise_map.mpr h2, fun r m => ?_⟩
  · obtain ⟨n, hn⟩ := g1.mem0
    have m0 : (0 : Int) ∈ ms := (h1 0).mpr ⟨_, .inl hn, rfl⟩
    cases ms with
    | nil => cases m0
    | cons a as =>
      have a0 : a = 0 := by
        obtain ⟨r, mr, e⟩ := (h1 a).mp List.mem_cons_self
        have : 0 ≤ a := by
          rcases mr with mr | mr
          · have := (g1.ok r mr).1; omega
          · have := (g2.ok r mr).1; omega
        rcases List.mem_cons.mp m0 with e | m
        · exact e.symm
        · have := (List.pairwise_cons.mp h2).1 0 m; omega
      subst a0
      exact ⟨_, rfl⟩
  · obtain ⟨t, mt, rfl⟩ := List.mem_map.mp m
    obtain ⟨r, mr, e⟩ := (h1 t).mp mt
    show 0 ≤ t ∧ t ≤ 1000000000
    rcases mr with mr | mr
    · have := g1.ok r mr; omega
    · have := g2.ok r mr; omega
theorem Sm.len {r1 r2 due : List (Int × Int)} (h : Sm r1 r2 due) : due.length ≤ 62 := by
  obtain ⟨ms, _, _, l, rfl⟩ := h
  have h1 := (sr_sub (sums r1 r2 ms) []).length_le
  rw [List.nil_append] at h1
  unfold sums at h1 ⊢
  rw [List.length_map] at h1
  omega
theorem Sm.nm {r1 r2 due : List (Int × Int)} (h : Sm r1 r2 due) (g1 : GoodM r1) (g2 : GoodM r2) {u : Int} (u0 : 0 ≤ u) : nm due u = nm r1 u + nm r2 u := by
  obtain ⟨ms, h1, h2, _, rfl⟩ := h
  obtain ⟨n, hn⟩ := g1.mem0
  have m0 : (0 : Int) ∈ ms := (h1 0).mpr ⟨_, .inl hn, rfl⟩
  obtain ⟨s, ms', su, smax, e⟩ := samp (f := fun t => (na r1 t).getD 0 + (na r2 t).getD 0) h2 m0 u0
  have asc : Asc (sums r1 r2 ms) := List.pairwise_map.mpr h2
  have e1 : na r1 u = na r1 s := na_stays su fun r mr hr => smax _ ((h1 _).mpr ⟨r, .inl mr, rfl⟩) hr
  have e2 : na r2 u = na r2 s := na_stays su fun r mr hr => smax _ ((h1 _).mpr ⟨r, .inr mr, rfl⟩) hr
  have e3 : na (K28.sr [] (sums r1 r2 ms)) u = na (sums r1 r2 ms) u := by rw [sr_na u _ [] (by rw [List.nil_append]; exact asc), List.nil_append]
  unfold K28.nm
  rw [e3, e1, e2]
  show (na (sums r1 r2 ms) u).getD 0 = _
  unfold sums
  rw [e]; rfl
theorem ngr_good {rows : List (Int × Int)} (g : GoodM rows) : GoodM (ngr rows) := by
  refine ⟨?_, List.pairwise_map.mpr g.asc, fun r m => ?_⟩
  · obtain ⟨n, hn⟩ := g.fst
    cases rows with
    | nil => cases hn
    | cons r rs =>
      have e : r = (0, n) := by simpa using hn
      subst e
      exact ⟨-n, rfl⟩
  · obtain ⟨p, mp, rfl⟩ := List.mem_map.mp m
    exact g.ok p mp
theorem nm_ngr {rows : List (Int × Int)} (u : Int) : nm (ngr rows) u = -nm rows u := by
  unfold nm
  rw [na_ngr]
  cases na rows u with
  | none => rfl
  | some x => rfl
theorem na_head {r : Int × Int} {rs : List (Int × Int)} (h : Asc (r :: rs)) : na (r :: rs) r.1 = some r.2 := by
  rw [na_cons, na_none (List.pairwise_cons.mp h).1, if_pos (Int.le_refl _)]; rfl
theorem na_low {r : Int × Int} {rs : List (Int × Int)} (h : Asc (r :: rs)) {u : Int} (lt : u < r.1) : na (r :: rs) u = none :=
  na_none fun x m => by
    rcases List.mem_cons.mp m with e | m
    · rw [e]; exact lt
    · have := (List.pairwise_cons.mp h).1 x m; omega
theorem na_high {r : Int × Int} {rs : List (Int × Int)} {u : Int} (le : r.1 ≤ u) : ∃ v, na (r :: rs) u = some v := by
  rw [na_cons, if_pos le]
  cases na rs u with
  | none => exact ⟨_, rfl⟩
  | some v => exact ⟨v, rfl⟩
theorem na_two {r x : Int × Int} {rs : List (Int × Int)} {u : Int} (le : x.1 ≤ u) : na (r :: x :: rs) u = na (x :: rs) u := by
  obtain ⟨v, e⟩ := na_high (rs := rs) le
  rw [na_cons, e]; rfl
theorem na_mid {r x : Int × Int} {rs : List (Int × Int)} (h : Asc (r :: x :: rs)) {u : Int} (ru : r.1 ≤ u) (ux : u < x.1) : na (r :: x :: rs) u = some r.2 := by
  rw [na_cons, na_low (List.pairwise_cons.mp h).2 ux, if_pos ru]; rfl
theorem nb_tail {r : Int × Int} {rs : List (Int × Int)} (h : Nb (r :: rs)) : Nb rs := fun i a b e1 e2 => h (i + 1) a b (by simpa using e1) (by simpa using e2)
theorem nb_one : ∀ {as bs : List (Int × Int)} (L : Int), Asc as → Asc bs → Nb as → Nb bs → (∀ r ∈ as, L ≤ r.1) → (∀ r ∈ bs, L ≤ r.1) → (∀ u, L ≤ u → na as u = na bs u) → as = bs
  | [], [], _, _, _, _, _, _, _, _ => rfl
  | [], b :: bs, L, _, hb, _, _, _, lb, k => by
    have := k b.1 (lb b List.mem_cons_self)
    rw [na_head hb] at this; cases this
  | a :: as, [], L, ha, _, _, _, la, _, k => by
    have := k a.1 (la a List.mem_cons_self)
    rw [na_head ha] at this; cases this
  | a :: as, b :: bs, L, ha, hb, na', nb', la, lb, k => by
    have ea : a.1 = b.1 := by
      rcases Int.lt_trichotomy a.1 b.1 with g | g | g
      · have := k a.1 (la a List.mem_cons_self)
        rw [na_head ha, na_low hb g] at this; cases this
      · exact g
      · have := k b.1 (lb b List.mem_cons_self)
        rw [na_head hb, na_low ha g] at this; cases this
    have e : a = b := by
      have := k a.1 (la a List.mem_cons_self)
      rw [na_head ha, ea, na_head hb] at this
      exact Prod.ext ea (Option.some.inj this)
    subst e
    have L0 := la a List.mem_cons_self
    cases as with
    | nil =>
      cases bs with
      | nil => rfl
      | cons x bs =>
        have lt := (List.pairwise_cons.mp hb).1 x List.mem_cons_self
        have := k x.1 (by omega)
        rw [na_two (Int.le_refl _), na_head (List.pairwise_cons.mp hb).2, na_cons, if_pos (by omega)] at this
        exact absurd (Option.some.inj this) (nb' 0 a x rfl rfl)
    | cons y as =>
      have lty := (List.pairwise_cons.mp ha).1 y List.mem_cons_self
      cases bs with
      | nil =>
        have := k y.1 (by omega)
        rw [na_two (Int.le_refl _), na_head (List.pairwise_cons.mp ha).2, na_cons, if_pos (by omega)] at this
        exact absurd (Option.some.inj this).symm (na' 0 a y rfl rfl)
      | cons x bs =>
        have ltx := (List.pairwise_cons.mp hb).1 x List.mem_cons_self
        rcases Int.lt_trichotomy y.1 x.1 with g | g | g
        · have := k y.1 (by omega)
          rw [na_two (Int.le_refl _), na_head (List.pairwise_cons.mp ha).2, na_mid hb (by omega) g] at this
          exact absurd (Option.some.inj this).symm (na' 0 a y rfl rfl)
        · rw [nb_one y.1 (List.pairwise_cons.mp ha).2 (List.pairwise_cons.mp hb).2 (nb_tail na') (nb_tail nb') (fun r m => ?_) (fun r m => ?_) (fun u hu => ?_)]
          · rcases List.mem_cons.mp m with e | m
            · rw [e]; exact Int.le_refl _
            · exact Int.le_of_lt ((List.pairwise_cons.mp (List.pairwise_cons.mp ha).2).1 r m)
          · rcases List.mem_cons.mp m with e | m
            · rw [e, g]; exact Int.le_refl _
            · rw [g]; exact Int.le_of_lt ((List.pairwise_cons.mp (List.pairwise_cons.mp hb).2).1 r m)
          · have := k u (by omega)
            rwa [na_two hu, na_two (by omega)] at this
        · have := k x.1 (by omega)
          rw [na_two (r := a) (x := x) (Int.le_refl _), na_head (List.pairwise_cons.mp hb).2, na_mid ha (by omega) g] at this
          exact absurd (Option.some.inj this) (nb' 0 a x rfl rfl)
theorem Nb.nil : Nb [] := fun i a b e => by cases e
theorem Sm.nb {r1 r2 due : List (Int × Int)} (h : Sm r1 r2 due) : Nb due := by
  obtain ⟨ms, _, _, _, rfl⟩ := h
  exact sr_nb _ [] Nb.nil
theorem GoodM.pos {rows : List (Int × Int)} (g : GoodM rows) : ∀ r ∈ rows, (0 : Int) ≤ r.1 := fun r m => (g.ok r m).1
theorem back {r1 r2 g due : List (Int × Int)} (g1 : GoodM r1) (g2 : GoodM r2) (hg : Sm (ngr r1) r2 g) (hd : Sm r1 g due) : due = sr [] r2 := by
  have gg := hg.good (ngr_good g1) g2
  have gd := hd.good g1 gg
  refine nb_one 0 gd.asc g2.sr.asc hd.nb (sr_nb _ [] Nb.nil) gd.pos g2.sr.pos fun u u0 => ?_
  have e : na (K28.sr [] r2) u = na r2 u := by rw [sr_na u _ [] (by rw [List.nil_append]; exact g2.asc), List.nil_append]
  rw [gd.nm u0, e, g2.nm u0, hd.nm g1 gg u0, hg.nm (ngr_good g1) g2 u0, nm_ngr]
  congr 1
  omega
theorem GdW.nm {most : Nat} {wd : Int} {rows : List (Int × Int)} (g : GdW most wd rows) {u : Int} (u0 : 0 ≤ u) : -wd ≤ nm rows u ∧ nm rows u ≤ wd := by
  have e := g.m.nm u0
  unfold K28.na at e
  cases q : (rows.filter fun r => decide (r.1 ≤ u)).getLast? with
  | none => rw [q] at e; cases e
  | some x =>
    rw [q] at e
    have ex : x.2 = K28.nm rows u := Option.some.inj e
    have := g.ok x (List.mem_filter.mp (List.mem_of_getLast? q)).1
    rw [← ex]; exact ⟨this.2.2.1, this.2.2.2⟩
theorem nodup_leI : ∀ {l js : List Int}, l.Nodup → (∀ j ∈ l, j ∈ js) → l.length ≤ js.length
  | [], js, _, _ => Nat.zero_le _
  | x :: xs, js, nd, h => by
    obtain ⟨n, nd⟩ := List.nodup_cons.mp nd
    have hx := h x List.mem_cons_self
    have := nodup_leI (js := js.erase x) nd fun j hj => by
      have : j ≠ x := fun e => n (by rw [← e]; exact hj)
      exact (List.mem_erase_of_ne this).mpr (h j (List.mem_cons_of_mem _ hj))
    rw [List.length_erase_of_mem hx] at this
    have := List.length_pos_of_mem hx
    rw [List.length_cons]; omega
theorem Sm.gaps {r1 r2 g : List (Int × Int)} (g1 : Good r1) (g2 : Good r2) (h : Sm (ngr r1) r2 g) : GdG g := by
  have gm := h.good (ngr_good g1.m) g2.m
  obtain ⟨ms, h1, h2, _, rfl⟩ := id h
  have sub := sr_sub (sums (ngr r1) r2 ms) []
  rw [List.nil_append] at sub
  refine ⟨?_, gm.fst, gm.asc, fun r m => ?_⟩
  · have ls : (sums (ngr r1) r2 ms).length = ms.length := List.length_map ..
    have := sub.length_le
    have nd : ms.Nodup := h2.imp fun {a b} h e => by omega
    obtain ⟨n2, hn2⟩ := g2.fst
    cases r2 with
    | nil => cases hn2
    | cons x xs =>
      have ex : x = (0, n2) := by simpa using hn2
      obtain ⟨n1, hn1⟩ := g1.m.mem0
      have := nodup_leI (js := (r1.map fun r => r.1) ++ (xs.map fun r => r.1)) nd fun t mt => by
        obtain ⟨r, mr, e⟩ := (h1 t).mp mt
        rcases mr with mr | mr
        · obtain ⟨p, mp, rfl⟩ := List.mem_map.mp mr
          exact List.mem_append_left _ (List.mem_map.mpr ⟨p, mp, e⟩)
        · rcases List.mem_cons.mp mr with e2 | mr
          · refine List.mem_append_left _ (List.mem_map.mpr ⟨(0, n1), hn1, ?_⟩)
            rw [← e, e2, ex]
          · exact List.mem_append_right _ (List.mem_map.mpr ⟨r, mr, e⟩)
      rw [List.length_append, List.length_map, List.length_map] at this
      have l1 := g1.few
      have l2 := g2.few
      rw [List.length_cons] at l2
      omega
  · have ok := gm.ok r m
    obtain ⟨t, mt, rfl⟩ := List.mem_map.mp (sub.subset m)
    have t0 : 0 ≤ t := ok.1
    refine ⟨ok.1, ok.2, ?_⟩
    have b1 := GdW.nm g1 t0
    have b2 := GdW.nm g2 t0
    show -5760 ≤ (na (ngr r1) t).getD 0 + (na r2 t).getD 0 ∧ (na (ngr r1) t).getD 0 + (na r2 t).getD 0 ≤ 5760
    have e := nm_ngr (rows := r1) t
    unfold K28.nm at e b1 b2
    rw [e]
    omega
structure GoodL (rows : List (Int × Int)) : Prop where
  fst : ∃ n, rows.head? = some (0, n)
  asc : Asc rows
  ok : ∀ r ∈ rows, 0 ≤ r.1 ∧ r.1 ≤ 1000000000 ∧ -2880 ≤ r.2 ∧ r.2 ≤ 2880
theorem GoodL.good {rows : List (Int × Int)} (h : GoodL rows) (few : rows.length ≤ 21) : Good rows := ⟨few, h.fst, h.asc, h.ok⟩
theorem Good.loose {rows : List (Int × Int)} (h : Good rows) : GoodL rows := ⟨h.fst, h.asc, h.ok⟩
theorem GoodL.sr {rows : List (Int × Int)} (h : GoodL rows) : GoodL (sr [] rows) := by
  have s := sr_sub rows []
  obtain ⟨n, hn⟩ := h.fst
  refine ⟨⟨n, ?_⟩, h.asc.sublist s, fun r m => h.ok r (s.subset m)⟩
  cases rows with
  | nil => cases hn
  | cons r rs =>
    have e : r = (0, n) := by simpa using hn
    subst e
    rw [show K28.sr [] ((0, n) :: rs) = K28.sr ([] ++ [(0, n)]) rs from if_pos (.inl rfl)]
    exact sr_head rs _ rfl
noncomputable def bef (rows : List (Int × Int)) (t : Int) : List (Int × Int) := rows.filter fun r => decide (r.1 < t)
noncomputable def aft (rows : List (Int × Int)) (t : Int) : List (Int × Int) := rows.filter fun r => decide (r.1 > t)
noncomputable def raw (rows others : List (Int × Int)) (t n : Int) : List (Int × Int) := bef rows t ++ [(t, n)] ++ aft others t
noncomputable def spl (rows others : List (Int × Int)) (t : Int) : List (Int × Int) := sr [] (raw rows others t ((na others t).getD 0))
theorem mem_bef {rows : List (Int × Int)} {t : Int} {r : Int × Int} (h : r ∈ bef rows t) : r ∈ rows ∧ r.1 < t := by
  obtain ⟨h1, h2⟩ := List.mem_filter.mp h
  exact ⟨h1, of_decide_eq_true h2⟩
theorem mem_aft {rows : List (Int × Int)} {t : Int} {r : Int × Int} (h : r ∈ aft rows t) : r ∈ rows ∧ t < r.1 := by
  obtain ⟨h1, h2⟩ := List.mem_filter.mp h
  exact ⟨h1, of_decide_eq_true h2⟩
theorem na_mem {rows : List (Int × Int)} {t n : Int} (h : na rows t = some n) : ∃ r ∈ rows, r.2 = n := by
  unfold na at h
  cases e : (rows.filter fun r => decide (r.1 ≤ t)).getLast? with
  | none => rw [e] at h; cases h
  | some r =>
    rw [e] at h
    exact ⟨r, (List.mem_filter.mp (List.mem_of_getLast? e)).1, by simpa using h⟩
theorem raw_good {rows others : List (Int × Int)} {t n : Int} (g : Good rows) (go : Good others) (t0 : 0 ≤ t) (t1 : t ≤ 1000000000) (hn : na others t = some n) : GoodL (raw rows others t n) := by
  have okn : -2880 ≤ n ∧ n ≤ 2880 := by
    obtain ⟨r, m, e⟩ := na_mem hn
    have := go.ok r m
    omega
  refine ⟨?_, ?_, fun r m => ?_⟩
  · obtain ⟨s, hs⟩ := g.fst
    by_cases e : t = 0
    · have eb : bef rows t = [] := List.filter_eq_nil_iff.mpr fun r m => by
        have := (g.ok r m).1
        simp; omega
      refine ⟨n, ?_⟩
      unfold raw
      rw [eb, e]; rfl
    · refine ⟨s, ?_⟩
      cases rows with
      | nil => cases hs
      | cons r rs =>
        have er : r = (0, s) := by simpa using hs
        subst er
        unfold raw bef
        rw [List.filter_cons_of_pos (by simp; omega)]; rfl
  · unfold raw Asc
    refine List.pairwise_append.mpr ⟨List.pairwise_append.mpr ⟨g.asc.filter _, List.pairwise_singleton _ _, fun a ma b mb => ?_⟩, go.asc.filter _, fun a ma b mb => ?_⟩
    · have := (mem_bef ma).2
      have : b = (t, n) := by simpa using mb
      subst this
      assumption
    · have h2 := (mem_aft mb).2
      rcases List.mem_append.mp ma with ma | ma
      · have := (mem_bef ma).2; omega
      · have : a = (t, n) := by simpa using ma
        subst this
        exact h2
  · unfold raw at m
    rcases List.mem_append.mp m with m | m
    · rcases List.mem_append.mp m with m | m
      · exact g.ok r (mem_bef m).1
      · have : r = (t, n) := by simpa using m
        subst this
        exact ⟨t0, t1, okn.1, okn.2⟩
    · exact go.ok r (mem_aft m).1
theorem raw_len (rows others : List (Int × Int)) (t n : Int) : (raw rows others t n).length ≤ rows.length + 1 + others.length := by
  unfold raw bef aft
  rw [List.length_append, List.length_append]
  have h1 := List.length_filter_le (fun r : Int × Int => decide (r.1 < t)) rows
  have h2 := List.length_filter_le (fun r : Int × Int => decide (r.1 > t)) others
  show _ + 1 + _ ≤ _
  omega
theorem spl_len {rows others : List (Int × Int)} (g : Good rows) (go : Good others) (t : Int) : (spl rows others t).length ≤ 43 := by
  have h1 := (sr_sub (raw rows others t ((na others t).getD 0)) []).length_le
  have h2 := raw_len rows others t ((na others t).getD 0)
  have h3 := g.few
  have h4 := go.few
  show (sr [] _).length ≤ 43
  rw [List.nil_append] at h1
  omega
theorem spl_good {rows others : List (Int × Int)} (g : Good rows) (go : Good others) {t : Int} (t0 : 0 ≤ t) (t1 : t ≤ 1000000000) : GoodL (spl rows others t) := (raw_good g go t0 t1 (na_here go t0)).sr
noncomputable def mf (t m : Int) : List (Int × Int) := if t = 0 then [(0, m)] else [(0, 0), (t, m)]
noncomputable def up (m : Int) (r : Int × Int) : Int × Int := (r.1, r.2 + m)
noncomputable def put (rows : List (Int × Int)) (t m : Int) : List (Int × Int) := bef rows t ++ [(t, (na rows t).getD 0 + m)] ++ (aft rows t).map (up m)
noncomputable def pon (rows : List (Int × Int)) (t m : Int) : List (Int × Int) := sr [] (put rows t m)
theorem asc_ext : ∀ {as bs : List (Int × Int)}, Asc as → Asc bs → (∀ r, r ∈ as ↔ r ∈ bs) → as = bs
  | [], [], _, _, _ => rfl
  | [], b :: bs, _, _, h => by have := (h b).mpr List.mem_cons_self; cases this
  | a :: as, [], _, _, h => by have := (h a).mp List.mem_cons_self; cases this
  | a :: as, b :: bs, ha, hb, h => by
    obtain ⟨a1, a2⟩ := List.pairwise_cons.mp ha
    obtain ⟨b1, b2⟩ := List.pairwise_cons.mp hb
    have e : a = b := by
      rcases List.mem_cons.mp ((h a).mp List.mem_cons_self) with e | m
      · exact e
      · rcases List.mem_cons.mp ((h b).mpr List.mem_cons_self) with e | m'
        · exact e.symm
        · have := b1 a m; have := a1 b m'; omega
    subst e
    rw [asc_ext a2 b2 fun r => ?_]
    have na' : ∀ {l : List (Int × Int)}, (∀ x ∈ l, a.1 < x.1) → a ∉ l := fun hl m => by have := hl a m; omega
    constructor
    · intro m
      rcases List.mem_cons.mp ((h r).mp (List.mem_cons_of_mem _ m)) with e | m'
      · rw [e] at m; exact absurd m (na' a1)
      · exact m'
    · intro m
      rcases List.mem_cons.mp ((h r).mpr (List.mem_cons_of_mem _ m)) with e | m'
      · rw [e] at m; exact absurd m (na' b1)
      · exact m'
theorem na_row : ∀ {rows : List (Int × Int)} {r : Int × Int}, Asc rows → r ∈ rows → na rows r.1 = some r.2
  | [], _, _, m => by cases m
  | x :: xs, r, asc, m => by
    obtain ⟨h1, h2⟩ := List.pairwise_cons.mp asc
    rw [na_cons]
    rcases List.mem_cons.mp m with e | m
    · subst e
      rw [na_none h1, if_pos (Int.le_refl _)]; rfl
    · rw [na_row h2 m]; rfl
theorem na_mf {t m u : Int} (t0 : 0 ≤ t) (u0 : 0 ≤ u) : na (mf t m) u = some (if t ≤ u then m else 0) := by
  unfold mf
  by_cases h : t = 0
  · subst h
    rw [if_pos rfl, if_pos u0, na_cons, if_pos u0]; rfl
  · rw [if_neg h, na_cons, na_cons, if_pos u0]
    by_cases g : t ≤ u
    · rw [if_pos g, if_pos g]; rfl
    · rw [if_neg g, if_neg g]; rfl
theorem bg_mf {rows : List (Int × Int)} {t m u : Int} (g : Good rows) : Bg rows (mf t m) u ↔ (∃ r ∈ rows, r.1 = u) ∨ u = t := by
  obtain ⟨n, hn⟩ := g.fst
  have m0 : (0, n) ∈ rows := List.mem_of_mem_head? (by rw [hn]; rfl)
  unfold mf
  constructor
  · rintro ⟨r, h, e⟩
    rcases h with h | h
    · exact .inl ⟨r, h, e⟩
    · by_cases z : t = 0
      · rw [if_pos z] at h
        have : r = (0, m) := by simpa using h
        exact .inr (by rw [← e, this, z])
      · rw [if_neg z] at h
        rcases (by simpa using h : r = (0, 0) ∨ r = (t, m)) with h | h
        · exact .inl ⟨_, m0, by rw [← e, h]⟩
        · exact .inr (by rw [← e, h])
  · rintro (⟨r, h, e⟩ | e)
    · exact ⟨r, .inl h, e⟩
    · by_cases z : t = 0
      · rw [if_pos z]; exact ⟨(0, m), .inr List.mem_cons_self, by rw [e, z]⟩
      · rw [if_neg z]; exact ⟨(t, m), .inr (List.mem_cons_of_mem _ List.mem_cons_self), e.symm⟩
theorem put_asc {rows : List (Int × Int)} (g : Good rows) (t m : Int) : Asc (put rows t m) := by
  unfold put Asc
  refine List.pairwise_append.mpr ⟨List.pairwise_append.mpr ⟨g.asc.filter _, List.pairwise_singleton _ _, fun a ma b mb => ?_⟩, List.pairwise_map.mpr (g.asc.filter _), fun a ma b mb => ?_⟩
  · have := (mem_bef ma).2
    rw [List.mem_singleton.mp mb]; exact this
  · obtain ⟨r, mr, rfl⟩ := List.mem_map.mp mb
    have h2 := (mem_aft mr).2
    show a.1 < r.1
    rcases List.mem_append.mp ma with ma | ma
    · have := (mem_bef ma).2; omega
    · rw [List.mem_singleton.mp ma]; exact h2
theorem sums_put {rows : List (Int × Int)} {t m : Int} {ms : List Int} (g : Good rows) (t0 : 0 ≤ t) (hm : ∀ u, u ∈ ms ↔ Bg rows (mf t m) u) (hup : ms.Pairwise (· < ·)) : sums rows (mf t m) ms = put rows t m := by
  refine asc_ext (List.pairwise_map.mpr hup) (put_asc g t m) fun r => ?_
  have key : ∀ u, 0 ≤ u → (na (mf t m) u).getD 0 = if t ≤ u then m else 0 := fun u u0 => by rw [na_mf t0 u0]; rfl
  unfold sums put
  rw [List.mem_append, List.mem_append, List.mem_map]
  constructor
  · rintro ⟨u, mu, rfl⟩
    rcases (bg_mf g).mp ((hm u).mp mu) with ⟨r, mr, e⟩ | e
    · have nr := na_row g.asc mr
      have r0 := (g.ok r mr).1
      rw [e] at nr
      rw [nr, key u (by omega)]
      rcases Int.lt_trichotomy u t with h | h | h
      · refine .inl (.inl (List.mem_filter.mpr ⟨?_, decide_eq_true h⟩))
        rw [if_neg (by omega)]
        show (u, r.2 + 0) ∈ rows
        rw [Int.add_zero, ← e]; exact mr
      · subst h
        rw [if_pos (Int.le_refl _), nr]
        exact .inl (.inr List.mem_cons_self)
      · refine .inr (List.mem_map.mpr ⟨r, List.mem_filter.mpr ⟨mr, decide_eq_true (by omega)⟩, ?_⟩)
        rw [if_pos (by omega), ← e]; rfl
    · subst e
      rw [key u t0, if_pos (Int.le_refl _)]
      exact .inl (.inr List.mem_cons_self)
  · rintro ((h | h) | h)
    · obtain ⟨mr, lt⟩ := mem_bef h
      refine ⟨r.1, (hm _).mpr ((bg_mf g).mpr (.inl ⟨r, mr, rfl⟩)), ?_⟩
      rw [na_row g.asc mr, key _ (g.ok r mr).1, if_neg (by omega)]
      show (r.1, r.2 + 0) = r
      rw [Int.add_zero]
    · refine ⟨t, (hm _).mpr ((bg_mf g).mpr (.inr rfl)), ?_⟩
      rw [List.mem_singleton.mp h, key t t0, if_pos (Int.le_refl _)]
    · obtain ⟨x, mx, rfl⟩ := List.mem_map.mp h
      obtain ⟨mr, lt⟩ := mem_aft mx
      refine ⟨x.1, (hm _).mpr ((bg_mf g).mpr (.inl ⟨x, mr, rfl⟩)), ?_⟩
      rw [na_row g.asc mr, key _ (g.ok x mr).1, if_pos (by omega)]; rfl
theorem put_good {rows : List (Int × Int)} (g : Good rows) {t m : Int} (t0 : 0 ≤ t) (t1 : t ≤ 1000000000) : GoodM (put rows t m) := by
  refine ⟨?_, put_asc g t m, fun r h => ?_⟩
  · obtain ⟨s, hs⟩ := g.fst
    by_cases e : t = 0
    · have eb : bef rows t = [] := List.filter_eq_nil_iff.mpr fun r h => by
        have := (g.ok r h).1
        simp; omega
      unfold put
      rw [eb, e]; exact ⟨_, rfl⟩
    · refine ⟨s, ?_⟩
      cases rows with
      | nil => cases hs
      | cons r rs =>
        have er : r = (0, s) := by simpa using hs
        subst er
        unfold put bef
        rw [List.filter_cons_of_pos (by simp; omega)]; rfl
  · unfold put at h
    rcases List.mem_append.mp h with h | h
    · rcases List.mem_append.mp h with h | h
      · have := g.ok r (mem_bef h).1; exact ⟨this.1, this.2.1⟩
      · rw [List.mem_singleton.mp h]; exact ⟨t0, t1⟩
    · obtain ⟨x, mx, rfl⟩ := List.mem_map.mp h
      have := g.ok x (mem_aft mx).1; exact ⟨this.1, this.2.1⟩
theorem put_len {rows : List (Int × Int)} (g : Good rows) (t m : Int) : (put rows t m).length ≤ 43 := by
  have h1 := List.length_filter_le (fun r : Int × Int => decide (r.1 < t)) rows
  have h2 := List.length_filter_le (fun r : Int × Int => decide (r.1 > t)) rows
  have := g.few
  unfold put bef aft
  rw [List.length_append, List.length_append, List.length_map]
  show _ + 1 + _ ≤ 43
  omega
theorem pon_len {rows : List (Int × Int)} (g : Good rows) (t m : Int) : (pon rows t m).length ≤ 43 := by
  have h1 := (sr_sub (put rows t m) []).length_le
  rw [List.nil_append] at h1
  exact Nat.le_trans h1 (put_len g t m)
theorem pon_good {rows : List (Int × Int)} (g : Good rows) {t m : Int} (t0 : 0 ≤ t) (t1 : t ≤ 1000000000) : GoodM (pon rows t m) := (put_good g t0 t1).sr
theorem na_ok {rows : List (Int × Int)} (g : Good rows) {t : Int} (t0 : 0 ≤ t) : na rows t = some ((na rows t).getD 0) := by
  obtain ⟨r, rs, _, e⟩ := g.na t0
  rw [e]; rfl
theorem far_all {rows : List (Int × Int)} (l : ∀ x ∈ rows, inS x = true) : far rows = none := List.findIdx?_eq_none_iff.mpr fun x m => by rw [l x m]; rfl
theorem GoodL.m {rows : List (Int × Int)} (g : GoodL rows) : GoodM rows := ⟨g.fst, g.asc, fun r m => ⟨(g.ok r m).1, (g.ok r m).2.1⟩⟩
theorem GoodL.far {rows : List (Int × Int)} (g : GoodL rows) : far rows = none := far_all fun r m => by
  have := g.ok r m
  unfold inS
  rw [decide_eq_true (by omega), decide_eq_true (by omega)]; rfl
theorem Good.far {rows : List (Int × Int)} (g : Good rows) : K28.far rows = none := g.loose.far
noncomputable def cn (due : List (Int × Int)) : Bool := decide (due.length < 22) && (far due).isNone
theorem cn_yes {due : List (Int × Int)} (h : cn due = true) : due.length ≤ 21 ∧ far due = none := by
  unfold cn at h
  obtain ⟨h1, h2⟩ := Bool.and_eq_true_iff.mp h
  exact ⟨Nat.le_of_lt_succ (of_decide_eq_true h1), Option.isNone_iff_eq_none.mp h2⟩
theorem cn_of {due : List (Int × Int)} (h1 : due.length ≤ 21) (h2 : far due = none) : cn due = true := by
  unfold cn
  rw [decide_eq_true (by omega), h2]; rfl
noncomputable def beh (rows others : List (Int × Int)) (t m : Int) : List (Int × Int) := sr [] (bef rows t ++ [(t, (na others t).getD 0 + m)] ++ (aft others t).map (up m))
theorem beh_self (rows : List (Int × Int)) (t m : Int) : beh rows rows t m = pon rows t m := rfl
theorem beh_zero (rows others : List (Int × Int)) (t : Int) : beh rows others t 0 = spl rows others t := by
  unfold beh spl raw
  have e : (aft others t).map (up 0) = aft others t := by
    have : up 0 = id := funext fun r => by unfold up; rw [Int.add_zero]; rfl
    rw [this, List.map_id]
  rw [e, Int.add_zero]
theorem top_of : ∀ l : List Int, l ≠ [] → ∃ s ∈ l, ∀ t ∈ l, t ≤ s
  | [], h => absurd rfl h
  | [x], _ => ⟨x, List.mem_singleton_self x, fun t m => by rw [List.mem_singleton.mp m]; exact Int.le_refl _⟩
  | x :: y :: ys, _ => by
    obtain ⟨s, ms, hs⟩ := top_of (y :: ys) (List.cons_ne_nil _ _)
    by_cases g : x ≤ s
    · exact ⟨s, List.mem_cons_of_mem _ ms, fun t m => by
        rcases List.mem_cons.mp m with e | m
        · omega
        · exact hs t m⟩
    · exact ⟨x, List.mem_cons_self, fun t m => by
        rcases List.mem_cons.mp m with e | m
        · omega
        · have := hs t m; omega⟩
theorem agree {rows others : List (Int × Int)} (g : GoodM rows) {u : Int} (u0 : 0 ≤ u) (h : ∀ s, Bg rows others s → s ≤ u → na rows s = na others s) : na rows u = na others u := by
  obtain ⟨n, hn⟩ := g.mem0
  have m0 : (0 : Int) ∈ ((rows ++ others).map (·.1)).filter fun t => decide (t ≤ u) := List.mem_filter.mpr ⟨List.mem_map.mpr ⟨(0, n), List.mem_append_left _ hn, rfl⟩, decide_eq_true u0⟩
  obtain ⟨s, ms, hs⟩ := top_of _ (List.ne_nil_of_mem m0)
  obtain ⟨m1, m2⟩ := List.mem_filter.mp ms
  obtain ⟨r, mr, er⟩ := List.mem_map.mp m1
  have su : s ≤ u := of_decide_eq_true m2
  have mx : ∀ r, r ∈ rows ++ others → r.1 ≤ u → r.1 ≤ s := fun r mr hr => hs _ (List.mem_filter.mpr ⟨List.mem_map.mpr ⟨r, mr, rfl⟩, decide_eq_true hr⟩)
  rw [na_stays (rows := rows) su fun r m hr => mx r (List.mem_append_left _ m) hr, na_stays (rows := others) su fun r m hr => mx r (List.mem_append_right _ m) hr]
  exact h s ⟨r, List.mem_append.mp mr, er⟩ su
theorem sr_same {rows : List (Int × Int)} (g : GoodM rows) (u : Int) : na (sr [] rows) u = na rows u := by rw [sr_na u _ [] (by rw [List.nil_append]; exact g.asc), List.nil_append]
theorem sr_fu {rows others : List (Int × Int)} (g : Good rows) (go : Good others) {o : Option Int} (fu : Fu rows others o) : decide (sr [] rows = sr [] others) = decide (oV o = .non) := by
  cases o with
  | none =>
    rw [decide_eq_true (show oV none = .non from rfl)]
    refine decide_eq_true (nb_one 0 g.m.sr.asc go.m.sr.asc (sr_nb _ [] Nb.nil) (sr_nb _ [] Nb.nil) g.m.sr.pos go.m.sr.pos fun u u0 => ?_)
    rw [sr_same g.m, sr_same go.m]
    exact agree g.m u0 fun s hs _ => fu s hs
  | some t =>
    rw [decide_eq_false (show ¬ oV (some t) = .non from fun z => nomatch z)]
    refine decide_eq_false fun e => fu.2.1 ?_
    rw [← sr_same g.m, ← sr_same go.m, e]
theorem fu_below {rows others : List (Int × Int)} (g : Good rows) {t : Int} (fu : Fu rows others (some t)) {u : Int} (u0 : 0 ≤ u) (ut : u < t) : na rows u = na others u := agree g.m u0 fun s hs su => fu.2.2 s hs (by omega)
theorem fu_in {rows others : List (Int × Int)} (g : Good rows) (go : Good others) {t : Int} (fu : Fu rows others (some t)) : 0 ≤ t ∧ t ≤ 1000000000 := by
  obtain ⟨r, mr, e⟩ := fu.1
  rcases mr with m | m
  · have := g.ok r m; omega
  · have := go.ok r m; omega
inductive sp_summed_P (vs : List V) (H : Hp) (Q : VK) : Prop
  | mk (q p : Addr) (r1 r2 : List (Int × Int)) (h1 : vs = [.ref q, .ref p]) (h2 : Rs H q r1) (h3 : Rs H p r2) (h4 : r1.length ≤ 21) (h5 : r2.length ≤ 41) (h6 : (∀ t, Bg r1 r2 t → na r1 t = some ((na r1 t).getD 0) ∧ na r2 t = some ((na r2 t).getD 0))) (h7 : ∀ (d : Addr) (ms : List Int) (H' : Hp), H d = none → Same H H' → (∀ t, t ∈ ms ↔ Bg r1 r2 t) → ms.length ≤ 62 → ms.Pairwise (· < ·) → Rs H' d (sr [] (sums r1 r2 ms)) → Q (.ref d) H') : sp_summed_P vs H Q
noncomputable def sp_summed : Sp := fun vs H Q _ => sp_summed_P vs H Q
inductive sp_differences_P (vs : List V) (H : Hp) (Q : VK) : Prop
  | mk (q p : Addr) (r1 r2 : List (Int × Int)) (h1 : vs = [.ref q, .ref p]) (h2 : Rs H q r1) (h3 : Rs H p r2) (h4 : Good r1) (h5 : Good r2) (h6 : ∀ (d : Addr) (due : List (Int × Int)) (H' : Hp), H d = none → Same H H' → Sm (ngr r1) r2 due → Rs H' d due → Q (.ref d) H') : sp_differences_P vs H Q
noncomputable def sp_differences : Sp := fun vs H Q _ => sp_differences_P vs H Q
inductive sp_gaps_P (a : Ad) (vs : List V) (H : Hp) (Q : VK) : Prop
  | mk (x y : Addr) (r1 r2 : List (Int × Int)) (h1 : vs = [.ref x, .ref y]) (h2 : Tb a H x r1) (h3 : Tb a H y r2) (h4 : Good r1) (h5 : Good r2) (h6 : ∀ (d : Addr) (due : List (Int × Int)) (H' : Hp), H d = none → Same H H' → Sm (ngr r1) r2 due → Rs H' d due → Q (.ref d) H') : sp_gaps_P a vs H Q
noncomputable def sp_gaps (a : Ad) : Sp := fun vs H Q _ => sp_gaps_P a vs H Q
inductive sp_first_unlike_P (a : Ad) (vs : List V) (H : Hp) (Q : VK) : Prop
  | mk (x y : Addr) (rows others : List (Int × Int)) (h1 : vs = [.ref x, .ref y]) (h2 : Tb a H x rows) (h3 : Good rows) (h4 : Tb a H y others) (h5 : Good others) (h6 : ∀ (o : Option Int) (H' : Hp), Same H H' → Fu rows others o → Q (oV o) H') : sp_first_unlike_P a vs H Q
noncomputable def sp_first_unlike (a : Ad) : Sp := fun vs H Q _ => sp_first_unlike_P a vs H Q
inductive sp_alike_P (a : Ad) (vs : List V) (H : Hp) (Q : VK) : Prop
  | mk (x y : Addr) (rows others : List (Int × Int)) (h1 : vs = [.ref x, .ref y]) (h2 : Tb a H x rows) (h3 : Good rows) (h4 : Tb a H y others) (h5 : Good others) (h6 : ∀ (o : Option Int) (H' : Hp), Same H H' → Fu rows others o → Q (.bl (decide (oV o = .non))) H') : sp_alike_P a vs H Q
noncomputable def sp_alike (a : Ad) : Sp := fun vs H Q _ => sp_alike_P a vs H Q
inductive sp_is_shift_P (vs : List V) (H : Hp) (Q : VK) : Prop
  | mk (v : V) (t : String) (h1 : vs = [v]) (h2 : tyN H v = some t) (h3 : Q (.bl (whole v (-2880) 2880)) H) : sp_is_shift_P vs H Q
noncomputable def sp_is_shift : Sp := fun vs H Q _ => sp_is_shift_P vs H Q
noncomputable def Way (a : Ad) (due : List (Int × Int)) (H : Hp) (Q : VK) (E : XK) : Prop := (far due = none → due.length ≤ 21 → ∀ (z : Addr) (H' : Hp), Same H H' → Tb a H' z due → Q (.ref z) H') ∧ (far due = none → 21 < due.length → Rz a.c_TooMany "many" (.int due.length) H E) ∧ ∀ j : Nat, far due = some j → Rz a.c_Beyond "row" (.int j) H E
inductive sp_table_of_P (a : Ad) (vs : List V) (H : Hp) (Q : VK) (E : XK) : Prop
  | mk (q : Addr) (due : List (Int × Int)) (h1 : vs = [.ref q]) (h2 : Rs H q due) (h3 : GoodM due) (h4 : due.length ≤ 64) (h5 : Way a due H Q E) : sp_table_of_P a vs H Q E
noncomputable def sp_table_of (a : Ad) : Sp := fun vs H Q E => sp_table_of_P a vs H Q E
inductive sp_minutes_from_P (vs : List V) (H : Hp) (Q : VK) : Prop
  | mk (t m : Int) (h1 : vs = [.int t, .int m]) (h2 : ∀ (d : Addr) (H' : Hp), H d = none → Same H H' → Rs H' d (mf t m) → Q (.ref d) H') : sp_minutes_from_P vs H Q
noncomputable def sp_minutes_from : Sp := fun vs H Q _ => sp_minutes_from_P vs H Q
inductive sp_put_on_P (a : Ad) (vs : List V) (H : Hp) (Q : VK) (E : XK) : Prop
  | mk (x : Addr) (t m : Int) (rows : List (Int × Int)) (h1 : vs = [.ref x, .int t, .int m]) (h2 : Tb a H x rows) (h3 : Good rows) (h4 : 0 ≤ t) (h5 : t ≤ 1000000000) (h6 : -5760 ≤ m) (h7 : m ≤ 5760) (h8 : Way a (pon rows t m) H Q E) : sp_put_on_P a vs H Q E
noncomputable def sp_put_on (a : Ad) : Sp := fun vs H Q E => sp_put_on_P a vs H Q E
inductive sp_spliced_P (a : Ad) (vs : List V) (H : Hp) (Q : VK) (E : XK) : Prop
  | mk (x y : Addr) (t : Int) (rows others : List (Int × Int)) (h1 : vs = [.ref x, .ref y, .int t]) (h2 : Tb a H x rows) (h3 : Good rows) (h4 : Tb a H y others) (h5 : Good others) (h6 : 0 ≤ t) (h7 : t ≤ 1000000000) (h8 : Way a (spl rows others t) H Q E) : sp_spliced_P a vs H Q E
noncomputable def sp_spliced (a : Ad) : Sp := fun vs H Q E => sp_spliced_P a vs H Q E
inductive sp_by_gaps_P (a : Ad) (vs : List V) (H : Hp) (Q : VK) (E : XK) : Prop
  | mk (x q : Addr) (rows gs : List (Int × Int)) (h1 : vs = [.ref x, .ref q]) (h2 : Tb a H x rows) (h3 : Good rows) (h4 : Rs H q gs) (h5 : GdG gs) (h6 : ∀ due : List (Int × Int), Sm rows gs due → Way a due H Q E) : sp_by_gaps_P a vs H Q E
noncomputable def sp_by_gaps (a : Ad) : Sp := fun vs H Q E => sp_by_gaps_P a vs H Q E
inductive sp_Lvariant_P (vs : List V) (H : Hp) (Q : VK) : Prop
  | mk (q : Addr) (c : Int) (rows : List (Int × Int)) (h1 : vs = [.ref q, .int c]) (h2 : Rs H q rows) (h3 : Good rows) (h4 : ∀ (d : Addr) (r : List (Int × Int)) (H' : Hp), H d = none → Same H H' → Rs H' d r → Good r → Q (.ref d) H') : sp_Lvariant_P vs H Q
noncomputable def sp_Lvariant : Sp := fun vs H Q _ => sp_Lvariant_P vs H Q
inductive sp_Lbehind_P (vs : List V) (H : Hp) (Q : VK) : Prop
  | mk (q p : Addr) (t m : Int) (rows others : List (Int × Int)) (h1 : vs = [.ref q, .ref p, .int t, .int m]) (h2 : Rs H q rows) (h3 : Good rows) (h4 : Rs H p others) (h5 : Good others) (h6 : 0 ≤ t) (h7 : ∀ (d : Addr) (H' : Hp), H d = none → Same H H' → Rs H' d (beh rows others t m) → Q (.ref d) H') : sp_Lbehind_P vs H Q
noncomputable def sp_Lbehind : Sp := fun vs H Q _ => sp_Lbehind_P vs H Q
inductive sp_Lcan_P (vs : List V) (H : Hp) (Q : VK) : Prop
  | mk (q : Addr) (due : List (Int × Int)) (h1 : vs = [.ref q]) (h2 : Rs H q due) (h3 : due.length ≤ 64) (h4 : ∀ H', Same H H' → Q (.bl (cn due)) H') : sp_Lcan_P vs H Q
noncomputable def sp_Lcan : Sp := fun vs H Q _ => sp_Lcan_P vs H Q
noncomputable def Res (a : Ad) (H : Hp) (v : V) (due : List (Int × Int)) : Prop := (cn due = true ∧ ∃ z, v = .ref z ∧ Tb a H z due) ∨ (cn due = false ∧ v = .non)
theorem Res.same {a : Ad} {H H' : Hp} {v : V} {due : List (Int × Int)} (h : Res a H v due) (s : Same H H') : Res a H' v due := by
  rcases h with ⟨h1, z, e, h2⟩ | h
  · exact .inl ⟨h1, z, e, h2.same s⟩
  · exact .inr h
inductive sp_Lput_P (a : Ad) (vs : List V) (H : Hp) (Q : VK) : Prop
  | mk (x : Addr) (t m : Int) (rows : List (Int × Int)) (h1 : vs = [.ref x, .int t, .int m]) (h2 : Tb a H x rows) (h3 : Good rows) (h4 : 0 ≤ t) (h5 : t ≤ 1000000000) (h6 : -5760 ≤ m) (h7 : m ≤ 5760) (h8 : ∀ (v : V) (H' : Hp), Same H H' → Res a H' v (pon rows t m) → Q v H') : sp_Lput_P a vs H Q
noncomputable def sp_Lput (a : Ad) : Sp := fun vs H Q _ => sp_Lput_P a vs H Q
inductive sp_Ljoin_P (a : Ad) (vs : List V) (H : Hp) (Q : VK) : Prop
  | mk (x y : Addr) (t : Int) (rows others : List (Int × Int)) (h1 : vs = [.ref x, .ref y, .int t]) (h2 : Tb a H x rows) (h3 : Good rows) (h4 : Tb a H y others) (h5 : Good others) (h6 : 0 ≤ t) (h7 : t ≤ 1000000000) (h8 : ∀ (v : V) (H' : Hp), Same H H' → Res a H' v (spl rows others t) → Q v H') : sp_Ljoin_P a vs H Q
noncomputable def sp_Ljoin (a : Ad) : Sp := fun vs H Q _ => sp_Ljoin_P a vs H Q
inductive sp_Lis_P (a : Ad) (vs : List V) (H : Hp) (Q : VK) : Prop
  | mk (v : V) (d : Addr) (due : List (Int × Int)) (h1 : vs = [v, .ref d]) (h2 : Res a H v due) (h3 : Rs H d due) (h4 : due.length ≤ 64) (h5 : ∀ H', Same H H' → Q (.bl true) H') : sp_Lis_P a vs H Q
noncomputable def sp_Lis (a : Ad) : Sp := fun vs H Q _ => sp_Lis_P a vs H Q
inductive sp_Lapart_P (a : Ad) (vs : List V) (H : Hp) (Q : VK) : Prop
  | mk (x y q p : Addr) (rows others : List (Int × Int)) (h1 : vs = [.ref x, .ref y, .ref q, .ref p]) (h2 : Tb a H x rows) (h3 : Good rows) (h4 : Tb a H y others) (h5 : Good others) (h6 : Rs H q rows) (h7 : Rs H p others) (h8 : ∀ H', Same H H' → Q (.bl true) H') : sp_Lapart_P a vs H Q
noncomputable def sp_Lapart (a : Ad) : Sp := fun vs H Q _ => sp_Lapart_P a vs H Q
inductive sp_Lback_P (a : Ad) (vs : List V) (H : Hp) (Q : VK) : Prop
  | mk (v : V) (x q : Addr) (t : Int) (due rows : List (Int × Int)) (h1 : vs = [v, .ref x, .int t, .ref q]) (h2 : Res a H v due) (h3 : (cn due = true → Good due)) (h4 : Tb a H x rows) (h5 : Good rows) (h6 : Rs H q rows) (h7 : 0 ≤ t) (h8 : t ≤ 1000000000) (h9 : ∀ H', Same H H' → Q (.bl true) H') : sp_Lback_P a vs H Q
noncomputable def sp_Lback (a : Ad) : Sp := fun vs H Q _ => sp_Lback_P a vs H Q
inductive sp_Lminutes_P (vs : List V) (H : Hp) (Q : VK) : Prop
  | mk (q : Addr) (t c : Int) (rows : List (Int × Int)) (h1 : vs = [.ref q, .int t, .int c]) (h2 : Rs H q rows) (h3 : Good rows) (h4 : 0 ≤ t) (h5 : 0 ≤ c) (h6 : c < 46084) (h7 : ∀ (m : Int) (H' : Hp), Same H H' → -5760 ≤ m → m ≤ 5760 → Q (.int m) H') : sp_Lminutes_P vs H Q
noncomputable def sp_Lminutes : Sp := fun vs H Q _ => sp_Lminutes_P vs H Q
noncomputable def St2 (a : Ad) (H : Hp) (s : Addr) (rows : List (Int × Int)) : Prop := ∃ x q, H s = some (.tup [.ref x, .ref q]) ∧ Tb a H x rows ∧ Rs H q rows ∧ Good rows
theorem St2.same {a : Ad} {H H' : Hp} {s : Addr} {rows : List (Int × Int)} (h : St2 a H s rows) (S : Same H H') : St2 a H' s rows := by
  obtain ⟨x, q, h1, h2, h3, h4⟩ := h
  exact ⟨x, q, S _ _ h1, h2.same S, h3.same S, h4⟩
inductive sp_Lturn_P (a : Ad) (vs : List V) (H : Hp) (Q : VK) : Prop
  | mk (pr s d s0 s1 : Addr) (rows r0 r1 : List (Int × Int)) (y0 y1 y2 y3 : Int) (h1 : vs = [.ref pr, .ref s, .ref d]) (h2 : H pr = some (.lst [.ref s0, .ref s1])) (h3 : St2 a H s0 r0) (h4 : St2 a H s1 r1) (h5 : St2 a H s rows) (h6 : H d = some (.lst ([y0, y1, y2, y3].map V.int))) (h7 : 0 ≤ y1) (h8 : y1 < 3) (h9 : 0 ≤ y3) (h10 : y3 < 46084) (h11 : ∀ (z : Addr) (v : V) (e : Addr) (t : Int) (due : List (Int × Int)) (H' : Hp), Same H H' → H' z = some (.tup [v, .ref e, .int t]) → Res a H' v due → Rs H' e due → (cn due = true → Good due) → due.length ≤ 64 → 0 ≤ t → t ≤ 1000000000 → Q (.ref z) H') : sp_Lturn_P a vs H Q
noncomputable def sp_Lturn (a : Ad) : Sp := fun vs H Q _ => sp_Lturn_P a vs H Q
inductive sp_law_P (K : PySem.W.Frag) (vs : List V) (H : Hp) (Q : VK) : Prop
  | mk (a : Addr) (ns : List Int) (h1 : vs = [.ref a]) (h2 : SqL K H a (ns.map V.int)) (h3 : ns.length ≤ 63) (h4 : ∀ H', Q (.bl true) H') : sp_law_P K vs H Q
noncomputable def sp_law (K : PySem.W.Frag) : Sp := fun vs H Q _ => sp_law_P K vs H Q
section
variable {P : Program} {w : World} {K : PySem.W.Frag} {mg : Str → Option Value} {base : Heap}
theorem ok_LogError_init {a : Ad} (T : Txt K mg a) : FnOk P w K mg base CX0 1 a.f_LogError_init a.fd_LogError_init ["self", "text"] (sp_LogError_init K) := by
  refine T.d_LogError_init.F.ok sc_LogError_init (fun vs H Q E h => ?_) (fun cdv A outer s H vs Q E hr h => ?_)
  · obtain ⟨ea, x, C, dx, tb, rfl, he, xi, kk⟩ := h
    rfl
  · obtain ⟨ea, x, C, dx, tb, rfl, he, xi, kk⟩ := h
    have hu := hu_of hr
    have hU := hr.units
    refine ⟨_, (pss_one (ps_expr (pe_vinit rfl T.n_ValueError boot_ValueError' (pa_cons (pv 0) (pa_cons (pv 1) pa_nil))))), ?_⟩
    try dsimp only [cxOf, Cx.nox]
    exact ⟨_, rfl, _, rfl, ea, C, dx, tb, _, rfl, Nat.le_of_ble_eq_true rfl, he, xi, kk⟩
theorem ok_TooMany_init {a : Ad} (T : Txt K mg a) : FnOk P w K mg base CX0 3 a.f_TooMany_init a.fd_TooMany_init ["self", "many"] (sp_TooMany_init a) := by
  have G_LogError_init : FnOk P w K mg base CX0 1 a.f_LogError_init a.fd_LogError_init ["self", "text"] (sp_LogError_init K) := ok_LogError_init T
  refine T.d_TooMany_init.F.ok sc_TooMany_init (fun vs H Q E h => ?_) (fun cdv A outer s H vs Q E hr h => ?_)
  · obtain ⟨ea, v, rfl, he, kk⟩ := h
    rfl
  · obtain ⟨ea, v, rfl, he, kk⟩ := h
    have hu := hu_of hr
    have hU := hr.units
    have h_LogError_init : Room (1 + 1) _ := hr.mono (by decide)
    refine ⟨_, (pss_cons (ps_expr (pe_cinit T.ci_LogError G_LogError_init (h_LogError_init.mono (by decide)) T.d_LogError_init.b rfl T.g_LogError (pa_cons (pv 0) (pa_cons pe_str pa_nil))))
      (pss_one (ps_xfld (pv 0) (pv 1) rfl))), ?_⟩
    try dsimp only [cxOf, Cx.nox]
    refine ⟨_, rfl, ea, _, _, _, _, rfl, he, T.X_TooMany.c.xi, ?_⟩
    exact ⟨_, rfl, _, rfl, ea, _, _, rfl, he, T.X_TooMany.c, T.n_TooMany_many, kk⟩
theorem ok_Beyond_init {a : Ad} (T : Txt K mg a) : FnOk P w K mg base CX0 3 a.f_Beyond_init a.fd_Beyond_init ["self", "row"] (sp_Beyond_init a) := by
  have G_LogError_init : FnOk P w K mg base CX0 1 a.f_LogError_init a.fd_LogError_init ["self", "text"] (sp_LogError_init K) := ok_LogError_init T
  refine T.d_Beyond_init.F.ok sc_Beyond_init (fun vs H Q E h => ?_) (fun cdv A outer s H vs Q E hr h => ?_)
  · obtain ⟨ea, v, rfl, he, kk⟩ := h
    rfl
  · obtain ⟨ea, v, rfl, he, kk⟩ := h
    have hu := hu_of hr
    have hU := hr.units
    have h_LogError_init : Room (1 + 1) _ := hr.mono (by decide)
    refine ⟨_, (pss_cons (ps_expr (pe_cinit T.ci_LogError G_LogError_init (h_LogError_init.mono (by decide)) T.d_LogError_init.b rfl T.g_LogError (pa_cons (pv 0) (pa_cons pe_str pa_nil))))
      (pss_one (ps_xfld (pv 0) (pv 1) rfl))), ?_⟩
    try dsimp only [cxOf, Cx.nox]
    refine ⟨_, rfl, ea, _, _, _, _, rfl, he, T.X_Beyond.c.xi, ?_⟩
    exact ⟨_, rfl, _, rfl, ea, _, _, rfl, he, T.X_Beyond.c, T.n_Beyond_row, kk⟩
theorem ok_is_number {a : Ad} (T : Txt K mg a) : FnOk P w K mg base CX0 1 a.f_is_number a.fd_is_number ["thing"] sp_is_number := by
  refine T.d_is_number.F.ok sc_is_number (fun vs H Q E h => ?_) (fun cdv A outer s H vs Q E hr h => ?_)
  · obtain ⟨v, t, rfl, ty, kk⟩ := h
    rfl
  · obtain ⟨v, t, rfl, ty, kk⟩ := h
    have hu := hu_of hr
    have hU := hr.units
    refine ⟨_, (pss_one (ps_ret (pe_and (pe_callB call_isi (by rfl) T.n_isinstance boot_isinstance' (pa_cons (pv 0) (pa_cons (pe_bltn (v := .ty "int") rfl T.n_int boot_int' rfl) pa_nil))) (pe_one (pe_not (pe_callB call_isi (by rfl) T.n_isinstance boot_isinstance' (pa_cons (pv 0) (pa_cons (pe_bltn (v := .ty "bool") rfl T.n_bool boot_bool' rfl) pa_nil)))))))), ?_⟩
    try dsimp only [cxOf, Cx.nox]
    refine ⟨_, rfl, _, _, _, rfl, (by decide), ty, _, rfl, ?_⟩
    cases v with
    | int i => cases ty; exact iteT ⟨_, rfl, _, _, _, rfl, (by decide), rfl, false, rfl, kk⟩
    | bl b => cases ty; exact iteT ⟨_, rfl, _, _, _, rfl, (by decide), rfl, true, rfl, kk⟩
    | non => cases ty; exact iteF kk
    | str x => cases ty; exact iteF kk
    | byt x => cases ty
    | flt x => cases ty
    | ty x => cases ty
    | ref p =>
      have ht := tyN_mem ty
      have e : isaT "int" t = false := by
        simp only [tyN] at ty
        split at ty <;> first | (cases ty; rfl) | cases ty
      rw [e]
      exact iteF kk
theorem ok_Lwhole {a : Ad} (T : Txt K mg a) : FnOk P w K mg base CX0 1 a.f_Lwhole a.fd_Lwhole ["_law_found"] sp_Lwhole := by
  refine T.d_Lwhole.F.ok sc_Lwhole (fun vs H Q E h => ?_) (fun cdv A outer s H vs Q E hr h => ?_)
  · obtain ⟨i, rfl, kk⟩ := h
    rfl
  · obtain ⟨i, rfl, kk⟩ := h
    have hu := hu_of hr
    have hU := hr.units
    refine ⟨_, (pss_one (ps_ret (pe_and (pe_callB call_isi (by rfl) T.n_isinstance boot_isinstance' (pa_cons (pv 0) (pa_cons (pe_bltn (v := .ty "int") rfl T.n_int boot_int' rfl) pa_nil))) (pe_one (pe_not (pe_callB call_isi (by rfl) T.n_isinstance boot_isinstance' (pa_cons (pv 0) (pa_cons (pe_bltn (v := .ty "bool") rfl T.n_bool boot_bool' rfl) pa_nil)))))))), ?_⟩
    try dsimp only [cxOf, Cx.nox]
    refine ⟨_, rfl, _, _, _, rfl, (by decide), rfl, true, rfl, iteT ?_⟩
    exact ⟨_, rfl, _, _, _, rfl, (by decide), rfl, false, rfl, kk⟩
theorem ok_is_whole {a : Ad} (T : Txt K mg a) : FnOk P w K mg base CX0 2 a.f_is_whole a.fd_is_whole ["thing", "low", "high"] sp_is_whole := by
  have G_is_number : FnOk P w K mg base CX0 1 a.f_is_number a.fd_is_number ["thing"] sp_is_number := ok_is_number T
  refine T.d_is_whole.F.ok sc_is_whole (fun vs H Q E h => ?_) (fun cdv A outer s H vs Q E hr h => ?_)
  · obtain ⟨v, t, lo, hi, rfl, ty, kk⟩ := h
    rfl
  · obtain ⟨v, t, lo, hi, rfl, ty, kk⟩ := h
    have hu := hu_of hr
    have hU := hr.units
    have h_is_number : Room (1) _ := hr.mono (by decide)
    refine ⟨_, (pss_one (ps_ret (pe_and (pe_call G_is_number h_is_number rfl T.d_is_number.m T.d_is_number.k T.d_is_number.b .nil pass0 (pa_cons (pv 0) pa_nil)) (pe_one (pe_chain op_le op_le (pv 1) (pv 0) (pv 2)))))), ?_⟩
    try dsimp only [cxOf, Cx.nox]
    refine ⟨_, rfl, v, t, rfl, ty, _, rfl, ?_⟩
    cases v with
    | int i =>
      refine iteT ⟨_, rfl, _, rfl, _, _, rfl, rfl, _, rfl, ?_⟩
      refine iteD (fun g => ?_) (fun g => ?_)
      · refine ⟨_, rfl, _, _, rfl, rfl, ?_⟩
        rw [show whole (.int i) lo hi = decide (i ≤ hi) by show (decide (lo ≤ i) && _) = _; rw [decide_eq_true g, Bool.true_and]] at kk
        exact kk
      · rw [show whole (.int i) lo hi = false by show (decide (lo ≤ i) && _) = _; rw [decide_eq_false g, Bool.false_and]] at kk
        exact kk
    | _ => exact iteF kk
theorem ok_is_moment {a : Ad} (T : Txt K mg a) : FnOk P w K mg base CX0 3 a.f_is_moment a.fd_is_moment ["thing"] sp_is_moment := by
  have G_is_whole : FnOk P w K mg base CX0 2 a.f_is_whole a.fd_is_whole ["thing", "low", "high"] sp_is_whole := ok_is_whole T
  refine T.d_is_moment.F.ok sc_is_moment (fun vs H Q E h => ?_) (fun cdv A outer s H vs Q E hr h => ?_)
  · obtain ⟨v, t, rfl, ty, kk⟩ := h
    rfl
  · obtain ⟨v, t, rfl, ty, kk⟩ := h
    have hu := hu_of hr
    have hU := hr.units
    have h_is_whole : Room (2) _ := hr.mono (by decide)
    obtain ⟨t_LAST, c_LAST⟩ := T.g_LAST
    refine ⟨_, (pss_one (ps_ret (pe_call G_is_whole h_is_whole rfl T.d_is_whole.m T.d_is_whole.k T.d_is_whole.b .nil pass0 (pa_cons (pv 0) (pa_cons pe_int (pa_cons (pe_glob (v := .int 1000000000) rfl c_LAST ⟨_, rfl⟩) pa_nil)))))), ?_⟩
    try dsimp only [cxOf, Cx.nox]
    exact ⟨_, rfl, v, t, 0, 1000000000, rfl, ty, kk⟩
theorem ok_is_row {a : Ad} (T : Txt K mg a) : FnOk P w K mg base CX0 4 a.f_is_row a.fd_is_row ["thing", "widest"] sp_is_row := by
  have G_is_moment : FnOk P w K mg base CX0 3 a.f_is_moment a.fd_is_moment ["thing"] sp_is_moment := ok_is_moment T
  have G_is_whole : FnOk P w K mg base CX0 2 a.f_is_whole a.fd_is_whole ["thing", "low", "high"] sp_is_whole := ok_is_whole T
  refine T.d_is_row.F.ok sc_is_row (fun vs H Q E h => ?_) (fun cdv A outer s H vs Q E hr h => ?_)
  · obtain ⟨t, r, w, rfl, ht, h1, h2, h3, h4, kk⟩ := h
    rfl
  · obtain ⟨t, r, w, rfl, ht, h1, h2, h3, h4, kk⟩ := h
    have hu := hu_of hr
    have hU := hr.units
    have h_is_moment : Room (3) _ := hr.mono (by decide)
    have h_is_whole : Room (2) _ := hr.mono (by decide)
    refine ⟨_, (pss_cons (ps_if (PW.pt (pw_or (pt_not (pt_val (pe_callB call_isi (by rfl) T.n_isinstance boot_isinstance' (pa_cons (pv 0) (pa_cons (pe_bltn (v := .ty "tuple") rfl T.n_tuple boot_tuple' rfl) pa_nil))))) (pw_or1 (pt_cmpR (uNe hU) (pe_callB call_len (by rfl) T.n_len boot_len' (pa_cons (pv 0) pa_nil)) pe_int (nomark _)))))
        (pss_one (ps_ret pe_bl))
        pss_nil)
      (pss_one (ps_ret (pe_and (pe_call G_is_moment h_is_moment rfl T.d_is_moment.m T.d_is_moment.k T.d_is_moment.b .nil pass0 (pa_cons (pe_ix (r := rIx K) ix_seq (pv 0) pe_int (fun _ _ => rfl)) pa_nil)) (pe_one (pe_call G_is_whole h_is_whole rfl T.d_is_whole.m T.d_is_whole.k T.d_is_whole.b .nil pass0 (pa_cons (pe_ix (r := rIx K) ix_seq (pv 0) pe_int (fun _ _ => rfl)) (pa_cons (pe_un un_neg (pv 1)) (pa_cons (pv 1) pa_nil))))))))), ?_⟩
    try dsimp only [cxOf, Cx.nox]
    have ty : tyN H (.ref t) = some "tuple" := by simp only [tyN]; rw [ht]
    refine ⟨_, rfl, _, _, _, rfl, (by decide), ty, true, rfl, iteFF rfl ?_⟩
    refine ⟨_, rfl, _, _, rfl, .inr ⟨_, SqT.of ht, rfl⟩, .inl ⟨rfl, _, rfl, iteND (fun g => absurd rfl g) (fun _ => ?_)⟩⟩
    refine ⟨_, rfl, .inr (.inl ⟨t, _, _, _, rfl, rfl, SqT.of ht, rfl, .int r.1, _, rfl, rfl, _, rfl, ?_⟩)⟩
    rw [mom_int h1 h2]
    refine iteT ?_
    refine ⟨_, rfl, .inr (.inl ⟨t, _, _, _, rfl, rfl, SqT.of ht, rfl, _, rfl, _, rfl, _, rfl, .int r.2, _, -w, w, rfl, rfl, ?_⟩)⟩
    rw [whole_int h3 h4]
    exact kk
theorem ok_may_stand {a : Ad} (T : Txt K mg a) : FnOk P w K mg base CX0 1 a.f_may_stand a.fd_may_stand ["rows", "place"] sp_may_stand := by
  refine T.d_may_stand.F.ok sc_may_stand (fun vs H Q E h => ?_) (fun cdv A outer s H vs Q E hr h => ?_)
  · obtain ⟨q, i, most, wd, rows, rfl, ⟨zs, hq, tp⟩, good, hi, kk⟩ := h
    rfl
  · obtain ⟨q, i, most, wd, rows, rfl, ⟨zs, hq, tp⟩, good, hi, kk⟩ := h
    have hu := hu_of hr
    have hU := hr.units
    refine ⟨_, (pss_cons (ps_if (pt_cmpR (uEq hU) (pv 1) pe_int (nomark _))
        (pss_one (ps_ret (pe_cmpR (uEq hU) (pe_ix (r := rIx K) ix_seq (pe_ix (r := rIx K) ix_seq (pv 0) pe_int (fun _ _ => rfl)) pe_int (fun _ _ => rfl)) pe_int (nomark _))))
        pss_nil)
      (pss_one (ps_ret (pe_cmpR op_gt (pe_ix (r := rIx K) ix_seq (pe_ix (r := rIx K) ix_seq (pv 0) (pv 1) (fun _ _ => rfl)) pe_int (fun _ _ => rfl)) (pe_ix (r := rIx K) ix_seq (pe_ix (r := rIx K) ix_seq (pv 0) (pe_op op_sub (pv 1) pe_int) (fun _ _ => rfl)) pe_int (fun _ _ => rfl)) (nomark _))))), ?_⟩
    try dsimp only [cxOf, Cx.nox]
    refine ⟨_, rfl, .inl ⟨rfl, _, rfl, ?_⟩⟩
    obtain ⟨r, hr'⟩ : ∃ r, rows[i]? = some r := ⟨_, List.getElem?_eq_getElem hi⟩
    obtain ⟨t, hz, ht⟩ := tp.at_ hr'
    refine iteD (fun g => ?_) (fun g => ?_)
    · have g0 : i = 0 := by injection g with g; omega
      subst g0
      obtain ⟨n, hn⟩ := good.fst
      have e : r = (0, n) := by
        rw [List.head?_eq_getElem?, hr'] at hn
        exact Option.some.inj hn
      subst e
      refine ⟨_, rfl, .inl ⟨q, _, _, _, rfl, rfl, SqL.of hq, atI_nat hz, .inr (.inl ⟨t, _, _, _, rfl, rfl, SqT.of ht, rfl, .inl ⟨rfl, ?_⟩⟩)⟩⟩
      exact kk
    · have g1 : 0 < i := by
        refine Nat.pos_of_ne_zero fun z => g ?_
        rw [z]; rfl
      obtain ⟨r0, hr0⟩ : ∃ r, rows[i - 1]? = some r := ⟨_, List.getElem?_eq_getElem (by omega)⟩
      obtain ⟨t0, hz0, ht0⟩ := tp.at_ hr0
      have lt : r0.1 < r.1 := by
        obtain ⟨l1, e1⟩ := List.getElem?_eq_some_iff.mp hr0
        obtain ⟨l2, e2⟩ := List.getElem?_eq_some_iff.mp hr'
        have := List.pairwise_iff_getElem.mp good.asc (i - 1) i l1 l2 (by omega)
        rw [e1, e2] at this
        exact this
      refine ⟨_, rfl, _, rfl, .inl ⟨q, _, _, _, rfl, rfl, SqL.of hq, atI_nat hz, .inr (.inl ⟨t, _, _, _, rfl, rfl, SqT.of ht, rfl, _, rfl, _, rfl, _, _, rfl, rfl, .inl ⟨q, _, _, _, rfl, rfl, SqL.of hq, (by show atI zs ((i : Int) - 1) = _; rw [show (i : Int) - 1 = ((i - 1 : Nat) : Int) by omega]; exact atI_nat hz0), .inr (.inl ⟨t0, _, _, _, rfl, rfl, SqT.of ht0, rfl, _, _, rfl, rfl, ?_⟩)⟩⟩)⟩⟩
      show Q (.bl (decide (r0.1 < r.1))) H
      rw [decide_eq_true lt]
      exact kk
theorem ok_check_rows {a : Ad} (T : Txt K mg a) : FnOk P w K mg base CX0 5 a.f_check_rows a.fd_check_rows ["rows", "most", "widest"] sp_check_rows := by
  have G_is_row : FnOk P w K mg base CX0 4 a.f_is_row a.fd_is_row ["thing", "widest"] sp_is_row := ok_is_row T
  have G_may_stand : FnOk P w K mg base CX0 1 a.f_may_stand a.fd_may_stand ["rows", "place"] sp_may_stand := ok_may_stand T
  refine T.d_check_rows.F.ok sc_check_rows (fun vs H Q E h => ?_) (fun cdv A outer s H vs Q E hr h => ?_)
  · obtain ⟨q, most, wd, rows, rfl, ⟨zs, hq, tp⟩, good, kk⟩ := h
    rfl
  · obtain ⟨q, most, wd, rows, rfl, ⟨zs, hq, tp⟩, good, kk⟩ := h
    have hu := hu_of hr
    have hU := hr.units
    have h_is_row : Room (4) _ := hr.mono (by decide)
    have h_may_stand : Room (1) _ := hr.mono (by decide)
    refine ⟨_, (pss_cons (ps_if (PW.pt (pw_or (pt_not (pt_val (pe_callB call_isi (by rfl) T.n_isinstance boot_isinstance' (pa_cons (pv 0) (pa_cons (pe_bltn (v := .ty "list") rfl T.n_list boot_list' rfl) pa_nil))))) (pw_or1 (pt_cmpR (uEq hU) (pe_callB call_len (by rfl) T.n_len boot_len' (pa_cons (pv 0) pa_nil)) pe_int (nomark _)))))
        (pss_one ps_never)
        pss_nil)
      (pss_cons (ps_if (pt_cmpR op_gt (pe_callB call_len (by rfl) T.n_len boot_len' (pa_cons (pv 0) pa_nil)) (pv 1) (nomark _))
        (pss_one ps_never)
        pss_nil)
      (pss_one (ps_for PassesOwn.never rfl (pi_enum rfl T.n_enumerate (pa_cons (pv 0) pa_nil)) (pg_tup rfl (pgs_cons (pg_name (i := 3) (sc_check_rows.nd) rfl (Or.inl rfl)) (pgs_cons (pg_name (i := 4) (sc_check_rows.nd) rfl (Or.inl rfl)) pgs_nil)))
        (pss_one (ps_if (PW.pt (pw_or (pt_not (pt_val (pe_call G_is_row h_is_row rfl T.d_is_row.m T.d_is_row.k T.d_is_row.b .nil pass0 (pa_cons (pv 4) (pa_cons (pv 2) pa_nil))))) (pw_or1 (pt_not (pt_val (pe_call G_may_stand h_may_stand rfl T.d_may_stand.m T.d_may_stand.k T.d_may_stand.b .nil pass0 (pa_cons (pv 0) (pa_cons (pv 3) pa_nil))))))))
          (pss_one ps_never)
          pss_nil)))))), ?_⟩
    try dsimp only [cxOf, Cx.nox]
    have hl : zs.length = rows.length := tp.1
    have few := good.few
    have pos := good.ne
    have ty : tyN H (.ref q) = some "list" := by simp only [tyN]; rw [hq]
    refine ⟨_, rfl, _, _, _, rfl, (by decide), ty, true, rfl, iteFF rfl ?_⟩
    refine ⟨_, rfl, _, _, rfl, .inl ⟨_, SqL.of hq, rfl⟩, .inl ⟨rfl, _, rfl, iteD (fun g => ?_) (fun _ => ?_)⟩⟩
    · injection g with g; omega
    refine ⟨_, rfl, _, _, rfl, .inl ⟨_, SqL.of hq, rfl⟩, _, rfl, _, _, rfl, rfl, _, rfl, iteD (fun g => ?_) (fun _ => ?_)⟩
    · omega
    refine ⟨_, rfl, q, rfl, ⟨zs, SqL.of hq⟩, for_enum (K := K) (a := q) (xs := zs) (fun i σ H2 => ∃ s3 s4 : Option V, σ = [some (.ref q), some (.int most), some (.int wd), s3, s4] ∧ Same H H2) ⟨none, none, rfl, Same.refl H⟩ (fun i σ H2 _ ⟨_, _, _, S⟩ => SqL.of (S _ _ hq)) ?_ ?_⟩
    · rintro i x σ H2 p hx ⟨s3, s4, rfl, S⟩ hn
      have S2 : Same H (upd H2 p (.tup [.int i, x])) := S.then _ hn
      have hi : i < rows.length := by rw [← hl]; exact (List.getElem?_eq_some_iff.mp hx).1
      obtain ⟨r, hr'⟩ : ∃ r, rows[i]? = some r := ⟨_, List.getElem?_eq_getElem hi⟩
      obtain ⟨t, rfl, ht⟩ := tp.2 i x r hx hr'
      have ok := good.ok r (List.mem_of_getElem? hr')
      refine ⟨p, _, rfl, SqT.of upd_same, rfl, _, _, rfl, _, _, rfl, rfl, ?_⟩
      refine ⟨_, rfl, _, rfl, t, r, wd, rfl, S2 _ _ ht, ok.1, ok.2.1, ok.2.2.1, ok.2.2.2, true, rfl, iteFF rfl ?_⟩
      exact ⟨_, rfl, _, rfl, q, i, most, wd, rows, rfl, ⟨zs, S2 _ _ hq, tp.same S2⟩, good, hi, true, rfl, iteFF rfl ⟨_, _, rfl, S2⟩⟩
    · rintro σ H2 ⟨s3, s4, rfl, S⟩
      exact kk H2 S
theorem ok_Table_init {a : Ad} (T : Txt K mg a) : FnOk P w K mg base CX0 6 a.f_Table_init a.fd_Table_init ["self", "rows"] (sp_Table_init a) := by
  have G_check_rows : FnOk P w K mg base CX0 5 a.f_check_rows a.fd_check_rows ["rows", "most", "widest"] sp_check_rows := ok_check_rows T
  refine T.d_Table_init.F.ok sc_Table_init (fun vs H Q E h => ?_) (fun cdv A outer s H vs Q E hr h => ?_)
  · obtain ⟨x, dx, q, rows, rfl, hx, hrs, good, kk⟩ := h
    rfl
  · obtain ⟨x, dx, q, rows, rfl, hx, hrs, good, kk⟩ := h
    have hu := hu_of hr
    have hU := hr.units
    have h_check_rows : Room (5) _ := hr.mono (by decide)
    obtain ⟨t_WIDEST_SHIFT, c_WIDEST_SHIFT⟩ := T.g_WIDEST_SHIFT
    obtain ⟨t_MOST_ROWS, c_MOST_ROWS⟩ := T.g_MOST_ROWS
    refine ⟨_, (pss_cons (ps_expr (pe_call G_check_rows h_check_rows rfl T.d_check_rows.m T.d_check_rows.k T.d_check_rows.b .nil pass0 (pa_cons (pv 1) (pa_cons (pe_glob (v := .int 21) rfl c_MOST_ROWS ⟨_, rfl⟩) (pa_cons (pe_glob (v := .int 2880) rfl c_WIDEST_SHIFT ⟨_, rfl⟩) pa_nil)))))
      (pss_one (ps_fld (pv 0) (pe_callTy (r := rLof K) call_list_of (by rfl) T.n_list boot_list' (pa_cons (pv 1) pa_nil)) rfl))), ?_⟩
    try dsimp only [cxOf, Cx.nox]
    refine ⟨_, rfl, q, 21, 2880, rows, rfl, hrs, good, fun G1 S1 => ?_⟩
    obtain ⟨zs, hq, tp⟩ := hrs.same S1
    have hx1 := S1 _ _ hx
    refine ⟨_, rfl, q, zs, rfl, .inl (SqL.of hq), fun k fk => ?_⟩
    have nkx : x ≠ k := ne_of_none hx1 fk
    refine ⟨_, rfl, x, _, dx, [], rfl, (upd_ne nkx).trans hx1, T.cl_Table, T.n_Table_kept, (by show 0 < 1000; decide), ?_⟩
    have fkH : H k = none := S1.none fk
    refine kk _ (fun c o e n => ?_) ⟨k, dx, zs, upd_same, (upd_ne nkx.symm).trans upd_same, ⟨tp.1, fun i z p e1 e2 => ?_⟩⟩
    · rw [upd_ne n, upd_ne (ne_of_none e fkH)]
      exact S1 _ _ e
    · obtain ⟨t, et, ht⟩ := tp.2 i z p e1 e2
      refine ⟨t, et, ?_⟩
      rw [upd_ne (ne_of ht hx1 (by intro z; cases z)), upd_ne (ne_of_none ht fk)]
      exact ht
theorem ok_number_at {a : Ad} (T : Txt K mg a) : FnOk P w K mg base CX0 1 a.f_number_at a.fd_number_at ["rows", "moment"] sp_number_at := by
  refine T.d_number_at.F.ok sc_number_at (fun vs H Q E h => ?_) (fun cdv A outer s H vs Q E hr h => ?_)
  · obtain ⟨q, t, v, rows, rfl, ⟨zs, hq, tp⟩, few, hv, kk⟩ := h
    rfl
  · obtain ⟨q, t, v, rows, rfl, ⟨zs, hq, tp⟩, few, hv, kk⟩ := h
    have hu := hu_of hr
    have hU := hr.units
    refine ⟨_, (pss_one (ps_ret (pe_ix (r := rIx K) ix_seq (pe_comp rfl (CompOk.def ["start", "number", "moment"] [none, none, some 1]) (pi_list (pv 0)) (fun _ _ _ _ _ => (show PG _ _ (gTup K 2 _) from (pg_tup rfl (pgs_cons (pg_name (i := 0) (show List.Nodup (["start", "number", "moment"] : List Str) by decide +kernel) rfl (Or.inl rfl)) (pgs_cons (pg_name (i := 1) (show List.Nodup (["start", "number", "moment"] : List Str) by decide +kernel) rfl (Or.inl rfl)) pgs_nil))))) (fun _ _ _ _ _ => (pts_one (pt_cmpR op_le (pv 0) (pv 2) (nomark _)))) (fun _ _ _ _ _ => (pv 1))) (pe_un un_neg pe_int) (fun _ _ => rfl)))), ?_⟩
    try dsimp only [cxOf, Cx.nox]
    have hl : zs.length = rows.length := tp.1
    refine ⟨_, rfl, q, rfl, ⟨_, SqL.of hq⟩, fun D fD => ?_⟩
    refine comp_list (K := K) (a := q) (D := D) (fun i σ H2 => ∃ c0 c1 : Option V, σ = [c0, c1, some (.int t)] ∧ Same H H2 ∧ H2 D = some (.lst (((rows.take i).filter fun r => decide (r.1 ≤ t)).map fun r => V.int r.2))) ⟨none, none, rfl, Same.new _ fD, upd_same⟩ (fun i σ H2 _ ⟨_, _, _, S, _⟩ => SqL.of (S _ _ hq)) ?_ ?_
    · rintro i x σ H2 hx ⟨c0, c1, rfl, S, hD⟩
      have hi : i < rows.length := by rw [← hl]; exact (List.getElem?_eq_some_iff.mp hx).1
      obtain ⟨r, hr'⟩ : ∃ r, rows[i]? = some r := ⟨_, List.getElem?_eq_getElem hi⟩
      obtain ⟨u, rfl, hu'⟩ := tp.2 i x r hx hr'
      have et : rows.take (i + 1) = rows.take i ++ [r] := by rw [List.take_add_one, hr']; rfl
      refine ⟨u, _, rfl, SqT.of (S _ _ hu'), rfl, _, _, rfl, _, _, rfl, rfl, ?_⟩
      refine ⟨_, rfl, _, rfl, _, _, rfl, rfl, _, rfl, ?_⟩
      refine iteD (fun g => ?_) (fun g => ?_)
      · refine ⟨_, rfl, _, hD, small1000 ?_, _, _, rfl, S.put fD _, ?_⟩
        · rw [List.length_map]
          refine Nat.le_trans (List.length_filter_le _ _) ?_
          rw [List.length_take]; omega
        · rw [upd_same, et, List.filter_append, List.map_append, show List.filter (fun r => decide (r.1 ≤ t)) [r] = [r] by simp [g]]
          rfl
      · refine ⟨_, _, rfl, S, ?_⟩
        rw [et, List.filter_append, show List.filter (fun r => decide (r.1 ≤ t)) [r] = [] by simp [g], List.append_nil]
        exact hD
    · rintro σ H2 ⟨c0, c1, rfl, S, hD⟩
      rw [List.take_of_length_le (by rw [hl]; exact Nat.le_refl _)] at hD
      unfold na at hv
      cases hg : (List.filter (fun r => decide (r.1 ≤ t)) rows).getLast? with
      | none => rw [hg] at hv; cases hv
      | some r =>
        rw [hg] at hv
        have ev : r.2 = v := by simpa using hv
        rw [List.getLast?_eq_getElem?] at hg
        have hlt := (List.getElem?_eq_some_iff.mp hg).1
        generalize hF : List.filter (fun r => decide (r.1 ≤ t)) rows = F at hg hD hlt
        refine ⟨_, rfl, .inl ⟨D, _, _, _, rfl, rfl, SqL.of hD, ?_, kk H2 S⟩⟩
        show atI (F.map fun r => V.int r.2) (-1) = some (.int v)
        unfold atI ixN
        rw [List.length_map, if_neg (by decide), if_pos (by omega)]
        show (F.map fun r => V.int r.2)[((-1 : Int) + (F.length : Int)).toNat]? = _
        rw [show ((-1 : Int) + (F.length : Int)).toNat = F.length - 1 by omega, List.getElem?_map, hg, ← ev]
        rfl
theorem ok_Table_rows {a : Ad} (T : Txt K mg a) : FnOk P w K mg base CX0 1 a.f_Table_rows a.fd_Table_rows ["self"] (sp_Table_rows a) := by
  refine T.d_Table_rows.F.ok sc_Table_rows (fun vs H Q E h => ?_) (fun cdv A outer s H vs Q E hr h => ?_)
  · obtain ⟨x, rows, rfl, ⟨k, dx, zs, hx, hk, tp⟩, kk⟩ := h
    rfl
  · obtain ⟨x, rows, rfl, ⟨k, dx, zs, hx, hk, tp⟩, kk⟩ := h
    have hu := hu_of hr
    have hU := hr.units
    refine ⟨_, (pss_one (ps_ret (pe_callTy (r := rLof K) call_list_of (by rfl) T.n_list boot_list' (pa_cons (pe_fld (pv 0) rfl) pa_nil)))), ?_⟩
    try dsimp only [cxOf, Cx.nox]
    exact ⟨_, rfl, x, _, dx, _, _, rfl, hx, T.cl_Table, T.n_Table_kept, flds_kept _, k, zs, rfl, .inl (SqL.of hk), fun d fd => kk d _ fd (Same.new _ fd) ⟨zs, upd_same, tp.same (Same.new _ fd)⟩⟩
theorem ok_Table_shift_at {a : Ad} (T : Txt K mg a) : FnOk P w K mg base CX0 4 a.f_Table_shift_at a.fd_Table_shift_at ["self", "moment"] (sp_Table_shift_at a) := by
  have G_number_at : FnOk P w K mg base CX0 1 a.f_number_at a.fd_number_at ["rows", "moment"] sp_number_at := ok_number_at T
  have G_is_moment : FnOk P w K mg base CX0 3 a.f_is_moment a.fd_is_moment ["thing"] sp_is_moment := ok_is_moment T
  refine T.d_Table_shift_at.F.ok sc_Table_shift_at (fun vs H Q E h => ?_) (fun cdv A outer s H vs Q E hr h => ?_)
  · obtain ⟨x, t, v, rows, rfl, ⟨k, dx, zs, hx, hk, tp⟩, few, t0, t1, hv, kk⟩ := h
    rfl
  · obtain ⟨x, t, v, rows, rfl, ⟨k, dx, zs, hx, hk, tp⟩, few, t0, t1, hv, kk⟩ := h
    have hu := hu_of hr
    have hU := hr.units
    have h_number_at : Room (1) _ := hr.mono (by decide)
    have h_is_moment : Room (3) _ := hr.mono (by decide)
    refine ⟨_, (pss_cons (ps_if (pt_not (pt_val (pe_call G_is_moment h_is_moment rfl T.d_is_moment.m T.d_is_moment.k T.d_is_moment.b .nil pass0 (pa_cons (pv 1) pa_nil))))
        (pss_one ps_never)
        pss_nil)
      (pss_one (ps_ret (pe_call G_number_at h_number_at rfl T.d_number_at.m T.d_number_at.k T.d_number_at.b .nil pass0 (pa_cons (pe_fld (pv 0) rfl) (pa_cons (pv 1) pa_nil)))))), ?_⟩
    try dsimp only [cxOf, Cx.nox]
    refine ⟨_, rfl, .int t, _, rfl, rfl, true, congrArg V.bl (mom_int t0 t1), iteFF rfl ?_⟩
    exact ⟨_, rfl, x, _, dx, _, _, rfl, hx, T.cl_Table, T.n_Table_kept, flds_kept _, _, rfl, k, t, v, rows, rfl, ⟨zs, hk, tp⟩, (by omega), hv, kk⟩
theorem ok_Table_reading {a : Ad} (T : Txt K mg a) : FnOk P w K mg base CX0 5 a.f_Table_reading a.fd_Table_reading ["self", "moment"] (sp_Table_reading a) := by
  have G_Table_shift_at : FnOk P w K mg base CX0 4 a.f_Table_shift_at a.fd_Table_shift_at ["self", "moment"] (sp_Table_shift_at a) := ok_Table_shift_at T
  refine T.d_Table_reading.F.ok sc_Table_reading (fun vs H Q E h => ?_) (fun cdv A outer s H vs Q E hr h => ?_)
  · obtain ⟨x, t, v, rows, rfl, tb, few, t0, t1, hv, kk⟩ := h
    rfl
  · obtain ⟨x, t, v, rows, rfl, tb, few, t0, t1, hv, kk⟩ := h
    have hu := hu_of hr
    have hU := hr.units
    have h_Table_shift_at : Room (4) _ := hr.mono (by decide)
    refine ⟨_, (pss_one (ps_ret (pe_op uAdd (pe_meth (pv 0) T.cl_Table T.d_Table_shift_at.mt G_Table_shift_at h_Table_shift_at T.d_Table_shift_at.b .nil pass0 (pa_cons (pv 1) pa_nil)) (pv 1)))), ?_⟩
    try dsimp only [cxOf, Cx.nox]
    obtain ⟨k, dx, zs, hx, hk, tp⟩ := id tb
    exact ⟨_, rfl, x, dx, _, rfl, hx, flds_no _ (by decide +kernel), _, rfl, x, t, v, rows, rfl, tb, few, t0, t1, hv, fun H' S => ⟨_, rfl, .inl ⟨_, _, rfl, rfl, kk H' S⟩⟩⟩
end
end K28
set_option Elab.async false
set_option linter.all false
set_option maxRecDepth 100000
namespace K28
open PySem L2 PySem.NumText PyProof.Rows KC
section
variable {P : Program} {w : World} {K : PySem.W.Frag} {mg : Str → Option Value} {base : Heap}
theorem ok_shortest_rows {a : Ad} (T : Txt K mg a) : FnOk P w K mg base CX0 1 a.f_shortest_rows a.fd_shortest_rows ["rows"] sp_shortest_rows := by
  refine T.d_shortest_rows.F.ok sc_shortest_rows (fun vs H Q E h => ?_) (fun cdv A outer s H vs Q E hr h => ?_)
  · obtain ⟨q, rows, rfl, ⟨zs, hq, tp⟩, few, kk⟩ := h
    rfl
  · obtain ⟨q, rows, rfl, ⟨zs, hq, tp⟩, few, kk⟩ := h
    have hu := hu_of hr
    have hU := hr.units
    refine ⟨_, (pss_cons (ps_set (i := 1) sc_shortest_rows.nd rfl (Or.inl rfl) (pe_lst pa_nil))
      (pss_cons (ps_for PassesOwn.never rfl (pi_list (pv 0)) (pg_tup rfl (pgs_cons (pg_name (i := 2) (sc_shortest_rows.nd) rfl (Or.inl rfl)) (pgs_cons (pg_name (i := 3) (sc_shortest_rows.nd) rfl (Or.inl rfl)) pgs_nil)))
        (pss_one (ps_if (PW.pt (pw_or (pt_not (pt_truth (pv 1) (fun _ => rfl))) (pw_or1 (pt_cmpR (uNe hU) (pe_ix (r := rIx K) ix_seq (pe_ix (r := rIx K) ix_seq (pv 1) (pe_un un_neg pe_int) (fun _ _ => rfl)) pe_int (fun _ _ => rfl)) (pv 3) (nomark _)))))
          (pss_one (ps_expr (pe_bm PySem.F.plainAttrs_list PySem.F.slot_list_append PySem.F.type_list_append mt_append (pv 1) (pa_cons (pe_tup (pa_cons (pv 2) (pa_cons (pv 3) pa_nil))) pa_nil))))
          pss_nil)))
      (pss_one (ps_ret (pv 1))))), ?_⟩
    try dsimp only [cxOf, Cx.nox]
    have hl : zs.length = rows.length := tp.1
    refine ⟨small60 (Nat.le_of_ble_eq_true rfl), fun d fd => ?_⟩
    refine ⟨_, rfl, q, rfl, ⟨_, SqL.of (Same.new _ fd _ _ hq)⟩, for_list (K := K) (a := q) (xs := zs) (fun i σ H2 => (∃ s2 s3 : Option V, σ = [some (.ref q), some (.ref d), s2, s3]) ∧ Same H H2 ∧ ∃ acc ys, H2 d = some (.lst ys) ∧ TupL pr H2 ys acc ∧ acc.length ≤ i ∧ sr [] rows = sr acc (rows.drop i)) ⟨⟨none, none, rfl⟩, Same.new _ fd, [], [], upd_same, .nil, Nat.le_refl _, rfl⟩ (fun i σ H2 _ ⟨_, S, _⟩ => SqL.of (S _ _ hq)) ?_ ?_⟩
    · rintro i x σ H2 hx ⟨⟨s2, s3, rfl⟩, S, acc, ys, hd, ty, la, hs⟩
      have hi : i < rows.length := by rw [← hl]; exact (List.getElem?_eq_some_iff.mp hx).1
      obtain ⟨r, hr'⟩ : ∃ r, rows[i]? = some r := ⟨_, List.getElem?_eq_getElem hi⟩
      obtain ⟨u, rfl, hu'⟩ := tp.2 i x r hx hr'
      have hu2 := S _ _ hu'
      have ed : rows.drop i = r :: rows.drop (i + 1) := by
        rw [List.drop_eq_getElem_cons hi]
        congr 1
        rw [List.getElem?_eq_getElem hi] at hr'
        exact Option.some.inj hr'
      rw [ed] at hs
      have nud : u ≠ d := ne_of hu2 hd (by intro z; cases z)
      refine ⟨u, _, rfl, SqT.of hu2, rfl, _, _, rfl, _, _, rfl, rfl, ?_⟩
      refine ⟨_, rfl, _, .inl ⟨_, SqL.of hd, rfl⟩, ?_⟩
      cases ea : acc.getLast? with
      | none =>
        have e0 : acc = [] := List.getLast?_eq_none_iff.mp ea
        subst e0
        have ey : ys = [] := List.eq_nil_of_length_eq_zero ty.1
        subst ey
        rw [show sr [] (r :: rows.drop (i + 1)) = sr ([] ++ [r]) (rows.drop (i + 1)) from if_pos (.inl rfl)] at hs
        refine iteTT rfl (iteT ?_)
        refine ⟨_, rfl, .inl ⟨rfl, _, SqL.of hd⟩, _, rfl, _, rfl, small60 (Nat.le_of_ble_eq_true rfl), fun tt ft => ?_⟩
        have hd2 := Same.new (.tup [.int r.1, .int r.2]) ft _ _ hd
        refine ⟨d, _, _, rfl, rfl, hd2, small1000 (by rw [ty.1]; omega), ?_⟩
        exact ⟨⟨_, _, rfl⟩, (S.then _ ft).put fd _, _, _, upd_same, ((ty.same (Same.new _ ft)).snoc (p := r) upd_same).put hd2, by rw [List.length_append]; show ([] : List (Int × Int)).length + 1 ≤ i + 1; omega, hs⟩
      | some la0 =>
        have hne : acc ≠ [] := fun z => by rw [z] at ea; cases ea
        have hpos : 0 < acc.length := List.length_pos_iff.mpr hne
        rw [List.getLast?_eq_getElem?] at ea
        obtain ⟨u0, hz0, hu0⟩ := ty.at_ ea
        have at0 : atI ys (-1) = some (.ref u0) := by
          unfold atI ixN
          rw [if_neg (by decide), if_pos (by rw [ty.1]; omega)]
          show ys[((-1 : Int) + (ys.length : Int)).toNat]? = _
          rw [show ((-1 : Int) + (ys.length : Int)).toNat = acc.length - 1 by rw [ty.1]; omega]
          exact hz0
        have hye : ys.isEmpty = false := by
          cases ys with
          | nil => have := ty.1; simp at this; omega
          | cons _ _ => rfl
        rw [hye]
        refine iteFF rfl ?_
        refine ⟨_, rfl, _, rfl, .inl ⟨d, _, _, _, rfl, rfl, SqL.of hd, at0, .inr (.inl ⟨u0, _, _, _, rfl, rfl, SqT.of hu0, rfl, _, rfl, .inl ⟨rfl, _, rfl, ?_⟩⟩)⟩⟩
        refine iteND (fun g => ?_) (fun g => ?_)
        · have g' : acc = [] ∨ acc.getLast?.map (·.2) ≠ some r.2 := .inr fun z => by
            rw [List.getLast?_eq_getElem?, ea] at z
            have z' : la0.2 = r.2 := by simpa using z
            exact g (by rw [z'])
          rw [show sr acc (r :: rows.drop (i + 1)) = sr (acc ++ [r]) (rows.drop (i + 1)) from if_pos g'] at hs
          refine ⟨_, rfl, .inl ⟨rfl, _, SqL.of hd⟩, _, rfl, _, rfl, small60 (Nat.le_of_ble_eq_true rfl), fun tt ft => ?_⟩
          have hd2 := Same.new (.tup [.int r.1, .int r.2]) ft _ _ hd
          refine ⟨d, _, _, rfl, rfl, hd2, small1000 (by rw [ty.1]; omega), ?_⟩
          exact ⟨⟨_, _, rfl⟩, (S.then _ ft).put fd _, _, _, upd_same, ((ty.same (Same.new _ ft)).snoc (p := r) upd_same).put hd2, by rw [List.length_append]; show acc.length + 1 ≤ i + 1; omega, hs⟩
        · have g' : ¬ (acc = [] ∨ acc.getLast?.map (·.2) ≠ some r.2) := by
            rintro (z | z)
            · exact hne z
            · apply z
              rw [List.getLast?_eq_getElem?, ea]
              show some la0.2 = some r.2
              rw [(by injection g : la0.2 = r.2)]
          rw [show sr acc (r :: rows.drop (i + 1)) = sr acc (rows.drop (i + 1)) from if_neg g'] at hs
          exact ⟨⟨_, _, rfl⟩, S, acc, ys, hd, ty, by omega, hs⟩
    · rintro σ H2 ⟨⟨s2, s3, rfl⟩, S, acc, ys, hd, ty, la, hs⟩
      rw [hl, List.drop_length] at hs
      exact ⟨_, rfl, kk d H2 fd S ⟨ys, hd, by rw [hs]; exact ty⟩⟩
theorem ok_Lshortest {a : Ad} (T : Txt K mg a) : FnOk P w K mg base CX0 1 a.f_Lshortest a.fd_Lshortest ["_law_rows_here"] sp_Lshortest := by
  refine T.d_Lshortest.F.ok sc_Lshortest (fun vs H Q E h => ?_) (fun cdv A outer s H vs Q E hr h => ?_)
  · obtain ⟨q, rows, rfl, ⟨zs, hq, tp⟩, few, kk⟩ := h
    rfl
  · obtain ⟨q, rows, rfl, ⟨zs, hq, tp⟩, few, kk⟩ := h
    have hu := hu_of hr
    have hU := hr.units
    refine ⟨_, (pss_cons (ps_set (i := 1) sc_Lshortest.nd rfl (Or.inl rfl) (pe_lst pa_nil))
      (pss_cons (ps_for PassesOwn.never rfl (pi_list (pv 0)) (pg_name (i := 2) (sc_Lshortest.nd) rfl (Or.inl rfl))
        (pss_one (ps_if (PW.pt (pw_or (pt_cmpR (op_eqNil hU) (pv 1) (pe_lst pa_nil) (nomark _)) (pw_or1 (pt_cmpR (uNe hU) (pe_ix (r := rIx K) ix_seq (pe_ix (r := rIx K) ix_seq (pv 1) (pe_un un_neg pe_int) (fun _ _ => rfl)) pe_int (fun _ _ => rfl)) (pe_ix (r := rIx K) ix_seq (pv 2) pe_int (fun _ _ => rfl)) (nomark _)))))
          (pss_one (ps_expr (pe_bm PySem.F.plainAttrs_list PySem.F.slot_list_append PySem.F.type_list_append mt_append (pv 1) (pa_cons (pv 2) pa_nil))))
          pss_nil)))
      (pss_one (ps_ret (pv 1))))), ?_⟩
    try dsimp only [cxOf, Cx.nox]
    have hl : zs.length = rows.length := tp.1
    refine ⟨small60 (Nat.le_of_ble_eq_true rfl), fun d fd => ?_⟩
    refine ⟨_, rfl, q, rfl, ⟨_, SqL.of (Same.new _ fd _ _ hq)⟩, for_list (K := K) (a := q) (xs := zs) (fun i σ H2 => (∃ s2 : Option V, σ = [some (.ref q), some (.ref d), s2]) ∧ Same H H2 ∧ ∃ acc ys, H2 d = some (.lst ys) ∧ TupL pr H2 ys acc ∧ acc.length ≤ i ∧ sr [] rows = sr acc (rows.drop i)) ⟨⟨none, rfl⟩, Same.new _ fd, [], [], upd_same, .nil, Nat.le_refl _, rfl⟩ (fun i σ H2 _ ⟨_, S, _⟩ => SqL.of (S _ _ hq)) ?_ ?_⟩
    · rintro i x σ H2 hx ⟨⟨s2, rfl⟩, S, acc, ys, hd, ty, la, hs⟩
      have hi : i < rows.length := by rw [← hl]; exact (List.getElem?_eq_some_iff.mp hx).1
      obtain ⟨r, hr'⟩ : ∃ r, rows[i]? = some r := ⟨_, List.getElem?_eq_getElem hi⟩
      obtain ⟨u, rfl, hu'⟩ := tp.2 i x r hx hr'
      have hu2 := S _ _ hu'
      have ed : rows.drop i = r :: rows.drop (i + 1) := by
        rw [List.drop_eq_getElem_cons hi]
        congr 1
        rw [List.getElem?_eq_getElem hi] at hr'
        exact Option.some.inj hr'
      rw [ed] at hs
      have nud : u ≠ d := ne_of hu2 hd (by intro z; cases z)
      refine ⟨_, rfl, small60 (Nat.le_of_ble_eq_true rfl), fun l0 fl0 => ?_⟩
      have S0 := Same.new (.lst []) fl0
      have SS := S.trans S0
      have hd0 := S0 _ _ hd
      have ty0 := ty.same S0
      have hu3 := S0 _ _ hu2
      refine ⟨d, l0, ys, rfl, rfl, SqL.of hd0, SqL.of upd_same, _, rfl, ?_⟩
      cases ea : acc.getLast? with
      | none =>
        have e0 : acc = [] := List.getLast?_eq_none_iff.mp ea
        subst e0
        have ey : ys = [] := List.eq_nil_of_length_eq_zero ty.1
        subst ey
        rw [show sr [] (r :: rows.drop (i + 1)) = sr ([] ++ [r]) (rows.drop (i + 1)) from if_pos (.inl rfl)] at hs
        refine iteTT rfl (iteT ?_)
        refine ⟨_, rfl, .inl ⟨rfl, _, SqL.of hd0⟩, _, rfl, d, _, _, rfl, rfl, hd0, small1000 (by rw [ty0.1]; omega), ?_⟩
        exact ⟨⟨_, rfl⟩, SS.put fd _, _, _, upd_same, (ty0.snoc (p := r) hu3).put hd0, by rw [List.length_append]; show ([] : List (Int × Int)).length + 1 ≤ i + 1; omega, hs⟩
      | some la0 =>
        have hne : acc ≠ [] := fun z => by rw [z] at ea; cases ea
        have hpos : 0 < acc.length := List.length_pos_iff.mpr hne
        rw [List.getLast?_eq_getElem?] at ea
        obtain ⟨u0, hz0, hu0⟩ := ty.at_ ea
        have at0 : atI ys (-1) = some (.ref u0) := by
          unfold atI ixN
          rw [if_neg (by decide), if_pos (by rw [ty.1]; omega)]
          show ys[((-1 : Int) + (ys.length : Int)).toNat]? = _
          rw [show ((-1 : Int) + (ys.length : Int)).toNat = acc.length - 1 by rw [ty.1]; omega]
          exact hz0
        have hye : ys.isEmpty = false := by
          cases ys with
          | nil => have := ty.1; simp at this; omega
          | cons _ _ => rfl
        rw [hye]
        refine iteFF rfl ?_
        refine ⟨_, rfl, _, rfl, .inl ⟨d, _, _, _, rfl, rfl, SqL.of hd0, at0, .inr (.inl ⟨u0, _, _, _, rfl, rfl, SqT.of (S0 _ _ hu0), rfl, _, rfl, .inr (.inl ⟨u, _, _, _, rfl, rfl, SqT.of hu3, rfl, .inl ⟨rfl, _, rfl, ?_⟩⟩)⟩)⟩⟩
        refine iteND (fun g => ?_) (fun g => ?_)
        · have g' : acc = [] ∨ acc.getLast?.map (·.2) ≠ some r.2 := .inr fun z => by
            rw [List.getLast?_eq_getElem?, ea] at z
            have z' : la0.2 = r.2 := by simpa using z
            exact g (by rw [z'])
          rw [show sr acc (r :: rows.drop (i + 1)) = sr (acc ++ [r]) (rows.drop (i + 1)) from if_pos g'] at hs
          refine ⟨_, rfl, .inl ⟨rfl, _, SqL.of hd0⟩, _, rfl, d, _, _, rfl, rfl, hd0, small1000 (by rw [ty0.1]; omega), ?_⟩
          exact ⟨⟨_, rfl⟩, SS.put fd _, _, _, upd_same, (ty0.snoc (p := r) hu3).put hd0, by rw [List.length_append]; show acc.length + 1 ≤ i + 1; omega, hs⟩
        · have g' : ¬ (acc = [] ∨ acc.getLast?.map (·.2) ≠ some r.2) := by
            rintro (z | z)
            · exact hne z
            · apply z
              rw [List.getLast?_eq_getElem?, ea]
              show some la0.2 = some r.2
              rw [(by injection g : la0.2 = r.2)]
          rw [show sr acc (r :: rows.drop (i + 1)) = sr acc (rows.drop (i + 1)) from if_neg g'] at hs
          exact ⟨⟨_, rfl⟩, SS, acc, ys, hd0, ty0, by omega, hs⟩
    · rintro σ H2 ⟨⟨s2, rfl⟩, S, acc, ys, hd, ty, la, hs⟩
      rw [hl, List.drop_length] at hs
      exact ⟨_, rfl, kk d H2 fd S ⟨ys, hd, by rw [hs]; exact ty⟩⟩
theorem ok_shortened {a : Ad} (T : Txt K mg a) : FnOk P w K mg base CX0 8 a.f_shortened a.fd_shortened ["table"] (sp_shortened a) := by
  have G_Table_init : FnOk P w K mg base CX0 6 a.f_Table_init a.fd_Table_init ["self", "rows"] (sp_Table_init a) := ok_Table_init T
  have G_shortest_rows : FnOk P w K mg base CX0 1 a.f_shortest_rows a.fd_shortest_rows ["rows"] sp_shortest_rows := ok_shortest_rows T
  have G_Table_rows : FnOk P w K mg base CX0 1 a.f_Table_rows a.fd_Table_rows ["self"] (sp_Table_rows a) := ok_Table_rows T
  refine T.d_shortened.F.ok sc_shortened (fun vs H Q E h => ?_) (fun cdv A outer s H vs Q E hr h => ?_)
  · obtain ⟨x, rows, rfl, tb, good, kk⟩ := h
    rfl
  · obtain ⟨x, rows, rfl, tb, good, kk⟩ := h
    have hu := hu_of hr
    have hU := hr.units
    have h_Table_init : Room (6 + 1) _ := hr.mono (by decide)
    have h_shortest_rows : Room (1) _ := hr.mono (by decide)
    have h_Table_rows : Room (1) _ := hr.mono (by decide)
    refine ⟨_, (pss_one (ps_ret (pe_make T.M_Table G_Table_init h_Table_init rfl T.g_Table T.d_Table_init.b .nil pass0 (pa_cons (pe_call G_shortest_rows h_shortest_rows rfl T.d_shortest_rows.m T.d_shortest_rows.k T.d_shortest_rows.b .nil pass0 (pa_cons (pe_meth0 (pv 0) T.cl_Table T.d_Table_rows.mt G_Table_rows h_Table_rows T.d_Table_rows.b .nil pass0) pa_nil)) pa_nil)))), ?_⟩
    try dsimp only [cxOf, Cx.nox]
    obtain ⟨k, dx, zs, hx, hk, tp⟩ := id tb
    refine ⟨_, rfl, x, dx, _, rfl, hx, flds_no _ (by decide +kernel), x, rows, rfl, tb, fun d G1 fd S1 R1 => ?_⟩
    refine ⟨d, rows, rfl, R1, (Nat.le_trans good.few (by decide)), fun e G2 fe S2 R2 => ?_⟩
    intro y dy fy fdy ndy
    have Sy : Same G2 (upd (upd G2 dy (.own y)) y (.ins a.c_Table dy [])) := (Same.new _ fdy).put fy _
    have S12 := S1.trans S2
    exact ⟨y, dy, e, _, rfl, upd_same, R2.same Sy, good.sr, fun G3 B3 T3 => ⟨rfl, kk y G3 (S12.none fy) (S12.trans (Sy.but B3 fy)) T3⟩⟩
end
end K28
set_option Elab.async false
set_option linter.all false
set_option maxRecDepth 100000
namespace K28
open PySem L2 PySem.NumText PyProof.Rows KC
section
variable {P : Program} {w : World} {K : PySem.W.Frag} {mg : Str → Option Value} {base : Heap}
end
theorem sq1 (a : Int) : -(2 ^ 64) < a % 2147483647 ∧ a % 2147483647 < 2 ^ 64 := by
  have h1 := Int.emod_nonneg a (show (2147483647 : Int) ≠ 0 by decide)
  have h2 := Int.emod_lt_of_pos a (show (0 : Int) < 2147483647 by decide)
  omega
theorem sq2 (a : Int) : -(2 ^ 64) < a % 2147483629 ∧ a % 2147483629 < 2 ^ 64 := by
  have h1 := Int.emod_nonneg a (show (2147483629 : Int) ≠ 0 by decide)
  have h2 := Int.emod_lt_of_pos a (show (0 : Int) < 2147483629 by decide)
  omega
theorem cut4 {ds : List Int} {j : Nat} (h : j + 4 ≤ ds.length) (lo hi : Int) (hlo : lo = (j : Int)) (hhi : hi = ((j + 4 : Nat) : Int)) : ∃ a b c e, cutV (ds.map V.int) (some lo) (some hi) = [.int a, .int b, .int c, .int e] ∧ ds[j]? = some a ∧ ds[j + 1]? = some b ∧ ds[j + 2]? = some c ∧ ds[j + 3]? = some e := by
  subst hlo hhi
  refine ⟨ds[j], ds[j + 1], ds[j + 2], ds[j + 3], ?_, by simp, by simp, by simp, by simp⟩
  unfold cutV
  rw [HT.sIx_nat, HT.sIx_nat, List.length_map, Nat.min_eq_left (show j ≤ ds.length by omega), Nat.min_eq_left h, show j + 4 - j = 4 by omega]
  rw [List.drop_eq_getElem_cons (by rw [List.length_map]; omega), List.drop_eq_getElem_cons (by rw [List.length_map]; omega), List.drop_eq_getElem_cons (by rw [List.length_map]; omega), List.drop_eq_getElem_cons (by rw [List.length_map]; omega)]
  simp
structure Par (rows : List (Int × Int)) : Prop where
  fst : rows = [] ∨ ∃ n, rows.head? = some (0, n)
  asc : Asc rows
  ok : ∀ r ∈ rows, 0 ≤ r.1 ∧ r.1 + 47000000 ≤ 47000000 * (rows.length : Int) ∧ -2880 ≤ r.2 ∧ r.2 ≤ 2880
theorem Par.nil : Par [] := ⟨.inl rfl, List.Pairwise.nil, fun r m => nomatch m⟩
theorem Asc.last {rows : List (Int × Int)} {l : Int × Int} (h : Asc rows) (e : rows.getLast? = some l) : ∀ r ∈ rows, r.1 ≤ l.1 := fun r m => by
  obtain ⟨ys, rfl⟩ := List.getLast?_eq_some_iff.mp e
  rcases List.mem_append.mp m with m | m
  · exact Int.le_of_lt ((List.pairwise_append.mp h).2.2 r m l (by simp))
  · have e : r = l := by simpa using m
    rw [e]; exact Int.le_refl _
theorem Par.snoc {rows : List (Int × Int)} {m s : Int} (h : Par rows) (h0 : rows = [] → m = 0) (h1 : ∀ l, rows.getLast? = some l → l.1 < m ∧ m ≤ l.1 + 47000000) (s0 : -2880 ≤ s) (s1 : s ≤ 2880) : Par (rows ++ [(m, s)]) := by
  have lt : ∀ r ∈ rows, r.1 < m := fun r mr => by
    cases e : rows.getLast? with
    | none => rw [List.getLast?_eq_none_iff.mp e] at mr; cases mr
    | some l =>
      have := h.asc.last e r mr
      have := (h1 l e).1
      omega
  refine ⟨?_, List.pairwise_append.mpr ⟨h.asc, List.pairwise_singleton _ _, fun r mr b mb => ?_⟩, fun r mr => ?_⟩
  · right
    cases rows with
    | nil => exact ⟨s, by rw [h0 rfl]; rfl⟩
    | cons r rs =>
      obtain ⟨n, hn⟩ := h.fst.resolve_left (by simp)
      exact ⟨n, by simpa using hn⟩
  · have e : b = (m, s) := by simpa using mb
    rw [e]; exact lt r mr
  · rw [List.length_append]
    show _ ∧ _ ≤ 47000000 * ((rows.length + 1 : Nat) : Int) ∧ _
    rcases List.mem_append.mp mr with mr | mr
    · have := h.ok r mr
      omega
    · have e : r = (m, s) := by simpa using mr
      rw [e]
      cases el : rows.getLast? with
      | none =>
        have e0 := List.getLast?_eq_none_iff.mp el
        rw [h0 e0]
        show 0 ≤ (0 : Int) ∧ (0 : Int) + 47000000 ≤ _ ∧ _
        omega
      | some l =>
        have ml := List.mem_of_getLast? el
        have := h.ok l ml
        have := h1 l el
        show 0 ≤ m ∧ m + 47000000 ≤ _ ∧ -2880 ≤ s ∧ s ≤ 2880
        omega
theorem Par.good {rows : List (Int × Int)} (h : Par rows) (h0 : 0 < rows.length) (h1 : rows.length ≤ 21) : Good rows := by
  refine ⟨h1, h.fst.resolve_left (fun z => by rw [z] at h0; simp at h0), h.asc, fun r m => ?_⟩
  have := h.ok r m
  omega
theorem Par.far {rows : List (Int × Int)} {l : Int × Int} {m : Int} (h : Par rows) (h0 : 1 < rows.length) (h1 : rows.length ≤ 21) (el : rows.getLast? = some l) (m0 : 999999990 ≤ m) (m1 : m ≤ 1000000000) : Good (rows.set (rows.length - 1) (m, l.2)) := by
  obtain ⟨ys, rfl⟩ := List.getLast?_eq_some_iff.mp el
  have ey : (ys ++ [l]).set ((ys ++ [l]).length - 1) (m, l.2) = ys ++ [(m, l.2)] := by
    rw [List.length_append]
    show (ys ++ [l]).set (ys.length + 1 - 1) _ = _
    rw [Nat.add_sub_cancel, List.set_append_right _ _ (Nat.le_refl _), Nat.sub_self]
    rfl
  rw [ey]
  have hl : ys.length + 1 ≤ 21 := by rw [List.length_append] at h1; exact h1
  have pos : 0 < ys.length := by rw [List.length_append] at h0; simp at h0; omega
  have okl := h.ok l (by simp)
  have ob : ∀ r ∈ ys, 0 ≤ r.1 ∧ r.1 ≤ 940000000 ∧ -2880 ≤ r.2 ∧ r.2 ≤ 2880 := fun r mr => by
    have := h.ok r (List.mem_append_left _ mr)
    rw [List.length_append] at this
    have h2 : ((ys.length + [l].length : Nat) : Int) ≤ 21 := by show ((ys.length + 1 : Nat) : Int) ≤ 21; omega
    omega
  refine ⟨by rw [List.length_append]; exact hl, ?_, List.pairwise_append.mpr ⟨(List.pairwise_append.mp h.asc).1, List.pairwise_singleton _ _, fun r mr b mb => ?_⟩, fun r mr => ?_⟩
  · obtain ⟨n, hn⟩ := h.fst.resolve_left (by simp)
    cases ys with
    | nil => simp at pos
    | cons r rs => exact ⟨n, by simpa using hn⟩
  · have e : b = (m, l.2) := by simpa using mb
    have := ob r mr
    rw [e]
    show r.1 < m
    omega
  · rcases List.mem_append.mp mr with mr | mr
    · have := ob r mr
      omega
    · have e : r = (m, l.2) := by simpa using mr
      rw [e]
      show 0 ≤ m ∧ m ≤ 1000000000 ∧ -2880 ≤ l.2 ∧ l.2 ≤ 2880
      omega
theorem atI_last {α : Type} {xs : List α} {x : α} (h : xs.getLast? = some x) : atI xs (-1) = some x := by
  have hne : 0 < xs.length := List.length_pos_iff.mpr (fun z => by rw [z] at h; cases h)
  unfold atI ixN
  rw [if_neg (by decide), if_pos (by omega)]
  show xs[((-1 : Int) + (xs.length : Int)).toNat]? = _
  rw [tn_ xs.length, ← List.getLast?_eq_getElem?]
  exact h
theorem ixN_last {n : Nat} (h : 0 < n) : ixN n (-1) = some (n - 1) := by
  unfold ixN
  rw [if_neg (by decide), if_pos (by omega)]
  rw [tn_ n]
theorem TupL.last {H : Hp} {zs : List V} {ps : List (Int × Int)} {p : Int × Int} (h : TupL pr H zs ps) (e : ps.getLast? = some p) : ∃ t, zs.getLast? = some (.ref t) ∧ H t = some (.tup (pr p)) := by
  rw [List.getLast?_eq_getElem?] at e
  obtain ⟨t, h1, h2⟩ := h.at_ e
  exact ⟨t, by rw [List.getLast?_eq_getElem?, h.1]; exact h1, h2⟩
theorem TupL.set {H : Hp} {zs : List V} {ps : List (Int × Int)} {i : Nat} {t : Addr} {p : Int × Int} (h : TupL pr H zs ps) (e : H t = some (.tup (pr p))) : TupL pr H (zs.set i (.ref t)) (ps.set i p) := ⟨by rw [List.length_set, List.length_set, h.1], fun j z y e1 e2 => by
  rw [List.getElem?_set] at e1 e2
  by_cases hj : i = j
  · rw [if_pos hj] at e1 e2
    split at e1
    · split at e2
      · cases e1; cases e2; exact ⟨t, rfl, e⟩
      · cases e2
    · cases e1
  · rw [if_neg hj] at e1 e2
    exact h.2 j z y e1 e2⟩
noncomputable def menus : List Int := [28, 4] ++ (List.replicate 21 [(3 : Int), 47000000, 5, 5761]).flatten
theorem menus_len : menus.length = 86 := by decide +kernel
theorem menus_ok : ∀ x ∈ menus, 0 < x ∧ x < 18446744073709551616 := by decide +kernel
theorem menus_4 : ∀ k : Fin 21, menus[2 + 4 * k.1]? = some 3 ∧ menus[2 + 4 * k.1 + 1]? = some 47000000 ∧ menus[2 + 4 * k.1 + 2]? = some 5 ∧ menus[2 + 4 * k.1 + 3]? = some 5761 := by decide +kernel
section
variable {P : Program} {w : World} {K : PySem.W.Frag} {mg : Str → Option Value} {base : Heap}
theorem ok_Lcell_at {a : Ad} (T : Txt K mg a) : FnOk P w K mg base CX0 1 a.f_Lcell_at a.fd_Lcell_at ["_law_script", "_law_k"] (sp_Lcell_at K) := by
  refine T.d_Lcell_at.F.ok sc_Lcell_at (fun vs H Q E h => ?_) (fun cdv A outer s H vs Q E hr h => ?_)
  · obtain ⟨sa, ns, k, rfl, hS, k0, kk⟩ := h
    rfl
  · obtain ⟨sa, ns, k, rfl, hS, k0, kk⟩ := h
    have hu := hu_of hr
    have hU := hr.units
    refine ⟨_, (pss_cons (ps_if (pt_cmpR op_lt (pv 1) (pe_callB call_len (by rfl) T.n_len boot_len' (pa_cons (pv 0) pa_nil)) (nomark _))
        (pss_one (ps_ret (pe_ix (r := rIx K) ix_seq (pv 0) (pv 1) (fun _ _ => rfl))))
        pss_nil)
      (pss_one (ps_ret pe_int))), ?_⟩
    try dsimp only [cxOf, Cx.nox]
    refine ⟨_, rfl, _, rfl, _, _, rfl, .inl ⟨_, hS, rfl⟩, _, _, rfl, rfl, _, rfl, ?_⟩
    refine iteD (fun h1 => ?_) (fun h1 => kk _)
    obtain ⟨v, hv, mv⟩ := atI_mem (xs := ns.map V.int) (i := k) k0 h1
    obtain ⟨n, rfl⟩ : ∃ n, v = .int n := by
      obtain ⟨n, _, e⟩ := List.mem_map.mp mv
      exact ⟨n, e.symm⟩
    exact ⟨_, rfl, _, rfl, .inl ⟨sa, _, _, _, rfl, rfl, hS, hv, kk _⟩⟩
theorem ok_Ldraws {a : Ad} (T : Txt K mg a) : FnOk P w K mg base CX0 1 a.f_Ldraws a.fd_Ldraws ["_law_cell", "_law_menus"] sp_Ldraws := by
  refine T.d_Ldraws.F.ok sc_Ldraws (fun vs H Q E h => ?_) (fun cdv A outer s H vs Q E hr h => ?_)
  · obtain ⟨c, m, ms, rfl, hm, lm, mok, kk⟩ := h
    rfl
  · obtain ⟨c, m, ms, rfl, hm, lm, mok, kk⟩ := h
    have hu := hu_of hr
    have hU := hr.units
    refine ⟨_, (pss_cons (ps_set (i := 2) sc_Ldraws.nd rfl (Or.inl rfl) (pe_lst pa_nil))
      (pss_cons (ps_set (i := 3) sc_Ldraws.nd rfl (Or.inl rfl) pe_int)
      (pss_cons (ps_if (pt_cmpR op_ge (pv 0) (pe_op op_pow pe_int pe_int) (nomark _))
        (pss_one (ps_set (i := 3) sc_Ldraws.nd rfl (Or.inl rfl) (pv 0)))
        pss_nil)
      (pss_cons (ps_for PassesOwn.never rfl (pi_range1 rfl T.n_range (pa_cons (pe_callB call_len (by rfl) T.n_len boot_len' (pa_cons (pv 1) pa_nil)) pa_nil)) (pg_name (i := 4) (sc_Ldraws.nd) rfl (Or.inl rfl))
        (pss_one (ps_if (pt_cmpR op_gt (pv 3) pe_int (nomark _))
          (pss_cons (ps_expr (pe_bm PySem.F.plainAttrs_list PySem.F.slot_list_append PySem.F.type_list_append mt_append (pv 2) (pa_cons (pe_op op_mod (pv 3) (pe_ix (r := rIx K) ix_seq (pv 1) (pv 4) (fun _ _ => rfl))) pa_nil)))
          (pss_one (ps_set (i := 3) sc_Ldraws.nd rfl (Or.inl rfl) (pe_op op_fdivB (pv 3) (pe_ix (r := rIx K) ix_seq (pv 1) (pv 4) (fun _ _ => rfl))))))
          (pss_cons (ps_set (i := 5) sc_Ldraws.nd rfl (Or.inl rfl) (pe_op op_mod (pe_op op_mul (pe_op uAdd (pe_op uAdd (pv 0) (pe_op op_mul pe_int (pv 4))) pe_int) pe_int) pe_int))
          (pss_cons (ps_set (i := 5) sc_Ldraws.nd rfl (Or.inl rfl) (pe_op op_mod (pe_op uAdd (pe_op uAdd (pe_op op_mul (pv 5) (pv 5)) (pe_op op_mul pe_int (pv 5))) (pv 4)) pe_int))
          (pss_cons (ps_set (i := 5) sc_Ldraws.nd rfl (Or.inl rfl) (pe_op op_mod (pe_op uAdd (pe_op uAdd (pe_op op_mul (pv 5) (pv 5)) (pe_op op_mul pe_int (pv 5))) (pe_op op_mul pe_int (pv 4))) pe_int))
          (pss_one (ps_expr (pe_bm PySem.F.plainAttrs_list PySem.F.slot_list_append PySem.F.type_list_append mt_append (pv 2) (pa_cons (pe_op op_mod (pv 5) (pe_ix (r := rIx K) ix_seq (pv 1) (pv 4) (fun _ _ => rfl))) pa_nil))))))))))
      (pss_one (ps_ret (pv 2))))))), ?_⟩
    try dsimp only [cxOf, Cx.nox]
    refine ⟨small60 (Nat.le_of_ble_eq_true rfl), fun d fd => ?_⟩
    have S0 := Same.new (.lst []) fd
    refine ⟨_, rfl, _, _, rfl, rfl, ⟨by decide, by decide, by decide⟩, _, _, rfl, rfl, _, rfl, ?_⟩
    refine iteD (fun g => ?_) (fun g => ?_)
    · refine ⟨_, rfl, ?_⟩
      refine ⟨_, rfl, _, _, rfl, .inl ⟨_, SqL.of (S0 _ _ hm), rfl⟩, _, rfl, (by rw [List.length_map]; omega), (by rw [List.length_map]; omega), ?_⟩
      refine for_range (lo := 0) (fun i σ H2 => ∃ (left : Int) (s4 s5 : Option V) (ds : List Int), σ = [some (.int c), some (.ref m), some (.ref d), some (.int left), s4, s5] ∧ Same H H2 ∧ H2 d = some (.lst (ds.map V.int)) ∧ ds.length = i ∧ ∀ (j : Nat) x mm, ds[j]? = some x → ms[j]? = some mm → 0 ≤ x ∧ x < mm) ⟨c, none, none, [], rfl, S0, upd_same, rfl, fun j x mm e => by simp at e⟩ ?_ ?_
      · rintro i σ H2 hi ⟨left, s4, s5, ds, rfl, S, hd, ld, hds⟩
        have hi2 : i < ms.length := by
          have : i < ((ms.map V.int).length : Int).toNat := hi
          rw [List.length_map] at this
          omega
        obtain ⟨mm, emm⟩ : ∃ mm, ms[i]? = some mm := ⟨_, List.getElem?_eq_getElem hi2⟩
        have okm := mok mm (List.mem_of_getElem? emm)
        have atm : atI (ms.map V.int) (0 + (i : Int)) = some (.int mm) := by rw [Int.zero_add]; exact atI_nat (by rw [List.getElem?_map, emm]; rfl)
        have hm2 := S _ _ hm
        have nmd : m ≠ d := ne_of_none hm fd
        have fin : ∀ v : Int, 0 ≤ v → v < mm → ∀ (j : Nat) x m', (ds ++ [v])[j]? = some x → ms[j]? = some m' → 0 ≤ x ∧ x < m' := fun v v0 v1 j x m' e1 e2 => by
          rcases snoc_get e1 with e | ⟨ej, e⟩
          · exact hds j x m' e e2
          · rw [ej, ld, emm] at e2
            rw [e, ← Option.some.inj e2]; exact ⟨v0, v1⟩
        have sml : (ds.map V.int).length < sizeLine := small1000 (by rw [List.length_map]; omega)
        refine ⟨_, rfl, _, _, rfl, rfl, _, rfl, ?_⟩
        refine iteD (fun g => ?_) (fun g => ?_)
        · refine ⟨_, rfl, .inl ⟨rfl, _, SqL.of hd⟩, _, rfl, _, rfl, _, rfl, .inl ⟨m, _, _, _, rfl, rfl, SqL.of hm2, atm, _, _, rfl, rfl, okm.1, d, _, _, rfl, rfl, hd, sml, ?_⟩⟩
          refine ⟨_, rfl, _, rfl, _, rfl, .inl ⟨m, _, _, _, rfl, rfl, SqL.of ((upd_ne nmd).trans hm2), atm, _, _, rfl, rfl, okm, ?_⟩⟩
          exact ⟨_, _, _, ds ++ [left % mm], rfl, S.put fd _, by rw [upd_same, List.map_append]; rfl, by rw [List.length_append, ld]; rfl, fin _ (Int.emod_nonneg _ (by omega)) (Int.emod_lt_of_pos _ okm.1)⟩
        · refine ⟨_, rfl, _, rfl, _, _, rfl, rfl, .inl ⟨by decide, by decide⟩, .inl ⟨_, _, rfl, rfl, .inl ⟨_, _, rfl, rfl, _, _, rfl, rfl, .inr ⟨by decide, by decide⟩, _, _, rfl, rfl, (by show (0 : Int) < _; decide), ?_⟩⟩⟩
          refine ⟨_, rfl, _, rfl, _, _, rfl, rfl, .inl (sq1 _), _, rfl, _, _, rfl, rfl, .inl ⟨by decide, by decide⟩, .inl ⟨_, _, rfl, rfl, _, rfl, .inl ⟨_, _, rfl, rfl, _, _, rfl, rfl, (by show (0 : Int) < _; decide), ?_⟩⟩⟩
          refine ⟨_, rfl, _, rfl, _, _, rfl, rfl, .inl (sq2 _), _, rfl, _, _, rfl, rfl, .inl ⟨by decide, by decide⟩, .inl ⟨_, _, rfl, rfl, _, rfl, _, _, rfl, rfl, .inl ⟨by decide, by decide⟩, .inl ⟨_, _, rfl, rfl, _, _, rfl, rfl, (by show (0 : Int) < _; decide), ?_⟩⟩⟩
          refine ⟨_, rfl, .inl ⟨rfl, _, SqL.of hd⟩, _, rfl, _, rfl, _, rfl, .inl ⟨m, _, _, _, rfl, rfl, SqL.of hm2, atm, _, _, rfl, rfl, okm.1, d, _, _, rfl, rfl, hd, sml, ?_⟩⟩
          exact ⟨_, _, _, ds ++ [_], rfl, S.put fd _, by rw [upd_same, List.map_append]; rfl, by rw [List.length_append, ld]; rfl, fin _ (Int.emod_nonneg _ (by omega)) (Int.emod_lt_of_pos _ okm.1)⟩
      · rintro σ H2 ⟨left, s4, s5, ds, rfl, S, hd, ld, hds⟩
        exact ⟨_, rfl, kk d ds H2 fd S hd (by rw [ld, List.length_map]; omega) hds⟩
    · 
      refine ⟨_, rfl, _, _, rfl, .inl ⟨_, SqL.of (S0 _ _ hm), rfl⟩, _, rfl, (by rw [List.length_map]; omega), (by rw [List.length_map]; omega), ?_⟩
      refine for_range (lo := 0) (fun i σ H2 => ∃ (left : Int) (s4 s5 : Option V) (ds : List Int), σ = [some (.int c), some (.ref m), some (.ref d), some (.int left), s4, s5] ∧ Same H H2 ∧ H2 d = some (.lst (ds.map V.int)) ∧ ds.length = i ∧ ∀ (j : Nat) x mm, ds[j]? = some x → ms[j]? = some mm → 0 ≤ x ∧ x < mm) ⟨0, none, none, [], rfl, S0, upd_same, rfl, fun j x mm e => by simp at e⟩ ?_ ?_
      · rintro i σ H2 hi ⟨left, s4, s5, ds, rfl, S, hd, ld, hds⟩
        have hi2 : i < ms.length := by
          have : i < ((ms.map V.int).length : Int).toNat := hi
          rw [List.length_map] at this
          omega
        obtain ⟨mm, emm⟩ : ∃ mm, ms[i]? = some mm := ⟨_, List.getElem?_eq_getElem hi2⟩
        have okm := mok mm (List.mem_of_getElem? emm)
        have atm : atI (ms.map V.int) (0 + (i : Int)) = some (.int mm) := by rw [Int.zero_add]; exact atI_nat (by rw [List.getElem?_map, emm]; rfl)
        have hm2 := S _ _ hm
        have nmd : m ≠ d := ne_of_none hm fd
        have fin : ∀ v : Int, 0 ≤ v → v < mm → ∀ (j : Nat) x m', (ds ++ [v])[j]? = some x → ms[j]? = some m' → 0 ≤ x ∧ x < m' := fun v v0 v1 j x m' e1 e2 => by
          rcases snoc_get e1 with e | ⟨ej, e⟩
          · exact hds j x m' e e2
          · rw [ej, ld, emm] at e2
            rw [e, ← Option.some.inj e2]; exact ⟨v0, v1⟩
        have sml : (ds.map V.int).length < sizeLine := small1000 (by rw [List.length_map]; omega)
        refine ⟨_, rfl, _, _, rfl, rfl, _, rfl, ?_⟩
        refine iteD (fun g => ?_) (fun g => ?_)
        · refine ⟨_, rfl, .inl ⟨rfl, _, SqL.of hd⟩, _, rfl, _, rfl, _, rfl, .inl ⟨m, _, _, _, rfl, rfl, SqL.of hm2, atm, _, _, rfl, rfl, okm.1, d, _, _, rfl, rfl, hd, sml, ?_⟩⟩
          refine ⟨_, rfl, _, rfl, _, rfl, .inl ⟨m, _, _, _, rfl, rfl, SqL.of ((upd_ne nmd).trans hm2), atm, _, _, rfl, rfl, okm, ?_⟩⟩
          exact ⟨_, _, _, ds ++ [left % mm], rfl, S.put fd _, by rw [upd_same, List.map_append]; rfl, by rw [List.length_append, ld]; rfl, fin _ (Int.emod_nonneg _ (by omega)) (Int.emod_lt_of_pos _ okm.1)⟩
        · refine ⟨_, rfl, _, rfl, _, _, rfl, rfl, .inl ⟨by decide, by decide⟩, .inl ⟨_, _, rfl, rfl, .inl ⟨_, _, rfl, rfl, _, _, rfl, rfl, .inr ⟨by decide, by decide⟩, _, _, rfl, rfl, (by show (0 : Int) < _; decide), ?_⟩⟩⟩
          refine ⟨_, rfl, _, rfl, _, _, rfl, rfl, .inl (sq1 _), _, rfl, _, _, rfl, rfl, .inl ⟨by decide, by decide⟩, .inl ⟨_, _, rfl, rfl, _, rfl, .inl ⟨_, _, rfl, rfl, _, _, rfl, rfl, (by show (0 : Int) < _; decide), ?_⟩⟩⟩
          refine ⟨_, rfl, _, rfl, _, _, rfl, rfl, .inl (sq2 _), _, rfl, _, _, rfl, rfl, .inl ⟨by decide, by decide⟩, .inl ⟨_, _, rfl, rfl, _, rfl, _, _, rfl, rfl, .inl ⟨by decide, by decide⟩, .inl ⟨_, _, rfl, rfl, _, _, rfl, rfl, (by show (0 : Int) < _; decide), ?_⟩⟩⟩
          refine ⟨_, rfl, .inl ⟨rfl, _, SqL.of hd⟩, _, rfl, _, rfl, _, rfl, .inl ⟨m, _, _, _, rfl, rfl, SqL.of hm2, atm, _, _, rfl, rfl, okm.1, d, _, _, rfl, rfl, hd, sml, ?_⟩⟩
          exact ⟨_, _, _, ds ++ [_], rfl, S.put fd _, by rw [upd_same, List.map_append]; rfl, by rw [List.length_append, ld]; rfl, fin _ (Int.emod_nonneg _ (by omega)) (Int.emod_lt_of_pos _ okm.1)⟩
      · rintro σ H2 ⟨left, s4, s5, ds, rfl, S, hd, ld, hds⟩
        exact ⟨_, rfl, kk d ds H2 fd S hd (by rw [ld, List.length_map]; omega) hds⟩
end
end K28
set_option Elab.async false
set_option linter.all false
set_option maxRecDepth 100000
namespace K28
open PySem L2 PySem.NumText PyProof.Rows KC
section
variable {P : Program} {w : World} {K : PySem.W.Frag} {mg : Str → Option Value} {base : Heap}
theorem ok_Lrows {a : Ad} (T : Txt K mg a) : FnOk P w K mg base CX0 2 a.f_Lrows a.fd_Lrows ["_law_cell"] sp_Lrows := by
  have G_Ldraws : FnOk P w K mg base CX0 1 a.f_Ldraws a.fd_Ldraws ["_law_cell", "_law_menus"] sp_Ldraws := ok_Ldraws T
  refine T.d_Lrows.F.ok sc_Lrows (fun vs H Q E h => ?_) (fun cdv A outer s H vs Q E hr h => ?_)
  · obtain ⟨c, rfl, kk⟩ := h
    rfl
  · obtain ⟨c, rfl, kk⟩ := h
    have hu := hu_of hr
    have hU := hr.units
    have h_Ldraws : Room (1) _ := hr.mono (by decide)
    refine ⟨_, (pss_cons (ps_set (i := 1) sc_Lrows.nd rfl (Or.inl rfl) (pe_call G_Ldraws h_Ldraws rfl T.d_Ldraws.m T.d_Ldraws.k T.d_Ldraws.b .nil pass0 (pa_cons (pv 0) (pa_cons (pe_op uAdd (pe_lst (pa_cons pe_int (pa_cons pe_int pa_nil))) (pe_op op_rep (pe_lst (pa_cons pe_int (pa_cons pe_int (pa_cons pe_int (pa_cons pe_int pa_nil))))) pe_int)) pa_nil))))
      (pss_cons (ps_set (i := 2) sc_Lrows.nd rfl (Or.inl rfl) (pe_lst pa_nil))
      (pss_cons (ps_for PassesOwn.never rfl (pi_range1 rfl T.n_range (pa_cons (pe_callB (call_min2 rfl) (by rfl) T.n_min boot_min' (pa_cons pe_int (pa_cons (pe_op uAdd pe_int (pe_ix (r := rIx K) ix_seq (pv 1) pe_int (fun _ _ => rfl))) pa_nil))) pa_nil)) (pg_name (i := 3) (sc_Lrows.nd) rfl (Or.inl rfl))
        (pss_cons (ps_asg (pe_slice uSl (pv 1) (po_some (pe_op uAdd pe_int (pe_op op_mul pe_int (pv 3)))) (po_some (pe_op uAdd pe_int (pe_op op_mul pe_int (pv 3))))) (pg_lst rfl (pgs_cons (pg_name (i := 4) (sc_Lrows.nd) rfl (Or.inl rfl)) (pgs_cons (pg_name (i := 5) (sc_Lrows.nd) rfl (Or.inl rfl)) (pgs_cons (pg_name (i := 6) (sc_Lrows.nd) rfl (Or.inl rfl)) (pgs_cons (pg_name (i := 7) (sc_Lrows.nd) rfl (Or.inl rfl)) pgs_nil))))))
        (pss_cons (ps_set (i := 8) sc_Lrows.nd rfl (Or.inl rfl) pe_int)
        (pss_cons (ps_if (pt_cmpR op_gt (pv 3) pe_int (nomark _))
          (pss_one (ps_set (i := 8) sc_Lrows.nd rfl (Or.inl rfl) (pe_op uAdd (pe_op uAdd (pe_ix (r := rIx K) ix_seq (pe_ix (r := rIx K) ix_seq (pv 2) (pe_un un_neg pe_int) (fun _ _ => rfl)) pe_int (fun _ _ => rfl)) pe_int) (pe_op op_mod (pv 5) (pe_ix (r := rIx K) ix_seq (pe_lst (pa_cons pe_int (pa_cons pe_int (pa_cons pe_int pa_nil)))) (pv 4) (fun _ _ => rfl))))))
          pss_nil)
        (pss_cons (ps_set (i := 9) sc_Lrows.nd rfl (Or.inl rfl) (pe_op op_sub (pv 7) pe_int))
        (pss_cons (ps_if (PW.pt (pw_and (pt_cmpR (uEq hU) (pv 6) pe_int (nomark _)) (pw_and (pt_cmpR op_gt (pv 3) pe_int (nomark _)) (pw_and1 (pt_cmpR (uNe hU) (pe_ix (r := rIx K) ix_seq (pv 1) pe_int (fun _ _ => rfl)) pe_int (nomark _))))))
          (pss_one (ps_set (i := 9) sc_Lrows.nd rfl (Or.inl rfl) (pe_ix (r := rIx K) ix_seq (pe_ix (r := rIx K) ix_seq (pv 2) (pe_un un_neg pe_int) (fun _ _ => rfl)) pe_int (fun _ _ => rfl))))
          pss_nil)
        (pss_cons (ps_if (pt_cmpR (uEq hU) (pv 6) pe_int (nomark _))
          (pss_one (ps_set (i := 9) sc_Lrows.nd rfl (Or.inl rfl) (pe_op op_sub (pe_op op_mod (pv 7) pe_int) pe_int)))
          pss_nil)
        (pss_cons (ps_if (pt_cmpR (uEq hU) (pv 6) pe_int (nomark _))
          (pss_one (ps_set (i := 9) sc_Lrows.nd rfl (Or.inl rfl) (pe_op op_mul (pe_op op_sub (pe_op op_mod (pv 7) pe_int) pe_int) pe_int)))
          pss_nil)
        (pss_one (ps_expr (pe_bm PySem.F.plainAttrs_list PySem.F.slot_list_append PySem.F.type_list_append mt_append (pv 2) (pa_cons (pe_tup (pa_cons (pv 8) (pa_cons (pv 9) pa_nil))) pa_nil))))))))))))
      (pss_cons (ps_if (PW.pt (pw_and (pt_cmpR (uEq hU) (pe_ix (r := rIx K) ix_seq (pv 1) pe_int (fun _ _ => rfl)) pe_int (nomark _)) (pw_and1 (pt_cmpR op_gt (pe_callB call_len (by rfl) T.n_len boot_len' (pa_cons (pv 2) pa_nil)) pe_int (nomark _)))))
        (pss_one (ps_asg (pe_tup (pa_cons (pe_op op_sub (pe_op op_pow pe_int pe_int) (pe_op op_mod (pe_ix (r := rIx K) ix_seq (pv 1) pe_int (fun _ _ => rfl)) pe_int)) (pa_cons (pe_ix (r := rIx K) ix_seq (pe_ix (r := rIx K) ix_seq (pv 2) (pe_un un_neg pe_int) (fun _ _ => rfl)) pe_int (fun _ _ => rfl)) pa_nil))) (pg_sub (pv 2) (pe_un un_neg pe_int) set_list)))
        pss_nil)
      (pss_one (ps_ret (pv 2))))))), ?_⟩
    try dsimp only [cxOf, Cx.nox]
    refine ⟨_, rfl, small60 (Nat.le_of_ble_eq_true rfl), fun l1 fl1 => ⟨small60 (Nat.le_of_ble_eq_true rfl), fun l2 fl2 => ?_⟩⟩
    refine ⟨l2, 21, _, rfl, rfl, upd_same, (by decide), (by decide), small60 (Nat.le_of_ble_eq_true rfl), fun l3 fl3 => ?_⟩
    have T1 := Same.new (.lst [.int 28, .int 4]) fl1
    have T2 := Same.new (.lst [.int 3, .int 47000000, .int 5, .int 5761]) fl2
    have T3 := Same.new (.lst (List.replicate (21 : Int).toNat [V.int 3, .int 47000000, .int 5, .int 5761]).flatten) fl3
    refine .inr (.inl ⟨l1, l3, _, _, rfl, rfl, T3 _ _ (T2 _ _ upd_same), upd_same, small60 (Nat.le_of_ble_eq_true rfl), fun l4 fl4 => ?_⟩)
    have T4 := Same.new (.lst ([.int 28, .int 4] ++ (List.replicate (21 : Int).toNat [V.int 3, .int 47000000, .int 5, .int 5761]).flatten)) fl4
    have SM4 := ((T1.trans T2).trans T3).trans T4
    refine ⟨c, l4, menus, rfl, (by rw [upd_same]; rfl), (by rw [menus_len]; decide), menus_ok, fun d ds G1 fd S1' hd ld hds => ?_⟩
    have S1 := SM4.trans S1'
    rw [menus_len] at ld
    have dat : ∀ j, j < 86 → ∃ x, ds[j]? = some x := fun j h => ⟨_, List.getElem?_eq_getElem (by omega)⟩
    obtain ⟨x0, ex0⟩ := dat 0 (by decide)
    obtain ⟨x1, ex1⟩ := dat 1 (by decide)
    obtain ⟨x3, ex3⟩ := dat 3 (by decide)
    have b0 := hds 0 x0 28 ex0 rfl
    have b1 := hds 1 x1 4 ex1 rfl
    have at0 : atI (ds.map V.int) 0 = some (.int x0) := atI_nat (j := 0) (by rw [List.getElem?_map, ex0]; rfl)
    have at1 : atI (ds.map V.int) 1 = some (.int x1) := atI_nat (j := 1) (by rw [List.getElem?_map, ex1]; rfl)
    have at3 : atI (ds.map V.int) 3 = some (.int x3) := atI_nat (j := 3) (by rw [List.getElem?_map, ex3]; rfl)
    refine ⟨small60 (Nat.le_of_ble_eq_true rfl), fun q fq => ?_⟩
    have S2 := S1.then (.lst []) fq
    have fqH : H q = none := S1.none fq
    have hd2 := Same.new (.lst []) fq _ _ hd
    have nqd : d ≠ q := ne_of_none hd fq
    have hq2 : (upd G1 q (.lst [])) q = some (.lst []) := upd_same
    have Sq := Same.new (.lst []) fq
    generalize upd G1 q (.lst []) = G2 at S2 hd2 hq2 Sq ⊢
    have hN : ∃ n : Int, (if 1 + x0 < 21 then 1 + x0 else 21) = n ∧ 1 ≤ n ∧ n ≤ 21 := ⟨_, rfl, by split <;> omega, by split <;> omega⟩
    obtain ⟨n, en, n1, n2⟩ := hN
    refine ⟨_, rfl, .inl ⟨d, _, _, _, rfl, rfl, SqL.of (hd2), at0, .inl ⟨_, _, rfl, rfl, _, _, rfl, n, congrArg (fun z => [V.int z]) en, by omega, by omega, ?_⟩⟩⟩
    refine for_range (lo := 0) (fun i σ H2 => ∃ (s3 s4 s5 s6 s7 s8 s9 : Option V) (zs : List V) (rows : List (Int × Int)), σ = [some (.int c), some (.ref d), some (.ref q), s3, s4, s5, s6, s7, s8, s9] ∧ Same G1 H2 ∧ H2 q = some (.lst zs) ∧ TupL pr H2 zs rows ∧ rows.length = i ∧ Par rows) ⟨none, none, none, none, none, none, none, [], [], rfl, Sq, hq2, .nil, rfl, .nil⟩ ?_ ?_
    · rintro i σ H2 hi ⟨s3, s4, s5, s6, s7, s8, s9, zs, rows, rfl, S, hq, tz, lr, par⟩
      have hi21 : i < 21 := by have : i < n.toNat := hi; omega
      obtain ⟨wy, sp, kd, nu, ec, e1, e2, e3, e4⟩ := cut4 (ds := ds) (j := 2 + 4 * i) (by omega) (2 + 4 * (0 + (i : Int))) (6 + 4 * (0 + (i : Int))) (by omega) (by omega)
      obtain ⟨m1, m2, m3, m4⟩ := menus_4 ⟨i, hi21⟩
      have bw := hds _ _ _ e1 m1
      have bs := hds _ _ _ e2 m2
      have bk := hds _ _ _ e3 m3
      have bn := hds _ _ _ e4 m4
      refine ⟨_, rfl, _, rfl, _, _, rfl, rfl, .inl ⟨by decide, by decide⟩, .inl ⟨_, _, rfl, rfl, _, rfl, _, rfl, _, _, rfl, rfl, .inl ⟨by decide, by decide⟩, .inl ⟨_, _, rfl, rfl, _, rfl, .inl ⟨d, _, rfl, SqL.of (S _ _ hd), fun sl fsl => ?_⟩⟩⟩⟩
      have hsl : (upd H2 sl (.lst (cutV (ds.map V.int) (some (2 + 4 * (0 + (i : Int)))) (some (6 + 4 * (0 + (i : Int))))))) sl = some (.lst [.int wy, .int sp, .int kd, .int nu]) := by rw [upd_same, ec]
      have Ss := Same.new (.lst (cutV (ds.map V.int) (some (2 + 4 * (0 + (i : Int)))) (some (6 + 4 * (0 + (i : Int)))))) fsl
      refine ⟨sl, _, rfl, SqL.of hsl, rfl, _, _, rfl, _, _, rfl, _, _, rfl, _, _, rfl, rfl, ?_⟩
      clear hsl
      have S3 := S.trans Ss
      have hq3 := Ss _ _ hq
      have tz3 := tz.same Ss
      dsimp only
      refine seq_split (t := tAsg _ _) (fun σ' H' => σ' = [some (.int c), some (.ref d), some (.ref q), some (.int (0 + (i : Int))), some (.int wy), some (.int sp), some (.int kd), some (.int nu), some (.int 0), s9] ∧ H' = upd H2 sl (.lst (cutV (ds.map V.int) (some (2 + 4 * (0 + (i : Int)))) (some (6 + 4 * (0 + (i : Int))))))) (fun N hN => hN _ _ ⟨rfl, rfl⟩) ?_
      rintro _ G3' ⟨rfl, eG3⟩
      rw [← eG3] at S3 hq3 tz3
      clear eG3
      have last : 0 < i → ∃ l t0, rows.getLast? = some l ∧ zs.getLast? = some (.ref t0) ∧ G3' t0 = some (.tup (pr l)) := fun h => by
        cases el : rows.getLast? with
        | none =>
          rw [List.getLast?_eq_none_iff.mp el] at lr
          simp at lr; omega
        | some l =>
          obtain ⟨t0, hz0, ht0⟩ := TupL.last tz3 el
          exact ⟨l, t0, rfl, hz0, ht0⟩
      refine seq_split (t := tIfS _ _ _) (fun σ' H' => ∃ mo : Int, σ' = [some (.int c), some (.ref d), some (.ref q), some (.int (0 + (i : Int))), some (.int wy), some (.int sp), some (.int kd), some (.int nu), some (.int mo), s9] ∧ Same G3' H' ∧ (rows = [] → mo = 0) ∧ ∀ l, rows.getLast? = some l → l.1 < mo ∧ mo ≤ l.1 + 47000000) (fun N hN => ?_) ?_
      · refine ⟨_, rfl, _, _, rfl, rfl, _, rfl, ?_⟩
        refine iteD (fun g => ?_) (fun g => ?_)
        · have gi : 0 < i := by
            have : (0 : Int) < 0 + (i : Int) := g
            omega
          obtain ⟨l, t0, el, hz0, ht0⟩ := last gi
          refine ⟨_, rfl, _, rfl, .inl ⟨q, _, _, _, rfl, rfl, SqL.of hq3, atI_last hz0, .inr (.inl ⟨t0, _, _, _, rfl, rfl, SqT.of ht0, rfl, .inl ⟨_, _, rfl, rfl, _, rfl, small60 (Nat.le_of_ble_eq_true rfl), fun l5 fl5 => ⟨_, rfl, ?_⟩⟩⟩)⟩⟩
          refine rIx_bd 5 47000000 upd_same bw.1 bw.2 rfl (fun nn n5 n6 => ⟨_, _, rfl, rfl, (by omega), .inl ⟨_, _, rfl, rfl, ?_⟩⟩)
          have h1 := Int.emod_nonneg sp (show nn ≠ 0 by omega)
          have h2 := Int.emod_lt_of_pos sp (show 0 < nn by omega)
          refine hN _ _ ⟨_, rfl, Same.new _ fl5, (fun z => by rw [z] at el; cases el), fun l' el' => ?_⟩
          rw [el] at el'
          cases el'
          omega
        · have gi : i = 0 := by
            have : ¬ (0 : Int) < 0 + (i : Int) := g
            omega
          have r0 : rows = [] := List.eq_nil_of_length_eq_zero (lr.trans gi)
          exact hN _ _ ⟨0, rfl, Same.refl _, fun _ => rfl, fun l el => by rw [r0] at el; cases el⟩
      rintro _ G4 ⟨mo, rfl, S4, mo0, mo1⟩
      have hq4 := S4 _ _ hq3
      have tz4 := tz3.same S4
      have hd4 := S4 _ _ (S3 _ _ hd)
      refine seq_split (t := tAsg _ _) (fun σ' H' => ∃ sh : Int, -2880 ≤ sh ∧ sh ≤ 2880 ∧ σ' = [some (.int c), some (.ref d), some (.ref q), some (.int (0 + (i : Int))), some (.int wy), some (.int sp), some (.int kd), some (.int nu), some (.int mo), some (.int sh)] ∧ G4 = H') (fun N hN => ⟨_, rfl, _, _, rfl, rfl, hN _ _ ⟨nu - 2880, by omega, by omega, rfl, rfl⟩⟩) ?_
      rintro _ _ ⟨sh1, h1a, h1b, rfl, rfl⟩
      refine seq_split (t := tIfS _ _ _) (fun σ' H' => ∃ sh : Int, -2880 ≤ sh ∧ sh ≤ 2880 ∧ σ' = [some (.int c), some (.ref d), some (.ref q), some (.int (0 + (i : Int))), some (.int wy), some (.int sp), some (.int kd), some (.int nu), some (.int mo), some (.int sh)] ∧ G4 = H') (fun N hN => ?_) ?_
      · refine ⟨_, rfl, .inl ⟨rfl, _, rfl, iteD (fun g1 => ?_) (fun g1 => iteF (hN _ _ ⟨sh1, h1a, h1b, rfl, rfl⟩))⟩⟩
        refine ⟨_, rfl, _, _, rfl, rfl, _, rfl, iteD (fun g2 => ?_) (fun g2 => iteF (hN _ _ ⟨sh1, h1a, h1b, rfl, rfl⟩))⟩
        refine ⟨_, rfl, .inl ⟨d, _, _, _, rfl, rfl, SqL.of (hd4), at1, .inl ⟨rfl, _, rfl, iteND (fun g3 => ?_) (fun g3 => hN _ _ ⟨sh1, h1a, h1b, rfl, rfl⟩)⟩⟩⟩
        have gi : 0 < i := by
          have : (0 : Int) < 0 + (i : Int) := g2
          omega
        obtain ⟨l, t0, el, hz0, ht0⟩ := last gi
        have okl := par.ok l (List.mem_of_getLast? el)
        exact ⟨_, rfl, _, rfl, .inl ⟨q, _, _, _, rfl, rfl, SqL.of hq4, atI_last hz0, .inr (.inl ⟨t0, _, _, _, rfl, rfl, SqT.of (S4 _ _ ht0), rfl, hN _ _ ⟨l.2, okl.2.2.1, okl.2.2.2, rfl, rfl⟩⟩)⟩⟩
      rintro _ _ ⟨sh2, h2a, h2b, rfl, rfl⟩
      refine seq_split (t := tIfS _ _ _) (fun σ' H' => ∃ sh : Int, -2880 ≤ sh ∧ sh ≤ 2880 ∧ σ' = [some (.int c), some (.ref d), some (.ref q), some (.int (0 + (i : Int))), some (.int wy), some (.int sp), some (.int kd), some (.int nu), some (.int mo), some (.int sh)] ∧ G4 = H') (fun N hN => ?_) ?_
      · exact ⟨_, rfl, .inl ⟨rfl, _, rfl, iteD (fun g1 => ⟨_, rfl, _, _, rfl, rfl, (by show (0 : Int) < _; decide), _, _, rfl, rfl, hN _ _ ⟨nu % 9 - 4, by omega, by omega, rfl, rfl⟩⟩) (fun g1 => hN _ _ ⟨sh2, h2a, h2b, rfl, rfl⟩)⟩⟩
      rintro _ _ ⟨sh3, h3a, h3b, rfl, rfl⟩
      refine seq_split (t := tIfS _ _ _) (fun σ' H' => ∃ sh : Int, -2880 ≤ sh ∧ sh ≤ 2880 ∧ σ' = [some (.int c), some (.ref d), some (.ref q), some (.int (0 + (i : Int))), some (.int wy), some (.int sp), some (.int kd), some (.int nu), some (.int mo), some (.int sh)] ∧ G4 = H') (fun N hN => ?_) ?_
      · exact ⟨_, rfl, .inl ⟨rfl, _, rfl, iteD (fun g1 => ⟨_, rfl, _, _, rfl, rfl, (by show (0 : Int) < _; decide), _, _, rfl, rfl, _, _, rfl, rfl, .inr ⟨by decide, by decide⟩, hN _ _ ⟨(nu % 7 - 3) * 60, by omega, by omega, rfl, rfl⟩⟩) (fun g1 => hN _ _ ⟨sh3, h3a, h3b, rfl, rfl⟩)⟩⟩
      rintro _ _ ⟨sh, ha, hb, rfl, rfl⟩
      refine ⟨_, rfl, .inl ⟨rfl, _, SqL.of hq4⟩, _, rfl, _, rfl, small60 (Nat.le_of_ble_eq_true rfl), fun tt ft => ?_⟩
      have St := Same.new (.tup [.int mo, .int sh]) ft
      have hq5 := St _ _ hq4
      refine ⟨q, _, _, rfl, rfl, hq5, small1000 (by rw [tz.1]; omega), ?_⟩
      exact ⟨_, _, _, _, _, _, _, zs ++ [.ref tt], rows ++ [(mo, sh)], rfl, ((S3.trans S4).trans St).put fq _, upd_same, ((tz4.same St).snoc (p := (mo, sh)) upd_same).put hq5, by rw [List.length_append, lr]; rfl, par.snoc mo0 mo1 ha hb⟩
    · rintro σ G5 ⟨s3, s4, s5, s6, s7, s8, s9, zs, rows, rfl, S, hq, tz, lr, par⟩
      have SH := S1.trans S
      have hd5 := S _ _ hd
      dsimp only
      refine seq_split (t := tIfS _ _ _) (fun σ' H' => ∃ rows' : List (Int × Int), σ' = [some (.int c), some (.ref d), some (.ref q), s3, s4, s5, s6, s7, s8, s9] ∧ Same H H' ∧ Rs H' q rows' ∧ Good rows') (fun N hN => ?_) ?_
      · have no : N _ G5 := hN [some (.int c), some (.ref d), some (.ref q), s3, s4, s5, s6, s7, s8, s9] G5 ⟨rows, rfl, SH, ⟨zs, hq, tz⟩, par.good (by omega) (by omega)⟩
        refine ⟨_, rfl, .inl ⟨d, _, _, _, rfl, rfl, SqL.of (hd5), at1, .inl ⟨rfl, _, rfl, iteD (fun g1 => ?_) (fun g1 => iteF no)⟩⟩⟩
        refine ⟨_, rfl, _, _, rfl, .inl ⟨_, SqL.of hq, rfl⟩, _, _, rfl, rfl, _, rfl, iteD (fun g2 => ?_) (fun g2 => no)⟩
        have g3 : 1 < rows.length := by
          have : (1 : Int) < (zs.length : Int) := g2
          rw [tz.1] at this
          omega
        cases el : rows.getLast? with
        | none =>
          rw [List.getLast?_eq_none_iff.mp el] at g3
          simp at g3
        | some l =>
          obtain ⟨t0, hz0, ht0⟩ := TupL.last tz el
          refine ⟨_, _, rfl, rfl, ⟨by decide, by decide, by decide⟩, _, rfl, .inl ⟨d, _, _, _, rfl, rfl, SqL.of (hd5), at3, _, _, rfl, rfl, (by show (0 : Int) < _; decide), _, _, rfl, rfl, _, rfl, _, rfl, .inl ⟨q, _, _, _, rfl, rfl, SqL.of hq, atI_last hz0, .inr (.inl ⟨t0, _, _, _, rfl, rfl, SqT.of ht0, rfl, small60 (Nat.le_of_ble_eq_true rfl), fun tt ft => ?_⟩)⟩⟩⟩
          have St := Same.new (.tup [.int (10 ^ (9 : Int).toNat - x3 % 3), .int l.2]) ft
          refine ⟨_, rfl, _, rfl, q, _, _, zs.length - 1, rfl, rfl, St _ _ hq, ixN_last (by rw [tz.1]; omega), ?_⟩
          refine hN _ _ ⟨_, rfl, (SH.trans St).put fqH _, ⟨_, upd_same, (TupL.set (tz.same St) (i := zs.length - 1) (p := (10 ^ (9 : Int).toNat - x3 % 3, l.2)) upd_same).put (St _ _ hq)⟩, ?_⟩
          rw [tz.1]
          have e9 : (10 : Int) ^ (9 : Int).toNat = 1000000000 := by decide
          refine par.far g3 (by omega) el ?_ ?_
          · rw [e9]; omega
          · rw [e9]; omega
      rintro _ G6 ⟨rows', rfl, S6, R6, good6⟩
      exact ⟨_, rfl, kk q rows' G6 fqH S6 R6 good6⟩
end
end K28
set_option Elab.async false
set_option linter.all false
set_option maxRecDepth 100000
namespace K28
open PySem L2 PySem.NumText PyProof.Rows KC
section
variable {P : Program} {w : World} {K : PySem.W.Frag} {mg : Str → Option Value} {base : Heap}
theorem ok_Lnumber_at {a : Ad} (T : Txt K mg a) : FnOk P w K mg base CX0 1 a.f_Lnumber_at a.fd_Lnumber_at ["_law_rows_here", "_law_moment_here"] sp_Lnumber_at := by
  refine T.d_Lnumber_at.F.ok sc_Lnumber_at (fun vs H Q E h => ?_) (fun cdv A outer s H vs Q E hr h => ?_)
  · obtain ⟨q, t, r, rs, rfl, ⟨zs, hq, tp⟩, kk⟩ := h
    rfl
  · obtain ⟨q, t, r, rs, rfl, ⟨zs, hq, tp⟩, kk⟩ := h
    have hu := hu_of hr
    have hU := hr.units
    refine ⟨_, (pss_cons (ps_set (i := 2) sc_Lnumber_at.nd rfl (Or.inl rfl) (pe_ix (r := rIx K) ix_seq (pe_ix (r := rIx K) ix_seq (pv 0) pe_int (fun _ _ => rfl)) pe_int (fun _ _ => rfl)))
      (pss_cons (ps_for PassesOwn.never rfl (pi_list (pv 0)) (pg_name (i := 3) (sc_Lnumber_at.nd) rfl (Or.inl rfl))
        (pss_one (ps_if (pt_cmpR op_le (pe_ix (r := rIx K) ix_seq (pv 3) pe_int (fun _ _ => rfl)) (pv 1) (nomark _))
          (pss_one (ps_set (i := 2) sc_Lnumber_at.nd rfl (Or.inl rfl) (pe_ix (r := rIx K) ix_seq (pv 3) pe_int (fun _ _ => rfl))))
          pss_nil)))
      (pss_one (ps_ret (pv 2))))), ?_⟩
    try dsimp only [cxOf, Cx.nox]
    obtain ⟨t0, hz0, ht0⟩ := tp.at_ (show (r :: rs)[0]? = some r from rfl)
    refine ⟨_, rfl, .inl ⟨q, _, _, _, rfl, rfl, SqL.of hq, atI_nat (j := 0) hz0, .inr (.inl ⟨t0, _, _, _, rfl, rfl, SqT.of ht0, rfl, ?_⟩)⟩⟩
    refine ⟨_, rfl, q, rfl, ⟨_, SqL.of hq⟩, for_list (K := K) (a := q) (xs := zs) (fun i σ H2 => ∃ (f : Int) (s3 : Option V), σ = [some (.ref q), some (.int t), some (.int f), s3] ∧ H = H2 ∧ lna r.2 t (r :: rs) = lna f t ((r :: rs).drop i)) ⟨r.2, none, rfl, rfl, rfl⟩ (fun i σ H2 _ ⟨_, _, _, e, _⟩ => e ▸ SqL.of hq) ?_ ?_⟩
    · rintro i x σ H2 hx ⟨f, s3, rfl, rfl, hs⟩
      obtain ⟨p, u, hp, rfl, hu'⟩ := tp.of hx
      have hi := (List.getElem?_eq_some_iff.mp hp).1
      have ed : (r :: rs).drop i = p :: (r :: rs).drop (i + 1) := by
        rw [List.drop_eq_getElem_cons hi]
        congr 1
        rw [List.getElem?_eq_getElem hi] at hp
        exact Option.some.inj hp
      rw [ed] at hs
      refine ⟨_, rfl, .inr (.inl ⟨u, _, _, _, rfl, rfl, SqT.of hu', rfl, _, rfl, _, _, rfl, rfl, _, rfl, iteD (fun g => ?_) (fun g => ?_)⟩)⟩
      · refine ⟨_, rfl, .inr (.inl ⟨u, _, _, _, rfl, rfl, SqT.of hu', rfl, ?_⟩)⟩
        refine ⟨p.2, _, rfl, rfl, ?_⟩
        rw [hs]
        show lna (if p.1 ≤ t then p.2 else f) t _ = _
        rw [if_pos g]
      · refine ⟨f, _, rfl, rfl, ?_⟩
        rw [hs]
        show lna (if p.1 ≤ t then p.2 else f) t _ = _
        rw [if_neg g]
    · rintro σ H2 ⟨f, s3, rfl, rfl, hs⟩
      rw [tp.1, List.drop_length] at hs
      rw [hs] at kk
      exact ⟨_, rfl, kk⟩
theorem ok_Ltold {a : Ad} (T : Txt K mg a) : FnOk P w K mg base CX0 2 a.f_Ltold a.fd_Ltold ["_law_found", "_law_due"] sp_Ltold := by
  have G_Lwhole : FnOk P w K mg base CX0 1 a.f_Lwhole a.fd_Lwhole ["_law_found"] sp_Lwhole := ok_Lwhole T
  refine T.d_Ltold.F.ok sc_Ltold (fun vs H Q E h => ?_) (fun cdv A outer s H vs Q E hr h => ?_)
  · obtain ⟨f, d, rows, few, rfl, ⟨zs, hf, tf⟩, ⟨ys, hd, td⟩, kk⟩ := h
    rfl
  · obtain ⟨f, d, rows, few, rfl, ⟨zs, hf, tf⟩, ⟨ys, hd, td⟩, kk⟩ := h
    have hu := hu_of hr
    have hU := hr.units
    have h_Lwhole : Room (1) _ := hr.mono (by decide)
    refine ⟨_, (pss_cons (ps_if (PW.pt (pw_or (pt_not (pt_val (pe_callB call_isi (by rfl) T.n_isinstance boot_isinstance' (pa_cons (pv 0) (pa_cons (pe_bltn (v := .ty "list") rfl T.n_list boot_list' rfl) pa_nil))))) (pw_or1 (pt_cmpR (uNe hU) (pe_callB call_len (by rfl) T.n_len boot_len' (pa_cons (pv 0) pa_nil)) (pe_callB call_len (by rfl) T.n_len boot_len' (pa_cons (pv 1) pa_nil)) (nomark _)))))
        (pss_one (ps_ret pe_bl))
        pss_nil)
      (pss_cons (ps_for PassesOwn.never rfl (pi_zip rfl T.n_zip (pa_cons (pv 0) (pa_cons (pv 1) pa_nil))) (pg_tup rfl (pgs_cons (pg_name (i := 2) (sc_Ltold.nd) rfl (Or.inl rfl)) (pgs_cons (pg_name (i := 3) (sc_Ltold.nd) rfl (Or.inl rfl)) pgs_nil)))
        (pss_cons (ps_if (PW.pt (pw_or (pt_not (pt_val (pe_callB call_isi (by rfl) T.n_isinstance boot_isinstance' (pa_cons (pv 2) (pa_cons (pe_bltn (v := .ty "tuple") rfl T.n_tuple boot_tuple' rfl) pa_nil))))) (pw_or1 (pt_cmpR (uNe hU) (pe_callB call_len (by rfl) T.n_len boot_len' (pa_cons (pv 2) pa_nil)) (pe_callB call_len (by rfl) T.n_len boot_len' (pa_cons (pv 3) pa_nil)) (nomark _)))))
          (pss_one (ps_ret pe_bl))
          pss_nil)
        (pss_one (ps_for PassesOwn.never rfl (pi_range1 rfl T.n_range (pa_cons (pe_callB call_len (by rfl) T.n_len boot_len' (pa_cons (pv 3) pa_nil)) pa_nil)) (pg_name (i := 4) (sc_Ltold.nd) rfl (Or.inl rfl))
          (pss_one (ps_if (PW.pt (pw_or (pt_not (pt_val (pe_call G_Lwhole h_Lwhole rfl T.d_Lwhole.m T.d_Lwhole.k T.d_Lwhole.b .nil pass0 (pa_cons (pe_ix (r := rIx K) ix_seq (pv 2) (pv 4) (fun _ _ => rfl)) pa_nil)))) (pw_or1 (pt_cmpR (uNe hU) (pe_ix (r := rIx K) ix_seq (pv 2) (pv 4) (fun _ _ => rfl)) (pe_ix (r := rIx K) ix_seq (pv 3) (pv 4) (fun _ _ => rfl)) (nomark _)))))
            (pss_one (ps_ret pe_bl))
            pss_nil))))))
      (pss_one (ps_ret pe_bl)))), ?_⟩
    try dsimp only [cxOf, Cx.nox]
    refine ⟨_, rfl, _, _, _, rfl, (by decide), tyK (t := false) hf, _, rfl, iteFF rfl ?_⟩
    refine ⟨_, rfl, _, _, rfl, .inl ⟨_, SqL.of hf, rfl⟩, _, rfl, _, _, rfl, .inl ⟨_, SqL.of hd, rfl⟩, .inl ⟨rfl, _, rfl, iteND (fun g => absurd (by rw [tf.1, td.1]) g) (fun _ => ?_)⟩⟩
    refine ⟨_, rfl, _, rfl, false, f, d, rfl, ⟨_, SqL.of hf⟩, ⟨_, SqL.of hd⟩, for_zip (K := K) (t := false) (a := f) (b := d) (xs := zs) (ys := ys) (fun i σ H2 => ∃ s2 s3 s4 : Option V, σ = [some (.ref f), some (.ref d), s2, s3, s4] ∧ Same H H2) (by rw [tf.1, td.1]) ⟨none, none, none, rfl, Same.refl _⟩ (fun i σ H2 _ ⟨_, _, _, _, S⟩ => ⟨SqL.of (S _ _ hf), SqL.of (S _ _ hd)⟩) ?_ ?_⟩
    · rintro i x y σ H2 p hx hy ⟨s2, s3, s4, rfl, S⟩ hn
      obtain ⟨r, u, er, rfl, hu'⟩ := tf.of hx
      obtain ⟨r', v, er', rfl, hv'⟩ := td.of hy
      rw [er] at er'
      cases er'
      have S2 : Same H (upd H2 p (.tup [.ref u, .ref v])) := S.then _ hn
      have hu2 := S2 _ _ hu'
      have hv2 := S2 _ _ hv'
      refine ⟨p, _, rfl, SqT.of upd_same, rfl, _, _, rfl, _, _, rfl, rfl, ?_⟩
      refine ⟨_, rfl, _, _, _, rfl, (by decide), tyK (t := true) hu2, _, rfl, iteFF rfl ?_⟩
      refine ⟨_, rfl, _, _, rfl, .inr ⟨_, SqT.of hu2, rfl⟩, _, rfl, _, _, rfl, .inr ⟨_, SqT.of hv2, rfl⟩, .inl ⟨rfl, _, rfl, iteND (fun g => absurd rfl g) (fun _ => ?_)⟩⟩
      refine ⟨_, rfl, _, _, rfl, .inr ⟨_, SqT.of hv2, rfl⟩, _, rfl, (by show -2 ^ 62 ≤ (2 : Int); decide), (by show (2 : Int) < 2 ^ 62; decide), ?_⟩
      generalize upd H2 p (.tup [.ref u, .ref v]) = G2 at S2 hu2 hv2 ⊢
      refine for_range (lo := 0) (n := 2) (fun j σ H3 => ∃ s4 : Option V, σ = [some (.ref f), some (.ref d), some (.ref u), some (.ref v), s4] ∧ G2 = H3) ⟨_, rfl, rfl⟩ ?_ ?_
      · rintro j σ H3 hj ⟨c4, rfl, rfl⟩
        obtain ⟨k, hk⟩ : ∃ k, (g2 r)[j]? = some k := ⟨_, List.getElem?_eq_getElem hj⟩
        have atk : atI (pr r) (0 + (j : Int)) = some (.int k) := by rw [Int.zero_add]; exact atI_nat (by show ((g2 r).map V.int)[j]? = _; rw [List.getElem?_map, hk]; rfl)
        refine ⟨_, rfl, _, rfl, .inr (.inl ⟨u, _, _, _, rfl, rfl, SqT.of hu2, atk, k, rfl, _, rfl, iteFF rfl ?_⟩)⟩
        refine ⟨_, rfl, _, rfl, .inr (.inl ⟨u, _, _, _, rfl, rfl, SqT.of hu2, atk, _, rfl, _, rfl, .inr (.inl ⟨v, _, _, _, rfl, rfl, SqT.of hv2, atk, .inl ⟨rfl, _, rfl, iteND (fun g => absurd rfl g) (fun _ => ?_)⟩⟩)⟩)⟩
        exact ⟨_, rfl, rfl⟩
      · rintro σ H3 ⟨c4, rfl, rfl⟩
        exact ⟨_, _, _, rfl, S2⟩
    · rintro σ H2 ⟨s2, s3, s4, rfl, S⟩
      exact kk H2 S
theorem ok_Lmoment {a : Ad} (T : Txt K mg a) : FnOk P w K mg base CX0 1 a.f_Lmoment a.fd_Lmoment ["_law_rows_here", "_law_cell"] sp_Lmoment := by
  refine T.d_Lmoment.F.ok sc_Lmoment (fun vs H Q E h => ?_) (fun cdv A outer s H vs Q E hr h => ?_)
  · obtain ⟨q, c, rows, rfl, ⟨zs, hq, tp⟩, good, kk⟩ := h
    rfl
  · obtain ⟨q, c, rows, rfl, ⟨zs, hq, tp⟩, good, kk⟩ := h
    have hu := hu_of hr
    have hU := hr.units
    refine ⟨_, (pss_cons (ps_if (pt_cmpR (uEq hU) (pe_op op_mod (pv 1) pe_int) pe_int (nomark _))
        (pss_one (ps_ret (pe_op op_mod (pe_op op_fdiv (pv 1) pe_int) (pe_op uAdd (pe_op op_pow pe_int pe_int) pe_int))))
        pss_nil)
      (pss_cons (ps_set (i := 2) sc_Lmoment.nd rfl (Or.inl rfl) (pe_op op_sub (pe_op uAdd (pe_ix (r := rIx K) ix_seq (pe_ix (r := rIx K) ix_seq (pv 0) (pe_op op_mod (pe_op op_fdiv (pv 1) pe_int) (pe_callB call_len (by rfl) T.n_len boot_len' (pa_cons (pv 0) pa_nil))) (fun _ _ => rfl)) pe_int (fun _ _ => rfl)) (pe_op op_mod (pe_op op_fdiv (pv 1) pe_int) pe_int)) pe_int))
      (pss_one (ps_ret (pe_callB (call_min2 rfl) (by rfl) T.n_min boot_min' (pa_cons (pe_op op_pow pe_int pe_int) (pa_cons (pe_callB (call_max2 rfl) (by rfl) T.n_max boot_max' (pa_cons pe_int (pa_cons (pv 2) pa_nil))) pa_nil))))))), ?_⟩
    try dsimp only [cxOf, Cx.nox]
    have e9 : (10 : Int) ^ (9 : Int).toNat = 1000000000 := by decide
    have pos := good.ne
    refine ⟨_, rfl, _, _, rfl, rfl, (by show (0 : Int) < _; decide), .inl ⟨rfl, _, rfl, iteD (fun g => ?_) (fun g => ?_)⟩⟩
    · refine ⟨_, rfl, _, _, rfl, rfl, ⟨by decide, by decide⟩, _, _, rfl, rfl, ⟨by decide, by decide, by decide⟩, .inl ⟨_, _, rfl, rfl, _, _, rfl, rfl, (by show (0 : Int) < _; rw [e9]; decide), ?_⟩⟩
      have h1 := Int.emod_nonneg (c / 3) (show (10 : Int) ^ (9 : Int).toNat + 1 ≠ 0 by decide)
      have h2 := Int.emod_lt_of_pos (c / 3) (show (0 : Int) < 10 ^ (9 : Int).toNat + 1 by decide)
      exact kk _ h1 (by rw [e9] at h2 ⊢; omega)
    · have h1 := Int.emod_nonneg (c / 3) (show (zs.length : Int) ≠ 0 by rw [tp.1]; omega)
      have h2 := Int.emod_lt_of_pos (c / 3) (show (0 : Int) < (zs.length : Int) by rw [tp.1]; omega)
      obtain ⟨j, hj⟩ := Int.eq_ofNat_of_zero_le h1
      have hj2 : j < rows.length := by rw [← tp.1]; omega
      obtain ⟨r, hr'⟩ : ∃ r, rows[j]? = some r := ⟨_, List.getElem?_eq_getElem hj2⟩
      obtain ⟨t, hz, ht⟩ := tp.at_ hr'
      have at_ : atI zs (c / 3 % (zs.length : Int)) = some (.ref t) := by rw [hj]; exact atI_nat hz
      refine ⟨_, rfl, _, rfl, _, _, rfl, rfl, ⟨by decide, by decide⟩, _, rfl, _, _, rfl, .inl ⟨_, SqL.of hq, rfl⟩, _, _, rfl, rfl, (by rw [tp.1]; omega), .inl ⟨q, _, _, _, rfl, rfl, SqL.of hq, at_, .inr (.inl ⟨t, _, _, _, rfl, rfl, SqT.of ht, rfl, _, rfl, _, _, rfl, rfl, ⟨by decide, by decide⟩, _, _, rfl, rfl, (by show (0 : Int) < _; decide), .inl ⟨_, _, rfl, rfl, _, _, rfl, rfl, ?_⟩⟩)⟩⟩
      refine ⟨_, _, rfl, rfl, ⟨by decide, by decide, by decide⟩, _, rfl, _, _, rfl, _, _, rfl, ?_⟩
      refine kk _ ?_ ?_
      · rw [e9]; (repeat' split) <;> omega
      · rw [e9]; (repeat' split) <;> omega
end
end K28
set_option Elab.async false
set_option linter.all false
set_option maxRecDepth 100000
namespace K28
open PySem L2 PySem.NumText PyProof.Rows KC
section
variable {P : Program} {w : World} {K : PySem.W.Frag} {mg : Str → Option Value} {base : Heap}
end
theorem bef_snoc (ws : List (Int × Int)) (r : Int × Int) (t : Int) : bef (ws ++ [r]) t = bef ws t ++ (if r.1 < t then [r] else []) := by
  unfold bef
  rw [List.filter_append]
  by_cases h : r.1 < t
  · rw [if_pos h]; simp [h]
  · rw [if_neg h]; simp [h]
theorem aft_snoc (ws : List (Int × Int)) (r : Int × Int) (t : Int) : aft (ws ++ [r]) t = aft ws t ++ (if r.1 > t then [r] else []) := by
  unfold aft
  rw [List.filter_append]
  by_cases h : r.1 > t
  · rw [if_pos h]; simp [h]
  · rw [if_neg h]; simp [h]
theorem bef_len (ws : List (Int × Int)) (t : Int) : (bef ws t).length ≤ ws.length := List.length_filter_le _ _
theorem aft_len (ws : List (Int × Int)) (t : Int) : (aft ws t).length ≤ ws.length := List.length_filter_le _ _
theorem tup_app {H : Hp} {zs ys : List V} {ws us : List (Int × Int)} (h : TupL pr H zs ws) (k : TupL pr H ys us) : TupL pr H (zs ++ ys) (ws ++ us) := by
  refine ⟨by rw [List.length_append, List.length_append, h.1, k.1], fun i z p e1 e2 => ?_⟩
  by_cases hi : i < zs.length
  · rw [List.getElem?_append_left hi] at e1
    rw [List.getElem?_append_left (by rw [← h.1]; exact hi)] at e2
    exact h.2 i z p e1 e2
  · rw [List.getElem?_append_right (by omega)] at e1
    rw [List.getElem?_append_right (by rw [← h.1]; omega), ← h.1] at e2
    exact k.2 _ z p e1 e2
theorem bg_app {rows others : List (Int × Int)} {t : Int} : t ∈ ((rows ++ others).map fun r => r.1) ↔ Bg rows others t := by
  rw [List.mem_map]
  constructor
  · rintro ⟨r, m, e⟩; exact ⟨r, List.mem_append.mp m, e⟩
  · rintro ⟨r, m, e⟩; exact ⟨r, List.mem_append.mpr m, e⟩
theorem bg_pos {rows others : List (Int × Int)} (g : Good rows) (go : Good others) {t : Int} (h : Bg rows others t) : 0 ≤ t := by
  obtain ⟨r, m, e⟩ := h
  rcases m with m | m
  · have := (g.ok r m).1; omega
  · have := (go.ok r m).1; omega
theorem bg_ngr {rows others : List (Int × Int)} {t : Int} : Bg (ngr rows) others t ↔ Bg rows others t := by
  constructor
  · rintro ⟨r, m, e⟩
    rcases m with m | m
    · obtain ⟨p, pm, rfl⟩ := List.mem_map.mp m
      exact ⟨p, .inl pm, e⟩
    · exact ⟨r, .inr m, e⟩
  · rintro ⟨r, m, e⟩
    rcases m with m | m
    · exact ⟨(r.1, -r.2), .inl (List.mem_map.mpr ⟨r, m, rfl⟩), e⟩
    · exact ⟨r, .inr m, e⟩
theorem sums_snoc (r1 r2 : List (Int × Int)) (ms : List Int) (t : Int) : sums r1 r2 (ms ++ [t]) = sums r1 r2 ms ++ [(t, (na r1 t).getD 0 + (na r2 t).getD 0)] := by unfold sums; rw [List.map_append]; rfl
theorem take_at' {α : Type} {xs : List α} {i : Nat} {c : α} (h : xs[i]? = some c) : xs.take (i + 1) = xs.take i ++ [c] := by rw [List.take_add_one, h]; rfl
theorem find_sums {rows others : List (Int × Int)} {ms : List Int} (g : Good rows) (go : Good others) (hm : ∀ t, t ∈ ms ↔ Bg rows others t) (up : ms.Pairwise (· < ·)) : Fu rows others ((sr [] (sums (ngr rows) others ms)).find? nz |>.map (·.1)) := by
  rw [sr_find _ [] (fun _ z => nomatch z)]
  have e : ((sums (ngr rows) others ms).find? nz).map (·.1) = ms.find? fun t => decide (na rows t ≠ na others t) := by
    unfold sums
    rw [List.find?_map, Option.map_map]
    have : ((fun x => x.1) ∘ fun t => (t, (na (ngr rows) t).getD 0 + (na others t).getD 0)) = (id : Int → Int) := rfl
    rw [this, Option.map_id]
    show ms.find? _ = _
    have h0 : ∀ t ∈ ms, (nz ∘ fun t => (t, (na (ngr rows) t).getD 0 + (na others t).getD 0)) t = decide (na rows t ≠ na others t) := fun t mt => by
      have t0 := bg_pos g go ((hm t).mp mt)
      have e1 := na_ok g t0
      have e2 := na_ok go t0
      show decide ((na (ngr rows) t).getD 0 + (na others t).getD 0 ≠ 0) = _
      rw [na_ngr, e1, e2]
      show decide (-(na rows t).getD 0 + (na others t).getD 0 ≠ 0) = decide (some ((na rows t).getD 0) ≠ some ((na others t).getD 0))
      generalize (na rows t).getD 0 = x
      generalize (na others t).getD 0 = y
      by_cases c : x = y
      · subst c; simp; omega
      · rw [decide_eq_true (show -x + y ≠ 0 by omega), decide_eq_true (show (some x : Option Int) ≠ some y from fun z => c (Option.some.inj z))]
    clear hm up
    induction ms with
    | nil => rfl
    | cons t ts ih =>
      rw [List.find?_cons, List.find?_cons, h0 t List.mem_cons_self, ih fun u m => h0 u (List.mem_cons_of_mem _ m)]
  rw [e]
  exact fu_find hm up
theorem far_at {rows : List (Int × Int)} {i : Nat} {r : Int × Int} (h : rows[i]? = some r) (b : inS r = false) (l : ∀ x ∈ rows.take i, inS x = true) : far rows = some i := by
  obtain ⟨lt, e⟩ := List.getElem?_eq_some_iff.mp h
  refine List.findIdx?_eq_some_iff_getElem.mpr ⟨lt, by rw [e, b]; rfl, fun j hj => ?_⟩
  have : inS rows[j] = true := l _ (List.mem_take_iff_getElem.mpr ⟨j, by omega, rfl⟩)
  rw [this]; simp
theorem bgw_pos {rows others : List (Int × Int)} (g : GoodM rows) (go : GoodM others) {t : Int} (h : Bg rows others t) : 0 ≤ t := by
  obtain ⟨r, m, e⟩ := h
  rcases m with m | m
  · have := (g.ok r m).1; omega
  · have := (go.ok r m).1; omega
section
variable {P : Program} {w : World} {K : PySem.W.Frag} {mg : Str → Option Value} {base : Heap}
theorem ok_is_shift {a : Ad} (T : Txt K mg a) : FnOk P w K mg base CX0 3 a.f_is_shift a.fd_is_shift ["thing"] sp_is_shift := by
  have G_is_whole : FnOk P w K mg base CX0 2 a.f_is_whole a.fd_is_whole ["thing", "low", "high"] sp_is_whole := ok_is_whole T
  refine T.d_is_shift.F.ok sc_is_shift (fun vs H Q E h => ?_) (fun cdv A outer s H vs Q E hr h => ?_)
  · obtain ⟨v, t, rfl, ty, kk⟩ := h
    rfl
  · obtain ⟨v, t, rfl, ty, kk⟩ := h
    have hu := hu_of hr
    have hU := hr.units
    have h_is_whole : Room (2) _ := hr.mono (by decide)
    obtain ⟨t_WIDEST_SHIFT, c_WIDEST_SHIFT⟩ := T.g_WIDEST_SHIFT
    refine ⟨_, (pss_one (ps_ret (pe_call G_is_whole h_is_whole rfl T.d_is_whole.m T.d_is_whole.k T.d_is_whole.b .nil pass0 (pa_cons (pv 0) (pa_cons (pe_un un_neg (pe_glob (v := .int 2880) rfl c_WIDEST_SHIFT ⟨_, rfl⟩)) (pa_cons (pe_glob (v := .int 2880) rfl c_WIDEST_SHIFT ⟨_, rfl⟩) pa_nil)))))), ?_⟩
    try dsimp only [cxOf, Cx.nox]
    exact ⟨_, rfl, _, rfl, v, t, _, _, rfl, ty, kk⟩
theorem ok_summed {a : Ad} (T : Txt K mg a) : FnOk P w K mg base CX0 2 a.f_summed a.fd_summed ["one", "other"] sp_summed := by
  have G_shortest_rows : FnOk P w K mg base CX0 1 a.f_shortest_rows a.fd_shortest_rows ["rows"] sp_shortest_rows := ok_shortest_rows T
  have G_number_at : FnOk P w K mg base CX0 1 a.f_number_at a.fd_number_at ["rows", "moment"] sp_number_at := ok_number_at T
  refine T.d_summed.F.ok sc_summed (fun vs H Q E h => ?_) (fun cdv A outer s H vs Q E hr h => ?_)
  · obtain ⟨q, p, r1, r2, rfl, hr1, hr2, l1, l2, hna, kk⟩ := h
    rfl
  · obtain ⟨q, p, r1, r2, rfl, hr1, hr2, l1, l2, hna, kk⟩ := h
    have hu := hu_of hr
    have hU := hr.units
    have h_shortest_rows : Room (1) _ := hr.mono (by decide)
    have h_number_at : Room (1) _ := hr.mono (by decide)
    refine ⟨_, (pss_cons (ps_set (i := 2) sc_summed.nd rfl (Or.inl rfl) (pe_lst pa_nil))
      (pss_cons (ps_for PassesOwn.never rfl (pi_list (pe_sortset rfl rfl T.n_sorted rfl T.n_set (pa_cons (pe_comp rfl (CompOk.def ["start", "number"] [none, none]) (pi_list (pe_op uAdd (pv 0) (pv 1))) (fun _ _ _ _ _ => (show PG _ _ (gTup K 2 _) from (pg_tup rfl (pgs_cons (pg_name (i := 0) (show List.Nodup (["start", "number"] : List Str) by decide +kernel) rfl (Or.inl rfl)) (pgs_cons (pg_name (i := 1) (show List.Nodup (["start", "number"] : List Str) by decide +kernel) rfl (Or.inl rfl)) pgs_nil))))) (fun _ _ _ _ _ => pts_nil) (fun _ _ _ _ _ => (pv 0))) pa_nil))) (pg_name (i := 3) (sc_summed.nd) rfl (Or.inl rfl))
        (pss_one (ps_expr (pe_bm PySem.F.plainAttrs_list PySem.F.slot_list_append PySem.F.type_list_append mt_append (pv 2) (pa_cons (pe_tup (pa_cons (pv 3) (pa_cons (pe_op uAdd (pe_call G_number_at h_number_at rfl T.d_number_at.m T.d_number_at.k T.d_number_at.b .nil pass0 (pa_cons (pv 0) (pa_cons (pv 3) pa_nil))) (pe_call G_number_at h_number_at rfl T.d_number_at.m T.d_number_at.k T.d_number_at.b .nil pass0 (pa_cons (pv 1) (pa_cons (pv 3) pa_nil)))) pa_nil))) pa_nil)))))
      (pss_one (ps_ret (pe_call G_shortest_rows h_shortest_rows rfl T.d_shortest_rows.m T.d_shortest_rows.k T.d_shortest_rows.b .nil pass0 (pa_cons (pv 2) pa_nil)))))), ?_⟩
    try dsimp only [cxOf, Cx.nox]
    refine ⟨small60 (Nat.le_of_ble_eq_true rfl), fun D fD => ?_⟩
    have SD := Same.new (.lst []) fD
    have hD0 : (upd H D (.lst [])) D = some (.lst []) := upd_same
    try unfold tNext
    try dsimp only
    generalize upd H D (.lst []) = G at SD hD0 ⊢
    obtain ⟨z1, h1, t1⟩ := hr1.same SD
    obtain ⟨z2, h2, t2⟩ := hr2.same SD
    have e1 : z1.length = r1.length := t1.1
    have e2 : z2.length = r2.length := t2.1
    refine ⟨_, rfl, _, rfl, .inr (.inl ⟨q, p, _, _, rfl, rfl, h1, h2, (Nat.le_of_lt (small1000 (by omega))), fun u fu => ?_⟩)⟩
    have Su := Same.new (.lst (z1 ++ z2)) fu
    have hu : (upd G u (.lst (z1 ++ z2))) u = some (.lst (z1 ++ z2)) := upd_same
    have tu : TupL pr (upd G u (.lst (z1 ++ z2))) (z1 ++ z2) (r1 ++ r2) := (tup_app t1 t2).same Su
    have hD1 := Su _ _ hD0
    have SH := SD.trans Su
    try dsimp only
    generalize upd G u (.lst (z1 ++ z2)) = G1 at Su hu tu hD1 SH ⊢
    refine ⟨u, rfl, ⟨_, SqL.of hu⟩, fun C fC => ?_⟩
    refine comp_list (K := K) (a := u) (xs := z1 ++ z2) (D := C) (fun i σ H2 => ∃ (c0 c1 : Option V), σ = [c0, c1] ∧ Same G1 H2 ∧ H2 C = some (.lst ((((r1 ++ r2).take i).map fun r => r.1).map V.int))) ⟨none, none, rfl, Same.new _ fC, upd_same⟩ (fun i σ H2 _ ⟨_, _, _, S', _⟩ => SqL.of (S' _ _ hu)) ?_ ?_
    · rintro i z σ H2 hz ⟨c0, c1, rfl, S', hC⟩
      obtain ⟨r, t, hr', rfl, ht⟩ := tu.of hz
      have lt : i < (r1 ++ r2).length := (List.getElem?_eq_some_iff.mp hr').1
      rw [List.length_append] at lt
      refine ⟨t, _, rfl, SqT.of (S' _ _ ht), rfl, _, _, rfl, _, _, rfl, rfl, ?_⟩
      refine ⟨_, rfl, _, hC, small1000 (by rw [List.length_map, List.length_map, List.length_take, List.length_append]; omega), _, _, rfl, S'.put fC _, ?_⟩
      rw [upd_same, take_at' hr', List.map_append, List.map_append]
      rfl
    rintro σ G2 ⟨c0, c1, rfl, S2, hC⟩
    rw [tu.1, List.take_length] at hC
    refine ⟨C, _, rfl, SqL.of hC, (by rw [List.length_map, List.length_append]; omega), fun m ms fm hm lm up => ?_⟩
    have hm' : ∀ t, t ∈ ms ↔ Bg r1 r2 t := fun t => (hm t).trans bg_app
    have l42 : ms.length ≤ 62 := by rw [List.length_map, List.length_append] at lm; omega
    have Sm := Same.new (.lst (ms.map V.int)) fm
    have hm1 : (upd G2 m (.lst (ms.map V.int))) m = some (.lst (ms.map V.int)) := upd_same
    have hD3 := Sm _ _ (S2 _ _ hD1)
    have S3 := S2.trans Sm
    have nmD : m ≠ D := fun e => by rw [e, S2 _ _ hD1] at fm; cases fm
    try dsimp only
    generalize upd G2 m (.lst (ms.map V.int)) = G3 at Sm hm1 hD3 S3 ⊢
    have SH3 := SH.trans S3
    have hr1' := hr1.same SH3
    have hr2' := hr2.same SH3
    refine ⟨m, rfl, ⟨_, SqL.of hm1⟩, for_list (D := { nx := tRet (tCall sp_shortest_rows [] E0 (tCons (tVar 2) tNil)) { nx := fun _ H' => Q .non H', rt := Q }, rt := Q }) (K := K) (a := m) (xs := ms.map V.int) (fun i σ H4 => ∃ (s3 : Option V) (ys : List V), σ = [some (.ref q), some (.ref p), some (.ref D), s3] ∧ But D G3 H4 ∧ H4 D = some (.lst ys) ∧ TupL pr H4 ys (sums r1 r2 (ms.take i))) ⟨none, [], rfl, (fun c o e _ => e), hD3, .nil⟩ (fun i σ H4 _ ⟨_, _, _, B, _⟩ => SqL.of (B _ _ hm1 nmD)) ?_ ?_⟩
    · rintro i z σ H4 hz ⟨s3, ys, rfl, B, hD, ty⟩
      obtain ⟨t, ht, rfl⟩ := map_get hz
      have lt : i < ms.length := (List.getElem?_eq_some_iff.mp ht).1
      obtain ⟨n1, n2⟩ := hna t ((hm' t).mp (List.mem_of_getElem? ht))
      have ly : ys.length ≤ 64 := by rw [ty.1]; unfold sums; rw [List.length_map, List.length_take]; omega
      have bs : Same H H4 := fun c o e => B c o (SH3 c o e) (ne_of_none e fD)
      refine ⟨_, rfl, .inl ⟨rfl, _, SqL.of hD⟩, _, rfl, _, rfl, _, rfl, q, t, _, r1, rfl, hr1.same bs, (by omega), n1, fun H5 S5 => ?_⟩
      refine ⟨_, rfl, _, rfl, p, t, _, r2, rfl, (hr2.same bs).same S5, (by omega), n2, fun H6 S6 => ?_⟩
      refine .inl ⟨_, _, rfl, rfl, small60 (Nat.le_of_ble_eq_true rfl), fun tt ft => ?_⟩
      have St := Same.new (.tup [.int t, .int ((na r1 t).getD 0 + (na r2 t).getD 0)]) ft
      have U := (S5.trans S6).trans St
      refine ⟨D, _, _, rfl, rfl, U _ _ hD, small1000 (by omega), ?_⟩
      refine ⟨_, ys ++ [.ref tt], rfl, (fun c o e n => by rw [upd_ne n]; exact U _ _ (B c o e n)), upd_same, ?_⟩
      rw [take_at' ht, sums_snoc]
      exact ((ty.same U).snoc (p := (t, (na r1 t).getD 0 + (na r2 t).getD 0)) upd_same).put (U _ _ hD)
    · rintro σ H4 ⟨s3, ys, rfl, B, hD, ty⟩
      rw [List.length_map, List.take_length] at ty
      have bs : Same H H4 := fun c o e => B c o (SH3 c o e) (ne_of_none e fD)
      refine ⟨_, rfl, D, _, rfl, ⟨ys, hD, ty⟩, (by unfold sums; rw [List.length_map]; omega), fun d H5 fd S5 R5 => ?_⟩
      exact kk d ms H5 (bs.none fd) (bs.trans S5) hm' l42 up R5
theorem ok_differences {a : Ad} (T : Txt K mg a) : FnOk P w K mg base CX0 3 a.f_differences a.fd_differences ["one", "other"] sp_differences := by
  have G_summed : FnOk P w K mg base CX0 2 a.f_summed a.fd_summed ["one", "other"] sp_summed := ok_summed T
  refine T.d_differences.F.ok sc_differences (fun vs H Q E h => ?_) (fun cdv A outer s H vs Q E hr h => ?_)
  · obtain ⟨q, p, r1, r2, rfl, hr1, hr2, g1, g2, kk⟩ := h
    rfl
  · obtain ⟨q, p, r1, r2, rfl, hr1, hr2, g1, g2, kk⟩ := h
    have hu := hu_of hr
    have hU := hr.units
    have h_summed : Room (2) _ := hr.mono (by decide)
    refine ⟨_, (pss_one (ps_ret (pe_call G_summed h_summed rfl T.d_summed.m T.d_summed.k T.d_summed.b .nil pass0 (pa_cons (pe_comp rfl (CompOk.def ["moment", "number"] [none, none]) (pi_list (pv 0)) (fun _ _ _ _ _ => (show PG _ _ (gTup K 2 _) from (pg_tup rfl (pgs_cons (pg_name (i := 0) (show List.Nodup (["moment", "number"] : List Str) by decide +kernel) rfl (Or.inl rfl)) (pgs_cons (pg_name (i := 1) (show List.Nodup (["moment", "number"] : List Str) by decide +kernel) rfl (Or.inl rfl)) pgs_nil))))) (fun _ _ _ _ _ => pts_nil) (fun _ _ _ _ _ => (pe_tup (pa_cons (pv 0) (pa_cons (pe_un un_neg (pv 1)) pa_nil))))) (pa_cons (pv 1) pa_nil))))), ?_⟩
    try dsimp only [cxOf, Cx.nox]
    obtain ⟨zs, hq, tp⟩ := id hr1
    have few := g1.few
    refine ⟨_, rfl, q, rfl, ⟨_, SqL.of hq⟩, fun D fD => ?_⟩
    refine comp_list (K := K) (a := q) (xs := zs) (D := D) (fun i σ H2 => ∃ (s0 s1 : Option V) (ys : List V), σ = [s0, s1] ∧ Same H H2 ∧ H2 D = some (.lst ys) ∧ TupL pr H2 ys (ngr (r1.take i))) ⟨none, none, [], rfl, Same.new _ fD, upd_same, .nil⟩ (fun i σ H2 _ ⟨_, _, _, _, S, _⟩ => SqL.of (S _ _ hq)) ?_ ?_
    · rintro i z σ H2 hz ⟨s0, s1, ys, rfl, S, hD, tD⟩
      obtain ⟨p', t, hp, rfl, ht⟩ := tp.of hz
      have ly : ys.length ≤ 64 := by rw [tD.1]; unfold ngr; rw [List.length_map, List.length_take]; omega
      refine ⟨t, _, rfl, SqT.of (S _ _ ht), rfl, _, _, rfl, _, _, rfl, rfl, ?_⟩
      refine ⟨_, rfl, _, rfl, _, rfl, small60 (Nat.le_of_ble_eq_true rfl), fun t2 ft2 => ?_⟩
      have S2 := Same.new (.tup [.int p'.1, .int (-p'.2)]) ft2
      have hD2 := S2 _ _ hD
      refine ⟨_, hD2, small1000 (by omega), _, _, ys ++ [.ref t2], rfl, (S.trans S2).put fD _, upd_same, ?_⟩
      rw [take_at' hp]
      show TupL pr _ _ ((List.take i r1 ++ [p']).map _)
      rw [List.map_append]
      exact ((tD.same S2).snoc (p := (p'.1, -p'.2)) upd_same).put hD2
    · rintro σ H2 ⟨s0, s1, ys, rfl, S, hD, tD⟩
      rw [tp.1, List.take_length] at tD
      refine ⟨_, rfl, D, p, ngr r1, r2, rfl, ⟨ys, hD, tD⟩, hr2.same S, (by unfold ngr; rw [List.length_map]; exact few), (by have := g2.few; omega), (fun t ht => ?_), fun d ms H' fd S' hm lm up R => kk d _ H' (S.none fd) (S.trans S') ⟨ms, hm, up, lm, rfl⟩ R⟩
      have t0 := bgw_pos (ngr_good g1.m) g2.m ht
      exact ⟨(ngr_good g1.m).nm t0, g2.m.nm t0⟩
end
end K28
set_option Elab.async false
set_option linter.all false
set_option maxRecDepth 100000
namespace K28
open PySem L2 PySem.NumText PyProof.Rows KC
section
variable {P : Program} {w : World} {K : PySem.W.Frag} {mg : Str → Option Value} {base : Heap}
theorem ok_table_of {a : Ad} (T : Txt K mg a) : FnOk P w K mg base (CX1 P w) 8 a.f_table_of a.fd_table_of ["rows"] (sp_table_of a) := by
  have G_Table_init : FnOk P w K mg base CX0 6 a.f_Table_init a.fd_Table_init ["self", "rows"] (sp_Table_init a) := ok_Table_init T
  have G_TooMany_init : FnOk P w K mg base CX0 3 a.f_TooMany_init a.fd_TooMany_init ["self", "many"] (sp_TooMany_init a) := ok_TooMany_init T
  have G_is_shift : FnOk P w K mg base CX0 3 a.f_is_shift a.fd_is_shift ["thing"] sp_is_shift := ok_is_shift T
  have G_Beyond_init : FnOk P w K mg base CX0 3 a.f_Beyond_init a.fd_Beyond_init ["self", "row"] (sp_Beyond_init a) := ok_Beyond_init T
  refine T.d_table_of.F.okX sc_table_of (fun vs H Q E h => ?_) (fun cdv A outer s H vs Q E hr h => ?_)
  · obtain ⟨q, due, rfl, hrs, good, few, k1, k2, k3⟩ := h
    rfl
  · obtain ⟨q, due, rfl, hrs, good, few, k1, k2, k3⟩ := h
    have hu := hu_of hr
    have hU := hr.units
    have h_Table_init : Room (6 + 1) _ := hr.mono (by decide)
    have h_TooMany_init : Room (3 + 1) _ := hr.mono (by decide)
    have h_is_shift : Room (3) _ := hr.mono (by decide)
    have h_Beyond_init : Room (3 + 1) _ := hr.mono (by decide)
    obtain ⟨t_MOST_ROWS, c_MOST_ROWS⟩ := T.g_MOST_ROWS
    refine ⟨_, (pss_cons (ps_for PassesOwn.leaving rfl (pi_enum rfl T.n_enumerate (pa_cons (pv 0) pa_nil)) (pg_tup rfl (pgs_cons (pg_name (i := 1) (sc_table_of.nd) rfl (Or.inl rfl)) (pgs_cons (pg_name (i := 2) (sc_table_of.nd) rfl (Or.inl rfl)) pgs_nil)))
        (pss_one (ps_if (pt_not (pt_val (pe_call G_is_shift h_is_shift rfl T.d_is_shift.m T.d_is_shift.k T.d_is_shift.b .nil pass0 (pa_cons (pe_ix (r := rIx K) ix_seq (pv 2) pe_int (fun _ _ => rfl)) pa_nil))))
          (pss_one (ps_raise throws_cx rfl (pe_xmake T.X_Beyond G_Beyond_init h_Beyond_init rfl T.g_Beyond T.d_Beyond_init.b (pa_cons (pv 1) pa_nil))))
          pss_nil)))
      (pss_cons (ps_if (pt_cmpR op_gt (pe_callB call_len (by rfl) T.n_len boot_len' (pa_cons (pv 0) pa_nil)) (pe_glob (v := .int 21) rfl c_MOST_ROWS ⟨_, rfl⟩) (nomark _))
        (pss_one (ps_raise throws_cx rfl (pe_xmake T.X_TooMany G_TooMany_init h_TooMany_init rfl T.g_TooMany T.d_TooMany_init.b (pa_cons (pe_callB call_len (by rfl) T.n_len boot_len' (pa_cons (pv 0) pa_nil)) pa_nil))))
        pss_nil)
      (pss_one (ps_ret (pe_make T.M_Table G_Table_init h_Table_init rfl T.g_Table T.d_Table_init.b .nil pass0 (pa_cons (pv 0) pa_nil)))))), ?_⟩
    try dsimp only [cxOf, Cx.nox]
    obtain ⟨zs, hq, tp⟩ := id hrs
    have lz : zs.length = due.length := tp.1
    refine seq_split (t := tFor _ _ _) (fun σ' H' => far due = none ∧ ∃ s1 s2 : Option V, σ' = [some (.ref q), s1, s2] ∧ Same H H') (fun N hN => ?_) ?_
    · refine ⟨_, rfl, q, rfl, ⟨zs, SqL.of hq⟩, for_enum (D := { nx := N, rt := Q }) (K := K) (a := q) (xs := zs) (fun i σ H2 => (∀ x ∈ due.take i, inS x = true) ∧ ∃ s1 s2 : Option V, σ = [some (.ref q), s1, s2] ∧ Same H H2) ⟨(fun _ z => by simp at z), none, none, rfl, Same.refl H⟩ (fun i σ H2 _ ⟨_, _, _, _, S⟩ => SqL.of (S _ _ hq)) ?_ ?_⟩
      · rintro i x σ H2 p hx ⟨h0, s1, s2, rfl, S⟩ hn
        have S2 : Same H (upd H2 p (.tup [.int i, x])) := S.then _ hn
        obtain ⟨r, t, hr', rfl, ht⟩ := tp.of hx
        have ht2 := S2 _ _ ht
        refine ⟨p, _, rfl, SqT.of upd_same, rfl, _, _, rfl, _, _, rfl, rfl, ?_⟩
        refine ⟨_, rfl, .inr (.inl ⟨t, _, _, _, rfl, rfl, SqT.of ht2, rfl, .int r.2, _, rfl, rfl, _, rfl, ?_⟩)⟩
        cases hb : inS r with
        | false =>
          rw [show whole (.int r.2) (-2880) 2880 = false from hb]
          refine iteTT rfl ?_
          have kz := (k3 i (far_at hr' hb h0)).same S2
          refine ⟨_, rfl, Nat.le_of_ble_eq_true rfl, fun ea fea => ⟨ea, _, rfl, upd_same, fun dx' fdx ne => ?_⟩⟩
          rw [upd_ne ne] at fdx
          exact ⟨rfl, ea, _, _, rfl, T.X_Beyond.c.xi, (upd_ne (Ne.symm ne)).trans upd_same, kz.sure fea fdx ne⟩
        | true =>
          rw [show whole (.int r.2) (-2880) 2880 = true from hb]
          refine iteFF rfl ⟨fun y my => ?_, _, _, rfl, S2⟩
          rw [take_at' hr'] at my
          rcases List.mem_append.mp my with my | my
          · exact h0 y my
          · rw [List.mem_singleton.mp my]; exact hb
      · rintro σ H2 ⟨h0, s1, s2, rfl, S⟩
        rw [lz, List.take_length] at h0
        exact hN _ _ ⟨far_all h0, _, _, rfl, S⟩
    rintro _ H1 ⟨fn, s1, s2, rfl, S⟩
    have hq1 := S _ _ hq
    refine ⟨_, rfl, _, _, rfl, .inl ⟨_, SqL.of hq1, rfl⟩, _, _, rfl, rfl, _, rfl, iteD (fun g => ?_) (fun g => ?_)⟩
    · have kz := (k2 fn (by omega)).same S
      rw [← lz] at kz
      refine ⟨_, rfl, _, _, rfl, .inl ⟨_, SqL.of hq1, rfl⟩, Nat.le_of_ble_eq_true rfl, fun ea fea => ⟨ea, _, rfl, upd_same, fun dx' fdx ne => ?_⟩⟩
      rw [upd_ne ne] at fdx
      exact ⟨rfl, ea, _, _, rfl, T.X_TooMany.c.xi, (upd_ne (Ne.symm ne)).trans upd_same, kz.sure fea fdx ne⟩
    · refine ⟨_, rfl, fun x dx fx fdx ndx => ?_⟩
      have Sx : Same H1 (upd (upd H1 dx (.own x)) x (.ins a.c_Table dx [])) := (Same.new _ fdx).put fx _
      have l21 : due.length ≤ 21 := by omega
      exact ⟨x, dx, q, _, rfl, upd_same, (hrs.same S).same Sx, good.good fn l21, fun G3 B3 T3 => ⟨rfl, k1 fn l21 x G3 (S.trans (Sx.but B3 fx)) T3⟩⟩
theorem ok_minutes_from {a : Ad} (T : Txt K mg a) : FnOk P w K mg base CX0 1 a.f_minutes_from a.fd_minutes_from ["moment", "minutes"] sp_minutes_from := by
  refine T.d_minutes_from.F.ok sc_minutes_from (fun vs H Q E h => ?_) (fun cdv A outer s H vs Q E hr h => ?_)
  · obtain ⟨t, m, rfl, kk⟩ := h
    rfl
  · obtain ⟨t, m, rfl, kk⟩ := h
    have hu := hu_of hr
    have hU := hr.units
    refine ⟨_, (pss_one (ps_ret (pe_ifExp (pt_cmpR (uEq hU) (pv 0) pe_int (nomark _)) (pe_lst (pa_cons (pe_tup (pa_cons pe_int (pa_cons (pv 1) pa_nil))) pa_nil)) (pe_lst (pa_cons (pe_tup (pa_cons pe_int (pa_cons pe_int pa_nil))) (pa_cons (pe_tup (pa_cons (pv 0) (pa_cons (pv 1) pa_nil))) pa_nil)))))), ?_⟩
    try dsimp only [cxOf, Cx.nox]
    refine ⟨_, rfl, .inl ⟨rfl, _, rfl, iteD (fun g => ?_) (fun g => ?_)⟩⟩
    · have g' : t = 0 := by injection g
      refine ⟨_, rfl, small60 (Nat.le_of_ble_eq_true rfl), fun ta fa => ⟨small60 (Nat.le_of_ble_eq_true rfl), fun l fl => ?_⟩⟩
      have A1 := Same.new (.tup [.int 0, .int m]) fa
      have A2 := Same.new (.lst [.ref ta]) fl
      have hta := A2 _ _ (upd_same : (upd H ta (.tup [.int 0, .int m])) ta = _)
      have hl : (upd (upd H ta (.tup [.int 0, .int m])) l (.lst [.ref ta])) l = some (.lst [.ref ta]) := upd_same
      refine kk l _ (A1.none fl) (A1.trans A2) ⟨[.ref ta], hl, ?_⟩
      unfold mf
      rw [if_pos g']
      have o1 : TupL pr _ [.ref ta] [(0, m)] := ⟨rfl, fun j z p e1 e2 => by
        cases j with
        | zero => cases e1; cases e2; exact ⟨ta, rfl, hta⟩
        | succ j => simp at e1⟩
      exact o1
    · have g' : ¬ t = 0 := fun z => g (by rw [z])
      refine ⟨small60 (Nat.le_of_ble_eq_true rfl), fun ta fa => ⟨_, rfl, _, rfl, small60 (Nat.le_of_ble_eq_true rfl), fun tc fc => ⟨small60 (Nat.le_of_ble_eq_true rfl), fun l fl => ?_⟩⟩⟩
      have A1 := Same.new (.tup [.int 0, .int 0]) fa
      have A2 := Same.new (.tup [.int t, .int m]) fc
      have A3 := Same.new (.lst [.ref ta, .ref tc]) fl
      have hta := A3 _ _ (A2 _ _ (upd_same : (upd H ta (.tup [.int 0, .int 0])) ta = _))
      have htc := A3 _ _ (upd_same : (upd (upd H ta (.tup [.int 0, .int 0])) tc (.tup [.int t, .int m])) tc = _)
      refine kk l _ ((A1.trans A2).none fl) ((A1.trans A2).trans A3) ⟨[.ref ta, .ref tc], upd_same, ?_⟩
      unfold mf
      rw [if_neg g']
      have o1 : TupL pr _ [.ref ta] [(0, 0)] := ⟨rfl, fun j z p e1 e2 => by
        cases j with
        | zero => cases e1; cases e2; exact ⟨ta, rfl, hta⟩
        | succ j => simp at e1⟩
      have o2 : TupL pr _ [.ref tc] [(t, m)] := ⟨rfl, fun j z p e1 e2 => by
        cases j with
        | zero => cases e1; cases e2; exact ⟨tc, rfl, htc⟩
        | succ j => simp at e1⟩
      exact tup_app o1 o2
theorem ok_put_on {a : Ad} (T : Txt K mg a) : FnOk P w K mg base (CX1 P w) 9 a.f_put_on a.fd_put_on ["table", "moment", "minutes"] (sp_put_on a) := by
  have G_table_of : FnOk P w K mg base (CX1 P w) 8 a.f_table_of a.fd_table_of ["rows"] (sp_table_of a) := ok_table_of T
  have G_is_moment : FnOk P w K mg base CX0 3 a.f_is_moment a.fd_is_moment ["thing"] sp_is_moment := ok_is_moment T
  have G_is_whole : FnOk P w K mg base CX0 2 a.f_is_whole a.fd_is_whole ["thing", "low", "high"] sp_is_whole := ok_is_whole T
  have G_summed : FnOk P w K mg base CX0 2 a.f_summed a.fd_summed ["one", "other"] sp_summed := ok_summed T
  have G_Table_rows : FnOk P w K mg base CX0 1 a.f_Table_rows a.fd_Table_rows ["self"] (sp_Table_rows a) := ok_Table_rows T
  have G_minutes_from : FnOk P w K mg base CX0 1 a.f_minutes_from a.fd_minutes_from ["moment", "minutes"] sp_minutes_from := ok_minutes_from T
  refine T.d_put_on.F.okX sc_put_on (fun vs H Q E h => ?_) (fun cdv A outer s H vs Q E hr h => ?_)
  · obtain ⟨x, i, m, rows, rfl, tb, good, h0, h1, m0, m1, w1, w2, w3⟩ := h
    rfl
  · obtain ⟨x, i, m, rows, rfl, tb, good, h0, h1, m0, m1, w1, w2, w3⟩ := h
    have hu := hu_of hr
    have hU := hr.units
    have h_table_of : Room (8) _ := hr.mono (by decide)
    have h_is_moment : Room (3) _ := hr.mono (by decide)
    have h_is_whole : Room (2) _ := hr.mono (by decide)
    have h_summed : Room (2) _ := hr.mono (by decide)
    have h_Table_rows : Room (1) _ := hr.mono (by decide)
    have h_minutes_from : Room (1) _ := hr.mono (by decide)
    obtain ⟨t_WIDEST_GAP, c_WIDEST_GAP⟩ := T.g_WIDEST_GAP
    refine ⟨_, (pss_cons (ps_if (pt_not (pt_val (pe_call G_is_moment h_is_moment rfl T.d_is_moment.m T.d_is_moment.k T.d_is_moment.b .nil pass0 (pa_cons (pv 1) pa_nil))))
        (pss_one ps_never)
        pss_nil)
      (pss_cons (ps_if (pt_not (pt_val (pe_call G_is_whole h_is_whole rfl T.d_is_whole.m T.d_is_whole.k T.d_is_whole.b .nil pass0 (pa_cons (pv 2) (pa_cons (pe_un un_neg (pe_glob (v := .int 5760) rfl c_WIDEST_GAP ⟨_, rfl⟩)) (pa_cons (pe_glob (v := .int 5760) rfl c_WIDEST_GAP ⟨_, rfl⟩) pa_nil))))))
        (pss_one ps_never)
        pss_nil)
      (pss_one (ps_ret (pe_call G_table_of h_table_of rfl T.d_table_of.m T.d_table_of.k T.d_table_of.b .nil throws_cx.passes (pa_cons (pe_call G_summed h_summed rfl T.d_summed.m T.d_summed.k T.d_summed.b .nil pass0 (pa_cons (pe_meth0 (pv 0) T.cl_Table T.d_Table_rows.mt G_Table_rows h_Table_rows T.d_Table_rows.b .nil pass0) (pa_cons (pe_call G_minutes_from h_minutes_from rfl T.d_minutes_from.m T.d_minutes_from.k T.d_minutes_from.b .nil pass0 (pa_cons (pv 1) (pa_cons (pv 2) pa_nil))) pa_nil))) pa_nil)))))), ?_⟩
    try dsimp only [cxOf, Cx.nox]
    obtain ⟨k, dx, zx, hx, _, _⟩ := id tb
    have few := good.few
    refine ⟨_, rfl, .int i, _, rfl, rfl, true, congrArg V.bl (mom_int h0 h1), iteFF rfl ?_⟩
    refine ⟨_, rfl, _, rfl, .int m, _, -5760, 5760, rfl, rfl, true, congrArg V.bl (whole_int m0 m1), iteFF rfl ?_⟩
    refine ⟨_, rfl, x, dx, _, rfl, hx, flds_no _ (by decide +kernel), x, rows, rfl, tb, fun d G1 fd S1 R1 => ?_⟩
    refine ⟨_, rfl, _, rfl, i, m, rfl, fun e G2 fe S2 R2 => ?_⟩
    have lm : (mf i m).length ≤ 41 := by unfold mf; split <;> exact Nat.le_of_ble_eq_true rfl
    refine ⟨d, e, rows, mf i m, rfl, R1.same S2, R2, few, lm, (fun y hy => ?_), fun f ms G3 ff S3 hms l42 hup R3 => ?_⟩
    · have y0 : 0 ≤ y := by
        rcases (bg_mf good).mp hy with ⟨r, mr, e⟩ | e
        · have := (good.ok r mr).1; omega
        · omega
      exact ⟨na_here good y0, by rw [na_mf h0 y0]; rfl⟩
    rw [sums_put good h0 hms hup] at R3
    have U3 := (S1.trans S2).trans S3
    have pl := pon_len good i m
    exact ⟨f, pon rows i m, rfl, R3, pon_good good h0 h1, (by omega), (fun h l z H' S' T' => w1 h l z H' (U3.trans S') T'), (fun h l => (w2 h l).same U3), fun j h => (w3 j h).same U3⟩
theorem ok_gaps {a : Ad} (T : Txt K mg a) : FnOk P w K mg base CX0 4 a.f_gaps a.fd_gaps ["one", "other"] (sp_gaps a) := by
  have G_differences : FnOk P w K mg base CX0 3 a.f_differences a.fd_differences ["one", "other"] sp_differences := ok_differences T
  have G_Table_rows : FnOk P w K mg base CX0 1 a.f_Table_rows a.fd_Table_rows ["self"] (sp_Table_rows a) := ok_Table_rows T
  refine T.d_gaps.F.ok sc_gaps (fun vs H Q E h => ?_) (fun cdv A outer s H vs Q E hr h => ?_)
  · obtain ⟨x, y, r1, r2, rfl, tx, ty, g1, g2, kk⟩ := h
    rfl
  · obtain ⟨x, y, r1, r2, rfl, tx, ty, g1, g2, kk⟩ := h
    have hu := hu_of hr
    have hU := hr.units
    have h_differences : Room (3) _ := hr.mono (by decide)
    have h_Table_rows : Room (1) _ := hr.mono (by decide)
    refine ⟨_, (pss_one (ps_ret (pe_call G_differences h_differences rfl T.d_differences.m T.d_differences.k T.d_differences.b .nil pass0 (pa_cons (pe_meth0 (pv 0) T.cl_Table T.d_Table_rows.mt G_Table_rows h_Table_rows T.d_Table_rows.b .nil pass0) (pa_cons (pe_meth0 (pv 1) T.cl_Table T.d_Table_rows.mt G_Table_rows h_Table_rows T.d_Table_rows.b .nil pass0) pa_nil))))), ?_⟩
    try dsimp only [cxOf, Cx.nox]
    obtain ⟨k, dx, zx, hx, _, _⟩ := id tx
    obtain ⟨k2, dy, zy, hy, _, _⟩ := id ty
    refine ⟨_, rfl, x, dx, _, rfl, hx, flds_no _ (by decide +kernel), x, r1, rfl, tx, fun d G1 fd S1 R1 => ?_⟩
    refine ⟨_, rfl, y, dy, _, rfl, S1 _ _ hy, flds_no _ (by decide +kernel), y, r2, rfl, ty.same S1, fun e G2 fe S2 R2 => ?_⟩
    have U := S1.trans S2
    exact ⟨d, e, r1, r2, rfl, R1.same S2, R2, g1, g2, fun f due G3 ff S3 sm R3 => kk f due G3 (U.none ff) (U.trans S3) sm R3⟩
theorem ok_by_gaps {a : Ad} (T : Txt K mg a) : FnOk P w K mg base (CX1 P w) 9 a.f_by_gaps a.fd_by_gaps ["one", "rows"] (sp_by_gaps a) := by
  have G_check_rows : FnOk P w K mg base CX0 5 a.f_check_rows a.fd_check_rows ["rows", "most", "widest"] sp_check_rows := ok_check_rows T
  have G_table_of : FnOk P w K mg base (CX1 P w) 8 a.f_table_of a.fd_table_of ["rows"] (sp_table_of a) := ok_table_of T
  have G_summed : FnOk P w K mg base CX0 2 a.f_summed a.fd_summed ["one", "other"] sp_summed := ok_summed T
  have G_Table_rows : FnOk P w K mg base CX0 1 a.f_Table_rows a.fd_Table_rows ["self"] (sp_Table_rows a) := ok_Table_rows T
  refine T.d_by_gaps.F.okX sc_by_gaps (fun vs H Q E h => ?_) (fun cdv A outer s H vs Q E hr h => ?_)
  · obtain ⟨x, q, rows, gs, rfl, tb, good, hq, gg, kk⟩ := h
    rfl
  · obtain ⟨x, q, rows, gs, rfl, tb, good, hq, gg, kk⟩ := h
    have hu := hu_of hr
    have hU := hr.units
    have h_check_rows : Room (5) _ := hr.mono (by decide)
    have h_table_of : Room (8) _ := hr.mono (by decide)
    have h_summed : Room (2) _ := hr.mono (by decide)
    have h_Table_rows : Room (1) _ := hr.mono (by decide)
    obtain ⟨t_WIDEST_GAP, c_WIDEST_GAP⟩ := T.g_WIDEST_GAP
    obtain ⟨t_MOST_GAPS, c_MOST_GAPS⟩ := T.g_MOST_GAPS
    refine ⟨_, (pss_cons (ps_expr (pe_call G_check_rows h_check_rows rfl T.d_check_rows.m T.d_check_rows.k T.d_check_rows.b .nil pass0 (pa_cons (pv 1) (pa_cons (pe_glob (v := .int 41) rfl c_MOST_GAPS ⟨_, rfl⟩) (pa_cons (pe_glob (v := .int 5760) rfl c_WIDEST_GAP ⟨_, rfl⟩) pa_nil)))))
      (pss_one (ps_ret (pe_call G_table_of h_table_of rfl T.d_table_of.m T.d_table_of.k T.d_table_of.b .nil throws_cx.passes (pa_cons (pe_call G_summed h_summed rfl T.d_summed.m T.d_summed.k T.d_summed.b .nil pass0 (pa_cons (pe_meth0 (pv 0) T.cl_Table T.d_Table_rows.mt G_Table_rows h_Table_rows T.d_Table_rows.b .nil pass0) (pa_cons (pv 1) pa_nil))) pa_nil))))), ?_⟩
    try dsimp only [cxOf, Cx.nox]
    obtain ⟨k, dx, zx, hx, _, _⟩ := id tb
    refine ⟨_, rfl, q, 41, 5760, gs, rfl, hq, gg, fun G0 S0 => ?_⟩
    refine ⟨_, rfl, x, dx, _, rfl, S0 _ _ hx, flds_no _ (by decide +kernel), x, rows, rfl, tb.same S0, fun d G1 fd S1 R1 => ?_⟩
    have U1 := S0.trans S1
    refine ⟨_, rfl, d, q, rows, gs, rfl, R1, hq.same U1, good.few, gg.few, (fun y hy => ?_), fun f ms G3 ff S3 hms l62 hup R3 => ?_⟩
    · have y0 := bgw_pos good.m gg.m hy
      exact ⟨good.m.nm y0, gg.m.nm y0⟩
    have sm : Sm rows gs (sr [] (sums rows gs ms)) := ⟨ms, hms, hup, l62, rfl⟩
    have U3 := U1.trans S3
    obtain ⟨w1, w2, w3⟩ := kk _ sm
    have sl := sm.len
    exact ⟨f, _, rfl, R3, sm.good good.m gg.m, (by omega), (fun h l z H' S' T' => w1 h l z H' (U3.trans S') T'), (fun h l => (w2 h l).same U3), fun j h => (w3 j h).same U3⟩
end
end K28
set_option Elab.async false
set_option linter.all false
set_option maxRecDepth 100000
namespace K28
open PySem L2 PySem.NumText PyProof.Rows KC
section
variable {P : Program} {w : World} {K : PySem.W.Frag} {mg : Str → Option Value} {base : Heap}
theorem ok_spliced {a : Ad} (T : Txt K mg a) : FnOk P w K mg base (CX1 P w) 9 a.f_spliced a.fd_spliced ["one", "other", "moment"] (sp_spliced a) := by
  have G_table_of : FnOk P w K mg base (CX1 P w) 8 a.f_table_of a.fd_table_of ["rows"] (sp_table_of a) := ok_table_of T
  have G_is_moment : FnOk P w K mg base CX0 3 a.f_is_moment a.fd_is_moment ["thing"] sp_is_moment := ok_is_moment T
  have G_shortest_rows : FnOk P w K mg base CX0 1 a.f_shortest_rows a.fd_shortest_rows ["rows"] sp_shortest_rows := ok_shortest_rows T
  have G_Table_rows : FnOk P w K mg base CX0 1 a.f_Table_rows a.fd_Table_rows ["self"] (sp_Table_rows a) := ok_Table_rows T
  have G_Table_shift_at : FnOk P w K mg base CX0 4 a.f_Table_shift_at a.fd_Table_shift_at ["self", "moment"] (sp_Table_shift_at a) := ok_Table_shift_at T
  refine T.d_spliced.F.okX sc_spliced (fun vs H Q E h => ?_) (fun cdv A outer s H vs Q E hr h => ?_)
  · obtain ⟨x, y, i, rows, others, rfl, tb, good, tby, goody, h0, h1, w1, w2, w3⟩ := h
    rfl
  · obtain ⟨x, y, i, rows, others, rfl, tb, good, tby, goody, h0, h1, w1, w2, w3⟩ := h
    have hu := hu_of hr
    have hU := hr.units
    have h_table_of : Room (8) _ := hr.mono (by decide)
    have h_is_moment : Room (3) _ := hr.mono (by decide)
    have h_shortest_rows : Room (1) _ := hr.mono (by decide)
    have h_Table_rows : Room (1) _ := hr.mono (by decide)
    have h_Table_shift_at : Room (4) _ := hr.mono (by decide)
    refine ⟨_, (pss_cons (ps_if (pt_not (pt_val (pe_call G_is_moment h_is_moment rfl T.d_is_moment.m T.d_is_moment.k T.d_is_moment.b .nil pass0 (pa_cons (pv 2) pa_nil))))
        (pss_one ps_never)
        pss_nil)
      (pss_cons (ps_setC (i := 3) sc_spliced.nd rfl (Or.inl rfl) rfl (CompOk.defX ["row", "moment"] [none, some 2]) (pi_list (pe_meth0 (pv 0) T.cl_Table T.d_Table_rows.mt G_Table_rows h_Table_rows T.d_Table_rows.b .nil pass0)) (fun _ _ _ _ _ => (pg_name (i := 0) (show List.Nodup (["row", "moment"] : List Str) by decide +kernel) rfl (Or.inl rfl))) (fun _ _ _ _ _ => (pts_one (pt_cmpR op_lt (pe_ix (r := rIx K) ix_seq (pv 0) pe_int (fun _ _ => rfl)) (pv 1) (nomark _)))) (fun _ _ _ _ _ => (pv 0)))
      (pss_cons (ps_setC (i := 4) sc_spliced.nd rfl (Or.inl rfl) rfl (CompOk.defX ["row", "moment"] [none, some 2]) (pi_list (pe_meth0 (pv 1) T.cl_Table T.d_Table_rows.mt G_Table_rows h_Table_rows T.d_Table_rows.b .nil pass0)) (fun _ _ _ _ _ => (pg_name (i := 0) (show List.Nodup (["row", "moment"] : List Str) by decide +kernel) rfl (Or.inl rfl))) (fun _ _ _ _ _ => (pts_one (pt_cmpR op_gt (pe_ix (r := rIx K) ix_seq (pv 0) pe_int (fun _ _ => rfl)) (pv 1) (nomark _)))) (fun _ _ _ _ _ => (pv 0)))
      (pss_one (ps_ret (pe_call G_table_of h_table_of rfl T.d_table_of.m T.d_table_of.k T.d_table_of.b .nil throws_cx.passes (pa_cons (pe_call G_shortest_rows h_shortest_rows rfl T.d_shortest_rows.m T.d_shortest_rows.k T.d_shortest_rows.b .nil pass0 (pa_cons (pe_op uAdd (pe_op uAdd (pv 3) (pe_lst (pa_cons (pe_tup (pa_cons (pv 2) (pa_cons (pe_meth (pv 1) T.cl_Table T.d_Table_shift_at.mt G_Table_shift_at h_Table_shift_at T.d_Table_shift_at.b .nil pass0 (pa_cons (pv 2) pa_nil)) pa_nil))) pa_nil))) (pv 4)) pa_nil)) pa_nil))))))), ?_⟩
    try dsimp only [cxOf, Cx.nox]
    obtain ⟨k, dx, zx, hx, _, _⟩ := id tb
    obtain ⟨k2, dy, zy, hy, _, _⟩ := id tby
    have few := good.few
    have fewy := goody.few
    obtain ⟨n1, hn1⟩ : ∃ n1, na others i = some n1 := ⟨_, na_here goody h0⟩
    refine ⟨_, rfl, .int i, _, rfl, rfl, true, congrArg V.bl (mom_int h0 h1), iteFF rfl ?_⟩
    refine ⟨_, rfl, x, dx, _, rfl, hx, flds_no _ (by decide +kernel), x, rows, rfl, tb, fun d G1 fd S1 R1 => ?_⟩
    obtain ⟨zs, hd, tp⟩ := R1
    have lz : zs.length = rows.length := tp.1
    refine ⟨d, rfl, ⟨_, SqL.of hd⟩, fun D1 fD1 => ?_⟩
    refine comp_list (K := K) (a := d) (xs := zs) (D := D1) (fun j σ H2 => ∃ (c0 : Option V) (cs : List V), σ = [c0, some (.int i)] ∧ Same G1 H2 ∧ H2 D1 = some (.lst cs) ∧ TupL pr H2 cs (bef (rows.take j) i)) ⟨none, [], rfl, Same.new _ fD1, upd_same, .nil⟩ (fun j σ H2 _ ⟨_, _, _, S', _⟩ => SqL.of (S' _ _ hd)) ?_ ?_
    · rintro j z σ H2 hz ⟨c0, cs, rfl, S', hC, tc⟩
      obtain ⟨r, u, hr', rfl, hu'⟩ := tp.of hz
      have hu2 := S' _ _ hu'
      have et : rows.take (j + 1) = rows.take j ++ [r] := by rw [List.take_add_one, hr']; rfl
      have lc : cs.length ≤ 64 := by
        have := bef_len (rows.take j) i
        rw [List.length_take] at this
        rw [tc.1]; omega
      refine ⟨_, rfl, .inr (.inl ⟨u, _, _, _, rfl, rfl, SqT.of hu2, rfl, _, rfl, _, _, rfl, rfl, _, rfl, iteD (fun g => ?_) (fun g => ?_)⟩)⟩
      · refine ⟨_, rfl, _, hC, small1000 (by omega), _, cs ++ [.ref u], rfl, S'.put fD1 _, upd_same, ?_⟩
        rw [et, bef_snoc, if_pos (show r.1 < i from g)]
        exact (tc.snoc (p := r) hu2).put hC
      · refine ⟨_, cs, rfl, S', hC, ?_⟩
        rw [et, bef_snoc, if_neg (show ¬ r.1 < i from g), List.append_nil]
        exact tc
    rintro σ1 G2 ⟨c0, cs, rfl, S2, hC, tc⟩
    rw [lz, List.take_length] at tc
    have U2 := S1.trans S2
    try unfold tNext
    try dsimp only
    refine ⟨_, rfl, y, dy, _, rfl, U2 _ _ hy, flds_no _ (by decide +kernel), y, others, rfl, tby.same U2, fun e G3 fe S3 R3 => ?_⟩
    obtain ⟨ze, he, te⟩ := R3
    have le : ze.length = others.length := te.1
    refine ⟨e, rfl, ⟨_, SqL.of he⟩, fun D2 fD2 => ?_⟩
    refine comp_list (K := K) (a := e) (xs := ze) (D := D2) (fun j σ H2 => ∃ (c0 : Option V) (cs : List V), σ = [c0, some (.int i)] ∧ Same G3 H2 ∧ H2 D2 = some (.lst cs) ∧ TupL pr H2 cs (aft (others.take j) i)) ⟨none, [], rfl, Same.new _ fD2, upd_same, .nil⟩ (fun j σ H2 _ ⟨_, _, _, S', _⟩ => SqL.of (S' _ _ he)) ?_ ?_
    · rintro j z σ H2 hz ⟨c0, cs, rfl, S', hC, tc⟩
      obtain ⟨r, u, hr', rfl, hu'⟩ := te.of hz
      have hu2 := S' _ _ hu'
      have et : others.take (j + 1) = others.take j ++ [r] := by rw [List.take_add_one, hr']; rfl
      have lc : cs.length ≤ 64 := by
        have := aft_len (others.take j) i
        rw [List.length_take] at this
        rw [tc.1]; omega
      refine ⟨_, rfl, .inr (.inl ⟨u, _, _, _, rfl, rfl, SqT.of hu2, rfl, _, rfl, _, _, rfl, rfl, _, rfl, iteD (fun g => ?_) (fun g => ?_)⟩)⟩
      · refine ⟨_, rfl, _, hC, small1000 (by omega), _, cs ++ [.ref u], rfl, S'.put fD2 _, upd_same, ?_⟩
        rw [et, aft_snoc, if_pos (show r.1 > i from g)]
        exact (tc.snoc (p := r) hu2).put hC
      · refine ⟨_, cs, rfl, S', hC, ?_⟩
        rw [et, aft_snoc, if_neg (show ¬ r.1 > i from g), List.append_nil]
        exact tc
    rintro σ2 G4 ⟨c1, ds, rfl, S4, hE, td⟩
    rw [le, List.take_length] at td
    have U4 := U2.trans (S3.trans S4)
    have hC4 := S4 _ _ (S3 _ _ hC)
    have tc4 := (tc.same S3).same S4
    try unfold tNext
    try dsimp only
    refine ⟨_, rfl, _, rfl, _, rfl, y, dy, _, rfl, U4 _ _ hy, flds_no _ (by decide +kernel), _, rfl, y, i, n1, others, rfl, tby.same U4, fewy, h0, h1, hn1, fun G5 S5 => ?_⟩
    refine ⟨small60 (Nat.le_of_ble_eq_true rfl), fun tt ft => ⟨small60 (Nat.le_of_ble_eq_true rfl), fun l1 fl1 => ?_⟩⟩
    have A1 := Same.new (.tup [.int i, .int n1]) ft
    have A2 := Same.new (.lst [.ref tt]) fl1
    have U6 := U4.trans (S5.trans (A1.trans A2))
    have hC6 := A2 _ _ (A1 _ _ (S5 _ _ hC4))
    have hE6 := A2 _ _ (A1 _ _ (S5 _ _ hE))
    have tt6 := A2 _ _ (upd_same : (upd G5 tt (.tup [.int i, .int n1])) tt = _)
    have tc6 := ((tc4.same S5).same A1).same A2
    have td6 := ((td.same S5).same A1).same A2
    have hl6 : (upd (upd G5 tt (.tup [.int i, .int n1])) l1 (.lst [.ref tt])) l1 = some (.lst [.ref tt]) := upd_same
    try dsimp only
    generalize upd (upd G5 tt (.tup [.int i, .int n1])) l1 (.lst [.ref tt]) = G6 at U6 hC6 hE6 tt6 tc6 td6 hl6 ⊢
    clear A1 A2
    have lc := bef_len rows i
    have ld := aft_len others i
    have lcs : cs.length ≤ 21 := by rw [tc6.1]; omega
    have lds : ds.length ≤ 21 := by rw [td6.1]; omega
    refine .inr (.inl ⟨D1, l1, _, _, rfl, rfl, hC6, hl6, (Nat.le_of_lt (small1000 (by show cs.length + 1 ≤ 1000; omega))), fun s1 fs1 => ?_⟩)
    have A3 := Same.new (.lst (cs ++ [.ref tt])) fs1
    refine ⟨_, rfl, .inr (.inl ⟨s1, D2, _, _, rfl, rfl, upd_same, A3 _ _ hE6, (Nat.le_of_lt (small1000 (by rw [List.length_append]; show cs.length + 1 + ds.length ≤ 1000; omega))), fun s2 fs2 => ?_⟩)⟩
    have A4 := Same.new (.lst (cs ++ [.ref tt] ++ ds)) fs2
    have A34 := A3.trans A4
    have one : TupL pr G6 [.ref tt] [(i, n1)] := ⟨rfl, fun j z p e1 e2 => by
      cases j with
      | zero => cases e1; cases e2; exact ⟨tt, rfl, tt6⟩
      | succ j => simp at e1⟩
    have Rw : Rs (upd (upd G6 s1 (.lst (cs ++ [.ref tt]))) s2 (.lst (cs ++ [.ref tt] ++ ds))) s2 (raw rows others i n1) := ⟨_, upd_same, (tup_app (tup_app tc6 one) td6).same A34⟩
    have rl := raw_len rows others i n1
    have es : sr [] (raw rows others i n1) = spl rows others i := by unfold spl; rw [hn1]; rfl
    refine ⟨s2, _, rfl, Rw, (by omega), fun e1 G7 fe1 S7 R7 => ?_⟩
    rw [es] at R7
    have U7 := U6.trans (A34.trans S7)
    have sl := spl_len good goody i
    exact ⟨e1, _, rfl, R7, (spl_good good goody h0 h1).m, (by omega), (fun h l z H' S' T' => w1 h l z H' (U7.trans S') T'), (fun h l => (w2 h l).same U7), fun j h => (w3 j h).same U7⟩
end
end K28
set_option Elab.async false
set_option linter.all false
set_option maxRecDepth 100000
namespace K28
open PySem L2 PySem.NumText PyProof.Rows KC
section
variable {P : Program} {w : World} {K : PySem.W.Frag} {mg : Str → Option Value} {base : Heap}
theorem ok_first_unlike {a : Ad} (T : Txt K mg a) : FnOk P w K mg base CX0 4 a.f_first_unlike a.fd_first_unlike ["one", "other"] (sp_first_unlike a) := by
  have G_differences : FnOk P w K mg base CX0 3 a.f_differences a.fd_differences ["one", "other"] sp_differences := ok_differences T
  have G_Table_rows : FnOk P w K mg base CX0 1 a.f_Table_rows a.fd_Table_rows ["self"] (sp_Table_rows a) := ok_Table_rows T
  refine T.d_first_unlike.F.ok sc_first_unlike (fun vs H Q E h => ?_) (fun cdv A outer s H vs Q E hr h => ?_)
  · obtain ⟨x, y, rows, others, rfl, tb, good, tby, goody, kk⟩ := h
    rfl
  · obtain ⟨x, y, rows, others, rfl, tb, good, tby, goody, kk⟩ := h
    have hu := hu_of hr
    have hU := hr.units
    have h_differences : Room (3) _ := hr.mono (by decide)
    have h_Table_rows : Room (1) _ := hr.mono (by decide)
    refine ⟨_, (pss_cons (ps_for PassesOwn.never rfl (pi_list (pe_call G_differences h_differences rfl T.d_differences.m T.d_differences.k T.d_differences.b .nil pass0 (pa_cons (pe_meth0 (pv 0) T.cl_Table T.d_Table_rows.mt G_Table_rows h_Table_rows T.d_Table_rows.b .nil pass0) (pa_cons (pe_meth0 (pv 1) T.cl_Table T.d_Table_rows.mt G_Table_rows h_Table_rows T.d_Table_rows.b .nil pass0) pa_nil)))) (pg_tup rfl (pgs_cons (pg_name (i := 2) (sc_first_unlike.nd) rfl (Or.inl rfl)) (pgs_cons (pg_name (i := 3) (sc_first_unlike.nd) rfl (Or.inl rfl)) pgs_nil)))
        (pss_one (ps_if (pt_cmpR (uNe hU) (pv 3) pe_int (nomark _))
          (pss_one (ps_ret (pv 2)))
          pss_nil)))
      (pss_one (ps_ret pe_non))), ?_⟩
    try dsimp only [cxOf, Cx.nox]
    obtain ⟨k, dx, zx, hx, _, _⟩ := id tb
    obtain ⟨k2, dy, zy, hy, _, _⟩ := id tby
    refine ⟨_, rfl, x, dx, _, rfl, hx, flds_no _ (by decide +kernel), x, rows, rfl, tb, fun d G1 fd S1 R1 => ?_⟩
    refine ⟨_, rfl, y, dy, _, rfl, S1 _ _ hy, flds_no _ (by decide +kernel), y, others, rfl, tby.same S1, fun e G2 fe S2 R2 => ?_⟩
    refine ⟨d, e, rows, others, rfl, R1.same S2, R2, good, goody, fun f due G3 ff S3 sm R3 => ?_⟩
    obtain ⟨ms, hm, up, lm, rfl⟩ := sm
    have U3 := (S1.trans S2).trans S3
    have fu := find_sums good goody (fun t => (hm t).trans bg_ngr) up
    generalize sr [] (sums (ngr rows) others ms) = ps at R3 fu
    obtain ⟨zs, hf, tp⟩ := R3
    refine ⟨f, rfl, ⟨_, SqL.of hf⟩, for_list (D := { nx := tRet (tC .non) { nx := fun _ H' => Q .non H', rt := Q }, rt := Q }) (K := K) (a := f) (xs := zs) (fun i σ H2 => ∃ s2 s3 : Option V, σ = [some (.ref x), some (.ref y), s2, s3] ∧ H2 = G3 ∧ ∀ r ∈ ps.take i, r.2 = 0) ⟨none, none, rfl, rfl, fun _ z => by simp at z⟩ (fun i σ H2 _ ⟨_, _, _, e, _⟩ => e ▸ SqL.of hf) ?_ ?_⟩
    · rintro i z σ H2 hz ⟨s2, s3, rfl, rfl, hz0⟩
      obtain ⟨r, t, hr', rfl, ht⟩ := tp.of hz
      refine ⟨t, _, rfl, SqT.of ht, rfl, _, _, rfl, _, _, rfl, rfl, ?_⟩
      refine ⟨_, rfl, .inl ⟨rfl, _, rfl, iteND (fun g => ?_) (fun g => ?_)⟩⟩
      · have g' : r.2 ≠ 0 := fun z => g (by rw [z])
        have e : ps.find? nz = some r := by
          refine List.find?_eq_some_iff_append.mpr ⟨by simp [nz, g'], ps.take i, ps.drop (i + 1), ?_, fun a ha => by simp [nz, hz0 a ha]⟩
          obtain ⟨l, el⟩ := List.getElem?_eq_some_iff.mp hr'
          rw [← el, ← List.drop_eq_getElem_cons l, List.take_append_drop]
        rw [e] at fu
        exact ⟨_, rfl, kk (some r.1) _ U3 fu⟩
      · refine ⟨_, _, rfl, rfl, fun a ha => ?_⟩
        rw [take_at' hr'] at ha
        rcases List.mem_append.mp ha with ha | ha
        · exact hz0 a ha
        · rw [List.mem_singleton.mp ha]
          injection g
    · rintro σ H2 ⟨s2, s3, rfl, rfl, hz0⟩
      rw [tp.1, List.take_length] at hz0
      have e : ps.find? nz = none := List.find?_eq_none.mpr fun r m => by simp [nz, hz0 r m]
      rw [e] at fu
      exact kk none _ U3 fu
theorem ok_alike {a : Ad} (T : Txt K mg a) : FnOk P w K mg base CX0 5 a.f_alike a.fd_alike ["one", "other"] (sp_alike a) := by
  have G_first_unlike : FnOk P w K mg base CX0 4 a.f_first_unlike a.fd_first_unlike ["one", "other"] (sp_first_unlike a) := ok_first_unlike T
  refine T.d_alike.F.ok sc_alike (fun vs H Q E h => ?_) (fun cdv A outer s H vs Q E hr h => ?_)
  · obtain ⟨x, y, rows, others, rfl, tb, good, tby, goody, kk⟩ := h
    rfl
  · obtain ⟨x, y, rows, others, rfl, tb, good, tby, goody, kk⟩ := h
    have hu := hu_of hr
    have hU := hr.units
    have h_first_unlike : Room (4) _ := hr.mono (by decide)
    refine ⟨_, (pss_one (ps_ret (pe_cmpR op_isN (pe_call G_first_unlike h_first_unlike rfl T.d_first_unlike.m T.d_first_unlike.k T.d_first_unlike.b .nil pass0 (pa_cons (pv 0) (pa_cons (pv 1) pa_nil))) pe_non (nomark _)))), ?_⟩
    try dsimp only [cxOf, Cx.nox]
    exact ⟨_, rfl, _, rfl, x, y, rows, others, rfl, tb, good, tby, goody, fun o H' S fu => ⟨rfl, kk o H' S fu⟩⟩
end
end K28
set_option Elab.async false
set_option linter.all false
set_option maxRecDepth 100000
namespace K28
open PySem L2 PySem.NumText PyProof.Rows KC
section
variable {P : Program} {w : World} {K : PySem.W.Frag} {mg : Str → Option Value} {base : Heap}
end
theorem split_at {rows : List (Int × Int)} {n : Nat} {r : Int × Int} (h : rows[n]? = some r) : rows = rows.take n ++ r :: rows.drop (n + 1) := by
  obtain ⟨l, e⟩ := List.getElem?_eq_some_iff.mp h
  rw [← e, ← List.drop_eq_getElem_cons l, List.take_append_drop]
theorem take_at {rows : List (Int × Int)} {n : Nat} {r : Int × Int} (h : rows[n]? = some r) : rows.take (n + 1) = rows.take n ++ [r] := by rw [List.take_add_one, h]; rfl
theorem set_at {rows : List (Int × Int)} {n : Nat} {r w : Int × Int} (h : rows[n]? = some r) : rows.set n w = rows.take n ++ w :: rows.drop (n + 1) :=
  List.set_eq_take_append_cons_drop.trans (if_pos (List.getElem?_eq_some_iff.mp h).1)
theorem mk_good {A B mid : List (Int × Int)} {r : Int × Int} (g : Good (A ++ r :: B)) (few : (A ++ mid ++ B).length ≤ 21) (ma : Asc mid) (ok : ∀ m ∈ mid, 0 ≤ m.1 ∧ m.1 ≤ 1000000000 ∧ -2880 ≤ m.2 ∧ m.2 ≤ 2880) (h1 : ∀ m ∈ mid, r.1 ≤ m.1)
    (h2 : ∀ m ∈ mid, ∀ b ∈ B, m.1 < b.1) (hd : A = [] → ∃ n, mid.head? = some (0, n)) : Good (A ++ mid ++ B) := by
  obtain ⟨p1, p2, p3⟩ := List.pairwise_append.mp g.asc
  obtain ⟨p4, p5⟩ := List.pairwise_cons.mp p2
  refine ⟨few, ?_, ?_, fun m hm => ?_⟩
  · obtain ⟨s, hs⟩ := g.fst
    cases A with
    | nil =>
      obtain ⟨n, hn⟩ := hd rfl
      refine ⟨n, ?_⟩
      cases mid with
      | nil => cases hn
      | cons m ms => exact hn
    | cons a as => exact ⟨s, hs⟩
  · unfold Asc
    refine List.pairwise_append.mpr ⟨List.pairwise_append.mpr ⟨p1, ma, fun a ha m hm => ?_⟩, p5, fun a ha b hb => ?_⟩
    · have := p3 a ha r List.mem_cons_self
      have := h1 m hm
      omega
    · rcases List.mem_append.mp ha with ha | ha
      · exact p3 a ha b (List.mem_cons_of_mem _ hb)
      · exact h2 a ha b hb
  · rcases List.mem_append.mp hm with hm | hm
    · rcases List.mem_append.mp hm with hm | hm
      · exact g.ok m (List.mem_append.mpr (.inl hm))
      · exact ok m hm
    · exact g.ok m (List.mem_append.mpr (.inr (List.mem_cons_of_mem _ hm)))
noncomputable def Lst (rows : List (Int × Int)) (n : Nat) (la : Int) : Prop := (∀ r, rows[n + 1]? = some r → la = r.1 - 1) ∧ (rows.length ≤ n + 1 → la = 1000000000)
theorem Lst.lt {rows : List (Int × Int)} {n : Nat} {la : Int} (g : Good rows) (h : Lst rows n la) : la ≤ 1000000000 ∧ ∀ b ∈ rows.drop (n + 1), la < b.1 := by
  by_cases e : n + 1 < rows.length
  · have hr : rows[n + 1]? = some rows[n + 1] := List.getElem?_eq_getElem e
    have el := h.1 _ hr
    have ok := g.ok _ (List.mem_of_getElem? hr)
    refine ⟨by omega, fun b hb => ?_⟩
    rw [List.drop_eq_getElem_cons e] at hb
    have asc : (rows[n + 1] :: rows.drop (n + 1 + 1)).Pairwise fun a b => a.1 < b.1 := by
      rw [← List.drop_eq_getElem_cons e]
      exact g.asc.sublist (List.drop_sublist _ _)
    rcases List.mem_cons.mp hb with hb | hb
    · rw [hb]; omega
    · have := (List.pairwise_cons.mp asc).1 b hb
      omega
  · refine ⟨by rw [h.2 (by omega)]; exact Int.le_refl _, fun b hb => ?_⟩
    rw [List.drop_eq_nil_of_le (by omega)] at hb
    cases hb
section
variable {rows : List (Int × Int)} {n : Nat} {r : Int × Int} {la e : Int} (g : Good rows) (hr : rows[n]? = some r) (hl : Lst rows n la)
include g hr
theorem good_shift {s : Int} (h1 : -2880 ≤ s) (h2 : s ≤ 2880) : Good (rows.set n (r.1, s)) := by
  rw [set_at hr]
  have ok := g.ok r (List.mem_of_getElem? hr)
  have g' := g
  rw [split_at hr] at g'
  have := mk_good (mid := [(r.1, s)]) g' (by
    have := g.few
    have l := (List.getElem?_eq_some_iff.mp hr).1
    rw [List.length_append, List.length_append, List.length_take, List.length_drop]
    show min n rows.length + 1 + _ ≤ 21
    omega) (List.pairwise_singleton _ _) (fun m hm => by rw [List.mem_singleton.mp hm]; exact ⟨ok.1, ok.2.1, h1, h2⟩) (fun m hm => by rw [List.mem_singleton.mp hm]; exact Int.le_refl _)
    (fun m hm b hb => by
      have : m = (r.1, s) := by simpa using hm
      subst this
      exact (List.pairwise_cons.mp (List.pairwise_append.mp g'.asc).2.1).1 b hb) (fun z => by
      obtain ⟨n0, hn0⟩ := g'.fst
      rw [z] at hn0
      have : r = (0, n0) := by simpa using hn0
      rw [this]
      exact ⟨s, rfl⟩)
  rwa [List.append_assoc] at this
include hl
theorem good_move (h0 : 0 < n) (e0 : 0 ≤ e) (e1 : e < la - r.1) : Good (rows.set n (r.1 + 1 + e, r.2)) := by
  rw [set_at hr]
  have ok := g.ok r (List.mem_of_getElem? hr)
  obtain ⟨l1, l2⟩ := hl.lt g
  have g' := g
  rw [split_at hr] at g'
  have := mk_good (mid := [(r.1 + 1 + e, r.2)]) g' (by
    have := g.few
    have l := (List.getElem?_eq_some_iff.mp hr).1
    rw [List.length_append, List.length_append, List.length_take, List.length_drop]
    show min n rows.length + 1 + _ ≤ 21
    omega) (List.pairwise_singleton _ _) (fun m hm => by rw [List.mem_singleton.mp hm]; exact ⟨by show 0 ≤ r.1 + 1 + e; omega, by show r.1 + 1 + e ≤ _; omega, ok.2.2⟩) (fun m hm => by rw [List.mem_singleton.mp hm]; show r.1 ≤ r.1 + 1 + e; omega)
    (fun m hm b hb => by
      have : m = (r.1 + 1 + e, r.2) := by simpa using hm
      subst this
      have := l2 b hb
      show r.1 + 1 + e < b.1
      omega) (fun z => by
      have l := (List.getElem?_eq_some_iff.mp hr).1
      have : (rows.take n).length = 0 := by rw [z]; rfl
      rw [List.length_take] at this
      omega)
  rwa [List.append_assoc] at this
theorem good_ins (few : rows.length < 21) (e0 : 0 ≤ e) (e1 : e < la - r.1) : Good (rows.take (n + 1) ++ (r.1 + 1 + e, r.2) :: rows.drop (n + 1)) := by
  have ok := g.ok r (List.mem_of_getElem? hr)
  obtain ⟨l1, l2⟩ := hl.lt g
  have g' := g
  rw [split_at hr] at g'
  have := mk_good (mid := [r, (r.1 + 1 + e, r.2)]) g' (by
    have l := (List.getElem?_eq_some_iff.mp hr).1
    rw [List.length_append, List.length_append, List.length_take, List.length_drop]
    show min n rows.length + 2 + _ ≤ 21
    omega) (List.pairwise_cons.mpr ⟨fun b hb => by rw [List.mem_singleton.mp hb]; show r.1 < r.1 + 1 + e; omega, List.pairwise_singleton _ _⟩)
    (fun m hm => by
      rcases (by simpa using hm : m = r ∨ m = (r.1 + 1 + e, r.2)) with rfl | rfl
      · exact ok
      · exact ⟨by show 0 ≤ r.1 + 1 + e; omega, by show r.1 + 1 + e ≤ _; omega, ok.2.2⟩)
    (fun m hm => by
      rcases (by simpa using hm : m = r ∨ m = (r.1 + 1 + e, r.2)) with rfl | rfl
      · exact Int.le_refl _
      · show r.1 ≤ r.1 + 1 + e; omega)
    (fun m hm b hb => by
      have lb := l2 b hb
      rcases (by simpa using hm : m = r ∨ m = (r.1 + 1 + e, r.2)) with rfl | rfl
      · omega
      · show r.1 + 1 + e < b.1; omega)
    (fun z => by
      obtain ⟨n0, hn0⟩ := g'.fst
      rw [z] at hn0
      have : r = (0, n0) := by simpa using hn0
      exact ⟨n0, by rw [← this]; rfl⟩)
  rw [take_at hr]
  simpa using this
end
theorem tup_takeD {H : Hp} {zs : List V} {ws : List (Int × Int)} (h : TupL pr H zs ws) (n : Nat) : TupL pr H (zs.take n) (ws.take n) ∧ TupL pr H (zs.drop n) (ws.drop n) := by
  refine ⟨⟨by rw [List.length_take, List.length_take, h.1], fun i z p e1 e2 => ?_⟩, ⟨by rw [List.length_drop, List.length_drop, h.1], fun i z p e1 e2 => ?_⟩⟩
  · have hi : i < n := by have := (List.getElem?_eq_some_iff.mp e1).1; rw [List.length_take] at this; omega
    rw [List.getElem?_take_of_lt hi] at e1 e2
    exact h.2 i z p e1 e2
  · rw [List.getElem?_drop] at e1 e2
    exact h.2 _ z p e1 e2
theorem tup_setR {H : Hp} {zs : List V} {ps : List (Int × Int)} {i : Nat} {t : Addr} {p : Int × Int} (h : TupL pr H zs ps) (e : H t = some (.tup (pr p))) : TupL pr H (zs.set i (.ref t)) (ps.set i p) := ⟨by rw [List.length_set, List.length_set, h.1], fun j z y e1 e2 => by
  rw [List.getElem?_set] at e1 e2
  by_cases hj : i = j
  · rw [if_pos hj] at e1 e2
    split at e1
    · split at e2
      · cases e1; cases e2; exact ⟨t, rfl, e⟩
      · cases e2
    · cases e1
  · rw [if_neg hj] at e1 e2
    exact h.2 j z y e1 e2⟩
section
variable {P : Program} {w : World} {K : PySem.W.Frag} {mg : Str → Option Value} {base : Heap}
theorem ok_Lvariant {a : Ad} (T : Txt K mg a) : FnOk P w K mg base CX0 2 a.f_Lvariant a.fd_Lvariant ["_law_rows_here", "_law_cell"] sp_Lvariant := by
  have G_Ldraws : FnOk P w K mg base CX0 1 a.f_Ldraws a.fd_Ldraws ["_law_cell", "_law_menus"] sp_Ldraws := ok_Ldraws T
  refine T.d_Lvariant.F.ok sc_Lvariant (fun vs H Q E h => ?_) (fun cdv A outer s H vs Q E hr h => ?_)
  · obtain ⟨q, c, rows, rfl, hrs, good, kk⟩ := h
    rfl
  · obtain ⟨q, c, rows, rfl, hrs, good, kk⟩ := h
    have hu := hu_of hr
    have hU := hr.units
    have h_Ldraws : Room (1) _ := hr.mono (by decide)
    refine ⟨_, (pss_cons (ps_asg (pe_call G_Ldraws h_Ldraws rfl T.d_Ldraws.m T.d_Ldraws.k T.d_Ldraws.b .nil pass0 (pa_cons (pv 1) (pa_cons (pe_lst (pa_cons pe_int (pa_cons pe_int (pa_cons (pe_op op_pow pe_int pe_int) (pa_cons pe_int pa_nil))))) pa_nil))) (pg_lst rfl (pgs_cons (pg_name (i := 2) (sc_Lvariant.nd) rfl (Or.inl rfl)) (pgs_cons (pg_name (i := 3) (sc_Lvariant.nd) rfl (Or.inl rfl)) (pgs_cons (pg_name (i := 4) (sc_Lvariant.nd) rfl (Or.inl rfl)) (pgs_cons (pg_name (i := 5) (sc_Lvariant.nd) rfl (Or.inl rfl)) pgs_nil))))))
      (pss_cons (ps_set (i := 3) sc_Lvariant.nd rfl (Or.inl rfl) (pe_op op_mod (pv 3) (pe_callB call_len (by rfl) T.n_len boot_len' (pa_cons (pv 0) pa_nil))))
      (pss_cons (ps_set (i := 6) sc_Lvariant.nd rfl (Or.inl rfl) (pe_callTy (r := rLof K) call_list_of (by rfl) T.n_list boot_list' (pa_cons (pv 0) pa_nil)))
      (pss_cons (ps_set (i := 7) sc_Lvariant.nd rfl (Or.inl rfl) (pe_op op_pow pe_int pe_int))
      (pss_cons (ps_if (pt_cmpR op_lt (pe_op uAdd (pv 3) pe_int) (pe_callB call_len (by rfl) T.n_len boot_len' (pa_cons (pv 0) pa_nil)) (nomark _))
        (pss_one (ps_set (i := 7) sc_Lvariant.nd rfl (Or.inl rfl) (pe_op op_sub (pe_ix (r := rIx K) ix_seq (pe_ix (r := rIx K) ix_seq (pv 0) (pe_op uAdd (pv 3) pe_int) (fun _ _ => rfl)) pe_int (fun _ _ => rfl)) pe_int)))
        pss_nil)
      (pss_cons (ps_if (PW.pt (pw_and (pt_cmpR (uEq hU) (pv 2) pe_int (nomark _)) (pw_and (pt_cmpR op_gt (pv 7) (pe_ix (r := rIx K) ix_seq (pe_ix (r := rIx K) ix_seq (pv 0) (pv 3) (fun _ _ => rfl)) pe_int (fun _ _ => rfl)) (nomark _)) (pw_and1 (pt_cmpR op_lt (pe_callB call_len (by rfl) T.n_len boot_len' (pa_cons (pv 0) pa_nil)) pe_int (nomark _))))))
        (pss_one (ps_expr (pe_bm PySem.F.plainAttrs_list PySem.F.slot_list_insert PySem.F.type_list_insert mt_ins (pv 6) (pa_cons (pe_op uAdd (pv 3) pe_int) (pa_cons (pe_tup (pa_cons (pe_op uAdd (pe_op uAdd (pe_ix (r := rIx K) ix_seq (pe_ix (r := rIx K) ix_seq (pv 0) (pv 3) (fun _ _ => rfl)) pe_int (fun _ _ => rfl)) pe_int) (pe_op op_mod (pv 4) (pe_op op_sub (pv 7) (pe_ix (r := rIx K) ix_seq (pe_ix (r := rIx K) ix_seq (pv 0) (pv 3) (fun _ _ => rfl)) pe_int (fun _ _ => rfl))))) (pa_cons (pe_ix (r := rIx K) ix_seq (pe_ix (r := rIx K) ix_seq (pv 0) (pv 3) (fun _ _ => rfl)) pe_int (fun _ _ => rfl)) pa_nil))) pa_nil)))))
        pss_nil)
      (pss_cons (ps_if (pt_cmpR (uEq hU) (pv 2) pe_int (nomark _))
        (pss_one (ps_asg (pe_tup (pa_cons (pe_ix (r := rIx K) ix_seq (pe_ix (r := rIx K) ix_seq (pv 0) (pv 3) (fun _ _ => rfl)) pe_int (fun _ _ => rfl)) (pa_cons (pe_op op_sub (pe_op op_mod (pe_op uAdd (pe_op uAdd (pe_ix (r := rIx K) ix_seq (pe_ix (r := rIx K) ix_seq (pv 0) (pv 3) (fun _ _ => rfl)) pe_int (fun _ _ => rfl)) pe_int) (pv 5)) pe_int) pe_int) pa_nil))) (pg_sub (pv 6) (pv 3) set_list)))
        pss_nil)
      (pss_cons (ps_if (PW.pt (pw_and (pt_cmpR (uEq hU) (pv 2) pe_int (nomark _)) (pw_and (pt_cmpR op_gt (pv 3) pe_int (nomark _)) (pw_and1 (pt_cmpR op_gt (pv 7) (pe_ix (r := rIx K) ix_seq (pe_ix (r := rIx K) ix_seq (pv 0) (pv 3) (fun _ _ => rfl)) pe_int (fun _ _ => rfl)) (nomark _))))))
        (pss_one (ps_asg (pe_tup (pa_cons (pe_op uAdd (pe_op uAdd (pe_ix (r := rIx K) ix_seq (pe_ix (r := rIx K) ix_seq (pv 0) (pv 3) (fun _ _ => rfl)) pe_int (fun _ _ => rfl)) pe_int) (pe_op op_mod (pv 4) (pe_op op_sub (pv 7) (pe_ix (r := rIx K) ix_seq (pe_ix (r := rIx K) ix_seq (pv 0) (pv 3) (fun _ _ => rfl)) pe_int (fun _ _ => rfl))))) (pa_cons (pe_ix (r := rIx K) ix_seq (pe_ix (r := rIx K) ix_seq (pv 0) (pv 3) (fun _ _ => rfl)) pe_int (fun _ _ => rfl)) pa_nil))) (pg_sub (pv 6) (pv 3) set_list)))
        pss_nil)
      (pss_one (ps_ret (pv 6))))))))))), ?_⟩
    try dsimp only [cxOf, Cx.nox]
    refine seq_go fun N1 h1 => ?_
    refine ⟨_, rfl, _, _, rfl, rfl, ⟨by decide, by decide, by decide⟩, small60 (Nat.le_of_ble_eq_true rfl), fun s0 fs0 => ?_⟩
    have U0 := Same.new (.lst [.int 4, .int 21, .int (10 ^ (9 : Int).toNat), .int 5760]) fs0
    refine ⟨c, s0, [4, 21, 1000000000, 5760], rfl, (by rw [upd_same]; rfl), (by decide), (by decide), fun d fs G fd S hd lf hfs => ?_⟩
    have SG := U0.trans S
    obtain ⟨y0, y1, y2, y3, rfl⟩ : ∃ a b c d, fs = [a, b, c, d] := by
      match fs, lf with
      | [a, b, c, d], _ => exact ⟨a, b, c, d, rfl⟩
    have b2 := hfs 2 y2 1000000000 rfl rfl
    have b3 := hfs 3 y3 5760 rfl rfl
    refine ⟨d, _, rfl, SqL.of hd, rfl, _, _, rfl, _, _, rfl, _, _, rfl, _, _, rfl, rfl, ?_⟩
    refine h1 _ _ ?_
    clear U0 S hd hfs lf
    obtain ⟨zs, hq, tp⟩ := hrs.same SG
    have lz : zs.length = rows.length := tp.1
    have pos := good.ne
    have few := good.few
    refine seq_go fun N2 h2 => ?_
    refine ⟨_, rfl, _, rfl, _, _, rfl, .inl ⟨_, SqL.of hq, rfl⟩, _, _, rfl, rfl, (by omega), ?_⟩
    refine h2 _ _ ?_
    have n1 := Int.emod_nonneg y1 (show (zs.length : Int) ≠ 0 by omega)
    have n2 := Int.emod_lt_of_pos y1 (show 0 < (zs.length : Int) by omega)
    obtain ⟨n, hn⟩ := Int.eq_ofNat_of_zero_le n1
    have hnr : n < rows.length := by omega
    try unfold tNext
    try dsimp only
    rw [hn]
    obtain ⟨r, hr'⟩ : ∃ r, rows[n]? = some r := ⟨_, List.getElem?_eq_getElem hnr⟩
    obtain ⟨u, hz, hu'⟩ := tp.at_ hr'
    have ok := good.ok r (List.mem_of_getElem? hr')
    have atn : atI zs (n : Int) = some (.ref u) := atI_nat hz
    refine seq_go fun N3 h3 => ?_
    refine ⟨_, rfl, q, zs, rfl, .inl (SqL.of hq), fun f ff => ?_⟩
    refine h3 _ _ ?_
    have Sf := Same.new (.lst zs) ff
    have fH : H f = none := SG.none ff
    have hf1 : (upd G f (.lst zs)) f = some (.lst zs) := upd_same
    have tf1 := tp.same Sf
    have hq1 := Sf _ _ hq
    have hu1 := Sf _ _ hu'
    have SH := SG.trans Sf
    have qf : q ≠ f := fun e => by rw [e] at hq; rw [hq] at ff; cases ff
    try unfold tNext
    try dsimp only
    generalize upd G f (.lst zs) = G1 at Sf hf1 tf1 hq1 hu1 SH ⊢
    refine seq_go fun N4 h4 => ?_
    refine ⟨_, _, rfl, rfl, ⟨by decide, by decide, by decide⟩, ?_⟩
    refine h4 _ _ ?_
    have e9 : (10 : Int) ^ (9 : Int).toNat = 1000000000 := by decide
    try unfold tNext
    try dsimp only
    refine seq_split (t := tIfS _ _ _) (fun σ' H' => H' = G1 ∧ ∃ la : Int, σ' = [some (.ref q), some (.int c), some (.int y0), some (.int (n : Int)), some (.int y2), some (.int y3), some (.ref f), some (.int la)] ∧ Lst rows n la) (fun N hN => ?_) ?_
    · refine ⟨_, rfl, .inl ⟨_, _, rfl, rfl, _, rfl, _, _, rfl, .inl ⟨_, SqL.of hq1, rfl⟩, _, _, rfl, rfl, _, rfl, iteD (fun g => ?_) (fun g => ?_)⟩⟩
      · have g' : n + 1 < rows.length := by
          have : (n : Int) + 1 < (zs.length : Int) := g
          omega
        obtain ⟨r1, hr1⟩ : ∃ r, rows[n + 1]? = some r := ⟨_, List.getElem?_eq_getElem g'⟩
        obtain ⟨u1, hz1, hu1'⟩ := tp.at_ hr1
        have at1 : atI zs ((n : Int) + 1) = some (.ref u1) := by rw [show (n : Int) + 1 = ((n + 1 : Nat) : Int) by omega]; exact atI_nat hz1
        refine ⟨_, rfl, _, rfl, .inl ⟨_, _, rfl, rfl, .inl ⟨q, _, _, _, rfl, rfl, SqL.of hq1, at1, .inr (.inl ⟨u1, _, _, _, rfl, rfl, SqT.of (Sf _ _ hu1'), rfl, _, _, rfl, rfl, ?_⟩)⟩⟩⟩
        exact hN _ _ ⟨rfl, r1.1 - 1, rfl, ⟨fun x e => (by rw [hr1] at e; cases e; rfl), fun z => absurd z (by omega)⟩⟩
      · have g' : rows.length ≤ n + 1 := by
          have : ¬ ((n : Int) + 1 < (zs.length : Int)) := g
          omega
        exact hN _ _ ⟨rfl, 10 ^ (9 : Int).toNat, rfl, ⟨fun x e => absurd (List.getElem?_eq_some_iff.mp e).1 (by omega), fun _ => e9⟩⟩
    rintro _ X0 ⟨eX, la, rfl, hl⟩
    subst eX
    refine seq_split (t := tIfS _ _ _) (fun σ' H' => ∃ (zs' : List V) (r' : List (Int × Int)), σ' = [some (.ref q), some (.int c), some (.int y0), some (.int (n : Int)), some (.int y2), some (.int y3), some (.ref f), some (.int la)] ∧ Same H H' ∧ H' f = some (.lst zs') ∧ TupL pr H' zs' r' ∧ Good r' ∧ (y0 ≠ 0 → r' = rows) ∧ H' q = some (.lst zs) ∧ H' u = some (.tup (pr r))) (fun N hN => ?_) ?_
    · have stay := hN _ _ ⟨zs, rows, rfl, SH, hf1, tf1, good, (fun _ => rfl), hq1, hu1⟩
      refine ⟨_, rfl, .inl ⟨rfl, _, rfl, iteD (fun g => ?_) (fun g => iteF stay)⟩⟩
      have g0 : y0 = 0 := by injection g
      refine ⟨_, rfl, _, rfl, _, rfl, .inl ⟨q, _, _, _, rfl, rfl, SqL.of hq1, atn, .inr (.inl ⟨u, _, _, _, rfl, rfl, SqT.of hu1, rfl, _, _, rfl, rfl, _, rfl, iteD (fun g2 => ?_) (fun g2 => iteF stay)⟩)⟩⟩
      have g2' : la > r.1 := g2
      refine ⟨_, rfl, _, _, rfl, .inl ⟨_, SqL.of hq1, rfl⟩, _, _, rfl, rfl, _, rfl, iteD (fun g3 => ?_) (fun g3 => stay)⟩
      have g3' : rows.length < 21 := by
        have : (zs.length : Int) < 21 := g3
        omega
      refine ⟨_, rfl, .inl ⟨rfl, _, SqL.of hf1⟩, _, rfl, .inl ⟨_, _, rfl, rfl, _, rfl, _, rfl, .inl ⟨q, _, _, _, rfl, rfl, SqL.of hq1, atn, .inr (.inl ⟨u, _, _, _, rfl, rfl, SqT.of hu1, rfl, .inl ⟨_, _, rfl, rfl, _, rfl, _, rfl, _, rfl, _, rfl, .inl ⟨q, _, _, _, rfl, rfl, SqL.of hq1, atn, .inr (.inl ⟨u, _, _, _, rfl, rfl, SqT.of hu1, rfl, _, _, rfl, rfl, _, _, rfl, rfl, (by omega), .inl ⟨_, _, rfl, rfl, _, rfl, _, rfl, .inl ⟨q, _, _, _, rfl, rfl, SqL.of hq1, atn, .inr (.inl ⟨u, _, _, _, rfl, rfl, SqT.of hu1, rfl, small60 (Nat.le_of_ble_eq_true rfl), fun tt ft => ?_⟩)⟩⟩⟩)⟩⟩⟩)⟩⟩⟩
      have e0 := Int.emod_nonneg y2 (show la - r.1 ≠ 0 by omega)
      have e1 := Int.emod_lt_of_pos y2 (show 0 < la - r.1 by omega)
      generalize y2 % (la - r.1) = e at e0 e1 ⊢
      have St := Same.new (.tup [.int (r.1 + 1 + e), .int r.2]) ft
      refine ⟨f, zs, n + 1, .ref tt, rfl, rfl, St _ _ hf1, (by omega), (by omega), small1000 (by omega), ?_⟩
      obtain ⟨ta, td⟩ := tup_takeD (tf1.same St) (n + 1)
      have one : TupL pr (upd X0 tt (.tup [.int (r.1 + 1 + e), .int r.2])) [.ref tt] [(r.1 + 1 + e, r.2)] := ⟨rfl, fun j z p e1 e2 => by
        cases j with
        | zero => cases e1; cases e2; exact ⟨tt, rfl, upd_same⟩
        | succ j => simp at e1⟩
      have nuf : u ≠ f := fun z => by rw [z] at hu1; rw [hf1] at hu1; cases hu1
      refine hN _ _ ⟨_, _, rfl, (SH.trans St).put fH _, upd_same, ((tup_app ta (tup_app one td)).put (St _ _ hf1)), good_ins good hr' hl g3' e0 e1, (fun z => absurd g0 z), (upd_ne qf).trans (St _ _ hq1), (upd_ne nuf).trans (St _ _ hu1)⟩
    rintro _ X1 ⟨zs1, r1, rfl, S1, hf2, tf2, good1, same1, hq2, hu2⟩
    refine seq_split (t := tIfS _ _ _) (fun σ' H' => ∃ (zs' : List V) (r' : List (Int × Int)), σ' = [some (.ref q), some (.int c), some (.int y0), some (.int (n : Int)), some (.int y2), some (.int y3), some (.ref f), some (.int la)] ∧ Same H H' ∧ H' f = some (.lst zs') ∧ TupL pr H' zs' r' ∧ Good r' ∧ (y0 = 2 → r' = rows) ∧ H' q = some (.lst zs) ∧ H' u = some (.tup (pr r))) (fun N hN => ?_) ?_
    · refine ⟨_, rfl, .inl ⟨rfl, _, rfl, iteD (fun g => ?_) (fun g => hN _ _ ⟨zs1, r1, rfl, S1, hf2, tf2, good1, (fun z => same1 (by omega)), hq2, hu2⟩)⟩⟩
      have g0 : y0 = 1 := by injection g
      have er := same1 (by omega)
      subst er
      refine ⟨_, rfl, _, rfl, .inl ⟨q, _, _, _, rfl, rfl, SqL.of hq2, atn, .inr (.inl ⟨u, _, _, _, rfl, rfl, SqT.of hu2, rfl, _, rfl, _, rfl, .inl ⟨q, _, _, _, rfl, rfl, SqL.of hq2, atn, .inr (.inl ⟨u, _, _, _, rfl, rfl, SqT.of hu2, rfl, .inl ⟨_, _, rfl, rfl, _, rfl, .inl ⟨_, _, rfl, rfl, _, _, rfl, rfl, (by show (0 : Int) < _; decide), _, _, rfl, rfl, small60 (Nat.le_of_ble_eq_true rfl), fun tt ft => ?_⟩⟩⟩)⟩⟩)⟩⟩
      have St := Same.new (.tup [.int r.1, .int ((r.2 + 2881 + y3) % 5761 - 2880)]) ft
      have l1 : zs1.length = r1.length := tf2.1
      refine ⟨_, rfl, _, rfl, f, _, _, n, rfl, rfl, St _ _ hf2, ixN_nat (by omega), ?_⟩
      have nuf : u ≠ f := fun z => by rw [z] at hu2; rw [hf2] at hu2; cases hu2
      exact hN _ _ ⟨_, _, rfl, (S1.trans St).put fH _, upd_same, (tup_setR (tf2.same St) (i := n) (p := (r.1, (r.2 + 2881 + y3) % 5761 - 2880)) upd_same).put (St _ _ hf2), good_shift good1 hr' (by omega) (by omega), (fun z => by omega), (upd_ne qf).trans (St _ _ hq2), (upd_ne nuf).trans (St _ _ hu2)⟩
    rintro _ X2 ⟨zs2, r2, rfl, S2, hf3, tf3, good2, same2, hq3, hu3⟩
    refine seq_split (t := tIfS _ _ _) (fun σ' H' => ∃ (zs' : List V) (r' : List (Int × Int)), σ' = [some (.ref q), some (.int c), some (.int y0), some (.int (n : Int)), some (.int y2), some (.int y3), some (.ref f), some (.int la)] ∧ Same H H' ∧ H' f = some (.lst zs') ∧ TupL pr H' zs' r' ∧ Good r') (fun N hN => ?_) ?_
    · have stay := hN _ _ ⟨zs2, r2, rfl, S2, hf3, tf3, good2⟩
      refine ⟨_, rfl, .inl ⟨rfl, _, rfl, iteD (fun g => ?_) (fun g => iteF stay)⟩⟩
      have g0 : y0 = 2 := by injection g
      have er := same2 g0
      subst er
      refine ⟨_, rfl, _, _, rfl, rfl, _, rfl, iteD (fun g2 => ?_) (fun g2 => iteF stay)⟩
      have g2' : 0 < n := by
        have : (0 : Int) < (n : Int) := g2
        omega
      refine ⟨_, rfl, _, rfl, _, rfl, .inl ⟨q, _, _, _, rfl, rfl, SqL.of hq3, atn, .inr (.inl ⟨u, _, _, _, rfl, rfl, SqT.of hu3, rfl, _, _, rfl, rfl, _, rfl, iteD (fun g3 => ?_) (fun g3 => stay)⟩)⟩⟩
      have g3' : la > r.1 := g3
      refine ⟨_, rfl, _, rfl, .inl ⟨q, _, _, _, rfl, rfl, SqL.of hq3, atn, .inr (.inl ⟨u, _, _, _, rfl, rfl, SqT.of hu3, rfl, .inl ⟨_, _, rfl, rfl, _, rfl, _, rfl, _, rfl, _, rfl, .inl ⟨q, _, _, _, rfl, rfl, SqL.of hq3, atn, .inr (.inl ⟨u, _, _, _, rfl, rfl, SqT.of hu3, rfl, _, _, rfl, rfl, _, _, rfl, rfl, (by omega), .inl ⟨_, _, rfl, rfl, _, rfl, _, rfl, .inl ⟨q, _, _, _, rfl, rfl, SqL.of hq3, atn, .inr (.inl ⟨u, _, _, _, rfl, rfl, SqT.of hu3, rfl, small60 (Nat.le_of_ble_eq_true rfl), fun tt ft => ?_⟩)⟩⟩⟩)⟩⟩⟩)⟩⟩
      have e0 := Int.emod_nonneg y2 (show la - r.1 ≠ 0 by omega)
      have e1 := Int.emod_lt_of_pos y2 (show 0 < la - r.1 by omega)
      generalize y2 % (la - r.1) = e at e0 e1 ⊢
      have St := Same.new (.tup [.int (r.1 + 1 + e), .int r.2]) ft
      have l2 : zs2.length = r2.length := tf3.1
      refine ⟨_, rfl, _, rfl, f, _, _, n, rfl, rfl, St _ _ hf3, ixN_nat (by omega), ?_⟩
      exact hN _ _ ⟨_, _, rfl, (S2.trans St).put fH _, upd_same, (tup_setR (tf3.same St) (i := n) (p := (r.1 + 1 + e, r.2)) upd_same).put (St _ _ hf3), good_move good2 hr' hl g2' e0 e1⟩
    rintro _ X3 ⟨zs3, r3, rfl, S3, hf4, tf4, good3⟩
    exact ⟨_, rfl, kk f r3 X3 fH S3 ⟨zs3, hf4, tf4⟩ good3⟩
end
end K28
set_option Elab.async false
set_option linter.all false
set_option maxRecDepth 100000
namespace K28
open PySem L2 PySem.NumText PyProof.Rows KC
section
variable {P : Program} {w : World} {K : PySem.W.Frag} {mg : Str → Option Value} {base : Heap}
end
theorem rIx_any {K : PySem.W.Frag} {G : Hp} {l : Addr} {ns : List Int} {d : Int} {Q : VK} (e : G l = some (.lst (ns.map V.int))) (d0 : 0 ≤ d) (d1 : d < ns.length) (k : ∀ i ∈ ns, Q (.int i) G) : rIx K (.ref l) (.int d) G Q := by
  obtain ⟨v, hv, mv⟩ := atI_mem (xs := ns.map V.int) d0 (by rw [List.length_map]; exact d1)
  obtain ⟨i, mi, rfl⟩ := List.mem_map.mp mv
  exact .inl ⟨l, _, _, _, rfl, rfl, SqL.of e, hv, k i mi⟩
theorem na_bd {rows : List (Int × Int)} (g : Good rows) {t : Int} (t0 : 0 ≤ t) : ∃ r rs, rows = r :: rs ∧ -2880 ≤ lna r.2 t rows ∧ lna r.2 t rows ≤ 2880 := by
  obtain ⟨r, rs, e, h⟩ := g.na t0
  obtain ⟨x, mx, ex⟩ := na_mem h
  have := g.ok x mx
  exact ⟨r, rs, e, by omega, by omega⟩
theorem cut63 (ns : List Int) (h : ns.length ≤ 63) (lo hi : Option Int) : ∃ part : List Int, cutV (ns.map V.int) lo hi = part.map V.int ∧ part.length ≤ 63 := by
  refine ⟨(ns.drop (HT.sIx (ns.map V.int).length 0 lo)).take (HT.sIx (ns.map V.int).length (ns.map V.int).length hi - HT.sIx (ns.map V.int).length 0 lo), ?_, ?_⟩
  · unfold cutV
    rw [List.map_take, List.map_drop]
  · exact Nat.le_trans (List.length_take_le' _ _) (Nat.le_trans (by rw [List.length_drop]; exact Nat.sub_le _ _) h)
noncomputable abbrev rD (r : Int × Int) : PyData := .tuple [.int r.1, .int r.2]
theorem rows_dv {H : Hp} : ∀ {rows : List (Int × Int)} {zs : List V}, TupL pr H zs rows → DVs H zs (rows.map rD) ∧ PyData.canLayAll0 (rows.map rD) = true ∧ PyData.depthAll (rows.map rD) ≤ 2
  | [], zs, h => by
    have : zs = [] := List.eq_nil_of_length_eq_zero h.1
    subst this
    exact ⟨.nil, rfl, by simp [PyData.depthAll]⟩
  | r :: rows, zs, h => by
    cases zs with
    | nil => have := h.1; simp at this
    | cons z zs =>
      obtain ⟨t, rfl, ht⟩ := h.2 0 z r rfl rfl
      obtain ⟨h1, h2, h3⟩ := rows_dv (rows := rows) (zs := zs) ⟨by have := h.1; simpa using this, fun i z p e1 e2 => h.2 (i + 1) z p (by simpa using e1) (by simpa using e2)⟩
      refine ⟨.cons (.tup (.inl ht) (.cons (.int _) (.cons (.int _) .nil))) h1, ?_, ?_⟩
      · rw [List.map_cons]
        simp only [PyData.canLayAll0, PyData.canLay0, h2]
        rfl
      · rw [List.map_cons]
        simp only [PyData.depthAll, PyData.depth]
        omega
theorem rows_sh {rows : List (Int × Int)} (h1 : PyData.canLayAll0 (rows.map rD) = true) (h2 : PyData.depthAll (rows.map rD) ≤ 2) : PyData.canLay0 (.list (rows.map rD)) = true ∧ SeqAt.shaped (.list (rows.map rD)) = true := by
  have cl : PyData.canLay0 (.list (rows.map rD)) = true := by simp only [PyData.canLay0, h1]
  refine ⟨cl, ?_⟩
  unfold SeqAt.shaped
  rw [cl, Bool.true_and]
  refine decide_eq_true ?_
  simp only [PyData.depth]
  omega
theorem eqv_rows : ∀ r1 r2 : List (Int × Int), PyData.eqvAll (r1.map rD) (r2.map rD) = decide (r1 = r2)
  | [], [] => rfl
  | [], _ :: _ => rfl
  | _ :: _, [] => rfl
  | a :: r1, b :: r2 => by
    show ((a.1 == b.1 && (a.2 == b.2 && true)) && PyData.eqvAll (r1.map rD) (r2.map rD)) = _
    rw [eqv_rows r1 r2, Bool.and_true]
    by_cases e1 : a.1 = b.1
    · by_cases e2 : a.2 = b.2
      · have e : a = b := Prod.ext e1 e2
        subst e
        simp
      · rw [decide_eq_false (fun z => e2 (congrArg Prod.snd (List.cons.inj z).1)), beq_eq_false_iff_ne.mpr e2, Bool.and_false, Bool.false_and]
    · rw [decide_eq_false (fun z => e1 (congrArg Prod.fst (List.cons.inj z).1)), beq_eq_false_iff_ne.mpr e1, Bool.false_and, Bool.false_and]
theorem eq_rowsB {H : Hp} {a b : Addr} {r1 r2 : List (Int × Int)} {Q : VK} (h1 : Rs H a r1) (h2 : Rs H b r2) (q : Q (.bl (decide (r1 = r2))) H) : rEqU (.ref a) (.ref b) H Q := by
  obtain ⟨zs, ha, ta⟩ := h1
  obtain ⟨ys, hb, tb⟩ := h2
  obtain ⟨d1, d2, d3⟩ := rows_dv ta
  obtain ⟨e1, e2, e3⟩ := rows_dv tb
  refine .inr ⟨_, _, .lst (.inl ha) d1, .lst (.inl hb) e1, (rows_sh d2 d3).2, (rows_sh e2 e3).2, ?_⟩
  show Q (.bl (PyData.eqvAll (r1.map rD) (r2.map rD))) H
  rw [eqv_rows]
  exact q
theorem far_len (due : List (Int × Int)) : (far due).isNone = decide (((due.filter fun r => !inS r).length : Int) = 0) := by
  by_cases h : ∀ x ∈ due, inS x = true
  · rw [far_all h, List.filter_eq_nil_iff.mpr fun x m => by rw [h x m]; decide]; rfl
  · have : due.filter (fun r => !inS r) ≠ [] := fun z => h fun x m => by
      have := List.filter_eq_nil_iff.mp z x m
      simpa using this
    have hl : ¬ (((due.filter fun r => !inS r).length : Int) = 0) := fun z => this (List.eq_nil_of_length_eq_zero (by omega))
    rw [decide_eq_false hl]
    cases e : far due with
    | none => exact absurd (fun x m => by
        have := List.findIdx?_eq_none_iff.mp e x m
        simpa using this) h
    | some j => rfl
theorem cn_int (due : List (Int × Int)) (n : Nat) (e : n = due.length) : cn due = (decide ((n : Int) < 22) && decide (((due.filter fun r => !inS r).length : Int) = 0)) := by
  unfold cn
  rw [far_len, e]
  congr 1
  exact decide_eq_decide.mpr (by omega)
section
variable {P : Program} {w : World} {K : PySem.W.Frag} {mg : Str → Option Value} {base : Heap}
theorem ok_Lbehind {a : Ad} (T : Txt K mg a) : FnOk P w K mg base CX0 2 a.f_Lbehind a.fd_Lbehind ["_law_rows_here", "_law_others", "_law_moment_here", "_law_minutes_here"] sp_Lbehind := by
  have G_Lshortest : FnOk P w K mg base CX0 1 a.f_Lshortest a.fd_Lshortest ["_law_rows_here"] sp_Lshortest := ok_Lshortest T
  have G_Lnumber_at : FnOk P w K mg base CX0 1 a.f_Lnumber_at a.fd_Lnumber_at ["_law_rows_here", "_law_moment_here"] sp_Lnumber_at := ok_Lnumber_at T
  refine T.d_Lbehind.F.ok sc_Lbehind (fun vs H Q E h => ?_) (fun cdv A outer s H vs Q E hr h => ?_)
  · obtain ⟨q, p, t, m, rows, others, rfl, hrs, good, hrp, goodo, t0, kk⟩ := h
    rfl
  · obtain ⟨q, p, t, m, rows, others, rfl, hrs, good, hrp, goodo, t0, kk⟩ := h
    have hu := hu_of hr
    have hU := hr.units
    have h_Lshortest : Room (1) _ := hr.mono (by decide)
    have h_Lnumber_at : Room (1) _ := hr.mono (by decide)
    refine ⟨_, (pss_cons (ps_setC (i := 4) sc_Lbehind.nd rfl (Or.inl rfl) rfl (CompOk.def ["_law_row", "_law_moment_here"] [none, some 2]) (pi_list (pv 0)) (fun _ _ _ _ _ => (pg_name (i := 0) (show List.Nodup (["_law_row", "_law_moment_here"] : List Str) by decide +kernel) rfl (Or.inl rfl))) (fun _ _ _ _ _ => (pts_one (pt_cmpR op_lt (pe_ix (r := rIx K) ix_seq (pv 0) pe_int (fun _ _ => rfl)) (pv 1) (nomark _)))) (fun _ _ _ _ _ => (pv 0)))
      (pss_cons (ps_expr (pe_bm PySem.F.plainAttrs_list PySem.F.slot_list_append PySem.F.type_list_append mt_append (pv 4) (pa_cons (pe_tup (pa_cons (pv 2) (pa_cons (pe_op uAdd (pe_call G_Lnumber_at h_Lnumber_at rfl T.d_Lnumber_at.m T.d_Lnumber_at.k T.d_Lnumber_at.b .nil pass0 (pa_cons (pv 1) (pa_cons (pv 2) pa_nil))) (pv 3)) pa_nil))) pa_nil)))
      (pss_one (ps_ret (pe_call G_Lshortest h_Lshortest rfl T.d_Lshortest.m T.d_Lshortest.k T.d_Lshortest.b .nil pass0 (pa_cons (pe_op uAdd (pv 4) (pe_comp rfl (CompOk.def ["_law_row", "_law_minutes_here", "_law_moment_here"] [none, some 3, some 2]) (pi_list (pv 1)) (fun _ _ _ _ _ => (pg_name (i := 0) (show List.Nodup (["_law_row", "_law_minutes_here", "_law_moment_here"] : List Str) by decide +kernel) rfl (Or.inl rfl))) (fun _ _ _ _ _ => (pts_one (pt_cmpR op_gt (pe_ix (r := rIx K) ix_seq (pv 0) pe_int (fun _ _ => rfl)) (pv 2) (nomark _)))) (fun _ _ _ _ _ => (pe_tup (pa_cons (pe_ix (r := rIx K) ix_seq (pv 0) pe_int (fun _ _ => rfl)) (pa_cons (pe_op uAdd (pe_ix (r := rIx K) ix_seq (pv 0) pe_int (fun _ _ => rfl)) (pv 1)) pa_nil)))))) pa_nil)))))), ?_⟩
    try dsimp only [cxOf, Cx.nox]
    obtain ⟨zs, hq, tp⟩ := id hrs
    have few := good.few
    have fewo := goodo.few
    have lz : zs.length = rows.length := tp.1
    refine ⟨_, rfl, q, rfl, ⟨_, SqL.of hq⟩, fun D1 fD1 => ?_⟩
    refine comp_list (K := K) (a := q) (xs := zs) (D := D1) (fun j σ H2 => ∃ (c0 : Option V) (cs : List V), σ = [c0, some (.int t)] ∧ Same H H2 ∧ H2 D1 = some (.lst cs) ∧ TupL pr H2 cs (bef (rows.take j) t)) ⟨none, [], rfl, Same.new _ fD1, upd_same, .nil⟩ (fun j σ H2 _ ⟨_, _, _, S', _⟩ => SqL.of (S' _ _ hq)) ?_ ?_
    · rintro j z σ H2 hz ⟨c0, cs, rfl, S', hC, tc⟩
      obtain ⟨r, u, hr', rfl, hu'⟩ := tp.of hz
      have hu2 := S' _ _ hu'
      have et : rows.take (j + 1) = rows.take j ++ [r] := by rw [List.take_add_one, hr']; rfl
      have lc : cs.length ≤ 64 := by
        have := bef_len (rows.take j) t
        rw [List.length_take] at this
        rw [tc.1]; omega
      refine ⟨_, rfl, .inr (.inl ⟨u, _, _, _, rfl, rfl, SqT.of hu2, rfl, _, rfl, _, _, rfl, rfl, _, rfl, iteD (fun g => ?_) (fun g => ?_)⟩)⟩
      · refine ⟨_, rfl, _, hC, small1000 (by omega), _, cs ++ [.ref u], rfl, S'.put fD1 _, upd_same, ?_⟩
        rw [et, bef_snoc, if_pos (show r.1 < t from g)]
        exact (tc.snoc (p := r) hu2).put hC
      · refine ⟨_, cs, rfl, S', hC, ?_⟩
        rw [et, bef_snoc, if_neg (show ¬ r.1 < t from g), List.append_nil]
        exact tc
    rintro σ1 G2 ⟨c0, cs, rfl, S2, hC, tc⟩
    rw [lz, List.take_length] at tc
    have lc := bef_len rows t
    have ld := aft_len others t
    have lcs : cs.length ≤ 21 := by rw [tc.1]; omega
    obtain ⟨ro, rso, er, hn⟩ := goodo.na t0
    have hro2 := hrp.same S2
    try unfold tNext
    try dsimp only
    refine ⟨_, rfl, .inl ⟨rfl, _, SqL.of hC⟩, _, rfl, _, rfl, _, rfl, p, t, ro, rso, rfl, by rw [← er]; exact hro2, _, rfl, .inl ⟨_, _, rfl, rfl, small60 (Nat.le_of_ble_eq_true rfl), fun tt ft => ?_⟩⟩
    rw [← er] at *
    have St := Same.new (.tup [.int t, .int (lna ro.2 t others + m)]) ft
    have hC3 := St _ _ hC
    refine ⟨D1, _, _, rfl, rfl, hC3, small1000 (by omega), ?_⟩
    have S3 : Same H (upd (upd G2 tt (.tup [.int t, .int (lna ro.2 t others + m)])) D1 (.lst (cs ++ [.ref tt]))) := (S2.trans St).put fD1 _
    have hD3 : (upd (upd G2 tt (.tup [.int t, .int (lna ro.2 t others + m)])) D1 (.lst (cs ++ [.ref tt]))) D1 = some (.lst (cs ++ [.ref tt])) := upd_same
    have tD3 : TupL pr (upd (upd G2 tt (.tup [.int t, .int (lna ro.2 t others + m)])) D1 (.lst (cs ++ [.ref tt]))) (cs ++ [.ref tt]) (bef rows t ++ [(t, lna ro.2 t others + m)]) := ((tc.same St).snoc (p := (t, lna ro.2 t others + m)) upd_same).put hC3
    try unfold tNext
    try dsimp only
    generalize upd (upd G2 tt (.tup [.int t, .int (lna ro.2 t others + m)])) D1 (.lst (cs ++ [.ref tt])) = G3 at S3 hD3 tD3 ⊢
    obtain ⟨ze, hp, te⟩ := hrp.same S3
    have le : ze.length = others.length := te.1
    refine ⟨_, rfl, _, rfl, p, rfl, ⟨_, SqL.of hp⟩, fun D2 fD2 => ?_⟩
    refine comp_list (K := K) (a := p) (xs := ze) (D := D2) (fun j σ H2 => ∃ (c0 : Option V) (ds : List V), σ = [c0, some (.int m), some (.int t)] ∧ Same G3 H2 ∧ H2 D2 = some (.lst ds) ∧ TupL pr H2 ds ((aft (others.take j) t).map (up m))) ⟨none, [], rfl, Same.new _ fD2, upd_same, .nil⟩ (fun j σ H2 _ ⟨_, _, _, S', _⟩ => SqL.of (S' _ _ hp)) ?_ ?_
    · rintro j z σ H2 hz ⟨c0, ds, rfl, S', hE, td⟩
      obtain ⟨r, u, hr', rfl, hu'⟩ := te.of hz
      have hu2 := S' _ _ hu'
      have et : others.take (j + 1) = others.take j ++ [r] := by rw [List.take_add_one, hr']; rfl
      have lc : ds.length ≤ 64 := by
        have := aft_len (others.take j) t
        rw [List.length_take] at this
        rw [td.1, List.length_map]; omega
      refine ⟨_, rfl, .inr (.inl ⟨u, _, _, _, rfl, rfl, SqT.of hu2, rfl, _, rfl, _, _, rfl, rfl, _, rfl, iteD (fun g => ?_) (fun g => ?_)⟩)⟩
      · refine ⟨_, rfl, .inr (.inl ⟨u, _, _, _, rfl, rfl, SqT.of hu2, rfl, _, rfl, .inr (.inl ⟨u, _, _, _, rfl, rfl, SqT.of hu2, rfl, _, rfl, .inl ⟨_, _, rfl, rfl, small60 (Nat.le_of_ble_eq_true rfl), fun t2 ft2 => ?_⟩⟩)⟩)⟩
        have P2 := Same.new (.tup [.int r.1, .int (r.2 + m)]) ft2
        have hE2 := P2 _ _ hE
        refine ⟨_, hE2, small1000 (by omega), _, ds ++ [.ref t2], rfl, (S'.trans P2).put fD2 _, upd_same, ?_⟩
        rw [et, aft_snoc, if_pos (show r.1 > t from g), List.map_append]
        exact ((td.same P2).snoc (p := up m r) upd_same).put hE2
      · refine ⟨_, ds, rfl, S', hE, ?_⟩
        rw [et, aft_snoc, if_neg (show ¬ r.1 > t from g), List.append_nil]
        exact td
    rintro σ2 G4 ⟨c1, ds, rfl, S4, hE, td⟩
    rw [le, List.take_length] at td
    have lds : ds.length ≤ 21 := by rw [td.1, List.length_map]; omega
    have U4 := S3.trans S4
    refine .inr (.inl ⟨D1, D2, _, _, rfl, rfl, S4 _ _ hD3, hE, (Nat.le_of_lt (small1000 (by rw [List.length_append]; show cs.length + 1 + ds.length ≤ 1000; omega))), fun s1 fs1 => ?_⟩)
    have A1 := Same.new (.lst (cs ++ [.ref tt] ++ ds)) fs1
    have tall := (tup_app (tD3.same S4) td).same A1
    have eb : beh rows others t m = sr [] (bef rows t ++ [(t, lna ro.2 t others + m)] ++ (aft others t).map (up m)) := by unfold beh; rw [hn]; rfl
    have rl : (bef rows t ++ [(t, lna ro.2 t others + m)] ++ (aft others t).map (up m)).length ≤ 64 := by rw [List.length_append, List.length_append, List.length_map]; show (bef rows t).length + 1 + (aft others t).length ≤ 64; omega
    refine ⟨s1, _, rfl, ⟨_, upd_same, tall⟩, rl, fun d H' fd S R => ?_⟩
    rw [← eb] at R
    exact kk d H' ((U4.trans A1).none fd) ((U4.trans A1).trans S) R
theorem ok_Lminutes {a : Ad} (T : Txt K mg a) : FnOk P w K mg base CX0 2 a.f_Lminutes a.fd_Lminutes ["_law_rows_here", "_law_moment_here", "_law_number"] sp_Lminutes := by
  have G_Lnumber_at : FnOk P w K mg base CX0 1 a.f_Lnumber_at a.fd_Lnumber_at ["_law_rows_here", "_law_moment_here"] sp_Lnumber_at := ok_Lnumber_at T
  refine T.d_Lminutes.F.ok sc_Lminutes (fun vs H Q E h => ?_) (fun cdv A outer s H vs Q E hr h => ?_)
  · obtain ⟨q, t, c, rows, rfl, hrs, good, t0, c0, c1, kk⟩ := h
    rfl
  · obtain ⟨q, t, c, rows, rfl, hrs, good, t0, c0, c1, kk⟩ := h
    have hu := hu_of hr
    have hU := hr.units
    have h_Lnumber_at : Room (1) _ := hr.mono (by decide)
    refine ⟨_, (pss_cons (ps_set (i := 3) sc_Lminutes.nd rfl (Or.inl rfl) (pe_op op_sub (pe_call G_Lnumber_at h_Lnumber_at rfl T.d_Lnumber_at.m T.d_Lnumber_at.k T.d_Lnumber_at.b .nil pass0 (pa_cons (pv 0) (pa_cons (pe_callB (call_max2 rfl) (by rfl) T.n_max boot_max' (pa_cons pe_int (pa_cons (pe_op op_sub (pv 1) pe_int) pa_nil))) pa_nil))) (pe_call G_Lnumber_at h_Lnumber_at rfl T.d_Lnumber_at.m T.d_Lnumber_at.k T.d_Lnumber_at.b .nil pass0 (pa_cons (pv 0) (pa_cons (pv 1) pa_nil)))))
      (pss_one (ps_ret (pe_ix (r := rIx K) ix_seq (pe_lst (pa_cons (pv 3) (pa_cons (pe_op op_sub (pe_op op_mod (pv 2) pe_int) pe_int) (pa_cons (pe_op op_mul (pe_op op_sub (pe_op op_mod (pv 2) pe_int) pe_int) pe_int) (pa_cons (pe_op op_sub (pe_op op_mod (pv 2) pe_int) pe_int) pa_nil))))) (pe_op op_fdiv (pv 2) pe_int) (fun _ _ => rfl))))), ?_⟩
    try dsimp only [cxOf, Cx.nox]
    obtain ⟨mx, emx, mx0⟩ : ∃ mx : Int, (if 0 < t - 1 then t - 1 else 0) = mx ∧ 0 ≤ mx := ⟨_, rfl, by split <;> omega⟩
    obtain ⟨r1, rs1, er1, a1, a2⟩ := na_bd good mx0
    obtain ⟨r2, rs2, er2, b1, b2⟩ := na_bd good t0
    refine ⟨_, rfl, _, rfl, _, _, rfl, rfl, _, _, rfl, q, mx, r1, rs1, congrArg (fun z => [V.ref q, .int z]) emx, (by rw [← er1]; exact hrs), _, rfl, _, rfl, q, t, r2, rs2, rfl, (by rw [← er2]; exact hrs), _, _, rfl, rfl, ?_⟩
    rw [← er1, ← er2]
    try unfold tNext
    try dsimp only
    generalize eah : lna r1.2 mx rows - lna r2.2 t rows = ahd
    have h1 : -5760 ≤ ahd := by omega
    have h2 : ahd ≤ 5760 := by omega
    clear eah
    refine ⟨_, rfl, _, rfl, _, _, rfl, rfl, (by show (0 : Int) < _; decide), _, _, rfl, rfl, _, rfl, _, _, rfl, rfl, (by show (0 : Int) < _; decide), _, _, rfl, rfl, _, _, rfl, rfl, .inr ⟨by decide, by decide⟩, _, rfl, _, _, rfl, rfl, (by show (0 : Int) < _; decide), _, _, rfl, rfl, small60 (Nat.le_of_ble_eq_true rfl), fun l1 fl1 => ⟨_, rfl, _, _, rfl, rfl, ⟨by decide, by decide⟩, ?_⟩⟩
    have A1 := Same.new (.lst ([ahd, c % 9 - 4, (c % 7 - 3) * 60, c % 11521 - 5760].map V.int)) fl1
    refine rIx_any (ns := [ahd, c % 9 - 4, (c % 7 - 3) * 60, c % 11521 - 5760]) upd_same (by omega) (show c / 11521 < 4 by omega) fun m mm => ?_
    simp only [List.mem_cons, List.not_mem_nil, or_false] at mm
    exact kk m _ A1 (by rcases mm with e | e | e | e <;> omega) (by rcases mm with e | e | e | e <;> omega)
end
end K28
set_option Elab.async false
set_option linter.all false
set_option maxRecDepth 100000
namespace K28
open PySem L2 PySem.NumText PyProof.Rows KC
section
variable {P : Program} {w : World} {K : PySem.W.Frag} {mg : Str → Option Value} {base : Heap}
theorem ok_Lcan {a : Ad} (T : Txt K mg a) : FnOk P w K mg base CX0 1 a.f_Lcan a.fd_Lcan ["_law_due"] sp_Lcan := by
  refine T.d_Lcan.F.ok sc_Lcan (fun vs H Q E h => ?_) (fun cdv A outer s H vs Q E hr h => ?_)
  · obtain ⟨q, due, rfl, hrd, few, kk⟩ := h
    rfl
  · obtain ⟨q, due, rfl, hrd, few, kk⟩ := h
    have hu := hu_of hr
    have hU := hr.units
    refine ⟨_, (pss_one (ps_ret (pe_and (pe_cmpR op_lt (pe_callB call_len (by rfl) T.n_len boot_len' (pa_cons (pv 0) pa_nil)) pe_int (nomark _)) (pe_one (pe_cmpR (uEq hU) (pe_callB call_len (by rfl) T.n_len boot_len' (pa_cons (pe_comp rfl (CompOk.def ["_law_row"] [none]) (pi_list (pv 0)) (fun _ _ _ _ _ => (pg_name (i := 0) (show List.Nodup (["_law_row"] : List Str) by decide +kernel) rfl (Or.inl rfl))) (fun _ _ _ _ _ => (pts_one (PW.pt (pw_or (pt_cmpR op_lt (pe_ix (r := rIx K) ix_seq (pv 0) pe_int (fun _ _ => rfl)) (pe_un un_neg pe_int) (nomark _)) (pw_or1 (pt_cmpR op_gt (pe_ix (r := rIx K) ix_seq (pv 0) pe_int (fun _ _ => rfl)) pe_int (nomark _))))))) (fun _ _ _ _ _ => (pv 0))) pa_nil)) pe_int (nomark _)))))), ?_⟩
    try dsimp only [cxOf, Cx.nox]
    obtain ⟨zs, hq, tp⟩ := id hrd
    have lz : zs.length = due.length := tp.1
    have ec := cn_int due zs.length lz
    refine ⟨_, rfl, _, _, rfl, .inl ⟨_, SqL.of hq, rfl⟩, _, _, rfl, rfl, _, rfl, iteD (fun g => ?_) (fun g => ?_)⟩
    · have g' : (zs.length : Int) < 22 := g
      rw [decide_eq_true g', Bool.true_and] at ec
      refine ⟨_, rfl, q, rfl, ⟨_, SqL.of hq⟩, fun D fD => ?_⟩
      refine comp_list (K := K) (a := q) (xs := zs) (D := D) (fun j σ H2 => ∃ (c0 : Option V) (cs : List V), σ = [c0] ∧ Same H H2 ∧ H2 D = some (.lst cs) ∧ cs.length = ((due.take j).filter fun r => !inS r).length) ⟨none, [], rfl, Same.new _ fD, upd_same, rfl⟩ (fun j σ H2 _ ⟨_, _, _, S', _⟩ => SqL.of (S' _ _ hq)) ?_ ?_
      · rintro j z σ H2 hz ⟨c0, cs, rfl, S', hC, lc⟩
        obtain ⟨r, u, hr', rfl, hu'⟩ := tp.of hz
        have hu2 := S' _ _ hu'
        have hj : j < due.length := (List.getElem?_eq_some_iff.mp hr').1
        have l64 : cs.length ≤ 64 := by
          have := List.length_filter_le (fun r => !inS r) (due.take j)
          rw [List.length_take] at this
          omega
        have et : due.take (j + 1) = due.take j ++ [r] := by rw [List.take_add_one, hr']; rfl
        have yes : inS r = false → (cs ++ [V.ref u]).length = ((due.take (j + 1)).filter fun r => !inS r).length := fun b => by
          rw [et, List.filter_append, List.length_append, List.length_append, lc, List.filter_cons_of_pos (by rw [b]; rfl)]; rfl
        refine ⟨_, rfl, .inr (.inl ⟨u, _, _, _, rfl, rfl, SqT.of hu2, rfl, _, rfl, _, _, rfl, rfl, _, rfl, iteD (fun g => ?_) (fun g => ?_)⟩)⟩
        · have hb : inS r = false := by
            have : r.2 < -2880 := g
            unfold inS
            rw [decide_eq_false (by omega), Bool.false_and]
          exact iteT ⟨_, rfl, _, hC, small1000 (by omega), _, cs ++ [.ref u], rfl, S'.put fD _, upd_same, yes hb⟩
        refine ⟨_, rfl, .inr (.inl ⟨u, _, _, _, rfl, rfl, SqT.of hu2, rfl, _, _, rfl, rfl, _, rfl, iteD (fun g2 => ?_) (fun g2 => ?_)⟩)⟩
        · have hb : inS r = false := by
            have : r.2 > 2880 := g2
            unfold inS
            rw [decide_eq_false (show ¬ r.2 ≤ 2880 by omega), Bool.and_false]
          exact ⟨_, rfl, _, hC, small1000 (by omega), _, cs ++ [.ref u], rfl, S'.put fD _, upd_same, yes hb⟩
        · have hb : inS r = true := by
            have h1 : ¬ r.2 < -2880 := g
            have h2 : ¬ r.2 > 2880 := g2
            unfold inS
            rw [decide_eq_true (by omega), decide_eq_true (by omega)]; rfl
          refine ⟨_, cs, rfl, S', hC, ?_⟩
          rw [et, List.filter_append, List.length_append, lc, List.filter_cons_of_neg (by rw [hb]; decide)]; rfl
      rintro σ G ⟨c0, cs, rfl, S, hC, lc⟩
      rw [lz, List.take_length] at lc
      rw [← lc] at ec
      refine ⟨_, _, rfl, .inl ⟨_, SqL.of hC, rfl⟩, .inl ⟨rfl, ?_⟩⟩
      have e2 : decide (V.int (cs.length : Int) = V.int 0) = cn due := by rw [ec]; exact decide_eq_decide.mpr ⟨fun z => by injection z, fun z => by rw [z]⟩
      rw [e2]
      exact kk _ S
    · have g' : ¬ (zs.length : Int) < 22 := g
      rw [decide_eq_false g', Bool.false_and] at ec
      have := kk _ (Same.refl H)
      rw [ec] at this
      exact this
theorem ok_Lput {a : Ad} (T : Txt K mg a) : FnOk P w K mg base CX0 10 a.f_Lput a.fd_Lput ["_law_table", "_law_moment_here", "_law_minutes_here"] (sp_Lput a) := by
  have G_put_on : FnOk P w K mg base (CX1 P w) 9 a.f_put_on a.fd_put_on ["table", "moment", "minutes"] (sp_put_on a) := ok_put_on T
  refine T.d_Lput.F.ok sc_Lput (fun vs H Q E h => ?_) (fun cdv A outer s H vs Q E hr h => ?_)
  · obtain ⟨x, t, m, rows, rfl, tb, good, t0, t1, m0, m1, kk⟩ := h
    rfl
  · obtain ⟨x, t, m, rows, rfl, tb, good, t0, t1, m0, m1, kk⟩ := h
    have hu := hu_of hr
    have hU := hr.units
    have h_put_on : Room (9) _ := hr.mono (by decide)
    refine ⟨_, (pss_one (ps_trys rfl rfl (by exact (px_ret (pex_call G_put_on h_put_on rfl T.d_put_on.m T.d_put_on.k T.d_put_on.b (pa_cons (pv 0) (pa_cons (pv 1) (pa_cons (pv 2) pa_nil))))))
        (hd_tup2 rfl T.g_Beyond T.X_Beyond.c.xi rfl T.g_TooMany T.X_TooMany.c.xi (fun ea => (by exact
        (pss_one (ps_ret pe_non))))
        hd_nil))), ?_⟩
    try dsimp only [cxOf, Cx.nox]
    refine ⟨_, rfl, _, rfl, _, rfl, x, t, m, rows, rfl, tb, good, t0, t1, m0, m1, (fun h l z H' S' T' => kk (.ref z) H' S' (.inl ⟨cn_of l h, z, rfl, T'⟩)), (fun h l ea dx2 G S fe fd hd xa => ⟨_, ea, rfl, rfl, T.X_TooMany.c.xi, false, true, T.m_TooMany_Beyond, xself T.X_TooMany.c.xi, fun p fp => iteTT rfl ?_⟩), fun j h ea dx2 G S fe fd hd xa => ⟨_, ea, rfl, rfl, T.X_Beyond.c.xi, true, false, xself T.X_Beyond.c.xi, T.m_Beyond_TooMany, fun p fp => iteTT rfl ?_⟩⟩
    · refine kk .non _ (S.trans (Same.new _ fp)) (.inr ⟨?_, rfl⟩)
      unfold cn
      rw [decide_eq_false (by omega), Bool.false_and]
    · refine kk .non _ (S.trans (Same.new _ fp)) (.inr ⟨?_, rfl⟩)
      unfold cn
      rw [h, Bool.and_comm]; rfl
theorem ok_Ljoin {a : Ad} (T : Txt K mg a) : FnOk P w K mg base CX0 10 a.f_Ljoin a.fd_Ljoin ["_law_one", "_law_other", "_law_moment_here"] (sp_Ljoin a) := by
  have G_spliced : FnOk P w K mg base (CX1 P w) 9 a.f_spliced a.fd_spliced ["one", "other", "moment"] (sp_spliced a) := ok_spliced T
  refine T.d_Ljoin.F.ok sc_Ljoin (fun vs H Q E h => ?_) (fun cdv A outer s H vs Q E hr h => ?_)
  · obtain ⟨x, y, t, rows, others, rfl, tb, good, tby, goody, t0, t1, kk⟩ := h
    rfl
  · obtain ⟨x, y, t, rows, others, rfl, tb, good, tby, goody, t0, t1, kk⟩ := h
    have hu := hu_of hr
    have hU := hr.units
    have h_spliced : Room (9) _ := hr.mono (by decide)
    refine ⟨_, (pss_one (ps_trys rfl rfl (by exact (px_ret (pex_call G_spliced h_spliced rfl T.d_spliced.m T.d_spliced.k T.d_spliced.b (pa_cons (pv 0) (pa_cons (pv 1) (pa_cons (pv 2) pa_nil))))))
        (hd_consU rfl T.g_TooMany T.X_TooMany.c.xi (fun ea => (by exact
        (pss_one (ps_ret pe_non))))
        hd_nil))), ?_⟩
    try dsimp only [cxOf, Cx.nox]
    have fn := (spl_good good goody t0 t1).far
    refine ⟨_, rfl, _, rfl, _, rfl, x, y, t, rows, others, rfl, tb, good, tby, goody, t0, t1, (fun h l z H' S' T' => kk (.ref z) H' S' (.inl ⟨cn_of l h, z, rfl, T'⟩)), (fun h l ea dx2 G S fe fd hd xa => ⟨_, ea, rfl, rfl, T.X_TooMany.c.xi, .inl ⟨xself T.X_TooMany.c.xi, ?_⟩⟩), fun j h => by rw [fn] at h; cases h⟩
    refine kk .non _ S (.inr ⟨?_, rfl⟩)
    unfold cn
    rw [decide_eq_false (by omega), Bool.false_and]
theorem ok_Lis {a : Ad} (T : Txt K mg a) : FnOk P w K mg base CX0 3 a.f_Lis a.fd_Lis ["_law_found", "_law_due"] (sp_Lis a) := by
  have G_Lcan : FnOk P w K mg base CX0 1 a.f_Lcan a.fd_Lcan ["_law_due"] sp_Lcan := ok_Lcan T
  have G_Ltold : FnOk P w K mg base CX0 2 a.f_Ltold a.fd_Ltold ["_law_found", "_law_due"] sp_Ltold := ok_Ltold T
  have G_Table_rows : FnOk P w K mg base CX0 1 a.f_Table_rows a.fd_Table_rows ["self"] (sp_Table_rows a) := ok_Table_rows T
  refine T.d_Lis.F.ok sc_Lis (fun vs H Q E h => ?_) (fun cdv A outer s H vs Q E hr h => ?_)
  · obtain ⟨v, d, due, rfl, res, hrd, few, kk⟩ := h
    rfl
  · obtain ⟨v, d, due, rfl, res, hrd, few, kk⟩ := h
    have hu := hu_of hr
    have hU := hr.units
    have h_Lcan : Room (1) _ := hr.mono (by decide)
    have h_Ltold : Room (2) _ := hr.mono (by decide)
    have h_Table_rows : Room (1) _ := hr.mono (by decide)
    refine ⟨_, (pss_cons (ps_if (pt_not (pt_val (pe_call G_Lcan h_Lcan rfl T.d_Lcan.m T.d_Lcan.k T.d_Lcan.b .nil pass0 (pa_cons (pv 1) pa_nil))))
        (pss_one (ps_ret (pe_cmpR op_isN (pv 0) pe_non (nomark _))))
        pss_nil)
      (pss_one (ps_ret (pe_and (pe_callB call_isC (by rfl) T.n_isinstance boot_isinstance' (pa_cons (pv 0) (pa_cons (pe_glob (v := .ref a.c_Table) rfl T.g_Table rfl) pa_nil))) (pe_one (pe_call G_Ltold h_Ltold rfl T.d_Ltold.m T.d_Ltold.k T.d_Ltold.b .nil pass0 (pa_cons (pe_meth0 (pv 0) T.cl_Table T.d_Table_rows.mt G_Table_rows h_Table_rows T.d_Table_rows.b .nil pass0) (pa_cons (pv 1) pa_nil)))))))), ?_⟩
    try dsimp only [cxOf, Cx.nox]
    refine ⟨_, rfl, d, due, rfl, hrd, few, fun G S => ⟨cn due, rfl, ?_⟩⟩
    rcases res with ⟨c, z, rfl, tb0⟩ | ⟨c, rfl⟩
    · rw [c]
      have tb := tb0.same S
      obtain ⟨k, dz, zz, hz, _, _⟩ := id tb
      refine iteFF rfl ?_
      refine ⟨_, rfl, .ref z, a.c_Table, rfl, .ins hz T.cl_Table T.iT1 T.iT2 T.iT3 T.iT4, _, rfl, iteTT rfl ?_⟩
      refine ⟨_, rfl, z, dz, _, rfl, hz, flds_no _ (by decide +kernel), z, due, rfl, tb, fun d1 G1 fd1 S1 R1 => ?_⟩
      exact ⟨_, rfl, d1, d, due, few, rfl, R1, (hrd.same S).same S1, fun H' S' => kk _ ((S.trans S1).trans S')⟩
    · rw [c]
      refine iteTT rfl ⟨_, rfl, rfl, ?_⟩
      rw [decide_eq_true (show V.non = V.non from rfl)]
      exact kk G S
end
end K28
set_option Elab.async false
set_option linter.all false
set_option maxRecDepth 100000
namespace K28
open PySem L2 PySem.NumText PyProof.Rows KC
section
variable {P : Program} {w : World} {K : PySem.W.Frag} {mg : Str → Option Value} {base : Heap}
theorem ok_Lapart {a : Ad} (T : Txt K mg a) : FnOk P w K mg base CX0 6 a.f_Lapart a.fd_Lapart ["_law_one", "_law_other", "_law_rows_here", "_law_others"] (sp_Lapart a) := by
  have G_first_unlike : FnOk P w K mg base CX0 4 a.f_first_unlike a.fd_first_unlike ["one", "other"] (sp_first_unlike a) := ok_first_unlike T
  have G_Lshortest : FnOk P w K mg base CX0 1 a.f_Lshortest a.fd_Lshortest ["_law_rows_here"] sp_Lshortest := ok_Lshortest T
  have G_alike : FnOk P w K mg base CX0 5 a.f_alike a.fd_alike ["one", "other"] (sp_alike a) := ok_alike T
  have G_Lwhole : FnOk P w K mg base CX0 1 a.f_Lwhole a.fd_Lwhole ["_law_found"] sp_Lwhole := ok_Lwhole T
  have G_Table_reading : FnOk P w K mg base CX0 5 a.f_Table_reading a.fd_Table_reading ["self", "moment"] (sp_Table_reading a) := ok_Table_reading T
  have G_Lnumber_at : FnOk P w K mg base CX0 1 a.f_Lnumber_at a.fd_Lnumber_at ["_law_rows_here", "_law_moment_here"] sp_Lnumber_at := ok_Lnumber_at T
  refine T.d_Lapart.F.ok sc_Lapart (fun vs H Q E h => ?_) (fun cdv A outer s H vs Q E hr h => ?_)
  · obtain ⟨x, y, q, p, rows, others, rfl, tx, good, ty, goodo, rq, rp, kk⟩ := h
    rfl
  · obtain ⟨x, y, q, p, rows, others, rfl, tx, good, ty, goodo, rq, rp, kk⟩ := h
    have hu := hu_of hr
    have hU := hr.units
    have h_first_unlike : Room (4) _ := hr.mono (by decide)
    have h_Lshortest : Room (1) _ := hr.mono (by decide)
    have h_alike : Room (5) _ := hr.mono (by decide)
    have h_Lwhole : Room (1) _ := hr.mono (by decide)
    have h_Table_reading : Room (5) _ := hr.mono (by decide)
    have h_Lnumber_at : Room (1) _ := hr.mono (by decide)
    refine ⟨_, (pss_cons (ps_set (i := 4) sc_Lapart.nd rfl (Or.inr rfl) (pe_call G_first_unlike h_first_unlike rfl T.d_first_unlike.m T.d_first_unlike.k T.d_first_unlike.b .nil pass0 (pa_cons (pv 0) (pa_cons (pv 1) pa_nil))))
      (pss_cons (ps_set (i := 5) sc_Lapart.nd rfl (Or.inl rfl) (pe_cmpR (uEq hU) (pe_call G_Lshortest h_Lshortest rfl T.d_Lshortest.m T.d_Lshortest.k T.d_Lshortest.b .nil pass0 (pa_cons (pv 2) pa_nil)) (pe_call G_Lshortest h_Lshortest rfl T.d_Lshortest.m T.d_Lshortest.k T.d_Lshortest.b .nil pass0 (pa_cons (pv 3) pa_nil)) (nomark _)))
      (pss_cons (ps_if (PW.pt (pw_or (pt_cmpR (uNe hU) (pe_call G_alike h_alike rfl T.d_alike.m T.d_alike.k T.d_alike.b .nil pass0 (pa_cons (pv 0) (pa_cons (pv 1) pa_nil))) (pv 5) (nomark _)) (pw_or (pt_cmpR (uNe hU) (pe_call G_alike h_alike rfl T.d_alike.m T.d_alike.k T.d_alike.b .nil pass0 (pa_cons (pv 1) (pa_cons (pv 0) pa_nil))) (pv 5) (nomark _)) (pw_or1 (pt_cmpR (uNe hU) (pe_cmpR op_isN (pv 4) pe_non (nomark _)) (pv 5) (nomark _))))))
        (pss_one (ps_ret pe_bl))
        pss_nil)
      (pss_cons (ps_if (pt_cmpR op_isN (pv 4) pe_non (nomark _))
        (pss_one (ps_ret pe_bl))
        pss_nil)
      (pss_cons (ps_if (PW.pt (pw_or (pt_not (pt_val (pe_call G_Lwhole h_Lwhole rfl T.d_Lwhole.m T.d_Lwhole.k T.d_Lwhole.b .nil pass0 (pa_cons (pv 4) pa_nil)))) (pw_or (pt_cmpR op_lt (pv 4) pe_int (nomark _)) (pw_or (pt_cmpR op_gt (pv 4) (pe_op op_pow pe_int pe_int) (nomark _)) (pw_or1 (pt_cmpR (uEq hU) (pe_meth (pv 0) T.cl_Table T.d_Table_reading.mt G_Table_reading h_Table_reading T.d_Table_reading.b .nil pass0 (pa_cons (pv 4) pa_nil)) (pe_meth (pv 1) T.cl_Table T.d_Table_reading.mt G_Table_reading h_Table_reading T.d_Table_reading.b .nil pass0 (pa_cons (pv 4) pa_nil)) (nomark _)))))))
        (pss_one (ps_ret pe_bl))
        pss_nil)
      (pss_cons (ps_set (i := 6) sc_Lapart.nd rfl (Or.inl rfl) (pe_op uAdd (pe_comp rfl (CompOk.def ["_law_row", "_law_found"] [none, some 4]) (pi_list (pe_op uAdd (pv 2) (pv 3))) (fun _ _ _ _ _ => (pg_name (i := 0) (show List.Nodup (["_law_row", "_law_found"] : List Str) by decide +kernel) rfl (Or.inl rfl))) (fun _ _ _ _ _ => (pts_one (pt_cmpR op_lt (pe_ix (r := rIx K) ix_seq (pv 0) pe_int (fun _ _ => rfl)) (pv 1) (nomark _)))) (fun _ _ _ _ _ => (pe_ix (r := rIx K) ix_seq (pv 0) pe_int (fun _ _ => rfl)))) (pe_op op_rep (pe_lst (pa_cons (pe_callB (call_max2 rfl) (by rfl) T.n_max boot_max' (pa_cons pe_int (pa_cons (pe_op op_sub (pv 4) pe_int) pa_nil))) pa_nil)) (pe_callB (call_min2 rfl) (by rfl) T.n_min boot_min' (pa_cons pe_int (pa_cons (pv 4) pa_nil))))))
      (pss_one (ps_ret (pe_cmpR (uEq hU) (pe_callB call_len (by rfl) T.n_len boot_len' (pa_cons (pe_comp rfl (CompOk.def ["_law_moment_here", "_law_rows_here", "_law_others"] [none, some 2, some 3]) (pi_list (pv 6)) (fun _ _ _ _ _ => (pg_name (i := 0) (show List.Nodup (["_law_moment_here", "_law_rows_here", "_law_others"] : List Str) by decide +kernel) rfl (Or.inl rfl))) (fun _ _ _ _ _ => (pts_one (pt_cmpR (uNe hU) (pe_call G_Lnumber_at h_Lnumber_at rfl T.d_Lnumber_at.m T.d_Lnumber_at.k T.d_Lnumber_at.b .nil pass0 (pa_cons (pv 1) (pa_cons (pv 0) pa_nil))) (pe_call G_Lnumber_at h_Lnumber_at rfl T.d_Lnumber_at.m T.d_Lnumber_at.k T.d_Lnumber_at.b .nil pass0 (pa_cons (pv 2) (pa_cons (pv 0) pa_nil))) (nomark _)))) (fun _ _ _ _ _ => (pv 0))) pa_nil)) pe_int (nomark _)))))))))), ?_⟩
    try dsimp only [cxOf, Cx.nox]
    have few := good.few
    have fewo := goodo.few
    have f64 : rows.length ≤ 64 := by omega
    have f64o : others.length ≤ 64 := by omega
    refine seq_go fun N1 h1 => ?_
    refine ⟨_, rfl, _, rfl, x, y, rows, others, rfl, tx, good, ty, goodo, fun o G1 S1 fu => ?_⟩
    refine h1 _ _ ?_
    refine seq_go fun N2 h2 => ?_
    refine ⟨_, rfl, q, rows, rfl, rq.same S1, f64, fun d1 G2 fd1 S2 R1 => ?_⟩
    refine ⟨_, rfl, p, others, rfl, rp.same (S1.trans S2), f64o, fun d2 G3 fd2 S3 R2 => ?_⟩
    refine eq_rowsB (R1.same S3) R2 ?_
    rw [sr_fu good goodo fu]
    refine h2 _ _ ?_
    have U3 := (S1.trans S2).trans S3
    clear h1 h2 R1 R2 S1 S2 S3
    refine seq_go fun N3 h3 => ?_
    refine ⟨_, rfl, _, rfl, x, y, rows, others, rfl, tx.same U3, good, ty.same U3, goodo, fun o2 G4 S4 fu2 => ?_⟩
    have e2 := fu2.one fu
    subst e2
    refine ⟨_, rfl, .inl ⟨rfl, _, rfl, iteNS rfl ?_⟩⟩
    have U4 := U3.trans S4
    refine ⟨_, rfl, _, rfl, y, x, others, rows, rfl, ty.same U4, goodo, tx.same U4, good, fun o3 G5 S5 fu3 => ?_⟩
    have e3 := fu3.one fu.sym
    subst e3
    refine ⟨_, rfl, .inl ⟨rfl, _, rfl, iteNS rfl ?_⟩⟩
    refine ⟨_, rfl, rfl, _, rfl, .inl ⟨rfl, _, rfl, iteNS rfl ?_⟩⟩
    refine h3 _ _ ?_
    have U := U4.trans S5
    clear h3 U3 U4 S4 S5 fu2 fu3
    try unfold tNext
    try dsimp only
    refine seq_go fun N4 h4 => ?_
    cases o3 with
    | none => exact ⟨_, rfl, rfl, _, rfl, iteTT (decide_eq_true rfl) (kk _ U)⟩
    | some t =>
      obtain ⟨t0, t1⟩ := fu_in good goodo fu
      have e9 : (10 : Int) ^ (9 : Int).toNat = 1000000000 := by decide
      refine ⟨_, rfl, rfl, _, rfl, iteFF (decide_eq_false fun z => nomatch z) (h4 _ _ ?_)⟩
      clear h4
      refine seq_go fun N5 h5 => ?_
      refine ⟨_, rfl, t, rfl, _, rfl, iteFF rfl ?_⟩
      refine ⟨_, rfl, _, _, rfl, rfl, _, rfl, iteFF (decide_eq_false (show ¬ t < 0 by omega)) ?_⟩
      refine ⟨_, rfl, _, _, rfl, rfl, ⟨by decide, by decide, by decide⟩, _, _, rfl, rfl, _, rfl, iteFF (decide_eq_false (show ¬ t > 10 ^ (9 : Int).toNat by rw [e9]; omega)) ?_⟩
      have tx1 := tx.same U
      have ty1 := ty.same U
      obtain ⟨k, dx, zx, hx, _, _⟩ := id tx1
      obtain ⟨k2, dy, zy, hy, _, _⟩ := id ty1
      obtain ⟨v1, hv1⟩ : ∃ v, na rows t = some v := ⟨_, na_here good t0⟩
      obtain ⟨v2, hv2⟩ : ∃ v, na others t = some v := ⟨_, na_here goodo t0⟩
      have ne : v1 ≠ v2 := fun e => fu.2.1 (by rw [hv1, hv2, e])
      refine ⟨_, rfl, x, dx, _, rfl, hx, flds_no _ (by decide +kernel), _, rfl, x, t, v1, rows, rfl, tx1, few, t0, t1, hv1, fun G6 S6 => ?_⟩
      refine ⟨_, rfl, y, dy, _, rfl, (S6 _ _ hy), flds_no _ (by decide +kernel), _, rfl, y, t, v2, others, rfl, ty1.same S6, fewo, t0, t1, hv2, fun G7 S7 => ?_⟩
      refine .inl ⟨rfl, _, rfl, iteFF (decide_eq_false fun z => by injection z; omega) ?_⟩
      refine h5 _ _ ?_
      have VV := U.trans (S6.trans S7)
      clear h5 S6 S7 U tx1 ty1 hx hy hv1 hv2
      obtain ⟨zq, hq, tq⟩ := rq.same VV
      obtain ⟨zp, hp, tp⟩ := rp.same VV
      have lq : zq.length = rows.length := tq.1
      have lp : zp.length = others.length := tp.1
      refine seq_go fun N6 h6 => ?_
      refine ⟨_, rfl, _, rfl, .inr (.inl ⟨q, p, _, _, rfl, rfl, hq, hp, (Nat.le_of_lt (small1000 (by omega))), fun l fl => ?_⟩)⟩
      have A1 := Same.new (.lst (zq ++ zp)) fl
      have hl : (upd G7 l (.lst (zq ++ zp))) l = some (.lst (zq ++ zp)) := upd_same
      have tl := (tup_app tq tp).same A1
      try unfold tNext
      try dsimp only
      generalize upd G7 l (.lst (zq ++ zp)) = G8 at A1 hl tl ⊢
      refine ⟨l, rfl, ⟨_, SqL.of hl⟩, fun D fD => ?_⟩
      refine comp_list (K := K) (a := l) (xs := zq ++ zp) (D := D) (fun j σ H2 => ∃ (c0 : Option V) (us : List Int), σ = [c0, some (.int t)] ∧ Same G8 H2 ∧ H2 D = some (.lst (us.map V.int)) ∧ us.length ≤ j ∧ ∀ u ∈ us, 0 ≤ u ∧ u < t) ⟨none, [], rfl, Same.new _ fD, upd_same, Nat.le_refl _, fun _ z => nomatch z⟩ (fun j σ H2 _ ⟨_, _, _, S', _⟩ => SqL.of (S' _ _ hl)) ?_ ?_
      · rintro j z σ H2 hz ⟨c0, us, rfl, S', hC, lu, hu0⟩
        obtain ⟨r, u, hr', rfl, hu'⟩ := tl.of hz
        have hu2 := S' _ _ hu'
        have hj : j < (rows ++ others).length := (List.getElem?_eq_some_iff.mp hr').1
        rw [List.length_append] at hj
        have r0 : 0 ≤ r.1 := by
          rcases List.mem_append.mp (List.mem_of_getElem? hr') with m | m
          · exact (good.ok r m).1
          · exact (goodo.ok r m).1
        refine ⟨_, rfl, .inr (.inl ⟨u, _, _, _, rfl, rfl, SqT.of hu2, rfl, _, rfl, _, _, rfl, rfl, _, rfl, iteD (fun g => ?_) (fun g => ⟨_, us, rfl, S', hC, by omega, hu0⟩)⟩)⟩
        refine ⟨_, rfl, .inr (.inl ⟨u, _, _, _, rfl, rfl, SqT.of hu2, rfl, _, hC, small1000 (by rw [List.length_map]; omega), _, us ++ [r.1], rfl, S'.put fD _, (by rw [upd_same, List.map_append]; rfl), (by rw [List.length_append]; show us.length + 1 ≤ _; omega), fun w mw => ?_⟩)⟩
        rcases List.mem_append.mp mw with mw | mw
        · exact hu0 w mw
        · rw [List.mem_singleton.mp mw]; exact ⟨r0, g⟩
      rintro σ G9 ⟨c0, us, rfl, S9, hC, lu, hu0⟩
      rw [List.length_append] at lu
      obtain ⟨mx, emx⟩ : ∃ mx : Int, (if 0 < t - 1 then t - 1 else 0) = mx := ⟨_, rfl⟩
      obtain ⟨mn, emn, mn0, mn1, mnt⟩ : ∃ mn : Int, (if t < 1 then t else 1) = mn ∧ 0 ≤ mn ∧ mn ≤ 1 ∧ (mn = 1 → 1 ≤ t) := ⟨_, rfl, by split <;> omega, by split <;> omega, by split <;> omega⟩
      refine ⟨_, rfl, _, _, rfl, rfl, _, _, rfl, small60 (Nat.le_of_ble_eq_true rfl), fun l2 fl2 => ⟨_, rfl, _, _, rfl, ?_⟩⟩
      rw [emx]
      have A2 := Same.new (.lst [.int mx]) fl2
      refine ⟨l2, mn, _, rfl, congrArg V.int emn, upd_same, by omega, by omega, (by rw [sizeLine_eq]; show 1 * mn.toNat ≤ 16777216; omega), fun l3 fl3 => ?_⟩
      have A3 := Same.new (.lst (List.replicate mn.toNat [V.int mx]).flatten) fl3
      obtain ⟨ms, ems, lms, hms⟩ : ∃ ms : List Int, (List.replicate mn.toNat [V.int mx]).flatten = ms.map V.int ∧ ms.length ≤ 1 ∧ ∀ u ∈ ms, 0 ≤ u ∧ u < t := by
        by_cases z : mn = 0
        · exact ⟨[], by rw [z]; rfl, Nat.zero_le _, fun _ z => nomatch z⟩
        · have z1 : mn = 1 := by omega
          have := mnt z1
          refine ⟨[mx], by rw [z1]; rfl, Nat.le_refl _, fun u mu => ?_⟩
          rw [List.mem_singleton.mp mu, ← emx]
          split <;> omega
      rw [ems] at A3 ⊢
      have hC3 := A3 _ _ (A2 _ _ hC)
      have l3h : (upd (upd G9 l2 (.lst [.int mx])) l3 (.lst (ms.map V.int))) l3 = some (.lst (ms.map V.int)) := upd_same
      refine .inr (.inl ⟨D, l3, _, _, rfl, rfl, hC3, l3h, (Nat.le_of_lt (small1000 (by rw [List.length_map, List.length_map]; omega))), fun l4 fl4 => ?_⟩)
      refine h6 _ _ ?_
      have A4 := Same.new (.lst (us.map V.int ++ ms.map V.int)) fl4
      have W : Same H _ := ((VV.trans A1).trans S9).trans ((A2.trans A3).trans A4)
      have h4 : (upd (upd (upd G9 l2 (.lst [.int mx])) l3 (.lst (ms.map V.int))) l4 (.lst (us.map V.int ++ ms.map V.int))) l4 = some (.lst ((us ++ ms).map V.int)) := by rw [upd_same, List.map_append]
      have hw : ∀ u ∈ us ++ ms, 0 ≤ u ∧ u < t := fun u mu => (List.mem_append.mp mu).elim (hu0 u) (hms u)
      try unfold tNext
      try dsimp only
      generalize upd (upd (upd G9 l2 (.lst [.int mx])) l3 (.lst (ms.map V.int))) l4 (.lst (us.map V.int ++ ms.map V.int)) = GA at W h4 ⊢
      generalize us ++ ms = ws at h4 hw
      clear A1 A2 A3 A4 S9 VV hC3 l3h hC hu0 hms lu lms h6 hl tl
      have rqA := rq.same W
      have rpA := rp.same W
      refine ⟨_, rfl, l4, rfl, ⟨_, SqL.of h4⟩, fun E fE => ?_⟩
      refine comp_list (K := K) (a := l4) (xs := ws.map V.int) (D := E) (fun j σ H2 => ∃ c0 : Option V, σ = [c0, some (.ref q), some (.ref p)] ∧ Same GA H2 ∧ H2 E = some (.lst [])) ⟨none, rfl, Same.new _ fE, upd_same⟩ (fun j σ H2 _ ⟨_, _, S', _⟩ => SqL.of (S' _ _ h4)) ?_ ?_
      · rintro j z σ H2 hz ⟨c0, rfl, S', hC⟩
        obtain ⟨u, hu', rfl⟩ := map_get hz
        obtain ⟨u0, ut⟩ := hw u (List.mem_of_getElem? hu')
        obtain ⟨ra, rsa, era, hna⟩ := good.na u0
        obtain ⟨rb, rsb, erb, hnb⟩ := goodo.na u0
        have eq := fu_below good fu u0 ut
        rw [hna, hnb] at eq
        refine ⟨_, rfl, _, rfl, q, u, ra, rsa, rfl, (by rw [← era]; exact rqA.same S'), _, rfl, _, rfl, p, u, rb, rsb, rfl, (by rw [← erb]; exact rpA.same S'), .inl ⟨rfl, _, rfl, iteNS (by rw [← era, ← erb]; exact congrArg V.int (Option.some.inj eq)) ⟨_, rfl, S', hC⟩⟩⟩
      rintro σ GB ⟨c0, rfl, SB, hC⟩
      refine ⟨_, _, rfl, .inl ⟨_, SqL.of hC, rfl⟩, .inl ⟨rfl, ?_⟩⟩
      rw [decide_eq_true (show V.int (([] : List V).length : Int) = V.int 0 from rfl)]
      exact kk _ (W.trans SB)
end
end K28
set_option Elab.async false
set_option linter.all false
set_option maxRecDepth 100000
namespace K28
open PySem L2 PySem.NumText PyProof.Rows KC
section
variable {P : Program} {w : World} {K : PySem.W.Frag} {mg : Str → Option Value} {base : Heap}
theorem ok_Lback {a : Ad} (T : Txt K mg a) : FnOk P w K mg base CX0 11 a.f_Lback a.fd_Lback ["_law_found", "_law_table", "_law_moment_here", "_law_rows_here"] (sp_Lback a) := by
  have G_Ljoin : FnOk P w K mg base CX0 10 a.f_Ljoin a.fd_Ljoin ["_law_one", "_law_other", "_law_moment_here"] (sp_Ljoin a) := ok_Ljoin T
  have G_Lis : FnOk P w K mg base CX0 3 a.f_Lis a.fd_Lis ["_law_found", "_law_due"] (sp_Lis a) := ok_Lis T
  have G_Lbehind : FnOk P w K mg base CX0 2 a.f_Lbehind a.fd_Lbehind ["_law_rows_here", "_law_others", "_law_moment_here", "_law_minutes_here"] sp_Lbehind := ok_Lbehind T
  have G_Table_rows : FnOk P w K mg base CX0 1 a.f_Table_rows a.fd_Table_rows ["self"] (sp_Table_rows a) := ok_Table_rows T
  refine T.d_Lback.F.ok sc_Lback (fun vs H Q E h => ?_) (fun cdv A outer s H vs Q E hr h => ?_)
  · obtain ⟨v, x, q, t, due, rows, rfl, res, gd, tx, good, rq, t0, t1, kk⟩ := h
    rfl
  · obtain ⟨v, x, q, t, due, rows, rfl, res, gd, tx, good, rq, t0, t1, kk⟩ := h
    have hu := hu_of hr
    have hU := hr.units
    have h_Ljoin : Room (10) _ := hr.mono (by decide)
    have h_Lis : Room (3) _ := hr.mono (by decide)
    have h_Lbehind : Room (2) _ := hr.mono (by decide)
    have h_Table_rows : Room (1) _ := hr.mono (by decide)
    refine ⟨_, (pss_cons (ps_if (pt_cmpR op_isN (pv 0) pe_non (nomark _))
        (pss_one (ps_ret pe_bl))
        pss_nil)
      (pss_cons (ps_set (i := 4) sc_Lback.nd rfl (Or.inl rfl) (pe_call G_Ljoin h_Ljoin rfl T.d_Ljoin.m T.d_Ljoin.k T.d_Ljoin.b .nil pass0 (pa_cons (pv 0) (pa_cons (pv 1) (pa_cons (pv 2) pa_nil)))))
      (pss_one (ps_ret (pe_call G_Lis h_Lis rfl T.d_Lis.m T.d_Lis.k T.d_Lis.b .nil pass0 (pa_cons (pv 4) (pa_cons (pe_call G_Lbehind h_Lbehind rfl T.d_Lbehind.m T.d_Lbehind.k T.d_Lbehind.b .nil pass0 (pa_cons (pe_meth0 (pv 0) T.cl_Table T.d_Table_rows.mt G_Table_rows h_Table_rows T.d_Table_rows.b .nil pass0) (pa_cons (pv 3) (pa_cons (pv 2) (pa_cons pe_int pa_nil))))) pa_nil))))))), ?_⟩
    try dsimp only [cxOf, Cx.nox]
    rcases res with ⟨c, z, rfl, tz⟩ | ⟨c, rfl⟩
    · have gdue := gd c
      refine ⟨_, rfl, rfl, _, rfl, iteFF (decide_eq_false fun z => nomatch z) ?_⟩
      refine ⟨_, rfl, _, rfl, _, rfl, z, x, t, due, rows, rfl, tz, gdue, tx, good, t0, t1, fun v2 G1 S1 r2 => ?_⟩
      have tz1 := tz.same S1
      obtain ⟨k, dz, zz, hz, _, _⟩ := id tz1
      refine ⟨_, rfl, _, rfl, z, dz, _, rfl, hz, flds_no _ (by decide +kernel), z, due, rfl, tz1, fun d G2 fd S2 R2 => ?_⟩
      refine ⟨_, rfl, _, rfl, d, q, t, 0, due, rows, rfl, R2, gdue, rq.same (S1.trans S2), good, t0, fun e G3 fe S3 R3 => ?_⟩
      rw [beh_zero] at R3
      have sl := spl_len gdue good t
      exact ⟨v2, e, _, rfl, r2.same (S2.trans S3), R3, by omega, fun H' S' => kk H' ((S1.trans (S2.trans S3)).trans S')⟩
    · exact ⟨_, rfl, rfl, _, rfl, iteTT (decide_eq_true rfl) (kk H (Same.refl H))⟩
theorem ok_Lturn {a : Ad} (T : Txt K mg a) : FnOk P w K mg base CX0 11 a.f_Lturn a.fd_Lturn ["_law_pair", "_law_state", "_law_draws_here"] (sp_Lturn a) := by
  have G_Lmoment : FnOk P w K mg base CX0 1 a.f_Lmoment a.fd_Lmoment ["_law_rows_here", "_law_cell"] sp_Lmoment := ok_Lmoment T
  have G_Lvariant : FnOk P w K mg base CX0 2 a.f_Lvariant a.fd_Lvariant ["_law_rows_here", "_law_cell"] sp_Lvariant := ok_Lvariant T
  have G_Table_init : FnOk P w K mg base CX0 6 a.f_Table_init a.fd_Table_init ["self", "rows"] (sp_Table_init a) := ok_Table_init T
  have G_Lminutes : FnOk P w K mg base CX0 2 a.f_Lminutes a.fd_Lminutes ["_law_rows_here", "_law_moment_here", "_law_number"] sp_Lminutes := ok_Lminutes T
  have G_Lbehind : FnOk P w K mg base CX0 2 a.f_Lbehind a.fd_Lbehind ["_law_rows_here", "_law_others", "_law_moment_here", "_law_minutes_here"] sp_Lbehind := ok_Lbehind T
  have G_shortened : FnOk P w K mg base CX0 8 a.f_shortened a.fd_shortened ["table"] (sp_shortened a) := ok_shortened T
  have G_Lshortest : FnOk P w K mg base CX0 1 a.f_Lshortest a.fd_Lshortest ["_law_rows_here"] sp_Lshortest := ok_Lshortest T
  have G_Lput : FnOk P w K mg base CX0 10 a.f_Lput a.fd_Lput ["_law_table", "_law_moment_here", "_law_minutes_here"] (sp_Lput a) := ok_Lput T
  have G_Ljoin : FnOk P w K mg base CX0 10 a.f_Ljoin a.fd_Ljoin ["_law_one", "_law_other", "_law_moment_here"] (sp_Ljoin a) := ok_Ljoin T
  have G_by_gaps : FnOk P w K mg base (CX1 P w) 9 a.f_by_gaps a.fd_by_gaps ["one", "rows"] (sp_by_gaps a) := ok_by_gaps T
  have G_gaps : FnOk P w K mg base CX0 4 a.f_gaps a.fd_gaps ["one", "other"] (sp_gaps a) := ok_gaps T
  refine T.d_Lturn.F.ok sc_Lturn (fun vs H Q E h => ?_) (fun cdv A outer s H vs Q E hr h => ?_)
  · obtain ⟨pp, s, d, s0, s1, rows, r0, r1, y0, y1, y2, y3, rfl, hpp, z0, z1, zc, hd, y10, y11, y30, y31, kk⟩ := h
    rfl
  · obtain ⟨pp, s, d, s0, s1, rows, r0, r1, y0, y1, y2, y3, rfl, hpp, z0, z1, zc, hd, y10, y11, y30, y31, kk⟩ := h
    have hu := hu_of hr
    have hU := hr.units
    have h_Lmoment : Room (1) _ := hr.mono (by decide)
    have h_Lvariant : Room (2) _ := hr.mono (by decide)
    have h_Table_init : Room (6 + 1) _ := hr.mono (by decide)
    have h_Lminutes : Room (2) _ := hr.mono (by decide)
    have h_Lbehind : Room (2) _ := hr.mono (by decide)
    have h_shortened : Room (8) _ := hr.mono (by decide)
    have h_Lshortest : Room (1) _ := hr.mono (by decide)
    have h_Lput : Room (10) _ := hr.mono (by decide)
    have h_Ljoin : Room (10) _ := hr.mono (by decide)
    have h_by_gaps : Room (9) _ := hr.mono (by decide)
    have h_gaps : Room (4) _ := hr.mono (by decide)
    refine ⟨_, (pss_cons (ps_asg (pv 1) (pg_tup rfl (pgs_cons (pg_name (i := 3) (sc_Lturn.nd) rfl (Or.inl rfl)) (pgs_cons (pg_name (i := 4) (sc_Lturn.nd) rfl (Or.inl rfl)) pgs_nil))))
      (pss_cons (ps_asg (pv 2) (pg_lst rfl (pgs_cons (pg_name (i := 5) (sc_Lturn.nd) rfl (Or.inl rfl)) (pgs_cons (pg_name (i := 6) (sc_Lturn.nd) rfl (Or.inl rfl)) (pgs_cons (pg_name (i := 7) (sc_Lturn.nd) rfl (Or.inl rfl)) (pgs_cons (pg_name (i := 8) (sc_Lturn.nd) rfl (Or.inl rfl)) pgs_nil))))))
      (pss_cons (ps_set (i := 9) sc_Lturn.nd rfl (Or.inl rfl) (pe_call G_Lmoment h_Lmoment rfl T.d_Lmoment.m T.d_Lmoment.k T.d_Lmoment.b .nil pass0 (pa_cons (pv 4) (pa_cons (pv 7) pa_nil))))
      (pss_cons (ps_asg (pe_ix (r := rIx K) ix_seq (pv 0) (pe_op op_mod (pv 6) pe_int) (fun _ _ => rfl)) (pg_tup rfl (pgs_cons (pg_name (i := 10) (sc_Lturn.nd) rfl (Or.inl rfl)) (pgs_cons (pg_name (i := 11) (sc_Lturn.nd) rfl (Or.inl rfl)) pgs_nil))))
      (pss_cons (ps_if (pt_cmpR (uEq hU) (pv 6) pe_int (nomark _))
        (pss_cons (ps_set (i := 11) sc_Lturn.nd rfl (Or.inl rfl) (pe_call G_Lvariant h_Lvariant rfl T.d_Lvariant.m T.d_Lvariant.k T.d_Lvariant.b .nil pass0 (pa_cons (pv 4) (pa_cons (pv 7) pa_nil))))
        (pss_one (ps_set (i := 10) sc_Lturn.nd rfl (Or.inl rfl) (pe_make T.M_Table G_Table_init h_Table_init rfl T.g_Table T.d_Table_init.b .nil pass0 (pa_cons (pe_callTy (r := rLof K) call_list_of (by rfl) T.n_list boot_list' (pa_cons (pv 11) pa_nil)) pa_nil)))))
        pss_nil)
      (pss_cons (ps_if (pt_cmpR (uEq hU) (pv 5) pe_int (nomark _))
        (pss_cons (ps_set (i := 12) sc_Lturn.nd rfl (Or.inl rfl) (pe_call G_Lminutes h_Lminutes rfl T.d_Lminutes.m T.d_Lminutes.k T.d_Lminutes.b .nil pass0 (pa_cons (pv 4) (pa_cons (pv 9) (pa_cons (pv 8) pa_nil)))))
        (pss_cons (ps_set (i := 13) sc_Lturn.nd rfl (Or.inl rfl) (pe_call G_Lbehind h_Lbehind rfl T.d_Lbehind.m T.d_Lbehind.k T.d_Lbehind.b .nil pass0 (pa_cons (pv 4) (pa_cons (pv 4) (pa_cons (pv 9) (pa_cons (pv 12) pa_nil))))))
        (pss_one (ps_ret (pe_tup (pa_cons (pe_call G_Lput h_Lput rfl T.d_Lput.m T.d_Lput.k T.d_Lput.b .nil pass0 (pa_cons (pv 3) (pa_cons (pv 9) (pa_cons (pv 12) pa_nil)))) (pa_cons (pv 13) (pa_cons (pv 9) pa_nil))))))))
        pss_nil)
      (pss_cons (ps_if (pt_cmpR (uEq hU) (pv 5) pe_int (nomark _))
        (pss_one (ps_ret (pe_tup (pa_cons (pe_call G_Ljoin h_Ljoin rfl T.d_Ljoin.m T.d_Ljoin.k T.d_Ljoin.b .nil pass0 (pa_cons (pv 3) (pa_cons (pv 10) (pa_cons (pv 9) pa_nil)))) (pa_cons (pe_call G_Lbehind h_Lbehind rfl T.d_Lbehind.m T.d_Lbehind.k T.d_Lbehind.b .nil pass0 (pa_cons (pv 4) (pa_cons (pv 11) (pa_cons (pv 9) (pa_cons pe_int pa_nil))))) (pa_cons (pv 9) pa_nil))))))
        pss_nil)
      (pss_cons (ps_if (pt_cmpR (uEq hU) (pv 5) pe_int (nomark _))
        (pss_one (ps_ret (pe_tup (pa_cons (pe_call G_Ljoin h_Ljoin rfl T.d_Ljoin.m T.d_Ljoin.k T.d_Ljoin.b .nil pass0 (pa_cons (pv 10) (pa_cons (pv 3) (pa_cons (pv 9) pa_nil)))) (pa_cons (pe_call G_Lbehind h_Lbehind rfl T.d_Lbehind.m T.d_Lbehind.k T.d_Lbehind.b .nil pass0 (pa_cons (pv 11) (pa_cons (pv 4) (pa_cons (pv 9) (pa_cons pe_int pa_nil))))) (pa_cons pe_int pa_nil))))))
        pss_nil)
      (pss_cons (ps_if (pt_cmpR (uEq hU) (pv 5) pe_int (nomark _))
        (pss_one (ps_ret (pe_tup (pa_cons (pe_call G_by_gaps h_by_gaps rfl T.d_by_gaps.m T.d_by_gaps.k T.d_by_gaps.b .nil dead1 (pa_cons (pv 10) (pa_cons (pe_call G_gaps h_gaps rfl T.d_gaps.m T.d_gaps.k T.d_gaps.b .nil pass0 (pa_cons (pv 10) (pa_cons (pv 3) pa_nil))) pa_nil))) (pa_cons (pe_call G_Lshortest h_Lshortest rfl T.d_Lshortest.m T.d_Lshortest.k T.d_Lshortest.b .nil pass0 (pa_cons (pv 4) pa_nil)) (pa_cons pe_int pa_nil))))))
        pss_nil)
      (pss_one (ps_ret (pe_tup (pa_cons (pe_call G_shortened h_shortened rfl T.d_shortened.m T.d_shortened.k T.d_shortened.b .nil pass0 (pa_cons (pv 3) pa_nil)) (pa_cons (pe_call G_Lshortest h_Lshortest rfl T.d_Lshortest.m T.d_Lshortest.k T.d_Lshortest.b .nil pass0 (pa_cons (pv 4) pa_nil)) (pa_cons pe_int pa_nil))))))))))))))), ?_⟩
    try dsimp only [cxOf, Cx.nox]
    obtain ⟨x, q, hs, tx0, rq0, good⟩ := id zc
    refine seq_go fun N1 h1 => ?_
    refine ⟨_, rfl, s, _, rfl, SqT.of hs, rfl, _, _, rfl, _, _, rfl, rfl, h1 _ _ ?_⟩
    refine seq_go fun N2 h2 => ?_
    refine ⟨_, rfl, d, _, rfl, SqL.of hd, rfl, _, _, rfl, _, _, rfl, _, _, rfl, _, _, rfl, rfl, h2 _ _ ?_⟩
    refine seq_go fun N3 h3 => ?_
    refine ⟨_, rfl, _, rfl, q, y2, rows, rfl, rq0, good, fun t t0 t1 => h3 _ _ ?_⟩
    refine seq_go fun N4 h4 => ?_
    obtain ⟨so, ro, hat, zo⟩ : ∃ so ro, atI [V.ref s0, .ref s1] (y1 % 2) = some (.ref so) ∧ St2 a H so ro := by
      rcases (show y1 % 2 = 0 ∨ y1 % 2 = 1 by omega) with e | e <;> rw [e]
      · exact ⟨s0, r0, rfl, z0⟩
      · exact ⟨s1, r1, rfl, z1⟩
    obtain ⟨xo0, qo0, hso, txo0, rqo0, goodo0⟩ := zo
    refine ⟨_, rfl, _, rfl, _, _, rfl, rfl, (by show (0 : Int) < _; decide), .inl ⟨pp, _, _, _, rfl, rfl, SqL.of hpp, hat, so, _, rfl, SqT.of hso, rfl, _, _, rfl, _, _, rfl, rfl, h4 _ _ ?_⟩⟩
    clear h1 h2 h3 h4 hat hso
    try unfold tNext
    try dsimp only
    refine seq_split (t := tIfS _ _ _) (fun σ' H' => ∃ (xo qo : Addr) (ro : List (Int × Int)), σ' = [some (.ref pp), some (.ref s), some (.ref d), some (.ref x), some (.ref q), some (.int y0), some (.int y1), some (.int y2), some (.int y3), some (.int t), some (.ref xo), some (.ref qo), none, none] ∧ Same H H' ∧ Tb a H' xo ro ∧ Rs H' qo ro ∧ Good ro) (fun N hN => ?_) ?_
    · refine ⟨_, rfl, .inl ⟨rfl, _, rfl, iteD (fun g => ?_) (fun g => hN _ _ ⟨xo0, qo0, ro, rfl, Same.refl _, txo0, rqo0, goodo0⟩)⟩⟩
      refine ⟨_, rfl, _, rfl, q, y2, rows, rfl, rq0, good, fun d2 r2 G1 fd2 S1 R2 good2 => ?_⟩
      obtain ⟨zx2, hzx2, tzx2⟩ := id (R2)
      refine ⟨_, rfl, d2, zx2, rfl, .inl (SqL.of hzx2), fun lx2 flx2 => ?_⟩
      intro x2 dx2 fx2 fdx2 ndx2
      have Ax2 := Same.new (.lst zx2) flx2
      have Bx2 : Same (upd _ lx2 (.lst zx2)) (upd (upd _ dx2 (.own x2)) x2 (.ins a.c_Table dx2 [])) := (Same.new _ fdx2).put fx2 _
      refine ⟨x2, dx2, lx2, r2, rfl, upd_same, ⟨zx2, Bx2 _ _ upd_same, (tzx2.same Ax2).same Bx2⟩, good2, fun G2 Kx2 Tx2 => ⟨rfl, ?_⟩⟩
      have S2 : Same _ G2 := Ax2.trans (Bx2.but Kx2 fx2)
      exact hN _ _ ⟨x2, d2, r2, rfl, S1.trans S2, Tx2, R2.same S2, good2⟩
    clear goodo0 rqo0 txo0
    rintro _ G ⟨xo, qo, ro, rfl, S, txo, rqo, goodo⟩
    have tx := tx0.same S
    have rq := rq0.same S
    have few := good.few
    have f64 : rows.length ≤ 64 := by omega
    clear tx0 rq0
    refine ⟨_, rfl, .inl ⟨rfl, _, rfl, iteD (fun g0 => ?_) (fun g0 => ?_)⟩⟩
    · refine ⟨_, rfl, _, rfl, _, rfl, q, t, y3, rows, rfl, rq, good, t0, y30, y31, fun m G1 S1 m0 m1 => ?_⟩
      refine ⟨_, rfl, _, rfl, _, rfl, _, rfl, q, q, t, m, rows, rows, rfl, rq.same S1, good, rq.same S1, good, t0, fun e G2 fe S2 R2 => ?_⟩
      rw [beh_self] at R2
      have U2 := S1.trans S2
      refine ⟨_, rfl, _, rfl, _, rfl, x, t, m, rows, rfl, tx.same U2, good, t0, t1, m0, m1, fun v G3 S3 res => ?_⟩
      refine ⟨_, rfl, _, rfl, small60 (Nat.le_of_ble_eq_true rfl), fun z fz => ?_⟩
      have A := Same.new (.tup [v, .ref e, .int t]) fz
      have pl := pon_len good t m
      exact kk z v e t _ _ (((S.trans U2).trans S3).trans A) upd_same (res.same A) ((R2.same S3).same A) (fun c => (pon_good good t0 t1).good (cn_yes c).2 (cn_yes c).1) (by omega) t0 t1
    refine ⟨_, rfl, .inl ⟨rfl, _, rfl, iteD (fun g1 => ?_) (fun g1 => ?_)⟩⟩
    · refine ⟨_, rfl, _, rfl, _, rfl, x, xo, t, rows, ro, rfl, tx, good, txo, goodo, t0, t1, fun v G1 S1 res => ?_⟩
      refine ⟨_, rfl, _, rfl, _, rfl, q, qo, t, 0, rows, ro, rfl, rq.same S1, good, rqo.same S1, goodo, t0, fun e G2 fe S2 R2 => ?_⟩
      rw [beh_zero] at R2
      refine ⟨_, rfl, small60 (Nat.le_of_ble_eq_true rfl), fun z fz => ?_⟩
      have A := Same.new (.tup [v, .ref e, .int t]) fz
      have sl := spl_len good goodo t
      exact kk z v e t _ _ (((S.trans S1).trans S2).trans A) upd_same ((res.same S2).same A) (R2.same A) (fun c => (spl_good good goodo t0 t1).good (cn_yes c).1) (by omega) t0 t1
    refine ⟨_, rfl, .inl ⟨rfl, _, rfl, iteD (fun g2 => ?_) (fun g2 => ?_)⟩⟩
    · refine ⟨_, rfl, _, rfl, _, rfl, xo, x, t, ro, rows, rfl, txo, goodo, tx, good, t0, t1, fun v G1 S1 res => ?_⟩
      refine ⟨_, rfl, _, rfl, _, rfl, qo, q, t, 0, ro, rows, rfl, rqo.same S1, goodo, rq.same S1, good, t0, fun e G2 fe S2 R2 => ?_⟩
      rw [beh_zero] at R2
      refine ⟨small60 (Nat.le_of_ble_eq_true rfl), fun z fz => ?_⟩
      have A := Same.new (.tup [v, .ref e, .int 0]) fz
      have sl := spl_len goodo good t
      exact kk z v e 0 _ _ (((S.trans S1).trans S2).trans A) upd_same ((res.same S2).same A) (R2.same A) (fun c => (spl_good goodo good t0 t1).good (cn_yes c).1) (by omega) (by decide) (by decide)
    have gsr := good.sr
    have csr : cn (sr [] rows) = true := cn_of gsr.few (Good.far gsr)
    have lsr : (sr [] rows).length ≤ 64 := by have := gsr.few; omega
    refine ⟨_, rfl, .inl ⟨rfl, _, rfl, iteD (fun g3 => ?_) (fun g3 => ?_)⟩⟩
    · refine ⟨_, rfl, _, rfl, _, rfl, xo, x, ro, rows, rfl, txo, tx, goodo, good, fun f gs G1 ff S1 sm R1 => ?_⟩
      refine ⟨xo, f, ro, gs, rfl, txo.same S1, goodo, R1, sm.gaps goodo good, fun due2 sm2 => ?_⟩
      have e2 := back goodo.m good.m sm sm2
      subst e2
      refine ⟨fun h l z1 G2 S2 T2 => ?_, fun h l => ?_, fun j h => ?_⟩
      · refine ⟨_, rfl, q, rows, rfl, (rq.same S1).same S2, f64, fun e G3 fe S3 R3 => ?_⟩
        refine ⟨small60 (Nat.le_of_ble_eq_true rfl), fun z fz => ?_⟩
        have A := Same.new (.tup [.ref z1, .ref e, .int 0]) fz
        exact kk z _ e 0 _ _ ((((S.trans S1).trans S2).trans S3).trans A) upd_same (.inl ⟨csr, z1, rfl, (T2.same S3).same A⟩) (R3.same A) (fun _ => gsr) lsr (by decide) (by decide)
      · have := gsr.few; omega
      · rw [Good.far gsr] at h; cases h
    · refine ⟨_, rfl, x, rows, rfl, tx, good, fun z1 G1 fz1 S1 T1 => ?_⟩
      refine ⟨_, rfl, q, rows, rfl, rq.same S1, f64, fun e G3 fe S3 R3 => ?_⟩
      refine ⟨small60 (Nat.le_of_ble_eq_true rfl), fun z fz => ?_⟩
      have A := Same.new (.tup [.ref z1, .ref e, .int 0]) fz
      exact kk z _ e 0 _ _ (((S.trans S1).trans S3).trans A) upd_same (.inl ⟨csr, z1, rfl, (T1.same S3).same A⟩) (R3.same A) (fun _ => gsr) lsr (by decide) (by decide)
end
end K28
set_option Elab.async false
set_option linter.all false
set_option maxRecDepth 100000
namespace K28
open PySem L2 PySem.NumText PyProof.Rows KC
section
variable {P : Program} {w : World} {K : PySem.W.Frag} {mg : Str → Option Value} {base : Heap}
end
theorem four {fs : List Int} (h : fs.length = 4) : ∃ a b c d, fs = [a, b, c, d] := by
  rcases fs with _ | ⟨a, _ | ⟨b, _ | ⟨c, _ | ⟨d, _ | ⟨f, t⟩⟩⟩⟩⟩ <;> simp at h
  exact ⟨a, b, c, d, rfl⟩
section
variable {P : Program} {w : World} {K : PySem.W.Frag} {mg : Str → Option Value} {base : Heap}
theorem ok_law {a : Ad} (T : Txt K mg a) : FnOk P w K mg base CX0 12 a.f_law a.fd_law ["_law_script"] (sp_law K) := by
  have G_Lrows : FnOk P w K mg base CX0 2 a.f_Lrows a.fd_Lrows ["_law_cell"] sp_Lrows := ok_Lrows T
  have G_Lapart : FnOk P w K mg base CX0 6 a.f_Lapart a.fd_Lapart ["_law_one", "_law_other", "_law_rows_here", "_law_others"] (sp_Lapart a) := ok_Lapart T
  have G_Lcell_at : FnOk P w K mg base CX0 1 a.f_Lcell_at a.fd_Lcell_at ["_law_script", "_law_k"] (sp_Lcell_at K) := ok_Lcell_at T
  have G_Lturn : FnOk P w K mg base CX0 11 a.f_Lturn a.fd_Lturn ["_law_pair", "_law_state", "_law_draws_here"] (sp_Lturn a) := ok_Lturn T
  have G_Table_init : FnOk P w K mg base CX0 6 a.f_Table_init a.fd_Table_init ["self", "rows"] (sp_Table_init a) := ok_Table_init T
  have G_Ldraws : FnOk P w K mg base CX0 1 a.f_Ldraws a.fd_Ldraws ["_law_cell", "_law_menus"] sp_Ldraws := ok_Ldraws T
  have G_Ltold : FnOk P w K mg base CX0 2 a.f_Ltold a.fd_Ltold ["_law_found", "_law_due"] sp_Ltold := ok_Ltold T
  have G_Lis : FnOk P w K mg base CX0 3 a.f_Lis a.fd_Lis ["_law_found", "_law_due"] (sp_Lis a) := ok_Lis T
  have G_Lback : FnOk P w K mg base CX0 11 a.f_Lback a.fd_Lback ["_law_found", "_law_table", "_law_moment_here", "_law_rows_here"] (sp_Lback a) := ok_Lback T
  have G_Table_rows : FnOk P w K mg base CX0 1 a.f_Table_rows a.fd_Table_rows ["self"] (sp_Table_rows a) := ok_Table_rows T
  refine T.d_law.F.ok sc_law (fun vs H Q E h => ?_) (fun cdv A outer s H vs Q E hr h => ?_)
  · obtain ⟨sa, ns, rfl, hS, hlen, kk⟩ := h
    rfl
  · obtain ⟨sa, ns, rfl, hS, hlen, kk⟩ := h
    have hu := hu_of hr
    have hU := hr.units
    have h_Lrows : Room (2) _ := hr.mono (by decide)
    have h_Lapart : Room (6) _ := hr.mono (by decide)
    have h_Lcell_at : Room (1) _ := hr.mono (by decide)
    have h_Lturn : Room (11) _ := hr.mono (by decide)
    have h_Table_init : Room (6 + 1) _ := hr.mono (by decide)
    have h_Ldraws : Room (1) _ := hr.mono (by decide)
    have h_Ltold : Room (2) _ := hr.mono (by decide)
    have h_Lis : Room (3) _ := hr.mono (by decide)
    have h_Lback : Room (11) _ := hr.mono (by decide)
    have h_Table_rows : Room (1) _ := hr.mono (by decide)
    refine ⟨_, (pss_cons (ps_set (i := 1) sc_law.nd rfl (Or.inl rfl) (pe_call G_Lrows h_Lrows rfl T.d_Lrows.m T.d_Lrows.k T.d_Lrows.b .nil pass0 (pa_cons (pe_call G_Lcell_at h_Lcell_at rfl T.d_Lcell_at.m T.d_Lcell_at.k T.d_Lcell_at.b .nil pass0 (pa_cons (pv 0) (pa_cons pe_int pa_nil))) pa_nil)))
      (pss_cons (ps_set (i := 2) sc_law.nd rfl (Or.inl rfl) (pe_call G_Lrows h_Lrows rfl T.d_Lrows.m T.d_Lrows.k T.d_Lrows.b .nil pass0 (pa_cons (pe_call G_Lcell_at h_Lcell_at rfl T.d_Lcell_at.m T.d_Lcell_at.k T.d_Lcell_at.b .nil pass0 (pa_cons (pv 0) (pa_cons pe_int pa_nil))) pa_nil)))
      (pss_cons (ps_set (i := 3) sc_law.nd rfl (Or.inl rfl) (pe_lst (pa_cons (pe_tup (pa_cons (pe_make T.M_Table G_Table_init h_Table_init rfl T.g_Table T.d_Table_init.b .nil pass0 (pa_cons (pe_callTy (r := rLof K) call_list_of (by rfl) T.n_list boot_list' (pa_cons (pv 1) pa_nil)) pa_nil)) (pa_cons (pv 1) pa_nil))) (pa_cons (pe_tup (pa_cons (pe_make T.M_Table G_Table_init h_Table_init rfl T.g_Table T.d_Table_init.b .nil pass0 (pa_cons (pe_callTy (r := rLof K) call_list_of (by rfl) T.n_list boot_list' (pa_cons (pv 2) pa_nil)) pa_nil)) (pa_cons (pv 2) pa_nil))) pa_nil))))
      (pss_cons (ps_set (i := 4) sc_law.nd rfl (Or.inl rfl) (pe_ix (r := rIx K) ix_seq (pv 3) pe_int (fun _ _ => rfl)))
      (pss_cons (ps_for PassesOwn.never rfl (pi_list (pe_slice uSl (pv 0) (po_some pe_int) (po_some pe_int))) (pg_name (i := 5) (sc_law.nd) rfl (Or.inl rfl))
        (pss_cons (ps_asg (pe_call G_Lturn h_Lturn rfl T.d_Lturn.m T.d_Lturn.k T.d_Lturn.b .nil pass0 (pa_cons (pv 3) (pa_cons (pv 4) (pa_cons (pe_call G_Ldraws h_Ldraws rfl T.d_Ldraws.m T.d_Ldraws.k T.d_Ldraws.b .nil pass0 (pa_cons (pv 5) (pa_cons (pe_lst (pa_cons pe_int (pa_cons pe_int (pa_cons (pe_op op_pow pe_int pe_int) (pa_cons pe_int pa_nil))))) pa_nil))) pa_nil)))) (pg_tup rfl (pgs_cons (pg_name (i := 6) (sc_law.nd) rfl (Or.inl rfl)) (pgs_cons (pg_name (i := 7) (sc_law.nd) rfl (Or.inl rfl)) (pgs_cons (pg_name (i := 8) (sc_law.nd) rfl (Or.inl rfl)) pgs_nil)))))
        (pss_cons (ps_if (PW.pt (pw_or (pt_not (pt_val (pe_call G_Lis h_Lis rfl T.d_Lis.m T.d_Lis.k T.d_Lis.b .nil pass0 (pa_cons (pv 6) (pa_cons (pv 7) pa_nil))))) (pw_or1 (pt_not (pt_val (pe_call G_Lback h_Lback rfl T.d_Lback.m T.d_Lback.k T.d_Lback.b .nil pass0 (pa_cons (pv 6) (pa_cons (pe_ix (r := rIx K) ix_seq (pv 4) pe_int (fun _ _ => rfl)) (pa_cons (pv 8) (pa_cons (pe_ix (r := rIx K) ix_seq (pv 4) pe_int (fun _ _ => rfl)) pa_nil))))))))))
          (pss_one (ps_ret pe_bl))
          pss_nil)
        (pss_one (ps_if (pt_cmpR op_notN (pv 6) pe_non (nomark _))
          (pss_cons (ps_if (PW.pt (pw_or (pt_not (pt_val (pe_call G_Lapart h_Lapart rfl T.d_Lapart.m T.d_Lapart.k T.d_Lapart.b .nil pass0 (pa_cons (pe_ix (r := rIx K) ix_seq (pv 4) pe_int (fun _ _ => rfl)) (pa_cons (pv 6) (pa_cons (pe_ix (r := rIx K) ix_seq (pv 4) pe_int (fun _ _ => rfl)) (pa_cons (pv 7) pa_nil))))))) (pw_or1 (pt_not (pt_val (pe_call G_Ltold h_Ltold rfl T.d_Ltold.m T.d_Ltold.k T.d_Ltold.b .nil pass0 (pa_cons (pe_meth0 (pe_ix (r := rIx K) ix_seq (pv 4) pe_int (fun _ _ => rfl)) T.cl_Table T.d_Table_rows.mt G_Table_rows h_Table_rows T.d_Table_rows.b .nil pass0) (pa_cons (pe_ix (r := rIx K) ix_seq (pv 4) pe_int (fun _ _ => rfl)) pa_nil))))))))
            (pss_one (ps_ret pe_bl))
            pss_nil)
          (pss_one (ps_set (i := 4) sc_law.nd rfl (Or.inl rfl) (pe_tup (pa_cons (pv 6) (pa_cons (pv 7) pa_nil))))))
          pss_nil)))))
      (pss_cons (ps_if (PW.pt (pw_or (pt_not (pt_val (pe_call G_Ltold h_Ltold rfl T.d_Ltold.m T.d_Ltold.k T.d_Ltold.b .nil pass0 (pa_cons (pe_meth0 (pe_ix (r := rIx K) ix_seq (pe_ix (r := rIx K) ix_seq (pv 3) pe_int (fun _ _ => rfl)) pe_int (fun _ _ => rfl)) T.cl_Table T.d_Table_rows.mt G_Table_rows h_Table_rows T.d_Table_rows.b .nil pass0) (pa_cons (pv 1) pa_nil))))) (pw_or1 (pt_not (pt_val (pe_call G_Ltold h_Ltold rfl T.d_Ltold.m T.d_Ltold.k T.d_Ltold.b .nil pass0 (pa_cons (pe_meth0 (pe_ix (r := rIx K) ix_seq (pe_ix (r := rIx K) ix_seq (pv 3) pe_int (fun _ _ => rfl)) pe_int (fun _ _ => rfl)) T.cl_Table T.d_Table_rows.mt G_Table_rows h_Table_rows T.d_Table_rows.b .nil pass0) (pa_cons (pv 2) pa_nil))))))))
        (pss_one (ps_ret pe_bl))
        pss_nil)
      (pss_one (ps_ret (pe_call G_Lapart h_Lapart rfl T.d_Lapart.m T.d_Lapart.k T.d_Lapart.b .nil pass0 (pa_cons (pe_ix (r := rIx K) ix_seq (pe_ix (r := rIx K) ix_seq (pv 3) pe_int (fun _ _ => rfl)) pe_int (fun _ _ => rfl)) (pa_cons (pe_ix (r := rIx K) ix_seq (pe_ix (r := rIx K) ix_seq (pv 3) pe_int (fun _ _ => rfl)) pe_int (fun _ _ => rfl)) (pa_cons (pv 1) (pa_cons (pv 2) pa_nil))))))))))))), ?_⟩
    try dsimp only [cxOf, Cx.nox]
    refine seq_go fun N1 h1 => ?_
    refine ⟨_, rfl, sa, ns, 0, rfl, hS, by decide, fun c1 => ⟨c1, rfl, fun q rows G1 fq S1 R1 good => ?_⟩⟩
    refine h1 _ _ ?_
    refine seq_go fun N2 h2 => ?_
    refine ⟨_, rfl, sa, ns, 1, rfl, S1.seq hS, by decide, fun c2 => ⟨c2, rfl, fun p others G2 fp S2 R2 goodo => ?_⟩⟩
    refine h2 _ _ ?_
    have U2 := S1.trans S2
    have R1b := R1.same S2
    refine seq_go fun N3 h3 => ?_
    obtain ⟨zx, hzx, tzx⟩ := id (R1b)
    refine ⟨_, rfl, q, zx, rfl, .inl (SqL.of hzx), fun lx flx => ?_⟩
    intro x dx fx fdx ndx
    have Ax := Same.new (.lst zx) flx
    have Bx : Same (upd _ lx (.lst zx)) (upd (upd _ dx (.own x)) x (.ins a.c_Table dx [])) := (Same.new _ fdx).put fx _
    refine ⟨x, dx, lx, rows, rfl, upd_same, ⟨zx, Bx _ _ upd_same, (tzx.same Ax).same Bx⟩, good, fun G3 Kx Tx => ⟨rfl, ?_⟩⟩
    have S3 : Same _ G3 := Ax.trans (Bx.but Kx fx)
    refine ⟨_, rfl, small60 (Nat.le_of_ble_eq_true rfl), fun s0 fs0 => ?_⟩
    have A3 := Same.new (.tup [.ref x, .ref q]) fs0
    have S3' := S3.trans A3
    have hs0 : (upd G3 s0 (.tup [.ref x, .ref q])) s0 = some (.tup [.ref x, .ref q]) := upd_same
    have z0 : St2 a (upd G3 s0 (.tup [.ref x, .ref q])) s0 rows := ⟨x, q, upd_same, Tx.same A3, R1b.same S3', good⟩
    try unfold tNext
    try dsimp only
    generalize upd G3 s0 (.tup [.ref x, .ref q]) = G3' at A3 S3' hs0 z0 ⊢
    have R2b := R2.same S3'
    obtain ⟨zy, hzy, tzy⟩ := id (R2b)
    refine ⟨_, rfl, p, zy, rfl, .inl (SqL.of hzy), fun ly fly => ?_⟩
    intro y dy fy fdy ndy
    have Ay := Same.new (.lst zy) fly
    have By : Same (upd _ ly (.lst zy)) (upd (upd _ dy (.own y)) y (.ins a.c_Table dy [])) := (Same.new _ fdy).put fy _
    refine ⟨y, dy, ly, others, rfl, upd_same, ⟨zy, By _ _ upd_same, (tzy.same Ay).same By⟩, goodo, fun G4 Ky Ty => ⟨rfl, ?_⟩⟩
    have S4 : Same _ G4 := Ay.trans (By.but Ky fy)
    refine ⟨_, rfl, small60 (Nat.le_of_ble_eq_true rfl), fun s1 fs1 => ⟨small60 (Nat.le_of_ble_eq_true rfl), fun pl fpl => ?_⟩⟩
    have A4 := Same.new (.tup [.ref y, .ref p]) fs1
    have A5 := Same.new (.lst [.ref s0, .ref s1]) fpl
    have S4' := (S4.trans A4).trans A5
    have z1 : St2 a (upd (upd G4 s1 (.tup [.ref y, .ref p])) pl (.lst [.ref s0, .ref s1])) s1 others := ⟨y, p, A5 _ _ upd_same, (Ty.same A4).same A5, R2b.same S4', goodo⟩
    have hpl : (upd (upd G4 s1 (.tup [.ref y, .ref p])) pl (.lst [.ref s0, .ref s1])) pl = some (.lst [.ref s0, .ref s1]) := upd_same
    have rqG : Rs (upd (upd G4 s1 (.tup [.ref y, .ref p])) pl (.lst [.ref s0, .ref s1])) q rows := (R1b.same S3').same S4'
    have rpG : Rs (upd (upd G4 s1 (.tup [.ref y, .ref p])) pl (.lst [.ref s0, .ref s1])) p others := R2b.same S4'
    have SH : Same H (upd (upd G4 s1 (.tup [.ref y, .ref p])) pl (.lst [.ref s0, .ref s1])) := (U2.trans S3').trans S4'
    replace z0 := z0.same S4'
    refine h3 _ _ ?_
    try unfold tNext
    try dsimp only
    generalize upd (upd G4 s1 (.tup [.ref y, .ref p])) pl (.lst [.ref s0, .ref s1]) = G at z0 z1 hpl SH rqG rpG ⊢
    clear h1 h2 h3 S1 S2 U2 R1 R1b R2 R2b Tx Ty A3 S3 S3' S4 S4' A4 A5 hs0
    refine seq_go fun N4 h4 => ?_
    have at0 : atI [V.ref s0, .ref s1] 0 = some (.ref s0) := rfl
    refine ⟨_, rfl, .inl ⟨pl, _, _, _, rfl, rfl, SqL.of hpl, at0, h4 _ _ ?_⟩⟩
    try unfold tNext
    try dsimp only
    refine seq_split (t := tFor _ _ _) (fun σ' H' => Same G H' ∧ ∃ (sc : Addr) (s5 s6 s7 s8 : Option V), σ' = [some (.ref sa), some (.ref q), some (.ref p), some (.ref pl), some (.ref sc), s5, s6, s7, s8]) (fun N hN => ?_) ?_
    · refine ⟨_, rfl, _, rfl, _, rfl, .inl ⟨sa, _, rfl, SH.seq hS, fun sl fsl => ?_⟩⟩
      obtain ⟨part, ep, lp⟩ := cut63 ns hlen (some 2) (some 26)
      rw [ep]
      have hsl : (upd G sl (.lst (part.map V.int))) sl = some (.lst (part.map V.int)) := upd_same
      have Ssl := Same.new (.lst (part.map V.int)) fsl
      refine ⟨sl, rfl, ⟨_, SqL.of hsl⟩, for_list (D := { nx := N, rt := Q }) (K := K) (a := sl) (xs := part.map V.int) (fun j σ H2 => Same (upd G sl (.lst (part.map V.int))) H2 ∧ ∃ (sc : Addr) (cur : List (Int × Int)) (s5 s6 s7 s8 : Option V), σ = [some (.ref sa), some (.ref q), some (.ref p), some (.ref pl), some (.ref sc), s5, s6, s7, s8] ∧ St2 a H2 sc cur) ⟨Same.refl _, _, _, _, _, _, _, rfl, z0.same Ssl⟩ (fun j σ H2 _ ⟨S', _⟩ => SqL.of (S' _ _ hsl)) ?_ ?_⟩
      · rintro j z σ H2 hz ⟨S, sc, cur, s5, s6, s7, s8, rfl, zc⟩
        obtain ⟨c, hc, rfl⟩ := map_get hz
        replace z0 := z0.same Ssl
        replace z1 := z1.same Ssl
        replace hpl := Ssl _ _ hpl
        clear hN
        generalize upd G sl (.lst (part.map V.int)) = G at S z0 z1 hpl ⊢
        refine seq_go fun N21 h21 => ?_
        refine ⟨_, rfl, _, rfl, _, rfl, _, _, rfl, rfl, ⟨by decide, by decide, by decide⟩, small60 (Nat.le_of_ble_eq_true rfl), fun m0 fm0 => ?_⟩
        have A1 := Same.new (.lst [.int 5, .int 3, .int (10 ^ (12 : Int).toNat), .int 46084]) fm0
        refine ⟨c, m0, [5, 3, 1000000000000, 46084], rfl, (by rw [upd_same]; rfl), (by decide), (by decide), fun dd fs G1 fdd S1 hdd lf hfs => ?_⟩
        obtain ⟨y0, y1, y2, y3, rfl⟩ := four lf
        have b1 := hfs 1 y1 3 rfl rfl
        have b3 := hfs 3 y3 46084 rfl rfl
        have U1 := (S.trans A1).trans S1
        clear hfs lf
        have zc1 := (zc.same A1).same S1
        refine ⟨pl, sc, dd, s0, s1, cur, rows, others, y0, y1, y2, y3, rfl, U1 _ _ hpl, z0.same U1, z1.same U1, zc1, hdd, b1.1, b1.2, b3.1, b3.2, fun z v e t due G2 S2 hz res Rd gd l64 t0 t1 => ?_⟩
        refine ⟨z, _, rfl, SqT.of hz, rfl, _, _, rfl, _, _, rfl, _, _, rfl, rfl, h21 _ _ ?_⟩
        clear h21 hz hdd
        have U2 := U1.trans S2
        have zc2 := zc1.same S2
        clear zc1 zc
        obtain ⟨x, qc, hsc, tx, rqc, goodc⟩ := id zc2
        try unfold tNext
        try dsimp only
        refine seq_go fun N22 h22 => ?_
        refine ⟨_, rfl, _, rfl, v, e, due, rfl, res, Rd, l64, fun G3 S3 => ⟨true, rfl, iteFF rfl ?_⟩⟩
        have hsc3 := S3 _ _ hsc
        refine ⟨_, rfl, _, rfl, .inr (.inl ⟨sc, _, _, _, rfl, rfl, SqT.of hsc3, rfl, _, rfl, _, rfl, .inr (.inl ⟨sc, _, _, _, rfl, rfl, SqT.of hsc3, rfl, v, x, qc, t, due, cur, rfl, res.same S3, gd, tx.same S3, goodc, rqc.same S3, t0, t1, fun G4 S4 => ⟨true, rfl, iteFF rfl (h22 _ _ ?_)⟩⟩)⟩)⟩
        have S34 := S3.trans S4
        have U4 := U2.trans S34
        have res4 := res.same S34
        clear h22 S3 hsc3
        try unfold tNext
        try dsimp only
        rcases res4 with ⟨cc, z2, rfl, tz⟩ | ⟨cc, rfl⟩
        · refine ⟨_, rfl, rfl, _, rfl, iteND (fun _ => ?_) (fun w => nomatch w)⟩
          have gdue := gd cc
          have hsc4 := S34 _ _ hsc
          refine seq_go fun N23 h23 => ?_
          refine ⟨_, rfl, .inr (.inl ⟨sc, _, _, _, rfl, rfl, SqT.of hsc4, rfl, _, rfl, _, rfl, .inr (.inl ⟨sc, _, _, _, rfl, rfl, SqT.of hsc4, rfl, _, rfl, x, z2, qc, e, cur, due, rfl, tx.same S34, goodc, tz, gdue, rqc.same S34, Rd.same S34, fun G5 S5 => ⟨true, rfl, iteFF rfl ?_⟩⟩)⟩)⟩
          have S35 := S34.trans S5
          have hsc5 := S35 _ _ hsc
          have tx5 := tx.same S35
          obtain ⟨k, dx, zx, hx, _, _⟩ := id tx5
          refine ⟨_, rfl, .inr (.inl ⟨sc, _, _, _, rfl, rfl, SqT.of hsc5, rfl, x, dx, _, rfl, hx, flds_no _ (by decide +kernel), x, cur, rfl, tx5, fun d1 G6 fd1 S6 R6 => ?_⟩)⟩
          have S36 := S35.trans S6
          have hsc6 := S36 _ _ hsc
          refine ⟨_, rfl, .inr (.inl ⟨sc, _, _, _, rfl, rfl, SqT.of hsc6, rfl, d1, qc, cur, (Nat.le_trans goodc.few (by decide)), rfl, R6, rqc.same S36, fun G7 S7 => ⟨true, rfl, iteFF rfl (h23 _ _ ?_)⟩⟩)⟩
          refine ⟨_, rfl, _, rfl, small60 (Nat.le_of_ble_eq_true rfl), fun sn fsn => ?_⟩
          have A7 := Same.new (.tup [.ref z2, .ref e]) fsn
          have S37 := (S36.trans S7).trans A7
          have S47 := ((S5.trans S6).trans S7).trans A7
          exact ⟨(U2.trans S37), sn, due, _, _, _, _, rfl, ⟨z2, e, upd_same, tz.same S47, (Rd.same S34).same S47, gdue⟩⟩
        · refine ⟨_, rfl, rfl, _, rfl, iteND (fun w => absurd rfl w) (fun _ => ?_)⟩
          exact ⟨U4, sc, cur, _, _, _, _, rfl, zc2.same S34⟩
      · rintro σ H2 ⟨S, sc, cur, s5, s6, s7, s8, rfl, zc⟩
        exact hN _ _ ⟨Ssl.trans S, _, _, _, _, _, rfl⟩
    rintro _ G1 ⟨S, sc, s5, s6, s7, s8, rfl⟩
    replace hpl := S _ _ hpl
    obtain ⟨x0, q0, hs0, tx, rq, _⟩ := z0.same S
    obtain ⟨x1, p0, hs1, ty, rp, _⟩ := z1.same S
    have at1 : atI [V.ref s0, .ref s1] 1 = some (.ref s1) := rfl
    obtain ⟨k1, dx1, _, hx, _⟩ := id tx
    obtain ⟨k2, dx2, _, hy, _⟩ := id ty
    have f1 : rows.length ≤ 64 := Nat.le_trans good.few (by decide)
    have f2 : others.length ≤ 64 := Nat.le_trans goodo.few (by decide)
    have rqH := rqG.same S
    have rpH := rpG.same S
    refine seq_go fun N6 h6 => ?_
    refine ⟨_, rfl, .inl ⟨pl, _, _, _, rfl, rfl, SqL.of hpl, at0, .inr (.inl ⟨s0, _, _, _, rfl, rfl, SqT.of hs0, rfl, x0, dx1, _, rfl, hx, flds_no _ (by decide +kernel), x0, rows, rfl, tx, fun d1 H3 fd1 S3 L1 => ?_⟩)⟩⟩
    refine ⟨_, rfl, d1, q, rows, f1, rfl, L1, rqH.same S3, fun H4 S4 => ⟨true, rfl, iteFF rfl ?_⟩⟩
    have V4 := S3.trans S4
    have hpl4 := V4 _ _ hpl
    have hs4 := V4 _ _ hs1
    refine ⟨_, rfl, .inl ⟨pl, _, _, _, rfl, rfl, SqL.of hpl4, at1, .inr (.inl ⟨s1, _, _, _, rfl, rfl, SqT.of hs4, rfl, x1, dx2, _, rfl, V4 _ _ hy, flds_no _ (by decide +kernel), x1, others, rfl, ty.same V4, fun d2 H5 fd2 S5 L2 => ?_⟩)⟩⟩
    refine ⟨_, rfl, d2, p, others, f2, rfl, L2, rpH.same (V4.trans S5), fun H6 S6 => ⟨true, rfl, iteFF rfl (h6 _ _ ?_)⟩⟩
    have V6 := (V4.trans S5).trans S6
    have hpl6 := V6 _ _ hpl
    have hs06 := V6 _ _ hs0
    have hs16 := V6 _ _ hs1
    exact ⟨_, rfl, .inl ⟨pl, _, _, _, rfl, rfl, SqL.of hpl6, at0, .inr (.inl ⟨s0, _, _, _, rfl, rfl, SqT.of hs06, rfl, _, rfl, .inl ⟨pl, _, _, _, rfl, rfl, SqL.of hpl6, at1, .inr (.inl ⟨s1, _, _, _, rfl, rfl, SqT.of hs16, rfl, _, rfl, _, rfl, x0, x1, q, p, rows, others, rfl, tx.same V6, good, ty.same V6, goodo, rqH.same V6, rpH.same V6, fun H' S' => kk H'⟩)⟩⟩)⟩⟩
end
end K28
set_option Elab.async false
set_option linter.all false
set_option maxRecDepth 100000
namespace K28
open PySem L2 PySem.NumText PyProof.Rows KC
section
variable {P : Program} {w : World} {K : PySem.W.Frag} {mg : Str → Option Value} {base : Heap}
end
theorem walkX {q : Program} {loose : List Str} {XP : (Str → Option Value) → Heap → Prop} {as : List Addr} {K : Params → PySem.W.Frag} {n m : Nat} {r : PySem.W.RowW} {d : DefRec} {kwd : List (Str × Expr)} {run : Value → List Value → Sem Value}
    (e : ∀ P, as = (K P).map (·.1)) (W : PySem.W.WalkO q loose XP (fun w h => (K w.params).In h) r d kwd run) : PySem.W.WalkX q loose XP (PySem.W.X.obsZ as) (PySem.W.X.valZ K n m) r d kwd run :=
  fun w s₀ s₁ mg mb G y a o pm cd doc dV kV h1 h2 h3 h4 h5 h6 args vals as' L hp hl hr hw hlo => W w s₀ s₁ mg mb G (PySem.W.InK.keeps w _ _ (PySem.W.X.z_facts e y).2.1 L.keeps) a o pm cd doc dV kV h1 h2 h3 h4 h5 h6 args vals as' hp hl hr hw hlo
theorem len_0 {p : List Value → Prop} (h : p []) : ∀ us : List Value, us.length = 0 → p us := fun us hl => by
  cases us with
  | nil => exact h
  | cons a t => cases hl
theorem len_1 {p : List Value → Prop} (h : ∀ a, p [a]) : ∀ us : List Value, us.length = 1 → p us := fun us hl => by
  cases us with
  | nil => cases hl
  | cons a t => exact len_0 (p := fun t => p (a :: t)) (h a) t (Nat.succ.inj hl)
theorem len_2 {p : List Value → Prop} (h : ∀ a b, p [a, b]) : ∀ us : List Value, us.length = 2 → p us := fun us hl => by
  cases us with
  | nil => cases hl
  | cons a t => exact len_1 (p := fun t => p (a :: t)) (h a) t (Nat.succ.inj hl)
theorem len_3 {p : List Value → Prop} (h : ∀ a b c, p [a, b, c]) : ∀ us : List Value, us.length = 3 → p us := fun us hl => by
  cases us with
  | nil => cases hl
  | cons a t => exact len_2 (p := fun t => p (a :: t)) (h a) t (Nat.succ.inj hl)
theorem len_4 {p : List Value → Prop} (h : ∀ a b c d, p [a, b, c, d]) : ∀ us : List Value, us.length = 4 → p us := fun us hl => by
  cases us with
  | nil => cases hl
  | cons a t => exact len_3 (p := fun t => p (a :: t)) (h a) t (Nat.succ.inj hl)
theorem all_mk {l : PySem.W.OpenLaw} {w : World} {K : PySem.W.Frag} {h : Heap} {mg : Str → Option Value} {fa : Addr} (X : K.In h) (G : h.Ns mainGlobals mg) (hfa : mg "law" = some (.ref fa))
    {C_LogError : Addr} (aC_LogError : PySem.W.nsIn K mainGlobals "LogError" = some (some (.ref C_LogError)))
    {C_NoTable : Addr} (aC_NoTable : PySem.W.nsIn K mainGlobals "NoTable" = some (some (.ref C_NoTable)))
    {C_Beyond : Addr} (aC_Beyond : PySem.W.nsIn K mainGlobals "Beyond" = some (some (.ref C_Beyond)))
    {C_TooMany : Addr} (aC_TooMany : PySem.W.nsIn K mainGlobals "TooMany" = some (some (.ref C_TooMany)))
    {C_NoMoment : Addr} (aC_NoMoment : PySem.W.nsIn K mainGlobals "NoMoment" = some (some (.ref C_NoMoment)))
    {C_NoMinutes : Addr} (aC_NoMinutes : PySem.W.nsIn K mainGlobals "NoMinutes" = some (some (.ref C_NoMinutes)))
    {C_Table : Addr} (aC_Table : PySem.W.nsIn K mainGlobals "Table" = some (some (.ref C_Table)))
    {f0 : Addr} {od0 an0 : Option Addr} {sl0 : Array (Option Value)} {oc0 kV0 dc0 pm0 cd0 ct0 : Value}
    (a0 : PySem.W.nsIn K mainGlobals "is_number" = some (some (.ref f0))) (l0 : K.lookup f0 = some ⟨oc0, od0, .func (PySem.W.fnOf "is_number" "is_number" (defArgs s_is_number) (defBody s_is_number) (defScope s_is_number) .none kV0 dc0 pm0 an0 cd0 ct0), sl0⟩) (c0 : PySem.W.codeIn K cd0 "is_number" = true) (k0 : PySem.W.keepIn K (.ref f0) = true)
    {f1 : Addr} {od1 an1 : Option Addr} {sl1 : Array (Option Value)} {oc1 kV1 dc1 pm1 cd1 ct1 : Value}
    (a1 : PySem.W.nsIn K mainGlobals "is_whole" = some (some (.ref f1))) (l1 : K.lookup f1 = some ⟨oc1, od1, .func (PySem.W.fnOf "is_whole" "is_whole" (defArgs s_is_whole) (defBody s_is_whole) (defScope s_is_whole) .none kV1 dc1 pm1 an1 cd1 ct1), sl1⟩) (c1 : PySem.W.codeIn K cd1 "is_whole" = true) (k1 : PySem.W.keepIn K (.ref f1) = true)
    {f2 : Addr} {od2 an2 : Option Addr} {sl2 : Array (Option Value)} {oc2 kV2 dc2 pm2 cd2 ct2 : Value}
    (a2 : PySem.W.nsIn K mainGlobals "is_moment" = some (some (.ref f2))) (l2 : K.lookup f2 = some ⟨oc2, od2, .func (PySem.W.fnOf "is_moment" "is_moment" (defArgs s_is_moment) (defBody s_is_moment) (defScope s_is_moment) .none kV2 dc2 pm2 an2 cd2 ct2), sl2⟩) (c2 : PySem.W.codeIn K cd2 "is_moment" = true) (k2 : PySem.W.keepIn K (.ref f2) = true)
    {f3 : Addr} {od3 an3 : Option Addr} {sl3 : Array (Option Value)} {oc3 kV3 dc3 pm3 cd3 ct3 : Value}
    (a3 : PySem.W.nsIn K mainGlobals "is_shift" = some (some (.ref f3))) (l3 : K.lookup f3 = some ⟨oc3, od3, .func (PySem.W.fnOf "is_shift" "is_shift" (defArgs s_is_shift) (defBody s_is_shift) (defScope s_is_shift) .none kV3 dc3 pm3 an3 cd3 ct3), sl3⟩) (c3 : PySem.W.codeIn K cd3 "is_shift" = true) (k3 : PySem.W.keepIn K (.ref f3) = true)
    {f4 : Addr} {od4 an4 : Option Addr} {sl4 : Array (Option Value)} {oc4 kV4 dc4 pm4 cd4 ct4 : Value}
    (a4 : PySem.W.nsIn K mainGlobals "is_row" = some (some (.ref f4))) (l4 : K.lookup f4 = some ⟨oc4, od4, .func (PySem.W.fnOf "is_row" "is_row" (defArgs s_is_row) (defBody s_is_row) (defScope s_is_row) .none kV4 dc4 pm4 an4 cd4 ct4), sl4⟩) (c4 : PySem.W.codeIn K cd4 "is_row" = true) (k4 : PySem.W.keepIn K (.ref f4) = true)
    {f5 : Addr} {od5 an5 : Option Addr} {sl5 : Array (Option Value)} {oc5 kV5 dc5 pm5 cd5 ct5 : Value}
    (a5 : PySem.W.nsIn K mainGlobals "may_stand" = some (some (.ref f5))) (l5 : K.lookup f5 = some ⟨oc5, od5, .func (PySem.W.fnOf "may_stand" "may_stand" (defArgs s_may_stand) (defBody s_may_stand) (defScope s_may_stand) .none kV5 dc5 pm5 an5 cd5 ct5), sl5⟩) (c5 : PySem.W.codeIn K cd5 "may_stand" = true) (k5 : PySem.W.keepIn K (.ref f5) = true)
    {f6 : Addr} {od6 an6 : Option Addr} {sl6 : Array (Option Value)} {oc6 kV6 dc6 pm6 cd6 ct6 : Value}
    (a6 : PySem.W.nsIn K mainGlobals "check_rows" = some (some (.ref f6))) (l6 : K.lookup f6 = some ⟨oc6, od6, .func (PySem.W.fnOf "check_rows" "check_rows" (defArgs s_check_rows) (defBody s_check_rows) (defScope s_check_rows) .none kV6 dc6 pm6 an6 cd6 ct6), sl6⟩) (c6 : PySem.W.codeIn K cd6 "check_rows" = true) (k6 : PySem.W.keepIn K (.ref f6) = true)
    {f7 : Addr} {od7 an7 : Option Addr} {sl7 : Array (Option Value)} {oc7 kV7 dc7 pm7 cd7 ct7 : Value}
    (a7 : PySem.W.nsIn K mainGlobals "number_at" = some (some (.ref f7))) (l7 : K.lookup f7 = some ⟨oc7, od7, .func (PySem.W.fnOf "number_at" "number_at" (defArgs s_number_at) (defBody s_number_at) (defScope s_number_at) .none kV7 dc7 pm7 an7 cd7 ct7), sl7⟩) (c7 : PySem.W.codeIn K cd7 "number_at" = true) (k7 : PySem.W.keepIn K (.ref f7) = true)
    {f8 : Addr} {od8 an8 : Option Addr} {sl8 : Array (Option Value)} {oc8 kV8 dc8 pm8 cd8 ct8 : Value}
    (a8 : PySem.W.nsIn K mainGlobals "shortest_rows" = some (some (.ref f8))) (l8 : K.lookup f8 = some ⟨oc8, od8, .func (PySem.W.fnOf "shortest_rows" "shortest_rows" (defArgs s_shortest_rows) (defBody s_shortest_rows) (defScope s_shortest_rows) .none kV8 dc8 pm8 an8 cd8 ct8), sl8⟩) (c8 : PySem.W.codeIn K cd8 "shortest_rows" = true) (k8 : PySem.W.keepIn K (.ref f8) = true)
    {f9 : Addr} {od9 an9 : Option Addr} {sl9 : Array (Option Value)} {oc9 kV9 dc9 pm9 cd9 ct9 : Value}
    (a9 : PySem.W.nsIn K mainGlobals "summed" = some (some (.ref f9))) (l9 : K.lookup f9 = some ⟨oc9, od9, .func (PySem.W.fnOf "summed" "summed" (defArgs s_summed) (defBody s_summed) (defScope s_summed) .none kV9 dc9 pm9 an9 cd9 ct9), sl9⟩) (c9 : PySem.W.codeIn K cd9 "summed" = true) (k9 : PySem.W.keepIn K (.ref f9) = true)
    {f10 : Addr} {od10 an10 : Option Addr} {sl10 : Array (Option Value)} {oc10 kV10 dc10 pm10 cd10 ct10 : Value}
    (a10 : PySem.W.nsIn K mainGlobals "differences" = some (some (.ref f10))) (l10 : K.lookup f10 = some ⟨oc10, od10, .func (PySem.W.fnOf "differences" "differences" (defArgs s_differences) (defBody s_differences) (defScope s_differences) .none kV10 dc10 pm10 an10 cd10 ct10), sl10⟩) (c10 : PySem.W.codeIn K cd10 "differences" = true) (k10 : PySem.W.keepIn K (.ref f10) = true)
    {f11 : Addr} {od11 an11 : Option Addr} {sl11 : Array (Option Value)} {oc11 kV11 dc11 pm11 cd11 ct11 : Value}
    (a11 : PySem.W.nsIn K mainGlobals "shortened" = some (some (.ref f11))) (l11 : K.lookup f11 = some ⟨oc11, od11, .func (PySem.W.fnOf "shortened" "shortened" (defArgs s_shortened) (defBody s_shortened) (defScope s_shortened) .none kV11 dc11 pm11 an11 cd11 ct11), sl11⟩) (c11 : PySem.W.codeIn K cd11 "shortened" = true) (k11 : PySem.W.keepIn K (.ref f11) = true)
    {f12 : Addr} {od12 an12 : Option Addr} {sl12 : Array (Option Value)} {oc12 kV12 dc12 pm12 cd12 ct12 : Value}
    (a12 : PySem.W.nsIn K mainGlobals "first_unlike" = some (some (.ref f12))) (l12 : K.lookup f12 = some ⟨oc12, od12, .func (PySem.W.fnOf "first_unlike" "first_unlike" (defArgs s_first_unlike) (defBody s_first_unlike) (defScope s_first_unlike) .none kV12 dc12 pm12 an12 cd12 ct12), sl12⟩) (c12 : PySem.W.codeIn K cd12 "first_unlike" = true) (k12 : PySem.W.keepIn K (.ref f12) = true)
    {f13 : Addr} {od13 an13 : Option Addr} {sl13 : Array (Option Value)} {oc13 kV13 dc13 pm13 cd13 ct13 : Value}
    (a13 : PySem.W.nsIn K mainGlobals "alike" = some (some (.ref f13))) (l13 : K.lookup f13 = some ⟨oc13, od13, .func (PySem.W.fnOf "alike" "alike" (defArgs s_alike) (defBody s_alike) (defScope s_alike) .none kV13 dc13 pm13 an13 cd13 ct13), sl13⟩) (c13 : PySem.W.codeIn K cd13 "alike" = true) (k13 : PySem.W.keepIn K (.ref f13) = true)
    {f14 : Addr} {od14 an14 : Option Addr} {sl14 : Array (Option Value)} {oc14 kV14 dc14 pm14 cd14 ct14 : Value}
    (a14 : PySem.W.nsIn K mainGlobals "table_of" = some (some (.ref f14))) (l14 : K.lookup f14 = some ⟨oc14, od14, .func (PySem.W.fnOf "table_of" "table_of" (defArgs s_table_of) (defBody s_table_of) (defScope s_table_of) .none kV14 dc14 pm14 an14 cd14 ct14), sl14⟩) (c14 : PySem.W.codeIn K cd14 "table_of" = true) (k14 : PySem.W.keepIn K (.ref f14) = true)
    {f15 : Addr} {od15 an15 : Option Addr} {sl15 : Array (Option Value)} {oc15 kV15 dc15 pm15 cd15 ct15 : Value}
    (a15 : PySem.W.nsIn K mainGlobals "spliced" = some (some (.ref f15))) (l15 : K.lookup f15 = some ⟨oc15, od15, .func (PySem.W.fnOf "spliced" "spliced" (defArgs s_spliced) (defBody s_spliced) (defScope s_spliced) .none kV15 dc15 pm15 an15 cd15 ct15), sl15⟩) (c15 : PySem.W.codeIn K cd15 "spliced" = true) (k15 : PySem.W.keepIn K (.ref f15) = true)
    {f16 : Addr} {od16 an16 : Option Addr} {sl16 : Array (Option Value)} {oc16 kV16 dc16 pm16 cd16 ct16 : Value}
    (a16 : PySem.W.nsIn K mainGlobals "minutes_from" = some (some (.ref f16))) (l16 : K.lookup f16 = some ⟨oc16, od16, .func (PySem.W.fnOf "minutes_from" "minutes_from" (defArgs s_minutes_from) (defBody s_minutes_from) (defScope s_minutes_from) .none kV16 dc16 pm16 an16 cd16 ct16), sl16⟩) (c16 : PySem.W.codeIn K cd16 "minutes_from" = true) (k16 : PySem.W.keepIn K (.ref f16) = true)
    {f17 : Addr} {od17 an17 : Option Addr} {sl17 : Array (Option Value)} {oc17 kV17 dc17 pm17 cd17 ct17 : Value}
    (a17 : PySem.W.nsIn K mainGlobals "put_on" = some (some (.ref f17))) (l17 : K.lookup f17 = some ⟨oc17, od17, .func (PySem.W.fnOf "put_on" "put_on" (defArgs s_put_on) (defBody s_put_on) (defScope s_put_on) .none kV17 dc17 pm17 an17 cd17 ct17), sl17⟩) (c17 : PySem.W.codeIn K cd17 "put_on" = true) (k17 : PySem.W.keepIn K (.ref f17) = true)
    {f18 : Addr} {od18 an18 : Option Addr} {sl18 : Array (Option Value)} {oc18 kV18 dc18 pm18 cd18 ct18 : Value}
    (a18 : PySem.W.nsIn K mainGlobals "gaps" = some (some (.ref f18))) (l18 : K.lookup f18 = some ⟨oc18, od18, .func (PySem.W.fnOf "gaps" "gaps" (defArgs s_gaps) (defBody s_gaps) (defScope s_gaps) .none kV18 dc18 pm18 an18 cd18 ct18), sl18⟩) (c18 : PySem.W.codeIn K cd18 "gaps" = true) (k18 : PySem.W.keepIn K (.ref f18) = true)
    {f19 : Addr} {od19 an19 : Option Addr} {sl19 : Array (Option Value)} {oc19 kV19 dc19 pm19 cd19 ct19 : Value}
    (a19 : PySem.W.nsIn K mainGlobals "by_gaps" = some (some (.ref f19))) (l19 : K.lookup f19 = some ⟨oc19, od19, .func (PySem.W.fnOf "by_gaps" "by_gaps" (defArgs s_by_gaps) (defBody s_by_gaps) (defScope s_by_gaps) .none kV19 dc19 pm19 an19 cd19 ct19), sl19⟩) (c19 : PySem.W.codeIn K cd19 "by_gaps" = true) (k19 : PySem.W.keepIn K (.ref f19) = true)
    {f20 : Addr} {od20 an20 : Option Addr} {sl20 : Array (Option Value)} {oc20 kV20 dc20 pm20 cd20 ct20 : Value}
    (a20 : PySem.W.nsIn K mainGlobals "_law_cell_at" = some (some (.ref f20))) (l20 : K.lookup f20 = some ⟨oc20, od20, .func (PySem.W.fnOf "_law_cell_at" "_law_cell_at" (defArgs s_Lcell_at) (defBody s_Lcell_at) (defScope s_Lcell_at) .none kV20 dc20 pm20 an20 cd20 ct20), sl20⟩) (c20 : PySem.W.codeIn K cd20 "_law_cell_at" = true) (k20 : PySem.W.keepIn K (.ref f20) = true)
    {f21 : Addr} {od21 an21 : Option Addr} {sl21 : Array (Option Value)} {oc21 kV21 dc21 pm21 cd21 ct21 : Value}
    (a21 : PySem.W.nsIn K mainGlobals "_law_whole" = some (some (.ref f21))) (l21 : K.lookup f21 = some ⟨oc21, od21, .func (PySem.W.fnOf "_law_whole" "_law_whole" (defArgs s_Lwhole) (defBody s_Lwhole) (defScope s_Lwhole) .none kV21 dc21 pm21 an21 cd21 ct21), sl21⟩) (c21 : PySem.W.codeIn K cd21 "_law_whole" = true) (k21 : PySem.W.keepIn K (.ref f21) = true)
    {f22 : Addr} {od22 an22 : Option Addr} {sl22 : Array (Option Value)} {oc22 kV22 dc22 pm22 cd22 ct22 : Value}
    (a22 : PySem.W.nsIn K mainGlobals "_law_draws" = some (some (.ref f22))) (l22 : K.lookup f22 = some ⟨oc22, od22, .func (PySem.W.fnOf "_law_draws" "_law_draws" (defArgs s_Ldraws) (defBody s_Ldraws) (defScope s_Ldraws) .none kV22 dc22 pm22 an22 cd22 ct22), sl22⟩) (c22 : PySem.W.codeIn K cd22 "_law_draws" = true) (k22 : PySem.W.keepIn K (.ref f22) = true)
    {f23 : Addr} {od23 an23 : Option Addr} {sl23 : Array (Option Value)} {oc23 kV23 dc23 pm23 cd23 ct23 : Value}
    (a23 : PySem.W.nsIn K mainGlobals "_law_rows" = some (some (.ref f23))) (l23 : K.lookup f23 = some ⟨oc23, od23, .func (PySem.W.fnOf "_law_rows" "_law_rows" (defArgs s_Lrows) (defBody s_Lrows) (defScope s_Lrows) .none kV23 dc23 pm23 an23 cd23 ct23), sl23⟩) (c23 : PySem.W.codeIn K cd23 "_law_rows" = true) (k23 : PySem.W.keepIn K (.ref f23) = true)
    {f24 : Addr} {od24 an24 : Option Addr} {sl24 : Array (Option Value)} {oc24 kV24 dc24 pm24 cd24 ct24 : Value}
    (a24 : PySem.W.nsIn K mainGlobals "_law_shortest" = some (some (.ref f24))) (l24 : K.lookup f24 = some ⟨oc24, od24, .func (PySem.W.fnOf "_law_shortest" "_law_shortest" (defArgs s_Lshortest) (defBody s_Lshortest) (defScope s_Lshortest) .none kV24 dc24 pm24 an24 cd24 ct24), sl24⟩) (c24 : PySem.W.codeIn K cd24 "_law_shortest" = true) (k24 : PySem.W.keepIn K (.ref f24) = true)
    {f25 : Addr} {od25 an25 : Option Addr} {sl25 : Array (Option Value)} {oc25 kV25 dc25 pm25 cd25 ct25 : Value}
    (a25 : PySem.W.nsIn K mainGlobals "_law_number_at" = some (some (.ref f25))) (l25 : K.lookup f25 = some ⟨oc25, od25, .func (PySem.W.fnOf "_law_number_at" "_law_number_at" (defArgs s_Lnumber_at) (defBody s_Lnumber_at) (defScope s_Lnumber_at) .none kV25 dc25 pm25 an25 cd25 ct25), sl25⟩) (c25 : PySem.W.codeIn K cd25 "_law_number_at" = true) (k25 : PySem.W.keepIn K (.ref f25) = true)
    {f26 : Addr} {od26 an26 : Option Addr} {sl26 : Array (Option Value)} {oc26 kV26 dc26 pm26 cd26 ct26 : Value}
    (a26 : PySem.W.nsIn K mainGlobals "_law_told" = some (some (.ref f26))) (l26 : K.lookup f26 = some ⟨oc26, od26, .func (PySem.W.fnOf "_law_told" "_law_told" (defArgs s_Ltold) (defBody s_Ltold) (defScope s_Ltold) .none kV26 dc26 pm26 an26 cd26 ct26), sl26⟩) (c26 : PySem.W.codeIn K cd26 "_law_told" = true) (k26 : PySem.W.keepIn K (.ref f26) = true)
    {f27 : Addr} {od27 an27 : Option Addr} {sl27 : Array (Option Value)} {oc27 kV27 dc27 pm27 cd27 ct27 : Value}
    (a27 : PySem.W.nsIn K mainGlobals "_law_moment" = some (some (.ref f27))) (l27 : K.lookup f27 = some ⟨oc27, od27, .func (PySem.W.fnOf "_law_moment" "_law_moment" (defArgs s_Lmoment) (defBody s_Lmoment) (defScope s_Lmoment) .none kV27 dc27 pm27 an27 cd27 ct27), sl27⟩) (c27 : PySem.W.codeIn K cd27 "_law_moment" = true) (k27 : PySem.W.keepIn K (.ref f27) = true)
    {f28 : Addr} {od28 an28 : Option Addr} {sl28 : Array (Option Value)} {oc28 kV28 dc28 pm28 cd28 ct28 : Value}
    (a28 : PySem.W.nsIn K mainGlobals "_law_variant" = some (some (.ref f28))) (l28 : K.lookup f28 = some ⟨oc28, od28, .func (PySem.W.fnOf "_law_variant" "_law_variant" (defArgs s_Lvariant) (defBody s_Lvariant) (defScope s_Lvariant) .none kV28 dc28 pm28 an28 cd28 ct28), sl28⟩) (c28 : PySem.W.codeIn K cd28 "_law_variant" = true) (k28 : PySem.W.keepIn K (.ref f28) = true)
    {f29 : Addr} {od29 an29 : Option Addr} {sl29 : Array (Option Value)} {oc29 kV29 dc29 pm29 cd29 ct29 : Value}
    (a29 : PySem.W.nsIn K mainGlobals "_law_behind" = some (some (.ref f29))) (l29 : K.lookup f29 = some ⟨oc29, od29, .func (PySem.W.fnOf "_law_behind" "_law_behind" (defArgs s_Lbehind) (defBody s_Lbehind) (defScope s_Lbehind) .none kV29 dc29 pm29 an29 cd29 ct29), sl29⟩) (c29 : PySem.W.codeIn K cd29 "_law_behind" = true) (k29 : PySem.W.keepIn K (.ref f29) = true)
    {f30 : Addr} {od30 an30 : Option Addr} {sl30 : Array (Option Value)} {oc30 kV30 dc30 pm30 cd30 ct30 : Value}
    (a30 : PySem.W.nsIn K mainGlobals "_law_can" = some (some (.ref f30))) (l30 : K.lookup f30 = some ⟨oc30, od30, .func (PySem.W.fnOf "_law_can" "_law_can" (defArgs s_Lcan) (defBody s_Lcan) (defScope s_Lcan) .none kV30 dc30 pm30 an30 cd30 ct30), sl30⟩) (c30 : PySem.W.codeIn K cd30 "_law_can" = true) (k30 : PySem.W.keepIn K (.ref f30) = true)
    {f31 : Addr} {od31 an31 : Option Addr} {sl31 : Array (Option Value)} {oc31 kV31 dc31 pm31 cd31 ct31 : Value}
    (a31 : PySem.W.nsIn K mainGlobals "_law_put" = some (some (.ref f31))) (l31 : K.lookup f31 = some ⟨oc31, od31, .func (PySem.W.fnOf "_law_put" "_law_put" (defArgs s_Lput) (defBody s_Lput) (defScope s_Lput) .none kV31 dc31 pm31 an31 cd31 ct31), sl31⟩) (c31 : PySem.W.codeIn K cd31 "_law_put" = true) (k31 : PySem.W.keepIn K (.ref f31) = true)
    {f32 : Addr} {od32 an32 : Option Addr} {sl32 : Array (Option Value)} {oc32 kV32 dc32 pm32 cd32 ct32 : Value}
    (a32 : PySem.W.nsIn K mainGlobals "_law_join" = some (some (.ref f32))) (l32 : K.lookup f32 = some ⟨oc32, od32, .func (PySem.W.fnOf "_law_join" "_law_join" (defArgs s_Ljoin) (defBody s_Ljoin) (defScope s_Ljoin) .none kV32 dc32 pm32 an32 cd32 ct32), sl32⟩) (c32 : PySem.W.codeIn K cd32 "_law_join" = true) (k32 : PySem.W.keepIn K (.ref f32) = true)
    {f33 : Addr} {od33 an33 : Option Addr} {sl33 : Array (Option Value)} {oc33 kV33 dc33 pm33 cd33 ct33 : Value}
    (a33 : PySem.W.nsIn K mainGlobals "_law_is" = some (some (.ref f33))) (l33 : K.lookup f33 = some ⟨oc33, od33, .func (PySem.W.fnOf "_law_is" "_law_is" (defArgs s_Lis) (defBody s_Lis) (defScope s_Lis) .none kV33 dc33 pm33 an33 cd33 ct33), sl33⟩) (c33 : PySem.W.codeIn K cd33 "_law_is" = true) (k33 : PySem.W.keepIn K (.ref f33) = true)
    {f34 : Addr} {od34 an34 : Option Addr} {sl34 : Array (Option Value)} {oc34 kV34 dc34 pm34 cd34 ct34 : Value}
    (a34 : PySem.W.nsIn K mainGlobals "_law_apart" = some (some (.ref f34))) (l34 : K.lookup f34 = some ⟨oc34, od34, .func (PySem.W.fnOf "_law_apart" "_law_apart" (defArgs s_Lapart) (defBody s_Lapart) (defScope s_Lapart) .none kV34 dc34 pm34 an34 cd34 ct34), sl34⟩) (c34 : PySem.W.codeIn K cd34 "_law_apart" = true) (k34 : PySem.W.keepIn K (.ref f34) = true)
    {f35 : Addr} {od35 an35 : Option Addr} {sl35 : Array (Option Value)} {oc35 kV35 dc35 pm35 cd35 ct35 : Value}
    (a35 : PySem.W.nsIn K mainGlobals "_law_back" = some (some (.ref f35))) (l35 : K.lookup f35 = some ⟨oc35, od35, .func (PySem.W.fnOf "_law_back" "_law_back" (defArgs s_Lback) (defBody s_Lback) (defScope s_Lback) .none kV35 dc35 pm35 an35 cd35 ct35), sl35⟩) (c35 : PySem.W.codeIn K cd35 "_law_back" = true) (k35 : PySem.W.keepIn K (.ref f35) = true)
    {f36 : Addr} {od36 an36 : Option Addr} {sl36 : Array (Option Value)} {oc36 kV36 dc36 pm36 cd36 ct36 : Value}
    (a36 : PySem.W.nsIn K mainGlobals "_law_minutes" = some (some (.ref f36))) (l36 : K.lookup f36 = some ⟨oc36, od36, .func (PySem.W.fnOf "_law_minutes" "_law_minutes" (defArgs s_Lminutes) (defBody s_Lminutes) (defScope s_Lminutes) .none kV36 dc36 pm36 an36 cd36 ct36), sl36⟩) (c36 : PySem.W.codeIn K cd36 "_law_minutes" = true) (k36 : PySem.W.keepIn K (.ref f36) = true)
    {f37 : Addr} {od37 an37 : Option Addr} {sl37 : Array (Option Value)} {oc37 kV37 dc37 pm37 cd37 ct37 : Value}
    (a37 : PySem.W.nsIn K mainGlobals "_law_turn" = some (some (.ref f37))) (l37 : K.lookup f37 = some ⟨oc37, od37, .func (PySem.W.fnOf "_law_turn" "_law_turn" (defArgs s_Lturn) (defBody s_Lturn) (defScope s_Lturn) .none kV37 dc37 pm37 an37 cd37 ct37), sl37⟩) (c37 : PySem.W.codeIn K cd37 "_law_turn" = true) (k37 : PySem.W.keepIn K (.ref f37) = true)
    {f38 : Addr} {od38 an38 : Option Addr} {sl38 : Array (Option Value)} {oc38 kV38 dc38 pm38 cd38 ct38 : Value}
    (a38 : PySem.W.nsIn K mainGlobals "law" = some (some (.ref f38))) (l38 : K.lookup f38 = some ⟨oc38, od38, .func (PySem.W.fnOf "law" "law" (defArgs s_law) (defBody s_law) (defScope s_law) .none kV38 dc38 pm38 an38 cd38 ct38), sl38⟩) (c38 : PySem.W.codeIn K cd38 "law" = true) (k38 : PySem.W.keepIn K (.ref f38) = true)
    {f39 : Addr} {od39 an39 : Option Addr} {sl39 : Array (Option Value)} {oc39 kV39 dc39 pm39 cd39 ct39 : Value}
    (a39 : PySem.W.findIn K (.ref C_Table) "__init__" = some (some (.ref f39))) (i39 : PySem.W.isFn K (.ref f39) = true) (l39 : K.lookup f39 = some ⟨oc39, od39, .func (PySem.W.fnOf "__init__" "Table.__init__" (defArgs s_Table_init) (defBody s_Table_init) (defScope s_Table_init) .none kV39 dc39 pm39 an39 cd39 ct39), sl39⟩) (c39 : PySem.W.codeIn K cd39 "Table.__init__" = true) (k39 : PySem.W.keepIn K (.ref f39) = true)
    {f40 : Addr} {od40 an40 : Option Addr} {sl40 : Array (Option Value)} {oc40 kV40 dc40 pm40 cd40 ct40 : Value}
    (a40 : PySem.W.findIn K (.ref C_Table) "rows" = some (some (.ref f40))) (i40 : PySem.W.isFn K (.ref f40) = true) (l40 : K.lookup f40 = some ⟨oc40, od40, .func (PySem.W.fnOf "rows" "Table.rows" (defArgs s_Table_rows) (defBody s_Table_rows) (defScope s_Table_rows) .none kV40 dc40 pm40 an40 cd40 ct40), sl40⟩) (c40 : PySem.W.codeIn K cd40 "Table.rows" = true) (k40 : PySem.W.keepIn K (.ref f40) = true)
    {f41 : Addr} {od41 an41 : Option Addr} {sl41 : Array (Option Value)} {oc41 kV41 dc41 pm41 cd41 ct41 : Value}
    (a41 : PySem.W.findIn K (.ref C_Table) "shift_at" = some (some (.ref f41))) (i41 : PySem.W.isFn K (.ref f41) = true) (l41 : K.lookup f41 = some ⟨oc41, od41, .func (PySem.W.fnOf "shift_at" "Table.shift_at" (defArgs s_Table_shift_at) (defBody s_Table_shift_at) (defScope s_Table_shift_at) .none kV41 dc41 pm41 an41 cd41 ct41), sl41⟩) (c41 : PySem.W.codeIn K cd41 "Table.shift_at" = true) (k41 : PySem.W.keepIn K (.ref f41) = true)
    {f42 : Addr} {od42 an42 : Option Addr} {sl42 : Array (Option Value)} {oc42 kV42 dc42 pm42 cd42 ct42 : Value}
    (a42 : PySem.W.findIn K (.ref C_Table) "reading" = some (some (.ref f42))) (i42 : PySem.W.isFn K (.ref f42) = true) (l42 : K.lookup f42 = some ⟨oc42, od42, .func (PySem.W.fnOf "reading" "Table.reading" (defArgs s_Table_reading) (defBody s_Table_reading) (defScope s_Table_reading) .none kV42 dc42 pm42 an42 cd42 ct42), sl42⟩) (c42 : PySem.W.codeIn K cd42 "Table.reading" = true) (k42 : PySem.W.keepIn K (.ref f42) = true)
    {f43 : Addr} {od43 an43 : Option Addr} {sl43 : Array (Option Value)} {oc43 kV43 dc43 pm43 cd43 ct43 : Value}
    (a43 : PySem.W.findIn K (.ref C_Beyond) "__init__" = some (some (.ref f43))) (i43 : PySem.W.isFn K (.ref f43) = true) (l43 : K.lookup f43 = some ⟨oc43, od43, .func (PySem.W.fnOf "__init__" "Beyond.__init__" (defArgs s_Beyond_init) (defBody s_Beyond_init) (defScope s_Beyond_init) .none kV43 dc43 pm43 an43 cd43 ct43), sl43⟩) (c43 : PySem.W.codeIn K cd43 "Beyond.__init__" = true) (k43 : PySem.W.keepIn K (.ref f43) = true)
    {f44 : Addr} {od44 an44 : Option Addr} {sl44 : Array (Option Value)} {oc44 kV44 dc44 pm44 cd44 ct44 : Value}
    (a44 : PySem.W.findIn K (.ref C_TooMany) "__init__" = some (some (.ref f44))) (i44 : PySem.W.isFn K (.ref f44) = true) (l44 : K.lookup f44 = some ⟨oc44, od44, .func (PySem.W.fnOf "__init__" "TooMany.__init__" (defArgs s_TooMany_init) (defBody s_TooMany_init) (defScope s_TooMany_init) .none kV44 dc44 pm44 an44 cd44 ct44), sl44⟩) (c44 : PySem.W.codeIn K cd44 "TooMany.__init__" = true) (k44 : PySem.W.keepIn K (.ref f44) = true)
    {f45 : Addr} {od45 an45 : Option Addr} {sl45 : Array (Option Value)} {oc45 kV45 dc45 pm45 cd45 ct45 : Value}
    (a45 : PySem.W.findIn K (.ref C_LogError) "__init__" = some (some (.ref f45))) (i45 : PySem.W.isFn K (.ref f45) = true) (l45 : K.lookup f45 = some ⟨oc45, od45, .func (PySem.W.fnOf "__init__" "LogError.__init__" (defArgs s_LogError_init) (defBody s_LogError_init) (defScope s_LogError_init) .none kV45 dc45 pm45 an45 cd45 ct45), sl45⟩) (c45 : PySem.W.codeIn K cd45 "LogError.__init__" = true) (k45 : PySem.W.keepIn K (.ref f45) = true)
    (pg_Table : PySem.W.plainGet K C_Table Str.empty = true) (hd_Table : PySem.W.hasDictIn K C_Table = true) (po_Table : PySem.W.plainOver K C_Table = true) (sa_Table : PySem.W.findIn K (.ref C_Table) "__setattr__" = some (some (.builtin "object.__setattr__"))) (mk_Table : PySem.W.makesIn K C_Table = true) (kc_Table : PySem.W.keepIn K (.ref C_Table) = true)
    (nf_Table_kept : PySem.W.findIn K (.ref C_Table) "kept" = some none)
    (iT1 : PySem.W.findIn K (.ref C_Table) "__class__" = some (some (.builtin "object.__class__"))) (iT2 : PySem.W.specialIn K (.builtin "object.__class__") "__get__" = some (some (.builtin "getset_descriptor.__get__"))) (iT3 : PySem.W.takesIn K (.builtin "object.__class__") = some true) (iT4 : PySem.W.mroIn K C_Table (.type "object") = some true) (m_TooMany_Beyond : PySem.W.mroIn K C_TooMany (.ref C_Beyond) = some false) (m_Beyond_TooMany : PySem.W.mroIn K C_Beyond (.ref C_TooMany) = some false)
    (z_len : PySem.W.nsIn K mainGlobals "len" = some none)
    (z_max : PySem.W.nsIn K mainGlobals "max" = some none)
    (z_min : PySem.W.nsIn K mainGlobals "min" = some none)
    (z_isinstance : PySem.W.nsIn K mainGlobals "isinstance" = some none)
    (z_range : PySem.W.nsIn K mainGlobals "range" = some none)
    (z_enumerate : PySem.W.nsIn K mainGlobals "enumerate" = some none)
    (z_int : PySem.W.nsIn K mainGlobals "int" = some none)
    (z_bool : PySem.W.nsIn K mainGlobals "bool" = some none)
    (z_list : PySem.W.nsIn K mainGlobals "list" = some none)
    (z_tuple : PySem.W.nsIn K mainGlobals "tuple" = some none)
    (z_sorted : PySem.W.nsIn K mainGlobals "sorted" = some none)
    (z_zip : PySem.W.nsIn K mainGlobals "zip" = some none)
    (z_set : PySem.W.nsIn K mainGlobals "set" = some none)
    {t_LAST : Tok} (g_LAST : PySem.W.nsIn K mainGlobals "LAST" = some (some (.int 1000000000 t_LAST)))
    {t_WIDEST_SHIFT : Tok} (g_WIDEST_SHIFT : PySem.W.nsIn K mainGlobals "WIDEST_SHIFT" = some (some (.int 2880 t_WIDEST_SHIFT)))
    {t_MOST_ROWS : Tok} (g_MOST_ROWS : PySem.W.nsIn K mainGlobals "MOST_ROWS" = some (some (.int 21 t_MOST_ROWS)))
    {t_WIDEST_GAP : Tok} (g_WIDEST_GAP : PySem.W.nsIn K mainGlobals "WIDEST_GAP" = some (some (.int 5760 t_WIDEST_GAP)))
    {t_MOST_GAPS : Tok} (g_MOST_GAPS : PySem.W.nsIn K mainGlobals "MOST_GAPS" = some (some (.int 41 t_MOST_GAPS)))
    (zV : PySem.W.nsIn K mainGlobals "ValueError" = some none)
    {ob_LogError : Obj}
    (lk_LogError : K.lookup C_LogError = some ob_LogError)
    (xo_LogError : xOb C_LogError ob_LogError = true)
    (cg : PySem.W.specialIn K (.builtin "object.__class__") "__get__" = some (some (.builtin "getset_descriptor.__get__")))
    (ct : PySem.W.takesIn K (.builtin "object.__class__") = some true)
    (sg_LogError : PySem.W.specialIn K (.ref C_LogError) "__getattribute__" = some (some (.builtin "type.__getattribute__")))
    (rd_LogError : PySem.W.readsIn K C_LogError (.type "type") = true)
    (fc_LogError : PySem.W.findCls K (.ref C_LogError) (.type "type") "__init__" = some (.val (.ref f45)))
    {ob_Beyond : Obj}
    (lk_Beyond : K.lookup C_Beyond = some ob_Beyond)
    (xo_Beyond : xOb C_Beyond ob_Beyond = true)
    (ga_Beyond : PySem.W.findIn K (.ref C_Beyond) "__getattribute__" = some (some (.builtin "BaseException.__getattribute__")))
    (na_Beyond : PySem.W.findIn K (.ref C_Beyond) "__getattr__" = some none)
    (xs_Beyond : PySem.W.findIn K (.ref C_Beyond) "__setattr__" = some (some (.builtin "object.__setattr__")))
    (xc_Beyond : PySem.W.findIn K (.ref C_Beyond) "__class__" = some (some (.builtin "object.__class__")))
    (kx_Beyond : PySem.W.keepIn K (.ref C_Beyond) = true)
    (up_Beyond : PySem.W.mroIn K C_Beyond (.ref C_LogError) = some true)
    (nx_Beyond_row : PySem.W.findIn K (.ref C_Beyond) "row" = some none)
    {ob_TooMany : Obj}
    (lk_TooMany : K.lookup C_TooMany = some ob_TooMany)
    (xo_TooMany : xOb C_TooMany ob_TooMany = true)
    (ga_TooMany : PySem.W.findIn K (.ref C_TooMany) "__getattribute__" = some (some (.builtin "BaseException.__getattribute__")))
    (na_TooMany : PySem.W.findIn K (.ref C_TooMany) "__getattr__" = some none)
    (xs_TooMany : PySem.W.findIn K (.ref C_TooMany) "__setattr__" = some (some (.builtin "object.__setattr__")))
    (xc_TooMany : PySem.W.findIn K (.ref C_TooMany) "__class__" = some (some (.builtin "object.__class__")))
    (kx_TooMany : PySem.W.keepIn K (.ref C_TooMany) = true)
    (up_TooMany : PySem.W.mroIn K C_TooMany (.ref C_LogError) = some true)
    (nx_TooMany_many : PySem.W.findIn K (.ref C_TooMany) "many" = some none)
    (ic_LogError : PySem.W.isClsIn K C_LogError = true)
    (it_LogError : PySem.W.typeIn K (.ref C_LogError) = some (.type "type"))
    (ic_NoTable : PySem.W.isClsIn K C_NoTable = true)
    (it_NoTable : PySem.W.typeIn K (.ref C_NoTable) = some (.type "type"))
    (ic_Beyond : PySem.W.isClsIn K C_Beyond = true)
    (it_Beyond : PySem.W.typeIn K (.ref C_Beyond) = some (.type "type"))
    (ic_TooMany : PySem.W.isClsIn K C_TooMany = true)
    (it_TooMany : PySem.W.typeIn K (.ref C_TooMany) = some (.type "type"))
    (ic_NoMoment : PySem.W.isClsIn K C_NoMoment = true)
    (it_NoMoment : PySem.W.typeIn K (.ref C_NoMoment) = some (.type "type"))
    (ic_NoMinutes : PySem.W.isClsIn K C_NoMinutes = true)
    (it_NoMinutes : PySem.W.typeIn K (.ref C_NoMinutes) = some (.type "type"))
    (su_Beyond_LogError : PySem.W.subIn K (.ref C_Beyond) (.ref C_LogError) = some true)
    (su_Beyond_NoTable : PySem.W.subIn K (.ref C_Beyond) (.ref C_NoTable) = some false)
    (su_Beyond_Beyond : PySem.W.subIn K (.ref C_Beyond) (.ref C_Beyond) = some true)
    (su_Beyond_TooMany : PySem.W.subIn K (.ref C_Beyond) (.ref C_TooMany) = some false)
    (su_Beyond_NoMoment : PySem.W.subIn K (.ref C_Beyond) (.ref C_NoMoment) = some false)
    (su_Beyond_NoMinutes : PySem.W.subIn K (.ref C_Beyond) (.ref C_NoMinutes) = some false)
    (su_TooMany_LogError : PySem.W.subIn K (.ref C_TooMany) (.ref C_LogError) = some true)
    (su_TooMany_NoTable : PySem.W.subIn K (.ref C_TooMany) (.ref C_NoTable) = some false)
    (su_TooMany_Beyond : PySem.W.subIn K (.ref C_TooMany) (.ref C_Beyond) = some false)
    (su_TooMany_TooMany : PySem.W.subIn K (.ref C_TooMany) (.ref C_TooMany) = some true)
    (su_TooMany_NoMoment : PySem.W.subIn K (.ref C_TooMany) (.ref C_NoMoment) = some false)
    (su_TooMany_NoMinutes : PySem.W.subIn K (.ref C_TooMany) (.ref C_NoMinutes) = some false)
    : ∃ fd : FuncData, (∀ (s : Shared) (v : Value), BindsTo s fd ⟨[v], []⟩ [("_law_script", v)]) ∧ ∀ base : Heap, K.In base → base.Ns mainGlobals mg → FnOk l.prog w K mg base CX0 12 fa fd ["_law_script"] (sp_law K) := by
  have e := hfa.symm.trans (PySem.W.mg_of X G a38)
  cases e
  have F0 := fun_mk (st := s_is_number) l0 c0 k0
  have b0 := F0.binds (ps := ["thing"]) fun _ _ _ _ _ _ => len_1 fun _ => rfl
  have F1 := fun_mk (st := s_is_whole) l1 c1 k1
  have b1 := F1.binds (ps := ["thing", "low", "high"]) fun _ _ _ _ _ _ => len_3 fun _ _ _ => rfl
  have F2 := fun_mk (st := s_is_moment) l2 c2 k2
  have b2 := F2.binds (ps := ["thing"]) fun _ _ _ _ _ _ => len_1 fun _ => rfl
  have F3 := fun_mk (st := s_is_shift) l3 c3 k3
  have b3 := F3.binds (ps := ["thing"]) fun _ _ _ _ _ _ => len_1 fun _ => rfl
  have F4 := fun_mk (st := s_is_row) l4 c4 k4
  have b4 := F4.binds (ps := ["thing", "widest"]) fun _ _ _ _ _ _ => len_2 fun _ _ => rfl
  have F5 := fun_mk (st := s_may_stand) l5 c5 k5
  have b5 := F5.binds (ps := ["rows", "place"]) fun _ _ _ _ _ _ => len_2 fun _ _ => rfl
  have F6 := fun_mk (st := s_check_rows) l6 c6 k6
  have b6 := F6.binds (ps := ["rows", "most", "widest"]) fun _ _ _ _ _ _ => len_3 fun _ _ _ => rfl
  have F7 := fun_mk (st := s_number_at) l7 c7 k7
  have b7 := F7.binds (ps := ["rows", "moment"]) fun _ _ _ _ _ _ => len_2 fun _ _ => rfl
  have F8 := fun_mk (st := s_shortest_rows) l8 c8 k8
  have b8 := F8.binds (ps := ["rows"]) fun _ _ _ _ _ _ => len_1 fun _ => rfl
  have F9 := fun_mk (st := s_summed) l9 c9 k9
  have b9 := F9.binds (ps := ["one", "other"]) fun _ _ _ _ _ _ => len_2 fun _ _ => rfl
  have F10 := fun_mk (st := s_differences) l10 c10 k10
  have b10 := F10.binds (ps := ["one", "other"]) fun _ _ _ _ _ _ => len_2 fun _ _ => rfl
  have F11 := fun_mk (st := s_shortened) l11 c11 k11
  have b11 := F11.binds (ps := ["table"]) fun _ _ _ _ _ _ => len_1 fun _ => rfl
  have F12 := fun_mk (st := s_first_unlike) l12 c12 k12
  have b12 := F12.binds (ps := ["one", "other"]) fun _ _ _ _ _ _ => len_2 fun _ _ => rfl
  have F13 := fun_mk (st := s_alike) l13 c13 k13
  have b13 := F13.binds (ps := ["one", "other"]) fun _ _ _ _ _ _ => len_2 fun _ _ => rfl
  have F14 := fun_mk (st := s_table_of) l14 c14 k14
  have b14 := F14.binds (ps := ["rows"]) fun _ _ _ _ _ _ => len_1 fun _ => rfl
  have F15 := fun_mk (st := s_spliced) l15 c15 k15
  have b15 := F15.binds (ps := ["one", "other", "moment"]) fun _ _ _ _ _ _ => len_3 fun _ _ _ => rfl
  have F16 := fun_mk (st := s_minutes_from) l16 c16 k16
  have b16 := F16.binds (ps := ["moment", "minutes"]) fun _ _ _ _ _ _ => len_2 fun _ _ => rfl
  have F17 := fun_mk (st := s_put_on) l17 c17 k17
  have b17 := F17.binds (ps := ["table", "moment", "minutes"]) fun _ _ _ _ _ _ => len_3 fun _ _ _ => rfl
  have F18 := fun_mk (st := s_gaps) l18 c18 k18
  have b18 := F18.binds (ps := ["one", "other"]) fun _ _ _ _ _ _ => len_2 fun _ _ => rfl
  have F19 := fun_mk (st := s_by_gaps) l19 c19 k19
  have b19 := F19.binds (ps := ["one", "rows"]) fun _ _ _ _ _ _ => len_2 fun _ _ => rfl
  have F20 := fun_mk (st := s_Lcell_at) l20 c20 k20
  have b20 := F20.binds (ps := ["_law_script", "_law_k"]) fun _ _ _ _ _ _ => len_2 fun _ _ => rfl
  have F21 := fun_mk (st := s_Lwhole) l21 c21 k21
  have b21 := F21.binds (ps := ["_law_found"]) fun _ _ _ _ _ _ => len_1 fun _ => rfl
  have F22 := fun_mk (st := s_Ldraws) l22 c22 k22
  have b22 := F22.binds (ps := ["_law_cell", "_law_menus"]) fun _ _ _ _ _ _ => len_2 fun _ _ => rfl
  have F23 := fun_mk (st := s_Lrows) l23 c23 k23
  have b23 := F23.binds (ps := ["_law_cell"]) fun _ _ _ _ _ _ => len_1 fun _ => rfl
  have F24 := fun_mk (st := s_Lshortest) l24 c24 k24
  have b24 := F24.binds (ps := ["_law_rows_here"]) fun _ _ _ _ _ _ => len_1 fun _ => rfl
  have F25 := fun_mk (st := s_Lnumber_at) l25 c25 k25
  have b25 := F25.binds (ps := ["_law_rows_here", "_law_moment_here"]) fun _ _ _ _ _ _ => len_2 fun _ _ => rfl
  have F26 := fun_mk (st := s_Ltold) l26 c26 k26
  have b26 := F26.binds (ps := ["_law_found", "_law_due"]) fun _ _ _ _ _ _ => len_2 fun _ _ => rfl
  have F27 := fun_mk (st := s_Lmoment) l27 c27 k27
  have b27 := F27.binds (ps := ["_law_rows_here", "_law_cell"]) fun _ _ _ _ _ _ => len_2 fun _ _ => rfl
  have F28 := fun_mk (st := s_Lvariant) l28 c28 k28
  have b28 := F28.binds (ps := ["_law_rows_here", "_law_cell"]) fun _ _ _ _ _ _ => len_2 fun _ _ => rfl
  have F29 := fun_mk (st := s_Lbehind) l29 c29 k29
  have b29 := F29.binds (ps := ["_law_rows_here", "_law_others", "_law_moment_here", "_law_minutes_here"]) fun _ _ _ _ _ _ => len_4 fun _ _ _ _ => rfl
  have F30 := fun_mk (st := s_Lcan) l30 c30 k30
  have b30 := F30.binds (ps := ["_law_due"]) fun _ _ _ _ _ _ => len_1 fun _ => rfl
  have F31 := fun_mk (st := s_Lput) l31 c31 k31
  have b31 := F31.binds (ps := ["_law_table", "_law_moment_here", "_law_minutes_here"]) fun _ _ _ _ _ _ => len_3 fun _ _ _ => rfl
  have F32 := fun_mk (st := s_Ljoin) l32 c32 k32
  have b32 := F32.binds (ps := ["_law_one", "_law_other", "_law_moment_here"]) fun _ _ _ _ _ _ => len_3 fun _ _ _ => rfl
  have F33 := fun_mk (st := s_Lis) l33 c33 k33
  have b33 := F33.binds (ps := ["_law_found", "_law_due"]) fun _ _ _ _ _ _ => len_2 fun _ _ => rfl
  have F34 := fun_mk (st := s_Lapart) l34 c34 k34
  have b34 := F34.binds (ps := ["_law_one", "_law_other", "_law_rows_here", "_law_others"]) fun _ _ _ _ _ _ => len_4 fun _ _ _ _ => rfl
  have F35 := fun_mk (st := s_Lback) l35 c35 k35
  have b35 := F35.binds (ps := ["_law_found", "_law_table", "_law_moment_here", "_law_rows_here"]) fun _ _ _ _ _ _ => len_4 fun _ _ _ _ => rfl
  have F36 := fun_mk (st := s_Lminutes) l36 c36 k36
  have b36 := F36.binds (ps := ["_law_rows_here", "_law_moment_here", "_law_number"]) fun _ _ _ _ _ _ => len_3 fun _ _ _ => rfl
  have F37 := fun_mk (st := s_Lturn) l37 c37 k37
  have b37 := F37.binds (ps := ["_law_pair", "_law_state", "_law_draws_here"]) fun _ _ _ _ _ _ => len_3 fun _ _ _ => rfl
  have F38 := fun_mk (st := s_law) l38 c38 k38
  have b38 := F38.binds (ps := ["_law_script"]) fun _ _ _ _ _ _ => len_1 fun _ => rfl
  have F39 := fun_mk (st := s_Table_init) l39 c39 k39
  have b39 := F39.binds (ps := ["self", "rows"]) fun _ _ _ _ _ _ => len_2 fun _ _ => rfl
  have F40 := fun_mk (st := s_Table_rows) l40 c40 k40
  have b40 := F40.binds (ps := ["self"]) fun _ _ _ _ _ _ => len_1 fun _ => rfl
  have F41 := fun_mk (st := s_Table_shift_at) l41 c41 k41
  have b41 := F41.binds (ps := ["self", "moment"]) fun _ _ _ _ _ _ => len_2 fun _ _ => rfl
  have F42 := fun_mk (st := s_Table_reading) l42 c42 k42
  have b42 := F42.binds (ps := ["self", "moment"]) fun _ _ _ _ _ _ => len_2 fun _ _ => rfl
  have F43 := fun_mk (st := s_Beyond_init) l43 c43 k43
  have b43 := F43.binds (ps := ["self", "row"]) fun _ _ _ _ _ _ => len_2 fun _ _ => rfl
  have F44 := fun_mk (st := s_TooMany_init) l44 c44 k44
  have b44 := F44.binds (ps := ["self", "many"]) fun _ _ _ _ _ _ => len_2 fun _ _ => rfl
  have F45 := fun_mk (st := s_LogError_init) l45 c45 k45
  have b45 := F45.binds (ps := ["self", "text"]) fun _ _ _ _ _ _ => len_2 fun _ _ => rfl
  refine ⟨_, fun s v => .of_eq rfl, fun base _ _ => ok_law (a := ⟨C_LogError, C_NoTable, C_Beyond, C_TooMany, C_NoMoment, C_NoMinutes, C_Table, f0, _, f1, _, f2, _, f3, _, f4, _, f5, _, f6, _, f7, _, f8, _, f9, _, f10, _, f11, _, f12, _, f13, _, f14, _, f15, _, f16, _, f17, _, f18, _, f19, _, f20, _, f21, _, f22, _, f23, _, f24, _, f25, _, f26, _, f27, _, f28, _, f29, _, f30, _, f31, _, f32, _, f33, _, f34, _, f35, _, f36, _, f37, _, fa, _, f39, _, f40, _, f41, _, f42, _, f43, _, f44, _, f45, _⟩) ⟨⟨F0, b0, PySem.W.mg_of X G a0, k0⟩, ⟨F1, b1, PySem.W.mg_of X G a1, k1⟩, ⟨F2, b2, PySem.W.mg_of X G a2, k2⟩, ⟨F3, b3, PySem.W.mg_of X G a3, k3⟩, ⟨F4, b4, PySem.W.mg_of X G a4, k4⟩, ⟨F5, b5, PySem.W.mg_of X G a5, k5⟩, ⟨F6, b6, PySem.W.mg_of X G a6, k6⟩, ⟨F7, b7, PySem.W.mg_of X G a7, k7⟩, ⟨F8, b8, PySem.W.mg_of X G a8, k8⟩, ⟨F9, b9, PySem.W.mg_of X G a9, k9⟩, ⟨F10, b10, PySem.W.mg_of X G a10, k10⟩, ⟨F11, b11, PySem.W.mg_of X G a11, k11⟩, ⟨F12, b12, PySem.W.mg_of X G a12, k12⟩, ⟨F13, b13, PySem.W.mg_of X G a13, k13⟩, ⟨F14, b14, PySem.W.mg_of X G a14, k14⟩, ⟨F15, b15, PySem.W.mg_of X G a15, k15⟩, ⟨F16, b16, PySem.W.mg_of X G a16, k16⟩, ⟨F17, b17, PySem.W.mg_of X G a17, k17⟩, ⟨F18, b18, PySem.W.mg_of X G a18, k18⟩, ⟨F19, b19, PySem.W.mg_of X G a19, k19⟩, ⟨F20, b20, PySem.W.mg_of X G a20, k20⟩, ⟨F21, b21, PySem.W.mg_of X G a21, k21⟩, ⟨F22, b22, PySem.W.mg_of X G a22, k22⟩, ⟨F23, b23, PySem.W.mg_of X G a23, k23⟩, ⟨F24, b24, PySem.W.mg_of X G a24, k24⟩, ⟨F25, b25, PySem.W.mg_of X G a25, k25⟩, ⟨F26, b26, PySem.W.mg_of X G a26, k26⟩, ⟨F27, b27, PySem.W.mg_of X G a27, k27⟩, ⟨F28, b28, PySem.W.mg_of X G a28, k28⟩, ⟨F29, b29, PySem.W.mg_of X G a29, k29⟩, ⟨F30, b30, PySem.W.mg_of X G a30, k30⟩, ⟨F31, b31, PySem.W.mg_of X G a31, k31⟩, ⟨F32, b32, PySem.W.mg_of X G a32, k32⟩, ⟨F33, b33, PySem.W.mg_of X G a33, k33⟩, ⟨F34, b34, PySem.W.mg_of X G a34, k34⟩, ⟨F35, b35, PySem.W.mg_of X G a35, k35⟩, ⟨F36, b36, PySem.W.mg_of X G a36, k36⟩, ⟨F37, b37, PySem.W.mg_of X G a37, k37⟩, ⟨F38, b38, PySem.W.mg_of X G a38, k38⟩, ⟨F39, b39, ⟨a39, i39, k39⟩⟩, ⟨F40, b40, ⟨a40, i40, k40⟩⟩, ⟨F41, b41, ⟨a41, i41, k41⟩⟩, ⟨F42, b42, ⟨a42, i42, k42⟩⟩, ⟨F43, b43, ⟨a43, i43, k43⟩⟩, ⟨F44, b44, ⟨a44, i44, k44⟩⟩, ⟨F45, b45, ⟨a45, i45, k45⟩⟩, PySem.W.mg_of X G aC_Table, ⟨pg_Table, hd_Table, po_Table, sa_Table⟩, ⟨mk_Table, a39, i39, kc_Table⟩, nf_Table_kept, iT1, iT2, iT3, iT4, m_TooMany_Beyond, m_Beyond_TooMany, PySem.W.mg_none_of X G z_len, PySem.W.mg_none_of X G z_max, PySem.W.mg_none_of X G z_min, PySem.W.mg_none_of X G z_isinstance, PySem.W.mg_none_of X G z_range, PySem.W.mg_none_of X G z_enumerate, PySem.W.mg_none_of X G z_int, PySem.W.mg_none_of X G z_bool, PySem.W.mg_none_of X G z_list, PySem.W.mg_none_of X G z_tuple, PySem.W.mg_none_of X G z_sorted, PySem.W.mg_none_of X G z_zip, PySem.W.mg_none_of X G z_set, ⟨t_LAST, PySem.W.mg_of X G g_LAST⟩, ⟨t_WIDEST_SHIFT, PySem.W.mg_of X G g_WIDEST_SHIFT⟩, ⟨t_MOST_ROWS, PySem.W.mg_of X G g_MOST_ROWS⟩, ⟨t_WIDEST_GAP, PySem.W.mg_of X G g_WIDEST_GAP⟩, ⟨t_MOST_GAPS, PySem.W.mg_of X G g_MOST_GAPS⟩, PySem.W.mg_none_of X G zV, PySem.W.mg_of X G aC_LogError, PySem.W.mg_of X G aC_NoTable, PySem.W.mg_of X G aC_Beyond, PySem.W.mg_of X G aC_TooMany, PySem.W.mg_of X G aC_NoMoment, PySem.W.mg_of X G aC_NoMinutes, xIn_of lk_LogError xo_LogError, ⟨sg_LogError, rd_LogError, fc_LogError, k45⟩, ⟨⟨xIn_of lk_Beyond xo_Beyond, ga_Beyond, na_Beyond, xs_Beyond, xc_Beyond, cg, ct⟩, a43, i43, kx_Beyond⟩, up_Beyond, nx_Beyond_row, ⟨⟨xIn_of lk_TooMany xo_TooMany, ga_TooMany, na_TooMany, xs_TooMany, xc_TooMany, cg, ct⟩, a44, i44, kx_TooMany⟩, up_TooMany, nx_TooMany_many, xIsa_of ic_LogError it_LogError su_Beyond_LogError, xIsa_of ic_NoTable it_NoTable su_Beyond_NoTable, xIsa_of ic_Beyond it_Beyond su_Beyond_Beyond, xIsa_of ic_TooMany it_TooMany su_Beyond_TooMany, xIsa_of ic_NoMoment it_NoMoment su_Beyond_NoMoment, xIsa_of ic_NoMinutes it_NoMinutes su_Beyond_NoMinutes, xIsa_of ic_LogError it_LogError su_TooMany_LogError, xIsa_of ic_NoTable it_NoTable su_TooMany_NoTable, xIsa_of ic_Beyond it_Beyond su_TooMany_Beyond, xIsa_of ic_TooMany it_TooMany su_TooMany_TooMany, xIsa_of ic_NoMoment it_NoMoment su_TooMany_NoMoment, xIsa_of ic_NoMinutes it_NoMinutes su_TooMany_NoMinutes⟩⟩
theorem walk {l : PySem.W.OpenLaw} {q : Program} {loose : List Str} {XP : (Str → Option Value) → Heap → Prop} {YP : World → Heap → Prop} {d : DefRec} {K : Params → PySem.W.Frag} (hn : l.most = some 63) (hdf : d.params.defaults = [])
    (hY : ∀ (w : World) (h : Heap), YP w h → (K w.params).In h)
    (F : ∀ (w : World) (mg : Str → Option Value) (fa : Addr) (h : Heap), (K w.params).In h → h.Ns mainGlobals mg → mg d.name = some (.ref fa) →
      ∃ fd : FuncData, (∀ (s : Shared) (u : Value), BindsTo s fd ⟨[u], []⟩ [("_law_script", u)]) ∧ ∀ base : Heap, (K w.params).In base → base.Ns mainGlobals mg → FnOk l.prog w (K w.params) mg base CX0 12 fa fd ["_law_script"] (sp_law (K w.params))) :
    PySem.W.WalkO q loose XP YP l.row.toRowW d [] (fun f vs => PySem.call f vs) :=
  L2.walk_of (n := 63) (k := 12) (x := "_law_script") (CX := fun _ => CX0) (sp := fun w => sp_law (K w.params)) hn (by decide) hdf ⟨rfl, by decide, by decide⟩ hY F (fun _ _ a ns hl _ hS => ⟨a, ns, rfl, hS, hl, fun _ => rfl⟩) fun _ _ _ _ _ z => z
end K28
open PySem PySem.W PyProof.Rows
set_option maxHeartbeats 0 in
noncomputable def _root_.PySem.W.Fast.tw1821790328701458142 : Nat := 0
noncomputable def _root_.PySem.W.Fast.tw5532591117361062105 : Nat := 0
noncomputable def _root_.PySem.W.Fast.tw10663072246184586147 : Nat := 0
noncomputable def _root_.PySem.W.Fast.tw1548284128930873394 : Nat := 0
noncomputable def _root_.PySem.W.Fast.tw14716829535549507977 : Nat := 0
noncomputable def _root_.PySem.W.Fast.tw15363687973067298217 : Nat := 0
noncomputable def _root_.PySem.W.Fast.tw14371213201701946265 : Nat := 0
noncomputable def _root_.PySem.W.Fast.tw5804704398722566977 : Nat := 0
noncomputable def _root_.PySem.W.Fast.tw886539728268678226 : Nat := 0
noncomputable def _root_.PySem.W.Fast.tw7255202148045694620 : Nat := 0
noncomputable def _root_.PySem.W.Fast.tw9289178586233740876 : Nat := 0
noncomputable def _root_.PySem.W.Fast.tw4666354117133151190 : Nat := 0
noncomputable def _root_.PySem.W.Fast.tw1113707666073597379 : Nat := 0
noncomputable def _root_.PySem.W.Fast.tw8001795420591824899 : Nat := 0
theorem PySem.Challenge.cw_foldlog_k28_whole_one_shortest_table_holds : PySem.Challenge.rw_foldlog_k28_whole_one_shortest_table.Holds := by
  w_on; o_law; z_head; (case hw => w_witness2)
  k_fill
  refine K28.walkX (fun _ => by kernel_rfl) (K28.walk (l := PySem.Challenge.rw_foldlog_k28_whole_one_shortest_table) rfl rfl (fun w h Y => Y) ?F)
  case F =>
    intro w mg fa h KX G hmg
    refine' K28.all_mk KX G hmg ?aC_LogError ?aC_NoTable ?aC_Beyond ?aC_TooMany ?aC_NoMoment ?aC_NoMinutes ?aC_Table ?a0 ?l0 ?c0 ?k0 ?a1 ?l1 ?c1 ?k1 ?a2 ?l2 ?c2 ?k2 ?a3 ?l3 ?c3 ?k3 ?a4 ?l4 ?c4 ?k4 ?a5 ?l5 ?c5 ?k5 ?a6 ?l6 ?c6 ?k6 ?a7 ?l7 ?c7 ?k7 ?a8 ?l8 ?c8 ?k8 ?a9 ?l9 ?c9 ?k9 ?a10 ?l10 ?c10 ?k10 ?a11 ?l11 ?c11 ?k11 ?a12 ?l12 ?c12 ?k12 ?a13 ?l13 ?c13 ?k13 ?a14 ?l14 ?c14 ?k14 ?a15 ?l15 ?c15 ?k15 ?a16 ?l16 ?c16 ?k16 ?a17 ?l17 ?c17 ?k17 ?a18 ?l18 ?c18 ?k18 ?a19 ?l19 ?c19 ?k19 ?a20 ?l20 ?c20 ?k20 ?a21 ?l21 ?c21 ?k21 ?a22 ?l22 ?c22 ?k22 ?a23 ?l23 ?c23 ?k23 ?a24 ?l24 ?c24 ?k24 ?a25 ?l25 ?c25 ?k25 ?a26 ?l26 ?c26 ?k26 ?a27 ?l27 ?c27 ?k27 ?a28 ?l28 ?c28 ?k28 ?a29 ?l29 ?c29 ?k29 ?a30 ?l30 ?c30 ?k30 ?a31 ?l31 ?c31 ?k31 ?a32 ?l32 ?c32 ?k32 ?a33 ?l33 ?c33 ?k33 ?a34 ?l34 ?c34 ?k34 ?a35 ?l35 ?c35 ?k35 ?a36 ?l36 ?c36 ?k36 ?a37 ?l37 ?c37 ?k37 ?a38 ?l38 ?c38 ?k38 ?a39 ?i39 ?l39 ?c39 ?k39 ?a40 ?i40 ?l40 ?c40 ?k40 ?a41 ?i41 ?l41 ?c41 ?k41 ?a42 ?i42 ?l42 ?c42 ?k42 ?a43 ?i43 ?l43 ?c43 ?k43 ?a44 ?i44 ?l44 ?c44 ?k44 ?a45 ?i45 ?l45 ?c45 ?k45 ?pg_Table ?hd_Table ?po_Table ?sa_Table ?mk_Table ?kc_Table ?nf_Table_kept ?iT1 ?iT2 ?iT3 ?iT4 ?m_TooMany_Beyond ?m_Beyond_TooMany ?z_len ?z_max ?z_min ?z_isinstance ?z_range ?z_enumerate ?z_int ?z_bool ?z_list ?z_tuple ?z_sorted ?z_zip ?z_set ?g_LAST ?g_WIDEST_SHIFT ?g_MOST_ROWS ?g_WIDEST_GAP ?g_MOST_GAPS ?zV ?lk_LogError ?xo_LogError ?cg ?ct ?sg_LogError ?rd_LogError ?fc_LogError ?lk_Beyond ?xo_Beyond ?ga_Beyond ?na_Beyond ?xs_Beyond ?xc_Beyond ?kx_Beyond ?up_Beyond ?nx_Beyond_row ?lk_TooMany ?xo_TooMany ?ga_TooMany ?na_TooMany ?xs_TooMany ?xc_TooMany ?kx_TooMany ?up_TooMany ?nx_TooMany_many ?ic_LogError ?it_LogError ?ic_NoTable ?it_NoTable ?ic_Beyond ?it_Beyond ?ic_TooMany ?it_TooMany ?ic_NoMoment ?it_NoMoment ?ic_NoMinutes ?it_NoMinutes ?su_Beyond_LogError ?su_Beyond_NoTable ?su_Beyond_Beyond ?su_Beyond_TooMany ?su_Beyond_NoMoment ?su_Beyond_NoMinutes ?su_TooMany_LogError ?su_TooMany_NoTable ?su_TooMany_Beyond ?su_TooMany_TooMany ?su_TooMany_NoMoment ?su_TooMany_NoMinutes
    (case aC_LogError => k_is)
    (case aC_NoTable => k_is)
    (case aC_Beyond => k_is)
    (case aC_TooMany => k_is)
    (case aC_NoMoment => k_is)
    (case aC_NoMinutes => k_is)
    (case aC_Table => k_is)
    (case a0 => k_is)
    (case l0 => k_is)
    (case c0 => k_is)
    (case k0 => k_is)
    (case a1 => k_is)
    (case l1 => k_is)
    (case c1 => k_is)
    (case k1 => k_is)
    (case a2 => k_is)
    (case l2 => k_is)
    (case c2 => k_is)
    (case k2 => k_is)
    (case a3 => k_is)
    (case l3 => k_is)
    (case c3 => k_is)
    (case k3 => k_is)
    (case a4 => k_is)
    (case l4 => k_is)
    (case c4 => k_is)
    (case k4 => k_is)
    (case a5 => k_is)
    (case l5 => k_is)
    (case c5 => k_is)
    (case k5 => k_is)
    (case a6 => k_is)
    (case l6 => k_is)
    (case c6 => k_is)
    (case k6 => k_is)
    (case a7 => k_is)
    (case l7 => k_is)
    (case c7 => k_is)
    (case k7 => k_is)
    (case a8 => k_is)
    (case l8 => k_is)
    (case c8 => k_is)
    (case k8 => k_is)
    (case a9 => k_is)
    (case l9 => k_is)
    (case c9 => k_is)
    (case k9 => k_is)
    (case a10 => k_is)
    (case l10 => k_is)
    (case c10 => k_is)
    (case k10 => k_is)
    (case a11 => k_is)
    (case l11 => k_is)
    (case c11 => k_is)
    (case k11 => k_is)
    (case a12 => k_is)
    (case l12 => k_is)
    (case c12 => k_is)
    (case k12 => k_is)
    (case a13 => k_is)
    (case l13 => k_is)
    (case c13 => k_is)
    (case k13 => k_is)
    (case a14 => k_is)
    (case l14 => k_is)
    (case c14 => k_is)
    (case k14 => k_is)
    (case a15 => k_is)
    (case l15 => k_is)
    (case c15 => k_is)
    (case k15 => k_is)
    (case a16 => k_is)
    (case l16 => k_is)
    (case c16 => k_is)
    (case k16 => k_is)
    (case a17 => k_is)
    (case l17 => k_is)
    (case c17 => k_is)
    (case k17 => k_is)
    (case a18 => k_is)
    (case l18 => k_is)
    (case c18 => k_is)
    (case k18 => k_is)
    (case a19 => k_is)
    (case l19 => k_is)
    (case c19 => k_is)
    (case k19 => k_is)
    (case a20 => k_is)
    (case l20 => k_is)
    (case c20 => k_is)
    (case k20 => k_is)
    (case a21 => k_is)
    (case l21 => k_is)
    (case c21 => k_is)
    (case k21 => k_is)
    (case a22 => k_is)
    (case l22 => k_is)
    (case c22 => k_is)
    (case k22 => k_is)
    (case a23 => k_is)
    (case l23 => k_is)
    (case c23 => k_is)
    (case k23 => k_is)
    (case a24 => k_is)
    (case l24 => k_is)
    (case c24 => k_is)
    (case k24 => k_is)
    (case a25 => k_is)
    (case l25 => k_is)
    (case c25 => k_is)
    (case k25 => k_is)
    (case a26 => k_is)
    (case l26 => k_is)
    (case c26 => k_is)
    (case k26 => k_is)
    (case a27 => k_is)
    (case l27 => k_is)
    (case c27 => k_is)
    (case k27 => k_is)
    (case a28 => k_is)
    (case l28 => k_is)
    (case c28 => k_is)
    (case k28 => k_is)
    (case a29 => k_is)
    (case l29 => k_is)
    (case c29 => k_is)
    (case k29 => k_is)
    (case a30 => k_is)
    (case l30 => k_is)
    (case c30 => k_is)
    (case k30 => k_is)
    (case a31 => k_is)
    (case l31 => k_is)
    (case c31 => k_is)
    (case k31 => k_is)
    (case a32 => k_is)
    (case l32 => k_is)
    (case c32 => k_is)
    (case k32 => k_is)
    (case a33 => k_is)
    (case l33 => k_is)
    (case c33 => k_is)
    (case k33 => k_is)
    (case a34 => k_is)
    (case l34 => k_is)
    (case c34 => k_is)
    (case k34 => k_is)
    (case a35 => k_is)
    (case l35 => k_is)
    (case c35 => k_is)
    (case k35 => k_is)
    (case a36 => k_is)
    (case l36 => k_is)
    (case c36 => k_is)
    (case k36 => k_is)
    (case a37 => k_is)
    (case l37 => k_is)
    (case c37 => k_is)
    (case k37 => k_is)
    (case a38 => k_is)
    (case l38 => k_is)
    (case c38 => k_is)
    (case k38 => k_is)
    (case a39 => k_is)
    (case i39 => k_is)
    (case l39 => k_is)
    (case c39 => k_is)
    (case k39 => k_is)
    (case a40 => k_is)
    (case i40 => k_is)
    (case l40 => k_is)
    (case c40 => k_is)
    (case k40 => k_is)
    (case a41 => k_is)
    (case i41 => k_is)
    (case l41 => k_is)
    (case c41 => k_is)
    (case k41 => k_is)
    (case a42 => k_is)
    (case i42 => k_is)
    (case l42 => k_is)
    (case c42 => k_is)
    (case k42 => k_is)
    (case a43 => k_is)
    (case i43 => k_is)
    (case l43 => k_is)
    (case c43 => k_is)
    (case k43 => k_is)
    (case a44 => k_is)
    (case i44 => k_is)
    (case l44 => k_is)
    (case c44 => k_is)
    (case k44 => k_is)
    (case a45 => k_is)
    (case i45 => k_is)
    (case l45 => k_is)
    (case c45 => k_is)
    (case k45 => k_is)
    (case pg_Table => k_is)
    (case hd_Table => k_is)
    (case po_Table => k_is)
    (case sa_Table => k_is)
    (case mk_Table => k_is)
    (case kc_Table => k_is)
    (case nf_Table_kept => k_is)
    (case iT1 => k_is)
    (case iT2 => k_is)
    (case iT3 => k_is)
    (case iT4 => k_is)
    (case m_TooMany_Beyond => k_is)
    (case m_Beyond_TooMany => k_is)
    (case z_len => k_is)
    (case z_max => k_is)
    (case z_min => k_is)
    (case z_isinstance => k_is)
    (case z_range => k_is)
    (case z_enumerate => k_is)
    (case z_int => k_is)
    (case z_bool => k_is)
    (case z_list => k_is)
    (case z_tuple => k_is)
    (case z_sorted => k_is)
    (case z_zip => k_is)
    (case z_set => k_is)
    (case g_LAST => k_is)
    (case g_WIDEST_SHIFT => k_is)
    (case g_MOST_ROWS => k_is)
    (case g_WIDEST_GAP => k_is)
    (case g_MOST_GAPS => k_is)
    (case zV => k_is)
    (case lk_LogError => k_is)
    (case xo_LogError => rfl)
    (case cg => k_is)
    (case ct => k_is)
    (case sg_LogError => k_is)
    (case rd_LogError => k_is)
    (case fc_LogError => k_is)
    (case lk_Beyond => k_is)
    (case xo_Beyond => rfl)
    (case ga_Beyond => k_is)
    (case na_Beyond => k_is)
    (case xs_Beyond => k_is)
    (case xc_Beyond => k_is)
    (case kx_Beyond => k_is)
    (case up_Beyond => k_is)
    (case nx_Beyond_row => k_is)
    (case lk_TooMany => k_is)
    (case xo_TooMany => rfl)
    (case ga_TooMany => k_is)
    (case na_TooMany => k_is)
    (case xs_TooMany => k_is)
    (case xc_TooMany => k_is)
    (case kx_TooMany => k_is)
    (case up_TooMany => k_is)
    (case nx_TooMany_many => k_is)
    (case ic_LogError => k_is)
    (case it_LogError => k_is)
    (case ic_NoTable => k_is)
    (case it_NoTable => k_is)
    (case ic_Beyond => k_is)
    (case it_Beyond => k_is)
    (case ic_TooMany => k_is)
    (case it_TooMany => k_is)
    (case ic_NoMoment => k_is)
    (case it_NoMoment => k_is)
    (case ic_NoMinutes => k_is)
    (case it_NoMinutes => k_is)
    (case su_Beyond_LogError => k_is)
    (case su_Beyond_NoTable => k_is)
    (case su_Beyond_Beyond => k_is)
    (case su_Beyond_TooMany => k_is)
    (case su_Beyond_NoMoment => k_is)
    (case su_Beyond_NoMinutes => k_is)
    (case su_TooMany_LogError => k_is)
    (case su_TooMany_NoTable => k_is)
    (case su_TooMany_Beyond => k_is)
    (case su_TooMany_TooMany => k_is)
    (case su_TooMany_NoMoment => k_is)
    (case su_TooMany_NoMinutes => k_is)
