import PyProof.Rows.All
import Wide.All
import OpenK.AllK
import Wide.FinOn
import Lean
import PyProof.EqAt
import PyProof.EqKinds
import PyProof.TupleCall
import PyProof.ZipIter
import PyProof.TupleIter
import PyProof.CompUse
import KE.KRevIter
import KE.KIntText
import PyProof.FString
import PyProof.Rows.StrNews2
import PyProof.Rows.StrSplitCount
import PyProof.Rows.StrClose3
import KE.IntTextText
import PyProof.StrLawsTight
import PyProof.StationsW
import PyProof.PassesOwn
import PyProof.ExcInit
import PyProof.ExcBaseAll.ValueError
import PyProof.InstStoreFacts
import KE.KIsNot
import PyProof.ExcArgs
import PyProof.RulesAs
import KE.KEqDict
import PyProof.NsDelKeeps
import KE.KListMore
import PyProof.ReprRoads
import PyProof.ReprLen
import PyProof.MeetsStr3
import PyProof.StrOps2
import PySem.Challenge.RW_foldlog_k18_table_texts_refused
set_option maxHeartbeats 4000000
set_option Elab.async false
set_option linter.all false
set_option maxRecDepth 100000
namespace L2
open PySem PySem.Spec PyProof.Rows
noncomputable abbrev Key := Sum Int Str
noncomputable def keyIs : Key → Value → Bool
  | .inl k, v => Value.isInt k v
  | .inr x, v => Value.isStrOf x v
noncomputable def keyH (w : World) : Key → Int
  | .inl k => hashInt k
  | .inr x => hashStr w x
theorem keyIs_shape : ∀ {k : Key} {v : Value}, keyIs k v = true → (∃ i t, k = Sum.inl i ∧ v = Value.int i t) ∨ (∃ x t, k = Sum.inr x ∧ v = Value.str x t)
  | .inl i, v, h => by
    obtain ⟨t, e⟩ := Value.isInt_shape (k := i) (v := v) h
    exact .inl ⟨i, t, rfl, e⟩
  | .inr x, v, h => by
    obtain ⟨t, e⟩ := Value.isStrOf_shape (x := x) (v := v) h
    exact .inr ⟨x, t, rfl, e⟩
theorem keyIs_int (i : Int) (t : Tok) : keyIs (.inl i) (.int i t) = true := by simp [keyIs, Value.isInt]
theorem keyIs_str (x : Str) (t : Tok) : keyIs (.inr x) (.str x t) = true := by simp [keyIs, Value.isStrOf]
theorem key_ll (a b : Int) : decide ((Sum.inl a : Key) = Sum.inl b) = (a == b) := by
  by_cases e : a = b
  · subst e; simp
  · have h : ¬ (Sum.inl a : Key) = Sum.inl b := fun q => e (Sum.inl.inj q)
    rw [decide_eq_false h]
    exact (beq_eq_false_iff_ne.mpr e).symm
theorem key_rr (a b : Str) : decide ((Sum.inr a : Key) = Sum.inr b) = decide (a = b) := by
  by_cases e : a = b
  · subst e; simp
  · have h : ¬ (Sum.inr a : Key) = Sum.inr b := fun q => e (Sum.inr.inj q)
    rw [decide_eq_false h, decide_eq_false e]
theorem key_lr (a : Int) (b : Str) : decide ((Sum.inl a : Key) = Sum.inr b) = false := decide_eq_false (fun q => nomatch q)
theorem key_rl (a : Str) (b : Int) : decide ((Sum.inr a : Key) = Sum.inl b) = false := decide_eq_false (fun q => nomatch q)
noncomputable def mixKind (prog : Program) (w : World) : PySem.KeyKind prog w Key where
  is := keyIs
  hash := keyH w
  inj := fun v a b ha hb => by
    rcases keyIs_shape ha with ⟨i, t, rfl, rfl⟩ | ⟨x, t, rfl, rfl⟩
    · rcases keyIs_shape hb with ⟨j, u, rfl, e⟩ | ⟨y, u, rfl, e⟩
      · injection e with e1 _; rw [e1]
      · exact nomatch e
    · rcases keyIs_shape hb with ⟨j, u, rfl, e⟩ | ⟨y, u, rfl, e⟩
      · exact nomatch e
      · injection e with e1 _; rw [e1]
  byValue := fun k v h => by
    rcases keyIs_shape h with ⟨i, t, rfl, rfl⟩ | ⟨x, t, rfl, rfl⟩ <;> rfl
  pyHash := fun hv h => by
    rcases keyIs_shape hv with ⟨i, t, rfl, rfl⟩ | ⟨x, t, rfl, rfl⟩
    · exact wpAny_pyHash_int h
    · exact wpAny_pyHash_str h
  eqBool := fun hu hv h => by
    rcases keyIs_shape hu with ⟨i, t, rfl, rfl⟩ | ⟨x, t, rfl, rfl⟩
    · rcases keyIs_shape hv with ⟨j, u, rfl, rfl⟩ | ⟨y, u, rfl, rfl⟩
      · rw [key_ll] at h; exact wpAny_eqBool_int h
      · rw [key_lr] at h; exact SeqAt.EqAt.int_str i t y u _ _ _ _ h
    · rcases keyIs_shape hv with ⟨j, u, rfl, rfl⟩ | ⟨y, u, rfl, rfl⟩
      · rw [key_rl] at h; exact SeqAt.EqAt.str_int x t j u _ _ _ _ h
      · rw [key_rr] at h; exact wpAny_eqBool_str h
  «strs» := fun k x t v h => by
    rcases keyIs_shape h with ⟨i, u, rfl, e⟩ | ⟨y, u, rfl, e⟩
    · exact nomatch e
    · injection e with e1 _
      subst e1
      cases v <;> rfl
theorem mixKind_int (prog : Program) (w : World) (i : Int) (t : Tok) : (mixKind prog w).is (.inl i) (.int i t) = true := keyIs_int i t
theorem mixKind_str (prog : Program) (w : World) (x : Str) (t : Tok) : (mixKind prog w).is (.inr x) (.str x t) = true := keyIs_str x t
end L2
namespace L2
open PySem PySem.Spec PyProof.Rows
inductive V where
  | non | bl (b : Bool) | int (i : Int) | str (x : Str) | byt (b : Array UInt8) | flt (b : UInt64) | ref (a : Addr) | ty (n : String)
  deriving DecidableEq
noncomputable def RelV : V → Value → Prop
  | .non, u => u = Value.none
  | .bl b, u => u = Value.bool b
  | .int i, u => ∃ t, u = Value.int i t
  | .str x, u => ∃ t, u = Value.str x t
  | .byt b, u => ∃ t, u = Value.bytes b t
  | .flt b, u => ∃ t, u = Value.float b t
  | .ref a, u => u = Value.ref a
  | .ty n, u => u = Value.type n
noncomputable abbrev Vals : List V → List Value → Prop := Paired RelV
theorem Vals.length {xs : List V} {us : List Value} (r : Vals xs us) : xs.length = us.length := Paired.length r
theorem Vals.get : ∀ {xs : List V} {us : List Value} {i : Nat} {x : V}, Vals xs us → xs[i]? = some x → ∃ u, us[i]? = some u ∧ RelV x u
  | _, _, _, _, .nil, e => by simp at e
  | _, _, 0, _, .cons r _, e => by simp at e; subst e; exact ⟨_, rfl, r⟩
  | _, _, i + 1, x, .cons _ t, e => by
    obtain ⟨u, h1, h2⟩ := Vals.get (i := i) (x := x) t (by simpa using e)
    exact ⟨u, by simpa using h1, h2⟩
theorem Vals.set {x : V} {u : Value} (r : RelV x u) : ∀ {xs : List V} {us : List Value} (i : Nat), Vals xs us → Vals (xs.set i x) (us.set i u)
  | _, _, _, .nil => .nil
  | _, _, 0, .cons _ t => .cons r t
  | _, _, i + 1, .cons q t => .cons q (Vals.set r i t)
theorem Vals.append : ∀ {xs ys : List V} {us ws : List Value}, Vals xs us → Vals ys ws → Vals (xs ++ ys) (us ++ ws)
  | _, _, _, _, .nil, s => s
  | _, _, _, _, .cons r t, s => .cons r (Vals.append t s)
theorem Vals.take : ∀ {xs : List V} {us : List Value} (n : Nat), Vals xs us → Vals (xs.take n) (us.take n)
  | _, _, 0, _ => .nil
  | _, _, _ + 1, .nil => .nil
  | _, _, n + 1, .cons r t => .cons r (Vals.take n t)
theorem Vals.drop : ∀ {xs : List V} {us : List Value} (n : Nat), Vals xs us → Vals (xs.drop n) (us.drop n)
  | _, _, 0, r => r
  | _, _, _ + 1, .nil => .nil
  | _, _, n + 1, .cons _ t => Vals.drop n t
noncomputable def RelO : Option V → Option Value → Prop
  | some v, some u => RelV v u
  | none, none => True
  | _, _ => False
noncomputable def KV {κ : Type} : List (κ × V) → List (κ × Value) → Prop := Paired fun (p : κ × V) (q : κ × Value) => p.1 = q.1 ∧ RelV p.2 q.2
noncomputable def kV : Key → V
  | .inl i => .int i
  | .inr x => .str x
inductive HO where
    | lst (xs : List V)
    | tup (xs : List V)
    | dK (kvs : List (Key × V)) | dT (kvs : List (List Key × V))
    | set (S : Int → Bool) (n : Nat)
    | ins (C dx : Addr) (fs : List (Str × V))
    | own (x : Addr)
    | xd (fs : List (Str × V))
    | met (f x : Addr)
    | rng (lo hi : Int)
    | frz (o : Obj) (u : HO)
    | tbl (ps : Array Value)
    | ext (φ : Heap → Prop)
noncomputable abbrev Hp := Addr → Option HO
noncomputable def upd (H : Hp) (a : Addr) (o : HO) : Hp := fun b => if b = a then some o else H b
theorem upd_same {H : Hp} {a : Addr} {o : HO} : upd H a o a = some o := by unfold upd; rw [if_pos rfl]
theorem upd_ne {H : Hp} {a b : Addr} {o : HO} (h : b ≠ a) : upd H a o b = H b := by unfold upd; rw [if_neg h]
theorem ne_of {H : Hp} {a b : Addr} {o u : HO} (h : H a = some o) (h' : H b = some u) (d : o ≠ u) : a ≠ b := by
  intro e; subst e; rw [h] at h'; exact d (Option.some.inj h')
theorem ne_of_none {H : Hp} {a b : Addr} {o : HO} (h : H a = some o) (h' : H b = none) : a ≠ b := by
  intro e; subst e; rw [h] at h'; cases h'
section
variable (P : Program) (w : World)
noncomputable def ObjOk (H : Hp) (h : Heap) (a : Addr) : HO → Prop
  | .lst xs => xs.length ≤ sizeLine ∧ ∃ (its : List Value) (n : Nat), Vals xs its ∧ h.get? a = some { cls := .type "list", data := .seq its.toArray n }
  | .tup xs => xs.length ≤ sizeLine ∧ ∃ its : List Value, Vals xs its ∧ IsTup h a its.toArray
  | .dK kvs => kvs.length ≤ sizeLine ∧ (a == sysModules) = false ∧ ∃ vs, KV kvs vs ∧ h.DictOf (mixKind P w) a vs
  | .dT kvs => kvs.length ≤ sizeLine ∧ (a == sysModules) = false ∧ ∃ xs : List (List Key × Addr × Value),
      Paired (fun (p : List Key × V) (q : List Key × Addr × Value) => p.1 = q.1 ∧ H q.2.1 = some (.tup (p.1.map kV)) ∧ RelV p.2 q.2.2) kvs xs ∧
      ∃ o es ep, h.get? a = some o ∧ o.ExactDict ∧ o.data = .dict es ep ∧ es.toList = xs.map (entryOfKey (tupleKind (mixKind P w))) ∧ (xs.map (·.1)).Nodup
  | .set S n => h.SetOf (intKind P w) a S n
  | .ins C dx fs => H dx = some (.own a) ∧ fs.length ≤ 1000 ∧ dx ≠ a ∧ h.get? a = some (PySem.W.instObj C dx) ∧
      ∃ mA, h.Ns1 dx mA ∧ (∀ f, RelO (fs.lookup f) (mA f)) ∧ PySem.Within mA (fs.map (·.1))
  | .own _ => ∃ o, h.get? a = some o
  | .xd fs => ∃ mA, h.Ns1 a mA ∧ ∀ f, RelO (fs.lookup f) (mA f)
  | .rng lo hi => ∃ t u v, h.get? a = some { cls := .type "range", data := .fields #[.int lo t, .int hi u, .int 1 v] }
  | .frz o u => h.get? a = some o ∧ ObjOk H h a u
  | .tbl ps => h.get? a = some { cls := .none, data := .fields ps }
  | .met f x => h.get? a = some (PySem.W.methodObj (.ref f) (.ref x))
  | .ext φ => φ h ∧ (∃ o, h.get? a = some o) ∧ ∀ h1 h2 : Heap, φ h1 → (∀ o, h1.get? a = some o → h2.get? a = some o) → φ h2
noncomputable def HOk (H : Hp) (h : Heap) : Prop := ∀ a o, H a = some o → ObjOk P w H h a o
end
section
variable {P : Program} {w : World} {H H' : Hp} {h h' : Heap} {a : Addr} {o : HO}
theorem ObjOk.lt (x : ObjOk P w H h a o) : a < h.objs.size := by
  cases o with
  | lst xs => obtain ⟨_, _, _, _, e⟩ := x; exact Heap.lt_size e
  | tup xs => obtain ⟨_, _, _, p⟩ := x; exact p.lt
  | dK kvs => obtain ⟨_, _, _, _, o, _, _, e, _⟩ := x; exact Heap.lt_size e
  | dT kvs => obtain ⟨_, _, _, _, o, _, _, e, _⟩ := x; exact Heap.lt_size e
  | set S n => obtain ⟨o, _, _, _, e, _⟩ := x; exact Heap.lt_size e
  | ins C dx fs => obtain ⟨_, _, _, e, _⟩ := x; exact Heap.lt_size e
  | own y => obtain ⟨_, e⟩ := x; exact Heap.lt_size e
  | xd fs => obtain ⟨_, ⟨_, _, _, e, _⟩, _⟩ := x; exact Heap.lt_size e
  | rng lo hi => obtain ⟨_, _, _, e⟩ := x; exact Heap.lt_size e
  | frz ob u => obtain ⟨e, _⟩ := x; exact Heap.lt_size e
  | tbl ps => exact Heap.lt_size (show h.get? a = some _ from x)
  | met f y => exact Heap.lt_size (show h.get? a = some _ from x)
  | ext φ => obtain ⟨_, ⟨_, e⟩, _⟩ := x; exact Heap.lt_size e
theorem Paired.mapP {α β : Type} {F G : α → β → Prop} : ∀ {l₁ : List α} {l₂ : List β}, Paired F l₁ l₂ → (∀ a b, F a b → G a b) → Paired G l₁ l₂
  | _, _, .nil, _ => .nil
  | _, _, .cons r t, f => .cons (f _ _ r) (Paired.mapP t f)
theorem ObjOk.stay (x : ObjOk P w H h a o) (k : ∀ b u, (b = a ∨ H b = some (.own a)) → h.get? b = some u → h'.get? b = some u)
    (ho : ∀ b, H b = some (.own a) → H' b = some (.own a)) (ht : ∀ b xs, H b = some (.tup xs) → H' b = some (.tup xs)) : ObjOk P w H' h' a o := by
  induction o with
  | lst xs => obtain ⟨z, its, n, r, e⟩ := x; exact ⟨z, its, n, r, k _ _ (.inl rfl) e⟩
  | tup xs => obtain ⟨z, its, r, ob, e, c⟩ := x; exact ⟨z, its, r, ob, k _ _ (.inl rfl) e, c⟩
  | dK kvs => obtain ⟨z, y, vs, r, ob, es, ep, e, c⟩ := x; exact ⟨z, y, vs, r, ob, es, ep, k _ _ (.inl rfl) e, c⟩
  | dT kvs =>
    obtain ⟨z, y, xs, r, ob, es, ep, e, c⟩ := x
    exact ⟨z, y, xs, Paired.mapP r fun p q z => ⟨z.1, ht _ _ z.2.1, z.2.2⟩, ob, es, ep, k _ _ (.inl rfl) e, c⟩
  | set S n => obtain ⟨ob, es, ep, t, e, c⟩ := x; exact ⟨ob, es, ep, t, k _ _ (.inl rfl) e, c⟩
  | ins C dx fs =>
    obtain ⟨d, z, ne, e, mA, ⟨od, es, ep, e2, c⟩, r⟩ := x
    exact ⟨ho _ d, z, ne, k _ _ (.inl rfl) e, mA, ⟨od, es, ep, k _ _ (.inr d) e2, c⟩, r⟩
  | own y => obtain ⟨ob, e⟩ := x; exact ⟨ob, k _ _ (.inl rfl) e⟩
  | xd fs => obtain ⟨mA, ⟨od, es, ep, e, c⟩, r⟩ := x; exact ⟨mA, ⟨od, es, ep, k _ _ (.inl rfl) e, c⟩, r⟩
  | rng lo hi => obtain ⟨t, u, v, e⟩ := x; exact ⟨t, u, v, k _ _ (.inl rfl) e⟩
  | frz ob u ih => obtain ⟨e, q⟩ := x; exact ⟨k _ _ (.inl rfl) e, ih q⟩
  | tbl ps =>
    have e : h.get? a = some { cls := .none, data := .fields ps } := x
    show h'.get? a = some { cls := .none, data := .fields ps }
    exact k a _ (.inl rfl) e
  | met f y =>
    have e : h.get? a = some (PySem.W.methodObj (.ref f) (.ref y)) := x
    show h'.get? a = some (PySem.W.methodObj (.ref f) (.ref y))
    exact k a _ (.inl rfl) e
  | ext φ => obtain ⟨p, ⟨o, e⟩, st⟩ := x; exact ⟨st _ _ p fun o q => k _ _ (.inl rfl) q, ⟨o, k _ _ (.inl rfl) e⟩, st⟩
theorem HOk.lt (x : HOk P w H h) (e : H a = some o) : a < h.objs.size := (x a o e).lt
theorem HOk.fresh (x : HOk P w H h) (e : h.objs.size ≤ a) : H a = none := by
  cases q : H a with
  | none => rfl
  | some u => exact absurd (Nat.lt_of_lt_of_le (x.lt q) e) (Nat.lt_irrefl _)
theorem HOk.kept (x : HOk P w H h) (k : ∀ b u, h.get? b = some u → h'.get? b = some u) : HOk P w H h' := fun a o e =>
  (x a o e).stay (fun b u _ q => k b u q) (fun _ q => q) fun _ _ q => q
theorem HOk.laid (x : HOk P w H h) (k : ∀ b u, h.get? b = some u → h'.get? b = some u) (hp : h.objs.size ≤ a) (new : ObjOk P w (upd H a o) h' a o) : HOk P w (upd H a o) h' := fun b u e => by
  have hn := x.fresh hp
  by_cases hb : b = a
  · subst hb; rw [upd_same] at e; cases e; exact new
  · rw [upd_ne hb] at e
    exact (x b u e).stay (fun c v _ q => k c v q) (fun c q => by rw [upd_ne (ne_of_none q hn)]; exact q) fun c xs q => by rw [upd_ne (ne_of_none q hn)]; exact q
end
noncomputable def Rd (H : Hp) (a : Addr) (u : HO) : Prop := H a = some u ∨ ∃ o, H a = some (.frz o u)
theorem Rd.ok {P : Program} {w : World} {H : Hp} {h : Heap} {a : Addr} {u : HO} (r : Rd H a u) (x : HOk P w H h) : ObjOk P w H h a u := by
  rcases r with r | ⟨o, r⟩
  · exact x a u r
  · obtain ⟨_, q⟩ := x a _ r
    exact q
noncomputable def Mut : Option HO → Prop
  | some (.lst _) => True
  | some (.dK _) => True
  | some (.dT _) => True
  | some (.set _ _) => True
  | some (.ins _ _ _) => True
  | some (.ext _) => True
  | _ => False
section
variable {P : Program} {w : World} {H : Hp} {h h' : Heap} {x e : Addr} {o' : HO}
theorem HOk.write (ok : HOk P w H h) (mu : Mut (H x)) (he : e = x ∨ H e = some (.own x)) (k : ∀ b u, b ≠ e → h.get? b = some u → h'.get? b = some u) (heo : ∃ u, h'.get? e = some u)
    (new : ObjOk P w (upd H x o') h' x o') : HOk P w (upd H x o') h' := fun b u q => by
  have nown : ∀ c y, H c = some (.own y) → c ≠ x := fun c y r z => by subst z; rw [r] at mu; exact mu
  have ntup : ∀ c xs, H c = some (.tup xs) → c ≠ x := fun c xs r z => by subst z; rw [r] at mu; exact mu
  by_cases hb : b = x
  · subst hb; rw [upd_same] at q; cases q; exact new
  · rw [upd_ne hb] at q
    by_cases hbe : b = e
    · have q' : H b = some (.own x) := by
        rcases he with z | z
        · exact absurd (hbe.trans z) hb
        · rw [hbe]; exact z
      rw [q] at q'; cases q'
      obtain ⟨v, hv⟩ := heo
      exact ⟨v, by rw [hbe]; exact hv⟩
    · refine (ok b u q).stay (fun c v hc r => k c v ?_ r) (fun c r => by rw [upd_ne (nown c b r)]; exact r) fun c xs r => by rw [upd_ne (ntup c xs r)]; exact r
      rcases hc with rfl | hc
      · exact hbe
      · rintro rfl
        rcases he with z | z
        · exact nown c b hc z
        · rw [hc] at z; cases z; exact hb rfl
end
structure Un (fs ex : List Addr) (H H' : Hp) (h h' : Heap) : Prop where
  keep : ∀ b o, h.get? b = some o → H b = none → b ∉ fs → b ∉ ex → h'.get? b = some o
  slot : ∀ b o, h.get? b = some o → H b = none → b ∈ fs → b ∉ ex → ∃ sl, h'.get? b = some { o with slots := sl }
  free : ∀ b o, h.get? b = some o → H b = none → b ∉ ex → H' b = none
  there : ∀ b o, h.get? b = some o → b ∉ ex → ∃ o', h'.get? b = some o'
  tups : ∀ b xs, H b = some (.tup xs) → H' b = some (.tup xs)
  frzs : ∀ b o u, H b = some (.frz o u) → H' b = some (.frz o u)
  tbls : ∀ b ps, H b = some (.tbl ps) → ∃ more, H' b = some (.tbl (ps ++ more))
section
variable {fs fs' ex ex' : List Addr} {H H1 H2 : Hp} {h h1 h2 h' : Heap} {a x e : Addr} {o : HO}
theorem Un.any (u : Un fs ex H H1 h h1) {b : Addr} {ob : Obj} (q : h.get? b = some ob) (n : H b = none) (hx : b ∉ ex) : ∃ sl, h1.get? b = some { ob with slots := sl } := by
  by_cases hb : b ∈ fs
  · exact u.slot b ob q n hb hx
  · exact ⟨ob.slots, u.keep b ob q n hb hx⟩
theorem Un.kept (k : ∀ b u, h.get? b = some u → h'.get? b = some u) : Un fs ex H H h h' :=
  ⟨fun b ob q _ _ _ => k b ob q, fun b ob q _ _ _ => ⟨ob.slots, k b ob q⟩, fun _ _ _ n _ => n, fun b ob q _ => ⟨ob, k b ob q⟩, fun _ _ q => q, fun _ _ _ q => q, fun _ ps q => ⟨#[], by rw [q]; simp⟩⟩
theorem Un.refl : Un fs ex H H h h := Un.kept fun _ _ q => q
theorem Un.laid (k : ∀ b u, h.get? b = some u → h'.get? b = some u) (hp : h.objs.size ≤ a) (hn : H a = none) : Un fs ex H (upd H a o) h h' where
  keep := fun b u q _ _ _ => k b u q
  slot := fun b u q _ _ _ => ⟨u.slots, k b u q⟩
  free := fun b u q n _ => by rw [upd_ne (Nat.ne_of_lt (Nat.lt_of_lt_of_le (Heap.lt_size q) hp))]; exact n
  there := fun b u q _ => ⟨u, k b u q⟩
  tups := fun b xs q => by rw [upd_ne (ne_of_none q hn)]; exact q
  frzs := fun b u xs q => by rw [upd_ne (ne_of_none q hn)]; exact q
  tbls := fun b ps q => ⟨#[], by rw [upd_ne (ne_of_none q hn), q]; simp⟩
theorem Un.write (mu : Mut (H x)) (he : e = x ∨ H e = some (.own x)) (k : ∀ b u, b ≠ e → h.get? b = some u → h'.get? b = some u) (heo : ∃ u, h'.get? e = some u) : Un fs ex H (upd H x o) h h' := by
  have hx : ∀ b, H b = none → b ≠ x := fun b n z => by subst z; rw [n] at mu; exact mu
  have hb : ∀ b, H b = none → b ≠ e := fun b n z => by
    subst z
    rcases he with r | r
    · exact hx b n r
    · rw [n] at r; cases r
  have hm : ∀ b u, H b = some u → ¬ Mut (some u) → b ≠ x := fun b u q nm z => by subst z; rw [q] at mu; exact nm mu
  refine ⟨fun b u q n _ _ => k b u (hb b n) q, fun b u q n _ _ => ⟨u.slots, k b u (hb b n) q⟩, fun b u q n _ => by rw [upd_ne (hx b n)]; exact n, fun b u q _ => ?_,
    fun b xs q => by rw [upd_ne (hm b _ q fun z => z)]; exact q, fun b u xs q => by rw [upd_ne (hm b _ q fun z => z)]; exact q, fun b ps q => ⟨#[], by rw [upd_ne (hm b _ q fun z => z), q]; simp⟩⟩
  by_cases hbe : b = e
  · subst hbe; exact heo
  · exact ⟨u, k b u hbe q⟩
end
noncomputable def trk (h : Heap) (H : Hp) : List Addr := (List.range h.objs.size).filter fun a => (H a).isSome
noncomputable def hidT (h : Heap) (H : Hp) : Heap := PySem.W.hideAll h (trk h H)
theorem hidT_size (h : Heap) (H : Hp) : (hidT h H).objs.size = h.objs.size := PySem.W.hideAll_size _ _
theorem hidT_get {h : Heap} {H : Hp} {b : Addr} {o : Obj} (e : h.get? b = some o) (n : H b = none) : (hidT h H).get? b = some o :=
  PySem.W.hideAll_get _ e fun hm => by
    have q : (H b).isSome = true := (List.mem_filter.mp hm).2
    rw [n] at q; simp at q
theorem of_hidT {h : Heap} {H : Hp} {b : Addr} {o : Obj} (e : (hidT h H).get? b = some o) : h.get? b = some o ∧ H b = none := by
  have e' : h.get? b = some o := PySem.W.of_hideAll (trk h H) e
  refine ⟨e', ?_⟩
  cases q : H b with
  | none => rfl
  | some x =>
    have hm : b ∈ trk h H := List.mem_filter.mpr ⟨List.mem_range.mpr (Heap.lt_size e'), by simp [q]⟩
    have z : (hidT h H).get? b = none := PySem.W.hideAll_none (trk h H) hm
    rw [z] at e; cases e
end L2
namespace L2
open PySem PySem.Spec PyProof.Rows
structure Mod (K : PySem.W.Frag) (mg : Str → Option Value) (base : Heap) : Prop where
  kin : K.In base
  glob : base.Ns mainGlobals mg
  blt : ∃ mb, base.Ns builtinsNs mb ∧ ∀ x : Str, x ≠ "__name__" → mb x = bootBuiltins x
  nolimit : base.NoLimit
structure Cx where
  prog : Program
  w : World
  K : PySem.W.Frag
  mg : Str → Option Value
  base : Heap
  A : Around
  N : List Str
  s₀ : Shared
  H₀ : Hp
  env : Env
  outer : List Env
  stack : List Env
  ex : List Addr
  fn : Str → Bool
  calm : Bool
  pn : List (Addr × Obj)
  xe : Value → Shared → Prop
noncomputable def frs (l : List Env) : List Addr := l.filterMap (·.frame)
noncomputable abbrev Cx.fs (X : Cx) : List Addr := frs X.outer
noncomputable def Vis (sc : Scope) (x : Str) : Prop := sc.names.lookup x = some .local ∨ sc.names.lookup x = some .cell ∨ sc.names.lookup x = some .free
noncomputable def Loc (sc : Scope) (x : Str) : Prop := sc.names.lookup x = some .local ∨ sc.names.lookup x = some .cell
noncomputable def Look (env : Env) (h : Heap) (m : Str → Option Value) (x : Str) (u : Value) : Prop :=
  (env.kindOf x = some .local ∧ m x = some u) ∨ ((env.kindOf x = some .cell ∨ env.kindOf x = some .free) ∧ ∃ c, env.cells.lookup x = some c ∧ h.IsCell c (some u))
structure Cx.Ok (X : Cx) : Prop where
  mod : Mod X.K X.mg X.base
  kind : X.env.scope.kind = .function
  glob : X.env.globals = mainGlobals
  blt : X.env.builtins = builtinsNs
  above : X.s₀.heap.objs.size ≤ X.env.locals
  inj : ∀ x y c, X.env.cells.lookup x = some c → X.env.cells.lookup y = some c → x = y
  has : ∀ x, (X.env.kindOf x = some .cell ∨ X.env.kindOf x = some .free) → ∃ c, X.env.cells.lookup x = some c
  cab : ∀ x c, X.fn x = true → X.env.cells.lookup x = some c → X.s₀.heap.objs.size ≤ c
  hd : X.calm = true → X.A.handled = none
  frames : X.A.frames = some X.stack
  stk : X.stack = X.outer ∨ (X.stack = X.env :: X.outer ∧ X.env.frame = some X.env.locals)
  exf : ∀ b ∈ X.ex, b ≠ X.env.locals ∧ ∀ x c, X.env.cells.lookup x = some c → c ≠ b
  bs : ∀ b o, X.base.get? b = some o → X.s₀.heap.get? b = some o ∧ X.H₀ b = none
  bsz : X.base.objs.size ≤ X.s₀.heap.objs.size
  noex : ∀ b o, X.base.get? b = some o → b ∉ X.ex
  exfs : ∀ b ∈ X.ex, b ∉ X.fs
  funs : X.s₀.heap.FunFrames X.base X.outer
  frf : ∀ b ∈ X.fs, X.H₀ b = none
structure Inv (X : Cx) (pins : List (Addr × Obj)) (σ : List (Option V)) (H : Hp) (s : Shared) : Prop where
  ok : X.Ok
  os : s.os = X.s₀.os
  bare : AllBare s.gens
  base : Un X.fs X.ex X.H₀ H X.s₀.heap s.heap
  loc : ∃ m, s.heap.Ns X.env.locals m ∧ ∀ (i : Nat) (x : Str) (v : V), X.N[i]? = some x → σ[i]? = some (some v) → Vis X.env.scope x → ∃ u, RelV v u ∧ Look X.env s.heap m x u
  cell : ∀ x c, X.env.cells.lookup x = some c → ∃ v, s.heap.IsCell c v
  free : H X.env.locals = none
  freeC : ∀ x c, X.env.cells.lookup x = some c → H c = none
  pin : ∀ p ∈ X.pn ++ pins, s.heap.get? p.1 = some p.2 ∧ H p.1 = none ∧ p.1 ≠ X.env.locals ∧ p.1 ∉ X.fs ∧ ∀ v, p.2.data ≠ .cell v
  hok : HOk X.prog X.w H s.heap
  len : σ.length = X.N.length
section
variable {X : Cx} {pins : List (Addr × Obj)} {σ : List (Option V)} {H H' : Hp} {s : Shared} {h' : Heap}
theorem Cx.Ok.nofr (ok : X.Ok) {b : Addr} {o : Obj} (e : X.base.get? b = some o) : b ∉ X.fs := fun hb => by
  have := (ok.funs.mem hb).1
  rw [e] at this; cases this
theorem Inv.bs (I : Inv X pins σ H s) : ∀ b o, X.base.get? b = some o → s.heap.get? b = some o ∧ H b = none := fun b o e =>
  ⟨I.base.keep b o (I.ok.bs b o e).1 (I.ok.bs b o e).2 (I.ok.nofr e) (I.ok.noex b o e), I.base.free b o (I.ok.bs b o e).1 (I.ok.bs b o e).2 (I.ok.noex b o e)⟩
theorem Inv.bk (I : Inv X pins σ H s) : ∀ b o, X.base.get? b = some o → s.heap.get? b = some o := fun b o e => (I.bs b o e).1
theorem Inv.mod (I : Inv X pins σ H s) : Mod X.K X.mg X.base := I.ok.mod
theorem Inv.kIn (I : Inv X pins σ H s) : X.K.In s.heap := I.ok.mod.kin.keeps I.bk
theorem Inv.fr (I : Inv X pins σ H s) : ∃ m, Fr X.base X.env.locals s.heap m :=
  let ⟨m, hn, _⟩ := I.loc
  ⟨m, hn, I.bk, Nat.le_trans I.ok.bsz I.ok.above⟩
theorem Inv.lt (I : Inv X pins σ H s) : X.env.locals < s.heap.objs.size := let ⟨_, hn, _⟩ := I.loc; hn.lt
theorem Inv.sz (I : Inv X pins σ H s) : X.s₀.heap.objs.size ≤ s.heap.objs.size := Nat.le_trans I.ok.above (Nat.le_of_lt I.lt)
theorem Inv.nofs (I : Inv X pins σ H s) {a : Addr} (h : s.heap.objs.size ≤ a) : a ∉ X.fs := fun hb => by
  obtain ⟨_, o, ho, _⟩ := I.ok.funs.mem hb
  exact absurd (Nat.lt_of_lt_of_le (Heap.lt_size ho) (Nat.le_trans I.sz h)) (Nat.lt_irrefl _)
theorem Inv.cne (I : Inv X pins σ H s) : ∀ x c, X.env.cells.lookup x = some c → c ≠ X.env.locals := fun x c e z => by
  obtain ⟨v, o, ho, hd⟩ := I.cell x c e
  obtain ⟨m, ⟨o', es, ep, ho', hd', _⟩, _⟩ := I.loc
  rw [z, ho'] at ho; cases ho; rw [hd'] at hd; cases hd
theorem Inv.funs (I : Inv X pins σ H s) : s.heap.FunFrames X.base X.outer := by
  have all : ∀ (l : List Env), (∀ b ∈ frs l, b ∈ X.fs) → X.s₀.heap.FunFrames X.base l → s.heap.FunFrames X.base l := by
    intro l
    induction l with
    | nil => intro _ _; trivial
    | cons env r ih =>
      intro hs hl
      obtain ⟨hk, ⟨L, o, hf, hn, ho, hd⟩, hr⟩ := hl
      have hL : L ∈ X.fs := hs L (by unfold frs; rw [List.filterMap_cons, hf]; exact List.mem_cons_self)
      obtain ⟨sl, e⟩ := I.base.slot L o ho (I.ok.frf L hL) hL fun z => I.ok.exfs L z hL
      exact ⟨hk, ⟨L, _, hf, hn, e, hd⟩, ih (fun b hb => hs b (by unfold frs; rw [List.filterMap_cons, hf]; exact List.mem_cons_of_mem _ hb)) hr⟩
  exact all X.outer (fun _ hb => hb) I.ok.funs
theorem Inv.stack (I : Inv X pins σ H s) : s.heap.FunFrames X.base X.stack := by
  rcases I.ok.stk with e | ⟨e, hf⟩
  · rw [e]; exact I.funs
  · rw [e]
    obtain ⟨m, hn, _⟩ := I.loc
    refine .cons (by rw [I.ok.kind]; decide) hf hn ?_ I.funs
    exact Heap.get?_none_of_le (Nat.le_trans I.ok.bsz I.ok.above)
theorem Inv.stkSub (I : Inv X pins σ H s) : ∀ b ∈ frs X.stack, b ∈ X.env.locals :: X.fs := fun b hb => by
  rcases I.ok.stk with e | ⟨e, hf⟩
  · rw [e] at hb; exact List.mem_cons_of_mem _ hb
  · rw [e] at hb
    unfold frs at hb
    rw [List.filterMap_cons, hf] at hb
    exact hb
theorem Inv.stkFree (I : Inv X pins σ H s) : ∀ b ∈ frs X.stack, H b = none := fun b hb => by
  rcases List.mem_cons.mp (I.stkSub b hb) with e | hb
  · rw [e]; exact I.free
  · obtain ⟨_, o, ho, _⟩ := I.ok.funs.mem hb
    exact I.base.free b o ho (I.ok.frf b hb) fun z => I.ok.exfs b z hb
theorem Inv.step {g' : Array GenState} {t' : Nat} {d' : Drawn} {ch : List Addr} (I : Inv X pins σ H s)
    (hch : ∀ b ∈ ch, (b ∈ X.ex ∨ X.s₀.heap.objs.size ≤ b) ∧ b ≠ X.env.locals ∧ (∀ x c, X.env.cells.lookup x = some c → c ≠ b) ∧ ∀ p ∈ X.pn ++ pins, p.1 ≠ b)
    (keep : ∀ b o, b ≠ X.env.locals → b ∉ X.fs → b ∉ ch → s.heap.get? b = some o → H b = none → h'.get? b = some o)
    (slot : ∀ b o, b ≠ X.env.locals → b ∈ X.fs → b ∉ ch → s.heap.get? b = some o → H b = none → ∃ sl, h'.get? b = some { o with slots := sl }) (free : ∀ b o, b ∉ ch → s.heap.get? b = some o → H b = none → H' b = none)
    (there : ∀ b o, b ∉ ch → s.heap.get? b = some o → ∃ o', h'.get? b = some o')
    (tups : ∀ b xs, H b = some (.tup xs) → H' b = some (.tup xs)) (frzs : ∀ b o u, H b = some (.frz o u) → H' b = some (.frz o u)) (tbls : ∀ b ps, H b = some (.tbl ps) → ∃ more, H' b = some (.tbl (ps ++ more)))
    (ns : ∀ m, s.heap.Ns X.env.locals m → h'.Ns X.env.locals m) (hok : HOk X.prog X.w H' h') (hg : AllBare g') :
    Inv X pins σ H' { s with heap := h', gens := g', drawn := d', toks := t' } := by
  have neL : ∀ b o, X.s₀.heap.get? b = some o → b ≠ X.env.locals := fun b o e => Nat.ne_of_lt (Nat.lt_of_lt_of_le (Heap.lt_size e) I.ok.above)
  have neC : ∀ b o, X.s₀.heap.get? b = some o → b ∉ X.ex → b ∉ ch := fun b o e hx hb => by
    rcases (hch b hb).1 with z | z
    · exact hx z
    · exact absurd (Nat.lt_of_lt_of_le (Heap.lt_size e) z) (Nat.lt_irrefl _)
  have cellK : ∀ x c, X.env.cells.lookup x = some c → ∀ v, s.heap.IsCell c v → h'.IsCell c v := fun x c e v ⟨o, ho, hd⟩ => by
    have nch : c ∉ ch := fun z => (hch c z).2.2.1 x c e rfl
    by_cases hc : c ∈ X.fs
    · obtain ⟨sl, q⟩ := slot c o (I.cne x c e) hc nch ho (I.freeC x c e)
      exact ⟨_, q, hd⟩
    · exact ⟨o, keep c o (I.cne x c e) hc nch ho (I.freeC x c e), hd⟩
  refine ⟨I.ok, I.os, hg, ⟨fun b o e n hb hx => ?_, fun b o e n hb hx => ?_, fun b o e n hx => ?_, fun b o e hx => ?_, fun b xs e => tups b xs (I.base.tups b xs e), fun b o xs e => frzs b o xs (I.base.frzs b o xs e), fun b ps e => ?_⟩, ?_, fun x c e => ?_, ?_, fun x c e => ?_, fun p hp => ?_, hok, I.len⟩
  · exact keep b o (neL b o e) hb (neC b o e hx) (I.base.keep b o e n hb hx) (I.base.free b o e n hx)
  · obtain ⟨sl, e1⟩ := I.base.slot b o e n hb hx
    obtain ⟨sl', e2⟩ := slot b _ (neL b o e) hb (neC b o e hx) e1 (I.base.free b o e n hx)
    exact ⟨sl', e2⟩
  · obtain ⟨o', e1⟩ := I.base.there b o e hx
    exact free b o' (neC b o e hx) e1 (I.base.free b o e n hx)
  · obtain ⟨o', e1⟩ := I.base.there b o e hx
    exact there b o' (neC b o e hx) e1
  · obtain ⟨m1, e1⟩ := I.base.tbls b ps e
    obtain ⟨m2, e2⟩ := tbls b _ e1
    exact ⟨m1 ++ m2, by rw [e2, Array.append_assoc]⟩
  · obtain ⟨m, hn, hl⟩ := I.loc
    refine ⟨m, ns m hn, fun i x v e1 e2 e3 => ?_⟩
    obtain ⟨u, r, l⟩ := hl i x v e1 e2 e3
    refine ⟨u, r, ?_⟩
    rcases l with l | ⟨k, c, e, z⟩
    · exact .inl l
    · exact .inr ⟨k, c, e, cellK x c e _ z⟩
  · obtain ⟨v, z⟩ := I.cell x c e
    exact ⟨v, cellK x c e v z⟩
  · obtain ⟨m, ⟨o, _, _, ho, _⟩, _⟩ := I.loc
    exact free _ o (fun z => (hch _ z).2.1 rfl) ho I.free
  · obtain ⟨v, o, ho, hd⟩ := I.cell x c e
    exact free c o (fun z => (hch c z).2.2.1 x c e rfl) ho (I.freeC x c e)
  · obtain ⟨e, n, ne, nf, d⟩ := I.pin p hp
    have nch : p.1 ∉ ch := fun z => (hch p.1 z).2.2.2 p hp rfl
    exact ⟨keep p.1 p.2 ne nf nch e n, free p.1 p.2 nch e n, ne, nf, d⟩
theorem Inv.un {t' : Nat} (I : Inv X pins σ H s) (u : Un X.fs [] H H' s.heap h') (hok : HOk X.prog X.w H' h') : Inv X pins σ H' { s with heap := h', toks := t' } := by
  obtain ⟨m, ⟨o, es, ep, ho, r⟩, _⟩ := id I.loc
  obtain ⟨sl, hL⟩ := u.any ho I.free (by simp)
  exact I.step (g' := s.gens) (d' := s.drawn) (ch := []) (fun _ z => nomatch z) (fun b o _ hb _ e n => u.keep b o e n hb (by simp)) (fun b o _ hb _ e n => u.slot b o e n hb (by simp)) (fun b o _ e n => u.free b o e n (by simp)) (fun b o _ e => u.there b o e (by simp)) u.tups u.frzs u.tbls (fun m' hm => by
    obtain ⟨o', es', ep', ho', r'⟩ := hm
    rw [ho] at ho'; cases ho'
    exact ⟨_, es', ep', hL, r'⟩) hok I.bare
theorem Inv.call {g' : Array GenState} {t' : Nat} {d' : Drawn} {ch : List Addr} (I : Inv X pins σ H s) (u : Un (frs X.stack) ch H H' s.heap h') (hok : HOk X.prog X.w H' h') (hg : AllBare g')
    (hch : ∀ b ∈ ch, (b ∈ X.ex ∨ X.s₀.heap.objs.size ≤ b) ∧ b ≠ X.env.locals ∧ (∀ x c, X.env.cells.lookup x = some c → c ≠ b) ∧ ∀ p ∈ X.pn ++ pins, p.1 ≠ b) :
    Inv X pins σ H' { s with heap := h', gens := g', drawn := d', toks := t' } := by
  obtain ⟨m, ⟨o, es, ep, ho, r⟩, _⟩ := id I.loc
  obtain ⟨sl, hL⟩ := u.any ho I.free fun z => (hch _ z).2.1 rfl
  exact I.step (ch := ch) hch (fun b o hL hb hc e n => u.keep b o e n (fun z => (List.mem_cons.mp (I.stkSub b z)).elim hL hb) hc) (fun b o _ _ hc e n => u.any e n hc) (fun b o hc e n => u.free b o e n hc) (fun b o hc e => u.there b o e hc) u.tups u.frzs u.tbls (fun m' hm => by
    obtain ⟨o', es', ep', ho', r'⟩ := hm
    rw [ho] at ho'; cases ho'
    exact ⟨_, es', ep', hL, r'⟩) hok hg
theorem Inv.turned {t' : Nat} {it : Addr} (I : Inv X pins σ H s) (k : ∀ b o, b ≠ it → s.heap.get? b = some o → h'.get? b = some o) (hn : H it = none) (hL : it ≠ X.env.locals)
    (h1 : it ∈ X.ex ∨ X.s₀.heap.objs.size ≤ it) (h2 : ∀ x c, X.env.cells.lookup x = some c → c ≠ it) (h3 : ∀ p ∈ X.pn ++ pins, p.1 ≠ it) : Inv X pins σ H { s with heap := h', toks := t' } := by
  have nit : ∀ b u, H b = some u → b ≠ it := fun b u e z => by rw [z, hn] at e; cases e
  refine I.step (g' := s.gens) (d' := s.drawn) (ch := [it]) (fun b hb => ?_) (fun b o _ _ hc e _ => k b o (fun z => hc (by simp [z])) e) (fun b o _ _ hc e _ => ⟨o.slots, k b o (fun z => hc (by simp [z])) e⟩) (fun _ _ _ _ n => n)
    (fun b o hc e => ⟨o, k b o (fun z => hc (by simp [z])) e⟩) (fun _ _ e => e) (fun _ _ _ e => e) (fun b ps e => ⟨#[], by rw [e]; simp⟩) (fun m hm => ?_) (fun b u e => ?_) I.bare
  · have e : b = it := by simpa using hb
    subst e
    exact ⟨h1, hL, h2, h3⟩
  · obtain ⟨o, es, ep, ho, r⟩ := hm
    exact ⟨o, es, ep, k _ o (Ne.symm hL) ho, r⟩
  · refine (I.hok b u e).stay (fun c v hc q => k c v ?_ q) (fun _ q => q) fun _ _ q => q
    rcases hc with z | z
    · rw [z]; exact nit b u e
    · exact nit c _ z
theorem Inv.tok (I : Inv X pins σ H s) (t : Nat) : Inv X pins σ H { s with toks := t } := I.un (h' := s.heap) (t' := t) Un.refl I.hok
theorem Inv.kept {t' : Nat} (I : Inv X pins σ H s) (k : ∀ b u, s.heap.get? b = some u → h'.get? b = some u) : Inv X pins σ H { s with heap := h', toks := t' } := I.un (Un.kept k) (I.hok.kept k)
theorem Inv.laid {a : Addr} {o : HO} {t' : Nat} (I : Inv X pins σ H s) (k : ∀ b u, s.heap.get? b = some u → h'.get? b = some u) (hp : s.heap.objs.size ≤ a) (new : ObjOk X.prog X.w (upd H a o) h' a o) :
    Inv X pins σ (upd H a o) { s with heap := h', toks := t' } := I.un (Un.laid k hp (I.hok.fresh hp)) (I.hok.laid k hp new)
theorem Inv.write {x e : Addr} {o : HO} {t' : Nat} (I : Inv X pins σ H s) (mu : Mut (H x)) (he : e = x ∨ H e = some (.own x)) (k : ∀ b u, b ≠ e → s.heap.get? b = some u → h'.get? b = some u) (heo : ∃ u, h'.get? e = some u)
    (new : ObjOk X.prog X.w (upd H x o) h' x o) : Inv X pins σ (upd H x o) { s with heap := h', toks := t' } := I.un (Un.write mu he k heo) (I.hok.write mu he k heo new)
theorem Inv.pins_of {pins' : List (Addr × Obj)} (I : Inv X pins σ H s) (h : ∀ p ∈ pins', s.heap.get? p.1 = some p.2 ∧ H p.1 = none ∧ p.1 ≠ X.env.locals ∧ p.1 ∉ X.fs ∧ ∀ v, p.2.data ≠ .cell v) : Inv X pins' σ H s :=
  ⟨I.ok, I.os, I.bare, I.base, I.loc, I.cell, I.free, I.freeC, fun p hp => (List.mem_append.mp hp).elim (fun z => I.pin p (List.mem_append_left _ z)) (h p), I.hok, I.len⟩
theorem nodup_ix {N : List Str} (hN : N.Nodup) {i j : Nat} {x : Str} (a : N[i]? = some x) (b : N[j]? = some x) : i = j := by
  obtain ⟨h1, e1⟩ := List.getElem?_eq_some_iff.mp a
  obtain ⟨h2, e2⟩ := List.getElem?_eq_some_iff.mp b
  exact (List.getElem_inj hN).mp (e1.trans e2.symm)
theorem store_ok2 {M : Model} {A : Around} {E : Value → Shared → Prop} {i : Nat} {x : Str} {v : V} {u : Value} {Q : Unit → Shared → Prop} (I : Inv X pins σ H s) (hN : X.N.Nodup) (hi : X.N[i]? = some x) (hx : Loc X.env.scope x) (r : RelV v u)
    (h : ∀ s', Inv X pins (σ.set i (some v)) H s' → (∃ a, Heap.SameBut a s.heap s'.heap ∧ (a = X.env.locals ∨ X.env.cells.lookup x = some a)) → Q () s') (hf : X.fn x = true ∨ X.env.scope.names.lookup x = some .local := by first | exact .inl rfl | exact .inr rfl | assumption) : wpAny M A (storeName X.env x u) Q E s := by
  obtain ⟨m, hn, hl⟩ := id I.loc
  have hcls : (X.env.scope.kind == .class || (X.env.scope.kind == .module && X.env.locals != X.env.globals)) = false := by rw [I.ok.kind]; rfl
  have hiσ : i < σ.length := by rw [I.len]; exact (List.getElem?_eq_some_iff.mp hi).1
  have cne := I.cne
  have tracked : ∀ {a : Addr} {h' : Heap}, (∃ o, s.heap.get? a = some o ∧ H a = none) → Heap.SameBut a s.heap h' → HOk X.prog X.w H h' := fun {a h'} ha hs b ob e => by
    obtain ⟨_, _, hfree⟩ := ha
    refine (I.hok b ob e).stay (fun c w' hc q => (hs.2 c ?_).trans q) (fun _ q => q) fun _ _ q => q
    rintro rfl
    rcases hc with rfl | hc
    · rw [hfree] at e; cases e
    · rw [hfree] at hc; cases hc
  rcases hx with hk | hk
  · refine wpAny_storeName_local hk hn (fun h' hn' hs => ?_) hcls
    obtain ⟨oL, _, _, hoL, _⟩ := id hn
    refine h _ ⟨I.ok, I.os, I.bare, ⟨fun b o e n hb hx => ?_, fun b o e n hb hx => ?_, I.base.free, fun b o e hx => ?_, I.base.tups, I.base.frzs, I.base.tbls⟩, ⟨_, hn', fun j y v' e1 e2 e3 => ?_⟩, fun y c e => ?_, I.free, I.freeC, fun p hp => ?_, tracked ⟨oL, hoL, I.free⟩ hs, by simpa using I.len⟩ ⟨_, hs, .inl rfl⟩
    · exact (hs.2 b (Nat.ne_of_lt (Nat.lt_of_lt_of_le (Heap.lt_size e) I.ok.above))).trans (I.base.keep b o e n hb hx)
    · obtain ⟨sl, e1⟩ := I.base.slot b o e n hb hx
      exact ⟨sl, (hs.2 b (Nat.ne_of_lt (Nat.lt_of_lt_of_le (Heap.lt_size e) I.ok.above))).trans e1⟩
    · obtain ⟨o', e1⟩ := I.base.there b o e hx
      exact ⟨o', (hs.2 b (Nat.ne_of_lt (Nat.lt_of_lt_of_le (Heap.lt_size e) I.ok.above))).trans e1⟩
    · by_cases hj : j = i
      · subst hj
        rw [hi] at e1; cases e1
        rw [List.getElem?_set_self hiσ] at e2
        cases e2
        exact ⟨u, r, .inl ⟨hk, by simp⟩⟩
      · rw [List.getElem?_set_ne (Ne.symm hj)] at e2
        obtain ⟨u', r', q⟩ := hl j y v' e1 e2 e3
        refine ⟨u', r', ?_⟩
        rcases q with ⟨k, e⟩ | ⟨k, c, e, z⟩
        · refine .inl ⟨k, ?_⟩
          have : y ≠ x := fun e => hj (nodup_ix hN e1 (e ▸ hi))
          simp [this, e]
        · exact .inr ⟨k, c, e, z.sameBut hs (cne y c e)⟩
    · obtain ⟨w', z⟩ := I.cell y c e
      exact ⟨w', z.sameBut hs (cne y c e)⟩
    · obtain ⟨e, n, ne, nf, d⟩ := I.pin p hp
      exact ⟨(hs.2 p.1 ne).trans e, n, ne, nf, d⟩
  · have hfn : X.fn x = true := by
      rcases hf with z | z
      · exact z
      · rw [z] at hk; cases hk
    obtain ⟨c, hc⟩ := I.ok.has x (.inl hk)
    obtain ⟨w', z⟩ := I.cell x c hc
    refine wpAny_storeName_cell I.ok.kind hk hc z (fun h' hc' hs => ?_)
    obtain ⟨oc, hoc, hocd⟩ := id z
    refine h { s with heap := h' } ⟨I.ok, I.os, I.bare, ⟨fun b o e n hb hx => ?_, fun b o e n hb hx => ?_, I.base.free, fun b o e hx => ?_, I.base.tups, I.base.frzs, I.base.tbls⟩, ⟨m, hn.sameBut hs (Ne.symm (cne x c hc)), fun j y v' e1 e2 e3 => ?_⟩, fun y c' e => ?_, I.free, I.freeC, fun p hp => ?_, tracked ⟨oc, hoc, I.freeC x c hc⟩ hs, by simpa using I.len⟩ ⟨c, hs, .inr hc⟩
    · exact (hs.2 b (Nat.ne_of_lt (Nat.lt_of_lt_of_le (Heap.lt_size e) (I.ok.cab x c hfn hc)))).trans (I.base.keep b o e n hb hx)
    · obtain ⟨sl, e1⟩ := I.base.slot b o e n hb hx
      exact ⟨sl, (hs.2 b (Nat.ne_of_lt (Nat.lt_of_lt_of_le (Heap.lt_size e) (I.ok.cab x c hfn hc)))).trans e1⟩
    · obtain ⟨o', e1⟩ := I.base.there b o e hx
      exact ⟨o', (hs.2 b (Nat.ne_of_lt (Nat.lt_of_lt_of_le (Heap.lt_size e) (I.ok.cab x c hfn hc)))).trans e1⟩
    · by_cases hj : j = i
      · subst hj
        rw [hi] at e1; cases e1
        rw [List.getElem?_set_self hiσ] at e2
        cases e2
        exact ⟨u, r, .inr ⟨.inl hk, c, hc, hc'⟩⟩
      · rw [List.getElem?_set_ne (Ne.symm hj)] at e2
        obtain ⟨u', r', q⟩ := hl j y v' e1 e2 e3
        refine ⟨u', r', ?_⟩
        rcases q with q | ⟨k, c', e, z'⟩
        · exact .inl q
        · refine .inr ⟨k, c', e, z'.sameBut hs ?_⟩
          rintro rfl
          exact hj (nodup_ix hN e1 (I.ok.inj _ _ _ e hc ▸ hi))
    · by_cases hcc : c' = c
      · subst hcc; exact ⟨_, hc'⟩
      · obtain ⟨w2, z2⟩ := I.cell y c' e
        exact ⟨w2, z2.sameBut hs hcc⟩
    · obtain ⟨e, n, ne, nf, d⟩ := I.pin p hp
      refine ⟨(hs.2 p.1 ?_).trans e, n, ne, nf, d⟩
      intro q
      rw [q, hoc] at e
      have q' : oc = p.2 := Option.some.inj e
      exact d w' (by rw [← q']; exact hocd)
theorem store_ok {M : Model} {A : Around} {E : Value → Shared → Prop} {i : Nat} {x : Str} {v : V} {u : Value} {Q : Unit → Shared → Prop} (I : Inv X pins σ H s) (hN : X.N.Nodup) (hi : X.N[i]? = some x) (hx : Loc X.env.scope x) (r : RelV v u)
    (h : ∀ s', Inv X pins (σ.set i (some v)) H s' → Q () s') (hf : X.fn x = true ∨ X.env.scope.names.lookup x = some .local := by first | exact .inl rfl | exact .inr rfl | assumption) : wpAny M A (storeName X.env x u) Q E s :=
  store_ok2 I hN hi hx r (fun s' I' _ => h s' I') hf
theorem Inv.call' {s' : Shared} {ch : List Addr} (I : Inv X pins σ H s) (ho : s'.os = s.os) (u : Un (frs X.stack) ch H H' s.heap s'.heap) (hok : HOk X.prog X.w H' s'.heap) (hg : AllBare s'.gens)
    (hch : ∀ b ∈ ch, (b ∈ X.ex ∨ X.s₀.heap.objs.size ≤ b) ∧ b ≠ X.env.locals ∧ (∀ x c, X.env.cells.lookup x = some c → c ≠ b) ∧ ∀ p ∈ X.pn ++ pins, p.1 ≠ b) : Inv X pins σ H' s' := by
  obtain ⟨h', g', d', t', o'⟩ := s'
  have e : o' = s.os := ho
  subst e
  exact I.call (g' := g') (t' := t') (d' := d') u hok hg hch
end
noncomputable abbrev XK := Value → Option Addr → Hp → Prop
noncomputable abbrev St := List (Option V)
noncomputable abbrev VK := V → Hp → Prop
noncomputable abbrev TE := St → Hp → VK → Prop
noncomputable abbrev TT := St → Hp → (Bool → Hp → Prop) → Prop
noncomputable abbrev TA := St → Hp → (List V → Hp → Prop) → Prop
structure Ends where
  nx : St → Hp → Prop
  rt : VK
  bk : St → Hp → Prop := fun _ _ => False
  ct : St → Hp → Prop := fun _ _ => False
noncomputable abbrev TS := Ends → St → Hp → Prop
inductive EP_P (X : Cx) (pins : List (Addr × Obj)) (σ : St) (Q : VK) (u : Value) (s' : Shared) : Prop
  | mk (v H' : _) (h1 : Inv X pins σ H' s') (h2 : RelV v u) (h3 : Q v H') : EP_P X pins σ Q u s'
noncomputable def EP (X : Cx) (pins : List (Addr × Obj)) (σ : St) (Q : VK) (u : Value) (s' : Shared) : Prop := EP_P X pins σ Q u s'
noncomputable def TP (X : Cx) (pins : List (Addr × Obj)) (σ : St) (Q : Bool → Hp → Prop) (b : Bool) (s' : Shared) : Prop := ∃ H', Inv X pins σ H' s' ∧ Q b H'
inductive AP_P (X : Cx) (pins : List (Addr × Obj)) (σ : St) (Q : List V → Hp → Prop) (us : List Value) (s' : Shared) : Prop
  | mk (vs H' : _) (h1 : Inv X pins σ H' s') (h2 : Vals vs us) (h3 : Q vs H') : AP_P X pins σ Q us s'
noncomputable def AP (X : Cx) (pins : List (Addr × Obj)) (σ : St) (Q : List V → Hp → Prop) (us : List Value) (s' : Shared) : Prop := AP_P X pins σ Q us s'
noncomputable def SP (X : Cx) (pins : List (Addr × Obj)) (D : Ends) (f : Flow) (s' : Shared) : Prop :=
  match f with
  | .next => ∃ σ' H', Inv X pins σ' H' s' ∧ D.nx σ' H'
  | .brk => ∃ σ' H', Inv X pins σ' H' s' ∧ D.bk σ' H'
  | .cont => ∃ σ' H', Inv X pins σ' H' s' ∧ D.ct σ' H'
  | .ret u => ∃ v σ' H', Inv X pins σ' H' s' ∧ RelV v u ∧ D.rt v H'
noncomputable def PE (X : Cx) (e : Expr) (t : TE) : Prop :=
  ∀ (pins : List (Addr × Obj)) (s : Shared) (σ : St) (H : Hp) (Q : VK), Inv X pins σ H s → t σ H Q → wpAny (model X.prog X.w) X.A (eval e X.env) (EP X pins σ Q) X.xe s
noncomputable def PT (X : Cx) (e : Expr) (t : TT) : Prop :=
  ∀ (pins : List (Addr × Obj)) (s : Shared) (σ : St) (H : Hp) (Q : Bool → Hp → Prop), Inv X pins σ H s → t σ H Q → wpAny (model X.prog X.w) X.A (isTrue e X.env (eval e X.env)) (TP X pins σ Q) X.xe s
noncomputable def PW (X : Cx) (e : Expr) (t : TT) : Prop :=
  ∀ (whole : Sem Value) (pins : List (Addr × Obj)) (s : Shared) (σ : St) (H : Hp) (Q : Bool → Hp → Prop), Inv X pins σ H s → t σ H Q → wpAny (model X.prog X.w) X.A (isTrue e X.env whole) (TP X pins σ Q) X.xe s
theorem PW.pt {X : Cx} {e : Expr} {t : TT} (h : PW X e t) : PT X e t := h _
noncomputable def PA (X : Cx) (es : List Expr) (t : TA) : Prop :=
  ∀ (pos : Pos) (pins : List (Addr × Obj)) (s : Shared) (σ : St) (H : Hp) (Q : List V → Hp → Prop), Inv X pins σ H s → t σ H Q → wpAny (model X.prog X.w) X.A (spliced (backTo pos (starEach es X.env))) (AP X pins σ Q) X.xe s
noncomputable def PS (X : Cx) (st : Stmt) (t : TS) : Prop :=
  ∀ (pins : List (Addr × Obj)) (s : Shared) (σ : St) (H : Hp) (D : Ends), Inv X pins σ H s → t D σ H → wpAny (model X.prog X.w) X.A (exec st X.env) (SP X pins D) X.xe s
noncomputable def PSs (X : Cx) (st : List Stmt) (t : TS) : Prop :=
  ∀ (pins : List (Addr × Obj)) (s : Shared) (σ : St) (H : Hp) (D : Ends), Inv X pins σ H s → t D σ H → wpAny (model X.prog X.w) X.A (execs st X.env) (SP X pins D) X.xe s
theorem thn {α : Type} {t : Sem α} {Q Q' : α → Shared → Prop} {M : Model} {A : Around} {E : Value → Shared → Prop} {s : Shared} (h : wpAny M A t Q E s) (hQ : ∀ a s, Q a s → Q' a s) : wpAny M A t Q' E s := wpAny_mono h hQ fun _ _ x => x
end L2
namespace L2
open PySem PySem.Spec PyProof.Rows
section
variable {X : Cx}
inductive tVar_P (i : Nat) (σ : St) (H : Hp) (Q : VK) : Prop
  | mk (v : _) (h1 : σ[i]? = some (some v)) (h2 : Q v H) : tVar_P i σ H Q
noncomputable def tVar (i : Nat) : TE := fun σ H Q => tVar_P i σ H Q
noncomputable def tC (v : V) : TE := fun _ H Q => Q v H
theorem pe_var {i : Nat} {x : Str} {pos : Pos} (hN : X.N[i]? = some x) (hv : Vis X.env.scope x) (hd : (x == ("__debug__" : Str)) = false := by decide) (hcd : (x == ("__classdict__" : Str)) = false := by decide) : PE X (.Name x pos) (tVar i) := by
  intro pins s σ H Q I h
  obtain ⟨v, e, h⟩ := h
  obtain ⟨m, hn, hl⟩ := I.loc
  obtain ⟨u, r, l⟩ := hl i x v hN e hv
  have fin : EP X pins σ Q u s := ⟨v, H, I, r, h⟩
  rcases l with ⟨hk, hm⟩ | ⟨hk, c, hc, hcell⟩
  · exact wpAny_Name (wpAny_loadName_local I.ok.kind hk hn hm fin) hd
  · rcases hk with hk | hk
    · exact wpAny_Name (wpAny_loadName_cell I.ok.kind hk hc hcell fin) hd
    · exact wpAny_Name (wpAny_loadName_free I.ok.kind hk hc hcell fin hcd) hd
theorem pe_int {i j pos} : PE X (.Constant (.int i) j pos) (tC (.int i)) := fun _ _ _ H _ I h => wpAny_Constant_int ⟨.int i, H, I.tok _, ⟨_, rfl⟩, h⟩
theorem pe_bl {b j pos} : PE X (.Constant (.bool b) j pos) (tC (.bl b)) := fun _ _ _ H _ I h => Constant_bool ⟨.bl b, H, I, rfl, h⟩
theorem pe_non {j pos} : PE X (.Constant .none j pos) (tC .non) := fun _ _ _ H _ I h => Constant_none ⟨.non, H, I, rfl, h⟩
theorem pe_str {x j pos} : PE X (.Constant (.str x) j pos) (tC (.str x)) := fun _ _ _ H _ I h => Calls.Constant_str ⟨.str x, H, I.tok _, ⟨_, rfl⟩, h⟩
noncomputable def Gl (X : Cx) (x : Str) : Prop := X.env.kindOf x = some .globalImplicit
theorem ld_glob {E : Value → Shared → Prop} {pins : List (Addr × Obj)} {s : Shared} {σ : St} {H : Hp} {x : Str} {u : Value} {pos : Pos} {Q : Value → Shared → Prop} (I : Inv X pins σ H s) (hg : Gl X x) (hm : X.mg x = some u) (h : Q u s)
    (hd : (x == ("__debug__" : Str)) = false := by decide) : wpAny (model X.prog X.w) X.A (eval (.Name x pos) X.env) Q E s :=
  Calls.Name_function_global I.ok.kind hg (Calls.loadGlobal_global (by rw [I.ok.glob]; exact I.mod.glob.keeps I.bk) hm h) hd
theorem ld_blt {E : Value → Shared → Prop} {pins : List (Addr × Obj)} {s : Shared} {σ : St} {H : Hp} {x : Str} {u : Value} {pos : Pos} {Q : Value → Shared → Prop} (I : Inv X pins σ H s) (hg : Gl X x) (hm : X.mg x = none) (hv : bootBuiltins x = some u) (h : Q u s)
    (hn : x ≠ "__name__" := by decide) (hd : (x == ("__debug__" : Str)) = false := by decide) : wpAny (model X.prog X.w) X.A (eval (.Name x pos) X.env) Q E s := by
  obtain ⟨mb, h1, h2⟩ := I.mod.blt
  exact Calls.Name_function_global I.ok.kind hg (Calls.loadGlobal_builtin (by rw [I.ok.glob]; exact I.mod.glob.keeps I.bk) hm (by rw [I.ok.blt]; exact h1.keeps I.bk) ((h2 x hn).trans hv) h) hd
theorem pe_glob {x : Str} {v : V} {u : Value} {pos : Pos} (hg : Gl X x) (hm : X.mg x = some u) (r : RelV v u) (hd : (x == ("__debug__" : Str)) = false := by decide) : PE X (.Name x pos) (tC v) :=
  fun _ _ _ H _ I h => ld_glob I hg hm ⟨v, H, I, r, h⟩ hd
theorem pe_bltn {x : Str} {v : V} {u : Value} {pos : Pos} (hg : Gl X x) (hm : X.mg x = none) (hv : bootBuiltins x = some u) (r : RelV v u) (hn : x ≠ "__name__" := by decide) (hd : (x == ("__debug__" : Str)) = false := by decide) : PE X (.Name x pos) (tC v) :=
  fun _ _ _ H _ I h => ld_blt I hg hm hv ⟨v, H, I, r, h⟩ hn hd
variable {a b : Expr} {ta tb : TE} {pos : Pos}
inductive tB_P (Q : (Bool → Hp → Prop)) (x : V) (H1 : Hp) : Prop
  | mk (c : _) (h1 : x = .bl c) (h2 : Q c H1) : tB_P Q x H1
noncomputable def tB (t : TE) : TT := fun σ H Q => t σ H fun x H1 => tB_P Q x H1
theorem pt_val {e : Expr} {t : TE} (h : PE X e t) (he : ∀ whole, isTrue e X.env whole = (do let v ← whole; standAt e.pos; holding [v] (truthy v)) := by intro _; rfl) : PT X e (tB t) := by
  intro pins s σ H Q I hw
  refine isTrue_plain (thn (h pins s σ H _ I hw) fun v s1 zz_ => ?_) (he _)
  obtain ⟨x, H1, I1, r1, q1⟩ := zz_
  obtain ⟨d, rfl, q⟩ := q1
  cases r1
  exact wpAny_truthy_bool ⟨H1, I1, q⟩
variable {tA tB' : TT} {rest : List Expr}
noncomputable def tAnd (t u : TT) : TT := fun σ H Q => t σ H fun c H1 => if c = true then u σ H1 Q else Q false H1
noncomputable def tOr (t u : TT) : TT := fun σ H Q => t σ H fun c H1 => if c = true then Q true H1 else u σ H1 Q
noncomputable def tNot (t : TT) : TT := fun σ H Q => t σ H fun c H1 => Q (!c) H1
theorem pw_and1 (ha : PT X a tA) : PW X (.BoolOp .And [a] pos) tA := by
  intro wh pins s σ H Q I h
  refine isTrue_and (thn (ha pins s σ H Q I h) fun c s1 e => ?_)
  cases c with
  | true => exact isTrue_and_nil e
  | false => exact e
theorem pw_or1 (ha : PT X a tA) : PW X (.BoolOp .Or [a] pos) tA := by
  intro wh pins s σ H Q I h
  refine isTrue_or (thn (ha pins s σ H Q I h) fun c s1 e => ?_)
  cases c with
  | false => exact isTrue_or_nil e
  | true => exact e
theorem pw_and (ha : PT X a tA) (hb : PW X (.BoolOp .And (b :: rest) pos) tB') : PW X (.BoolOp .And (a :: b :: rest) pos) (tAnd tA tB') := by
  intro wh pins s σ H Q I h
  refine isTrue_and (thn (ha pins s σ H _ I h) fun c s1 zz_ => ?_)
  obtain ⟨H1, I1, q1⟩ := zz_
  cases c with
  | true => exact hb wh pins s1 σ H1 Q I1 q1
  | false => exact ⟨H1, I1, q1⟩
theorem pw_or (ha : PT X a tA) (hb : PW X (.BoolOp .Or (b :: rest) pos) tB') : PW X (.BoolOp .Or (a :: b :: rest) pos) (tOr tA tB') := by
  intro wh pins s σ H Q I h
  refine isTrue_or (thn (ha pins s σ H _ I h) fun c s1 zz_ => ?_)
  obtain ⟨H1, I1, q1⟩ := zz_
  cases c with
  | true => exact ⟨H1, I1, q1⟩
  | false => exact hb wh pins s1 σ H1 Q I1 q1
theorem pt_not (ha : PT X a tA) : PT X (.UnaryOp .Not a pos) (tNot tA) := by
  intro pins s σ H Q I h
  exact isTrue_not (ha pins s σ H (fun c H1 => Q (!c) H1) I h)
noncomputable def tAndV (ta tb : TE) : TE := fun σ H Q => ta σ H fun x H1 => ∃ c, x = .bl c ∧ if c = true then tb σ H1 Q else Q (.bl false) H1
inductive tNotV_P (Q : VK) (x : V) (H1 : Hp) : Prop
  | mk (c : _) (h1 : x = .bl c) (h2 : Q (.bl (!c)) H1) : tNotV_P Q x H1
noncomputable def tNotV (ta : TE) : TE := fun σ H Q => ta σ H fun x H1 => tNotV_P Q x H1
theorem pe_one {op} {t : TE} (h : PE X a t) : PE X (.BoolOp op [a] pos) t := fun pins s σ H Q I hw => BoolOp_one (h pins s σ H Q I hw)
theorem pe_and (ha : PE X a ta) (hb : PE X (.BoolOp .And (b :: rest) pos) tb) : PE X (.BoolOp .And (a :: b :: rest) pos) (tAndV ta tb) := by
  intro pins s σ H Q I h
  refine BoolOp_and (thn (ha pins s σ H _ I h) fun v s1 zz_ => ?_)
  obtain ⟨x, H1, I1, r1, q1⟩ := zz_
  obtain ⟨c, rfl, q1⟩ := q1
  cases r1
  refine wpAny_truthy_bool ?_
  cases c with
  | true => exact hb pins s1 σ H1 Q I1 q1
  | false => exact ⟨.bl false, H1, I1, rfl, q1⟩
theorem pe_not (ha : PE X a ta) : PE X (.UnaryOp .Not a pos) (tNotV ta) := by
  intro pins s σ H Q I h
  refine UnaryOp_ (thn (ha pins s σ H _ I h) fun v s1 zz_ => ?_)
  obtain ⟨x, H1, I1, r1, q1⟩ := zz_
  obtain ⟨c, rfl, q1⟩ := q1
  cases r1
  exact not_of (wpAny_truthy_bool ⟨.bl (!c), H1, I1, rfl, q1⟩)
noncomputable def tIf (t : TT) (ta tb : TE) : TE := fun σ H Q => t σ H fun c H1 => if c = true then ta σ H1 Q else tb σ H1 Q
theorem pe_ifExp {c : Expr} (hc : PT X c tA) (ha : PE X a ta) (hb : PE X b tb) : PE X (.IfExp c a b pos) (tIf tA ta tb) := by
  intro pins s σ H Q I h
  refine wpAny_IfExp (thn (hc pins s σ H _ I h) fun d s1 zz_ => ?_)
  obtain ⟨H1, I1, q1⟩ := zz_
  cases d with
  | true => exact ha pins s1 σ H1 Q I1 q1
  | false => exact hb pins s1 σ H1 Q I1 q1
end
end L2
namespace L2
open PySem PySem.Spec PyProof.Rows
noncomputable def SqL (K : PySem.W.Frag) (H : Hp) (a : Addr) (xs : List V) : Prop :=
  Rd H a (.lst xs) ∨
    ∃ (o : Obj) (its : Array Value) (n : Nat), K.lookup a = some o ∧ o.cls = .type "list" ∧ o.dict = none ∧ o.data = .seq its n ∧ its.size ≤ sizeLine ∧ Vals xs its.toList
noncomputable def SqT (K : PySem.W.Frag) (H : Hp) (a : Addr) (xs : List V) : Prop :=
  Rd H a (.tup xs) ∨
    ∃ (o : Obj) (its : Array Value) (n : Nat), K.lookup a = some o ∧ o.cls = .type "tuple" ∧ o.data = .seq its n ∧ its.size ≤ sizeLine ∧ Vals xs its.toList
noncomputable def absV : Value → Option V
  | .none => some .non
  | .bool b => some (.bl b)
  | .int i _ => some (.int i)
  | .str x _ => some (.str x)
  | .bytes b _ => some (.byt b)
  | .float b _ => some (.flt b)
  | .ref a => some (.ref a)
  | .type n => some (.ty n)
  | _ => none
theorem RelV.abs {x : V} {u : Value} (r : RelV x u) : absV u = some x := by
  cases x with
  | non => cases r; rfl
  | bl _ => cases r; rfl
  | int _ => obtain ⟨t, rfl⟩ := r; rfl
  | str _ => obtain ⟨t, rfl⟩ := r; rfl
  | byt _ => obtain ⟨t, rfl⟩ := r; rfl
  | flt _ => obtain ⟨t, rfl⟩ := r; rfl
  | ref _ => cases r; rfl
  | ty _ => cases r; rfl
theorem RelV.inj {x y : V} {u : Value} (r : RelV x u) (q : RelV y u) : x = y := Option.some.inj (r.abs.symm.trans q.abs)
theorem Vals.inj : ∀ {xs ys : List V} {us : List Value}, Vals xs us → Vals ys us → xs = ys
  | _, _, _, .nil, .nil => rfl
  | _, _, _, .cons r t, .cons r' t' => by rw [r.inj r', Vals.inj t t']
section
variable {X : Cx} {pins : List (Addr × Obj)} {σ : St} {H : Hp} {s : Shared} {a : Addr} {xs ys : List V}
theorem SqL.of {K : PySem.W.Frag} (h : H a = some (.lst xs)) : SqL K H a xs := .inl (.inl h)
theorem SqT.of {K : PySem.W.Frag} (h : H a = some (.tup xs)) : SqT K H a xs := .inl (.inl h)
theorem Inv.list (I : Inv X pins σ H s) (h : SqL X.K H a xs) : ∃ its : List Value, Vals xs its ∧ PlainL s.heap a its.toArray ∧ xs.length ≤ sizeLine := by
  rcases h with h | ⟨o, its, n, hk, hc, hd, hs, hz, r⟩
  · obtain ⟨z, its, n, r, e⟩ := h.ok I.hok
    exact ⟨its, r, ⟨_, n, e, rfl, rfl, rfl⟩, z⟩
  · refine ⟨its.toList, r, ⟨o, n, I.kIn a o hk, hc, hd, by simpa using hs⟩, ?_⟩
    have e := r.length
    simp only [Array.length_toList] at e
    omega
theorem Inv.tuple (I : Inv X pins σ H s) (h : SqT X.K H a xs) : ∃ its : List Value, Vals xs its ∧ IsTup s.heap a its.toArray ∧ xs.length ≤ sizeLine := by
  rcases h with h | ⟨o, its, n, hk, hc, hs, hz, r⟩
  · obtain ⟨z, its, r, p⟩ := h.ok I.hok
    exact ⟨its, r, p, z⟩
  · refine ⟨its.toList, r, ⟨o, I.kIn a o hk, hc, n, by simpa using hs⟩, ?_⟩
    have e := r.length
    simp only [Array.length_toList] at e
    omega
theorem Inv.list_inj (I : Inv X pins σ H s) (h : SqL X.K H a xs) (h' : SqL X.K H a ys) : xs = ys := by
  obtain ⟨its, r, ⟨o, n, e, _, _, d⟩, _⟩ := I.list h
  obtain ⟨its', r', ⟨o', n', e', _, _, d'⟩, _⟩ := I.list h'
  rw [e] at e'; cases e'
  rw [d] at d'
  injection d' with d1 _
  have : its = its' := by simpa using congrArg Array.toList d1
  subst this
  exact r.inj r'
end
noncomputable abbrev Cx.wish (X : Cx) (E : Value → Shared → Prop) : Cx := { X with xe := E }
noncomputable abbrev Cx.nox (X : Cx) : Cx := X.wish fun _ _ => False
theorem Cx.Ok.wish {X : Cx} (ok : X.Ok) (E : Value → Shared → Prop) : (X.wish E).Ok :=
  ⟨ok.mod, ok.kind, ok.glob, ok.blt, ok.above, ok.inj, ok.has, ok.cab, ok.hd, ok.frames, ok.stk, ok.exf, ok.bs, ok.bsz, ok.noex, ok.exfs, ok.funs, ok.frf⟩
theorem Cx.Ok.unwish {X : Cx} {E : Value → Shared → Prop} (ok : (X.wish E).Ok) : X.Ok :=
  ⟨ok.mod, ok.kind, ok.glob, ok.blt, ok.above, ok.inj, ok.has, ok.cab, ok.hd, ok.frames, ok.stk, ok.exf, ok.bs, ok.bsz, ok.noex, ok.exfs, ok.funs, ok.frf⟩
section
variable {X : Cx} {pins : List (Addr × Obj)} {σ : St} {H : Hp} {s : Shared} {E : Value → Shared → Prop}
theorem Inv.wish (I : Inv X pins σ H s) (E : Value → Shared → Prop) : Inv (X.wish E) pins σ H s := ⟨I.ok.wish E, I.os, I.bare, I.base, I.loc, I.cell, I.free, I.freeC, I.pin, I.hok, I.len⟩
theorem Inv.unwish (I : Inv (X.wish E) pins σ H s) : Inv X pins σ H s := ⟨I.ok.unwish, I.os, I.bare, I.base, I.loc, I.cell, I.free, I.freeC, I.pin, I.hok, I.len⟩
theorem SP.unwish {D : Ends} {f : Flow} {s' : Shared} (h : SP (X.wish E) pins D f s') : SP X pins D f s' := by
  cases f with
  | next => obtain ⟨σ', H', I, q⟩ := h; exact ⟨σ', H', I.unwish, q⟩
  | brk => obtain ⟨σ', H', I, q⟩ := h; exact ⟨σ', H', I.unwish, q⟩
  | cont => obtain ⟨σ', H', I, q⟩ := h; exact ⟨σ', H', I.unwish, q⟩
  | ret u => obtain ⟨v, σ', H', I, r, q⟩ := h; exact ⟨v, σ', H', I.unwish, r, q⟩
theorem PSs.nox {st : List Stmt} {t : TS} (h : PSs X.nox st t) : PSs X st t := fun pins s σ H D I hw =>
  wpAny_mono (h pins s σ H D (I.wish _) hw) (fun _ _ q => q.unwish) fun _ _ z => False.elim z
end
section
variable {X : Cx} {st : Stmt} {rest : List Stmt} {t u : TS} {e : Expr} {te : TE} {pos : Pos}
noncomputable def tNext : TS := fun D σ H => D.nx σ H
noncomputable def tSeq (t u : TS) : TS := fun D σ H => t { D with nx := u D } σ H
theorem pss_nil : PSs X [] tNext := fun _ _ σ H _ I h => wpAny_execs_nil ⟨σ, H, I, h⟩
theorem pss_cons (h1 : PS X st t) (h2 : PSs X rest u) : PSs X (st :: rest) (tSeq t u) := by
  intro pins s σ H D I h
  refine wpAny_execs_cons (thn (h1 pins s σ H { D with nx := u D } I h) fun f s1 q => ?_)
  cases f with
  | next =>
    obtain ⟨σ', H', I', q⟩ := q
    exact h2 pins s1 σ' H' D I' q
  | ret v => exact q
  | brk => exact q
  | cont => exact q
theorem pss_one (h1 : PS X st t) : PSs X [st] t := by
  intro pins s σ H D I h
  refine wpAny_execs_cons (thn (h1 pins s σ H D I h) fun f s1 q => ?_)
  cases f with
  | next => exact wpAny_execs_nil q
  | ret v => exact q
  | brk => exact q
  | cont => exact q
theorem Inv.quiet {pins : List (Addr × Obj)} {σ : St} {H : Hp} {s : Shared} (I : Inv X pins σ H s) : interactive X.env = false := by simp [interactive, I.ok.kind]
noncomputable def tDrop (te : TE) : TS := fun D σ H => te σ H fun _ H1 => D.nx σ H1
theorem ps_expr (he : PE X e te) (hs : swapsWith e none pos.line X.env = pure false := by rfl) : PS X (.Expr e pos) (tDrop te) := by
  intro pins s σ H D I h
  exact wpAny_Expr_any (thn (he pins s σ H _ I h) fun v s1 ⟨x, H1, I1, r1, q1⟩ => ⟨σ, H1, I1, q1⟩) I.quiet hs
noncomputable def tRet (te : TE) : TS := fun D σ H => te σ H D.rt
theorem ps_ret (he : PE X e te) : PS X (.Return (some e) pos) (tRet te) := by
  intro pins s σ H D I h
  exact wpAny_Return_some (thn (he pins s σ H _ I h) fun v s1 ⟨x, H1, I1, r1, q1⟩ => ⟨x, σ, H1, I1, r1, q1⟩)
noncomputable def tIfS (c : TT) (t u : TS) : TS := fun D σ H => c σ H fun b H1 => if b = true then t D σ H1 else u D σ H1
theorem ps_if {c : Expr} {a b : List Stmt} {tc : TT} (hc : PT X c tc) (ha : PSs X a t) (hb : PSs X b u) : PS X (.If c a b pos) (tIfS tc t u) := by
  intro pins s σ H D I h
  refine wpAny_If (thn (hc pins s σ H _ I h) fun d s1 zz_ => ?_)
  obtain ⟨H1, I1, q1⟩ := zz_
  cases d with
  | true => exact ha pins s1 σ H1 D I1 q1
  | false => exact hb pins s1 σ H1 D I1 q1
end
noncomputable abbrev TG := V → St → Hp → (St → Hp → Prop) → Prop
noncomputable abbrev TGs := List V → St → Hp → (St → Hp → Prop) → Prop
noncomputable def PG (X : Cx) (target : Expr) (t : TG) : Prop :=
  ∀ (pins : List (Addr × Obj)) (s : Shared) (σ : St) (H : Hp) (v : V) (u : Value) (Q : St → Hp → Prop), Inv X pins σ H s → RelV v u → t v σ H Q →
    wpAny (model X.prog X.w) X.A (assign target X.env u) (fun _ s' => ∃ σ' H', Inv X pins σ' H' s' ∧ Q σ' H') X.xe s
noncomputable def PGs (X : Cx) (ts : List Expr) (t : TGs) : Prop :=
  ∀ (pins : List (Addr × Obj)) (s : Shared) (σ : St) (H : Hp) (vs : List V) (us : List Value) (Q : St → Hp → Prop), Inv X pins σ H s → Vals vs us → t vs σ H Q →
    wpAny (model X.prog X.w) X.A (assignInOrder ((assignEach ts X.env).map (·.2)) us) (fun _ s' => ∃ σ' H', Inv X pins σ' H' s' ∧ Q σ' H') X.xe s
noncomputable abbrev TSet := V → V → V → Hp → (Hp → Prop) → Prop
noncomputable def PSet (X : Cx) (t : TSet) : Prop :=
  ∀ (pins : List (Addr × Obj)) (s : Shared) (σ : St) (H : Hp) (o i v : V) (ov iv u : Value) (Q : Hp → Prop), Inv X pins σ H s → RelV o ov → RelV i iv → RelV v u → t o i v H Q →
    wpAny (model X.prog X.w) X.A (setItem ov iv u) (fun _ s' => ∃ H', Inv X pins σ H' s' ∧ Q H') X.xe s
section
variable {X : Cx} {pos : Pos}
noncomputable def gName (i : Nat) : TG := fun v σ H Q => Q (σ.set i (some v)) H
theorem pg_name {i : Nat} {x : Str} (hN : X.N.Nodup) (hi : X.N[i]? = some x) (hx : Loc X.env.scope x) (hf : X.fn x = true ∨ X.env.scope.names.lookup x = some .local := by first | exact .inl rfl | exact .inr rfl | assumption) : PG X (.Name x pos) (gName i) := by
  intro pins s σ H v u Q I r h
  exact wpAny_assign_Name (store_ok I hN hi hx r (fun s' I' => ⟨_, H, I', h⟩) hf)
noncomputable def gNil : TGs := fun vs σ H Q => vs = [] ∧ Q σ H
inductive gCons_P (t : TG) (u : TGs) (vs : List V) (σ : St) (H : Hp) (Q : (St → Hp → Prop)) : Prop
  | mk (v r : _) (h1 : vs = v :: r) (h2 : t v σ H fun σ' H' => u r σ' H' Q) : gCons_P t u vs σ H Q
noncomputable def gCons (t : TG) (u : TGs) : TGs := fun vs σ H Q => gCons_P t u vs σ H Q
theorem pgs_nil : PGs X [] gNil := by
  intro pins s σ H vs us Q I r h
  obtain ⟨e, h⟩ := h
  subst e
  cases r
  exact assignInOrder_nil ⟨σ, H, I, h⟩
theorem pgs_cons {e : Expr} {es : List Expr} {t : TG} {u : TGs} (h1 : PG X e t) (h2 : PGs X es u)
    (hs : (assignEach (e :: es) X.env).map (·.2) = assign e X.env :: (assignEach es X.env).map (·.2) := by rfl) : PGs X (e :: es) (gCons t u) := by
  intro pins s σ H vs us Q I r h
  obtain ⟨v, vr, e1, h⟩ := h
  subst e1
  cases r with
  | cons r rr =>
    rw [hs]
    refine assignInOrder_cons (thn (h1 pins s σ H _ _ _ I r h) fun _ s1 zz_ => ?_)
    obtain ⟨σ1, H1, I1, q1⟩ := zz_
    exact h2 pins s1 σ1 H1 _ _ Q I1 rr q1
inductive gTup_P (K : PySem.W.Frag) (n : Nat) (t : TGs) (v : V) (σ : St) (H : Hp) (Q : (St → Hp → Prop)) : Prop
  | mk (a xs : _) (h1 : v = .ref a) (h2 : SqT K H a xs) (h3 : xs.length = n) (h4 : t xs σ H Q) : gTup_P K n t v σ H Q
noncomputable def gTup (K : PySem.W.Frag) (n : Nat) (t : TGs) : TG := fun v σ H Q => gTup_P K n t v σ H Q
theorem pg_tup {es : List Expr} {k : Nat} {t : TGs} {n : Nat} (hc : X.calm = true) (h : PGs X es t)
    (hn : (assignEach es X.env).length = n := by rfl) (hst : (assignEach es X.env).findIdx? (·.1) = none := by rfl) : PG X (.Tuple es k pos) (gTup X.K n t) := by
  intro pins s σ H v u Q I r hw
  obtain ⟨a, xs, e1, hq, hl, hw⟩ := hw
  subst e1
  cases r
  obtain ⟨its, rv, ht, hz⟩ := I.tuple hq
  refine assign_Tuple_tuple (I.ok.hd hc) ht (by simp [hn, ← hl, rv.length]) hst fun h' hx => ?_
  have I1 : Inv X pins σ H { s with heap := h' } := I.kept (t' := s.toks) fun b o e => hx b o (Nat.ne_of_lt (Heap.lt_size e)) e
  exact h pins _ σ H xs _ Q I1 (by simpa using rv) hw
noncomputable def gSub (to ti : TE) (t : TSet) : TG := fun v σ H Q => to σ H fun o H1 => ti σ H1 fun i H2 => t o i v H2 fun H3 => Q σ H3
theorem pg_sub {o i : Expr} {to ti : TE} {t : TSet} (ho : PE X o to) (hi : PE X i ti) (hs : PSet X t)
    (ha : ∀ v, assign (.Subscript o i pos) X.env v = (do
      let ov ← holding [v] (eval o X.env)
      let iv ← holding [v, ov] (eval i X.env)
      standAt pos
      holding [v, ov, iv] (setItem ov iv v)
      release [v, ov, iv] []) := by intro _; rfl) : PG X (.Subscript o i pos) (gSub to ti t) := by
  intro pins s σ H v u Q I r h
  rw [ha]
  refine wpAny_bind (wpAny_holding (thn (ho pins s σ H _ I h) fun ov s1 zz_ => ?_))
  obtain ⟨x, H1, I1, r1, q1⟩ := zz_
  refine wpAny_bind (wpAny_holding (thn (hi pins s1 σ H1 _ I1 q1) fun iv s2 zz_ => ?_))
  obtain ⟨y, H2, I2, r2, q2⟩ := zz_
  refine wpAny_bind (wpAny_standAt (wpAny_bind (wpAny_holding (thn (hs pins s2 σ H2 x y v ov iv u _ I2 r1 r2 r q2) fun _ s3 zz_ => ?_))))
  obtain ⟨H3, I3, q3⟩ := zz_
  exact wpAny_release ⟨σ, H3, I3, q3⟩
noncomputable def tAsg (te : TE) (g : TG) : TS := fun D σ H => te σ H fun x H1 => g x σ H1 D.nx
theorem ps_asg {tg e : Expr} {te : TE} {g : TG} (he : PE X e te) (hg : PG X tg g) (hs : swapsWithSole [tg] e pos.line X.env = pure false := by rfl) (hw : swappedStores [tg] e X.env = pure none := by rfl)
    (h1 : (assignEach [tg] X.env).map (·.2) = [assign tg X.env] := by rfl) : PS X (.Assign [tg] e pos) (tAsg te g) := by
  intro pins s σ H D I h
  refine wpAny_Assign_stores (thn (he pins s σ H _ I h) fun v s1 zz_ => ?_) hs hw
  obtain ⟨x, H1, I1, r1, q1⟩ := zz_
  rw [h1]
  exact thn (hg pins s1 σ H1 x v _ I1 r1 q1) fun _ s2 q => q
theorem ps_set {i : Nat} {x : Str} {e : Expr} {te : TE} {pos' : Pos} (hN : X.N.Nodup) (hi : X.N[i]? = some x) (hx : Loc X.env.scope x) (he : PE X e te) (hs : swapsWith e (some (.Name x pos')) pos.line X.env = pure false := by rfl) (hf : X.fn x = true ∨ X.env.scope.names.lookup x = some .local := by first | exact .inl rfl | exact .inr rfl | assumption) :
    PS X (.Assign [.Name x pos'] e pos) (tAsg te (gName i)) := by
  intro pins s σ H D I h
  refine wpAny_Assign_Name (thn (he pins s σ H _ I h) fun v s1 zz_ => ?_) hs
  obtain ⟨y, H1, I1, r1, q1⟩ := zz_
  exact store_ok I1 hN hi hx r1 (fun s2 I2 => ⟨_, H1, I2, q1⟩) hf
end
section
variable {X : Cx} {pos : Pos}
end
structure It where
  go : Nat → Hp → Prop
  yld : Nat → Hp → V → Hp → Prop
  stop : Nat → Hp → Prop
noncomputable def FpOk (X : Cx) (pins : List (Addr × Obj)) (H : Hp) (b : Addr) : Prop :=
  H b = none ∧ b ≠ X.env.locals ∧ b ∉ X.fs ∧ (b ∈ X.ex ∨ X.s₀.heap.objs.size ≤ b) ∧ (∀ x c, X.env.cells.lookup x = some c → c ≠ b) ∧ ∀ p ∈ X.pn ++ pins, p.1 ≠ b
theorem Inv.fpOk {X : Cx} {pins : List (Addr × Obj)} {σ : St} {H H' : Hp} {s : Shared} {b : Addr} (I : Inv X pins σ H s) (hb : s.heap.objs.size ≤ b) (hn : H' b = none) : FpOk X pins H' b := by
  refine ⟨hn, Nat.ne_of_gt (Nat.lt_of_lt_of_le I.lt hb), I.nofs hb, .inr (Nat.le_trans I.sz hb), fun x c e z => ?_, fun p hp z => ?_⟩
  · obtain ⟨v, q⟩ := I.cell x c e
    exact absurd (Nat.lt_of_lt_of_le q.lt (by rw [z]; exact hb)) (Nat.lt_irrefl _)
  · exact absurd (Nat.lt_of_lt_of_le (Heap.lt_size (I.pin p hp).1) (by rw [z]; exact hb)) (Nat.lt_irrefl _)
structure Turn (P : Program) (w : World) (K : PySem.W.Frag) (tg : Expr) (J : It) (fp : List Addr) (it : Addr) (tn : Nat → Heap → Prop) : Prop where
  mem : it ∈ fp
  obj : ∀ i h, tn i h → ∀ b ∈ fp, ∃ o, h.get? b = some o ∧ ∀ v, o.data ≠ .cell v
  keep : ∀ i h h', tn i h → (∀ b ∈ fp, ∀ o, h.get? b = some o → h'.get? b = some o) → tn i h'
  item : ∀ (X : Cx), X.prog = P → X.w = w → X.K = K → X.calm = true → ∀ (i : Nat) (pins : List (Addr × Obj)) (s : Shared) (σ : St) (H : Hp) (E : Value → Shared → Prop), Inv X pins σ H s → (∀ b ∈ fp, FpOk X pins H b) → tn i s.heap → J.go i H →
    wpAny (model P w) X.A (pyNext (.ref it)) (fun r s1 => ∃ u, r = some u ∧
      wpAny (model P w) X.A (letOwnedTupleGo tg (.ref it) u) (fun _ s2 => ∃ x H', Inv X pins σ H' s2 ∧ RelV x u ∧ J.yld i H x H' ∧ tn (i + 1) s2.heap ∧ ∀ b ∈ fp, H' b = none) E s1) E s
  done : ∀ (X : Cx), X.prog = P → X.w = w → X.K = K → X.calm = true → ∀ (i : Nat) (pins : List (Addr × Obj)) (s : Shared) (σ : St) (H : Hp) (E : Value → Shared → Prop), Inv X pins σ H s → (∀ b ∈ fp, FpOk X pins H b) → tn i s.heap → J.stop i H →
    wpAny (model P w) X.A (pyNext (.ref it)) (fun r s1 => r = none ∧ Inv X pins σ H s1) E s
  self : ∀ (A : Around) (i : Nat) (s : Shared) (Q : Value → Shared → Prop) (E : Value → Shared → Prop), tn i s.heap → Q (.ref it) s → wpAny (model P w) A (pyIter (.ref it)) Q E s
noncomputable abbrev TI := St → Hp → (It → Hp → Prop) → Prop
noncomputable def PIE (X : Cx) (pins : List (Addr × Obj)) (σ : St) (tg : Expr) (R : It → Hp → Prop) (itv : Value) (s2 : Shared) : Prop :=
  ∃ (it : Addr) (fp : List Addr) (tn : Nat → Heap → Prop) (J : It) (H' : Hp), itv = .ref it ∧ Inv X pins σ H' s2 ∧ Turn X.prog X.w X.K tg J fp it tn ∧ tn 0 s2.heap ∧ (∀ b ∈ fp, FpOk X pins H' b) ∧ R J H'
noncomputable def PI (X : Cx) (tg iter : Expr) (wi : TI) : Prop :=
  ∀ (pins : List (Addr × Obj)) (s : Shared) (σ : St) (H : Hp) (R : It → Hp → Prop), Inv X pins σ H s → wi σ H R →
    wpAny (model X.prog X.w) X.A (eval iter X.env) (fun v s1 => wpAny (model X.prog X.w) X.A (pyIter v) (PIE X pins σ tg R) X.xe s1) X.xe s
theorem go_of {M : Model} {A : Around} {E : Value → Shared → Prop} {s : Shared} {tg : Expr} {it : Addr} {u : Value} {o : Obj} {n : String} {vs : Array Value} {Q : Unit → Shared → Prop} (ho : s.heap.get? it = some o) (hc : o.cls = .type n) (hd : o.data = .fields vs)
    (hn : ["enumerate", "zip", "dict_itemiterator", "dict_reverseitemiterator", "odict_iterator", "itertools.zip_longest", "itertools.pairwise"].contains n = false) (hQ : Q () s) : wpAny M A (letOwnedTupleGo tg (.ref it) u) Q E s := by
  unfold letOwnedTupleGo
  cases tg <;> first
    | exact wpAny_pure hQ
    | (cases u <;> first
        | exact wpAny_pure hQ
        | (refine wpAny_bind (wpAny_load ho ?_)
           rw [hc, hd]
           show wpAny M A (if (["enumerate", "zip", "dict_itemiterator", "dict_reverseitemiterator", "odict_iterator", "itertools.zip_longest", "itertools.pairwise"].contains n && vs[0]? == some (rawInt _)) = true then _ else _) Q E s
           rw [if_neg (by intro h; rw [hn, Bool.false_and] at h; cases h)]
           exact wpAny_pure hQ))
noncomputable def Itl (K : PySem.W.Frag) (a : Addr) : It :=
  ⟨fun i H => ∃ xs x, SqL K H a xs ∧ xs[i]? = some x, fun i H x H' => H' = H ∧ ∀ xs, SqL K H a xs → xs[i]? = some x, fun i H => ∃ xs, SqL K H a xs ∧ xs.length ≤ i⟩
noncomputable def Itr (lo : Int) (n : Nat) : It := ⟨fun i _ => i < n, fun i H x H' => H' = H ∧ x = .int (lo + i), fun i _ => n ≤ i⟩
theorem turn_list {P : Program} {w : World} {K : PySem.W.Frag} {tg : Expr} (a it : Addr) : Turn P w K tg (Itl K a) [it] it (fun i h => h.IsListIter it a i) where
  mem := by simp
  obj := fun i h st b hb => by
    have e : b = it := by simpa using hb
    subst e
    obtain ⟨o, e, c, d⟩ := st
    exact ⟨o, e, fun v z => by rw [d] at z; cases z⟩
  keep := fun i h h' st k => st.at fun o e => k it (by simp) o e
  item := by
    intro X hP hw hK hc i pins s σ H E I hf st hg
    subst hP hw hK
    obtain ⟨xs, x, hq, hx⟩ := hg
    obtain ⟨its, rv, p, hz⟩ := I.list hq
    obtain ⟨u, hu, ru⟩ := rv.get hx
    obtain ⟨f0, f1, f2, f3, f4, f5⟩ := hf it (by simp)
    refine wpAny_pyNext_list_item st p.isList (x := u) (by simpa using hu) fun h' st' sb => ?_
    have I1 : Inv X pins σ H { s with heap := h' } := I.turned (t' := s.toks) (fun b o hb e => (sb.2 b hb).trans e) f0 f1 f3 f4 f5
    obtain ⟨o, e, c, d⟩ := id st'
    exact ⟨u, rfl, go_of (s := { s with heap := h' }) e c d (by decide) ⟨x, H, I1, ru, ⟨rfl, fun ys hy => by rw [I.list_inj hy hq]; exact hx⟩, st', fun b hb => (hf b hb).1⟩⟩
  done := by
    intro X hP hw hK hc i pins s σ H E I hf st hg
    subst hP hw hK
    obtain ⟨xs, hq, hx⟩ := hg
    obtain ⟨its, rv, p, hz⟩ := I.list hq
    obtain ⟨f0, f1, f2, f3, f4, f5⟩ := hf it (by simp)
    have hl := rv.length
    exact wpAny_pyNext_list_end (I.ok.hd hc) st p.isList (by simp; omega) fun h' eb => ⟨rfl, I.turned (t' := s.toks) (fun b o hb e => eb b o hb e) f0 f1 f3 f4 f5⟩
  self := fun _ _ _ _ _ st h => wpAny_pyIter_listiter st h
theorem turn_range {P : Program} {w : World} {K : PySem.W.Frag} {tg : Expr} (it : Addr) (lo : Int) (n : Nat) : Turn P w K tg (Itr lo n) [it] it (fun i h => IsRangeIter h it (lo + (i : Nat) * 1) ((n : Int) - (i : Nat)) 1) where
  mem := by simp
  obj := fun i h st b hb => by
    have e : b = it := by simpa using hb
    subst e
    exact ⟨_, st, fun v z => by
      have z' : Data.fields _ = Data.cell v := z
      cases z'⟩
  keep := fun i h h' st k => k it (by simp) _ st
  item := by
    intro X hP hw hK hc i pins s σ H E I hf st hg
    subst hP hw hK
    obtain ⟨f0, f1, f2, f3, f4, f5⟩ := hf it (by simp)
    have W := Walks.range (prog := X.prog) (w := X.w) (I.ok.hd hc) it lo 1 n
    refine W.item i s _ _ hg st fun v h' tk hv st' kk => ?_
    obtain ⟨t, rfl⟩ := hv
    have I1 : Inv X pins σ H { s with heap := h', toks := tk } := I.turned (fun b o hb e => kk b o (by simpa using hb) e) f0 f1 f3 f4 f5
    refine ⟨_, rfl, go_of (s := { s with heap := h', toks := tk }) (n := "range_iterator") st' rfl rfl (by decide) ⟨.int (lo + i), H, I1, ⟨t, ?_⟩, ⟨rfl, rfl⟩, st', fun b hb => (hf b hb).1⟩⟩
    rw [Int.mul_one]
  done := by
    intro X hP hw hK hc i pins s σ H E I hf st hg
    subst hP hw hK
    obtain ⟨f0, f1, f2, f3, f4, f5⟩ := hf it (by simp)
    exact wpAny_pyNext_range_end (I.ok.hd hc) st (by have : n ≤ i := hg; omega) fun h' eb => ⟨rfl, I.turned (t' := s.toks) (fun b o hb e => eb b o hb e) f0 f1 f3 f4 f5⟩
  self := fun _ _ _ _ _ st h => wpAny_pyIter_rangeiter st h
end L2
namespace L2
open PySem PySem.Spec PyProof.Rows
section
variable {X : Cx} {tg : Expr}
inductive iList_P (K : PySem.W.Frag) (R : (It → Hp → Prop)) (x : V) (H1 : Hp) : Prop
  | mk (a : _) (h1 : x = .ref a) (h2 : (∃ xs, SqL K H1 a xs)) (h3 : R (Itl K a) H1) : iList_P K R x H1
noncomputable def iList (K : PySem.W.Frag) (tl : TE) : TI := fun σ H R => tl σ H fun x H1 => iList_P K R x H1
theorem pi_list {l : Expr} {tl : TE} (hl : PE X l tl) : PI X tg l (iList X.K tl) := by
  intro pins s σ H R I h
  refine thn (hl pins s σ H _ I h) fun v s1 zz_ => ?_
  obtain ⟨x, H1, I1, r1, q1⟩ := zz_
  obtain ⟨a, e, ⟨xs, hq⟩, q⟩ := q1
  subst e
  cases r1
  obtain ⟨its, rv, p, hz⟩ := I1.list hq
  refine wpAny_pyIter_list p.isList ?_
  refine ⟨s1.heap.objs.size, [s1.heap.objs.size], _, _, H1, rfl, I1.kept (t' := s1.toks) fun b o e => Heap.get?_push_of_some _ e, turn_list a _, ⟨_, Heap.get?_push_size _ rfl, rfl, rfl⟩, fun b hb => ?_, q⟩
  have e : b = s1.heap.objs.size := by simpa using hb
  subst e
  exact I1.fpOk (Nat.le_refl _) (I1.hok.fresh (Nat.le_refl _))
theorem range_it {pins : List (Addr × Obj)} {σ : St} {H : Hp} {s : Shared} {R : It → Hp → Prop} {E : Value → Shared → Prop} {lo hi : Int} {t u v : Tok} {tk : Nat} (I : Inv X pins σ H s) (h1 : -(2 ^ 62) ≤ lo) (h2 : lo < 2 ^ 62) (h3 : -(2 ^ 62) ≤ hi) (h4 : hi < 2 ^ 62)
    (q : R (Itr lo (hi - lo).toNat) H) : wpAny (model X.prog X.w) X.A (pyIter (.ref s.heap.objs.size)) (PIE X pins σ tg R) E { s with heap := s.heap.push { cls := .type "range", data := .fields #[.int lo t, .int hi u, .int 1 v] }, toks := tk } := by
  refine wpAny_pyIter_range (IsRange.new ..) (small_one h1 h2 h3 h4) ?_
  have I1 : Inv X pins σ H { s with heap := s.heap.push { cls := .type "range", data := .fields #[.int lo t, .int hi u, .int 1 v] }, toks := tk } := I.kept fun b o e => Heap.get?_push_of_some _ e
  refine ⟨(s.heap.push { cls := .type "range", data := .fields #[.int lo t, .int hi u, .int 1 v] }).objs.size, [(s.heap.push { cls := .type "range", data := .fields #[.int lo t, .int hi u, .int 1 v] }).objs.size], _, _, H, rfl,
    I1.kept (t' := tk) fun b o e => Heap.get?_push_of_some _ e, turn_range _ lo (hi - lo).toNat, ?_, fun b hb => ?_, q⟩
  · have e1 : lo + ((0 : Nat) : Int) * 1 = lo := by simp
    have e2 : (((hi - lo).toNat : Nat) : Int) - ((0 : Nat) : Int) = Builtin.Range.rangeSize lo hi 1 := by rw [rangeSize_one]; split <;> omega
    show IsRangeIter _ _ (lo + ((0 : Nat) : Int) * 1) ((((hi - lo).toNat : Nat) : Int) - ((0 : Nat) : Int)) 1
    rw [e1, e2]
    exact Heap.get?_push_size _ rfl
  · have e : b = (s.heap.push { cls := .type "range", data := .fields #[.int lo t, .int hi u, .int 1 v] }).objs.size := by simpa using hb
    subst e
    exact I1.fpOk (Nat.le_refl _) (I1.hok.fresh (Nat.le_refl _))
inductive iRng1_P (R : (It → Hp → Prop)) (vs : List V) (H1 : Hp) : Prop
  | mk (j : Int) (h1 : vs = [.int j]) (h2 : -(2 ^ 62) ≤ j) (h3 : j < 2 ^ 62) (h4 : R (Itr 0 j.toNat) H1) : iRng1_P R vs H1
noncomputable def iRng1 (ta : TA) : TI := fun σ H R => ta σ H fun vs H1 => iRng1_P R vs H1
theorem pi_range1 {a : Expr} {ta : TA} {p pos : Pos} (hg : Gl X "range") (hm : X.mg "range" = none) (ha : PA X [a] ta) (hs : starEach [a] X.env = [(false, eval a X.env)] := by rfl) : PI X tg (.Call (.Name "range" p) [a] [] pos) (iRng1 ta) := by
  intro pins s σ H R I h
  refine Call_ (ld_blt I hg hm boot_range (PyProof.Rows.callWith_type1 (thn (ha pos pins s σ H _ I h) fun us s1 zz_ => ?_) hs rfl))
  obtain ⟨vs, H1, I1, r1, q1⟩ := zz_
  obtain ⟨j, e, q1, q2, q⟩ := q1
  subst e
  cases r1 with
  | cons r rr =>
    cases rr
    obtain ⟨t, rfl⟩ := r
    exact call_range_1 (range_it I1 (by omega) (by omega) q1 q2 (by simpa using q))
noncomputable def tFor (wi : TI) (g : TG) (tb : TS) : TS := fun D σ H => wi σ H fun J H1 => ∃ W : Nat → Nat → St → Hp → Prop, (∃ m, W 0 m σ H1) ∧ ∀ i m σ H, W i m σ H →
  (J.stop i H ∧ D.nx σ H) ∨ (J.go i H ∧ ∃ N : St → Hp → Prop, (∀ σ' H', N σ' H' → ∃ m', m' < m ∧ W (i + 1) m' σ' H') ∧ ∀ x H', J.yld i H x H' → g x σ H' fun σ2 H2 => tb { D with nx := N, ct := N, bk := D.nx } σ2 H2)
noncomputable def pinsAt (fp : List Addr) (h : Heap) : List (Addr × Obj) := fp.filterMap fun b => (h.get? b).map fun o => (b, o)
theorem mem_pinsAt {fp : List Addr} {h : Heap} {b : Addr} {o : Obj} (hb : b ∈ fp) (e : h.get? b = some o) : (b, o) ∈ pinsAt fp h := List.mem_filterMap.mpr ⟨b, hb, by rw [e]; rfl⟩
theorem of_pinsAt {fp : List Addr} {h : Heap} {p : Addr × Obj} (hp : p ∈ pinsAt fp h) : p.1 ∈ fp ∧ h.get? p.1 = some p.2 := by
  obtain ⟨b, hb, e⟩ := List.mem_filterMap.mp hp
  cases q : h.get? b with
  | none => rw [q] at e; cases e
  | some o =>
    rw [q] at e
    have e' : (b, o) = p := Option.some.inj e
    subst e'
    exact ⟨hb, q⟩
theorem Inv.pinned {pins : List (Addr × Obj)} {σ : St} {H : Hp} {s : Shared} {fp : List Addr} (I : Inv X pins σ H s) (hf : ∀ b ∈ fp, FpOk X pins H b) (ho : ∀ b ∈ fp, ∃ o, s.heap.get? b = some o ∧ ∀ v, o.data ≠ .cell v) : Inv X (pins ++ pinsAt fp s.heap) σ H s :=
  I.pins_of fun p hp => (List.mem_append.mp hp).elim (fun z => I.pin p (List.mem_append_right _ z)) fun z => by
    obtain ⟨hb, e⟩ := of_pinsAt z
    obtain ⟨f0, f1, f2, _⟩ := hf p.1 hb
    obtain ⟨o, e', d⟩ := ho p.1 hb
    rw [e] at e'; cases e'
    exact ⟨e, f0, f1, f2, d⟩
theorem Inv.unpinned {pins pl : List (Addr × Obj)} {σ : St} {H : Hp} {s : Shared} (I : Inv X (pins ++ pl) σ H s) : Inv X pins σ H s := I.pins_of fun p hp => I.pin p (List.mem_append_right _ (List.mem_append_left _ hp))
theorem ps_for {iter : Expr} {body : List Stmt} {wi : TI} {g : TG} {tb : TS} {pos : Pos} (hp : PassesOwn (model X.prog X.w) X.A X.env X.xe) (hc : X.calm = true) (hi : PI X tg iter wi) (hg : PG X tg g) (hb : PSs X body tb)
    (hs : ∀ x, foldedSetIterable iter X.env x = pure x := by intro _; rfl) : PS X (.For tg iter body [] pos) (tFor wi g tb) := by
  intro pins s σ H D I h
  refine wpAny_For (thn (hi pins s σ H _ I h) fun v s1 h1 => thn h1 fun itv s2 h2 => ?_) hs
  obtain ⟨it, fp, tn, J, H2, e, I2, T, st2, f2, W, ⟨m0, w0⟩, turn⟩ := h2
  subst e
  -- what stays true of the iterator's objects through the loop
  have stat : ∀ {H' : Hp}, (∀ b ∈ fp, H' b = none) → ∀ b ∈ fp, FpOk X pins H' b := fun hn b hb => ⟨hn b hb, (f2 b hb).2⟩
  refine codeAny_forLoop_any (fun n s' => ∃ i σ' H', Inv X pins σ' H' s' ∧ tn i s'.heap ∧ (∀ b ∈ fp, H' b = none) ∧ W i n σ' H') ?_ m0 ⟨0, σ, H2, I2, st2, fun b hb => (f2 b hb).1, w0⟩
  rintro n s3 ⟨i, σ3, H3, I3, st3, fr3, w3⟩
  rcases turn i n σ3 H3 w3 with ⟨stop, qn⟩ | ⟨go, N, hN, step⟩
  · refine wpAny_passesOwn hp (thn (T.done X rfl rfl rfl hc i pins s3 σ3 H3 X.xe I3 (stat fr3) st3 stop) fun r s4 ⟨hr, I4⟩ => ?_)
    subst hr
    exact wpAny_execs_nil ⟨σ3, H3, I4, qn⟩
  · refine wpAny_passesOwn hp (thn (T.item X rfl rfl rfl hc i pins s3 σ3 H3 X.xe I3 (stat fr3) st3 go) fun r s4 ⟨u, hr, h4⟩ => ?_)
    subst hr
    refine wpAny_passesOwn hp (thn h4 fun _ s5 zz_ => ?_)
    obtain ⟨x, H5, I5, r5, y5, st5, fr5⟩ := zz_
    have I5' := I5.pinned (stat fr5) (T.obj _ _ st5)
    refine wpAny_passesOwn hp (thn (hg _ s5 σ3 H5 x u _ I5' r5 (step x H5 y5)) fun _ s6 zz_ => ?_)
    obtain ⟨σ6, H6, I6, q6⟩ := zz_
    refine wpAny_passesOwn hp (thn (hb _ s6 σ6 H6 _ I6 q6) fun f s7 q7 => ?_)
    have again : ∀ {σ7 : St} {H7 : Hp}, Inv X (pins ++ pinsAt fp s5.heap) σ7 H7 s7 → N σ7 H7 → ∃ m, m < n ∧ ∃ i σ' H', Inv X pins σ' H' s7 ∧ tn i s7.heap ∧ (∀ b ∈ fp, H' b = none) ∧ W i m σ' H' := fun {σ7 H7} I7 n7 => by
      obtain ⟨m', hm, w7⟩ := hN σ7 H7 n7
      refine ⟨m', hm, i + 1, σ7, H7, I7.unpinned, T.keep _ _ _ st5 fun b hb o e => (I7.pin (b, o) (List.mem_append_right _ (List.mem_append_right _ (mem_pinsAt hb e)))).1, fun b hb => ?_, w7⟩
      obtain ⟨o, e, d⟩ := T.obj _ _ st5 b hb
      exact (I7.pin (b, o) (List.mem_append_right _ (List.mem_append_right _ (mem_pinsAt hb e)))).2.1
    cases f with
    | next => obtain ⟨σ7, H7, I7, n7⟩ := q7; exact again I7 n7
    | cont => obtain ⟨σ7, H7, I7, n7⟩ := q7; exact again I7 n7
    | brk => obtain ⟨σ7, H7, I7, q7⟩ := q7; exact ⟨σ7, H7, I7.unpinned, q7⟩
    | ret v => obtain ⟨x7, σ7, H7, I7, r7, q7⟩ := q7; exact ⟨x7, σ7, H7, I7.unpinned, r7, q7⟩
end
theorem for_list {K : PySem.W.Frag} {a : Addr} {xs : List V} {g : TG} {tb : TS} {D : Ends} {σ : St} {H : Hp} (Pv : Nat → St → Hp → Prop) (h0 : Pv 0 σ H) (hl : ∀ i σ H, i ≤ xs.length → Pv i σ H → SqL K H a xs)
    (hs : ∀ i x σ H, xs[i]? = some x → Pv i σ H → g x σ H fun σ2 H2 => tb { D with nx := Pv (i + 1), ct := Pv (i + 1), bk := D.nx } σ2 H2) (hd : ∀ σ H, Pv xs.length σ H → D.nx σ H) :
    ∃ W : Nat → Nat → St → Hp → Prop, (∃ m, W 0 m σ H) ∧ ∀ i m σ H, W i m σ H →
      ((Itl K a).stop i H ∧ D.nx σ H) ∨ ((Itl K a).go i H ∧ ∃ N : St → Hp → Prop, (∀ σ' H', N σ' H' → ∃ m', m' < m ∧ W (i + 1) m' σ' H') ∧ ∀ x H', (Itl K a).yld i H x H' → g x σ H' fun σ2 H2 => tb { D with nx := N, ct := N, bk := D.nx } σ2 H2) := by
  refine ⟨fun i m σ H => m = xs.length - i ∧ i ≤ xs.length ∧ Pv i σ H, ⟨xs.length, by simp, Nat.zero_le _, h0⟩, ?_⟩
  rintro i m σ H ⟨rfl, hi, p⟩
  have q := hl i σ H hi p
  by_cases hlt : i < xs.length
  · refine .inr ⟨⟨xs, xs[i], q, by simp [hlt]⟩, Pv (i + 1), fun σ' H' p' => ⟨xs.length - (i + 1), by omega, rfl, hlt, p'⟩, fun x H' y => ?_⟩
    obtain ⟨e, y⟩ := y
    subst e
    exact hs i x σ _ (y xs q) p
  · have e : i = xs.length := by omega
    subst e
    exact .inl ⟨⟨xs, q, Nat.le_refl _⟩, hd σ H p⟩
theorem for_range {lo : Int} {n : Nat} {g : TG} {tb : TS} {D : Ends} {σ : St} {H : Hp} (Pv : Nat → St → Hp → Prop) (h0 : Pv 0 σ H)
    (hs : ∀ i σ H, i < n → Pv i σ H → g (.int (lo + i)) σ H fun σ2 H2 => tb { D with nx := Pv (i + 1), ct := Pv (i + 1), bk := D.nx } σ2 H2) (hd : ∀ σ H, Pv n σ H → D.nx σ H) :
    ∃ W : Nat → Nat → St → Hp → Prop, (∃ m, W 0 m σ H) ∧ ∀ i m σ H, W i m σ H →
      ((Itr lo n).stop i H ∧ D.nx σ H) ∨ ((Itr lo n).go i H ∧ ∃ N : St → Hp → Prop, (∀ σ' H', N σ' H' → ∃ m', m' < m ∧ W (i + 1) m' σ' H') ∧ ∀ x H', (Itr lo n).yld i H x H' → g x σ H' fun σ2 H2 => tb { D with nx := N, ct := N, bk := D.nx } σ2 H2) := by
  refine ⟨fun i m σ H => m = n - i ∧ i ≤ n ∧ Pv i σ H, ⟨n, by simp, Nat.zero_le _, h0⟩, ?_⟩
  rintro i m σ H ⟨rfl, hi, p⟩
  by_cases hlt : i < n
  · refine .inr ⟨hlt, Pv (i + 1), fun σ' H' p' => ⟨n - (i + 1), by omega, rfl, hlt, p'⟩, fun x H' y => ?_⟩
    obtain ⟨e, y⟩ := y
    subst e y
    exact hs i σ _ hlt p
  · have e : i = n := by omega
    subst e
    exact .inl ⟨Nat.le_refl _, hd σ H p⟩
end L2
namespace L2
open PySem PySem.Spec PyProof.Rows
noncomputable abbrev R2 := V → V → Hp → VK → Prop
noncomputable def OpR (X : Cx) (f : Value → Value → Sem Value) (r : R2) : Prop :=
  ∀ (pins : List (Addr × Obj)) (s : Shared) (σ : St) (H : Hp) (x y : V) (v u : Value) (Q : VK), Inv X pins σ H s → RelV x v → RelV y u → r x y H Q →
    wpAny (model X.prog X.w) X.A (f v u) (EP X pins σ Q) X.xe s
noncomputable def UnR (X : Cx) (f : Value → Sem Value) (r : V → Hp → VK → Prop) : Prop :=
  ∀ (pins : List (Addr × Obj)) (s : Shared) (σ : St) (H : Hp) (x : V) (v : Value) (Q : VK), Inv X pins σ H s → RelV x v → r x H Q →
    wpAny (model X.prog X.w) X.A (f v) (EP X pins σ Q) X.xe s
noncomputable def CallR (X : Cx) (f : Value) (r : List V → Hp → VK → Prop) : Prop :=
  ∀ (pins : List (Addr × Obj)) (s : Shared) (σ : St) (H : Hp) (xs : List V) (us : List Value) (Q : VK), Inv X pins σ H s → Vals xs us → r xs H Q →
    wpAny (model X.prog X.w) X.A (call f us) (EP X pins σ Q) X.xe s
noncomputable def tOp (r : R2) (ta tb : TE) : TE := fun σ H Q => ta σ H fun x H1 => tb σ H1 fun y H2 => r x y H2 Q
noncomputable def tUn (r : V → Hp → VK → Prop) (ta : TE) : TE := fun σ H Q => ta σ H fun x H1 => r x H1 Q
inductive rI_P (C : Int → Int → Prop) (g : Int → Int → V) (x : V) (y : V) (H : Hp) (Q : VK) : Prop
  | mk (i j : _) (h1 : x = .int i) (h2 : y = .int j) (h3 : C i j) (h4 : Q (g i j) H) : rI_P C g x y H Q
noncomputable def rI (C : Int → Int → Prop) (g : Int → Int → V) : R2 := fun x y H Q => rI_P C g x y H Q
inductive rI0_P (g : Int → Int → V) (x : V) (y : V) (H : Hp) (Q : VK) : Prop
  | mk (i j : _) (h1 : x = .int i) (h2 : y = .int j) (h3 : Q (g i j) H) : rI0_P g x y H Q
noncomputable def rI0 (g : Int → Int → V) : R2 := fun x y H Q => rI0_P g x y H Q
inductive rU_P (g : Int → V) (x : V) (H : Hp) (Q : VK) : Prop
  | mk (i : _) (h1 : x = .int i) (h2 : Q (g i) H) : rU_P g x H Q
noncomputable def rU (g : Int → V) : V → Hp → VK → Prop := fun x H Q => rU_P g x H Q
section
variable {X : Cx} {a b c : Expr} {ta tb tc : TE} {pos : Pos}
theorem binT (ha : PE X a ta) (hb : PE X b tb) {pins : List (Addr × Obj)} {s : Shared} {σ : St} {H : Hp} {R : V → V → Hp → Prop} (I : Inv X pins σ H s)
    (h : ta σ H fun x H1 => tb σ H1 fun y H2 => R x y H2) {Q : Value → Shared → Prop} {f : Value → Value → Sem Value}
    (hf : ∀ v u s2 x y H2, Inv X pins σ H2 s2 → RelV x v → RelV y u → R x y H2 → wpAny (model X.prog X.w) X.A (f v u) Q X.xe s2) :
    wpAny (model X.prog X.w) X.A (eval a X.env) (fun v s₁ => wpAny (model X.prog X.w) X.A (eval b X.env) (fun u s₂ => wpAny (model X.prog X.w) X.A (f v u) Q X.xe s₂) X.xe s₁) X.xe s := by
  refine thn (ha pins s σ H _ I h) fun v s1 zz_ => ?_
  obtain ⟨x, H1, I1, r1, q1⟩ := zz_
  refine thn (hb pins s1 σ H1 _ I1 q1) fun u s2 zz_ => ?_
  obtain ⟨y, H2, I2, r2, q2⟩ := zz_
  exact hf v u s2 x y H2 I2 r1 r2 q2
theorem pe_op {op : Operator} {r : R2} (ho : OpR X (binaryOp op) r) (ha : PE X a ta) (hb : PE X b tb) : PE X (.BinOp a op b pos) (tOp r ta tb) := by
  intro pins s σ H Q I h
  exact wpAny_BinOp (binT ha hb I h fun v u s2 x y H2 I2 rx ry q => ho pins s2 σ H2 x y v u Q I2 rx ry q)
theorem pe_un {op : UnaryOp} {r : V → Hp → VK → Prop} (ho : UnR X (unaryOp op) r) (ha : PE X a ta) : PE X (.UnaryOp op a pos) (tUn r ta) := by
  intro pins s σ H Q I h
  exact UnaryOp_ (thn (ha pins s σ H _ I h) fun v s1 ⟨x, H1, I1, r1, q1⟩ => ho pins s1 σ H1 x v Q I1 r1 q1)
theorem opI {f : Value → Value → Sem Value} {C : Int → Int → Prop} {g : Int → Int → Int}
    (rule : ∀ (i j : Int) (t u : Tok) (s : Shared) (Q : Value → Shared → Prop) (E : Value → Shared → Prop), C i j → Q (.int (g i j) s.toks) { s with toks := s.toks + 1 } → wpAny (model X.prog X.w) X.A (f (.int i t) (.int j u)) Q E s) :
    OpR X f (rI C fun i j => .int (g i j)) := by
  intro pins s σ H x y v u Q I rx ry h
  obtain ⟨i, j, rfl, rfl, hc, q⟩ := h
  obtain ⟨t, rfl⟩ := rx
  obtain ⟨t', rfl⟩ := ry
  exact rule i j t t' s _ _ hc ⟨.int (g i j), H, I.tok _, ⟨_, rfl⟩, q⟩
theorem opI0 {f : Value → Value → Sem Value} {g : Int → Int → Int}
    (rule : ∀ (i j : Int) (t u : Tok) (s : Shared) (Q : Value → Shared → Prop) (E : Value → Shared → Prop), Q (.int (g i j) s.toks) { s with toks := s.toks + 1 } → wpAny (model X.prog X.w) X.A (f (.int i t) (.int j u)) Q E s) :
    OpR X f (rI0 fun i j => .int (g i j)) := by
  intro pins s σ H x y v u Q I rx ry h
  obtain ⟨i, j, rfl, rfl, q⟩ := h
  obtain ⟨t, rfl⟩ := rx
  obtain ⟨t', rfl⟩ := ry
  exact rule i j t t' s _ _ ⟨.int (g i j), H, I.tok _, ⟨_, rfl⟩, q⟩
theorem opB0 {f : Value → Value → Sem Value} {g : Int → Int → Bool}
    (rule : ∀ (i j : Int) (t u : Tok) (s : Shared) (Q : Value → Shared → Prop) (E : Value → Shared → Prop), Q (.bool (g i j)) s → wpAny (model X.prog X.w) X.A (f (.int i t) (.int j u)) Q E s) :
    OpR X f (rI0 fun i j => .bl (g i j)) := by
  intro pins s σ H x y v u Q I rx ry h
  obtain ⟨i, j, rfl, rfl, q⟩ := h
  obtain ⟨t, rfl⟩ := rx
  obtain ⟨t', rfl⟩ := ry
  exact rule i j t t' s _ _ ⟨.bl (g i j), H, I, rfl, q⟩
noncomputable def CDiv (i j : Int) : Prop := 0 < j ∧ j < 1073741824
noncomputable def CPow (i j : Int) : Prop := 0 ≤ j ∧ j ≤ 1000000 ∧ i.natAbs < 2 ^ 64
noncomputable def CMul (i j : Int) : Prop := (-(2 ^ 64) < i ∧ i < 2 ^ 64) ∨ (-(2 ^ 64) < j ∧ j < 2 ^ 64)
theorem CMul.ok {i j : Int} (h : CMul i j) : IntMulOk i j := by
  rcases h with ⟨h1, h2⟩ | ⟨h1, h2⟩
  · exact .of_left (intBits_le_64 h1 h2)
  · exact .of_right (intBits_le_64 h1 h2)
theorem op_add : OpR X (binaryOp .Add) (rI0 fun i j => .int (i + j)) := opI0 fun _ _ _ _ _ _ _ q => add_int q
theorem op_sub : OpR X (binaryOp .Sub) (rI0 fun i j => .int (i - j)) := opI0 fun _ _ _ _ _ _ _ q => sub_int q
theorem op_mul : OpR X (binaryOp .Mult) (rI CMul fun i j => .int (i * j)) := opI fun _ _ _ _ _ _ _ hc q => mul_int q hc.ok
theorem op_fdiv : OpR X (binaryOp .FloorDiv) (rI CDiv fun i j => .int (i / j)) := opI fun i j _ _ _ _ _ hc q => by
  have h1 : (0 : Int) < j := hc.1
  have h2 : j < 1073741824 := hc.2
  exact floordiv_int (by omega) (by rw [Int.fdiv_eq_ediv_of_nonneg i (by omega)]; exact q) (.inl (PyProof.noPylong_small (by omega)))
theorem op_mod : OpR X (binaryOp .Mod) (rI (fun _ j => 0 < j) fun i j => .int (i % j)) := opI fun i j _ _ _ _ _ hc q => by
  have h1 : (0 : Int) < j := hc
  exact mod_int' (by omega) (by rw [Int.fmod_eq_emod_of_nonneg i (by omega)]; exact q)
theorem op_pow : OpR X (binaryOp .Pow) (rI CPow fun i j => .int (i ^ j.toNat)) := opI fun _ _ _ _ _ _ _ hc q => pow_int_small hc.1 hc.2.1 hc.2.2 q
theorem unI {f : Value → Sem Value} {g : Int → Int}
    (rule : ∀ (i : Int) (t : Tok) (s : Shared) (Q : Value → Shared → Prop) (E : Value → Shared → Prop), Q (.int (g i) s.toks) { s with toks := s.toks + 1 } → wpAny (model X.prog X.w) X.A (f (.int i t)) Q E s) :
    UnR X f (rU fun i => .int (g i)) := by
  intro pins s σ H x v Q I rx h
  obtain ⟨i, rfl, q⟩ := h
  obtain ⟨t, rfl⟩ := rx
  exact rule i t s _ _ ⟨.int (g i), H, I.tok _, ⟨_, rfl⟩, q⟩
theorem un_neg : UnR X (unaryOp .USub) (rU fun i => .int (-i)) := unI fun _ _ _ _ _ q => neg_int q
end
noncomputable def scal : V → V → Bool
  | .non, .non => true | .non, .int _ => true | .int _, .non => true | .non, .bl _ => true | .bl _, .non => true | .non, .str _ => true | .str _, .non => true
  | .int _, .int _ => true | .bl _, .bl _ => true | .str _, .str _ => true | .byt _, .byt _ => true
  | .int _, .str _ => true | .str _, .int _ => true | .bl _, .str _ => true | .str _, .bl _ => true
  | _, _ => false
noncomputable def rEq : R2 := fun x y H Q => scal x y = true ∧ Q (.bl (decide (x = y))) H
noncomputable def rNe : R2 := fun x y H Q => scal x y = true ∧ Q (.bl (!decide (x = y))) H
theorem dec_int {i j : Int} : decide (V.int i = V.int j) = (i == j) := by
  rw [Bool.eq_iff_iff]
  simp
theorem dec_bl {i j : Bool} : decide (V.bl i = V.bl j) = (i == j) := by
  rw [Bool.eq_iff_iff]
  simp
theorem dec_str {i j : Str} : decide (V.str i = V.str j) = (i == j) := by
  rw [Bool.eq_iff_iff]
  simp
theorem dec_byt {i j : Array UInt8} : decide (V.byt i = V.byt j) = (i.toList == j.toList) := by
  rw [Bool.eq_iff_iff]
  cases i
  cases j
  simp
section
variable {X : Cx} {a b c : Expr} {ta tb tc : TE} {pos : Pos}
theorem fin_bl {pins : List (Addr × Obj)} {σ : St} {H : Hp} {s : Shared} {Q : VK} {k k' : Bool} (I : Inv X pins σ H s) (q : Q (.bl k) H) (e : k = k') : EP X pins σ Q (.bool k') s := by
  subst e
  exact ⟨.bl k, H, I, rfl, q⟩
theorem op_eq : OpR X (compareOp .Eq) rEq := by
  intro pins s σ H x y v u Q I rx ry h
  obtain ⟨hs, q⟩ := h
  cases x with
  | non =>
    cases rx
    cases y with
    | non => cases ry; exact PySem.EqNone.eq_none_none (fin_bl I q (by simp))
    | bl j => cases ry; exact PySem.EqNone.eq_none_bool (fin_bl I q (by simp))
    | int j => obtain ⟨t', rfl⟩ := ry; exact PySem.EqNone.eq_none_int (fin_bl I q (by simp))
    | str j => obtain ⟨t', rfl⟩ := ry; exact PySem.EqNone.eq_none_str (fin_bl I q (by simp))
    | _ => exact absurd (show false = true from hs) Bool.false_ne_true
  | bl i =>
    cases rx
    cases y with
    | non => cases ry; exact PySem.EqNone.eq_bool_none (fin_bl I q (by simp))
    | bl j => cases ry; exact eq_bool (fin_bl I q dec_bl)
    | str j => obtain ⟨t', rfl⟩ := ry; exact PySem.EqMixed.eq_bool_str (fin_bl I q (by simp))
    | _ => exact absurd (show false = true from hs) Bool.false_ne_true
  | int i =>
    obtain ⟨t, rfl⟩ := rx
    cases y with
    | non => cases ry; exact PySem.EqNone.eq_int_none (fin_bl I q (by simp))
    | int j => obtain ⟨t', rfl⟩ := ry; exact eq_int (fin_bl I q dec_int)
    | str j => obtain ⟨t', rfl⟩ := ry; exact PySem.EqMixed.eq_int_str (fin_bl I q (by simp))
    | _ => exact absurd (show false = true from hs) Bool.false_ne_true
  | str i =>
    obtain ⟨t, rfl⟩ := rx
    cases y with
    | non => cases ry; exact PySem.EqNone.eq_str_none (fin_bl I q (by simp))
    | bl j => cases ry; exact PySem.EqMixed.eq_str_bool (fin_bl I q (by simp))
    | int j => obtain ⟨t', rfl⟩ := ry; exact PySem.EqMixed.eq_str_int (fin_bl I q (by simp))
    | str j => obtain ⟨t', rfl⟩ := ry; exact eq_str (fin_bl I q dec_str)
    | _ => exact absurd (show false = true from hs) Bool.false_ne_true
  | byt i =>
    obtain ⟨t, rfl⟩ := rx
    cases y with
    | byt j => obtain ⟨t', rfl⟩ := ry; exact PySem.W.eq_bytes (fin_bl I q dec_byt)
    | _ => exact absurd (show false = true from hs) Bool.false_ne_true
  | _ => cases y <;> exact absurd (show false = true from hs) Bool.false_ne_true
theorem op_ne : OpR X (compareOp .NotEq) rNe := by
  intro pins s σ H x y v u Q I rx ry h
  obtain ⟨hs, q⟩ := h
  cases x with
  | non =>
    cases rx
    cases y with
    | non => cases ry; exact PySem.EqNone.ne_none_none (fin_bl I q (by simp))
    | bl j => cases ry; exact PySem.EqNone.ne_none_bool (fin_bl I q (by simp))
    | int j => obtain ⟨t', rfl⟩ := ry; exact PySem.EqNone.ne_none_int (fin_bl I q (by simp))
    | str j => obtain ⟨t', rfl⟩ := ry; exact PySem.EqNone.ne_none_str (fin_bl I q (by simp))
    | _ => exact absurd (show false = true from hs) Bool.false_ne_true
  | bl i =>
    cases rx
    cases y with
    | non => cases ry; exact PySem.EqNone.ne_bool_none (fin_bl I q (by simp))
    | bl j => cases ry; exact ne_bool (fin_bl I q (congrArg not dec_bl))
    | str j => obtain ⟨t', rfl⟩ := ry; exact PySem.EqMixed.ne_bool_str (fin_bl I q (by simp))
    | _ => exact absurd (show false = true from hs) Bool.false_ne_true
  | int i =>
    obtain ⟨t, rfl⟩ := rx
    cases y with
    | non => cases ry; exact PySem.EqNone.ne_int_none (fin_bl I q (by simp))
    | int j => obtain ⟨t', rfl⟩ := ry; exact ne_int (fin_bl I q (congrArg not dec_int))
    | str j => obtain ⟨t', rfl⟩ := ry; exact PySem.EqMixed.ne_int_str (fin_bl I q (by simp))
    | _ => exact absurd (show false = true from hs) Bool.false_ne_true
  | str i =>
    obtain ⟨t, rfl⟩ := rx
    cases y with
    | non => cases ry; exact PySem.EqNone.ne_str_none (fin_bl I q (by simp))
    | bl j => cases ry; exact PySem.EqMixed.ne_str_bool (fin_bl I q (by simp))
    | int j => obtain ⟨t', rfl⟩ := ry; exact PySem.EqMixed.ne_str_int (fin_bl I q (by simp))
    | str j => obtain ⟨t', rfl⟩ := ry; exact ne_str (fin_bl I q (congrArg not dec_str))
    | _ => exact absurd (show false = true from hs) Bool.false_ne_true
  | byt i =>
    obtain ⟨t, rfl⟩ := rx
    cases y with
    | byt j => obtain ⟨t', rfl⟩ := ry; exact PySem.W.ne_bytes (fin_bl I q (congrArg not dec_byt))
    | _ => exact absurd (show false = true from hs) Bool.false_ne_true
  | _ => cases y <;> exact absurd (show false = true from hs) Bool.false_ne_true
theorem op_lt : OpR X (compareOp .Lt) (rI0 fun i j => .bl (decide (i < j))) := opB0 fun _ _ _ _ _ _ _ q => lt_int q
theorem op_le : OpR X (compareOp .LtE) (rI0 fun i j => .bl (decide (i ≤ j))) := opB0 fun _ _ _ _ _ _ _ q => le_int q
theorem op_gt : OpR X (compareOp .Gt) (rI0 fun i j => .bl (decide (j < i))) := opB0 fun _ _ _ _ _ _ _ q => gt_int q
theorem op_ge : OpR X (compareOp .GtE) (rI0 fun i j => .bl (decide (j ≤ i))) := opB0 fun _ _ _ _ _ _ _ q => ge_int q
theorem op_in_str : OpR X (compareOp .In) (fun x y H Q => ∃ i j, x = .str i ∧ y = .str j ∧ Q (.bl (!(Builtin.Str.occurrences j i 0 j.length 1).isEmpty)) H) := by
  intro pins s σ H x y v u Q I rx ry h
  obtain ⟨i, j, rfl, rfl, q⟩ := h
  obtain ⟨t, rfl⟩ := rx
  obtain ⟨t', rfl⟩ := ry
  exact in_str (fin_bl I q rfl)
theorem op_isN : OpR X (compareOp .Is) (fun x y H Q => y = .non ∧ Q (.bl (decide (x = .non))) H) := by
  intro pins s σ H x y v u Q I rx ry h
  obtain ⟨rfl, q⟩ := h
  cases ry
  refine is_none_gen (fin_bl I q ?_)
  cases x <;> first
    | (cases rx; rfl)
    | (obtain ⟨t, rfl⟩ := rx; rfl)
theorem OpR.or {f : Value → Value → Sem Value} {r r' : R2} (h : OpR X f r) (h' : OpR X f r') : OpR X f (fun x y H Q => r x y H Q ∨ r' x y H Q) := by
  intro pins s σ H x y v u Q I rx ry q
  rcases q with q | q
  · exact h pins s σ H x y v u Q I rx ry q
  · exact h' pins s σ H x y v u Q I rx ry q
theorem nomark (b : Expr) {op : CmpOp} (h : op ≠ .In := by decide) (h2 : op ≠ .NotIn := by decide) : behindInMarks op b = false := by
  have e1 : (op == CmpOp.In) = false := by cases op <;> first | rfl | exact absurd rfl h
  have e2 : (op == CmpOp.NotIn) = false := by cases op <;> first | rfl | exact absurd rfl h2
  cases b <;> simp [behindInMarks, e1, e2]
theorem pe_cmpR {op : CmpOp} {r : R2} (ho : OpR X (compareOp op) r) (ha : PE X a ta) (hb : PE X b tb) (hm : behindInMarks op b = false) : PE X (.Compare a [op] [b] pos) (tOp r ta tb) := by
  intro pins s σ H Q I h
  exact wpAny_Compare1 (binT ha hb I h fun v u s2 x y H2 I2 rx ry q => ho pins s2 σ H2 x y v u Q I2 rx ry q) hm
inductive tTest_P (Q : (Bool → Hp → Prop)) (x : V) (H' : Hp) : Prop
  | mk (k : _) (h1 : x = .bl k) (h2 : Q k H') : tTest_P Q x H'
noncomputable def tTest (t : TE) : TT := fun σ H Q => t σ H fun x H' => tTest_P Q x H'
theorem pt_cmpR {op : CmpOp} {r : R2} (ho : OpR X (compareOp op) r) (ha : PE X a ta) (hb : PE X b tb) (hm : behindInMarks op b = false) : PT X (.Compare a [op] [b] pos) (tTest (tOp r ta tb)) := by
  intro pins s σ H Q I h
  refine wpAny_isTrue_Compare1 (thn (ha pins s σ H _ I h) fun v s1 ⟨x, H1, I1, r1, q1⟩ => thn (hb pins s1 σ H1 _ I1 q1) fun u s2 ⟨y, H2, I2, r2, q2⟩ =>
    thn (ho pins s2 σ H2 x y v u _ I2 r1 r2 q2) fun c s3 ⟨z, H3, I3, r3, k, e, q3⟩ => ?_) hm
  subst e
  cases r3
  exact wpAny_truthy_bool ⟨H3, I3, q3⟩
noncomputable def tChain (r r' : R2) (ta tb tc : TE) : TE := fun σ H Q => ta σ H fun x H1 => tb σ H1 fun y H2 => r x y H2 fun z H3 => ∃ k, z = .bl k ∧
  (if k = true then tc σ H3 fun w' H4 => r' y w' H4 Q else Q (.bl false) H3)
theorem pe_chain {op op' : CmpOp} {r r' : R2} (ho : OpR X (compareOp op) r) (ho' : OpR X (compareOp op') r') (ha : PE X a ta) (hb : PE X b tb) (hc : PE X c tc)
    (hm : lastMarks [op, op'] [b, c] = false := by with_unfolding_all rfl) : PE X (.Compare a [op, op'] [b, c] pos) (tChain r r' ta tb tc) := by
  intro pins s σ H Q I h
  refine Compare_chain (thn (ha pins s σ H _ I h) fun v s1 ⟨x, H1, I1, r1, q1⟩ => chain_link (thn (hb pins s1 σ H1 _ I1 q1) fun u s2 ⟨y, H2, I2, r2, q2⟩ =>
    thn (ho pins s2 σ H2 x y v u _ I2 r1 r2 q2) fun d s3 ⟨z, H3, I3, r3, k, e, q3⟩ => ?_)) hm
  subst e
  cases r3
  refine wpAny_truthy_bool ?_
  cases k with
  | false => exact ite_ff ⟨.bl false, H3, I3, rfl, q3⟩
  | true => exact ite_tt (chain_last (thn (hc pins s3 σ H3 _ I3 q3) fun w' s4 ⟨z', H4, I4, r4, q4⟩ => ho' pins s4 σ H4 y z' u w' Q I4 r2 r4 q4))
theorem pt_chain {op op' : CmpOp} {r r' : R2} (ho : OpR X (compareOp op) r) (ho' : OpR X (compareOp op') r') (ha : PE X a ta) (hb : PE X b tb) (hc : PE X c tc)
    (hm : lastMarks [op, op'] [b, c] = false := by with_unfolding_all rfl) : PT X (.Compare a [op, op'] [b, c] pos) (tTest (tChain r r' ta tb tc)) := by
  intro pins s σ H Q I h
  refine isTrue_chain (thn (ha pins s σ H _ I h) fun v s1 ⟨x, H1, I1, r1, q1⟩ => test_link (thn (hb pins s1 σ H1 _ I1 q1) fun u s2 ⟨y, H2, I2, r2, q2⟩ =>
    thn (ho pins s2 σ H2 x y v u _ I2 r1 r2 q2) fun d s3 ⟨z, H3, I3, r3, k, e, q3⟩ => ?_)) hm
  subst e
  cases r3
  refine wpAny_truthy_bool ?_
  cases k with
  | false =>
    obtain ⟨k', e', q'⟩ := q3
    cases e'
    exact ite_ff ⟨H3, I3, q'⟩
  | true =>
    refine ite_tt (test_last (thn (hc pins s3 σ H3 _ I3 q3) fun w' s4 ⟨z', H4, I4, r4, q4⟩ => thn (ho' pins s4 σ H4 y z' u w' _ I4 r2 r4 q4) fun d' s5 zz_ => ?_))
    obtain ⟨z2, H5, I5, r5, k2, e2, q5⟩ := zz_
    subst e2
    cases r5
    exact wpAny_truthy_bool ⟨H5, I5, q5⟩
theorem line63 : (sizeLine : Nat) < 2 ^ 63 := by rw [sizeLine_eq]; decide
theorem op_add_str : OpR X (binaryOp .Add) (fun x y H Q => ∃ i j, x = .str i ∧ y = .str j ∧ i.length + j.length ≤ sizeLine ∧ Q (.str (i ++ j)) H) := by
  intro pins s σ H x y v u Q I rx ry h
  obtain ⟨i, j, rfl, rfl, hz, q⟩ := h
  obtain ⟨t, rfl⟩ := rx
  obtain ⟨t', rfl⟩ := ry
  exact add_str (fun t' tk => ⟨.str (i ++ j), H, I.tok _, ⟨_, rfl⟩, q⟩) hz
theorem vals1 {x : V} {us : List Value} (r : Vals [x] us) : ∃ u, us = [u] ∧ RelV x u := by
  cases r with
  | cons r1 r2 => cases r2; exact ⟨_, rfl, r1⟩
theorem vals2 {x y : V} {us : List Value} (r : Vals [x, y] us) : ∃ u w', us = [u, w'] ∧ RelV x u ∧ RelV y w' := by
  cases r with
  | cons r1 r2 =>
    cases r2 with
    | cons r3 r4 => cases r4; exact ⟨_, _, rfl, r1, r3⟩
theorem call_abs : CallR X (.builtin "abs") (fun xs H Q => ∃ i, xs = [.int i] ∧ Q (.int (if i < 0 then -i else i)) H) := by
  intro pins s σ H xs us Q I r h
  obtain ⟨i, rfl, q⟩ := h
  obtain ⟨u, rfl, t, rfl⟩ := vals1 r
  exact call_abs_int fun u tk => ⟨.int (if i < 0 then -i else i), H, I.tok _, ⟨_, rfl⟩, q⟩
theorem call_max2 (hc : X.calm = true) : CallR X (.builtin "max") (fun xs H Q => ∃ i j, xs = [.int i, .int j] ∧ Q (.int (if j > i then j else i)) H) := by
  intro pins s σ H xs us Q I r h
  obtain ⟨i, j, rfl, q⟩ := h
  obtain ⟨u, w', rfl, ⟨t, rfl⟩, ⟨t', rfl⟩⟩ := vals2 r
  refine max_two_ints (I.ok.hd hc) fun h' tk k => ⟨_, H, I.kept k, ?_, q⟩
  by_cases hj : j > i
  · rw [if_pos hj, if_pos hj]; exact ⟨_, rfl⟩
  · rw [if_neg hj, if_neg hj]; exact ⟨_, rfl⟩
theorem call_min2 (hc : X.calm = true) : CallR X (.builtin "min") (fun xs H Q => ∃ i j, xs = [.int i, .int j] ∧ Q (.int (if j < i then j else i)) H) := by
  intro pins s σ H xs us Q I r h
  obtain ⟨i, j, rfl, q⟩ := h
  obtain ⟨u, w', rfl, ⟨t, rfl⟩, ⟨t', rfl⟩⟩ := vals2 r
  refine min_two_ints (I.ok.hd hc) fun h' tk k => ⟨_, H, I.kept k, ?_, q⟩
  by_cases hj : j < i
  · rw [if_pos hj, if_pos hj]; exact ⟨_, rfl⟩
  · rw [if_neg hj, if_neg hj]; exact ⟨_, rfl⟩
theorem call_int1 : CallR X (.type "int") (fun xs H Q => (∃ i, xs = [.int i] ∧ Q (.int i) H) ∨ ∃ k, xs = [.bl k] ∧ Q (.int (if k then 1 else 0)) H) := by
  intro pins s σ H xs us Q I r h
  rcases h with ⟨i, rfl, q⟩ | ⟨k, rfl, q⟩
  · obtain ⟨u, rfl, t, rfl⟩ := vals1 r
    exact call_int_int ⟨.int i, H, I, ⟨_, rfl⟩, q⟩
  · obtain ⟨u, rfl, r1⟩ := vals1 r
    cases r1
    exact call_int_bool ⟨.int (if k then 1 else 0), H, I.tok _, ⟨_, rfl⟩, q⟩
theorem call_str_int : CallR X (.type "str") (fun xs H Q => ∃ i, xs = [.int i] ∧ i.natAbs.log2 < 1920 ∧ Q (.str (toString i)) H) := by
  intro pins s σ H xs us Q I r h
  obtain ⟨i, rfl, hz, q⟩ := h
  obtain ⟨u, rfl, t, rfl⟩ := vals1 r
  exact PySem.P.str_of_int hz ⟨.str _, H, I.tok _, ⟨_, rfl⟩, q⟩
noncomputable def LenV (K : PySem.W.Frag) (x : V) (H : Hp) (n : Nat) : Prop :=
  match x with
  | .str y => y.length ≤ sizeLine ∧ n = y.length
  | .byt y => y.size ≤ sizeLine ∧ n = y.size
  | .ref p => (∃ xs, SqL K H p xs ∧ n = xs.length) ∨ ∃ xs, SqT K H p xs ∧ n = xs.length
  | _ => False
theorem call_len : CallR X (.builtin "len") (fun xs H Q => ∃ x n, xs = [x] ∧ LenV X.K x H n ∧ Q (.int n) H) := by
  intro pins s σ H xs us Q I r h
  obtain ⟨x, n, rfl, e, q⟩ := h
  obtain ⟨u, rfl, rx⟩ := vals1 r
  have hl := line63
  have hs : sizeLine = 16777216 := sizeLine_eq
  cases x with
  | str y =>
    obtain ⟨t, rfl⟩ := rx
    obtain ⟨hy, e'⟩ : y.length ≤ sizeLine ∧ n = y.length := e
    subst e'
    exact len_str (by omega) ⟨.int _, H, I.tok _, ⟨_, rfl⟩, q⟩
  | byt y =>
    obtain ⟨t, rfl⟩ := rx
    obtain ⟨hy, e'⟩ : y.size ≤ sizeLine ∧ n = y.size := e
    subst e'
    exact PySem.W.len_bytes (by omega) ⟨.int _, H, I.tok _, ⟨_, rfl⟩, q⟩
  | ref p =>
    cases rx
    have e' : (∃ xs, SqL X.K H p xs ∧ n = xs.length) ∨ ∃ xs, SqT X.K H p xs ∧ n = xs.length := e
    rcases e' with ⟨xs, hx, e'⟩ | ⟨xs, hx, e'⟩
    · subst e'
      obtain ⟨its, r', pl, hz⟩ := I.list hx
      have hlen := r'.length
      exact Calls.call_len_list pl.isList (by simp only [List.size_toArray]; omega) ⟨.int xs.length, H, I.tok _, ⟨_, by simp only [List.size_toArray]; rw [hlen]⟩, q⟩
    · subst e'
      obtain ⟨its, r', pl, hz⟩ := I.tuple hx
      have hlen := r'.length
      exact len_tuple pl (by simp only [List.size_toArray]; omega) ⟨.int xs.length, H, I.tok _, ⟨_, by simp only [List.size_toArray]; rw [hlen]⟩, q⟩
  | _ => exact (show False from e).elim
end
end L2
namespace L2
open PySem PySem.Spec PyProof.Rows
structure ObjM (h : Heap) (x dx C : Addr) (mA : Str → Option Value) : Prop where
  obj : h.get? x = some (PySem.W.instObj C dx)
  ns : h.Ns1 dx mA
  ne : dx ≠ x
theorem lookIn_ns {h : Heap} {dx : Addr} {mA : Str → Option Value} (n : h.Ns1 dx mA) : ∃ od, h.get? dx = some od ∧ ∀ name, PySem.W.lookIn name od = some (mA name) := by
  obtain ⟨o, es, ep, ho, hd, hk, _, hm⟩ := n
  refine ⟨o, ho, fun name => ?_⟩
  have e := hm name
  unfold nsFind findBy at e
  rw [← Array.find?_toList] at e
  unfold PySem.W.lookIn
  rw [hd]
  dsimp only
  split
  · rename_i y q
    rw [q] at e
    exact congrArg some e
  · rename_i q
    rw [q] at e
    have a : es.toList.any (·.refKey) = false := by
      rw [List.any_eq_false]
      intro y hy
      obtain ⟨z, t, hkey⟩ := hk y (Array.mem_toList_iff.mp hy)
      simp [DictEntry.refKey, hkey]
    have a' : ¬ es.toList.any (·.refKey) = true := by rw [a]; exact Bool.false_ne_true
    rw [if_neg a']
    exact congrArg some e
theorem ObjM.look {h : Heap} {x dx C : Addr} {mA : Str → Option Value} (I : ObjM h x dx C mA) : ∃ od, PySem.W.InstAt h x (PySem.W.instObj C dx) C (some od) ∧ ∀ name, PySem.W.lookIn name od = some (mA name) :=
  let ⟨od, ho, hl⟩ := lookIn_ns I.ns
  ⟨od, ⟨I.obj, rfl, rfl, ho⟩, hl⟩
section
variable {prog : Program} {w : World} {A : Around} {E : Value → Shared → Prop} {s : Shared} {K : PySem.W.Frag} {x dx C f : Addr} {mA : Str → Option Value} {name : Str} {v : Value}
theorem set_map {ns : List Str} {Q : Unit → Shared → Prop} (X : K.In s.heap) (I : ObjM s.heap x dx C mA)
    (hs : PySem.W.findIn K (.ref C) "__setattr__" = some (some (.builtin "object.__setattr__"))) (hp : PySem.W.plainOver K C = true) (ht : PySem.W.takerIn K C name = some none) (hh : PySem.W.hasDictIn K C = true)
    (hw : PySem.Within mA ns) (hsz : ns.length ≤ sizeLine)
    (h : ∀ h', ObjM h' x dx C (fun y => if y = name then some v else mA y) → Heap.SameBut dx s.heap h' → Q () { s with heap := h', toks := s.toks + 2 }) :
    wpAny (model prog w) A (setAttr (.ref x) name v) Q E s := by
  obtain ⟨od, J, hl⟩ := I.look
  refine PySem.W.set_plain X J hs (PySem.W.osa_open (s := { s with toks := s.toks + 1 }) (r := none) X J hp ht fun b => ?_)
  obtain ⟨cd, hc, hd'⟩ := PySem.W.any_some hh
  have hx : s.heap.get? x = some ⟨.ref C, some dx, .plain, #[]⟩ := I.obj
  refine wpAny_bind (wpAny_pure (wpAny_bind (wpAny_bind (wpAny_loadPart hx (wpAny_bind (PySem.W.Looks.here (s := { s with toks := s.toks + 1 }) (PySem.W.looks_clsIn X hc) ?_))))))
  rw [hd']
  refine wpAny_pure (a := some dx) (wpAny_bind (wpAny_pure (wpAny_bind ?_)))
  refine wpAny_nsSet1 (s := { s with toks := s.toks + 1 }) I.ns fun h' hn2 hs2 => ?_
  obtain ⟨oD, esD, epD, hoD, hdD, hcD⟩ := hn2.count (PySem.Within.cons name v hw)
  refine wpAny_bind (wpAny_lookBehind hoD (by rw [hdD]; exact pastItsLine_dict (Nat.le_trans hcD (by rw [List.length_cons]; omega))) ?_)
  exact wpAny_pure (h _ ⟨(hs2.2 _ (Ne.symm I.ne)).trans I.obj, hn2, I.ne⟩ hs2)
theorem make_map {R : Result → Shared → Prop} {vs : List Value} {kw : List (Str × Value)} (X : K.In s.heap) (hm : PySem.W.makesIn K C = true)
    (hi : PySem.W.findIn K (.ref C) "__init__" = some (some (.ref f))) (hf : PySem.W.typeIn K (.ref f) = some (.type "function"))
    (h : codeAny (model prog w) (A.under (.builtin "type.__call__" ⟨.ref C :: vs, kw⟩)) (.call (.ref f) ⟨.ref (s.heap.objs.size + 1) :: vs, kw⟩) (PySem.W.InitBack (s.heap.objs.size + 1) R)
      { s with heap := (s.heap.push PySem.W.emptyDict).push (PySem.W.instObj C s.heap.objs.size) }) :
    codeAny (model prog w) A (.call (.ref C) ⟨vs, kw⟩) R s := by
  obtain ⟨hh, g, d, t, os⟩ := s
  exact PySem.W.make_core (PySem.W.makes_of X hm) (PySem.W.looks_findIn X hi) (fun self => PySem.W.bind_fn X self hf) (.inl rfl) h
end
noncomputable def putF (f : Str) (v : V) : List (Str × V) → List (Str × V)
  | [] => [(f, v)]
  | (g, x) :: r => if g = f then (g, v) :: r else (g, x) :: putF f v r
theorem lookup_putF (f g : Str) (v : V) : ∀ fs : List (Str × V), (putF f v fs).lookup g = if g = f then some v else fs.lookup g
  | [] => by
    show List.lookup g [(f, v)] = _
    by_cases h : g = f
    · have hb : (g == f) = true := beq_iff_eq.mpr h
      simp only [List.lookup, hb, if_pos h]
    · have hb : (g == f) = false := beq_eq_false_iff_ne.mpr h
      simp only [List.lookup, hb, if_neg h]
  | (k, x) :: r => by
    have ih := lookup_putF f g v r
    rw [show putF f v ((k, x) :: r) = (if k = f then (k, v) :: r else (k, x) :: putF f v r) from rfl]
    by_cases hk : k = f
    · rw [if_pos hk]
      by_cases h : g = k
      · have hb : (g == k) = true := beq_iff_eq.mpr h
        simp only [List.lookup, hb, if_pos (h.trans hk)]
      · have hb : (g == k) = false := beq_eq_false_iff_ne.mpr h
        simp only [List.lookup, hb, if_neg (fun e : g = f => h (e.trans hk.symm))]
    · rw [if_neg hk]
      by_cases h : g = k
      · have hb : (g == k) = true := beq_iff_eq.mpr h
        simp only [List.lookup, hb, if_neg (fun e : g = f => hk (h.symm.trans e))]
      · have hb : (g == k) = false := beq_eq_false_iff_ne.mpr h
        simp only [List.lookup, hb]
        exact ih
theorem keys_putF (f : Str) (v : V) : ∀ fs : List (Str × V), f ∈ (putF f v fs).map (·.1) ∧ ∀ g, g ∈ fs.map (·.1) → g ∈ (putF f v fs).map (·.1)
  | [] => ⟨by simp [putF], fun g h => by simp at h⟩
  | (k, x) :: r => by
    obtain ⟨i1, i2⟩ := keys_putF f v r
    rw [show putF f v ((k, x) :: r) = (if k = f then (k, v) :: r else (k, x) :: putF f v r) from rfl]
    by_cases hk : k = f
    · rw [if_pos hk]
      subst hk
      exact ⟨by simp, fun g h => by simpa using h⟩
    · rw [if_neg hk]
      refine ⟨?_, fun g h => ?_⟩
      · rw [List.map_cons]
        exact List.mem_cons_of_mem _ i1
      · rw [List.map_cons] at h ⊢
        rcases List.mem_cons.mp h with e | e
        · exact List.mem_cons.mpr (.inl e)
        · exact List.mem_cons_of_mem _ (i2 g e)
theorem length_putF (f : Str) (v : V) : ∀ fs : List (Str × V), (putF f v fs).length ≤ fs.length + 1
  | [] => by simp [putF]
  | (k, x) :: r => by
    have ih := length_putF f v r
    rw [show putF f v ((k, x) :: r) = (if k = f then (k, v) :: r else (k, x) :: putF f v r) from rfl]
    by_cases hk : k = f
    · rw [if_pos hk, List.length_cons, List.length_cons]; omega
    · rw [if_neg hk, List.length_cons, List.length_cons]; omega
theorem RelO.some_of {v : V} {o : Option Value} (r : RelO (some v) o) : ∃ u, o = some u ∧ RelV v u := by
  cases o with
  | none => exact (show False from r).elim
  | some u => exact ⟨u, rfl, r⟩
theorem handed_of {v : V} {u : Value} (r : RelV v u) : PySem.W.handedIn u = true := by
  cases v with
  | non => cases (show u = Value.none from r); rfl
  | bl b => cases (show u = Value.bool b from r); rfl
  | int i => obtain ⟨t, e⟩ := (show ∃ t, u = Value.int i t from r); cases e; rfl
  | str x => obtain ⟨t, e⟩ := (show ∃ t, u = Value.str x t from r); cases e; rfl
  | byt b => obtain ⟨t, e⟩ := (show ∃ t, u = Value.bytes b t from r); cases e; rfl
  | flt b => obtain ⟨t, e⟩ := (show ∃ t, u = Value.float b t from r); cases e; rfl
  | ref a => cases (show u = Value.ref a from r); rfl
  | ty n => cases (show u = Value.type n from r); rfl
section
variable {P : Program} {w : World} {H H' : Hp} {h h' : Heap} {a C dx : Addr} {fs fs' : List (Str × V)}
theorem ins_get (hok : HOk P w H h) (e : H a = some (.ins C dx fs)) : ∃ mA, ObjM h a dx C mA ∧ (∀ f, RelO (fs.lookup f) (mA f)) ∧ PySem.Within mA (fs.map (·.1)) ∧ fs.length ≤ 1000 ∧ H dx = some (.own a) := by
  obtain ⟨d, z, ne, ob, mA, n, r, q⟩ := (show ObjOk P w H h a (.ins C dx fs) from hok a _ e)
  exact ⟨mA, ⟨ob, n, ne⟩, r, q, z, d⟩
end
structure Cls (K : PySem.W.Frag) (C : Addr) : Prop where
  pg : PySem.W.plainGet K C Str.empty = true
  hd : PySem.W.hasDictIn K C = true
  po : PySem.W.plainOver K C = true
  sa : PySem.W.findIn K (.ref C) "__setattr__" = some (some (.builtin "object.__setattr__"))
theorem Cls.get {K : PySem.W.Frag} {C : Addr} (c : Cls K C) (f : Str) : PySem.W.plainGet K C f = true := c.pg
noncomputable def NoAttr (K : PySem.W.Frag) (C : Addr) (f : Str) : Prop := PySem.W.findIn K (.ref C) f = some none
theorem NoAttr.taker {K : PySem.W.Frag} {C : Addr} {f : Str} (n : NoAttr K C f) : PySem.W.takerIn K C f = some none := by
  unfold PySem.W.takerIn
  rw [show PySem.W.findIn K (.ref C) f = some none from n]
  rfl
structure Meth (K : PySem.W.Frag) (C : Addr) (m : Str) (f : Addr) : Prop where
  at_ : PySem.W.findIn K (.ref C) m = some (some (.ref f))
  fn : PySem.W.isFn K (.ref f) = true
  kp : PySem.W.keepIn K (.ref f) = true
section
variable {X : Cx} {pins : List (Addr × Obj)} {σ : St} {H : Hp} {s : Shared} {a C dx : Addr} {fs : List (Str × V)} {f : Str} {v : V} {A : Around} {E : Value → Shared → Prop}
theorem setattr_ok {y : V} {u : Value} {Q : Unit → Shared → Prop} (I : Inv X pins σ H s) (e : H a = some (.ins C dx fs)) (c : Cls X.K C) (n : NoAttr X.K C f) (hl : fs.length < 1000) (ry : RelV y u)
    (h : ∀ s', Inv X pins σ (upd H a (.ins C dx (putF f y fs))) s' → Q () s') : wpAny (model X.prog X.w) A (setAttr (.ref a) f u) Q E s := by
  obtain ⟨mA, O, r, wi, _, ho⟩ := ins_get I.hok e
  have hz : (fs.map (·.1)).length ≤ sizeLine := by rw [List.length_map, sizeLine_eq]; omega
  refine set_map I.kIn O c.sa c.po n.taker c.hd wi hz fun h' O' sb => h _ ?_
  have hd : ∃ o, h'.get? dx = some o := let ⟨o, _, _, e', _⟩ := O'.ns; ⟨o, e'⟩
  refine I.write (x := a) (e := dx) (by rw [e]; exact True.intro) (.inr ho) (fun b q hb z => (sb.2 b hb).trans z) hd ?_
  refine ⟨by rw [upd_ne O.ne]; exact ho, ?_, O.ne, O'.obj, _, O'.ns, fun g => ?_, fun g hg => ?_⟩
  · have := length_putF f y fs; omega
  · show RelO ((putF f y fs).lookup g) (if g = f then some u else mA g)
    rw [lookup_putF]
    by_cases q : g = f
    · rw [if_pos q, if_pos q]; exact ry
    · rw [if_neg q, if_neg q]; exact r g
  · by_cases q : g = f
    · rw [q]; exact (keys_putF f y fs).1
    · refine (keys_putF f y fs).2 g (wi g fun z => hg ?_)
      show (if g = f then some u else mA g) = none
      rw [if_neg q]; exact z
theorem Inv.made (I : Inv X pins σ H s) : Inv X pins σ (upd (upd H s.heap.objs.size (.own (s.heap.objs.size + 1))) (s.heap.objs.size + 1) (.ins C s.heap.objs.size []))
    { s with heap := (s.heap.push PySem.W.emptyDict).push (PySem.W.instObj C s.heap.objs.size) } := by
  have e1 : (s.heap.push PySem.W.emptyDict).get? s.heap.objs.size = some PySem.W.emptyDict := Heap.get?_push_size s.heap rfl
  have e2 : ((s.heap.push PySem.W.emptyDict).push (PySem.W.instObj C s.heap.objs.size)).get? (s.heap.objs.size + 1) = some (PySem.W.instObj C s.heap.objs.size) := by
    have := Heap.get?_push_size (s.heap.push PySem.W.emptyDict) (o := PySem.W.instObj C s.heap.objs.size) rfl
    rwa [Heap.size_push] at this
  have e3 : (s.heap.push PySem.W.emptyDict).Ns s.heap.objs.size (fun _ => none) := ⟨PySem.W.emptyDict, #[], _, e1, rfl, (fun e he => absurd he (by simp)), fun _ => rfl⟩
  have I1 := I.laid (a := s.heap.objs.size) (o := .own (s.heap.objs.size + 1)) (h' := s.heap.push PySem.W.emptyDict) (t' := s.toks) (fun b u q => Heap.get?_push_of_some _ q) (Nat.le_refl _) ⟨_, e1⟩
  refine I1.laid (a := s.heap.objs.size + 1) (o := .ins C s.heap.objs.size []) (t' := s.toks) (fun b u q => Heap.get?_push_of_some _ q) (Nat.le_of_eq (Heap.size_push _ _)) ?_
  have ne : s.heap.objs.size ≠ s.heap.objs.size + 1 := Nat.ne_of_lt (Nat.lt_succ_self _)
  refine ⟨by rw [upd_ne ne, upd_same], Nat.zero_le _, ne, e2, fun _ => none, (Heap.Ns1.of_empty e3).at fun o q => Heap.get?_push_of_some _ q, fun _ => True.intro, fun y hy => absurd rfl hy⟩
theorem attr_of {prog : Program} {w : World} {env : Env} {e : Expr} {f : Str} {pos : Pos} {s : Shared} {Q : Value → Shared → Prop} (hb : attributeBase e f env (eval e env) = eval e env)
    (h : wpAny (model prog w) A (eval e env) (fun o s₁ => wpAny (model prog w) A (getAttr o f true) Q E s₁) E s) : wpAny (model prog w) A (eval (.Attribute e f pos) env) Q E s :=
  Attribute_any_ h (by rw [arm_eval_Attribute, hb])
end
noncomputable def sFld (K : PySem.W.Frag) (ta tv : TE) (f : Str) : TS := fun D σ H => tv σ H fun y H1 => ta σ H1 fun x H2 => ∃ a C dx fs, x = .ref a ∧ H2 a = some (.ins C dx fs) ∧ Cls K C ∧ NoAttr K C f ∧ fs.length < 1000 ∧
  D.nx σ (upd H2 a (.ins C dx (putF f y fs)))
section
variable {X : Cx} {o e value : Expr} {f : Str} {pos pos' tpos : Pos} {ta tv : TE}
theorem ps_fld (ha : PE X o ta) (hv : PE X value tv) (hs : swapsWith value (some (.Attribute o f pos')) pos.line X.env = pure false) : PS X (.Assign [.Attribute o f pos'] value pos) (sFld X.K ta tv f) := by
  intro pins s σ H D I h
  refine plainObj_wpAny_Assign_Attribute (thn (hv pins s σ H _ I h) fun u s1 ⟨y, H1, I1, ry, q⟩ => thn (ha pins s1 σ H1 _ I1 q) fun ov s2 zz_ => ?_) hs
  obtain ⟨x, H2, I2, rx, a, C, dx, fs, ex, ea, c, n, l, q2⟩ := zz_
  subst ex
  obtain rfl : ov = Value.ref a := rx
  exact setattr_ok I2 ea c n l ry fun s3 I3 => ⟨σ, _, I3, q2⟩
end
section
variable {X : Cx} {pins : List (Addr × Obj)} {σ : St} {H : Hp} {s : Shared} {A : Around} {E : Value → Shared → Prop} {Q : Value → Shared → Prop} {c : Value} {b : Bool}
inductive TyOf (K : PySem.W.Frag) (H : Hp) : V → Value → Prop where
  | non : TyOf K H .non (.type "NoneType")
  | bl (x : Bool) : TyOf K H (.bl x) (.type "bool")
  | int (i : Int) : TyOf K H (.int i) (.type "int")
  | str (x : Str) : TyOf K H (.str x) (.type "str")
  | flt (x : UInt64) : TyOf K H (.flt x) (.type "float")
  | lst {a : Addr} {xs : List V} (e : H a = some (.lst xs)) : TyOf K H (.ref a) (.type "list")
  | frz {a : Addr} {o : Obj} {xs : List V} (e : H a = some (.frz o (.lst xs))) : TyOf K H (.ref a) (.type "list")
  | tup {a : Addr} {xs : List V} (e : H a = some (.tup xs)) : TyOf K H (.ref a) (.type "tuple")
  | dK {a : Addr} {kvs : List (Key × V)} (e : H a = some (.dK kvs)) : TyOf K H (.ref a) (.type "dict")
  | dT {a : Addr} {kvs : List (List Key × V)} (e : H a = some (.dT kvs)) : TyOf K H (.ref a) (.type "dict")
  | ins {a C dx : Addr} {fs : List (Str × V)} (e : H a = some (.ins C dx fs)) (cl : Cls K C) (ha : PySem.W.findIn K (.ref C) "__class__" = some (some (.builtin "object.__class__")))
      (hn : PySem.W.specialIn K (.builtin "object.__class__") "__get__" = some (some (.builtin "getset_descriptor.__get__"))) (htk : PySem.W.takesIn K (.builtin "object.__class__") = some true)
      (hm : PySem.W.mroIn K C (.type "object") = some true) : TyOf K H (.ref a) (.ref C)
theorem isinst_ok {x : V} {u t : Value} (I : Inv X pins σ H s) (rx : RelV x u) (ty : TyOf X.K H x t) (e : PySem.W.kitOne X.K t c = some b) (h : ∀ tk, Q (.bool b) { s with toks := tk }) :
    wpAny (model X.prog X.w) A (call (.builtin "isinstance") [u, c]) Q E s := by
  cases ty with
  | non => cases (show u = Value.none from rx); exact PySem.W.kia_one PySem.W.kitx_none I.kIn True.intro e (fun z => nomatch z) h
  | bl y => cases (show u = Value.bool y from rx); exact PySem.W.kia_one PySem.W.kitx_bool I.kIn True.intro e (fun z => nomatch z) h
  | int i => obtain ⟨t, q⟩ := (show ∃ t, u = Value.int i t from rx); cases q; exact PySem.W.kia_one PySem.W.kitx_int I.kIn True.intro e (fun z => nomatch z) h
  | str y => obtain ⟨t, q⟩ := (show ∃ t, u = Value.str y t from rx); cases q; exact PySem.W.kia_one PySem.W.kitx_str I.kIn True.intro e (fun z => nomatch z) h
  | flt y => obtain ⟨t, q⟩ := (show ∃ t, u = Value.float y t from rx); cases q; exact PySem.W.kia_one PySem.W.kitx_float I.kIn True.intro e (fun z => nomatch z) h
  | @lst a xs ea =>
    cases (show u = Value.ref a from rx)
    obtain ⟨_, _, n, _, h1⟩ := (show ObjOk X.prog X.w H s.heap a (.lst xs) from I.hok a _ ea)
    exact PySem.W.kia_one PySem.W.kitx_list I.kIn ⟨_, h1, rfl⟩ e (fun z => nomatch z) h
  | @frz a ob xs ea =>
    cases (show u = Value.ref a from rx)
    obtain ⟨_, _, _, n, _, h1⟩ := (show ObjOk X.prog X.w H s.heap a (.frz ob (.lst xs)) from I.hok a _ ea)
    exact PySem.W.kia_one PySem.W.kitx_list I.kIn ⟨_, h1, rfl⟩ e (fun z => nomatch z) h
  | @tup a xs ea =>
    cases (show u = Value.ref a from rx)
    obtain ⟨_, _, _, p⟩ := (show ObjOk X.prog X.w H s.heap a (.tup xs) from I.hok a _ ea)
    obtain ⟨o, h1, h2, _⟩ := p
    exact PySem.W.kia_one PySem.W.kitx_tuple I.kIn ⟨o, h1, h2⟩ e (fun z => nomatch z) h
  | @dK a kvs ea =>
    cases (show u = Value.ref a from rx)
    obtain ⟨_, _, vs, _, p⟩ := (show ObjOk X.prog X.w H s.heap a (.dK kvs) from I.hok a _ ea)
    obtain ⟨o, es, ep, h1, h2, _⟩ := p
    exact PySem.W.kia_one PySem.W.kitx_dict I.kIn ⟨o, h1, h2.1⟩ e (fun z => nomatch z) h
  | @dT a kvs ea =>
    cases (show u = Value.ref a from rx)
    obtain ⟨_, _, xs, _, o, es, ep, h1, h2, _⟩ := (show ObjOk X.prog X.w H s.heap a (.dT kvs) from I.hok a _ ea)
    exact PySem.W.kia_one PySem.W.kitx_dict I.kIn ⟨o, h1, h2.1⟩ e (fun z => nomatch z) h
  | @ins a C dx fs ea cl ha hn htk hm =>
    cases (show u = Value.ref a from rx)
    obtain ⟨mA, O, _⟩ := ins_get I.hok ea
    obtain ⟨od, J, _⟩ := O.look
    exact PySem.W.kia_one (PySem.W.kitx_own (cl.get _) cl.hd ha hn htk hm) I.kIn J e (fun z => nomatch z) h
end
end L2
namespace L2
open PySem PySem.Spec PyProof.Rows
structure Room (k : Nat) (A : Around) : Prop where
  hd : A.handled = none
  dp : A.depth + 3 * k + 5 < recursionLimit
  un : A.units + 16 * k + 200 < cLine
  gd : A.guards = some []
theorem Room.mono {j k : Nat} {A : Around} (r : Room k A) (h : j ≤ k) : Room j A := ⟨r.hd, by have := r.dp; omega, by have := r.un; omega, r.gd⟩
theorem Room.deeper {k : Nat} {A : Around} (r : Room (k + 1) A) (env : Env) : Room k (A.deeper env) :=
  ⟨r.hd, by have := r.dp; show A.depth + 1 + 3 * k + 5 < _; omega, by have := r.un; show A.units + 3 + 16 * k + 200 < _; omega, r.gd⟩
theorem make_depth {A : Around} {C : Addr} {us : List Value} {kw : List (Str × Value)} : (A.under (.builtin "type.__call__" ⟨.ref C :: us, kw⟩)).depth = A.depth + 1 := by
  first | rfl | simp [Around.under, Code.weight, Code.isCreation, Code.isGuard, Code.isCaller, Code.frames, Code.isFrame, guardIds]
theorem make_units {A : Around} {C : Addr} {us : List Value} {kw : List (Str × Value)} : (A.under (.builtin "type.__call__" ⟨.ref C :: us, kw⟩)).units = A.units + 1 := by
  first | rfl | simp [Around.under, Code.cUnits, Code.frames, Code.isFrame]
theorem Room.make {k : Nat} {A : Around} (r : Room (k + 1) A) (C : Addr) (us : List Value) (kw : List (Str × Value)) : Room k (A.under (.builtin "type.__call__" ⟨.ref C :: us, kw⟩)) :=
  ⟨r.hd, by have := r.dp; rw [make_depth]; omega, by have := r.un; rw [make_units]; omega, r.gd⟩
theorem Room.depth {k : Nat} {A : Around} (r : Room k A) : A.depth < recursionLimit := by have := r.dp; omega
theorem Room.units {k : Nat} {A : Around} (r : Room k A) : A.units + 64 < cLine := by have := r.un; omega
noncomputable def tNil : TA := fun _ H Q => Q [] H
noncomputable def tCons (ta : TE) (tr : TA) : TA := fun σ H Q => ta σ H fun x H1 => tr σ H1 fun xs H2 => Q (x :: xs) H2
section
variable {X : Cx} {e : Expr} {es : List Expr} {te : TE} {t : TA} {pos : Pos}
theorem pa_nil : PA X [] tNil := fun _ _ _ _ H Q I h => Calls.spliced_nil ⟨[], H, I, .nil, h⟩
theorem pa_cons (ha : PE X e te) (hr : PA X es t) (hs : starEach (e :: es) X.env = (false, eval e X.env) :: starEach es X.env := by rfl) : PA X (e :: es) (tCons te t) := by
  intro pos pins s σ H Q I h
  rw [hs]
  show wpAny _ _ (spliced ((false, eval e X.env) :: backTo pos (starEach es X.env))) _ _ s
  refine Calls.spliced_cons (thn (ha pins s σ H _ I h) fun u s1 zz_ => ?_)
  obtain ⟨x, H1, I1, r1, q1⟩ := zz_
  exact thn (hr pos pins s1 σ H1 _ I1 q1) fun us s2 ⟨xs, H2, I2, r2, q2⟩ => ⟨x :: xs, H2, I2, .cons r1 r2, q2⟩
noncomputable def tTup (t : TA) : TE := fun σ H Q => t σ H fun xs H1 => xs.length ≤ sizeLine ∧ ∀ p, H1 p = none → Q (.ref p) (upd H1 p (.tup xs))
noncomputable def tLst (t : TA) : TE := fun σ H Q => t σ H fun xs H1 => xs.length ≤ sizeLine ∧ ∀ p, H1 p = none → Q (.ref p) (upd H1 p (.lst xs))
theorem pe_tup {x1} (h : PA X es t) : PE X (.Tuple es x1 pos) (tTup t) := by
  intro pins s σ H Q I hq
  refine wpAny_Tuple_spliced (thn (h pos pins s σ H _ I hq) fun us s1 ⟨xs, H1, I1, r, z, q⟩ => ⟨by rw [← r.length]; exact z, ?_⟩)
  have hf : H1 s1.heap.objs.size = none := I1.hok.fresh (Nat.le_refl _)
  refine ⟨.ref s1.heap.objs.size, upd H1 s1.heap.objs.size (.tup xs), I1.laid (t' := s1.toks) (fun b u e => Heap.get?_push_of_some _ e) (Nat.le_refl _) ?_, rfl, q _ hf⟩
  exact ⟨z, us, r, ⟨_, Heap.get?_push_size _ rfl, rfl, _, rfl⟩⟩
theorem pe_lst (h : PA X es t) : PE X (.List es pos) (tLst t) := by
  intro pins s σ H Q I hq
  refine wpAny_List_spliced (thn (h pos pins s σ H _ I hq) fun us s1 ⟨xs, H1, I1, r, z, q⟩ => ⟨by rw [← r.length]; exact z, ?_⟩)
  have hf : H1 s1.heap.objs.size = none := I1.hok.fresh (Nat.le_refl _)
  refine ⟨.ref s1.heap.objs.size, upd H1 s1.heap.objs.size (.lst xs), I1.laid (t' := s1.toks) (fun b u e => Heap.get?_push_of_some _ e) (Nat.le_refl _) ?_, rfl, q _ hf⟩
  exact ⟨z, us, 0, r, Heap.get?_push_size _ rfl⟩
end
noncomputable abbrev Sp := List V → Hp → VK → XK → Prop
noncomputable abbrev CXT := List Env → Hp → Shared → XK → Value → Shared → Prop
structure Env0 (P : Program) (w : World) (K : PySem.W.Frag) (mg : Str → Option Value) (base : Heap) (A : Around) (outer : List Env) (s : Shared) (H : Hp) : Prop where
  frames : A.frames = some outer
  mod : Mod K mg base
  bs : ∀ b o, base.get? b = some o → s.heap.get? b = some o ∧ H b = none
  bsz : base.objs.size ≤ s.heap.objs.size
  funs : s.heap.FunFrames base outer
  frf : ∀ b ∈ frs outer, H b = none
  hok : HOk P w H s.heap
  bare : AllBare s.gens
noncomputable def CE (outer : List Env) (P : Program) (w : World) (H : Hp) (s : Shared) (Q : VK) (u : Value) (s' : Shared) : Prop :=
  ∃ v H', s'.os = s.os ∧ AllBare s'.gens ∧ Un (frs outer) [] H H' s.heap s'.heap ∧ HOk P w H' s'.heap ∧ RelV v u ∧ Q v H'
noncomputable def CR (CX : CXT) (outer : List Env) (P : Program) (w : World) (H : Hp) (s : Shared) (Q : VK) (E : XK) (r : Result) (s' : Shared) : Prop :=
  match r with
  | .ok (.ret u) => CE outer P w H s Q u s'
  | .ok _ => False
  | .error e => CX outer H s E e s'
structure FnOk (P : Program) (w : World) (K : PySem.W.Frag) (mg : Str → Option Value) (base : Heap) (CX : CXT) (k : Nat) (f : Addr) (fd : FuncData) (ps : List Str) (sp : Sp) : Prop where
  len : ∀ vs H Q E, sp vs H Q E → vs.length = ps.length
  run : ∀ (A : Around) (outer : List Env) (s : Shared) (H : Hp) (args : Args) (us : List Value) (vs : List V) (Q : VK) (E : XK), Room k A → Env0 P w K mg base A outer s H → BindsTo s fd args (ps.zip us) → Vals vs us → sp vs H Q E →
    codeAny (model P w) A (.call (.ref f) args) (CR CX outer P w H s Q E) s
theorem Env0.make {P : Program} {w : World} {K : PySem.W.Frag} {mg : Str → Option Value} {base : Heap} {A : Around} {outer : List Env} {s : Shared} {H : Hp} (e : Env0 P w K mg base A outer s H) (C : Addr) (us : List Value) (kw : List (Str × Value)) :
    Env0 P w K mg base (A.under (.builtin "type.__call__" ⟨.ref C :: us, kw⟩)) outer s H := ⟨by first | exact e.frames | (simpa [Around.under, Code.envs, Code.isFrame, pushEnvs] using e.frames), e.mod, e.bs, e.bsz, e.funs, e.frf, e.hok, e.bare⟩
section
variable {X : Cx} {pins : List (Addr × Obj)} {σ : St} {H : Hp} {s s' : Shared}
theorem Inv.env0 (I : Inv X pins σ H s) : Env0 X.prog X.w X.K X.mg X.base X.A X.stack s H :=
  ⟨I.ok.frames, I.ok.mod, I.bs, Nat.le_trans I.ok.bsz I.sz, I.stack, I.stkFree, I.hok, I.bare⟩
theorem Inv.after {Q : VK} {u : Value} (I : Inv X pins σ H s) (h : CE X.stack X.prog X.w H s Q u s') : EP X pins σ Q u s' := by
  obtain ⟨v, H', os, bare, un, hok, r, q⟩ := h
  obtain ⟨hh, g, d, t, os'⟩ := s'
  obtain rfl : os' = s.os := os
  exact ⟨v, H', I.call (h' := hh) (g' := g) (d' := d) (t' := t) (ch := []) un hok bare (fun b z => absurd z (by simp)), r, q⟩
end
noncomputable def tCall (sp : Sp) (dvs : List V) (E : XK) (t : TA) : TE := fun σ H Q => t σ H fun vs H1 => sp (vs ++ dvs) H1 Q E
noncomputable def tMake (C : Addr) (sp : Sp) (dvs : List V) (E : XK) (t : TA) : TE := fun σ H Q => t σ H fun vs H1 => ∀ x dx, H1 x = none → H1 dx = none → dx ≠ x →
  sp (.ref x :: (vs ++ dvs)) (upd (upd H1 dx (.own x)) x (.ins C dx [])) (fun v H2 => v = .non ∧ Q (.ref x) H2) E
noncomputable def Binds (K : PySem.W.Frag) (fd : FuncData) (ps : List Str) (ds : List Value) : Prop :=
  ∀ (s : Shared) (us : List Value), K.In s.heap → (us ++ ds).length = ps.length → BindsTo s fd ⟨us, []⟩ (ps.zip (us ++ ds))
theorem Binds.all {K : PySem.W.Frag} {fd : FuncData} {ps : List Str} (h : ∀ us : List Value, us.length = ps.length → bindArgs fd ⟨us, []⟩ = pure (ps.zip us)) : Binds K fd ps [] := fun s us _ hl => by
  rw [List.append_nil] at hl ⊢
  exact .of_eq (h us hl)
noncomputable def Passes (CX : CXT) (X : Cx) (E : XK) : Prop := ∀ (pins : List (Addr × Obj)) (σ : St) (H : Hp) (s : Shared) (e : Value) (s' : Shared), Inv X pins σ H s → CX X.stack H s E e s' → X.xe e s'
section
variable {X : Cx} {CX : CXT} {k : Nat} {f C : Addr} {fd : FuncData} {ps : List Str} {sp : Sp} {dvs : List V} {ds : List Value} {E : XK} {x m : Str} {p pos apos : Pos} {e o : Expr} {es : List Expr} {ta : TE} {t : TA}
theorem run_fn {pins : List (Addr × Obj)} {σ : St} {H : Hp} {s : Shared} {Q : VK} {us : List Value} {vs : List V} (F : FnOk X.prog X.w X.K X.mg X.base CX k f fd ps sp) (hr : Room k X.A) (hb : Binds X.K fd ps ds) (hd : Vals dvs ds) (hx : Passes CX X E)
    (I : Inv X pins σ H s) (r : Vals vs us) (h : sp (vs ++ dvs) H Q E) : wpAny (model X.prog X.w) X.A (call (.ref f) us) (EP X pins σ Q) X.xe s := by
  have r2 : Vals (vs ++ dvs) (us ++ ds) := r.append hd
  have hl : (us ++ ds).length = ps.length := by rw [← r2.length]; exact F.len _ _ _ _ h
  refine wpAny_call (codeAny_mono (F.run X.A X.stack s H ⟨us, []⟩ (us ++ ds) (vs ++ dvs) Q E hr I.env0 (hb s us I.kIn hl) r2 h) fun r s' hq => ?_)
  cases r with
  | error e => exact hx pins σ H s e s' I hq
  | ok fl =>
    cases fl with
    | ret u => exact I.after hq
    | next => exact False.elim hq
    | brk => exact False.elim hq
    | cont => exact False.elim hq
theorem pe_call (F : FnOk X.prog X.w X.K X.mg X.base CX k f fd ps sp) (hr : Room k X.A) (hg : Gl X x) (hm : X.mg x = some (.ref f)) (hk : PySem.W.keepIn X.K (.ref f) = true) (hb : Binds X.K fd ps ds) (hd : Vals dvs ds) (hx : Passes CX X E)
    (ha : PA X (e :: es) t) (hdb : (x == ("__debug__" : Str)) = false := by decide) (he : starEach (e :: es) X.env = (false, eval e X.env) :: starEach es X.env := by rfl) (hpl : (backTo pos (starEach es X.env)).any (·.1) = false := by rfl) :
    PE X (.Call (.Name x p) (e :: es) [] pos) (tCall sp dvs E t) := by
  intro pins s σ H Q I h
  refine wpAny_Call_Name_kw (ld_glob I hg hm ?_ hdb)
  refine PySem.W.callWith_K (h₀ := X.base) I.ok.mod.kin hk (thn (ha pos pins s σ H _ I h) fun us s1 ⟨vs, H1, I1, r, q⟩ => ⟨I1.kIn, ?_⟩) he hpl
  exact run_fn F hr hb hd hx I1 r q
structure Mk (K : PySem.W.Frag) (C f : Addr) : Prop where
  makes : PySem.W.makesIn K C = true
  init : PySem.W.findIn K (.ref C) "__init__" = some (some (.ref f))
  fn : PySem.W.isFn K (.ref f) = true
  kp : PySem.W.keepIn K (.ref C) = true
theorem run_make {pins : List (Addr × Obj)} {σ : St} {H : Hp} {s : Shared} {Q : VK} {us : List Value} {vs : List V} (M : Mk X.K C f) (F : FnOk X.prog X.w X.K X.mg X.base CX k f fd ps sp) (hr : Room (k + 1) X.A) (hb : Binds X.K fd ps ds) (hd : Vals dvs ds)
    (hx : Passes CX X E) (I : Inv X pins σ H s) (r : Vals vs us)
    (h : ∀ x dx, H x = none → H dx = none → dx ≠ x → sp (.ref x :: (vs ++ dvs)) (upd (upd H dx (.own x)) x (.ins C dx [])) (fun v H2 => v = .non ∧ Q (.ref x) H2) E) :
    wpAny (model X.prog X.w) X.A (call (.ref C) us) (EP X pins σ Q) X.xe s := by
  have hq := h (s.heap.objs.size + 1) s.heap.objs.size (I.hok.fresh (Nat.le_succ _)) (I.hok.fresh (Nat.le_refl _)) (Nat.ne_of_lt (Nat.lt_succ_self _))
  have I2 := Inv.made (C := C) I
  have r2 : Vals (V.ref (s.heap.objs.size + 1) :: (vs ++ dvs)) (Value.ref (s.heap.objs.size + 1) :: (us ++ ds)) := .cons rfl (r.append hd)
  have hl : (Value.ref (s.heap.objs.size + 1) :: us ++ ds).length = ps.length := by
    have e := r2.length
    rw [F.len _ _ _ _ hq] at e
    exact e.symm
  refine wpAny_call (make_map (f := f) I.kIn M.makes M.init (beq_iff_eq.mp M.fn) (codeAny_mono (F.run _ X.stack _ _ ⟨Value.ref (s.heap.objs.size + 1) :: us, []⟩ (Value.ref (s.heap.objs.size + 1) :: (us ++ ds)) _ _ E (hr.make C us [])
    (I2.env0.make C us []) (hb _ (Value.ref (s.heap.objs.size + 1) :: us) I2.kIn hl) r2 hq) fun r s' hq' => ?_))
  cases r with
  | error e => exact hx pins σ _ _ e s' I2 hq'
  | ok fl =>
    cases fl with
    | ret u =>
      obtain ⟨v, H', I3, rv, ev, q3⟩ := I2.after hq'
      subst ev
      exact ⟨rv, ⟨V.ref (s.heap.objs.size + 1), H', I3, rfl, q3⟩⟩
    | next => exact False.elim hq'
    | brk => exact False.elim hq'
    | cont => exact False.elim hq'
theorem pe_make (M : Mk X.K C f) (F : FnOk X.prog X.w X.K X.mg X.base CX k f fd ps sp) (hr : Room (k + 1) X.A) (hg : Gl X x) (hm : X.mg x = some (.ref C)) (hb : Binds X.K fd ps ds) (hd : Vals dvs ds) (hx : Passes CX X E)
    (ha : PA X (e :: es) t) (hdb : (x == ("__debug__" : Str)) = false := by decide) (he : starEach (e :: es) X.env = (false, eval e X.env) :: starEach es X.env := by rfl) (hpl : (backTo pos (starEach es X.env)).any (·.1) = false := by rfl) :
    PE X (.Call (.Name x p) (e :: es) [] pos) (tMake C sp dvs E t) := by
  intro pins s σ H Q I h
  refine wpAny_Call_Name_kw (ld_glob I hg hm ?_ hdb)
  refine PySem.W.callWith_K (h₀ := X.base) I.ok.mod.kin M.kp (thn (ha pos pins s σ H _ I h) fun us s1 ⟨vs, H1, I1, r, q⟩ => ⟨I1.kIn, ?_⟩) he hpl
  exact run_make M F hr hb hd hx I1 r q
end
section
variable {X : Cx} {CX : CXT} {k : Nat} {f C : Addr} {fd : FuncData} {ps ks : List Str} {sp : Sp} {E : XK} {x m : Str} {p pos apos kpos : Pos} {e o : Expr} {es : List Expr} {kws : List Keyword} {te ta : TE} {t tk : TA} {nm : Option Str}
variable {g : List Value → List Value → List Value} {gV : List V → List V → List V}
end
structure FnScope (N P : List Str) (sc : Scope) : Prop where
  kind : sc.kind = .function
  co : sc.isCoroutine = false
  gen : sc.isGenerator = false
  nd : N.Nodup
  pre : N.take P.length = P
  par : ∀ x ∈ P, sc.names.lookup x = some .local ∨ sc.names.lookup x = some .cell
  nofree : ∀ y ∈ sc.names, y.2 ≠ .free
theorem bindL_out {kindOf : Str → Option NameKind} {x : Str} : ∀ {binds : List (Str × Value)} {m : Str → Option Value}, (∀ v, (x, v) ∉ binds) → bindL kindOf binds m x = m x
  | [], _, _ => rfl
  | (n, v) :: r, m, h => by
    unfold bindL
    rw [bindL_out fun w hw => h w (List.mem_cons_of_mem _ hw)]
    split
    · have : x ≠ n := by rintro rfl; exact h v List.mem_cons_self
      simp [this]
    · rfl
theorem bindC_out {kindOf : Str → Option NameKind} {x : Str} : ∀ {binds : List (Str × Value)} {m : Str → Option Value}, (∀ v, (x, v) ∉ binds) → bindC kindOf binds m x = m x
  | [], _, _ => rfl
  | (n, v) :: r, m, h => by
    unfold bindC
    rw [bindC_out fun w hw => h w (List.mem_cons_of_mem _ hw)]
    split
    · rfl
    · have : x ≠ n := by rintro rfl; exact h v List.mem_cons_self
      simp [this]
theorem bindL_get {kindOf : Str → Option NameKind} {x : Str} {v : Value} : ∀ {P : List Str} {vs : List Value} {i : Nat} {m : Str → Option Value}, P.Nodup → P[i]? = some x → vs[i]? = some v → kindOf x = some .local →
    bindL kindOf (P.zip vs) m x = some v
  | [], _, _, _, _, h, _, _ => by simp at h
  | _ :: _, [], _, _, _, _, h, _ => by simp at h
  | p :: P, w :: vs, 0, m, nd, h1, h2, hk => by
    simp at h1 h2; subst h1; subst h2
    show bindL kindOf ((p, w) :: P.zip vs) m p = _
    unfold bindL
    rw [bindL_out fun v hv => (List.nodup_cons.mp nd).1 (List.of_mem_zip hv).1, if_pos hk]
    simp
  | p :: P, w :: vs, i + 1, m, nd, h1, h2, hk => by
    show bindL kindOf ((p, w) :: P.zip vs) m x = _
    unfold bindL
    exact bindL_get (i := i) (List.nodup_cons.mp nd).2 (by simpa using h1) (by simpa using h2) hk
theorem bindC_get {kindOf : Str → Option NameKind} {x : Str} {v : Value} : ∀ {P : List Str} {vs : List Value} {i : Nat} {m : Str → Option Value}, P.Nodup → P[i]? = some x → vs[i]? = some v → kindOf x ≠ some .local →
    bindC kindOf (P.zip vs) m x = some v
  | [], _, _, _, _, h, _, _ => by simp at h
  | _ :: _, [], _, _, _, _, h, _ => by simp at h
  | p :: P, w :: vs, 0, m, nd, h1, h2, hk => by
    simp at h1 h2; subst h1; subst h2
    show bindC kindOf ((p, w) :: P.zip vs) m p = _
    unfold bindC
    rw [bindC_out fun v hv => (List.nodup_cons.mp nd).1 (List.of_mem_zip hv).1, if_neg hk]
    simp
  | p :: P, w :: vs, i + 1, m, nd, h1, h2, hk => by
    show bindC kindOf ((p, w) :: P.zip vs) m x = _
    unfold bindC
    exact bindC_get (i := i) (List.nodup_cons.mp nd).2 (by simpa using h1) (by simpa using h2) hk
noncomputable def start (N : List Str) (vs : List V) : St := vs.map some ++ List.replicate (N.length - vs.length) none
noncomputable def cxOf (CX : CXT) (P : Program) (w : World) (K : PySem.W.Frag) (mg : Str → Option Value) (base : Heap) (N : List Str) (qual : Str) (scope : Scope) (f : Addr) (cd : Value) (A : Around) (outer : List Env) (s : Shared) (H : Hp) (E : XK) : Cx where
  prog := P
  w := w
  K := K
  mg := mg
  base := base
  A := A.deeper (envOfC qual scope s.heap.objs.size f cd)
  N := N
  s₀ := s
  H₀ := H
  env := envOfC qual scope s.heap.objs.size f cd
  outer := outer
  stack := envOfC qual scope s.heap.objs.size f cd :: outer
  ex := []
  calm := true
  fn := fun _ => true
  pn := []
  xe := fun e s' => wpAny (model P w) (A.deeper (envOfC qual scope s.heap.objs.size f cd)) (leaving (envOfC qual scope s.heap.objs.size f cd) e) (fun _ s'' => CX outer H s E e s'') (fun e' s'' => CX outer H s E e' s'') s'
theorem cell_has {sc : Scope} {n : Nat} {x : Str} (h : sc.names.lookup x = some .cell) : ∃ c, (cellsFrom n sc.names []).lookup x = some c := by
  have q := PySem.W.cellsFrom_some sc.names n [] (.inl h)
  exact Option.isSome_iff_exists.mp q
theorem inv_start {CX : CXT} {P : Program} {w : World} {K : PySem.W.Frag} {mg : Str → Option Value} {base : Heap} {N ps : List Str} {qual : Str} {scope : Scope} {f : Addr} {cd : Value} {A : Around} {outer : List Env} {s s1 : Shared} {H : Hp} {E : XK} {us : List Value} {vs : List V}
    (S : FnScope N ps scope) (hd : A.handled = none) (e0 : Env0 P w K mg base A outer s H) (hl : vs.length = ps.length) (r : Vals vs us)
    (x : InCallC s s.heap.objs.size (bindL (envOfC qual scope s.heap.objs.size f cd).kindOf (ps.zip us) fun _ => none) (cellsFrom (s.heap.objs.size + 1) scope.names []) (bindC (envOfC qual scope s.heap.objs.size f cd).kindOf (ps.zip us) fun _ => none) s1) :
    Inv (cxOf CX P w K mg base N qual scope f cd A outer s H E) [] (start N vs) H s1 := by
  have hpl : ps.length ≤ N.length := by have := congrArg List.length S.pre; rw [List.length_take] at this; omega
  obtain ⟨h1, tk, rfl, hk⟩ := x.done
  have noA : ∀ b : Addr, b ∉ (cxOf CX P w K mg base N qual scope f cd A outer s H E).ex := fun b z => absurd (show b ∈ ([] : List Addr) from z) (by simp)
  refine ⟨⟨e0.mod, S.kind, rfl, rfl, Nat.le_refl _, fun y z c h1 h2 => ?_, fun y hy => ?_, fun y c _ h => ?_, fun _ => hd, Around.frames_deeper e0.frames, .inr ⟨rfl, rfl⟩, fun b z => absurd z (noA b), e0.bs, e0.bsz, fun b _ _ => noA b, fun b z => absurd z (noA b), e0.funs, e0.frf⟩,
    rfl, e0.bare, Un.kept hk, ⟨_, x.toInCall.ns, fun i y v h1 h2 h3 => ?_⟩, fun y c h => ⟨_, x.cell y c h⟩, e0.hok.fresh (Nat.le_refl _), fun y c h => ?_, fun p hp => absurd (show p ∈ ([] : List (Addr × Obj)) from hp) (by simp), e0.hok.kept hk, ?_⟩
  · exact name_of_addr x.apart (PySem.mem_of_lookup h1) (PySem.mem_of_lookup h2)
  · have hy : scope.names.lookup y = some .cell ∨ scope.names.lookup y = some .free := hy
    rcases hy with hy | hy
    · exact cell_has hy
    · exact absurd rfl (S.nofree _ (PySem.mem_of_lookup hy))
  · exact Nat.le_of_lt (x.above y c (PySem.mem_of_lookup h))
  · have hi : i < vs.length := by
      unfold start at h2
      by_cases hi : i < vs.length
      · exact hi
      · rw [List.getElem?_append_right (by simpa using hi)] at h2
        rw [List.getElem?_replicate] at h2
        split at h2 <;> cases h2
    have ha : vs[i]? = some v := by
      unfold start at h2
      rw [List.getElem?_append_left (by simpa using hi), List.getElem?_map] at h2
      cases e : vs[i]? with
      | none => rw [e] at h2; cases h2
      | some a => rw [e] at h2; cases h2; rfl
    obtain ⟨u, hu, rv⟩ := r.get ha
    have hp : ps[i]? = some y := by
      rw [← S.pre, List.getElem?_take_of_lt (by omega)]; exact h1
    have ndP : ps.Nodup := by rw [← S.pre]; exact S.nd.sublist (List.take_sublist _ _)
    refine ⟨u, rv, ?_⟩
    rcases S.par y (List.mem_of_getElem? hp) with k | k
    · exact .inl ⟨k, bindL_get ndP hp hu k⟩
    · obtain ⟨c, e⟩ := cell_has (n := s.heap.objs.size + 1) k
      refine .inr ⟨.inl k, c, e, ?_⟩
      have q := x.cell y c e
      rw [bindC_get ndP hp hu (by show scope.names.lookup y ≠ _; rw [k]; decide)] at q
      exact q
  · exact e0.hok.fresh (Nat.le_of_lt (x.above y c (PySem.mem_of_lookup h)))
  · unfold start
    show _ = N.length
    rw [List.length_append, List.length_map, List.length_replicate]
    omega
theorem fn_of {CX : CXT} {P : Program} {w : World} {K : PySem.W.Frag} {mg : Str → Option Value} {base : Heap} {k : Nat} {f : Addr} {name qual : Str} {params : Arguments} {body : List Stmt} {scope : Scope} {dV kV doc pm cdv ct oc : Value} {an od : Option Addr}
    {osl : Array (Option Value)} {N ps : List Str} {sp : Sp} (lk : K.lookup f = some ⟨oc, od, .func (PySem.W.fnOf name qual params body scope dV kV doc pm an cdv ct), osl⟩) (hcd : PySem.W.codeIn K cdv qual = true) (S : FnScope N ps scope)
    (len : ∀ vs H Q E, sp vs H Q E → vs.length = ps.length)
    (hbody : ∀ (A : Around) (outer : List Env) (s : Shared) (H : Hp) (vs : List V) (Q : VK) (E : XK), Room k (A.deeper (envOfC qual scope s.heap.objs.size f cdv)) → sp vs H Q E →
      ∃ t, PSs (cxOf CX P w K mg base N qual scope f cdv A outer s H E) body t ∧ t { nx := fun _ H' => Q .non H', rt := Q } (start N vs) H) :
    FnOk P w K mg base CX (k + 1) f (PySem.W.fnOf name qual params body scope dV kV doc pm an cdv ct) ps sp := by
  refine ⟨len, fun A outer s H args us vs Q E hr e0 hb r hsp => ?_⟩
  have hl := len _ _ _ _ hsp
  have KX : K.In s.heap := e0.mod.kin.keeps fun b o e => (e0.bs b o e).1
  have lim : s.heap.NoLimit := e0.mod.nolimit.keeps fun b o e => (e0.bs b o e).1
  have hkind : ∀ y ∈ ps.zip us, scope.names.lookup y.1 = some .local ∨ (scope.names.lookup y.1 = some .cell ∧ ((cellsFrom (s.heap.objs.size + 1) scope.names []).lookup y.1).isSome = true) := fun ⟨n, v⟩ hy => by
    rcases S.par n (List.of_mem_zip hy).1 with q | q
    · exact .inl q
    · exact .inr ⟨q, PySem.W.cellsFrom_some _ _ _ (.inl q)⟩
  refine codeAny_call_function hr.depth (KX _ _ lk) rfl S.co S.gen rfl (PySem.W.codeRec_of KX hcd) (hb _ _ _ _ ?_)
  refine wpAny_newFunctionEnv_cells S.kind hkind fun env he s1 x => ?_
  subst he
  refine ⟨lim.keeps x.toInCall.keep, codeAny_func ?_⟩
  obtain ⟨t, ht, hq⟩ := hbody A outer s H vs Q E (hr.deeper _) hsp
  have I : Inv (cxOf CX P w K mg base N qual scope f cdv A outer s H E) [] (start N vs) H s1 := inv_start S hr.hd e0 hl r x
  refine wpAny_mono (ht [] s1 (start N vs) H _ I hq) (fun fl s' hs => ?_) fun e s' hs => hs
  have fin : ∀ {σ' : St} {H' : Hp} {v : V} {u : Value}, Inv (cxOf CX P w K mg base N qual scope f cdv A outer s H E) [] σ' H' s' → RelV v u → Q v H' → CE outer P w H s Q u s' :=
    fun {σ' H' v u} J rv q => ⟨v, H', J.os, J.bare, J.base, J.hok, rv, q⟩
  cases fl with
  | ret u =>
    obtain ⟨v, σ', H', J, rv, q⟩ := hs
    exact fin J rv q
  | next =>
    obtain ⟨σ', H', J, q⟩ := hs
    exact fin (v := V.non) (u := Value.none) J rfl q
  | brk =>
    obtain ⟨_, _, _, q⟩ := hs
    exact False.elim q
  | cont =>
    obtain ⟨_, _, _, q⟩ := hs
    exact False.elim q
end L2
namespace L2
open PySem PySem.Spec PyProof.Rows
section
variable {X : Cx} {x : Str} {p pos : Pos} {e : Expr} {es : List Expr} {t : TA} {id T : String} {r : List V → Hp → VK → Prop}
noncomputable def tCB (r : List V → Hp → VK → Prop) (t : TA) : TE := fun σ H Q => t σ H fun vs H1 => r vs H1 Q
theorem pe_callB (hc : CallR X (.builtin id) r) (hg : Gl X x) (hm : X.mg x = none) (hv : bootBuiltins x = some (.builtin id)) (ha : PA X (e :: es) t) (hn : x ≠ "__name__" := by decide) (hdb : (x == ("__debug__" : Str)) = false := by decide)
    (he : starEach (e :: es) X.env = (false, eval e X.env) :: starEach es X.env := by rfl) (hpl : (backTo pos (starEach es X.env)).any (·.1) = false := by rfl) : PE X (.Call (.Name x p) (e :: es) [] pos) (tCB r t) := by
  intro pins s σ H Q I h
  refine wpAny_Call_Name_kw (ld_blt I hg hm hv ?_ hn hdb)
  exact PyProof.Rows.callWith_builtin1 (thn (ha pos pins s σ H _ I h) fun us s1 ⟨vs, H1, I1, r1, q1⟩ => hc pins s1 σ H1 vs us Q I1 r1 q1) he hpl
theorem pe_callTy (hc : CallR X (.type T) r) (hg : Gl X x) (hm : X.mg x = none) (hv : bootBuiltins x = some (.type T)) (ha : PA X (e :: es) t) (hn : x ≠ "__name__" := by decide) (hdb : (x == ("__debug__" : Str)) = false := by decide)
    (he : starEach (e :: es) X.env = (false, eval e X.env) :: starEach es X.env := by rfl) (hpl : (backTo pos (starEach es X.env)).any (·.1) = false := by rfl) : PE X (.Call (.Name x p) (e :: es) [] pos) (tCB r t) := by
  intro pins s σ H Q I h
  refine wpAny_Call_Name_kw (ld_blt I hg hm hv ?_ hn hdb)
  exact PyProof.Rows.callWith_type1 (thn (ha pos pins s σ H _ I h) fun us s1 ⟨vs, H1, I1, r1, q1⟩ => hc pins s1 σ H1 vs us Q I1 r1 q1) he hpl
end
end L2
namespace HT
open PySem PyProof.Rows
section
open PySem.SeqAt
open PySem.AutoSeq1 (wpAny_loadPart')
open PySem.MeetsSeq PySem.MeetsSeq2 PySem.MeetsSeq3
end
section
variable {prog : Program} {w : World} {A : Around} {E : Value → Shared → Prop} {s : Shared}
noncomputable def sIx (n d : Nat) : Option Int → Nat
  | none => d
  | some v => if v < 0 then (v + (n : Int)).toNat else min v.toNat n
theorem sIx_none (n d : Nat) : sIx n d none = d := rfl
theorem sIx_nat (n d k : Nat) : sIx n d (some (k : Int)) = min k n := by
  show (if (k : Int) < 0 then ((k : Int) + (n : Int)).toNat else min (k : Int).toNat n) = min k n
  rw [if_neg (by omega), Int.toNat_natCast]
end
end HT
namespace L2
open PySem PySem.Spec PyProof.Rows
noncomputable abbrev TO := St → Hp → (Option Int → Hp → Prop) → Prop
noncomputable def PO (X : Cx) (e : Option Expr) (t : TO) : Prop :=
  ∀ (pins : List (Addr × Obj)) (s : Shared) (σ : St) (H : Hp) (Q : Option Int → Hp → Prop), Inv X pins σ H s → t σ H Q →
    wpAny (model X.prog X.w) X.A (evalPart e X.env) (fun u s' => ∃ o H', Inv X pins σ H' s' ∧ IsPart u o ∧ Q o H') X.xe s
noncomputable def tNoPart : TO := fun _ H Q => Q none H
inductive tPart_P (Q : (Option Int → Hp → Prop)) (x : V) (H1 : Hp) : Prop
  | mk (i : _) (h1 : x = .int i) (h2 : Q (some i) H1) : tPart_P Q x H1
noncomputable def tPart (t : TE) : TO := fun σ H Q => t σ H fun x H1 => tPart_P Q x H1
section
variable {X : Cx} {e : Expr} {te : TE} {lo hi : Option Expr} {tl th : TO} {pos p2 : Pos}
theorem po_none : PO X none tNoPart := by
  intro pins s σ H Q I h
  rw [evalPart_none]
  exact wpAny_pure ⟨none, H, I, .none, h⟩
theorem po_some (h : PE X e te) : PO X (some e) (tPart te) := by
  intro pins s σ H Q I hw
  rw [evalPart_some]
  refine thn (h pins s σ H _ I hw) fun u s1 zz_ => ?_
  obtain ⟨x, H1, I1, r1, q1⟩ := zz_
  obtain ⟨i, rfl, q⟩ := q1
  obtain ⟨t, rfl⟩ := r1
  exact ⟨some i, H1, I1, .int i t, q⟩
noncomputable def SlR (X : Cx) (r : V → Option Int → Option Int → Hp → VK → Prop) : Prop :=
  ∀ (pins : List (Addr × Obj)) (s : Shared) (σ : St) (H : Hp) (x : V) (v vl vu : Value) (lo hi : Option Int) (sl : Addr) (Q : VK), Inv X pins σ H s → RelV x v → s.heap.IsSliceOf sl vl vu .none → IsPart vl lo → IsPart vu hi → r x lo hi H Q →
    ∃ T id, typeLookup (.type T) "__getitem__" = pure (some (.builtin id)) ∧ s.TypeIs v T ∧ wpAny (model X.prog X.w) X.A (getItem v (.ref sl)) (EP X pins σ Q) X.xe s
theorem SlR.or {r r' : V → Option Int → Option Int → Hp → VK → Prop} (h : SlR X r) (h' : SlR X r') : SlR X (fun x lo hi H Q => r x lo hi H Q ∨ r' x lo hi H Q) := by
  intro pins s σ H x v vl vu lo hi sl Q I rx hs pl pu q
  rcases q with q | q
  · exact h pins s σ H x v vl vu lo hi sl Q I rx hs pl pu q
  · exact h' pins s σ H x v vl vu lo hi sl Q I rx hs pl pu q
noncomputable def tSl (r : V → Option Int → Option Int → Hp → VK → Prop) (te : TE) (tl th : TO) : TE := fun σ H Q => te σ H fun x H1 => tl σ H1 fun l H2 => th σ H2 fun u H3 => r x l u H3 Q
theorem pe_slice {r : V → Option Int → Option Int → Hp → VK → Prop} (hr : SlR X r) (he : PE X e te) (hl : PO X lo tl) (hu : PO X hi th) : PE X (.Subscript e (.Slice lo hi none p2) pos) (tSl r te tl th) := by
  intro pins s σ H Q I h
  refine Subscript_ (thn (he pins s σ H _ I h) fun v s1 zz_ => ?_)
  obtain ⟨x, H1, I1, r1, q1⟩ := zz_
  refine wpAny_Slice (thn (hl pins s1 σ H1 _ I1 q1) fun vl s2 ⟨l, H2, I2, pl, q2⟩ => thn (hu pins s2 σ H2 _ I2 q2) fun vu s3 zz_ => ?_)
  obtain ⟨u, H3, I3, pu, q3⟩ := zz_
  rw [evalPart_none]
  refine wpAny_pure ?_
  have I4 : Inv X pins σ H3 { s3 with heap := s3.heap.push { cls := .type "slice", data := .fields #[vl, vu, .none] } } := I3.kept (t' := s3.toks) fun b ob q => Heap.get?_push_of_some _ q
  obtain ⟨T, id, hT, ht, hg⟩ := hr pins { s3 with heap := s3.heap.push { cls := .type "slice", data := .fields #[vl, vu, .none] } } σ H3 x v vl vu l u s3.heap.objs.size Q I4 r1 (Heap.IsSliceOf.new ..) pl pu q3
  show wpAny (model X.prog X.w) X.A (subscriptTail e (.Slice lo hi none p2) v (.ref s3.heap.objs.size)) (EP X pins σ Q) X.xe { s3 with heap := s3.heap.push { cls := .type "slice", data := .fields #[vl, vu, .none] } }
  exact tail_any (ops := [.ref s3.heap.objs.size, v]) ht hT hg (by with_unfolding_all rfl)
noncomputable def cutV (xs : List V) (lo hi : Option Int) : List V := (xs.drop (HT.sIx xs.length 0 lo)).take (HT.sIx xs.length xs.length hi - HT.sIx xs.length 0 lo)
theorem cutV_length (xs : List V) (lo hi : Option Int) : (cutV xs lo hi).length ≤ xs.length := by
  unfold cutV
  refine Nat.le_trans (List.length_take_le' _ _) ?_
  rw [List.length_drop]
  exact Nat.sub_le _ _
end
end L2
namespace L2
open PySem PySem.Spec PyProof.Rows
noncomputable def ixN (n : Nat) (i : Int) : Option Nat := if 0 ≤ i then (if i < n then some i.toNat else none) else if -(n : Int) ≤ i then some (i + n).toNat else none
noncomputable def atI {α : Type} (xs : List α) (i : Int) : Option α := (ixN xs.length i).bind fun j => xs[j]?
theorem ixN_seq {n : Nat} {i : Int} {j : Nat} (h : ixN n i = some j) : seqIndex? i n = some j ∧ j < n ∧ -(n : Int) ≤ i ∧ i < n := by
  unfold ixN at h
  by_cases h0 : 0 ≤ i
  · rw [if_pos h0] at h
    by_cases h1 : i < n
    · rw [if_pos h1] at h
      have e : i.toNat = j := Option.some.inj h
      exact ⟨by rw [seqIndex_of h0 h1, e], by omega, by omega, h1⟩
    · rw [if_neg h1] at h; cases h
  · rw [if_neg h0] at h
    by_cases h1 : -(n : Int) ≤ i
    · rw [if_pos h1] at h
      have e : (i + n).toNat = j := Option.some.inj h
      exact ⟨by rw [seqIndex_neg (by omega) h1, e], by omega, h1, by omega⟩
    · rw [if_neg h1] at h; cases h
theorem atI_get {α : Type} {xs : List α} {i : Int} {v : α} (h : atI xs i = some v) : ∃ j, seqIndex? i xs.length = some j ∧ xs[j]? = some v ∧ j < xs.length ∧ -(xs.length : Int) ≤ i ∧ i < xs.length := by
  unfold atI at h
  cases e : ixN xs.length i with
  | none => rw [e] at h; cases h
  | some j =>
    rw [e] at h
    obtain ⟨h1, h2, h3, h4⟩ := ixN_seq e
    exact ⟨j, h1, h, h2, h3, h4⟩
theorem atI_nat {α : Type} {xs : List α} {j : Nat} {v : α} (h : xs[j]? = some v) : atI xs (j : Int) = some v := by
  have hj : j < xs.length := (List.getElem?_eq_some_iff.mp h).1
  have e : ixN xs.length (j : Int) = some j := by
    unfold ixN
    rw [if_pos (by omega), if_pos (by omega)]; simp
  unfold atI; rw [e]; exact h
noncomputable def PlainIx (b : Expr) : Prop := ∀ o i, subscripted b false o i = operate [o, i] (getItem o i)
noncomputable def IxR (X : Cx) (r : R2) : Prop :=
  ∀ (value slice : Expr) (pins : List (Addr × Obj)) (s : Shared) (σ : St) (H : Hp) (x y : V) (v u : Value) (Q : VK), Inv X pins σ H s → RelV x v → RelV y u → r x y H Q →
    subscripted slice false v u = operate [v, u] (getItem v u) → wpAny (model X.prog X.w) X.A (subscriptTail value slice v u) (EP X pins σ Q) X.xe s
noncomputable def MtR (X : Cx) (id : String) (r : V → List V → Hp → VK → Prop) : Prop :=
  ∀ (pins : List (Addr × Obj)) (s : Shared) (σ : St) (H : Hp) (x : V) (xs : List V) (v : Value) (us : List Value) (Q : VK), Inv X pins σ H s → RelV x v → Vals xs us → r x xs H Q →
    wpAny (model X.prog X.w) X.A (call (.builtin id) (v :: us)) (EP X pins σ Q) X.xe s
section
variable {X : Cx} {a b : Expr} {ta tb : TE} {pos : Pos}
theorem IxR.or {r r' : R2} (h : IxR X r) (h' : IxR X r') : IxR X (fun x y H Q => r x y H Q ∨ r' x y H Q) := by
  intro value slice pins s σ H x y v u Q I rx ry q hs
  rcases q with q | q
  · exact h value slice pins s σ H x y v u Q I rx ry q hs
  · exact h' value slice pins s σ H x y v u Q I rx ry q hs
theorem pe_ix {r : R2} (hr : IxR X r) (ha : PE X a ta) (hb : PE X b tb) (hs : PlainIx b) : PE X (.Subscript a b pos) (tOp r ta tb) := by
  intro pins s σ H Q I h
  exact Subscript_ (binT ha hb I h fun v u s2 x y H2 I2 rx ry q => hr a b pins s2 σ H2 x y v u Q I2 rx ry q (hs _ _))
inductive rIxL_P (K : PySem.W.Frag) (x : V) (y : V) (H : Hp) (Q : VK) : Prop
  | mk (p xs i v : _) (h1 : x = .ref p) (h2 : y = .int i) (h3 : SqL K H p xs) (h4 : atI xs i = some v) (h5 : Q v H) : rIxL_P K x y H Q
noncomputable def rIxL (K : PySem.W.Frag) : R2 := fun x y H Q => rIxL_P K x y H Q
inductive rIxT_P (K : PySem.W.Frag) (x : V) (y : V) (H : Hp) (Q : VK) : Prop
  | mk (p xs i v : _) (h1 : x = .ref p) (h2 : y = .int i) (h3 : SqT K H p xs) (h4 : atI xs i = some v) (h5 : Q v H) : rIxT_P K x y H Q
noncomputable def rIxT (K : PySem.W.Frag) : R2 := fun x y H Q => rIxT_P K x y H Q
noncomputable def rIxS : R2 := fun x y H Q => ∃ z i c, x = .str z ∧ y = .int i ∧ z.length ≤ sizeLine ∧ atI z.cps.toList i = some c ∧ Q (.str ⟨#[c]⟩) H
theorem ix_list : IxR X (rIxL X.K) := by
  intro value slice pins s σ H x y v u Q I rx ry h hs
  obtain ⟨p, xs, i, z, rfl, rfl, hq, he, q⟩ := h
  cases rx
  obtain ⟨t, rfl⟩ := ry
  obtain ⟨its, r, pl, hz⟩ := I.list hq
  obtain ⟨j, h1, h2, h3, h4, h5⟩ := atI_get he
  obtain ⟨w, ew, rw'⟩ := r.get h2
  have hl := r.length
  have hn := line63
  have fin : EP X pins σ Q w s := ⟨z, H, I, rw', q⟩
  by_cases h0 : 0 ≤ i
  · have hj : i.toNat = j := by
      rw [seqIndex_of h0 h5] at h1
      exact Option.some.inj h1
    exact item_listR pl.isList h0 (by omega) (by rw [hj]; simpa using ew) fin hs
  · have hj : (i + (its.toArray.size : Int)).toNat = j := by
      rw [seqIndex_neg (by omega) h4] at h1
      rw [List.size_toArray, ← hl]
      exact Option.some.inj h1
    exact subscriptTail_builtinR (x := w) pl.isList.typeIs slot_list_getitem.lookup
      (wpAny_getItem_list_neg (Q := fun r s' => r = w ∧ EP X pins σ Q r s') pl.isList (by omega) (by rw [List.size_toArray] <;> omega) (by omega) (by rw [hj]; simpa using ew) ⟨rfl, fin⟩) hs
theorem ix_tup : IxR X (rIxT X.K) := by
  intro value slice pins s σ H x y v u Q I rx ry h hs
  obtain ⟨p, xs, i, z, rfl, rfl, hq, he, q⟩ := h
  cases rx
  obtain ⟨t, rfl⟩ := ry
  obtain ⟨its, r, pl, hz⟩ := I.tuple hq
  obtain ⟨j, h1, h2, h3, h4, h5⟩ := atI_get he
  obtain ⟨w, ew, rw'⟩ := r.get h2
  have hl := r.length
  have hn := line63
  have fin : EP X pins σ Q w s := ⟨z, H, I, rw', q⟩
  exact subscriptTail_builtinR (x := w) pl.typeIs slot_tuple_getitem.lookup
    (getItem_tuple (j := j) (Q := fun r s' => r = w ∧ EP X pins σ Q r s') pl (by omega) (by omega) (by rw [List.size_toArray, ← hl]; exact h1) (by simpa using ew) ⟨rfl, fin⟩) hs
theorem ix_str : IxR X rIxS := by
  intro value slice pins s σ H x y v u Q I rx ry h hs
  obtain ⟨z, i, c, rfl, rfl, hz, he, q⟩ := h
  obtain ⟨t, rfl⟩ := rx
  obtain ⟨t', rfl⟩ := ry
  obtain ⟨j, h1, h2, h3, h4, h5⟩ := atI_get he
  have hl : z.cps.toList.length = z.length := by simp [Str.length]
  rw [hl] at h1 h4 h5
  have hn := line63
  exact tail_any (typeIs_str s z t) slot_str_getitem.lookup (getItem_str (c := c) (by
    have e1 : decide (i < -(2 ^ 63 : Int)) = false := decide_eq_false (by omega)
    have e2 : decide (i ≥ 2 ^ 63) = false := decide_eq_false (by omega)
    rw [e1, e2, Bool.or_false]) (by rw [h1]; simpa using h2) ⟨.str ⟨#[c]⟩, H, I.tok _, ⟨_, rfl⟩, q⟩) hs
noncomputable def rIx (K : PySem.W.Frag) : R2 := fun x y H Q => rIxL K x y H Q ∨ rIxT K x y H Q ∨ rIxS x y H Q
theorem ix_seq : IxR X (rIx X.K) := ix_list.or (ix_tup.or ix_str)
theorem mapSeq_set (its : List Value) (n j : Nat) (u : Value) : Obj.mapSeq (·.setIfInBounds j u) { cls := .type "list", data := .seq its.toArray n } = { cls := .type "list", data := .seq (its.set j u).toArray n } := by
  simp [Obj.mapSeq]
theorem Inv.lst {pins : List (Addr × Obj)} {σ : St} {H : Hp} {s : Shared} {p : Addr} {xs : List V} (I : Inv X pins σ H s) (h : H p = some (.lst xs)) :
    ∃ (its : List Value) (n : Nat), Vals xs its ∧ s.heap.get? p = some { cls := .type "list", data := .seq its.toArray n } ∧ xs.length ≤ sizeLine := by
  obtain ⟨z, its, n, r, e⟩ := I.hok p _ h
  exact ⟨its, n, r, e, z⟩
theorem Inv.lstUpd {pins : List (Addr × Obj)} {σ : St} {H : Hp} {s : Shared} {p : Addr} {xs ys : List V} {its its' : List Value} {n n' : Nat} {f : Obj → Obj} (I : Inv X pins σ H s) (h : H p = some (.lst xs))
    (ho : s.heap.get? p = some { cls := .type "list", data := .seq its.toArray n }) (hf : f { cls := .type "list", data := .seq its.toArray n } = { cls := .type "list", data := .seq its'.toArray n' }) (r : Vals ys its') (hz : ys.length ≤ sizeLine) (t : Nat) :
    Inv X pins σ (upd H p (.lst ys)) { s with heap := s.heap.update p f, toks := t } := by
  have e : (s.heap.update p f).get? p = some { cls := .type "list", data := .seq its'.toArray n' } := by
    rw [Heap.get?_update_self f ho (by rw [hf] <;> rfl), hf]
  refine I.write (x := p) (e := p) (by rw [h]; trivial) (.inl rfl) (fun b u hb q => (Heap.get?_update_other _ _ (Ne.symm hb)).trans q) ⟨_, e⟩ ?_
  exact ⟨hz, its', n', r, e⟩
inductive rSetL_P (o : V) (i : V) (v : V) (H : Hp) (Q : (Hp → Prop)) : Prop
  | mk (p xs k j : _) (h1 : o = .ref p) (h2 : i = .int k) (h3 : H p = some (.lst xs)) (h4 : ixN xs.length k = some j) (h5 : Q (upd H p (.lst (xs.set j v)))) : rSetL_P o i v H Q
noncomputable def rSetL : V → V → V → Hp → (Hp → Prop) → Prop := fun o i v H Q => rSetL_P o i v H Q
theorem set_list : PSet X rSetL := by
  intro pins s σ H o i v ov iv u Q I ro ri rv h
  obtain ⟨p, xs, k, j, rfl, rfl, hp, hj, q⟩ := h
  cases ro
  obtain ⟨t, rfl⟩ := ri
  obtain ⟨its, n, r, ho, hz⟩ := I.lst hp
  obtain ⟨h1, h2, h3, h4⟩ := ixN_seq hj
  have hl := r.length
  have hn := line63
  have I' : Inv X pins σ (upd H p (.lst (xs.set j v))) { s with heap := s.heap.update p (Obj.mapSeq (·.setIfInBounds j u)) } :=
    I.lstUpd hp ho (mapSeq_set its n j u) (r.set rv j) (by rw [List.length_set]; exact hz) s.toks
  by_cases h0 : 0 ≤ k
  · have hk : k.toNat = j := by
      rw [seqIndex_of h0 h4] at h1
      exact Option.some.inj h1
    exact PySem.W.ki_setAt ho h0 (by omega) (by rw [List.size_toArray, ← hl]; exact h4) (by rw [hk]; exact ⟨_, I', q⟩)
  · have hk : (k + (its.toArray.size : Int)).toNat = j := by
      rw [seqIndex_neg (by omega) h3] at h1
      rw [List.size_toArray, ← hl]
      exact Option.some.inj h1
    exact PySem.W.ki_setBack ho (by omega) (by rw [List.size_toArray, ← hl]; exact h3) (by omega) (by rw [hk]; exact ⟨_, I', q⟩)
theorem tn_ (n : Nat) : ((-1 : Int) + (n : Int)).toNat = n - 1 := by
  rw [Int.add_comm]; exact Int.toNat_sub n 1
theorem sb_one (i : Int) (n : Nat) : max 0 (min (if i < 0 then i + (n : Int) else i) (n : Int)) = ((if i < 0 then (i + (n : Int)).toNat else min i.toNat n : Nat) : Int) := by
  by_cases h : i < 0
  · have h' : i + (n : Int) ≤ n := by have := Int.add_le_add_right (Int.le_of_lt h) n; rwa [Int.zero_add] at this
    rw [if_pos h, if_pos h, Int.min_eq_left h', Int.ofNat_toNat, Int.max_comm]
  · obtain ⟨k, rfl⟩ := Int.eq_ofNat_of_zero_le (Int.not_lt.mp h)
    rw [if_neg h, if_neg h, Int.toNat_natCast]
    rcases Nat.le_total k n with g | g
    · rw [Nat.min_eq_left g, Int.min_eq_left (Int.ofNat_le.mpr g), Int.max_eq_right (Int.natCast_nonneg _)]
    · rw [Nat.min_eq_right g, Int.min_eq_right (Int.ofNat_le.mpr g), Int.max_eq_right (Int.natCast_nonneg _)]
theorem slice_bounds (lo hi : Option Int) (n : Nat) : (sliceBounds lo hi none n).1 = ((HT.sIx n 0 lo : Nat) : Int) ∧ (sliceBounds lo hi none n).2.1 = ((HT.sIx n n hi : Nat) : Int) ∧ (sliceBounds lo hi none n).2.2 = 1 := by
  refine ⟨?_, ?_, rfl⟩
  · cases lo with
    | none => simp [sliceBounds, HT.sIx]
    | some i =>
      simp only [sliceBounds, HT.sIx, Option.getD_none, show (1 : Int) > 0 by decide, if_true]
      exact sb_one i n
  · cases hi with
    | none => simp [sliceBounds, HT.sIx]
    | some i =>
      simp only [sliceBounds, HT.sIx, Option.getD_none, show (1 : Int) > 0 by decide, if_true]
      exact sb_one i n
theorem slicePick_cut (its : List Value) (lo hi : Option Int) : slicePick its.toArray lo hi none = ((its.drop (HT.sIx its.length 0 lo)).take (HT.sIx its.length its.length hi - HT.sIx its.length 0 lo)).toArray := by
  obtain ⟨h1, h2, h3⟩ := slice_bounds lo hi its.toArray.size
  unfold slicePick
  rw [h1, h2, h3]
  simp only [sliceRange_one, pick_run, List.size_toArray] <;> rfl
inductive rSlL_P (K : PySem.W.Frag) (x : V) (lo : Option Int) (hi : Option Int) (H : Hp) (Q : VK) : Prop
  | mk (a xs : _) (h1 : x = .ref a) (h2 : SqL K H a xs) (h3 : ∀ p, H p = none → Q (.ref p) (upd H p (.lst (cutV xs lo hi)))) : rSlL_P K x lo hi H Q
noncomputable def rSlL (K : PySem.W.Frag) : V → Option Int → Option Int → Hp → VK → Prop := fun x lo hi H Q => rSlL_P K x lo hi H Q
theorem sl_list : SlR X (rSlL X.K) := by
  intro pins s σ H x v vl vu lo hi sl Q I rx hs pl pu h
  obtain ⟨a, xs, rfl, hx, q⟩ := h
  cases rx
  obtain ⟨its, r, ht, hz⟩ := I.list hx
  have hlen := r.length
  refine ⟨"list", _, slot_list_getitem.lookup, ht.isList.typeIs, ?_⟩
  refine wpAny_getItem_list_slice ht.isList hs pl pu .none (by simp) ?_ (by rw [List.size_toArray] <;> omega)
  rw [slicePick_cut, ← hlen]
  refine ⟨.ref s.heap.objs.size, _, I.laid (t' := s.toks) (o := .lst (cutV xs lo hi)) (fun b ob q => Heap.get?_push_of_some _ q) (Nat.le_refl _) ?_, rfl, q _ (I.hok.fresh (Nat.le_refl _))⟩
  exact ⟨Nat.le_trans (cutV_length xs lo hi) hz, _, 0, (r.drop (HT.sIx xs.length 0 lo)).take (HT.sIx xs.length xs.length hi - HT.sIx xs.length 0 lo), Heap.get?_push_size _ rfl⟩
theorem call_list_of : CallR X (.type "list") (fun xs H Q => ∃ p ys, xs = [.ref p] ∧ (SqL X.K H p ys ∨ SqT X.K H p ys) ∧ ∀ l, H l = none → Q (.ref l) (upd H l (.lst ys))) := by
  intro pins s σ H xs us Q I r h
  obtain ⟨p, ys, rfl, hq, q⟩ := h
  obtain ⟨u, rfl, rx⟩ := vals1 r
  cases rx
  have fin : ∀ (its : List Value), Vals ys its → ys.length ≤ sizeLine → ∀ (h' : Heap) (c' : Nat), (∀ b o', s.heap.get? b = some o' → h'.get? b = some o') →
      h'.get? s.heap.objs.size = some { cls := .type "list", dict := none, data := .seq its.toArray c', slots := #[] } → EP X pins σ Q (.ref s.heap.objs.size) { s with heap := h' } := fun its r' hz h' c' kp e =>
    ⟨.ref s.heap.objs.size, _, I.laid (t' := s.toks) kp (Nat.le_refl _) (show ObjOk X.prog X.w _ h' _ (.lst ys) from ⟨hz, its, c', r', e⟩), rfl, q _ (I.hok.fresh (Nat.le_refl _))⟩
  rcases hq with hq | hq
  · obtain ⟨its, r', pl, hz⟩ := I.list hq
    have hlen := r'.length
    obtain ⟨o, ho, hc, n, hd⟩ := pl.isList
    exact call_list_seq p (.inl rfl) ho hc hd (fun h' c' kp e => fin its r' hz h' c' kp e) (by simp only [List.size_toArray] <;> omega)
  · obtain ⟨its, r', pl, hz⟩ := I.tuple hq
    have hlen := r'.length
    obtain ⟨o, ho, hc, n, hd⟩ := pl
    exact call_list_seq p (.inr rfl) ho hc hd (fun h' c' kp e => fin its r' hz h' c' kp e) (by simp only [List.size_toArray] <;> omega)
noncomputable def tyV (K : PySem.W.Frag) (T : String) (x : V) (H : Hp) : Prop := match x with
  | .str _ => T = "str"
  | .int _ => T = "int"
  | .ref p => (T = "list" ∧ ∃ xs, SqL K H p xs) ∨ (T = "tuple" ∧ ∃ o, K.lookup p = some o ∧ o.cls = .type "tuple" ∧ o.dict = none) ∨
      (T = "dict" ∧ ((∃ kvs, H p = some (.dK kvs)) ∨ ∃ kvs, H p = some (.dT kvs))) ∨ (T = "set" ∧ ∃ S n, H p = some (.set S n))
  | _ => False
theorem tyV_is {pins : List (Addr × Obj)} {σ : St} {H : Hp} {s : Shared} {T : String} {x : V} {v : Value} (I : Inv X pins σ H s) (r : RelV x v) (ty : tyV X.K T x H) :
    s.TypeIs v T ∧ ∀ a, v = .ref a → ∃ ob, s.heap.get? a = some ob ∧ ob.dict = none := by
  cases x with
  | str z =>
    obtain ⟨t, rfl⟩ := r
    cases (show T = "str" from ty)
    exact ⟨typeIs_str s z t, fun _ e => nomatch e⟩
  | int i =>
    obtain ⟨t, rfl⟩ := r
    cases (show T = "int" from ty)
    exact ⟨typeIs_int s i t, fun _ e => nomatch e⟩
  | ref p =>
    cases r
    rcases ty with ⟨rfl, xs, hq⟩ | ⟨rfl, o, hk, hc, hd⟩ | ⟨rfl, hk⟩ | ⟨rfl, S, n, hk⟩
    · obtain ⟨its, _, pl, _⟩ := I.list hq
      refine ⟨pl.isList.typeIs, fun a e => ?_⟩
      cases e
      obtain ⟨o, n, e, c, hd, _⟩ := pl
      exact ⟨o, e, hd⟩
    · refine ⟨⟨o, I.kIn p o hk, hc⟩, fun a e => ?_⟩
      cases e
      exact ⟨o, I.kIn _ o hk, hd⟩
    · have z : ∃ o, s.heap.get? p = some o ∧ o.ExactDict := by
        rcases hk with ⟨kvs, hk⟩ | ⟨kvs, hk⟩
        · obtain ⟨_, _, _, _, o, _, _, e, ex, _⟩ := I.hok p _ hk
          exact ⟨o, e, ex⟩
        · obtain ⟨_, _, _, _, o, _, _, e, ex, _⟩ := I.hok p _ hk
          exact ⟨o, e, ex⟩
      obtain ⟨o, e, ex⟩ := z
      refine ⟨⟨o, e, ex.1⟩, fun a e2 => ?_⟩
      cases e2
      exact ⟨o, e, ex.2.1⟩
    · obtain ⟨o, _, _, _, e, ex, _⟩ := I.hok p _ hk
      refine ⟨⟨o, e, ex.1⟩, fun a e2 => ?_⟩
      cases e2
      exact ⟨o, e, ex.2.1⟩
  | _ => exact False.elim ty
noncomputable def tBM (K : PySem.W.Frag) (T : String) (r : V → List V → Hp → VK → Prop) (to : TE) (t : TA) : TE := fun σ H Q => to σ H fun x H1 => tyV K T x H1 ∧ t σ H1 fun xs H2 => r x xs H2 Q
variable {o e : Expr} {es : List Expr} {to : TE} {t : TA} {name : Str} {apos cpos : Pos} {T id : String} {r : V → List V → Hp → VK → Prop}
theorem pe_bm (pa : PlainAttrs T) (slot : Slot T name id) (hty : typeOf (.builtin id) = pure (.type "method_descriptor")) (hm : MtR X id r) (ho : PE X o to) (ha : PA X (e :: es) t)
    (hbase : attributeBase o name X.env (eval o X.env) = eval o X.env := by rfl)
    (hfew : ((backTo cpos (starEach (e :: es) X.env)).all (fun x => !x.1) && (backToKw cpos (keywordEach [] X.env)).all (fun x => x.1.isSome)
      && decide ((e :: es).length + ([] : List Keyword).length + (if ([] : List Keyword).isEmpty then 0 else 1) < 30)) = true := by rfl)
    (hline : (apos.endLine == cpos.line) = true := by rfl) (hs : starEach (e :: es) X.env = (false, eval e X.env) :: starEach es X.env := by rfl) (hplain : (backTo cpos (starEach es X.env)).any (·.1) = false := by rfl) :
    PE X (.Call (.Attribute o name apos) (e :: es) [] cpos) (tBM X.K T r to t) := by
  intro pins s σ H Q I h
  refine wpAny_Call_method_late hbase hfew hline rfl (thn (ho pins s σ H _ I h) fun v s1 zz_ => ?_)
  obtain ⟨x, H1, I1, r1, ty, q1⟩ := zz_
  obtain ⟨h1, h2⟩ := tyV_is I1 r1 ty
  refine ⟨T, id, pa, slot, hty, h1, h2, ?_⟩
  have hA := ha cpos pins s1 σ H1 _ I1 q1
  rw [hs] at hA ⊢
  refine Calls.callWith_builtin (by show (false || (backTo cpos (starEach es X.env)).any (·.1)) = false; rw [hplain] <;> rfl) (Calls.evalArgs_plain ?_)
  exact thn hA fun us s2 ⟨vs, H2, I2, r2, q2⟩ => hm pins s2 σ H2 x vs v us Q I2 r1 r2 q2
end
end L2
namespace L2
open PySem PySem.Spec PyProof.Rows
noncomputable def MtM (X : Cx) (id : String) (r : V → List V → Hp → VK → Prop) : Prop :=
  ∀ (pins : List (Addr × Obj)) (s : Shared) (σ : St) (H : Hp) (x : V) (xs : List V) (v : Value) (us : List Value) (Q : VK), Inv X pins σ H s → RelV x v → Vals xs us → r x xs H Q →
    wpAny (model X.prog X.w) X.A (call (.builtin id) (v :: us)) (EP X pins σ Q) X.xe s
theorem Vals.one {x : V} {us : List Value} (h : Vals [x] us) : ∃ u, us = [u] ∧ RelV x u := by
  cases h with
  | cons r t => cases t; exact ⟨_, rfl, r⟩
theorem Vals.rep {xs : List V} {us : List Value} (h : Vals xs us) : ∀ k : Nat, Vals (List.replicate k xs).flatten (List.replicate k us).flatten
  | 0 => .nil
  | k + 1 => by
    rw [List.replicate_succ, List.replicate_succ, List.flatten_cons, List.flatten_cons]
    exact Vals.append h (Vals.rep h k)
theorem foldl_rep (its : List Value) : ∀ (k : Nat) (acc : List Value),
    List.foldl (fun x1 x2 => x1 ++ x2) acc.toArray (List.replicate k its.toArray) = (acc ++ (List.replicate k its).flatten).toArray
  | 0, acc => by simp
  | k + 1, acc => by
    have e : acc.toArray ++ its.toArray = (acc ++ its).toArray := by simp
    have e2 : (acc ++ its) ++ (List.replicate k its).flatten = acc ++ (List.replicate (k + 1) its).flatten := by
      rw [List.replicate_succ, List.flatten_cons, List.append_assoc]
    rw [← e2, ← foldl_rep its k (acc ++ its), ← e, List.replicate_succ, List.foldl_cons]
section
variable {X : Cx} {pins : List (Addr × Obj)} {σ : St} {H : Hp} {s : Shared} {l b : Addr} {xs ys zs : List V}
theorem Inv.lset {its its' : List Value} {n : Nat} {f : Array Value → Array Value} {t' : Nat} (I : Inv X pins σ H s) (hH : H l = some (.lst xs))
    (e : s.heap.get? l = some { cls := .type "list", data := .seq its.toArray n }) (hf : f its.toArray = its'.toArray) (hv : Vals ys its') (hz : ys.length ≤ sizeLine) :
    Inv X pins σ (upd H l (.lst ys)) { s with heap := s.heap.update l (Obj.mapSeq f), toks := t' } := by
  have q := PySem.IsL.update e f
  rw [hf] at q
  refine I.write (x := l) (e := l) (by rw [hH]; exact trivial) (.inl rfl) (fun b' u hb hu => (Heap.get?_update_other s.heap (Obj.mapSeq f) (Ne.symm hb)).trans hu) ⟨_, q⟩ ?_
  exact ⟨hz, its', _, hv, q⟩
theorem Inv.lnew {its : List Value} {t' : Nat} (I : Inv X pins σ H s) (hv : Vals ys its) (hz : ys.length ≤ sizeLine) :
    Inv X pins σ (upd H s.heap.objs.size (.lst ys)) { s with heap := s.heap.push { cls := .type "list", data := .seq its.toArray }, toks := t' } :=
  I.laid (fun _ _ q => Heap.get?_push_of_some _ q) (Nat.le_refl _) ⟨hz, its, 0, hv, Heap.get?_push_size _ rfl⟩
theorem Inv.fresh (I : Inv X pins σ H s) : H s.heap.objs.size = none := I.hok.fresh (Nat.le_refl _)
theorem Inv.lstM (I : Inv X pins σ H s) (hH : H l = some (.lst xs)) : xs.length ≤ sizeLine ∧ ∃ (its : List Value) (n : Nat), Vals xs its ∧ xs.length = its.length ∧ s.heap.get? l = some { cls := .type "list", data := .seq its.toArray n } := by
  obtain ⟨z, its, n, r, e⟩ := I.hok l _ hH
  exact ⟨z, its, n, r, r.length, e⟩
theorem notLongL {n : Nat} (h : n ≤ sizeLine) : Builtin.List.listTooLong n = false := by
  unfold Builtin.List.listTooLong
  exact decide_eq_false (by omega)
end
section
variable {X : Cx}
inductive rAppend_P (x : V) (vs : List V) (H : Hp) (Q : VK) : Prop
  | mk (l xs y : _) (h1 : x = .ref l) (h2 : vs = [y]) (h3 : H l = some (.lst xs)) (h4 : xs.length < sizeLine) (h5 : Q .non (upd H l (.lst (xs ++ [y])))) : rAppend_P x vs H Q
noncomputable def rAppend : V → List V → Hp → VK → Prop := fun x vs H Q => rAppend_P x vs H Q
theorem mt_append : MtM X "list.append" rAppend := by
  intro pins s σ H x vs v us Q I rx rv h
  obtain ⟨l, xs, y, rfl, rfl, hH, hz, q⟩ := h
  cases rx
  obtain ⟨u, rfl, ru⟩ := rv.one
  obtain ⟨z, its, n, r, hl, e⟩ := I.lstM hH
  refine call_meets F.slot_list_append ⟨_, e, rfl⟩ F.entry_list_append (F.args_list_append_2 _ _) (PySem.list_append l its.toArray n u (by rw [List.size_toArray]; omega)) ⟨e, ?_⟩
  refine ⟨.non, _, I.lset (its' := its ++ [u]) hH e (by simp) (r.append (.cons ru .nil)) ?_, rfl, q⟩
  rw [List.length_append, List.length_singleton]
  omega
inductive rCat_P (x : V) (y : V) (H : Hp) (Q : VK) : Prop
  | mk (l b xs zs : _) (h1 : x = .ref l) (h2 : y = .ref b) (h3 : H l = some (.lst xs)) (h4 : H b = some (.lst zs)) (h5 : xs.length + zs.length ≤ sizeLine) (h6 : ∀ p, H p = none → Q (.ref p) (upd H p (.lst (xs ++ zs)))) : rCat_P x y H Q
noncomputable def rCat : R2 := fun x y H Q => rCat_P x y H Q
theorem op_cat : OpR X (binaryOp .Add) rCat := by
  intro pins s σ H x y v u Q I rx ry h
  obtain ⟨l, b, xs, zs, rfl, rfl, hH, hB, hz, q⟩ := h
  cases rx
  cases ry
  obtain ⟨z, its, n, r, hl, e⟩ := I.lstM hH
  obtain ⟨z2, its2, n2, r2, hl2, e2⟩ := I.lstM hB
  refine PySem.P.add_list e e2 ?_ (by rw [List.size_toArray, List.size_toArray]; omega)
  have ea : its.toArray ++ its2.toArray = (its ++ its2).toArray := by simp
  rw [ea]
  exact ⟨.ref _, _, I.lnew (t' := s.toks) (r.append r2) (by rw [List.length_append]; omega), rfl, q _ I.fresh⟩
noncomputable def rRep : R2 := fun x y H Q => ∃ l k xs, x = .ref l ∧ y = .int k ∧ H l = some (.lst xs) ∧ -(2 ^ 63) ≤ k ∧ k < 2 ^ 63 ∧ xs.length * k.toNat ≤ sizeLine ∧
  ∀ p, H p = none → Q (.ref p) (upd H p (.lst (List.replicate k.toNat xs).flatten))
theorem len_rep {α : Type} (xs : List α) (k : Nat) : (List.replicate k xs).flatten.length = k * xs.length := by
  induction k with
  | zero => simp
  | succ k ih => rw [List.replicate_succ, List.flatten_cons, List.length_append, ih, Nat.succ_mul, Nat.add_comm]
theorem op_rep : OpR X (binaryOp .Mult) rRep := by
  intro pins s σ H x y v u Q I rx ry h
  obtain ⟨l, k, xs, rfl, rfl, hH, h1, h2, hz, q⟩ := h
  cases rx
  obtain ⟨t, rfl⟩ := ry
  obtain ⟨z, its, n, r, hl, e⟩ := I.lstM hH
  have hlen : its.toArray.size * k.toNat ≤ sizeLine := by rw [List.size_toArray, ← hl]; exact hz
  have hcap : ¬ its.toArray.size * k.toNat > (2 ^ 63 - 1) / 8 := by
    have : (sizeLine : Nat) ≤ (2 ^ 63 - 1) / 8 := by decide
    omega
  have hfit : ¬ (!Builtin.List.listFitsIndex k) = true := by
    rw [fitsIndex_both h1 h2]
    exact Bool.false_ne_true
  have hlong : ¬ Builtin.List.listTooLong (its.toArray.size * k.toNat) = true := by
    rw [notLongL hlen]
    exact Bool.false_ne_true
  have hnew : List.foldl (fun x1 x2 => x1 ++ x2) #[] (List.replicate (if its.toArray.isEmpty = true then 0 else k.toNat) its.toArray) = (List.replicate k.toNat its).flatten.toArray := by
    have f0 : ∀ m : Nat, List.foldl (fun x1 x2 => x1 ++ x2) #[] (List.replicate m its.toArray) = (List.replicate m its).flatten.toArray := fun m => by
      have := foldl_rep its m []
      rw [List.nil_append] at this
      exact this
    rw [f0]
    cases its with
    | nil => simp
    | cons a r' => rw [if_neg (by simp)]
  refine wpAny_binaryOp_repeat_ref (T := "list") (U := "int") (by decide) ⟨_, e, rfl⟩ (fun s' => typeIs_int s' k t) noFill_list_mul F.fills_int_mul F.slot_int_rmul repeat_list F.slot_int_index.lookup
    (call_meets F.slot_int_rmul (typeIs_int s k t) F.entry_int_rmul (F.args_int_rmul_2 _ _) (int___rmul___int_list k t l its.toArray n)
      ⟨e, rfl, ⟨_, e, rfl⟩, call_meets F.slot_list_mul ⟨_, e, rfl⟩ F.entry_list_mul (F.args_list_mul_2 _ _) (AutoListH.list___mul___list_int_3 l its.toArray n k t hfit hcap hlong) ⟨e, ?_⟩⟩)
  rw [hnew]
  exact ⟨.ref _, _, I.lnew (t' := s.toks) (r.rep k.toNat) (by rw [len_rep, Nat.mul_comm]; exact hz), rfl, q _ I.fresh⟩
end
section
variable {prog : Program} {w : World} {A : Around} {E : Value → Shared → Prop} {s : Shared}
end
section
variable {X : Cx}
end
end L2
namespace L2
open PySem PySem.Spec PyProof.Rows
section
variable {κ : Type} [DecidableEq κ]
noncomputable def putK (kvs : List (κ × V)) (k : κ) (v : V) : List (κ × V) :=
  if (kvs.any fun kv => decide (kv.1 = k)) = true then kvs.map (fun kv => if kv.1 = k then (kv.1, v) else kv) else kvs ++ [(k, v)]
theorem length_putK (kvs : List (κ × V)) (k : κ) (v : V) : (putK kvs k v).length ≤ kvs.length + 1 := by
  unfold putK
  split
  · rw [List.length_map]; omega
  · rw [List.length_append, List.length_cons, List.length_nil]; omega
theorem KV.any {kvs : List (κ × V)} {vs : List (κ × Value)} (r : KV kvs vs) (k : κ) : (kvs.any fun kv => decide (kv.1 = k)) = vs.any fun kv => decide (kv.1 = k) := by
  unfold KV at r
  induction r with
  | nil => rfl
  | cons h t ih => rw [List.any_cons, List.any_cons, ih, h.1]
theorem KV.repl {kvs : List (κ × V)} {vs : List (κ × Value)} (r : KV kvs vs) (k : κ) {y : V} {u : Value} (ry : RelV y u) :
    KV (kvs.map fun kv => if kv.1 = k then (kv.1, y) else kv) (vs.map fun kv => if kv.1 = k then (kv.1, u) else kv) := by
  unfold KV at r ⊢
  induction r with
  | nil => exact .nil
  | @cons p q ps qs h t ih =>
    rw [List.map_cons, List.map_cons]
    refine .cons ?_ ih
    obtain ⟨h1, h2⟩ := h
    by_cases e : p.1 = k
    · rw [if_pos e, if_pos (h1.symm.trans e)]; exact ⟨h1, ry⟩
    · rw [if_neg e, if_neg (fun z => e (h1.trans z))]; exact ⟨h1, h2⟩
theorem KV.put {kvs : List (κ × V)} {vs : List (κ × Value)} (r : KV kvs vs) (k : κ) {y : V} {u : Value} (ry : RelV y u) : KV (putK kvs k y) (stored vs k u) := by
  unfold putK stored
  rw [r.any k]
  by_cases e : (vs.any fun kv => decide (kv.1 = k)) = true
  · rw [if_pos e, if_pos e]; exact r.repl k ry
  · rw [if_neg e, if_neg e]; exact Paired.snoc r ⟨rfl, ry⟩
end
theorem kV_is {P : Program} {w : World} {k : Key} {u : Value} (r : RelV (kV k) u) : (mixKind P w).is k u = true := by
  cases k with
  | inl i => obtain ⟨t, e⟩ := (show ∃ t, u = Value.int i t from r); subst e; exact mixKind_int P w i t
  | inr x => obtain ⟨t, e⟩ := (show ∃ t, u = Value.str x t from r); subst e; exact mixKind_str P w x t
section
variable {P : Program} {w : World} {H : Hp} {h : Heap} {a : Addr}
theorem rd_of {u : HO} (ok : HOk P w H h) (e : Rd H a u) : ObjOk P w H h a u := e.ok ok
theorem dk_rd {kvs : List (Key × V)} (ok : HOk P w H h) (e : Rd H a (.dK kvs)) : kvs.length ≤ sizeLine ∧ (a == sysModules) = false ∧ ∃ vs, KV kvs vs ∧ h.DictOf (mixKind P w) a vs :=
  show ObjOk P w H h a (.dK kvs) from rd_of ok e
theorem dk_of {kvs : List (Key × V)} (ok : HOk P w H h) (e : H a = some (.dK kvs)) : kvs.length ≤ sizeLine ∧ (a == sysModules) = false ∧ ∃ vs, KV kvs vs ∧ h.DictOf (mixKind P w) a vs := dk_rd ok (.inl e)
end
section
variable {X : Cx} {pins : List (Addr × Obj)} {σ : St} {H : Hp} {s : Shared} {a : Addr} {y v : V} {u r : Value} {o : Option V} {A : Around} {E : Value → Shared → Prop}
theorem Inv.big (I : Inv X pins σ H s) : sysModules < s.heap.objs.size := by
  have h : mainGlobals < s.heap.objs.size := (I.mod.glob.keeps I.bk).lt
  exact Nat.lt_trans (by decide) h
theorem d_write {h' : Heap} {t' : Nat} {ob : HO} (I : Inv X pins σ H s) (mu : Mut (H a)) (hs : Heap.SameBut a s.heap h') (he : ∃ q, h'.get? a = some q) (new : ObjOk X.prog X.w (upd H a ob) h' a ob) :
    Inv X pins σ (upd H a ob) { s with heap := h', toks := t' } :=
  I.write (x := a) (e := a) mu (.inl rfl) (fun b q hb z => (hs.2 b hb).trans z) he new
theorem dk_new {P : Program} {w : World} {H' : Hp} {h' : Heap} {kvs : List (Key × V)} {vs : List (Key × Value)} (z : kvs.length ≤ sizeLine) (hd : (a == sysModules) = false) (rel : KV kvs vs) (dd : h'.DictOf (mixKind P w) a vs) :
    ObjOk P w H' h' a (.dK kvs) := ⟨z, hd, vs, rel, dd⟩
end
section
variable {X : Cx} {pins : List (Addr × Obj)} {σ : St} {H : Hp} {s : Shared} {a : Addr} {kvs : List (Key × V)} {k : Key} {u : Value} {A : Around} {E : Value → Shared → Prop}
end
section
variable {X : Cx} {o i e value : Expr} {pos pos' tpos : Pos} {td ty tv : TE}
end
theorem dk_empty {P : Program} {w : World} {H : Hp} (h : Heap) (hb : sysModules < h.objs.size) : ObjOk P w H (h.push { cls := .type "dict", data := .dict #[] }) h.objs.size (.dK []) :=
  ⟨Nat.zero_le _, beq_eq_false_iff_ne.mpr (Ne.symm (Nat.ne_of_lt hb)), [], .nil, Heap.DictOf.new h⟩
section
variable {X : Cx} {pos : Pos}
end
noncomputable def tPairs : List (TE × TE) → St → Hp → (List (V × V) → Hp → Prop) → Prop
  | [], _, H, Q => Q [] H
  | (tk, tv) :: r, σ, H, Q => tk σ H fun x H1 => tv σ H1 fun y H2 => tPairs r σ H2 fun ps H3 => Q ((x, y) :: ps) H3
noncomputable abbrev VV : List (V × V) → List (Value × Value) → Prop := Paired fun p q => RelV p.1 q.1 ∧ RelV p.2 q.2
noncomputable def PPs (X : Cx) (pos : Pos) (keys : List (Option Expr)) (values : List Expr) (trs : List (TE × TE)) : Prop :=
  ∀ (pins : List (Addr × Obj)) (s : Shared) (σ : St) (H : Hp) (Q : List (V × V) → Hp → Prop), Inv X pins σ H s → tPairs trs σ H Q →
    wpAny (model X.prog X.w) X.A (evalPairs (pairTrees keys values X.env pos)) (fun vs s' => ∃ ps H', Inv X pins σ H' s' ∧ VV ps vs ∧ Q ps H') X.xe s
theorem pps_nil {X : Cx} {pos : Pos} : PPs X pos [] [] [] := fun pins s σ H Q I h => pairTrees_nil_walk ⟨[], H, I, .nil, h⟩
theorem pps_cons {X : Cx} {pos : Pos} {k v : Expr} {ks : List (Option Expr)} {vs : List Expr} {tk tv : TE} {trs : List (TE × TE)} (hk : PE X k tk) (hv : PE X v tv) (hr : PPs X pos ks vs trs) :
    PPs X pos (some k :: ks) (v :: vs) ((tk, tv) :: trs) := fun pins s σ H Q I h =>
  pairTrees_cons_walk (thn (hk pins s σ H _ I h) fun u s1 ⟨x, H1, I1, rx, q1⟩ => thn (hv pins s1 σ H1 _ I1 q1) fun w2 s2 ⟨y, H2, I2, ry, q2⟩ =>
    thn (hr pins s2 σ H2 _ I2 q2) fun ws s3 ⟨ps, H3, I3, rel, q3⟩ => ⟨(x, y) :: ps, H3, I3, .cons ⟨rx, ry⟩ rel, q3⟩)
noncomputable def mergeK (kvs more : List (Key × V)) : List (Key × V) := more.foldl (fun acc kv => putK acc kv.1 kv.2) kvs
theorem KV.merge : ∀ {more : List (Key × V)} {rs : List (Key × Value)} {kvs : List (Key × V)} {vs : List (Key × Value)}, KV more rs → KV kvs vs → KV (mergeK kvs more) (merged vs rs) := by
  intro more rs kvs vs r
  unfold KV at r
  induction r generalizing kvs vs with
  | nil => intro q; exact q
  | @cons p q ps qs h t ih =>
    intro r0
    have e : KV (putK kvs p.1 p.2) (stored vs q.1 q.2) := by
      have := r0.put p.1 h.2
      rw [← h.1]; exact this
    exact ih e
theorem length_mergeK : ∀ (more kvs : List (Key × V)), (mergeK kvs more).length ≤ kvs.length + more.length
  | [], kvs => by show kvs.length ≤ kvs.length + 0; omega
  | p :: r, kvs => by
    have h1 := length_mergeK r (putK kvs p.1 p.2)
    have h2 := length_putK kvs p.1 p.2
    show (mergeK (putK kvs p.1 p.2) r).length ≤ _
    rw [List.length_cons]; omega
theorem carries_of {P : Program} {w : World} : ∀ {kvs : List (Key × V)} {ws : List (Value × Value)}, VV (kvs.map fun kv => (kV kv.1, kv.2)) ws → ∃ rs, Carries (mixKind P w) ws rs ∧ KV kvs rs
  | [], _, r => by rw [List.map_nil] at r; cases r; exact ⟨[], True.intro, .nil⟩
  | p :: kvs, _, r => by
    rw [List.map_cons] at r
    cases r with
    | @cons a b as bs h t =>
      obtain ⟨rs, c, q⟩ := carries_of (P := P) (w := w) t
      obtain ⟨b1, b2⟩ := b
      exact ⟨(p.1, b2) :: rs, ⟨kV_is h.1, rfl, c⟩, .cons ⟨rfl, h.2⟩ q⟩
noncomputable def tDisp (trs : List (TE × TE)) : TE := fun σ H Q => ∀ p, H p = none → tPairs trs σ (upd H p (.dK [])) fun ps H2 => H2 p = some (.dK []) ∧ ∃ kvs : List (Key × V), ps = kvs.map (fun kv => (kV kv.1, kv.2)) ∧ kvs.length ≤ 15 ∧ Q (.ref p) (upd H2 p (.dK (mergeK [] kvs)))
theorem pe_disp {X : Cx} {pos : Pos} {keys : List (Option Expr)} {values : List Expr} {trs : List (TE × TE)} (h : PPs X pos keys values trs) (hall : keys.all (·.isSome) = true) (hl : keys.length = values.length) (h0 : keys ≠ [])
    (h15 : keys.length ≤ 15) : PE X (.Dict keys values pos) (tDisp trs) := by
  intro pins s σ H Q I q
  have hn := I.hok.fresh (Nat.le_refl s.heap.objs.size)
  have I1 := I.laid (a := s.heap.objs.size) (o := .dK []) (h' := s.heap.push { cls := .type "dict", data := .dict #[] }) (t' := s.toks) (fun _ _ q => Heap.get?_push_of_some _ q) (Nat.le_refl _) (dk_empty s.heap I.big)
  refine wpAny_Dict_walk (knd := mixKind X.prog X.w) hall hl h0 h15 (thn (h pins _ σ _ _ I1 (q _ hn)) fun ws s2 zz_ => ?_)
  obtain ⟨ps, H2, I2, rel, e, kvs, ep, lk, q2⟩ := zz_
  subst ep
  obtain ⟨rs, c, rk⟩ := carries_of (P := X.prog) (w := X.w) rel
  obtain ⟨z, hd, vs0, r0, dd⟩ := dk_of I2.hok e
  cases r0
  refine ⟨rs, c, dd, fun h' dd' hs => ⟨.ref s.heap.objs.size, _, ?_, rfl, q2⟩⟩
  have hz : (mergeK [] kvs).length ≤ sizeLine := by
    have h1 := length_mergeK kvs []
    rw [List.length_nil] at h1
    rw [sizeLine_eq]; omega
  have he : ∃ q, h'.get? s.heap.objs.size = some q := let ⟨q, _, _, hq, _⟩ := dd'; ⟨q, hq⟩
  exact d_write I2 (by rw [e]; exact True.intro) hs he (dk_new hz hd (rk.merge .nil) dd')
section
variable {X : Cx} {pins : List (Addr × Obj)} {σ : St} {H : Hp} {s : Shared} {a : Addr} {y d : V} {u r : Value} {o : Option V} {A : Around} {E : Value → Shared → Prop}
end
section
variable {X : Cx} {o e f : Expr} {apos cpos : Pos} {td ty tx : TE}
end
section
variable {X : Cx} {pins : List (Addr × Obj)} {σ : St} {H : Hp} {s : Shared} {a : Addr} {kvs : List (Key × V)} {A : Around} {E : Value → Shared → Prop}
end
section
variable {X : Cx} {pins : List (Addr × Obj)} {σ : St} {H : Hp} {s : Shared} {a : Addr} {y : V} {u : Value} {A : Around} {E : Value → Shared → Prop}
end
end L2
namespace Att
open PySem PySem.W PySem.Calls PyProof.Rows
theorem ints_of_wellAll {P : Params} {h : Heap} : ∀ (ns : List Int) (vs : List Value), WellAll P h vs (ns.map WData.int) → IntsAre vs ns := by
  intro ns
  induction ns with
  | nil =>
    intro vs w
    rw [List.map_nil] at w
    cases w
    exact .nil
  | cons n ns ih =>
    intro vs w
    rw [List.map_cons] at w
    cases w with
    | cons a b =>
      cases a
      exact .cons _ _ (ih _ b)
theorem script_of {l : OpenLaw} {n : Nat} (hn : l.most = some n) {P : Params} {h : Heap} {args : List WData} {vals : List Value}
    (hpre : l.row.toRowW.claim.pre args = true) (hwl : WellAll P h vals args) :
    ∃ a vs ns, vals = [Value.ref a] ∧ args = [WData.list (ns.map WData.int)] ∧ h.get? a = some { cls := .type "list", data := .seq vs.toArray } ∧ IntsAre vs ns ∧ ns.length ≤ n := by
  have hsh : WShape.hasAll [] args [.list .int] = true := (pre_splitW hpre).1
  have hc : l.pre.holds [] { args := args } = true := (pre_splitW hpre).2
  obtain ⟨d, r, rfl, h1, h2⟩ := hasAllW_cons hsh
  obtain rfl := hasAllW_nil h2
  obtain ⟨xs, rfl, h3⟩ := hasW_list h1
  obtain ⟨ns, rfl⟩ := items_int h3
  have hlen : ns.length ≤ n := by
    unfold OpenLaw.pre at hc
    have h4 : (WTm.not (.lt (.lit (.int (n : Int))) (.len (.arg 0)))).holds [] { args := [.list (ns.map .int)] } = true := by
      have h4 := (holds_andW hc).1
      rw [hn] at h4
      exact h4
    have h5 := condW_of h4 (w_not (w_lt w_lit (w_len_list (w_arg rfl))))
    rw [List.length_map] at h5
    refine Nat.le_of_not_lt fun q => ?_
    have q' : (n : Int) < ((ns.length : Nat) : Int) := by omega
    first
      | (rw [decide_eq_true q'] at h5; exact absurd h5 (by decide))
      | (simp at h5; omega)
  cases hwl with
  | cons w1 w2 =>
    cases w2
    cases w1 with
    | list ho hall => exact ⟨_, _, ns, rfl, rfl, ho, ints_of_wellAll ns _ hall, hlen⟩
theorem post_true (l : OpenLaw) (args : List WData) : l.row.toRowW.claim.post args (.bool true) args = true :=
  postW_of (r := l.row.toRowW) (X := (true == true))
    (show WShape.has [] (.bool true) .bool = true by first | rfl | decide | simp [WShape.has, WShape.arms, WShape.armsAll])
    (show (WTm.eq .res (.lit (.bool true))).value [] { args := args, res := some (.bool true), after := args } = some (.bool (true == true)) from w_eq_bool (w_res rfl) w_lit) rfl
theorem attach_call {l : OpenLaw} {n : Nat} {q : Program} {loose : List Str} {XP : (Str → Option Value) → Heap → Prop} {YP : World → Heap → Prop} {d : DefRec}
    (hn : l.most = some n) (hdf : d.params.defaults = [])
    (call : ∀ (w : World) (s₀ s₁ : Shared) (mg mb : Str → Option Value) (fa : Addr) (o : Obj) (pm cd doc : Value) (a : Addr) (vs : List Value) (ns : List Int),
      Ground q loose [] XP w s₀ mg mb s₁.heap → YP w s₁.heap →
      s₁.heap.get? fa = some o → o.data = .func (docDef d.name d.params d.body d.scope pm cd doc) → s₁.heap.CodeRec cd d.name → mg d.name = some (.ref fa) →
      s₁.heap.get? a = some { cls := .type "list", data := .seq vs.toArray } → IntsAre vs ns → ns.length ≤ n → s₁.gens = #[] →
      codeAny (model l.prog w) callerA (.call (.ref fa) ⟨[.ref a], []⟩) (fun r s' => r = .ok (.ret (.bool true)) ∧ OldK s₁.heap s'.heap ∧ s'.os = s₁.os ∧ AllBare s'.gens) s₁) :
    WalkO q loose XP YP l.row.toRowW d [] (fun f vs => PySem.call f vs) := by
  intro w s₀ s₁ mg mb G Y fa o pm cd doc dV kV ho hd hcd hD hmg hg args vals as hpre hlay hrd hwl hlo
  obtain rfl : dV = .none := Dflts.none hD hdf
  obtain rfl : kV = .none := Dflts.noKw hD
  obtain ⟨a, vs, ns, rfl, rfl, hobj, hints, hlen⟩ := script_of hn hpre hwl
  refine enter_call (codeAny_mono (call w s₀ s₁ mg mb fa o pm cd doc a vs ns G Y ho (fd_plain hd) hcd hmg hobj hints hlen hg) fun r s' hq => ?_)
  obtain ⟨rfl, h2, h3, h4⟩ := hq
  exact ⟨.inl ⟨.bool true, .bool true, [], rfl, fun _ => rfl, .bool true, post_true l _, fun _ => ⟨List.Pairwise.nil, fun _ hm => (nomatch hm)⟩⟩, h2, h3, h4⟩
section
variable {prog : Program} {w : World} {A : Around} {E : Value → Shared → Prop} {s : Shared} {K : Frag}
end
end Att
namespace L2
open PySem PySem.Spec PyProof.Rows
theorem vals_ints : ∀ {vs : List Value} {ns : List Int}, IntsAre vs ns → Vals (ns.map V.int) vs
  | _, _, .nil => .nil
  | _, _, .cons n t h => .cons ⟨t, rfl⟩ (vals_ints h)
noncomputable def Only (H : Hp) : Prop := ∀ b, H b = none ∨ ∃ o xs, H b = some (.frz o (.lst xs))
theorem law_call {P : Program} {w : World} {K : PySem.W.Frag} {mg mb : Str → Option Value} {CX : CXT} {k : Nat} {fa a : Addr} {fd : FuncData} {x : Str} {sp : Sp} {s₁ : Shared} {vs : List Value} {ns : List Int}
    (KX : K.In s₁.heap) (hns : s₁.heap.Ns mainGlobals mg) (hb : s₁.heap.Ns builtinsNs mb) (hbb : ∀ x : Str, x ≠ "__name__" → mb x = bootBuiltins x) (hlim : s₁.heap.NoLimit) (hg : s₁.gens = #[])
    (ha : s₁.heap.get? a = some { cls := .type "list", data := .seq vs.toArray }) (hi : IntsAre vs ns) (hl : ns.length ≤ sizeLine) (hr : Room k callerA)
    (F : ∀ base : Heap, K.In base → base.Ns mainGlobals mg → FnOk P w K mg base CX k fa fd [x] sp) (hbind : ∀ (s : Shared) (u : Value), BindsTo s fd ⟨[u], []⟩ [(x, u)])
    (hsp : ∀ H : Hp, Only H → SqL K H a (ns.map V.int) → sp [.ref a] H (fun v _ => v = .bl true) fun _ _ _ => False)
    (hCX : ∀ H e s', CX [] H s₁ (fun _ _ _ => False) e s' → False) :
    codeAny (model P w) callerA (.call (.ref fa) ⟨[.ref a], []⟩) (fun r s' => r = .ok (.ret (.bool true)) ∧ OldK s₁.heap s'.heap ∧ s'.os = s₁.os ∧ AllBare s'.gens) s₁ := by
  have rv := vals_ints hi
  have lenV := hi.length
  -- from an abstract heap in which nothing but the script may be tracked
  have core : ∀ H : Hp, Only H → SqL K H a (ns.map V.int) → HOk P w H s₁.heap → (∀ b, H b ≠ none → b = a) → (H a ≠ none → K.lookup a = none) →
      codeAny (model P w) callerA (.call (.ref fa) ⟨[.ref a], []⟩) (fun r s' => r = .ok (.ret (.bool true)) ∧ OldK s₁.heap s'.heap ∧ s'.os = s₁.os ∧ AllBare s'.gens) s₁ := by
    intro H hO hS hok hA hK
    have base_of : ∀ {b : Addr} {o : Obj}, s₁.heap.get? b = some o → H b = none → (hidT s₁.heap H).get? b = some o := fun e n => hidT_get e n
    have noA : ∀ {b : Addr} {o : Obj} {es : Array DictEntry} {ep : Nat}, s₁.heap.get? b = some o → o.data = .dict es ep → H b = none := fun {b o es ep} e d => by
      cases q : H b with
      | none => rfl
      | some u =>
        have e' : b = a := hA b (by rw [q]; simp)
        subst e'
        rw [ha] at e; cases e
        have d' : Data.seq vs.toArray _ = Data.dict es ep := d
        cases d'
    have nsK : ∀ {b : Addr} {m : Str → Option Value}, s₁.heap.Ns b m → (hidT s₁.heap H).Ns b m := fun {b m} ⟨o, es, ep, e, d, r⟩ => ⟨o, es, ep, base_of e (noA e d), d, r⟩
    have hKb : K.In (hidT s₁.heap H) := fun b o e => base_of (KX b o e) (by
      cases q : H b with
      | none => rfl
      | some u =>
        have e' : b = a := hA b (by rw [q]; simp)
        subst e'
        rw [hK (by rw [q]; simp)] at e; cases e)
    have hM : Mod K mg (hidT s₁.heap H) := ⟨hKb, nsK hns, ⟨mb, nsK hb, hbb⟩, let ⟨mc, h1, h2⟩ := hlim; ⟨mc, nsK h1, h2⟩⟩
    have e0 : Env0 P w K mg (hidT s₁.heap H) callerA [] s₁ H := ⟨rfl, hM, fun b o e => of_hidT e, Nat.le_of_eq (hidT_size _ _), trivial, fun b hb => absurd (show b ∈ ([] : List Addr) from hb) (by simp), hok, .of_eq hg⟩
    refine codeAny_mono ((F _ hKb (nsK hns)).run callerA [] s₁ H ⟨[.ref a], []⟩ [.ref a] [.ref a] _ _ hr e0 (hbind s₁ (.ref a)) (.cons rfl .nil) (hsp H hO hS)) fun r s' h => ?_
    cases r with
    | error e => exact (hCX H e s' h).elim
    | ok fl =>
      cases fl with
      | next => exact False.elim h
      | brk => exact False.elim h
      | cont => exact False.elim h
      | ret u =>
        obtain ⟨v, H', os, bare, un, hok', r', q⟩ := h
        have q' : v = .bl true := q
        subst q'
        obtain rfl : u = Value.bool true := r'
        refine ⟨rfl, OldK.of_keep fun b o e => ?_, os, bare⟩
        cases q : H b with
        | none => exact un.keep b o e q (by intro z; exact absurd (show b ∈ ([] : List Addr) from z) (by simp)) (by simp)
        | some u =>
          rcases hO b with z | ⟨ob, xs, z⟩
          · rw [q] at z; cases z
          · have z2 := un.frzs b ob _ z
            obtain ⟨e1, _⟩ := hok b _ z
            obtain ⟨e2, _⟩ := hok' b _ z2
            rw [e] at e1; cases e1
            exact e2
  cases hk : K.lookup a with
  | some o =>
    -- the script is one of the module's own objects
    have e := KX a o hk
    rw [ha] at e
    cases e
    refine core (fun _ => none) (fun _ => .inl rfl) (.inr ⟨_, vs.toArray, _, hk, rfl, rfl, rfl, by rw [List.size_toArray, lenV]; exact hl, by simpa using rv⟩) (fun b u z => by have z' : (none : Option HO) = some u := z; cases z') (fun b z => absurd rfl z) fun z => absurd rfl z
  | none =>
    refine core (fun b => if b = a then some (.frz { cls := .type "list", data := .seq vs.toArray } (.lst (ns.map V.int))) else none) (fun b => ?_) (.inl (.inr ⟨{ cls := .type "list", data := .seq vs.toArray }, if_pos rfl⟩)) (fun b u z => ?_) (fun b z => ?_) fun _ => hk
    · by_cases hb : b = a
      · exact .inr ⟨_, _, if_pos hb⟩
      · exact .inl (if_neg hb)
    · by_cases hb : b = a
      · have z' := (if_pos hb).symm.trans z
        cases z'
        subst hb
        exact ⟨ha, by rw [List.length_map]; exact hl, vs, _, rv, ha⟩
      · have z' := (if_neg hb).symm.trans z
        cases z'
    · by_cases hb : b = a
      · exact hb
      · exact absurd (if_neg hb) z
end L2
namespace L2
open PySem PySem.Spec PyProof.Rows
theorem walk_of {l : PySem.W.OpenLaw} {n k : Nat} {q : Program} {loose : List Str} {XP : (Str → Option Value) → Heap → Prop} {YP : World → Heap → Prop} {d : DefRec} {K : Params → PySem.W.Frag} {CX : World → CXT} {sp : World → Sp} {x : Str}
    (hn : l.most = some n) (hn2 : n ≤ sizeLine) (hdf : d.params.defaults = []) (hr : Room k callerA)
    (hY : ∀ (w : World) (h : Heap), YP w h → (K w.params).In h)
    (F : ∀ (w : World) (mg : Str → Option Value) (fa : Addr) (h : Heap), (K w.params).In h → h.Ns mainGlobals mg → mg d.name = some (.ref fa) →
      ∃ fd : FuncData, (∀ (s : Shared) (u : Value), BindsTo s fd ⟨[u], []⟩ [(x, u)]) ∧
        ∀ base : Heap, (K w.params).In base → base.Ns mainGlobals mg → FnOk l.prog w (K w.params) mg base (CX w) k fa fd [x] (sp w))
    (hsp : ∀ (w : World) (H : Hp) (a : Addr) (ns : List Int), ns.length ≤ n → Only H → SqL (K w.params) H a (ns.map V.int) → sp w [.ref a] H (fun v _ => v = .bl true) fun _ _ _ => False)
    (hCX : ∀ (w : World) (H : Hp) (s : Shared) (e : Value) (s' : Shared), CX w [] H s (fun _ _ _ => False) e s' → False) :
    PySem.W.WalkO q loose XP YP l.row.toRowW d [] (fun f vs => PySem.call f vs) := by
  refine Att.attach_call hn hdf fun w s₀ s₁ mg mb fa o pm cd doc a vs ns G Y ho hd hcd hmg hobj hints hlen hg => ?_
  have KX := hY w _ Y
  obtain ⟨fd, hb, hF⟩ := F w mg fa _ KX G.T.g hmg
  exact law_call KX G.T.g G.T.b G.T.builtins G.T.nolimit hg hobj hints (Nat.le_trans hlen hn2) hr hF hb (fun H hO hS => hsp w H a ns hlen hO hS) fun H e s' => hCX w H s₁ e s'
end L2
namespace L2
open PySem PySem.Spec PyProof.Rows
noncomputable def inClass (s : Stmt) (j : Nat) : Stmt := match s with
  | .ClassDef _ _ _ body _ _ _ _ _ _ _ => body.getD j (.Pass ⟨0, 0, 0, 0⟩)
  | _ => .Pass ⟨0, 0, 0, 0⟩
noncomputable def defArgs (s : Stmt) : Arguments := match s with
  | .FunctionDef _ a _ _ _ _ _ _ _ _ => a
  | _ => { posonlyargs := [], args := [], vararg := none, kwonlyargs := [], kw_defaults := [], kwarg := none, defaults := [] }
noncomputable def defBody (s : Stmt) : List Stmt := match s with
  | .FunctionDef _ _ b _ _ _ _ _ _ _ => b
  | _ => []
noncomputable def defScope (s : Stmt) : Scope := match s with
  | .FunctionDef _ _ _ _ _ _ sc _ _ _ => sc
  | _ => { kind := .function, names := [], isGenerator := false, isCoroutine := false }
noncomputable abbrev CX0 : CXT := fun _ _ _ _ _ _ => False
noncomputable abbrev E0 : XK := fun _ _ _ => False
theorem pass0 {X : Cx} : Passes CX0 X E0 := fun _ _ _ _ _ _ _ h => h.elim
structure Fun (K : PySem.W.Frag) (x qual : Str) (st : Stmt) (f : Addr) (fd : FuncData) : Prop where
  ex : ∃ (oc : Value) (od : Option Addr) (kV doc pm : Value) (an : Option Addr) (cdv ct : Value) (osl : Array (Option Value)),
    fd = PySem.W.fnOf x qual (defArgs st) (defBody st) (defScope st) .none kV doc pm an cdv ct ∧ K.lookup f = some ⟨oc, od, .func fd, osl⟩ ∧ PySem.W.codeIn K cdv qual = true
  kp : PySem.W.keepIn K (.ref f) = true
section
variable {P : Program} {w : World} {K : PySem.W.Frag} {mg : Str → Option Value} {base : Heap}
theorem Fun.ok {x qual : Str} {st : Stmt} {f : Addr} {fd : FuncData} {N ps : List Str} {k : Nat} {sp : Sp} (F : Fun K x qual st f fd) (S : FnScope N ps (defScope st)) (len : ∀ vs H Q E, sp vs H Q E → vs.length = ps.length)
    (hbody : ∀ (cdv : Value) (A : Around) (outer : List Env) (s : Shared) (H : Hp) (vs : List V) (Q : VK) (E : XK), Room k (A.deeper (envOfC qual (defScope st) s.heap.objs.size f cdv)) → sp vs H Q E →
      ∃ t, PSs (cxOf CX0 P w K mg base N qual (defScope st) f cdv A outer s H E).nox (defBody st) t ∧ t { nx := fun _ H' => Q .non H', rt := Q } (start N vs) H) : FnOk P w K mg base CX0 (k + 1) f fd ps sp := by
  obtain ⟨oc, od, kV, doc, pm, an, cdv, ct, osl, rfl, lk, hcd⟩ := F.ex
  refine fn_of lk hcd S len fun A outer s H vs Q E hr hsp => ?_
  obtain ⟨t, h, q⟩ := hbody cdv A outer s H vs Q E hr hsp
  exact ⟨t, h.nox, q⟩
theorem Fun.binds {x qual : Str} {st : Stmt} {f : Addr} {fd : FuncData} {ps : List Str} (F : Fun K x qual st f fd)
    (h : ∀ (kV doc pm : Value) (an : Option Addr) (cdv ct : Value) (us : List Value), us.length = ps.length → bindArgs (PySem.W.fnOf x qual (defArgs st) (defBody st) (defScope st) .none kV doc pm an cdv ct) ⟨us, []⟩ = pure (ps.zip us)) : Binds K fd ps [] := by
  obtain ⟨oc, od, kV, doc, pm, an, cdv, ct, osl, rfl, lk, hcd⟩ := F.ex
  exact .all (h kV doc pm an cdv ct)
theorem fun_mk {x qual : Str} {st : Stmt} {f : Addr} {oc : Value} {od an : Option Addr} {osl : Array (Option Value)} {kV doc pm cdv ct : Value} (l : K.lookup f = some ⟨oc, od, .func (PySem.W.fnOf x qual (defArgs st) (defBody st) (defScope st) .none kV doc pm an cdv ct), osl⟩)
    (c : PySem.W.codeIn K cdv qual = true) (k : PySem.W.keepIn K (.ref f) = true) : Fun K x qual st f (PySem.W.fnOf x qual (defArgs st) (defBody st) (defScope st) .none kV doc pm an cdv ct) := ⟨⟨oc, od, kV, doc, pm, an, cdv, ct, osl, rfl, l, c⟩, k⟩
end
theorem hu_of {A : Around} {k : Nat} (hr : Room k A) : A.units + 1 < cLine := Nat.lt_of_le_of_lt (Nat.add_le_add_left (by decide : 1 ≤ 64) _) hr.units
theorem small1000 {n : Nat} (h : n ≤ 1000) : n < sizeLine := Nat.lt_of_le_of_lt h (by decide)
section
variable {X : Cx}
theorem pv (i : Nat) {x : Str} {pos : Pos} (hN : X.N[i]? = some x := by rfl) (hv : Vis X.env.scope x := by first | exact Or.inl rfl | exact Or.inr (Or.inl rfl) | exact Or.inr (Or.inr rfl)) (hd : (x == ("__debug__" : Str)) = false := by decide)
    (hcd : (x == ("__classdict__" : Str)) = false := by decide) : PE X (.Name x pos) (tVar i) := pe_var hN hv hd hcd
end
theorem iteF {A B : Prop} (h : B) : if false = true then A else B := by
  rw [if_neg Bool.false_ne_true]
  exact h
theorem iteT {A B : Prop} (h : A) : if true = true then A else B := by
  rw [if_pos rfl]
  exact h
noncomputable def Same (H H' : Hp) : Prop := ∀ b o, H b = some o → H' b = some o
theorem Same.refl (H : Hp) : Same H H := fun _ _ h => h
theorem Same.trans {H H1 H2 : Hp} (a : Same H H1) (b : Same H1 H2) : Same H H2 := fun c o h => b c o (a c o h)
theorem Same.seq {K : PySem.W.Frag} {H H' : Hp} {a : Addr} {xs : List V} (e : Same H H') (h : SqL K H a xs) : SqL K H' a xs := by
  rcases h with (h | ⟨o, h⟩) | h
  · exact .inl (.inl (e _ _ h))
  · exact .inl (.inr ⟨o, e _ _ h⟩)
  · exact .inr h
section
variable {κ : Type} [DecidableEq κ]
end
end L2
set_option Elab.async false
set_option linter.all false
set_option maxRecDepth 100000
namespace L2
open PySem PySem.Spec PyProof.Rows
section
variable {X : Cx} {pins : List (Addr × Obj)} {σ : St} {H : Hp} {s : Shared} {h' : Heap}
theorem Inv.turnLaid {ch : List Addr} {a : Addr} {o : HO} {t' : Nat} (I : Inv X pins σ H s) (k : ∀ b u, b ∉ ch → s.heap.get? b = some u → h'.get? b = some u) (hf : ∀ b ∈ ch, FpOk X pins H b)
    (hp : s.heap.objs.size ≤ a) (new : ObjOk X.prog X.w (upd H a o) h' a o) : Inv X pins σ (upd H a o) { s with heap := h', toks := t' } := by
  have hn : H a = none := I.hok.fresh hp
  refine I.step (g' := s.gens) (d' := s.drawn) (ch := ch) (fun b hb => ?_) (fun b u _ _ hc e _ => k b u hc e) (fun b u _ _ hc e _ => ⟨u.slots, k b u hc e⟩)
    (fun b u _ e n => ?_) (fun b u hc e => ⟨u, k b u hc e⟩) (fun b xs e => ?_) (fun b u v e => ?_) (fun b ps e => ?_) (fun m hm => ?_) (fun b u e => ?_) I.bare
  · obtain ⟨_, f1, _, f3, f4, f5⟩ := hf b hb
    exact ⟨f3, f1, f4, f5⟩
  · rw [upd_ne (Nat.ne_of_lt (Nat.lt_of_lt_of_le (Heap.lt_size e) hp))]; exact n
  · rw [upd_ne (ne_of_none e hn)]; exact e
  · rw [upd_ne (ne_of_none e hn)]; exact e
  · exact ⟨#[], by rw [upd_ne (ne_of_none e hn), e]; simp⟩
  · obtain ⟨ob, es, ep, ho, r⟩ := hm
    exact ⟨ob, es, ep, k _ ob (fun z => (hf _ z).2.1 rfl) ho, r⟩
  · by_cases hb : b = a
    · subst hb; rw [upd_same] at e; cases e; exact new
    · rw [upd_ne hb] at e
      refine (I.hok b u e).stay (fun c v hc q => k c v ?_ q) (fun c q => by rw [upd_ne (ne_of_none q hn)]; exact q) fun c xs q => by rw [upd_ne (ne_of_none q hn)]; exact q
      intro z
      have zz := (hf c z).1
      rcases hc with rfl | hc
      · rw [e] at zz; cases zz
      · rw [hc] at zz; cases zz
theorem Inv.turnL {ch : List Addr} {t' : Nat} (I : Inv X pins σ H s) (k : ∀ b u, b ∉ ch → s.heap.get? b = some u → h'.get? b = some u) (hf : ∀ b ∈ ch, FpOk X pins H b) :
    Inv X pins σ H { s with heap := h', toks := t' } := by
  refine I.step (g' := s.gens) (d' := s.drawn) (ch := ch) (fun b hb => ?_) (fun b u _ _ hc e _ => k b u hc e) (fun b u _ _ hc e _ => ⟨u.slots, k b u hc e⟩)
    (fun b u _ e n => n) (fun b u hc e => ⟨u, k b u hc e⟩) (fun b xs e => e) (fun b u v e => e) (fun b ps e => ⟨#[], by rw [e]; simp⟩) (fun m hm => ?_) (fun b u e => ?_) I.bare
  · obtain ⟨_, f1, _, f3, f4, f5⟩ := hf b hb
    exact ⟨f3, f1, f4, f5⟩
  · obtain ⟨ob, es, ep, ho, r⟩ := hm
    exact ⟨ob, es, ep, k _ ob (fun z => (hf _ z).2.1 rfl) ho, r⟩
  · refine (I.hok b u e).stay (fun c v hc q => k c v ?_ q) (fun c q => q) fun c xs q => q
    intro z
    have zz := (hf c z).1
    rcases hc with rfl | hc
    · rw [e] at zz; cases zz
    · rw [hc] at zz; cases zz
end
noncomputable def Ite (K : PySem.W.Frag) (a : Addr) : It :=
  ⟨fun i H => ∃ xs x, SqL K H a xs ∧ xs[i]? = some x,
   fun i H x H' => ∃ p v, H p = none ∧ x = .ref p ∧ (∀ xs, SqL K H a xs → xs[i]? = some v) ∧ H' = upd H p (.tup [.int i, v]),
   fun i H => ∃ xs, SqL K H a xs ∧ xs.length ≤ i⟩
theorem turn_enum {P : Program} {w : World} {K : PySem.W.Frag} {elts : List Expr} {k : Nat} {pos : Pos} (a e it : Addr) (hne : e ≠ it) :
    Turn P w K (.Tuple elts k pos) (Ite K a) [e, it] e (fun i h => (∃ old, IsEnum h e it i old) ∧ h.IsListIter it a i) where
  mem := by simp
  obj := fun i h st b hb => by
    obtain ⟨⟨old, he⟩, hit⟩ := st
    rcases List.mem_cons.mp hb with rfl | hb
    · exact ⟨_, he, fun v z => by cases z⟩
    · have e1 : b = it := by simpa using hb
      subst e1
      obtain ⟨o, q, c, d⟩ := hit
      exact ⟨o, q, fun v z => by rw [d] at z; cases z⟩
  keep := fun i h h' st kk => by
    obtain ⟨⟨old, he⟩, hit⟩ := st
    exact ⟨⟨old, kk e (by simp) _ he⟩, hit.at fun o q => kk it (by simp) o q⟩
  item := by
    intro X hP hw hK hc i pins s σ H E I hf st hg
    subst hP hw hK
    obtain ⟨xs, x, hq, hx⟩ := hg
    obtain ⟨its, rv, p, hz⟩ := I.list hq
    obtain ⟨u, hu, ru⟩ := rv.get hx
    obtain ⟨⟨old, he⟩, hit⟩ := st
    refine wpAny_pyNext_enum_item he hit p.isList (x := u) (by simpa using hu) hne fun h1 ho hit1 hT hsz hk => ?_
    refine ⟨_, rfl, wpAny_letOwnedTupleGo_enum (s := { s with heap := h1, toks := s.toks + 1 }) ho fun h2 he2 hs2 => ?_⟩
    have hel : e < s.heap.objs.size := Heap.lt_size he
    have hil : it < s.heap.objs.size := by obtain ⟨_, q, _⟩ := hit; exact Heap.lt_size q
    have hT2 : h2.get? s.heap.objs.size = some { cls := .type "tuple", data := .seq #[.int i s.toks, u] } := (hs2.2 _ (Nat.ne_of_gt hel)).trans hT
    have I1 : Inv X pins σ (upd H s.heap.objs.size (.tup [.int i, x])) { s with heap := h2, toks := s.toks + 1 } := by
      refine I.turnLaid (ch := [e, it]) (fun b o hb q => ?_) hf (Nat.le_refl _) ⟨by show 2 ≤ sizeLine; decide, [.int i s.toks, u], .cons ⟨_, rfl⟩ (.cons ru .nil), ⟨_, hT2, rfl, _, rfl⟩⟩
      have b1 : b ≠ e := fun z => hb (by simp [z])
      have b2 : b ≠ it := fun z => hb (by simp [z])
      exact (hs2.2 b b1).trans (hk b o b1 b2 q)
    refine ⟨.ref s.heap.objs.size, _, I1, rfl, ⟨_, x, I.hok.fresh (Nat.le_refl _), rfl, fun ys hy => by rw [I.list_inj hy hq]; exact hx, rfl⟩, ⟨⟨_, by simpa using he2⟩, hit1.at fun o q => (hs2.2 it hne.symm).trans q⟩, fun b hb => ?_⟩
    have hbl : b < s.heap.objs.size := by
      rcases List.mem_cons.mp hb with rfl | hb
      · exact hel
      · have e1 : b = it := by simpa using hb
        rw [e1]; exact hil
    rw [upd_ne (Nat.ne_of_lt hbl)]
    exact (hf b hb).1
  done := by
    intro X hP hw hK hc i pins s σ H E I hf st hg
    subst hP hw hK
    obtain ⟨xs, hq, hx⟩ := hg
    obtain ⟨its, rv, p, hz⟩ := I.list hq
    obtain ⟨⟨old, he⟩, hit⟩ := st
    have hl := rv.length
    refine wpAny_pyNext_enum_end (I.ok.hd hc) he hit p.isList (by simp; omega) fun h' eb => ⟨rfl, I.turnL (t' := s.toks) (ch := [e, it]) (fun b o hb q => eb b o (fun z => hb (by simp [z])) q) hf⟩
  self := fun _ _ _ _ _ st h => by
    obtain ⟨⟨old, he⟩, _⟩ := st
    exact wpAny_pyIter_enum he h
theorem boot_enum : bootBuiltins "enumerate" = some (.type "enumerate") := by decide +kernel
inductive iEnum_P (K : PySem.W.Frag) (R : (It → Hp → Prop)) (vs : List V) (H1 : Hp) : Prop
  | mk (a : _) (h1 : vs = [.ref a]) (h2 : (∃ xs, SqL K H1 a xs)) (h3 : R (Ite K a) H1) : iEnum_P K R vs H1
noncomputable def iEnum (K : PySem.W.Frag) (ta : TA) : TI := fun σ H R => ta σ H fun vs H1 => iEnum_P K R vs H1
section
variable {X : Cx}
theorem pi_enum {a : Expr} {ta : TA} {p pos tp : Pos} {elts : List Expr} {kk : Nat} (hg : Gl X "enumerate") (hm : X.mg "enumerate" = none) (ha : PA X [a] ta) (hs : starEach [a] X.env = [(false, eval a X.env)] := by rfl) :
    PI X (.Tuple elts kk tp) (.Call (.Name "enumerate" p) [a] [] pos) (iEnum X.K ta) := by
  intro pins s σ H R I h
  refine Call_ (ld_blt I hg hm boot_enum (PyProof.Rows.callWith_type1 (thn (ha pos pins s σ H _ I h) fun us s1 zz_ => ?_) hs rfl))
  obtain ⟨vs, H1, I1, r1, q1⟩ := zz_
  obtain ⟨l, e, ⟨xs, hq⟩, q⟩ := q1
  subst e
  obtain ⟨u, rfl, ru⟩ := vals1 r1
  cases ru
  obtain ⟨its, rv, pl, hz⟩ := I1.list hq
  refine call_enumerate_list pl.isList fun h' he hit hsz hk => ?_
  have I2 : Inv X pins σ H1 { s1 with heap := h' } := I1.kept (t' := s1.toks) hk
  refine wpAny_pyIter_enum he ⟨s1.heap.objs.size + 1, [s1.heap.objs.size + 1, s1.heap.objs.size], _, Ite X.K l, H1, rfl, I2, turn_enum l _ _ (Nat.succ_ne_self _), ⟨⟨_, he⟩, hit⟩, fun b hb => ?_, q⟩
  have hb1 : s1.heap.objs.size ≤ b := by
    rcases List.mem_cons.mp hb with e1 | hb
    · rw [e1]; exact Nat.le_succ _
    · have e1 : b = s1.heap.objs.size := by simpa using hb
      rw [e1]; exact Nat.le_refl _
  exact I1.fpOk hb1 (I1.hok.fresh hb1)
end
theorem for_enum {K : PySem.W.Frag} {a : Addr} {xs : List V} {g : TG} {tb : TS} {D : Ends} {σ : St} {H : Hp} (Pv : Nat → St → Hp → Prop) (h0 : Pv 0 σ H) (hl : ∀ i σ H, i ≤ xs.length → Pv i σ H → SqL K H a xs)
    (hs : ∀ i x σ H p, xs[i]? = some x → Pv i σ H → H p = none → g (.ref p) σ (upd H p (.tup [.int i, x])) fun σ2 H2 => tb { D with nx := Pv (i + 1), ct := Pv (i + 1), bk := D.nx } σ2 H2) (hd : ∀ σ H, Pv xs.length σ H → D.nx σ H) :
    ∃ W : Nat → Nat → St → Hp → Prop, (∃ m, W 0 m σ H) ∧ ∀ i m σ H, W i m σ H →
      ((Ite K a).stop i H ∧ D.nx σ H) ∨ ((Ite K a).go i H ∧ ∃ N : St → Hp → Prop, (∀ σ' H', N σ' H' → ∃ m', m' < m ∧ W (i + 1) m' σ' H') ∧ ∀ x H', (Ite K a).yld i H x H' → g x σ H' fun σ2 H2 => tb { D with nx := N, ct := N, bk := D.nx } σ2 H2) := by
  refine ⟨fun i m σ H => m = xs.length - i ∧ i ≤ xs.length ∧ Pv i σ H, ⟨xs.length, by simp, Nat.zero_le _, h0⟩, ?_⟩
  rintro i m σ H ⟨rfl, hi, p⟩
  have q := hl i σ H hi p
  by_cases hlt : i < xs.length
  · refine .inr ⟨⟨xs, xs[i], q, by simp [hlt]⟩, Pv (i + 1), fun σ' H' p' => ⟨xs.length - (i + 1), by omega, rfl, hlt, p'⟩, fun x H' y => ?_⟩
    obtain ⟨t, v, hn, rfl, y, rfl⟩ := y
    exact hs i v σ _ t (y xs q) p hn
  · have e : i = xs.length := by omega
    subst e
    exact .inl ⟨⟨xs, q, Nat.le_refl _⟩, hd σ H p⟩
noncomputable def tyN (H : Hp) : V → Option String
  | .non => some "NoneType"
  | .bl _ => some "bool"
  | .int _ => some "int"
  | .str _ => some "str"
  | .ref a => match H a with
    | some (.lst _) => some "list"
    | some (.tup _) => some "tuple"
    | some (.dK _) => some "dict"
    | _ => none
  | _ => none
noncomputable def isaT (c t : String) : Bool := t == c || (t == "bool" && c == "int")
theorem tyOf_tyN {K : PySem.W.Frag} {H : Hp} {v : V} {t : String} (h : tyN H v = some t) : TyOf K H v (.type t) := by
  cases v with
  | non => cases h; exact .non
  | bl b => cases h; exact .bl b
  | int b => cases h; exact .int b
  | str b => cases h; exact .str b
  | byt b => cases h
  | flt b => cases h
  | ty b => cases h
  | ref a =>
    simp only [tyN] at h
    split at h
    · rename_i e; cases h; exact .lst e
    · rename_i e; cases h; exact .tup e
    · rename_i e; cases h; exact .dK e
    · cases h
noncomputable def tyNames : List String := ["NoneType", "bool", "int", "str", "list", "tuple", "dict"]
theorem tyN_mem {H : Hp} {v : V} {t : String} (h : tyN H v = some t) : t ∈ tyNames := by
  cases v with
  | non => cases h; decide
  | bl b => cases h; decide
  | int b => cases h; decide
  | str b => cases h; decide
  | byt b => cases h
  | flt b => cases h
  | ty b => cases h
  | ref a =>
    simp only [tyN] at h
    split at h <;> first | (cases h; decide) | cases h
noncomputable def isaNames : List String := ["bool", "int", "str", "list", "tuple", "dict"]
theorem isa_ok (K : PySem.W.Frag) {t c : String} (ht : t ∈ tyNames) (hc : c ∈ isaNames) : PySem.W.kitOne K (.type t) (.type c) = some (isaT c t) := by
  simp only [tyNames, isaNames, List.mem_cons, List.not_mem_nil, or_false] at ht hc
  rcases ht with rfl | rfl | rfl | rfl | rfl | rfl | rfl <;> rcases hc with rfl | rfl | rfl | rfl | rfl | rfl <;> (unfold PySem.W.kitOne PySem.W.kitCls; rfl)
inductive rIsi_P (xs : List V) (H : Hp) (Q : VK) : Prop
  | mk (x c t : _) (h1 : xs = [x, .ty c]) (h2 : c ∈ isaNames) (h3 : tyN H x = some t) (h4 : Q (.bl (isaT c t)) H) : rIsi_P xs H Q
noncomputable def rIsi : List V → Hp → VK → Prop := fun xs H Q => rIsi_P xs H Q
section
variable {X : Cx}
theorem call_isi : CallR X (.builtin "isinstance") rIsi := by
  intro pins s σ H xs us Q I r h
  obtain ⟨x, c, t, rfl, hc, ht, q⟩ := h
  obtain ⟨u, w', rfl, ru, rw'⟩ := vals2 r
  cases (show w' = Value.type c from rw')
  exact isinst_ok I ru (tyOf_tyN ht) (isa_ok X.K (tyN_mem ht) hc) fun tk => ⟨.bl _, H, I.tok tk, rfl, q⟩
end
section
variable {X : Cx}
end
mutual
inductive DV (H : Hp) : V → PyData → Prop
  | non : DV H .non .none
  | bl (b) : DV H (.bl b) (.bool b)
  | int (i) : DV H (.int i) (.int i)
  | str (x) : DV H (.str x) (.str x)
  | lst {a xs ds} : Rd H a (.lst xs) → DVs H xs ds → DV H (.ref a) (.list ds)
  | tup {a xs ds} : Rd H a (.tup xs) → DVs H xs ds → DV H (.ref a) (.tuple ds)
inductive DVs (H : Hp) : List V → List PyData → Prop
  | nil : DVs H [] []
  | cons {x xs d ds} : DV H x d → DVs H xs ds → DVs H (x :: xs) (d :: ds)
end
section
variable {P : Program} {w : World} {H : Hp} {h : Heap}
mutual
theorem DV.reads (ok : HOk P w H h) : ∀ {v : V} {d : PyData} {u : Value}, DV H v d → RelV v u → ∃ as, Reads h u d as
  | _, _, u, .non, r => by cases (show u = Value.none from r); exact ⟨_, .none⟩
  | _, _, u, .bl b, r => by cases (show u = Value.bool b from r); exact ⟨_, .bool b⟩
  | _, _, u, .int i, r => by obtain ⟨t, q⟩ := (show ∃ t, u = Value.int i t from r); cases q; exact ⟨_, .int i t⟩
  | _, _, u, .str x, r => by obtain ⟨t, q⟩ := (show ∃ t, u = Value.str x t from r); cases q; exact ⟨_, .str x t⟩
  | _, _, u, .lst (a := a) rd q, r => by
    cases (show u = Value.ref a from r)
    obtain ⟨_, its, n, rv, e⟩ := rd.ok ok
    obtain ⟨as, z⟩ := DVs.reads ok q rv
    exact ⟨_, .list e rfl rfl z⟩
  | _, _, u, .tup (a := a) rd q, r => by
    cases (show u = Value.ref a from r)
    obtain ⟨_, its, rv, ob, e, c, n, d⟩ := rd.ok ok
    obtain ⟨as, z⟩ := DVs.reads ok q rv
    exact ⟨_, .tuple e c d z⟩
theorem DVs.reads (ok : HOk P w H h) : ∀ {vs : List V} {ds : List PyData} {us : List Value}, DVs H vs ds → Vals vs us → ∃ as, ReadsAll h us ds as
  | _, _, _, .nil, .nil => ⟨_, .nil⟩
  | _, _, _, .cons a b, .cons r t => by
    obtain ⟨as, z⟩ := DV.reads ok a r
    obtain ⟨bs, y⟩ := DVs.reads ok b t
    exact ⟨_, .cons z y⟩
end
end
section
variable {X : Cx}
inductive rEqD_P (x : V) (y : V) (H : Hp) (Q : VK) : Prop
  | mk (d e : _) (h1 : DV H x d) (h2 : DV H y e) (h3 : SeqAt.shaped d = true) (h4 : SeqAt.shaped e = true) (h5 : Q (.bl (PyData.eqv d e)) H) : rEqD_P x y H Q
noncomputable def rEqD : R2 := fun x y H Q => rEqD_P x y H Q
inductive rNeD_P (x : V) (y : V) (H : Hp) (Q : VK) : Prop
  | mk (d e : _) (h1 : DV H x d) (h2 : DV H y e) (h3 : SeqAt.shaped d = true) (h4 : SeqAt.shaped e = true) (h5 : Q (.bl (!PyData.eqv d e)) H) : rNeD_P x y H Q
noncomputable def rNeD : R2 := fun x y H Q => rNeD_P x y H Q
theorem op_eqD (hu : X.A.units + 64 < cLine) : OpR X (compareOp .Eq) rEqD := by
  intro pins s σ H x y v u Q I rx ry h
  obtain ⟨d, e, hd, he, sd, se, q⟩ := h
  obtain ⟨as, ra⟩ := hd.reads I.hok rx
  obtain ⟨bs, rb⟩ := he.reads I.hok ry
  exact eq_dataH ra rb sd se hu ⟨.bl _, H, I, rfl, q⟩
theorem op_neD (hu : X.A.units + 64 < cLine) : OpR X (compareOp .NotEq) rNeD := by
  intro pins s σ H x y v u Q I rx ry h
  obtain ⟨d, e, hd, he, sd, se, q⟩ := h
  obtain ⟨as, ra⟩ := hd.reads I.hok rx
  obtain ⟨bs, rb⟩ := he.reads I.hok ry
  exact ne_dataH ra rb sd se hu ⟨.bl _, H, I, rfl, q⟩
end
section
variable {X : Cx}
end
section
variable {X : Cx}
noncomputable def rAddU : R2 := fun x y H Q => rI0 (fun i j => .int (i + j)) x y H Q ∨ rCat x y H Q ∨ ∃ i j, x = .str i ∧ y = .str j ∧ i.length + j.length ≤ sizeLine ∧ Q (.str (i ++ j)) H
theorem uAdd : OpR X (binaryOp .Add) rAddU := op_add.or (op_cat.or op_add_str)
noncomputable def rEqU : R2 := fun x y H Q => rEq x y H Q ∨ rEqD x y H Q
noncomputable def rNeU : R2 := fun x y H Q => rNe x y H Q ∨ rNeD x y H Q
theorem uEq (hU : X.A.units + 64 < cLine) : OpR X (compareOp .Eq) rEqU := op_eq.or (op_eqD hU)
theorem uNe (hU : X.A.units + 64 < cLine) : OpR X (compareOp .NotEq) rNeU := op_ne.or (op_neD hU)
end
theorem boot_tuple' : bootBuiltins "tuple" = some (.type "tuple") := by decide +kernel
theorem boot_list' : bootBuiltins "list" = some (.type "list") := by decide +kernel
theorem boot_int' : bootBuiltins "int" = some (.type "int") := by decide +kernel
theorem boot_bool' : bootBuiltins "bool" = some (.type "bool") := by decide +kernel
theorem boot_str' : bootBuiltins "str" = some (.type "str") := by decide +kernel
theorem boot_len' : bootBuiltins "len" = some (.builtin "len") := by decide +kernel
theorem boot_max' : bootBuiltins "max" = some (.builtin "max") := by decide +kernel
theorem boot_min' : bootBuiltins "min" = some (.builtin "min") := by decide +kernel
theorem boot_abs' : bootBuiltins "abs" = some (.builtin "abs") := by decide +kernel
theorem boot_isinstance' : bootBuiltins "isinstance" = some (.builtin "isinstance") := by decide +kernel
structure Df (K : PySem.W.Frag) (mg : Str → Option Value) (x : Str) (st : Stmt) (ps : List Str) (f : Addr) (fd : FuncData) : Prop where
  F : Fun K x x st f fd
  b : Binds K fd ps []
  m : mg x = some (.ref f)
  k : PySem.W.keepIn K (.ref f) = true
theorem Same.new {H : Hp} {p : Addr} (o : HO) (h : H p = none) : Same H (upd H p o) := fun b u e => by rw [upd_ne (ne_of_none e h)]; exact e
theorem Same.then {H H1 : Hp} (s : Same H H1) {p : Addr} (o : HO) (h : H1 p = none) : Same H (upd H1 p o) := s.trans (Same.new o h)
theorem small60 {n : Nat} (h : n ≤ 1000) : n ≤ sizeLine := Nat.le_of_lt (small1000 h)
theorem iteFF {b : Bool} {A B : Prop} (e : b = false) (h : B) : if b = true then A else B := by rw [e]; exact iteF h
theorem iteTT {b : Bool} {A B : Prop} (e : b = true) (h : A) : if b = true then A else B := by rw [e]; exact iteT h
theorem iteB {b : Bool} {A B : Prop} (h1 : b = true → A) (h2 : b = false → B) : if b = true then A else B := by
  cases b
  · exact iteF (h2 rfl)
  · exact iteT (h1 rfl)
theorem iteD {c A B : Prop} [Decidable c] (h1 : c → A) (h2 : ¬ c → B) : if (decide c) = true then A else B := by
  by_cases h : c
  · rw [decide_eq_true h]; exact iteT (h1 h)
  · rw [decide_eq_false h]; exact iteF (h2 h)
theorem iteND {c A B : Prop} [Decidable c] (h1 : ¬ c → A) (h2 : c → B) : if (!decide c) = true then A else B := by
  by_cases h : c
  · rw [decide_eq_true h]; exact iteF (h2 h)
  · rw [decide_eq_false h]; exact iteT (h1 h)
end L2
set_option Elab.async false
set_option linter.all false
set_option maxRecDepth 100000
namespace L2
open PySem PySem.Spec PyProof.Rows
section
variable {prog : Program} {w : World} {A : Around} {R : Result → Shared → Prop} {s : Shared}
noncomputable abbrev noE : Value → Shared → Prop := fun _ _ => False
theorem compLoop_go {elt target iter : Expr} {ifs : List Expr} {scope : Scope} {pos : Pos} {it acc : Value} {env : Env} (I : Nat → Shared → Prop)
    (turn : ∀ n s, I n s → wpAny (model prog w) A (pyNext it) (fun r s₁ => match r with
      | none => R (.ok .next) s₁
      | some v => wpAny (model prog w) A (letOwnedTupleGo target it v) (fun _ s₀ => wpAny (model prog w) A (assign target env v) (fun _ s₂ =>
          wpAny (model prog w) A (forIn ifs true fun c r => if r = true then do let ok ← isTrue c env (eval c env); pure (ForInStep.yield ok) else pure (ForInStep.yield r)) (fun ok s₃ =>
            if ok = true then wpAny (model prog w) A (eval elt env) (fun x s₄ =>
              wpAny (model prog w) A (call (.builtin "list.append") [acc, x]) (fun _ s₅ => ∃ m, m < n ∧ I m s₅) noE s₄) noE s₃
            else ∃ m, m < n ∧ I m s₃) noE s₂) noE s₀) noE s₁) noE s)
    (n : Nat) (h : I n s) :
    codeAny (model prog w) A (.compLoop (.ListComp elt [⟨target, iter, ifs, 0⟩] scope pos) 0 it acc env) R s := by
  refine codeAny_loop rfl I (fun n s hI => ?_) n h
  show wpAny _ A ((compTurn (.ListComp elt [⟨target, iter, ifs, 0⟩] scope pos) 0 it acc env).onRaise (fun x => do noteFrame x env; theTreesLotGoes x)) _ _ s
  refine wpAny_noted ?_
  rw [compTurn_list]
  refine wpAny_bind (wpAny_standAt (wpAny_bind (wpAny_mono (turn n s hI) (fun r s₁ h₁ => ?_) fun _ _ h' => h'.elim)))
  cases r with
  | none => exact wpAny_pure h₁
  | some v =>
    refine wpAny_bind (wpAny_mono h₁ (fun _ s₀ h₀ => ?_) fun _ _ h' => h'.elim)
    refine wpAny_bind (wpAny_mono h₀ (fun _ s₂ h₂ => wpAny_bind (wpAny_mono h₂ (fun ok s₃ h₃ => ?_) fun _ _ h' => h'.elim)) fun _ _ h' => h'.elim)
    cases ok with
    | false => exact wpAny_pure ⟨rfl, h₃⟩
    | true =>
      exact wpAny_bind (wpAny_bind (wpAny_mono h₃ (fun x s₄ h₄ => wpAny_bind (wpAny_mono h₄ (fun _ s₅ h₅ => wpAny_pure (wpAny_pure ⟨rfl, h₅⟩)) fun _ _ h' => h'.elim)) fun _ _ h' => h'.elim))
end
noncomputable def compCx (X : Cx) (scope : Scope) (N : List Str) (cl : List (Str × Addr)) (C : Addr) (s₀ : Shared) (H₀ : Hp) (ex : List Addr) (pn : List (Addr × Obj)) : Cx where
  prog := X.prog
  w := X.w
  K := X.K
  mg := X.mg
  base := X.base
  A := X.A
  N := N
  s₀ := s₀
  H₀ := H₀
  env := compEnvC scope cl C X.env
  outer := X.stack
  stack := X.stack
  ex := ex
  fn := fun x => !(cl.lookup x).isSome
  calm := X.calm
  pn := pn
  xe := noE
noncomputable def st0 (js : List (Option Nat)) (σ : St) : St := js.map fun o => o.bind fun j => (σ[j]?).join
noncomputable def PTs (X : Cx) (ifs : List Expr) (t : TT) : Prop :=
  ∀ (pins : List (Addr × Obj)) (s : Shared) (σ : St) (H : Hp) (Q : Bool → Hp → Prop), Inv X pins σ H s → t σ H Q →
    wpAny (model X.prog X.w) X.A (forIn ifs true fun c r => if r = true then do let ok ← isTrue c X.env (eval c X.env); pure (ForInStep.yield ok) else pure (ForInStep.yield r)) (TP X pins σ Q) X.xe s
noncomputable def tYes : TT := fun _ H Q => Q true H
theorem pts_nil {X : Cx} : PTs X [] tYes := fun _ _ _ H _ I h => wpAny_tests_nil ⟨H, I, h⟩
noncomputable def compGoal (J : It) (g : TG) (tt : TT) (te : TE) (D : Addr) (Q : VK) (σ0 : St) (H0 : Hp) : Prop :=
  ∃ W : Nat → Nat → St → Hp → Prop, (∃ m, W 0 m σ0 H0) ∧ ∀ i m σ' H', W i m σ' H' →
    (J.stop i H' ∧ Q (.ref D) H') ∨ (J.go i H' ∧ ∃ N : St → Hp → Prop, (∀ σ2 H2, N σ2 H2 → ∃ m', m' < m ∧ W (i + 1) m' σ2 H2) ∧
      ∀ x H2, J.yld i H' x H2 → g x σ' H2 fun σ3 H3 => tt σ3 H3 fun ok H4 => if ok = true then te σ3 H4 fun y H5 => ∃ ys, H5 D = some (.lst ys) ∧ ys.length < sizeLine ∧ N σ3 (upd H5 D (.lst (ys ++ [y]))) else N σ3 H4)
noncomputable def tComp (wi : TI) (g : TG) (tt : TT) (te : TE) (js : List (Option Nat)) : TE := fun σ H Q => wi σ H fun J H1 => ∀ D, H1 D = none → compGoal J g tt te D Q (st0 js σ) (upd H1 D (.lst []))
structure CompOk (X : Cx) (scope : Scope) (N : List Str) (cl : List (Str × Addr)) (js : List (Option Nat)) : Prop where
  clos : closureFor scope X.env = pure cl
  sub : ∀ x c, cl.lookup x = some c → X.env.cells.lookup x = some c
  all : ∀ x, ((relabel scope X.env).names.lookup x = some .cell ∨ (relabel scope X.env).names.lookup x = some .free) → ∃ c, cl.lookup x = some c
  cell : ∀ y ∈ scope.names, y.2 ≠ .cell
  kind : scope.kind = .function
  names : ∀ y ∈ scope.names, y.2 = .local → scope.names.lookup y.1 = some .local
  len : js.length = N.length
  fr : ∀ (i j : Nat) (x : Str), js[i]? = some (some j) → N[i]? = some x → X.N[j]? = some x ∧ X.env.kindOf x = some .cell ∧ ((relabel scope X.env).names.lookup x = some .cell ∨ (relabel scope X.env).names.lookup x = some .free)
section
variable {X : Cx}
theorem st0_get {js : List (Option Nat)} {σ : St} {i : Nat} {v : V} (h : (st0 js σ)[i]? = some (some v)) : ∃ j, js[i]? = some (some j) ∧ σ[j]? = some (some v) := by
  unfold st0 at h
  rw [List.getElem?_map] at h
  cases e : js[i]? with
  | none => rw [e] at h; cases h
  | some o =>
    rw [e] at h
    cases o with
    | none => cases h
    | some j =>
      refine ⟨j, rfl, ?_⟩
      have h' : (σ[j]?).join = some v := by simpa using h
      cases e2 : σ[j]? with
      | none => rw [e2] at h'; cases h'
      | some o2 => rw [e2] at h'; cases o2 with
        | none => cases h'
        | some u => rw [show u = v by simpa using h']
theorem comp_ok {pins : List (Addr × Obj)} {σ : St} {H : Hp} {s : Shared} {scope : Scope} {N : List Str} {cl : List (Str × Addr)} {js : List (Option Nat)} {C : Addr} {fp : List Addr} (k : CompOk X scope N cl js) (I : Inv X pins σ H s)
    (hf : ∀ b ∈ fp, FpOk X pins H b) (hfl : ∀ b ∈ fp, b < s.heap.objs.size) (hC : s.heap.objs.size ≤ C) : (compCx X scope N cl C s H fp (X.pn ++ pins)).Ok where
  mod := I.ok.mod
  kind := k.kind
  glob := I.ok.glob
  blt := I.ok.blt
  above := hC
  inj := fun x y c h1 h2 => I.ok.inj x y c (k.sub _ _ h1) (k.sub _ _ h2)
  has := fun x h => k.all x h
  cab := fun x c h1 h2 => by
    have h1' : (!(cl.lookup x).isSome) = true := h1
    have h2' : cl.lookup x = some c := h2
    rw [h2'] at h1'; cases h1'
  hd := I.ok.hd
  frames := I.ok.frames
  stk := .inl rfl
  exf := fun b hb => ⟨Nat.ne_of_lt (Nat.lt_of_lt_of_le (hfl b hb) hC), fun x c h => (hf b hb).2.2.2.2.1 x c (k.sub _ _ h)⟩
  bs := I.bs
  bsz := Nat.le_trans I.ok.bsz I.sz
  noex := fun b o e hb => by
    rcases (hf b hb).2.2.2.1 with z | z
    · exact I.ok.noex b o e z
    · exact absurd (Nat.lt_of_lt_of_le (Heap.lt_size e) (Nat.le_trans I.ok.bsz z)) (Nat.lt_irrefl _)
  exfs := fun b hb z => by
    rcases List.mem_cons.mp (I.stkSub b z) with e | e
    · exact (hf b hb).2.1 e
    · exact (hf b hb).2.2.1 e
  funs := I.stack
  frf := I.stkFree
theorem comp_inv {pins : List (Addr × Obj)} {σ : St} {H : Hp} {s : Shared} {h1 : Heap} {t' : Nat} {scope : Scope} {N : List Str} {cl : List (Str × Addr)} {js : List (Option Nat)} {C D : Addr} {fp : List Addr} {m : Str → Option Value} (k : CompOk X scope N cl js) (I : Inv X pins σ H s)
    (hf : ∀ b ∈ fp, FpOk X pins H b) (hfl : ∀ b ∈ fp, b < s.heap.objs.size) (hD : s.heap.objs.size ≤ D) (hC : s.heap.objs.size ≤ C) (hDC : D ≠ C)
    (hn : h1.Ns C m) (hl : h1.get? D = some { cls := .type "list", data := .seq ([] : List Value).toArray }) (hk : ∀ b o, s.heap.get? b = some o → h1.get? b = some o) :
    Inv (compCx X scope N cl C s H fp (X.pn ++ pins)) [] (st0 js σ) (upd H D (.lst [])) { s with heap := h1, toks := t' } := by
  have fD : H D = none := I.hok.fresh hD
  have fC : H C = none := I.hok.fresh hC
  have nC : ∀ b, b < s.heap.objs.size → b ≠ C := fun b hb => Nat.ne_of_lt (Nat.lt_of_lt_of_le hb hC)
  refine ⟨comp_ok k I hf hfl hC, rfl, I.bare, ?_, ?_, ?_, ?_, ?_, ?_, ?_, ?_⟩
  · exact (Un.laid (fs := frs X.stack) (ex := fp) (o := .lst []) hk hD fD)
  · refine ⟨m, hn, fun i x v e1 e2 e3 => ?_⟩
    obtain ⟨j, f1, f2⟩ := st0_get e2
    obtain ⟨g1, g2, g3⟩ := k.fr i j x f1 e1
    obtain ⟨m', hn', hl'⟩ := I.loc
    obtain ⟨u, ru, lk⟩ := hl' j x v g1 f2 (.inr (.inl g2))
    refine ⟨u, ru, .inr ⟨g3, ?_⟩⟩
    obtain ⟨c, hc⟩ := k.all x g3
    rcases lk with ⟨z, _⟩ | ⟨_, c', hc', ic⟩
    · rw [g2] at z; cases z
    · have e := k.sub _ _ hc
      rw [hc'] at e; cases e
      obtain ⟨o, ho, hd⟩ := ic
      exact ⟨c, hc, o, hk _ _ ho, hd⟩
  · intro x c h
    obtain ⟨v, o, ho, hd⟩ := I.cell x c (k.sub _ _ h)
    exact ⟨v, o, hk _ _ ho, hd⟩
  · show (upd H D (.lst [])) C = none
    rw [upd_ne hDC.symm]; exact fC
  · intro x c h
    obtain ⟨v, o, ho, hd⟩ := I.cell x c (k.sub _ _ h)
    rw [upd_ne (Nat.ne_of_lt (Nat.lt_of_lt_of_le (Heap.lt_size ho) hD))]
    exact I.freeC x c (k.sub _ _ h)
  · intro p hp
    have hp' : p ∈ X.pn ++ pins := by simpa [compCx] using hp
    obtain ⟨e, n, ne, nf, d⟩ := I.pin p hp'
    have lt := Heap.lt_size e
    refine ⟨hk _ _ e, by rw [upd_ne (Nat.ne_of_lt (Nat.lt_of_lt_of_le lt hD))]; exact n, nC _ lt, fun z => ?_, d⟩
    rcases List.mem_cons.mp (I.stkSub _ z) with e | e
    · exact ne e
    · exact nf e
  · exact I.hok.laid hk hD ⟨Nat.zero_le _, [], 0, .nil, hl⟩
  · show (st0 js σ).length = N.length
    unfold st0
    rw [List.length_map]; exact k.len
theorem pe_comp {elt iter tg : Expr} {ifs : List Expr} {scope : Scope} {pos : Pos} {wi : TI} {g : TG} {tt : TT} {te : TE} {N : List Str} {cl : List (Str × Addr)} {js : List (Option Nat)} (hc : X.calm = true) (k : CompOk X scope N cl js) (hi : PI X tg iter wi)
    (hg : ∀ C s₀ H₀ ex pn, PG (compCx X scope N cl C s₀ H₀ ex pn) tg g) (ht : ∀ C s₀ H₀ ex pn, PTs (compCx X scope N cl C s₀ H₀ ex pn) ifs tt) (he : ∀ C s₀ H₀ ex pn, PE (compCx X scope N cl C s₀ H₀ ex pn) elt te)
    (hs : ∀ x, foldedSetIterable iter X.env x = pure x := by intro _; rfl) :
    PE X (.ListComp elt [⟨tg, iter, ifs, 0⟩] scope pos) (tComp wi g tt te js) := by
  intro pins s σ H Q I h
  rw [eval_ListComp]
  refine wpAny_comprehension_free (use := none) rfl hs k.clos k.kind k.names ?_
  refine thn (hi pins s σ H _ I h) fun v s1 h1 => thn h1 fun itv s2 h2 => ?_
  obtain ⟨it, fp, tn, J, H2, e, I2, T, st2, f2, hD⟩ := h2
  subst e
  refine wpAny_newObj_type (wpAny_newFunctionEnv k.cell (by intro y hy; simp at hy) (fun h₁ hns₁ hsb₁ => ?_) k.kind)
  dsimp only at hns₁ hsb₁ ⊢
  generalize hH2 : s2.heap.push { cls := .type "list", dict := none, data := .seq ([] : List Value).toArray } = P2 at hns₁ hsb₁ ⊢
  have hC : P2.objs.size = s2.heap.objs.size + 1 := by rw [← hH2, Heap.size_push]
  have hDC : s2.heap.objs.size ≠ P2.objs.size := by rw [hC]; exact Nat.ne_of_lt (Nat.lt_succ_self _)
  have hCle : s2.heap.objs.size ≤ P2.objs.size := by rw [hC]; exact Nat.le_succ _
  have old : ∀ b o, s2.heap.get? b = some o → h₁.get? b = some o := fun b o e => hsb₁.extBut b o (Nat.ne_of_lt (Nat.lt_of_lt_of_le (Heap.lt_size e) hCle)) (Heap.get?_push_of_some _ (hH2 ▸ Heap.get?_push_of_some _ e))
  have hacc : h₁.get? s2.heap.objs.size = some { cls := .type "list", data := .seq ([] : List Value).toArray } := hsb₁.extBut _ _ hDC (Heap.get?_push_of_some _ (hH2 ▸ Heap.get?_push_size _ rfl))
  have hfl : ∀ b ∈ fp, b < s2.heap.objs.size := fun b hb => by
    obtain ⟨o, e, _⟩ := T.obj _ _ st2 b hb
    exact Heap.lt_size e
  have fD : H2 s2.heap.objs.size = none := I2.hok.fresh (Nat.le_refl _)
  obtain ⟨W, ⟨m0, w0⟩, turn⟩ := hD _ fD
  have IX : Inv (compCx X scope N cl P2.objs.size s2 H2 fp (X.pn ++ pins)) [] (st0 js σ) (upd H2 s2.heap.objs.size (.lst [])) { s2 with heap := h₁, toks := s2.toks + ([] : List (Str × Value)).length } :=
    comp_inv k I2 f2 hfl (Nat.le_refl _) hCle hDC hns₁ hacc old
  have hg' := hg P2.objs.size s2 H2 fp (X.pn ++ pins)
  have ht' := ht P2.objs.size s2 H2 fp (X.pn ++ pins)
  have he' := he P2.objs.size s2 H2 fp (X.pn ++ pins)
  have stat : ∀ {H' : Hp}, (∀ b ∈ fp, H' b = none) → ∀ b ∈ fp, FpOk (compCx X scope N cl P2.objs.size s2 H2 fp (X.pn ++ pins)) [] H' b := fun hn b hb => by
    obtain ⟨g0, g1, g2, g3, g4, g5⟩ := f2 b hb
    refine ⟨hn b hb, Nat.ne_of_lt (Nat.lt_of_lt_of_le (hfl b hb) hCle), fun z => ?_, .inl hb, fun x c h => g4 x c (k.sub _ _ h), fun p hp => g5 p (by simpa [compCx] using hp)⟩
    rcases List.mem_cons.mp (I2.stkSub b z) with e | e
    · exact g1 e
    · exact g2 e
  have loop : ∀ s₃ : Shared, s₃ = { s2 with heap := h₁, toks := s2.toks + ([] : List (Str × Value)).length } →
      codeAny (model X.prog X.w) X.A (.compLoop (.ListComp elt [⟨tg, iter, ifs, 0⟩] scope pos) 0 (.ref it) (.ref s2.heap.objs.size) (compEnvC scope cl P2.objs.size X.env))
        (compPost (model X.prog X.w) X.A X.xe none (EP X pins σ Q) (.ref s2.heap.objs.size) P2.objs.size) s₃ := by
    rintro s₃ rfl
    refine compLoop_go (fun n s' => ∃ i σ' H', Inv (compCx X scope N cl P2.objs.size s2 H2 fp (X.pn ++ pins)) [] σ' H' s' ∧ tn i s'.heap ∧ (∀ b ∈ fp, H' b = none) ∧ W i n σ' H') ?_ m0
      ⟨0, st0 js σ, _, IX, T.keep _ _ _ st2 (fun b hb o e => old b o e), fun b hb => by rw [upd_ne (Nat.ne_of_lt (hfl b hb))]; exact (f2 b hb).1, w0⟩
    rintro n s3 ⟨i, σ3, H3, I3, st3, fr3, w3⟩
    rcases turn i n σ3 H3 w3 with ⟨stop, qn⟩ | ⟨go, N2, hN, step⟩
    · refine thn (T.done (compCx X scope N cl P2.objs.size s2 H2 fp (X.pn ++ pins)) rfl rfl rfl hc i [] s3 σ3 H3 noE I3 (stat fr3) st3 stop) fun r s4 ⟨hr, I4⟩ => ?_
      subst hr
      obtain ⟨m4, hn4, _⟩ := id I4.loc
      refine ⟨m4, hn4, fun h' hsb => ⟨.ref s2.heap.objs.size, H3, ?_, rfl, qn⟩⟩
      have u4 : Un (frs X.stack) fp H2 H3 s2.heap s4.heap := I4.base
      have ltC : ∀ b o, s2.heap.get? b = some o → b ≠ P2.objs.size := fun b o e => Nat.ne_of_lt (Nat.lt_of_lt_of_le (Heap.lt_size e) hCle)
      have u5 : Un (frs X.stack) fp H2 H3 s2.heap h' :=
        { keep := fun b o e n hb hx => hsb.extBut b o (ltC b o e) (u4.keep b o e n hb hx)
          slot := fun b o e n hb hx => by
            obtain ⟨sl, q⟩ := u4.slot b o e n hb hx
            exact ⟨sl, hsb.extBut b _ (ltC b o e) q⟩
          free := u4.free
          there := fun b o e hx => by
            obtain ⟨o', q⟩ := u4.there b o e hx
            exact ⟨o', hsb.extBut b _ (ltC b o e) q⟩
          tups := u4.tups
          frzs := u4.frzs
          tbls := u4.tbls }
      have fC : H3 P2.objs.size = none := I4.free
      have hok5 : HOk X.prog X.w H3 h' := fun b u e => (I4.hok b u e).stay (fun c v hc' q => hsb.extBut c v (fun z => by
        rcases hc' with y | y
        · rw [y] at z; rw [z, fC] at e; cases e
        · rw [z, fC] at y; cases y) q) (fun _ q => q) fun _ _ q => q
      exact I2.call' (s' := { s4 with heap := h' }) I4.os u5 hok5 I4.bare fun b hb => by
        obtain ⟨g0, g1, g2, g3, g4, g5⟩ := f2 b hb
        exact ⟨g3, g1, g4, g5⟩
    · refine thn (T.item (compCx X scope N cl P2.objs.size s2 H2 fp (X.pn ++ pins)) rfl rfl rfl hc i [] s3 σ3 H3 noE I3 (stat fr3) st3 go) fun r s4 ⟨u, hr, h4⟩ => ?_
      subst hr
      refine thn h4 fun _ s5 zz_ => ?_
      obtain ⟨x, H5, I5, r5, y5, st5, fr5⟩ := zz_
      have I5' := I5.pinned (stat fr5) (T.obj _ _ st5)
      refine thn (hg' _ s5 σ3 H5 x u _ I5' r5 (step x H5 y5)) fun _ s6 zz_ => ?_
      obtain ⟨σ6, H6, I6, q6⟩ := zz_
      refine thn (ht' _ s6 σ6 H6 _ I6 q6) fun ok s7 zz_ => ?_
      obtain ⟨H7, I7, q7⟩ := zz_
      have again : ∀ {s8 : Shared} {σ8 : St} {H8 : Hp}, Inv (compCx X scope N cl P2.objs.size s2 H2 fp (X.pn ++ pins)) ([] ++ pinsAt fp s5.heap) σ8 H8 s8 → N2 σ8 H8 →
          ∃ m, m < n ∧ ∃ i σ' H', Inv (compCx X scope N cl P2.objs.size s2 H2 fp (X.pn ++ pins)) [] σ' H' s8 ∧ tn i s8.heap ∧ (∀ b ∈ fp, H' b = none) ∧ W i m σ' H' := fun {s8 σ8 H8} I8 n8 => by
        obtain ⟨m', hm, w8⟩ := hN σ8 H8 n8
        refine ⟨m', hm, i + 1, σ8, H8, I8.unpinned, T.keep _ _ _ st5 fun b hb o e => (I8.pin (b, o) (List.mem_append_right _ (List.mem_append_right _ (mem_pinsAt hb e)))).1, fun b hb => ?_, w8⟩
        obtain ⟨o, e, d⟩ := T.obj _ _ st5 b hb
        exact (I8.pin (b, o) (List.mem_append_right _ (List.mem_append_right _ (mem_pinsAt hb e)))).2.1
      cases ok with
      | false => exact again I7 (by simpa using q7)
      | true =>
        have q7' : te σ6 H7 fun y H5 => ∃ ys, H5 s2.heap.objs.size = some (.lst ys) ∧ ys.length < sizeLine ∧ N2 σ6 (upd H5 s2.heap.objs.size (.lst (ys ++ [y]))) := by simpa using q7
        refine thn (he' _ s7 σ6 H7 _ I7 q7') fun xv s8 zz_ => ?_
        obtain ⟨y, H8, I8, r8, ys, hy, hlen, n8⟩ := zz_
        refine thn (mt_append (X := compCx X scope N cl P2.objs.size s2 H2 fp (X.pn ++ pins)) _ s8 σ6 H8 (.ref s2.heap.objs.size) [y] (.ref s2.heap.objs.size) [xv] (fun _ H9 => N2 σ6 H9) I8 rfl (.cons r8 .nil) ⟨_, ys, y, rfl, rfl, hy, hlen, n8⟩) fun _ s9 ⟨_, H9, I9, _, n9⟩ => again I9 n9
  exact codeAny_compStart_list (loop _ rfl) (T.self _ 0 _ _ _ (T.keep _ _ _ st2 (fun b hb o e => old b o e)) (loop _ rfl))
end
end L2
set_option Elab.async false
set_option linter.all false
set_option maxRecDepth 100000
namespace L2
open PySem PySem.Spec PyProof.Rows
noncomputable def Its (x : Str) : It := ⟨fun i _ => i < x.cps.size, fun i H v H' => H' = H ∧ ∃ c, x.cps[i]? = some c ∧ v = .str ⟨#[c]⟩, fun i _ => x.cps.size ≤ i⟩
theorem go_str {M : Model} {A : Around} {E : Value → Shared → Prop} {s : Shared} {tg : Expr} {it : Addr} {y : Str} {t : Tok} {Q : Unit → Shared → Prop} (hQ : Q () s) : wpAny M A (letOwnedTupleGo tg (.ref it) (.str y t)) Q E s := by
  unfold letOwnedTupleGo
  cases tg <;> exact wpAny_pure hQ
theorem turn_str {P : Program} {w : World} {K : PySem.W.Frag} {tg : Expr} (it : Addr) (x : Str) (t : Tok) (ty : String) (hty : ty = "str_ascii_iterator" ∨ ty = "str_iterator") :
    Turn P w K tg (Its x) [it] it (fun i h => h.IsStrIter it ty x t i) where
  mem := by simp
  obj := fun i h st b hb => by
    have e : b = it := by simpa using hb
    subst e
    obtain ⟨o, e, c, d⟩ := st
    exact ⟨o, e, fun v z => by rw [d] at z; cases z⟩
  keep := fun i h h' st k => by
    obtain ⟨o, e, r⟩ := st
    exact ⟨o, k it (by simp) o e, r⟩
  item := by
    intro X hP hw hK hc i pins s σ H E I hf st hg
    subst hP hw hK
    obtain ⟨f0, f1, f2, f3, f4, f5⟩ := hf it (by simp)
    have hi : i < x.cps.size := hg
    rcases hty with rfl | rfl
    · refine wpAny_pyNext_ascii_item st (c := x.cps[i]) (by simp [hi]) fun h' st' sb => ?_
      have I1 : Inv X pins σ H { s with heap := h', toks := s.toks + 1 } := I.turned (fun b o hb e => sb.extBut b o hb e) f0 f1 f3 f4 f5
      exact ⟨_, rfl, go_str (s := { s with heap := h', toks := s.toks + 1 }) ⟨.str ⟨#[x.cps[i]]⟩, H, I1, ⟨_, rfl⟩, ⟨rfl, x.cps[i], by simp [hi], rfl⟩, st', fun b hb => (hf b hb).1⟩⟩
    · refine wpAny_pyNext_wide_item st (c := x.cps[i]) (by simp [hi]) fun h' st' sb => ?_
      have I1 : Inv X pins σ H { s with heap := h', toks := s.toks + 1 } := I.turned (fun b o hb e => sb.extBut b o hb e) f0 f1 f3 f4 f5
      exact ⟨_, rfl, go_str (s := { s with heap := h', toks := s.toks + 1 }) ⟨.str ⟨#[x.cps[i]]⟩, H, I1, ⟨_, rfl⟩, ⟨rfl, x.cps[i], by simp [hi], rfl⟩, st', fun b hb => (hf b hb).1⟩⟩
  done := by
    intro X hP hw hK hc i pins s σ H E I hf st hg
    subst hP hw hK
    obtain ⟨f0, f1, f2, f3, f4, f5⟩ := hf it (by simp)
    have hi : x.cps.size ≤ i := hg
    rcases hty with rfl | rfl
    · exact wpAny_pyNext_ascii_end (I.ok.hd hc) st (by simp [hi]) fun h' eb => ⟨rfl, I.turned (t' := s.toks) (fun b o hb e => eb b o hb e) f0 f1 f3 f4 f5⟩
    · exact wpAny_pyNext_wide_end (I.ok.hd hc) st (by simp [hi]) fun h' eb => ⟨rfl, I.turned (t' := s.toks) (fun b o hb e => eb b o hb e) f0 f1 f3 f4 f5⟩
  self := fun _ _ _ _ _ st h => by
    rcases hty with rfl | rfl
    · exact wpAny_pyIter_striter_ascii st h
    · exact wpAny_pyIter_striter_wide st h
noncomputable def iStr (te : TE) : TI := fun σ H R => te σ H fun x H1 => ∃ z, x = .str z ∧ R (Its z) H1
section
variable {X : Cx} {tg : Expr}
theorem pi_str {e : Expr} {te : TE} (he : PE X e te) : PI X tg e (iStr te) := by
  intro pins s σ H R I h
  refine thn (he pins s σ H _ I h) fun v s1 zz_ => ?_
  obtain ⟨x, H1, I1, r1, q1⟩ := zz_
  obtain ⟨z, e, q⟩ := q1
  subst e
  obtain ⟨t, rfl⟩ := r1
  have fin : ∀ ty, (ty = "str_ascii_iterator" ∨ ty = "str_iterator") → PIE X pins σ tg R (.ref s1.heap.objs.size) { s1 with heap := s1.heap.push { cls := .type ty, data := .fields #[.str z t, .int 0 0] } } := fun ty hty => by
    refine ⟨s1.heap.objs.size, [s1.heap.objs.size], _, _, H1, rfl, I1.kept (t' := s1.toks) fun b o e => Heap.get?_push_of_some _ e, turn_str _ z t ty hty, ⟨_, Heap.get?_push_size _ rfl, rfl, rfl⟩, fun b hb => ?_, q⟩
    have e : b = s1.heap.objs.size := by simpa using hb
    subst e
    exact I1.fpOk (Nat.le_refl _) (I1.hok.fresh (Nat.le_refl _))
  cases ha : z.cps.all (· < 128)
  · exact wpAny_pyIter_wide ha (fin _ (.inr rfl))
  · exact wpAny_pyIter_ascii ha (fin _ (.inl rfl))
end
theorem comp_str {x : Str} {g : TG} {tt : TT} {te : TE} {D : Addr} {Q : VK} {σ : St} {H : Hp} (Pv : Nat → St → Hp → Prop) (h0 : Pv 0 σ H)
    (hs : ∀ i c σ H, x.cps[i]? = some c → Pv i σ H → g (.str ⟨#[c]⟩) σ H fun σ3 H3 => tt σ3 H3 fun ok H4 => if ok = true then te σ3 H4 fun y H5 => ∃ ys, H5 D = some (.lst ys) ∧ ys.length < sizeLine ∧ Pv (i + 1) σ3 (upd H5 D (.lst (ys ++ [y]))) else Pv (i + 1) σ3 H4)
    (hd : ∀ σ H, Pv x.cps.size σ H → Q (.ref D) H) :
    compGoal (Its x) g tt te D Q σ H := by
  refine ⟨fun i m σ H => m = x.cps.size - i ∧ i ≤ x.cps.size ∧ Pv i σ H, ⟨x.cps.size, by simp, Nat.zero_le _, h0⟩, ?_⟩
  rintro i m σ H ⟨rfl, hi, p⟩
  by_cases hlt : i < x.cps.size
  · refine .inr ⟨hlt, Pv (i + 1), fun σ' H' p' => ⟨x.cps.size - (i + 1), by omega, rfl, hlt, p'⟩, fun v H' y => ?_⟩
    obtain ⟨rfl, c, hc, rfl⟩ := y
    exact hs i c σ _ hc p
  · have e : i = x.cps.size := by omega
    subst e
    exact .inl ⟨Nat.le_refl _, hd σ H p⟩
theorem comp_list {K : PySem.W.Frag} {a : Addr} {xs : List V} {g : TG} {tt : TT} {te : TE} {D : Addr} {Q : VK} {σ : St} {H : Hp} (Pv : Nat → St → Hp → Prop) (h0 : Pv 0 σ H) (hl : ∀ i σ H, i ≤ xs.length → Pv i σ H → SqL K H a xs)
    (hs : ∀ i x σ H, xs[i]? = some x → Pv i σ H → g x σ H fun σ3 H3 => tt σ3 H3 fun ok H4 => if ok = true then te σ3 H4 fun y H5 => ∃ ys, H5 D = some (.lst ys) ∧ ys.length < sizeLine ∧ Pv (i + 1) σ3 (upd H5 D (.lst (ys ++ [y]))) else Pv (i + 1) σ3 H4)
    (hd : ∀ σ H, Pv xs.length σ H → Q (.ref D) H) :
    compGoal (Itl K a) g tt te D Q σ H := by
  refine ⟨fun i m σ H => m = xs.length - i ∧ i ≤ xs.length ∧ Pv i σ H, ⟨xs.length, by simp, Nat.zero_le _, h0⟩, ?_⟩
  rintro i m σ H ⟨rfl, hi, p⟩
  have q := hl i σ H hi p
  by_cases hlt : i < xs.length
  · refine .inr ⟨⟨xs, xs[i], q, by simp [hlt]⟩, Pv (i + 1), fun σ' H' p' => ⟨xs.length - (i + 1), by omega, rfl, hlt, p'⟩, fun v H' y => ?_⟩
    obtain ⟨e, y⟩ := y
    subst e
    exact hs i v σ _ (y xs q) p
  · have e : i = xs.length := by omega
    subst e
    exact .inl ⟨⟨xs, q, Nat.le_refl _⟩, hd σ H p⟩
theorem bls_get : ∀ {bs : List Bool} {us : List Value}, Vals (bs.map V.bl) us → us = bs.map Value.bool
  | [], _, r => by cases r; rfl
  | b :: bs, _, r => by
    cases r with
    | cons r t =>
      cases r
      rw [bls_get t]; rfl
section
variable {X : Cx}
noncomputable def rAll (K : PySem.W.Frag) : List V → Hp → VK → Prop := fun xs H Q => ∃ (p : Addr) (bs : List Bool), xs = [.ref p] ∧ SqL K H p (bs.map V.bl) ∧ Q (.bl (bs.all id)) H
theorem all_range {α : Type} (f : α → Bool) (d : α) : ∀ l : List α, (List.range l.length).all (fun i => f (l.getD i d)) = l.all f
  | [] => rfl
  | a :: l => by
    rw [List.length_cons, List.range_succ_eq_map, List.all_cons, List.all_map, List.all_cons, ← all_range f d l]
    rfl
theorem call_allB (hc : X.calm = true) : CallR X (.builtin "all") (rAll X.K) := by
  intro pins s σ H xs us Q I r h
  obtain ⟨p, bs, rfl, hq, q⟩ := h
  obtain ⟨u, rfl, ru⟩ := vals1 r
  cases ru
  obtain ⟨its, rv, pl, hz⟩ := I.list hq
  have eits := bls_get rv
  subst eits
  have hlt : p < s.heap.objs.size := by obtain ⟨_, _, e, _⟩ := pl; exact Heap.lt_size e
  refine call_all_walk (wpAny_pyIter_list pl.isList ?_)
  have W := Walks.list (prog := X.prog) (w := X.w) (A := X.A.in1) (I.ok.hd hc) s.heap.objs.size p (Nat.ne_of_lt hlt) (bs.map Value.bool).toArray
  refine ⟨_, _, _, _, _, _, (fun i => (bs.getD i true)), rfl, W, ⟨⟨_, Heap.get?_push_size _ rfl, rfl, rfl⟩, pl.isList.push _⟩, ?_, ?_⟩
  · intro i v s' Q' E' hP hQ
    have hv : (bs.map Value.bool)[i]? = some v := by simpa using hP
    rw [List.getElem?_map] at hv
    cases e : bs[i]? with
    | none => rw [e] at hv; cases hv
    | some b =>
      rw [e] at hv
      cases hv
      have e2 : bs.getD i true = b := by rw [List.getD_eq_getElem?_getD, e]; rfl
      have hQ : Q' (bs.getD i true) s' := hQ
      rw [e2] at hQ
      exact wpAny_truthy_bool hQ
  · intro h' tk hk
    have es : (bs.map Value.bool).toArray.size = bs.length := by simp
    have ea : (List.range (bs.map Value.bool).toArray.size).all (fun i => bs.getD i true) = bs.all id := by rw [es]; exact all_range id true bs
    refine ⟨.bl _, H, ?_, by rw [ea]; rfl, q⟩
    exact I.kept (t' := tk) fun b o e => hk b o (by simp; exact Nat.ne_of_lt (Heap.lt_size e)) (Heap.get?_push_of_some _ e)
end
theorem boot_all' : bootBuiltins "all" = some (.builtin "all") := by decide +kernel
theorem strs_of : ∀ {ys : List Str} {us : List Value}, Vals (ys.map V.str) us → StrsAre us ys
  | [], _, r => by cases r; exact .nil
  | y :: ys, _, r => by
    cases r with
    | cons r t =>
      obtain ⟨k, rfl⟩ := r
      exact .cons y k (strs_of t)
section
variable {X : Cx}
noncomputable def rJoin (K : PySem.W.Frag) : V → List V → Hp → VK → Prop := fun x xs H Q => ∃ (sep : Str) (p : Addr) (ys : List Str), x = .str sep ∧ xs = [.ref p] ∧ SqL K H p (ys.map V.str) ∧ (ys.map (·.length)).sum + ys.length * sep.length ≤ 16777216 ∧ Q (.str (Txt.join sep ys)) H
theorem mt_join : MtR X "str.join" (rJoin X.K) := by
  intro pins s σ H x xs v us Q I rx r h
  obtain ⟨sep, p, ys, rfl, rfl, hq, hz, q⟩ := h
  obtain ⟨t, rfl⟩ := rx
  obtain ⟨u, rfl, ru⟩ := vals1 r
  cases ru
  obtain ⟨its, rv, pl, _⟩ := I.list hq
  exact join_list pl.isList (by simpa using strs_of rv) hz fun t' k => ⟨.str _, H, I.tok k, ⟨_, rfl⟩, q⟩
noncomputable def rSlS : V → Option Int → Option Int → Hp → VK → Prop := fun x lo hi H Q => ∃ z, x = .str z ∧ z.length ≤ sizeLine ∧ Q (.str (Txt.slice z lo hi)) H
theorem sl_str : SlR X rSlS := by
  intro pins s σ H x v vl vu lo hi sl Q I rx hs pl pu h
  obtain ⟨z, rfl, hz, q⟩ := h
  obtain ⟨t, rfl⟩ := rx
  refine ⟨"str", _, F.slot_str_getitem.lookup, typeIs_str _ _ _, ?_⟩
  have fin : ∀ t' k, EP X pins σ Q (.str (Txt.slice z lo hi) t') { s with toks := k } := fun t' k => ⟨.str _, H, I.tok k, ⟨_, rfl⟩, q⟩
  obtain ⟨o, e1, e2, e3⟩ := hs
  cases pl with
  | none =>
    cases pu with
    | none => exact wpAny_getItem_str_slice (l := none) (u := none) (st := none) ⟨o, e1, e2, e3⟩ rfl (post_val_or_str ⟨Nat.le_trans (Txt.slice_le z _ _) hz, fin⟩)
    | int j u => exact wpAny_getItem_str_slice (l := none) (u := some (j, u)) (st := none) ⟨o, e1, e2, e3⟩ rfl (post_val_or_str ⟨Nat.le_trans (Txt.slice_le z _ _) hz, fin⟩)
  | int i ui =>
    cases pu with
    | none => exact wpAny_getItem_str_slice (l := some (i, ui)) (u := none) (st := none) ⟨o, e1, e2, e3⟩ rfl (post_val_or_str ⟨Nat.le_trans (Txt.slice_le z _ _) hz, fin⟩)
    | int j u => exact wpAny_getItem_str_slice (l := some (i, ui)) (u := some (j, u)) (st := none) ⟨o, e1, e2, e3⟩ rfl (post_val_or_str ⟨Nat.le_trans (Txt.slice_le z _ _) hz, fin⟩)
theorem uSl : SlR X (fun x lo hi H Q => rSlL X.K x lo hi H Q ∨ rSlS x lo hi H Q) := sl_list.or sl_str
end
end L2
set_option Elab.async false
set_option linter.all false
set_option maxRecDepth 100000
namespace L2
open PySem PySem.Spec PyProof.Rows
noncomputable def compCl (cells : List (Str × Addr)) : List (Str × NameKind) → List (Str × Addr) → List (Str × Addr)
  | [], acc => acc
  | (n, k) :: r, acc => compCl cells r (if k == .free then (n, (cells.lookup n).getD 0) :: acc else acc)
noncomputable def clStep (env : Env) (x : Str × NameKind) (cs : List (Str × Addr)) : Sem (ForInStep (List (Str × Addr))) := match x with
  | (name, kind) => if (kind == NameKind.free) = true then (do let a ← cellOf env name; pure (ForInStep.yield ((name, a) :: cs))) else pure (ForInStep.yield cs)
theorem clStep_eq {env : Env} {n : Str} {k : NameKind} {acc : List (Str × Addr)} (h : k = .free → ∃ c, env.cells.lookup n = some c) :
    clStep env (n, k) acc = pure (ForInStep.yield (if k == .free then (n, (env.cells.lookup n).getD 0) :: acc else acc)) := by
  by_cases hk : k = .free
  · subst hk
    obtain ⟨c, hc⟩ := h rfl
    show (do let a ← cellOf env n; pure (ForInStep.yield ((n, a) :: acc))) = (pure (ForInStep.yield ((n, (env.cells.lookup n).getD 0) :: acc)) : Sem _)
    unfold cellOf
    rw [hc]
    rfl
  · cases k <;> first | exact absurd rfl hk | rfl
theorem closure_go {env : Env} : ∀ (names : List (Str × NameKind)) (acc : List (Str × Addr)), (∀ y ∈ names, y.2 = .free → ∃ c, env.cells.lookup y.1 = some c) →
    (forIn names acc (clStep env)) = (pure (compCl env.cells names acc) : Sem (List (Str × Addr)))
  | [], acc, _ => rfl
  | (n, k) :: r, acc, h => by
    rw [List.forIn_cons, clStep_eq fun e => h (n, k) List.mem_cons_self e]
    exact closure_go (env := env) r _ fun y hy => h y (List.mem_cons_of_mem _ hy)
theorem closure_cl {scope : Scope} {env : Env} (h : ∀ y ∈ scope.names, y.2 = .free → ∃ c, env.cells.lookup y.1 = some c) : closureFor scope env = pure (compCl env.cells scope.names []) := by
  unfold closureFor
  exact (congrArg (fun (m : Sem (List (Str × Addr))) => m >>= fun cs => pure cs) (closure_go (env := env) scope.names [] h)).trans rfl
theorem compCl_lookup {cells : List (Str × Addr)} {x : Str} : ∀ (names : List (Str × NameKind)) (acc : List (Str × Addr)), (∀ y ∈ names, y.2 = .free → ∃ c, cells.lookup y.1 = some c) → (∀ c, acc.lookup x = some c → cells.lookup x = some c) →
    (∀ c, (compCl cells names acc).lookup x = some c → cells.lookup x = some c) ∧ (((x, NameKind.free) ∈ names ∨ (acc.lookup x).isSome = true) → ((compCl cells names acc).lookup x).isSome = true)
  | [], acc, _, ha => ⟨ha, fun h => h.elim (fun z => nomatch z) id⟩
  | (n, k) :: r, acc, h, ha => by
    unfold compCl
    have hr : ∀ y ∈ r, y.2 = .free → ∃ c, cells.lookup y.1 = some c := fun y hy => h y (List.mem_cons_of_mem _ hy)
    cases hk : (k == NameKind.free) with
    | false =>
      obtain ⟨i1, i2⟩ := compCl_lookup (cells := cells) (x := x) r acc hr ha
      refine ⟨by simpa using i1, fun z => ?_⟩
      have : ((compCl cells r acc).lookup x).isSome = true := i2 (by
        rcases z with z | z
        · rcases List.mem_cons.mp z with e | e
          · cases e; cases hk
          · exact .inl e
        · exact .inr z)
      simpa using this
    | true =>
      obtain ⟨c, hc⟩ := h (n, k) List.mem_cons_self (by simpa using hk)
      have hc : cells.lookup n = some c := hc
      have ek : k = NameKind.free := by simpa using hk
      subst ek
      have ha' : ∀ c', ((n, (cells.lookup n).getD 0) :: acc).lookup x = some c' → cells.lookup x = some c' := fun c' z => by
        rw [List.lookup_cons] at z
        cases e : x == n with
        | true =>
          rw [e] at z
          have e' : x = n := by simpa using e
          rw [e', hc] at *
          simpa using z
        | false => rw [e] at z; exact ha c' z
      obtain ⟨i1, i2⟩ := compCl_lookup (cells := cells) (x := x) r _ hr ha'
      refine ⟨i1, fun z => i2 ?_⟩
      by_cases e : x = n
      · right
        rw [List.lookup_cons, e]; simp
      · rcases z with z | z
        · rcases List.mem_cons.mp z with q | q
          · cases q; exact absurd rfl e
          · exact .inl q
        · right
          rw [List.lookup_cons]
          have : (x == n) = false := by simpa using e
          rw [this]; exact z
theorem lookup_mem {x : Str} {k : NameKind} : ∀ {names : List (Str × NameKind)}, names.lookup x = some k → (x, k) ∈ names
  | [], h => by cases h
  | (n, j) :: r, h => by
    rw [List.lookup_cons] at h
    cases e : x == n with
    | true =>
      rw [e] at h
      have e' : x = n := by simpa using e
      cases h
      rw [e']; exact List.mem_cons_self
    | false => rw [e] at h; exact List.mem_cons_of_mem _ (lookup_mem h)
theorem relabel_mem {scope : Scope} {env : Env} {x : Str} {k : NameKind} (h : (x, k) ∈ (relabel scope env).names) : (x, k) ∈ scope.names ∨ (k = .cell ∧ (x, NameKind.free) ∈ scope.names) := by
  have h' : (x, k) ∈ scope.names.map fun (n, k) => if (k == .free && env.scope.kind == .function && env.kindOf n == some .cell) then (n, .cell) else (n, k) := h
  obtain ⟨⟨n, j⟩, hm, e⟩ := List.mem_map.mp h'
  simp only at e
  split at e
  · rename_i c
    cases e
    have : j = .free := by
      have c1 := (Bool.and_eq_true_iff.mp (Bool.and_eq_true_iff.mp c).1).1
      simpa using c1
    subst this
    exact .inr ⟨rfl, hm⟩
  · cases e; exact .inl hm
theorem lookup_relabel_free {env : Env} {x : Str} (hX : env.scope.kind = .function) (g3 : env.kindOf x = some .cell) : ∀ {names : List (Str × NameKind)}, names.lookup x = some .free →
    (names.map fun (n, k) => if (k == NameKind.free && env.scope.kind == .function && env.kindOf n == some .cell) then (n, NameKind.cell) else (n, k)).lookup x = some .cell
  | [], h => by cases h
  | (n, k) :: r, h => by
    have ih := lookup_relabel_free hX g3 (names := r)
    show List.lookup x ((if (k == NameKind.free && env.scope.kind == .function && env.kindOf n == some .cell) = true then (n, NameKind.cell) else (n, k)) :: _) = _
    rw [List.lookup_cons] at h
    cases e : x == n with
    | true =>
      rw [e] at h
      have e' : x = n := by simpa using e
      have ek : k = .free := by simpa using h
      rw [ek, ← e', if_pos (show (NameKind.free == NameKind.free && env.scope.kind == .function && env.kindOf x == some .cell) = true by rw [hX, g3]; decide), List.lookup_cons]
      simp
    | false =>
      rw [e] at h
      by_cases hc : (k == NameKind.free && env.scope.kind == .function && env.kindOf n == some .cell) = true
      · rw [if_pos hc, List.lookup_cons, e]; exact ih h
      · rw [if_neg hc, List.lookup_cons, e]; exact ih h
theorem CompOk.of {X : Cx} {scope : Scope} {N : List Str} {js : List (Option Nat)} (hkind : scope.kind = .function) (hcell : ∀ y ∈ scope.names, y.2 ≠ .cell) (hnames : ∀ y ∈ scope.names, y.2 = .local → scope.names.lookup y.1 = some .local)
    (hX : X.env.scope.kind = .function) (hfree : ∀ y ∈ scope.names, y.2 = .free → X.env.kindOf y.1 = some .cell ∧ ∃ c, X.env.cells.lookup y.1 = some c) (len : js.length = N.length)
    (hfr : ∀ (i j : Nat) (x : Str), js[i]? = some (some j) → N[i]? = some x → X.N[j]? = some x ∧ scope.names.lookup x = some .free) :
    CompOk X scope N (compCl X.env.cells scope.names []) js where
  clos := closure_cl fun y hy z => (hfree y hy z).2
  sub := fun x c h => (compCl_lookup scope.names [] (fun y hy z => (hfree y hy z).2) (fun c h => by cases h)).1 c h
  all := fun x h => by
    have hm : (x, NameKind.free) ∈ scope.names := by
      rcases h with h | h
      · rcases relabel_mem (lookup_mem h) with z | ⟨_, z⟩
        · exact absurd rfl (hcell _ z)
        · exact z
      · rcases relabel_mem (lookup_mem h) with z | ⟨e, _⟩
        · exact z
        · cases e
    have := (compCl_lookup (cells := X.env.cells) (x := x) scope.names [] (fun y hy z => (hfree y hy z).2) (fun c h => by cases h)).2 (.inl hm)
    exact Option.isSome_iff_exists.mp this
  cell := hcell
  kind := hkind
  names := hnames
  len := len
  fr := fun i j x h1 h2 => by
    obtain ⟨g1, g2⟩ := hfr i j x h1 h2
    obtain ⟨g3, _⟩ := hfree (x, .free) (lookup_mem g2) rfl
    refine ⟨g1, g3, .inl ?_⟩
    exact lookup_relabel_free hX g3 g2
noncomputable def frChk (sc : Scope) (N0 N : List Str) (js : List (Option Nat)) : Bool := (js.zip N).all fun p => match p.1 with
  | none => true
  | some j => N0[j]? == some p.2 && sc.names.lookup p.2 == some .free
theorem frChk_of {sc : Scope} {N0 : List Str} : ∀ {js : List (Option Nat)} {N : List Str}, frChk sc N0 N js = true → ∀ (i j : Nat) (x : Str), js[i]? = some (some j) → N[i]? = some x → N0[j]? = some x ∧ sc.names.lookup x = some .free := by
  intro js N h i j x h1 h2
  have hm : (some j, x) ∈ js.zip N := by
    refine List.mem_of_getElem? (i := i) ?_
    rw [List.getElem?_zip_eq_some]
    exact ⟨h1, h2⟩
  have := List.all_eq_true.mp h _ hm
  simpa using this
theorem CompOk.def {CX : CXT} {P : Program} {w : World} {K : PySem.W.Frag} {mg : Str → Option Value} {base : Heap} {N0 : List Str} {qual : Str} {sc0 : Scope} {f : Addr} {cd : Value} {A : Around} {outer : List Env} {s : Shared} {H : Hp} {E : XK} {scope : Scope}
    (N : List Str) (js : List (Option Nat)) (hk0 : sc0.kind = .function := by rfl) (hk : scope.kind = .function := by rfl) (hcell : ∀ y ∈ scope.names, y.2 ≠ .cell := by decide +kernel) (hnames : ∀ y ∈ scope.names, y.2 = .local → scope.names.lookup y.1 = some .local := by decide +kernel)
    (hfr0 : ∀ y ∈ scope.names, y.2 = .free → sc0.names.lookup y.1 = some .cell := by decide +kernel) (len : js.length = N.length := by rfl) (hfr : frChk scope N0 N js = true := by decide +kernel) :
    CompOk (cxOf CX P w K mg base N0 qual sc0 f cd A outer s H E).nox scope N (compCl (cxOf CX P w K mg base N0 qual sc0 f cd A outer s H E).nox.env.cells scope.names []) js :=
  CompOk.of hk hcell hnames hk0 (fun y hy z => ⟨hfr0 y hy z, Option.isSome_iff_exists.mp (PySem.W.cellsFrom_some _ _ _ (.inl (hfr0 y hy z)))⟩) len (frChk_of hfr)
inductive rEqNil_P (K : PySem.W.Frag) (x : V) (y : V) (H : Hp) (Q : VK) : Prop
  | mk (p b xs : _) (h1 : x = .ref p) (h2 : y = .ref b) (h3 : SqL K H p xs) (h4 : SqL K H b []) (h5 : Q (.bl xs.isEmpty) H) : rEqNil_P K x y H Q
noncomputable def rEqNil (K : PySem.W.Frag) : R2 := fun x y H Q => rEqNil_P K x y H Q
theorem op_eqNil {X : Cx} (hu : X.A.units + 64 < cLine) : OpR X (compareOp .Eq) (rEqNil X.K) := by
  intro pins s σ H x y v u Q I rx ry h
  obtain ⟨p, b, xs, rfl, rfl, hp, hb, q⟩ := h
  cases rx
  cases ry
  obtain ⟨its, rv, pl, _⟩ := I.list hp
  obtain ⟨its2, rv2, pl2, _⟩ := I.list hb
  cases rv2
  have hl := rv.length
  cases xs with
  | nil =>
    cases rv
    exact SeqAt.eq_listAt (e := fun _ => true) pl.isList pl2.isList rfl (by omega) (fun j h1 h2 => by simp at h1) ⟨.bl true, H, I, rfl, q⟩
  | cons a r => exact SeqAt.eq_list_lengthsAt pl.isList pl2.isList (by simp; intro z; rw [z] at hl; cases hl) (by omega) ⟨.bl false, H, I, rfl, q⟩
end L2
set_option Elab.async false
set_option linter.all false
set_option maxRecDepth 100000
namespace L2
open PySem PySem.Spec PyProof.Rows
section
variable {prog : Program} {w : World} {A : Around} {E : Value → Shared → Prop} {s : Shared}
end
section
variable {prog : Program} {w : World} {A : Around} {E : Value → Shared → Prop} {s : Shared}
end
end L2
set_option Elab.async false
set_option linter.all false
set_option maxRecDepth 100000
namespace L2
open PySem PySem.Spec PyProof.Rows
section
variable {X : Cx} {pins : List (Addr × Obj)} {σ : St} {H : Hp} {s : Shared}
end
section
variable {X : Cx}
end
section
variable {X : Cx} {pins : List (Addr × Obj)} {σ : St} {H : Hp} {s : Shared} {A : Around} {E : Value → Shared → Prop} {Q : Value → Shared → Prop} {b : Bool}
end
end L2
set_option Elab.async false
set_option linter.all false
set_option maxRecDepth 100000
namespace L2
open PySem PySem.Spec PyProof.Rows
theorem Same.put {G H : Hp} {p : Addr} (s : Same G H) (n : G p = none) (o : HO) : Same G (upd H p o) := fun c u e => by rw [upd_ne (ne_of_none e n)]; exact s c u e
theorem Same.none {G H : Hp} {p : Addr} (s : Same G H) (n : H p = none) : G p = none := by
  cases e : G p with
  | none => rfl
  | some o => rw [s p o e] at n; cases n
theorem snoc_get {α : Type} {xs : List α} {x y : α} {i : Nat} (h : (xs ++ [x])[i]? = some y) : xs[i]? = some y ∨ (i = xs.length ∧ y = x) := by
  rw [List.getElem?_append] at h
  by_cases hi : i < xs.length
  · rw [if_pos hi] at h; exact .inl h
  · rw [if_neg hi] at h
    have e : i - xs.length = 0 := by
      cases n : i - xs.length with
      | zero => rfl
      | succ k => rw [n] at h; simp at h
    rw [e] at h
    exact .inr ⟨by omega, by simpa using h.symm⟩
theorem atI_mem {xs : List V} {i : Int} (h0 : 0 ≤ i) (h1 : i < xs.length) : ∃ v, atI xs i = some v ∧ v ∈ xs := by
  obtain ⟨n, rfl⟩ := Int.eq_ofNat_of_zero_le h0
  have hn : n < xs.length := by omega
  exact ⟨xs[n], atI_nat (List.getElem?_eq_getElem hn), List.getElem_mem hn⟩
noncomputable def rLof (K : PySem.W.Frag) : List V → Hp → VK → Prop := fun xs H Q => ∃ p ys, xs = [.ref p] ∧ (SqL K H p ys ∨ SqT K H p ys) ∧ ∀ l, H l = none → Q (.ref l) (upd H l (.lst ys))
end L2
set_option Elab.async false
set_option linter.all false
set_option maxRecDepth 100000
namespace L2
open PySem PySem.Spec PyProof.Rows
section
variable {X : Cx}
theorem ps_setC {i : Nat} {x : Str} {pos' pos : Pos} {elt iter tg : Expr} {ifs : List Expr} {scope : Scope} {cpos : Pos} {wi : TI} {g : TG} {tt : TT} {te : TE} {N : List Str} {cl : List (Str × Addr)} {js : List (Option Nat)} (hN : X.N.Nodup) (hi0 : X.N[i]? = some x) (hx : Loc X.env.scope x)
    (hc : X.calm = true) (k : CompOk X scope N cl js) (hi : PI X tg iter wi)
    (hg : ∀ C s₀ H₀ ex pn, PG (compCx X scope N cl C s₀ H₀ ex pn) tg g) (ht : ∀ C s₀ H₀ ex pn, PTs (compCx X scope N cl C s₀ H₀ ex pn) ifs tt) (he : ∀ C s₀ H₀ ex pn, PE (compCx X scope N cl C s₀ H₀ ex pn) elt te)
    (hsw : swapsWith (.ListComp elt [⟨tg, iter, ifs, 0⟩] scope cpos) (some (.Name x pos')) pos.line X.env = pure true := by rfl)
    (hf : X.fn x = true ∨ X.env.scope.names.lookup x = some .local := by first | exact .inl rfl | exact .inr rfl | assumption)
    (hs : ∀ x, foldedSetIterable iter X.env x = pure x := by intro _; rfl) :
    PS X (.Assign [.Name x pos'] (.ListComp elt [⟨tg, iter, ifs, 0⟩] scope cpos) pos) (tAsg (tComp wi g tt te js) (gName i)) := by
  intro pins s σ H D0 I h
  rw [exec_Assign_Name_used _ _ _ _ hsw]
  refine wpAny_bind (wpAny_standAt (wpAny_bind ?_))
  show wpAny _ X.A (do let _ ← comprehension (.ListComp elt [⟨tg, iter, ifs, 0⟩] scope cpos) scope X.env _ (newList []) false (eval iter X.env) (some (assign (.Name x pos') X.env))) _ _ s
  refine wpAny_bind (wpAny_mono (wpAny_comprehension_free (use := some (assign (.Name x pos') X.env)) (Q := fun _ s' => ∃ σ' H', Inv X pins σ' H' s' ∧ D0.nx σ' H') rfl hs k.clos k.kind k.names ?_) (fun _ s' hq => wpAny_pure (wpAny_pure hq)) fun _ _ e => e)
  refine thn (hi pins s σ H _ I h) fun v s1 h1 => thn h1 fun itv s2 h2 => ?_
  obtain ⟨it, fp, tn, J, H2, e, I2, T, st2, f2, hD⟩ := h2
  subst e
  refine wpAny_newObj_type (wpAny_newFunctionEnv k.cell (by intro y hy; simp at hy) (fun h₁ hns₁ hsb₁ => ?_) k.kind)
  dsimp only at hns₁ hsb₁ ⊢
  generalize hH2 : s2.heap.push { cls := .type "list", dict := none, data := .seq ([] : List Value).toArray } = P2 at hns₁ hsb₁ ⊢
  have hC : P2.objs.size = s2.heap.objs.size + 1 := by rw [← hH2, Heap.size_push]
  have hDC : s2.heap.objs.size ≠ P2.objs.size := by rw [hC]; exact Nat.ne_of_lt (Nat.lt_succ_self _)
  have hCle : s2.heap.objs.size ≤ P2.objs.size := by rw [hC]; exact Nat.le_succ _
  have old : ∀ b o, s2.heap.get? b = some o → h₁.get? b = some o := fun b o e => hsb₁.extBut b o (Nat.ne_of_lt (Nat.lt_of_lt_of_le (Heap.lt_size e) hCle)) (Heap.get?_push_of_some _ (hH2 ▸ Heap.get?_push_of_some _ e))
  have hacc : h₁.get? s2.heap.objs.size = some { cls := .type "list", data := .seq ([] : List Value).toArray } := hsb₁.extBut _ _ hDC (Heap.get?_push_of_some _ (hH2 ▸ Heap.get?_push_size _ rfl))
  have hfl : ∀ b ∈ fp, b < s2.heap.objs.size := fun b hb => by
    obtain ⟨o, e, _⟩ := T.obj _ _ st2 b hb
    exact Heap.lt_size e
  have fD : H2 s2.heap.objs.size = none := I2.hok.fresh (Nat.le_refl _)
  obtain ⟨W, ⟨m0, w0⟩, turn⟩ := hD _ fD
  have IX : Inv (compCx X scope N cl P2.objs.size s2 H2 fp (X.pn ++ pins)) [] (st0 js σ) (upd H2 s2.heap.objs.size (.lst [])) { s2 with heap := h₁, toks := s2.toks + ([] : List (Str × Value)).length } :=
    comp_inv k I2 f2 hfl (Nat.le_refl _) hCle hDC hns₁ hacc old
  have hg' := hg P2.objs.size s2 H2 fp (X.pn ++ pins)
  have ht' := ht P2.objs.size s2 H2 fp (X.pn ++ pins)
  have he' := he P2.objs.size s2 H2 fp (X.pn ++ pins)
  have stat : ∀ {H' : Hp}, (∀ b ∈ fp, H' b = none) → ∀ b ∈ fp, FpOk (compCx X scope N cl P2.objs.size s2 H2 fp (X.pn ++ pins)) [] H' b := fun hn b hb => by
    obtain ⟨g0, g1, g2, g3, g4, g5⟩ := f2 b hb
    refine ⟨hn b hb, Nat.ne_of_lt (Nat.lt_of_lt_of_le (hfl b hb) hCle), fun z => ?_, .inl hb, fun x c h => g4 x c (k.sub _ _ h), fun p hp => g5 p (by simpa [compCx] using hp)⟩
    rcases List.mem_cons.mp (I2.stkSub b z) with e | e
    · exact g1 e
    · exact g2 e
  have loop : ∀ s₃ : Shared, s₃ = { s2 with heap := h₁, toks := s2.toks + ([] : List (Str × Value)).length } →
      codeAny (model X.prog X.w) X.A (.compLoop (.ListComp elt [⟨tg, iter, ifs, 0⟩] scope cpos) 0 (.ref it) (.ref s2.heap.objs.size) (compEnvC scope cl P2.objs.size X.env))
        (compPost (model X.prog X.w) X.A X.xe (some (assign (.Name x pos') X.env)) (fun _ s' => ∃ σ' H', Inv X pins σ' H' s' ∧ D0.nx σ' H') (.ref s2.heap.objs.size) P2.objs.size) s₃ := by
    rintro s₃ rfl
    refine compLoop_go (fun n s' => ∃ i σ' H', Inv (compCx X scope N cl P2.objs.size s2 H2 fp (X.pn ++ pins)) [] σ' H' s' ∧ tn i s'.heap ∧ (∀ b ∈ fp, H' b = none) ∧ W i n σ' H') ?_ m0
      ⟨0, st0 js σ, _, IX, T.keep _ _ _ st2 (fun b hb o e => old b o e), fun b hb => by rw [upd_ne (Nat.ne_of_lt (hfl b hb))]; exact (f2 b hb).1, w0⟩
    rintro n s3 ⟨i, σ3, H3, I3, st3, fr3, w3⟩
    rcases turn i n σ3 H3 w3 with ⟨stop, qn⟩ | ⟨go, N2, hN, step⟩
    · refine thn (T.done (compCx X scope N cl P2.objs.size s2 H2 fp (X.pn ++ pins)) rfl rfl rfl hc i [] s3 σ3 H3 noE I3 (stat fr3) st3 stop) fun r s4 ⟨hr, I4⟩ => ?_
      subst hr
      obtain ⟨m4, hn4, _⟩ := id I4.loc
      have u4 : Un (frs X.stack) fp H2 H3 s2.heap s4.heap := I4.base
      have fC : H3 P2.objs.size = none := I4.free
      have I6 : Inv X pins σ H3 s4 := I2.call' (s' := s4) I4.os u4 I4.hok I4.bare fun b hb => by
        obtain ⟨g0, g1, g2, g3, g4, g5⟩ := f2 b hb
        exact ⟨g3, g1, g4, g5⟩
      have fpC : FpOk X pins H3 P2.objs.size := I2.fpOk hCle fC
      have hn4' : s4.heap.Ns P2.objs.size m4 := hn4
      obtain ⟨oC, esC, epC, gC, rC⟩ := id hn4'
      have I7 := I6.pinned (fp := [P2.objs.size]) (fun b hb => by rw [show b = P2.objs.size by simpa using hb]; exact fpC) (fun b hb => ⟨oC, by rw [show b = P2.objs.size by simpa using hb]; exact gC, fun v z => by rw [rC.1] at z; cases z⟩)
      show wpAny _ X.A (assign (.Name x pos') X.env (.ref s2.heap.objs.size)) _ _ s4
      refine wpAny_assign_Name (store_ok I7 hN hi0 hx (v := .ref s2.heap.objs.size) rfl (fun s5 I8 => ?_) hf)
      have g5 := (I8.pin (P2.objs.size, oC) (List.mem_append_right _ (List.mem_append_right _ (mem_pinsAt (by simp) gC)))).1
      refine ⟨m4, hn4'.at' (fun o e => by rw [gC] at e; cases e; exact g5), fun h' hsb => ⟨_, H3, ?_, qn⟩⟩
      exact I8.unpinned.turnL (t' := s5.toks) (ch := [P2.objs.size]) (fun b o hb e => hsb.extBut b o (fun z => hb (by simp [z])) e) (fun b hb => by rw [show b = P2.objs.size by simpa using hb]; exact fpC)
    · refine thn (T.item (compCx X scope N cl P2.objs.size s2 H2 fp (X.pn ++ pins)) rfl rfl rfl hc i [] s3 σ3 H3 noE I3 (stat fr3) st3 go) fun r s4 ⟨u, hr, h4⟩ => ?_
      subst hr
      refine thn h4 fun _ s5 zz_ => ?_
      obtain ⟨x, H5, I5, r5, y5, st5, fr5⟩ := zz_
      have I5' := I5.pinned (stat fr5) (T.obj _ _ st5)
      refine thn (hg' _ s5 σ3 H5 x u _ I5' r5 (step x H5 y5)) fun _ s6 zz_ => ?_
      obtain ⟨σ6, H6, I6, q6⟩ := zz_
      refine thn (ht' _ s6 σ6 H6 _ I6 q6) fun ok s7 zz_ => ?_
      obtain ⟨H7, I7, q7⟩ := zz_
      have again : ∀ {s8 : Shared} {σ8 : St} {H8 : Hp}, Inv (compCx X scope N cl P2.objs.size s2 H2 fp (X.pn ++ pins)) ([] ++ pinsAt fp s5.heap) σ8 H8 s8 → N2 σ8 H8 →
          ∃ m, m < n ∧ ∃ i σ' H', Inv (compCx X scope N cl P2.objs.size s2 H2 fp (X.pn ++ pins)) [] σ' H' s8 ∧ tn i s8.heap ∧ (∀ b ∈ fp, H' b = none) ∧ W i m σ' H' := fun {s8 σ8 H8} I8 n8 => by
        obtain ⟨m', hm, w8⟩ := hN σ8 H8 n8
        refine ⟨m', hm, i + 1, σ8, H8, I8.unpinned, T.keep _ _ _ st5 fun b hb o e => (I8.pin (b, o) (List.mem_append_right _ (List.mem_append_right _ (mem_pinsAt hb e)))).1, fun b hb => ?_, w8⟩
        obtain ⟨o, e, d⟩ := T.obj _ _ st5 b hb
        exact (I8.pin (b, o) (List.mem_append_right _ (List.mem_append_right _ (mem_pinsAt hb e)))).2.1
      cases ok with
      | false => exact again I7 (by simpa using q7)
      | true =>
        have q7' : te σ6 H7 fun y H5 => ∃ ys, H5 s2.heap.objs.size = some (.lst ys) ∧ ys.length < sizeLine ∧ N2 σ6 (upd H5 s2.heap.objs.size (.lst (ys ++ [y]))) := by simpa using q7
        refine thn (he' _ s7 σ6 H7 _ I7 q7') fun xv s8 zz_ => ?_
        obtain ⟨y, H8, I8, r8, ys, hy, hlen, n8⟩ := zz_
        refine thn (mt_append (X := compCx X scope N cl P2.objs.size s2 H2 fp (X.pn ++ pins)) _ s8 σ6 H8 (.ref s2.heap.objs.size) [y] (.ref s2.heap.objs.size) [xv] (fun _ H9 => N2 σ6 H9) I8 rfl (.cons r8 .nil) ⟨_, ys, y, rfl, rfl, hy, hlen, n8⟩) fun _ s9 ⟨_, H9, I9, _, n9⟩ => again I9 n9
  exact codeAny_compStart_list (loop _ rfl) (T.self _ 0 _ _ _ (T.keep _ _ _ st2 (fun b hb o e => old b o e)) (loop _ rfl))
end
end L2
set_option Elab.async false
set_option linter.all false
set_option maxRecDepth 100000
namespace L2
open PySem PySem.Spec PyProof.Rows
section
variable {prog : Program} {w : World} {A : Around} {E : Value → Shared → Prop}
end
end L2
set_option Elab.async false
set_option linter.all false
set_option maxRecDepth 100000
namespace L2
open PySem PySem.Spec PyProof.Rows
end L2
set_option Elab.async false
set_option linter.all false
set_option maxRecDepth 100000
namespace L2
open PySem PySem.Spec PyProof.Rows
theorem seq_split {t u : TS} {D : Ends} {σ : St} {H : Hp} (Post : St → Hp → Prop) (h1 : ∀ N : St → Hp → Prop, (∀ σ' H', Post σ' H' → N σ' H') → t { D with nx := N } σ H) (h2 : ∀ σ' H', Post σ' H' → u D σ' H') : tSeq t u D σ H := h1 (u D) h2
inductive TupOf {β : Type} (f : β → List V) (H : Hp) (ps : List β) (i : Nat) (z : V) : Prop
  | mk (p : β) (t : Addr) (h1 : ps[i]? = some p) (h2 : z = .ref t) (h3 : H t = some (.tup (f p))) : TupOf f H ps i z
inductive TupIt {β : Type} (f : β → List V) (H : Hp) (zs : List V) (i : Nat) (p : β) : Prop
  | mk (t : Addr) (h1 : zs[i]? = some (.ref t)) (h2 : H t = some (.tup (f p))) : TupIt f H zs i p
noncomputable def TupL {β : Type} (f : β → List V) (H : Hp) (zs : List V) (ps : List β) : Prop := zs.length = ps.length ∧ ∀ (i : Nat) z p, zs[i]? = some z → ps[i]? = some p → ∃ t, z = .ref t ∧ H t = some (.tup (f p))
section
variable {β : Type} {f : β → List V} {H H' : Hp} {zs : List V} {ps : List β}
theorem TupL.nil : TupL f H [] [] := ⟨rfl, fun i z p e => by simp at e⟩
theorem TupL.same (h : TupL f H zs ps) (s : Same H H') : TupL f H' zs ps := ⟨h.1, fun i z p e1 e2 => by
  obtain ⟨t, e, q⟩ := h.2 i z p e1 e2
  exact ⟨t, e, s _ _ q⟩⟩
theorem TupL.put {q : Addr} {xs ys : List V} (h : TupL f H zs ps) (hq : H q = some (.lst xs)) : TupL f (upd H q (.lst ys)) zs ps := ⟨h.1, fun i z y e1 e2 => by
  obtain ⟨t, e, r⟩ := h.2 i z y e1 e2
  exact ⟨t, e, by rw [upd_ne (ne_of r hq (by intro z; cases z))]; exact r⟩⟩
theorem TupL.snoc {t : Addr} {p : β} (h : TupL f H zs ps) (q : H t = some (.tup (f p))) : TupL f H (zs ++ [.ref t]) (ps ++ [p]) := ⟨by rw [List.length_append, List.length_append, h.1]; rfl, fun i z y e1 e2 => by
  rcases snoc_get e1 with e | ⟨ei, e⟩
  · rcases snoc_get e2 with e' | ⟨ei', _⟩
    · exact h.2 i z y e e'
    · have := (List.getElem?_eq_some_iff.mp e).1
      rw [ei', ← h.1] at this
      exact absurd this (Nat.lt_irrefl _)
  · rcases snoc_get e2 with e' | ⟨_, e'⟩
    · have := (List.getElem?_eq_some_iff.mp e').1
      rw [ei, h.1] at this
      exact absurd this (Nat.lt_irrefl _)
    · exact ⟨t, e, e' ▸ q⟩⟩
theorem TupL.at_ (h : TupL f H zs ps) {i : Nat} {p : β} (e : ps[i]? = some p) : TupIt f H zs i p := by
  have hi : i < zs.length := by rw [h.1]; exact (List.getElem?_eq_some_iff.mp e).1
  obtain ⟨t, et, q⟩ := h.2 i _ p (List.getElem?_eq_getElem hi) e
  exact ⟨t, by rw [List.getElem?_eq_getElem hi, et], q⟩
theorem TupL.of (h : TupL f H zs ps) {i : Nat} {z : V} (e : zs[i]? = some z) : TupOf f H ps i z := by
  have hi : i < ps.length := by rw [← h.1]; exact (List.getElem?_eq_some_iff.mp e).1
  obtain ⟨t, et, q⟩ := h.2 i z _ e (List.getElem?_eq_getElem hi)
  exact ⟨_, t, List.getElem?_eq_getElem hi, et, q⟩
end
end L2
set_option Elab.async false
set_option linter.all false
set_option maxRecDepth 100000
namespace L2
open PySem PySem.Spec PyProof.Rows PySem.Builtin.Str PySem.NumText
section
variable {X : Cx}
noncomputable def rStarts : V → List V → Hp → VK → Prop := fun x xs H Q => ∃ z y, x = .str z ∧ xs = [.str y] ∧ Q (.bl (Txt.startswith z y)) H
theorem mt_startswith : MtR X "str.startswith" rStarts := by
  intro pins s σ H x xs v us Q I rx r h
  obtain ⟨z, y, rfl, rfl, q⟩ := h
  obtain ⟨t, rfl⟩ := rx
  obtain ⟨u, rfl, ru⟩ := vals1 r
  obtain ⟨t', rfl⟩ := ru
  exact SC.startswith ⟨.bl _, H, I, rfl, q⟩
noncomputable def rIntT : List V → Hp → VK → Prop := fun xs H Q => ∃ z n, xs = [.str z] ∧ intText? z = some n ∧ z.length ≤ 640 ∧ Q (.int n) H
theorem call_intT : CallR X (.type "int") rIntT := by
  intro pins s σ H xs us Q I r h
  obtain ⟨z, n, rfl, hn, hl, q⟩ := h
  obtain ⟨u, rfl, ru⟩ := vals1 r
  obtain ⟨t', rfl⟩ := ru
  exact PySem.W.KIN.call_text hn hl ⟨.int _, H, I.tok _, ⟨_, rfl⟩, q⟩
end
theorem str_ext {x y : Str} (h : x.cps.toList = y.cps.toList) : x = y := by
  obtain ⟨a⟩ := x; obtain ⟨b⟩ := y
  have : a = b := by
    have := congrArg List.toArray h
    simpa using this
  rw [this]
theorem starts_one (x : Str) (c : Nat) : Txt.startswith x ⟨#[c]⟩ = decide (x.cps.toList.head? = some c) := by
  rw [Bool.eq_iff_iff, decide_eq_true_eq, List.head?_eq_getElem?, ← StrLaws.subAt_one x c 0]
  unfold Txt.startswith
  rw [Bool.and_eq_true, decide_eq_true_eq]
theorem len_toList (x : Str) : x.cps.toList.length = x.length := Array.length_toList
theorem slice_drop1 {x : Str} (h : 1 ≤ x.length) : (Txt.slice x (some 1) none).cps.toList = x.cps.toList.tail := by
  rw [slice_from_eq (b := x.length) (by decide) (by omega) rfl]
  show (x.cps.toList.drop 1).take ((x.length : Int) - 1).toNat = _
  rw [List.drop_one, List.take_of_length_le]
  rw [List.length_tail, len_toList]; omega
end L2
set_option Elab.async false
set_option linter.all false
set_option maxRecDepth 100000
namespace L2
open PySem PySem.Spec PyProof.Rows PySem.Builtin PySem.Builtin.Str PySem.NumText
section
variable {X : Cx}
noncomputable def rPart : V → List V → Hp → VK → Prop := fun x xs H Q => ∃ z y, x = .str z ∧ xs = [.str y] ∧ (y.length == 0) = false ∧ z.length ≤ sizeLine ∧
  ∀ l, H l = none → Q (.ref l) (upd H l (.tup [.str (Txt.partition z y).1, .str (Txt.partition z y).2.1, .str (Txt.partition z y).2.2]))
theorem mt_partition : MtR X "str.partition" rPart := by
  intro pins s σ H x xs v us Q I rx r h
  obtain ⟨z, y, rfl, rfl, hy, hz, q⟩ := h
  obtain ⟨t, rfl⟩ := rx
  obtain ⟨u, rfl, ru⟩ := vals1 r
  obtain ⟨t', rfl⟩ := ru
  refine call_meets F.slot_str_partition (typeIs_str _ _ _) F.entry_str_partition (F.args_str_partition_2 _ _) (meets_str_partition z y t t' hy hz) ?_
  have hf : H s.heap.objs.size = none := I.hok.fresh (Nat.le_refl _)
  have q' := q _ hf
  unfold Txt.partition at q'
  revert q'
  cases occurrences z y 0 z.length 1 with
  | nil =>
    intro q'
    refine ⟨.ref s.heap.objs.size, _, I.laid (t' := s.toks + 1) (fun b u e => Heap.get?_push_of_some _ e) (Nat.le_refl _) ?_, rfl, q'⟩
    exact ⟨(by show 3 ≤ sizeLine; decide), _, .cons ⟨_, rfl⟩ (.cons ⟨_, rfl⟩ (.cons ⟨_, rfl⟩ .nil)), ⟨_, Heap.get?_push_size _ rfl, rfl, _, rfl⟩⟩
  | cons i r =>
    intro q'
    refine ⟨.ref s.heap.objs.size, _, I.laid (t' := s.toks + 1 + 1) (fun b u e => Heap.get?_push_of_some _ e) (Nat.le_refl _) ?_, rfl, q'⟩
    exact ⟨(by show 3 ≤ sizeLine; decide), _, .cons ⟨_, rfl⟩ (.cons ⟨_, rfl⟩ (.cons ⟨_, rfl⟩ .nil)), ⟨_, Heap.get?_push_size _ rfl, rfl, _, rfl⟩⟩
theorem vals_strs : ∀ l : List (Str × Tok), Vals ((l.map (·.1)).map V.str) (strValues l)
  | [] => .nil
  | p :: l => .cons ⟨_, rfl⟩ (vals_strs l)
noncomputable def rSplit : V → List V → Hp → VK → Prop := fun x xs H Q => ∃ z y, x = .str z ∧ xs = [.str y] ∧ (y.length == 0) = false ∧ z.length + 2 ≤ sizeLine ∧
  ∀ l, H l = none → Q (.ref l) (upd H l (.lst ((Txt.split z y).map V.str)))
theorem mt_split : MtR X "str.split" rSplit := by
  intro pins s σ H x xs v us Q I rx r h
  obtain ⟨z, y, rfl, rfl, hy, hz, q⟩ := h
  obtain ⟨t, rfl⟩ := rx
  obtain ⟨u, rfl, ru⟩ := vals1 r
  obtain ⟨t', rfl⟩ := ru
  have hf : H s.heap.objs.size = none := I.hok.fresh (Nat.le_refl _)
  have q' := q _ hf
  have hsz : ((Txt.split z y).map V.str).length ≤ sizeLine := by rw [List.length_map]; exact Nat.le_trans (split_le z y) hz
  have hn : (partsBetween z (occurrences z y 0 z.length (z.length + 1)) y.length).length ≤ sizeLine := by
    have e1 := StrLaws.occ_length_le z y 0 z.length (z.length + 1)
    rw [length_partsBetween]; omega
  have fin : ∀ (l : List (Str × Tok)) (k : Nat), l.map (·.1) = Txt.split z y → EP X pins σ Q (.ref s.heap.objs.size) { s with toks := k, heap := s.heap.push { cls := .type "list", data := .seq (strValues l).toArray } } := fun l k e => by
    refine ⟨.ref s.heap.objs.size, _, I.laid (t' := k) (fun b u e => Heap.get?_push_of_some _ e) (Nat.le_refl _) ?_, rfl, q'⟩
    refine ⟨hsz, strValues l, 0, ?_, Heap.get?_push_size _ rfl⟩
    rw [← e]
    exact vals_strs l
  cases h1 : (decide (z.length < y.length) || decide (strKind z < strKind y))
  · cases hf : (occurrences z y 0 z.length (z.length + 1)).isEmpty
    · refine call_meets F.slot_str_split (typeIs_str _ _ _) F.entry_str_split (F.args_str_split_2 _ _) (meets_str_split_sep z y t t' h1 hy hf (by omega) hn) ?_
      show wants _ _ _ { s with toks := _, heap := s.heap.push { cls := .type "list", data := .seq (strsFrom s.toks (partsBetween z (occurrences z y 0 z.length (z.length + 1)) y.length)).toArray } }
      rw [strsFrom_eq]
      exact fin (numbered s.toks _) _ ((numbered_texts _ _).trans ((if_neg (ne_true_of_eq_false h1)).trans (if_neg (ne_true_of_eq_false hf))).symm)
    · exact call_meets F.slot_str_split (typeIs_str _ _ _) F.entry_str_split (F.args_str_split_2 _ _) (meets_str_split_not_found z y t t' h1 hy hf)
        (fin [(z, t)] s.toks ((if_neg (ne_true_of_eq_false h1)).trans (if_pos hf)).symm)
  · exact call_meets F.slot_str_split (typeIs_str _ _ _) F.entry_str_split (F.args_str_split_2 _ _) (meets_str_split_cannot_occur z y t t' h1)
      (fin [(z, t)] s.toks (if_pos h1).symm)
end
theorem take_first : ∀ {l : List Nat} {c i : Nat}, l[i]? = some c → (∀ j, j < i → l[j]? ≠ some c) → l.takeWhile (· != c) = l.take i ∧ l.dropWhile (· != c) = l.drop i
  | [], c, i, h, _ => by simp at h
  | a :: l, c, 0, h, _ => by
    have : a = c := by simpa using h
    subst this
    simp
  | a :: l, c, i + 1, h, hn => by
    have ha : a ≠ c := fun e => hn 0 (by omega) (by rw [e]; rfl)
    have ih := take_first (l := l) (c := c) (i := i) (by simpa using h) (fun j hj => by simpa using hn (j + 1) (by omega))
    have e : (a != c) = true := by simp [ha]
    rw [List.takeWhile_cons_of_pos (by exact e), List.dropWhile_cons_of_pos (by exact e), ih.1, ih.2]
    exact ⟨rfl, rfl⟩
theorem take_none {l : List Nat} {c : Nat} (h : c ∉ l) : l.takeWhile (· != c) = l ∧ l.dropWhile (· != c) = [] := by
  induction l with
  | nil => exact ⟨rfl, rfl⟩
  | cons a l ih =>
    have ha : a ≠ c := fun e => h (by rw [e]; exact List.mem_cons_self)
    have ih := ih fun z => h (List.mem_cons_of_mem _ z)
    have e : (a != c) = true := by simp [ha]
    rw [List.takeWhile_cons_of_pos (by exact e), List.dropWhile_cons_of_pos (by exact e), ih.1, ih.2]
    exact ⟨rfl, rfl⟩
noncomputable def befC (c : Nat) (l : List Nat) : List Nat := l.takeWhile (· != c)
noncomputable def aftC (c : Nat) (l : List Nat) : List Nat := (l.dropWhile (· != c)).tail
theorem part_one (x : Str) (c : Nat) : (Txt.partition x ⟨#[c]⟩).1.cps.toList = befC c x.cps.toList ∧ (Txt.partition x ⟨#[c]⟩).2.2.cps.toList = aftC c x.cps.toList := by
  unfold Txt.partition befC aftC
  rcases StrLaws.occ_head x ⟨#[c]⟩ 1 (Nat.le_refl _) with ⟨e, h⟩ | ⟨i, r, e, h1, h2⟩
  · rw [e]
    have hn : c ∉ x.cps.toList := fun hm => by
      obtain ⟨k, hk, ek⟩ := List.mem_iff_getElem.mp hm
      exact h k ((StrLaws.subAt_one x c k).mpr (by rw [List.getElem?_eq_getElem hk, ek]))
    rw [(take_none hn).1, (take_none hn).2]
    exact ⟨rfl, rfl⟩
  · rw [e]
    have hi := (StrLaws.subAt_one x c i).mp h1
    have ht := take_first hi fun j hj z => h2 j hj ((StrLaws.subAt_one x c j).mpr z)
    rw [ht.1, ht.2]
    dsimp only
    have hlt : i < x.cps.toList.length := by
      obtain ⟨a, _⟩ := List.getElem?_eq_some_iff.mp hi
      exact a
    rw [StrLaws.strSub_toList, StrLaws.strSub_toList]
    have e1 : (⟨#[c]⟩ : Str).length = 1 := rfl
    rw [e1, List.drop_zero, Nat.sub_zero, List.tail_drop]
    exact ⟨rfl, List.take_of_length_le (by rw [List.length_drop, len_toList]; omega)⟩
theorem befC_app {c : Nat} {a r : List Nat} (h : c ∉ a) : befC c (a ++ c :: r) = a ∧ aftC c (a ++ c :: r) = r := by
  unfold befC aftC
  have hg : (a ++ c :: r)[a.length]? = some c := by simp
  have ht := take_first hg fun j hj z => by
    rw [List.getElem?_append_left hj] at z
    exact h (List.mem_of_getElem? z)
  rw [ht.1, ht.2, List.take_left, List.drop_left]
  exact ⟨rfl, rfl⟩
theorem befC_none {c : Nat} {a : List Nat} (h : c ∉ a) : befC c a = a ∧ aftC c a = [] := by
  unfold befC aftC
  rw [(take_none h).1, (take_none h).2]
  exact ⟨rfl, rfl⟩
noncomputable def spl (c : Nat) : List Nat → List (List Nat)
  | [] => [[]]
  | a :: l => if a = c then [] :: spl c l else match spl c l with
    | p :: ps => (a :: p) :: ps
    | [] => [[a]]
theorem spl_cons (c a : Nat) (l : List Nat) : spl c (a :: l) = if a = c then [] :: spl c l else match spl c l with
    | p :: ps => (a :: p) :: ps
    | [] => [[a]] := rfl
theorem spl_free {c : Nat} : ∀ {a : List Nat}, c ∉ a → spl c a = [a]
  | [], _ => rfl
  | x :: a, h => by
    rw [spl_cons, if_neg (fun e => h (by rw [e]; exact List.mem_cons_self)), spl_free fun z => h (List.mem_cons_of_mem _ z)]
theorem spl_app {c : Nat} {r : List Nat} : ∀ {a : List Nat}, c ∉ a → spl c (a ++ c :: r) = a :: spl c r
  | [], _ => by
    show spl c (c :: r) = _
    rw [spl_cons, if_pos rfl]
  | x :: a, h => by
    show spl c (x :: (a ++ c :: r)) = _
    rw [spl_cons, if_neg (fun e => h (by rw [e]; exact List.mem_cons_self)), spl_app fun z => h (List.mem_cons_of_mem _ z)]
theorem spl_join {c : Nat} : ∀ {ps : List Str}, ps ≠ [] → (∀ p ∈ ps, c ∉ p.cps.toList) → ps.map (fun p => p.cps.toList) = spl c (Str.join ⟨#[c]⟩ ps).cps.toList
  | [], h, _ => absurd rfl h
  | [p], _, h => by
    show [p.cps.toList] = spl c p.cps.toList
    rw [spl_free (h p List.mem_cons_self)]
  | p :: q :: r, _, h => by
    have ih := spl_join (c := c) (ps := q :: r) (by simp) fun z hz => h z (List.mem_cons_of_mem _ hz)
    have e : (Str.join ⟨#[c]⟩ (p :: q :: r)).cps.toList = p.cps.toList ++ c :: (Str.join ⟨#[c]⟩ (q :: r)).cps.toList := by
      show (p ++ ⟨#[c]⟩ ++ Str.join ⟨#[c]⟩ (q :: r)).cps.toList = _
      rw [Str.cps_append, Str.cps_append, Array.toList_append, Array.toList_append, List.append_assoc]
      rfl
    rw [e, spl_app (h p List.mem_cons_self), ← ih]
    rfl
theorem split_one (x : Str) (c : Nat) : (Txt.split x ⟨#[c]⟩).map (fun p => p.cps.toList) = spl c x.cps.toList := by
  have hne : Txt.split x ⟨#[c]⟩ ≠ [] := fun e => by
    have := split_pos x ⟨#[c]⟩
    rw [e] at this
    exact absurd this (by decide)
  rw [spl_join hne (fun p hp hc => ?_), StrLaws.join_split]
  exact StrLaws.split_free x c p hp hc
end L2
set_option Elab.async false
set_option linter.all false
set_option maxRecDepth 100000
namespace KC
open PySem L2 PySem.NumText PyProof.Rows
noncomputable def digB (c : Nat) : Bool := decide (48 ≤ c) && decide (c ≤ 57)
noncomputable def figs (l : List Nat) : List Nat := if l.head? = some 45 then l.tail else l
noncomputable def plainB (l : List Nat) : Bool := decide (l = [48]) || (!decide (figs l = []) && !decide ((figs l).head? = some 48) && (figs l).all digB)
noncomputable def nv (l : List Nat) : Int := if l.head? = some 45 then -((digitsVal (figs l) : Nat) : Int) else ((digitsVal (figs l) : Nat) : Int)
theorem dig_all {l : List Nat} (h : l.all digB = true) : AllDigits l := fun c hc => by
  have := List.all_eq_true.mp h c hc
  simpa [digB] using this
theorem dv_fold (l : List Nat) : ∀ a : Nat, l.foldl (fun acc c => acc * 10 + (c - 48)) a = a * 10 ^ l.length + digitsVal l := by
  unfold digitsVal
  induction l with
  | nil => intro a; simp
  | cons c l ih =>
    intro a
    rw [List.foldl_cons, ih, List.foldl_cons, ih (0 * 10 + (c - 48)), List.length_cons, Nat.pow_succ, Nat.add_mul, Nat.mul_assoc]
    have : 10 * 10 ^ l.length = 10 ^ l.length * 10 := Nat.mul_comm _ _
    rw [this]
    simp [Nat.add_assoc]
theorem dv_cons (c : Nat) (l : List Nat) : digitsVal (c :: l) = (c - 48) * 10 ^ l.length + digitsVal l := by
  have := dv_fold l (0 * 10 + (c - 48))
  rw [show 0 * 10 + (c - 48) = c - 48 by omega] at this
  rw [← this]
  unfold digitsVal
  rw [List.foldl_cons, show 0 * 10 + (c - 48) = c - 48 by omega]
theorem dv_lt : ∀ {l : List Nat}, AllDigits l → digitsVal l < 10 ^ l.length
  | [], _ => by decide
  | c :: l, h => by
    have hc := h.head
    have ih := dv_lt h.tail
    rw [dv_cons, List.length_cons, Nat.pow_succ]
    have : (c - 48) * 10 ^ l.length ≤ 9 * 10 ^ l.length := Nat.mul_le_mul_right _ (by omega)
    omega
theorem dv_ge {l : List Nat} (h : AllDigits l) (h0 : l ≠ []) (h1 : l.head? ≠ some 48) : 10 ^ (l.length - 1) ≤ digitsVal l := by
  cases l with
  | nil => exact absurd rfl h0
  | cons c l =>
    have hc := h.head
    have hne : c ≠ 48 := fun e => h1 (by rw [e]; rfl)
    rw [dv_cons, List.length_cons, Nat.add_sub_cancel]
    have : 1 * 10 ^ l.length ≤ (c - 48) * 10 ^ l.length := Nat.mul_le_mul_right _ (by omega)
    omega
noncomputable def intL (i : Int) : List Nat := (Str.ofString (toString i)).cps.toList
theorem dig_dig (m : Nat) : AllDigits ((Nat.toDigits 10 m).map Char.toNat) := fun c hc => by
  obtain ⟨ch, hch, e⟩ := List.mem_map.mp hc
  have r := digit_range (Nat.isDigit_of_mem_toDigits (by decide) (by decide) hch)
  rw [← e]
  exact r
theorem intL_neg (m : Nat) : intL (Int.negSucc m) = 45 :: (Nat.toDigits 10 (m + 1)).map Char.toNat := by
  unfold intL
  rw [signs_ofString]
  have e : toString (Int.negSucc m) = "-" ++ Nat.repr (m + 1) := rfl
  rw [e, String.toList_append, List.map_append, Nat.toList_repr]
  rfl
theorem intL_len (i : Int) : 1 ≤ (intL i).length ∧ i < 10 ^ (intL i).length ∧ (i < 0 → 1 ≤ (intL i).length ∧ -i < 10 ^ ((intL i).length - 1)) := by
  cases i with
  | ofNat m =>
    have e : intL (Int.ofNat m) = (Nat.toDigits 10 m).map Char.toNat := PySem.W.KIN.signs_num m
    have h1 := dv_lt (dig_dig m)
    rw [PySem.W.KIN.val_back] at h1
    rw [e]
    have h2 := toDigits_len_ge 10 m
    refine ⟨by rw [List.length_map]; exact h2, ?_, fun h => absurd h (by simp)⟩
    show ((m : Nat) : Int) < _
    exact_mod_cast h1
  | negSucc m =>
    rw [intL_neg]
    have h1 := dv_lt (dig_dig (m + 1))
    rw [PySem.W.KIN.val_back] at h1
    refine ⟨by simp, ?_, fun _ => ⟨by simp, ?_⟩⟩
    · have : (0 : Int) < 10 ^ (45 :: (Nat.toDigits 10 (m + 1)).map Char.toNat).length := by
        have : (0 : Nat) < 10 ^ (45 :: (Nat.toDigits 10 (m + 1)).map Char.toNat).length := Nat.pos_of_ne_zero (by simp)
        exact_mod_cast this
      have h3 : Int.negSucc m < 0 := Int.negSucc_lt_zero m
      omega
    · rw [List.length_cons, Nat.add_sub_cancel]
      show ((m + 1 : Nat) : Int) < _
      exact_mod_cast h1
theorem intL_short {i : Int} (h0 : -1000000000000000000000000000000 < i) (h1 : i < 1000000000000000000000000000000) : (intL i).length ≤ 31 := by
  cases i with
  | ofNat m =>
    have e : intL (Int.ofNat m) = (Nat.toDigits 10 m).map Char.toNat := PySem.W.KIN.signs_num m
    rw [e, List.length_map]
    have : (Nat.toDigits 10 m).length ≤ 30 := toDigits_len_pow (by decide) (by decide) (by
      have e : (10 : Nat) ^ 30 = 1000000000000000000000000000000 := by decide
      rw [e]
      have h1 : ((m : Nat) : Int) < 1000000000000000000000000000000 := h1
      omega)
    omega
  | negSucc m =>
    rw [intL_neg, List.length_cons, List.length_map]
    have : (Nat.toDigits 10 (m + 1)).length ≤ 30 := toDigits_len_pow (by decide) (by decide) (by
      have e : (10 : Nat) ^ 30 = 1000000000000000000000000000000 := by decide
      rw [e]
      have h0 : -1000000000000000000000000000000 < -((m : Nat) + 1 : Int) := by
        rw [Int.negSucc_eq] at h0; exact h0
      omega)
    omega
inductive Plain : List Nat → Prop
  | zero : Plain [48]
  | pos {l : List Nat} : AllDigits l → l ≠ [] → l.head? ≠ some 48 → l.head? ≠ some 45 → Plain l
  | neg {l : List Nat} : AllDigits l → l ≠ [] → l.head? ≠ some 48 → Plain (45 :: l)
theorem plain_of {l : List Nat} (h : plainB l = true) : Plain l := by
  unfold plainB at h
  rw [Bool.or_eq_true, decide_eq_true_eq] at h
  rcases h with rfl | h
  · exact .zero
  · simp only [Bool.and_eq_true, Bool.not_eq_true', decide_eq_false_iff_not] at h
    obtain ⟨⟨h1, h2⟩, h3⟩ := h
    have h3 := dig_all h3
    unfold figs at h1 h2 h3
    by_cases hh : l.head? = some 45
    · rw [if_pos hh] at h1 h2 h3
      cases l with
      | nil => cases hh
      | cons c l =>
        have e : c = 45 := by simpa using hh
        subst e
        exact .neg h3 h1 h2
    · rw [if_neg hh] at h1 h2 h3
      exact .pos h3 h1 h2 hh
theorem pow_mono {a b : Nat} {v : Nat} (h1 : 10 ^ a ≤ v) (h2 : v < 10 ^ b) : a < b := (Nat.pow_lt_pow_iff_right (by decide)).mp (Nat.lt_of_le_of_lt h1 h2)
theorem nv_pos {l : List Nat} (h : l.head? ≠ some 45) : nv l = ((digitsVal l : Nat) : Int) := by
  unfold nv figs
  rw [if_neg h, if_neg h]
theorem nv_neg (l : List Nat) : nv (45 :: l) = -((digitsVal l : Nat) : Int) := rfl
theorem len_ok {l : List Nat} {lo hi : Int} (h : plainB l = true) (h0 : lo ≤ nv l) (h1 : nv l ≤ hi) : l.length ≤ (intL lo).length ∨ l.length ≤ (intL hi).length := by
  cases plain_of h with
  | zero => exact .inr (intL_len hi).1
  | pos a b c d =>
    right
    have g := dv_ge a b c
    rw [nv_pos d] at h1
    have g2 := (intL_len hi).2.1
    have g3 : digitsVal l < 10 ^ (intL hi).length := by
      have : ((digitsVal l : Nat) : Int) < 10 ^ (intL hi).length := Int.lt_of_le_of_lt h1 g2
      exact_mod_cast this
    have := pow_mono g g3
    omega
  | @neg l a b c =>
    left
    have g := dv_ge a b c
    rw [nv_neg] at h0
    have gp : 0 < digitsVal l := Nat.lt_of_lt_of_le (Nat.pos_of_ne_zero (by simp)) g
    have g2 := (intL_len lo).2.2 (by omega)
    have g3 : digitsVal l < 10 ^ ((intL lo).length - 1) := by
      have : ((digitsVal l : Nat) : Int) < 10 ^ ((intL lo).length - 1) := Int.lt_of_le_of_lt (by omega) g2.2
      exact_mod_cast this
    have := pow_mono g g3
    rw [List.length_cons]
    have h0 : l ≠ [] := b
    have : 1 ≤ l.length := by cases l with
      | nil => exact absurd rfl b
      | cons _ _ => simp
    omega
theorem plain_int {x : Str} (h : plainB x.cps.toList = true) (hl : x.length ≤ 4300) : intText? x = some (nv x.cps.toList) := by
  generalize e : x.cps.toList = l at h
  cases plain_of h with
  | zero => rw [intText_digits (by rw [e]; intro c hc; have : c = 48 := by simpa using hc
                                   omega) (by rw [e]; simp) hl, e]; rfl
  | pos a b c d => rw [intText_digits (by rw [e]; exact a) (by rw [e]; exact b) hl, e, nv_pos d]
  | neg a b c => rw [intText_neg e a b hl, nv_neg]
noncomputable def Typed (H : Hp) (v : V) : Prop := ∃ t, tyN H v = some t
theorem atI_in {xs : List V} {i : Int} (h0 : 0 ≤ i) (h1 : i < xs.length) : ∃ v, atI xs i = some v ∧ v ∈ xs := by
  obtain ⟨n, rfl⟩ := Int.eq_ofNat_of_zero_le h0
  have hn : n < xs.length := by omega
  exact ⟨xs[n], atI_nat (List.getElem?_eq_getElem hn), List.getElem_mem hn⟩
theorem str_of {H : Hp} {v : V} {t : String} (h : tyN H v = some t) (e : isaT "str" t = true) : ∃ x, v = .str x := by
  cases v with
  | non => cases h; cases e
  | bl b => cases h; cases e
  | int b => cases h; cases e
  | str b => exact ⟨b, rfl⟩
  | byt b => cases h
  | flt b => cases h
  | ty b => cases h
  | ref a =>
    simp only [tyN] at h
    split at h <;> first | (cases h; cases e) | cases h
theorem small2k {n : Nat} (h : n ≤ 2000) : n ≤ sizeLine := Nat.le_trans h (by decide)
noncomputable def Thing (H : Hp) (v : V) : Prop := Typed H v ∧ ∀ x, v = .str x → x.length ≤ 200
noncomputable def Sm (i : Int) : Prop := -1000000000000000000000000000000 < i ∧ i < 1000000000000000000000000000000
theorem Sm.log {i : Int} (h : Sm i) : i.natAbs.log2 < 1920 := by
  have h1 : i.natAbs < 2 ^ 140 := by
    obtain ⟨h1, h2⟩ := h
    have e : (2 : Nat) ^ 140 = 1393796574908163946345982392040522594123776 := by decide
    omega
  by_cases h0 : i.natAbs = 0
  · rw [h0]; decide
  · have := (Nat.log2_lt h0).mpr h1
    omega
theorem Sm.len {i : Int} (h : Sm i) : (Str.ofString (toString i)).length ≤ 31 := by
  rw [← len_toList]
  exact intL_short h.1 h.2
noncomputable def wholeT (l : List Nat) (lo hi : Int) : V := if plainB l = true ∧ lo ≤ nv l ∧ nv l ≤ hi then .int (nv l) else .non
noncomputable def wholeV (v : V) (lo hi : Int) : V := match v with
  | .str x => wholeT x.cps.toList lo hi
  | _ => .non
theorem wholeV_no {H : Hp} {v : V} {t : String} (lo hi : Int) (h : tyN H v = some t) (e : isaT "str" t = false) : wholeV v lo hi = .non := by
  cases v with
  | str b => cases h; cases e
  | _ => rfl
theorem figs10 : ("0123456789" : Str).cps.toList = [48, 49, 50, 51, 52, 53, 54, 55, 56, 57] := by decide +kernel
theorem dig_in (c : Nat) : decide (c ∈ ("0123456789" : Str).cps.toList) = digB c := by
  rw [figs10, Bool.eq_iff_iff, decide_eq_true_eq]
  simp only [List.mem_cons, List.not_mem_nil, or_false, digB, Bool.and_eq_true, decide_eq_true_eq]
  omega
theorem st_minus (x : Str) : Txt.startswith x (Str.ofString "-") = decide (x.cps.toList.head? = some 45) := by
  rw [show Str.ofString "-" = ⟨#[45]⟩ by decide +kernel]; exact starts_one x 45
theorem st_zero (x : Str) : Txt.startswith x (Str.ofString "0") = decide (x.cps.toList.head? = some 48) := by
  rw [show Str.ofString "0" = ⟨#[48]⟩ by decide +kernel]; exact starts_one x 48
theorem wholeT_long {l : List Nat} {lo hi : Int} (h : (intL lo).length < l.length) (h' : (intL hi).length < l.length) : wholeT l lo hi = .non := by
  unfold wholeT
  rw [if_neg]
  rintro ⟨h1, h2, h3⟩
  rcases len_ok h1 h2 h3 with z | z <;> omega
theorem intL_eq (i : Int) : (Str.ofString (toString i)).length = (intL i).length := (len_toList _).symm
theorem ten_at : ∀ j, j < 10 → ([48, 49, 50, 51, 52, 53, 54, 55, 56, 57] : List Nat)[j]? = some (48 + j) := by decide
theorem digs_head {m : Nat} (h : m ≠ 0) : ((Nat.toDigits 10 m).map Char.toNat).head? ≠ some 48 := by
  intro h48
  have hd := dig_dig m
  have hv := PySem.W.KIN.val_back m
  have hl := toDigits_len_ge 10 m
  cases hc : (Nat.toDigits 10 m).map Char.toNat with
  | nil => rw [hc] at h48; cases h48
  | cons c r =>
    rw [hc] at h48 hd hv
    have : c = 48 := by simpa using h48
    subst this
    rw [dv_cons, Nat.sub_self, Nat.zero_mul, Nat.zero_add] at hv
    have h1 := dv_lt hd.tail
    rw [hv] at h1
    have hlen : (Nat.toDigits 10 m).length = r.length + 1 := by
      have := congrArg List.length hc
      simpa using this
    by_cases hr : r.length = 0
    · rw [hr] at h1
      exact h (by omega)
    · have := toDigits_len_pow (b := 10) (k := r.length) (n := m) (by decide) (by omega) h1
      omega
theorem alld_all {l : List Nat} (h : AllDigits l) : l.all digB = true := List.all_eq_true.mpr fun z hz => by have := h z hz; simpa [digB] using this
theorem intL_nat (m : Nat) : intL (m : Int) = (Nat.toDigits 10 m).map Char.toNat := PySem.W.KIN.signs_num m
theorem intL_zero : intL 0 = [48] := by decide +kernel
theorem intL_digs {i : Int} (h : 0 ≤ i) : (intL i).all digB = true := by
  obtain ⟨m, rfl⟩ := Int.eq_ofNat_of_zero_le h
  rw [intL_nat]
  exact alld_all (dig_dig m)
theorem intL_ne (i : Int) : intL i ≠ [] := fun e => by
  have := (intL_len i).1
  rw [e] at this
  exact absurd this (by decide)
theorem head_dig {l : List Nat} (h : l.all digB = true) {c : Nat} (hc : digB c = false) : l.head? ≠ some c := fun e => by
  cases l with
  | nil => cases e
  | cons a r =>
    have : a = c := by simpa using e
    subst this
    rw [List.all_cons, hc, Bool.false_and] at h
    cases h
theorem plain_intL (i : Int) : plainB (intL i) = true ∧ nv (intL i) = i := by
  cases i with
  | ofNat m =>
    have e : intL (Int.ofNat m) = (Nat.toDigits 10 m).map Char.toNat := PySem.W.KIN.signs_num m
    by_cases h0 : m = 0
    · subst h0
      have e1 : intL (Int.ofNat 0) = [48] := intL_zero
      rw [e1]
      exact ⟨by decide, by decide⟩
    · have ha : (intL (Int.ofNat m)).all digB = true := intL_digs (Int.natCast_nonneg m)
      have h45 := head_dig ha (c := 45) (by decide)
      have hne := intL_ne (Int.ofNat m)
      refine ⟨?_, ?_⟩
      · have h48 : (intL (Int.ofNat m)).head? ≠ some 48 := by rw [e]; exact digs_head h0
        unfold plainB figs
        rw [if_neg h45, decide_eq_false hne, decide_eq_false h48, ha, Bool.or_eq_true]
        exact .inr rfl
      · rw [nv_pos h45, e, PySem.W.KIN.val_back]
        rfl
  | negSucc m =>
    rw [intL_neg]
    have ha := alld_all (dig_dig (m + 1))
    have hne : (Nat.toDigits 10 (m + 1)).map Char.toNat ≠ [] := fun e => by
      have := toDigits_len_ge 10 (m + 1)
      have e := congrArg List.length e
      rw [List.length_map] at e
      rw [e] at this
      exact absurd this (by decide)
    refine ⟨?_, ?_⟩
    · unfold plainB
      show (_ || (!decide ((Nat.toDigits 10 (m + 1)).map Char.toNat = []) && !decide (((Nat.toDigits 10 (m + 1)).map Char.toNat).head? = some 48) && ((Nat.toDigits 10 (m + 1)).map Char.toNat).all digB)) = true
      rw [decide_eq_false hne, decide_eq_false (digs_head (Nat.succ_ne_zero m)), ha]
      simp
    · rw [nv_neg, PySem.W.KIN.val_back, Int.negSucc_eq]
      simp
theorem intL_nodot (i : Int) : 46 ∉ intL i := by
  cases i with
  | ofNat m =>
    intro h
    have := List.all_eq_true.mp (intL_digs (i := Int.ofNat m) (Int.natCast_nonneg m)) 46 h
    cases this
  | negSucc m =>
    rw [intL_neg]
    intro h
    rcases List.mem_cons.mp h with h | h
    · cases h
    · have := dig_dig (m + 1) 46 h
      omega
noncomputable def twoL (n : Nat) : List Nat := [48 + n / 10, 48 + n % 10]
theorem twoL_digs {n : Nat} (h : n < 100) : (twoL n).all digB = true ∧ digitsVal (twoL n) = n := by
  have h1 : n / 10 < 10 := by omega
  have h2 : n % 10 < 10 := by omega
  refine ⟨?_, ?_⟩
  · simp [twoL, digB]
    omega
  · show (0 * 10 + (48 + n / 10 - 48)) * 10 + (48 + n % 10 - 48) = n
    omega
theorem twoL_nodot {n : Nat} (h : n < 100) : 46 ∉ twoL n := fun hm => by
  have := List.all_eq_true.mp (twoL_digs h).1 46 hm
  cases this
noncomputable def twoV (l : List Nat) (hi : Int) : V := if l.length = 2 ∧ l.all digB = true ∧ ((digitsVal l : Nat) : Int) ≤ hi then .int ((digitsVal l : Nat) : Int) else .non
theorem dig_int {x : Str} (h : x.cps.toList.all digB = true) (h0 : x.cps.toList ≠ []) (hl : x.length ≤ 4300) : intText? x = some ((digitsVal x.cps.toList : Nat) : Int) := intText_digits (dig_all h) h0 hl
theorem app_toList (a b : Str) : (a ++ b).cps.toList = a.cps.toList ++ b.cps.toList := by rw [Str.cps_append, Array.toList_append]
theorem len_app {a b : Str} {n m : Nat} (ha : a.length ≤ n) (hb : b.length ≤ m) : (a ++ b).length ≤ n + m := by rw [Str.length_append]; omega
theorem cat2 {a b : Str} {n m : Nat} (ha : a.length ≤ n) (hb : b.length ≤ m) (h : n + m ≤ 1000) : a.length + b.length ≤ sizeLine := Nat.le_trans (by omega) (small60 h)
theorem slice_tail (x : Str) : (Txt.slice x (some 1) none).cps.toList = x.cps.toList.tail := by
  by_cases h : 1 ≤ x.length
  · exact slice_drop1 h
  · have e0 : x.cps.toList = [] := List.eq_nil_of_length_eq_zero (by rw [len_toList]; omega)
    have e1 := Txt.slice_le x (some 1) none
    have e2 : (Txt.slice x (some 1) none).cps.toList = [] := List.eq_nil_of_length_eq_zero (by rw [len_toList]; omega)
    rw [e2, e0]; rfl
theorem dot_sign : Str.ofString "." = ⟨#[46]⟩ := by decide +kernel
theorem bef_le (c : Nat) (l : List Nat) : (befC c l).length ≤ l.length := (List.takeWhile_sublist _).length_le
theorem aft_le (c : Nat) (l : List Nat) : (aftC c l).length ≤ l.length := Nat.le_trans (by unfold aftC; rw [List.length_tail]; omega) (List.dropWhile_sublist _ : List.Sublist (l.dropWhile (· != c)) l).length_le
noncomputable def sizeO (l : List Nat) : Option Int :=
  if plainB (befC 46 l) = true ∧ (0 ≤ nv (befC 46 l) ∧ nv (befC 46 l) ≤ 48) ∧ ((aftC 46 l).length = 2 ∧ (aftC 46 l).all digB = true ∧ ((digitsVal (aftC 46 l) : Nat) : Int) ≤ 59) ∧ nv (befC 46 l) * 60 + ((digitsVal (aftC 46 l) : Nat) : Int) ≤ 2880
  then some (nv (befC 46 l) * 60 + ((digitsVal (aftC 46 l) : Nat) : Int)) else none
noncomputable def sizeV (l : List Nat) : V := match sizeO l with
  | some n => .int n
  | none => .non
noncomputable def shiftT (l : List Nat) : V := match sizeO l.tail with
  | none => .non
  | some n => if l.head? = some 43 then .int n else if l.head? = some 45 ∧ 0 < n then .int (-n) else .non
noncomputable def shiftV (v : V) : V := match v with
  | .str x => shiftT x.cps.toList
  | _ => .non
theorem shiftV_no {H : Hp} {v : V} {t : String} (h : tyN H v = some t) (e : isaT "str" t = false) : shiftV v = .non := by
  cases v with
  | str b => cases h; cases e
  | _ => rfl
theorem size_good {h : Int} {m : Nat} (h0 : 0 ≤ h) (hm : m < 60) (hz : h * 60 + m ≤ 2880) : sizeO (intL h ++ 46 :: twoL m) = some (h * 60 + m) := by
  have e := befC_app (c := 46) (a := intL h) (r := twoL m) (intL_nodot h)
  have p := plain_intL h
  have d := twoL_digs (n := m) (by omega)
  unfold sizeO
  rw [e.1, e.2, p.1, p.2, d.1, d.2, if_pos ⟨rfl, ⟨h0, by omega⟩, ⟨rfl, rfl, by omega⟩, hz⟩]
theorem b_size {l : List Nat} (h : sizeO l.tail = none) : shiftT l = .non := by unfold shiftT; rw [h]
theorem b_head {l : List Nat} (h1 : l.head? ≠ some 43) (h2 : l.head? ≠ some 45) : shiftT l = .non := by
  unfold shiftT
  split
  · rfl
  · rw [if_neg h1, if_neg fun z => h2 z.1]
theorem s_aft {l : List Nat} (h : (aftC 46 l).length ≠ 2) : sizeO l = none := if_neg fun z => h z.2.2.1.1
theorem plain_bad {l : List Nat} {c : Nat} (h : digB c = false) (h45 : c ≠ 45) : plainB (c :: l) = false := by
  unfold plainB figs
  rw [if_neg (by simpa using h45), List.all_cons, h, Bool.false_and, Bool.and_false, Bool.or_false]
  refine decide_eq_false fun e => ?_
  have : c = 48 := by simp at e; exact e.1
  rw [this] at h; cases h
theorem plain_zero {l : List Nat} (h : l ≠ []) : plainB (48 :: l) = false := by
  unfold plainB figs
  rw [if_neg (by simp)]
  have e : decide ((48 :: l).head? = some 48) = true := decide_eq_true rfl
  rw [e, decide_eq_false (by simpa using h)]
  simp
section
variable {c : Nat} {a r : List Nat}
theorem t_aft (h : 46 ∉ a) (hr : r.length ≠ 2) : shiftT (c :: (a ++ 46 :: r)) = .non := b_size (s_aft (by show (aftC 46 (a ++ 46 :: r)).length ≠ 2; rw [(befC_app h).2]; exact hr))
theorem t_free (h : 46 ∉ a) : shiftT (c :: a) = .non := b_size (s_aft (by show (aftC 46 a).length ≠ 2; rw [(befC_none h).2]; decide))
theorem t_head (h1 : c ≠ 43) (h2 : c ≠ 45) : shiftT (c :: r) = .non := b_head (by simpa using h1) (by simpa using h2)
theorem t_fig (hd : a.all digB = true) (hne : a ≠ []) : shiftT (a ++ r) = .non := by
  cases a with
  | nil => exact absurd rfl hne
  | cons x a =>
    rw [List.all_cons, Bool.and_eq_true] at hd
    have hx := hd.1
    refine t_head (fun e => ?_) (fun e => ?_) <;> (subst e; cases hx)
end
end KC
set_option Elab.async false
set_option linter.all false
set_option maxRecDepth 100000
namespace KC
open PySem L2 PySem.NumText PyProof.Rows
noncomputable def clk3 (a b c : List Nat) (lo hi : Int) : V :=
  if plainB a = true ∧ (lo / 1440 ≤ nv a ∧ nv a ≤ hi / 1440) ∧ (b.length = 2 ∧ b.all digB = true ∧ ((digitsVal b : Nat) : Int) ≤ 23) ∧ (c.length = 2 ∧ c.all digB = true ∧ ((digitsVal c : Nat) : Int) ≤ 59) ∧
    (lo ≤ nv a * 1440 + ((digitsVal b : Nat) : Int) * 60 + ((digitsVal c : Nat) : Int) ∧ nv a * 1440 + ((digitsVal b : Nat) : Int) * 60 + ((digitsVal c : Nat) : Int) ≤ hi)
  then .int (nv a * 1440 + ((digitsVal b : Nat) : Int) * 60 + ((digitsVal c : Nat) : Int)) else .non
noncomputable def clockT (l : List Nat) (lo hi : Int) : V := match spl 46 l with
  | [a, b, c] => clk3 a b c lo hi
  | _ => .non
noncomputable def clockV (v : V) (lo hi : Int) : V := match v with
  | .str x => clockT x.cps.toList lo hi
  | _ => .non
theorem clockV_no {H : Hp} {v : V} {t : String} (lo hi : Int) (h : tyN H v = some t) (e : isaT "str" t = false) : clockV v lo hi = .non := by
  cases v with
  | str b => cases h; cases e
  | _ => rfl
noncomputable def clL (n : Int) : List Nat := intL (n / 1440) ++ 46 :: (twoL (n % 1440 / 60).toNat ++ 46 :: twoL (n % 60).toNat)
theorem spl3 {a b c : List Nat} (ha : 46 ∉ a) (hb : 46 ∉ b) (hc : 46 ∉ c) : spl 46 (a ++ 46 :: (b ++ 46 :: c)) = [a, b, c] := by
  rw [spl_app ha, spl_app hb, spl_free hc]
theorem clock3 {a b c : List Nat} {lo hi : Int} (ha : 46 ∉ a) (hb : 46 ∉ b) (hc : 46 ∉ c) : clockT (a ++ 46 :: (b ++ 46 :: c)) lo hi = clk3 a b c lo hi := by
  unfold clockT
  rw [spl3 ha hb hc]
theorem clock_not3 {l : List Nat} {lo hi : Int} (h : (spl 46 l).length ≠ 3) : clockT l lo hi = .non := by
  unfold clockT
  split
  · rename_i e; rw [e] at h; exact absurd rfl h
  · rfl
theorem clock_is3 {l a b c : List Nat} {lo hi : Int} (h : spl 46 l = [a, b, c]) : clockT l lo hi = clk3 a b c lo hi := by
  unfold clockT
  rw [h]
theorem clock_good (n lo hi : Int) : clockT (clL n) lo hi = if lo ≤ n ∧ n ≤ hi then .int n else .non := by
  have h1 : (n % 1440 / 60).toNat < 100 := by omega
  have h2 : (n % 60).toNat < 100 := by omega
  unfold clL
  rw [clock3 (intL_nodot _) (twoL_nodot h1) (twoL_nodot h2)]
  have p := plain_intL (n / 1440)
  have d1 := twoL_digs h1
  have d2 := twoL_digs h2
  unfold clk3
  rw [p.1, p.2, d1.1, d1.2, d2.1, d2.2]
  have e : n / 1440 * 1440 + (((n % 1440 / 60).toNat : Nat) : Int) * 60 + (((n % 60).toNat : Nat) : Int) = n := by omega
  rw [e]
  by_cases h : lo ≤ n ∧ n ≤ hi
  · rw [if_pos h, if_pos ⟨rfl, ⟨by omega, by omega⟩, ⟨rfl, rfl, by omega⟩, ⟨rfl, rfl, by omega⟩, h⟩]
  · rw [if_neg h, if_neg fun z => h z.2.2.2.2]
theorem c_first {a b c : List Nat} {lo hi : Int} (h : plainB a = false) : clk3 a b c lo hi = .non := if_neg fun z => by rw [h] at z; cases z.1
theorem c_third {a b c : List Nat} {lo hi : Int} (h : c.length ≠ 2) : clk3 a b c lo hi = .non := if_neg fun z => h z.2.2.2.1.1
theorem no_dot1 {a : List Nat} {q : Nat} (hq : q ≠ 46) (h : 46 ∉ a) : 46 ∉ q :: a := fun z => by
  rcases List.mem_cons.mp z with z | z
  · exact hq z.symm
  · exact h z
theorem no_dot2 {a : List Nat} {q : Nat} (hq : q ≠ 46) (h : 46 ∉ a) : 46 ∉ a ++ [q] := fun z => by
  rcases List.mem_append.mp z with z | z
  · exact h z
  · exact hq (List.mem_singleton.mp z).symm
section
variable (n : Int) {q : Nat} (lo hi : Int)
theorem cl_more (hq : q ≠ 46) : clockT (clL n ++ [q]) lo hi = .non := by
  have e : clL n ++ [q] = intL (n / 1440) ++ 46 :: (twoL (n % 1440 / 60).toNat ++ 46 :: (twoL (n % 60).toNat ++ [q])) := by simp [clL]
  rw [e, clock3 (intL_nodot _) (twoL_nodot (by omega)) (no_dot2 hq (twoL_nodot (by omega)))]
  exact c_third (by simp [twoL])
theorem cl_ahead (hq : q ≠ 46) (hp : plainB (q :: intL (n / 1440)) = false) : clockT (q :: clL n) lo hi = .non := by
  have e : q :: clL n = (q :: intL (n / 1440)) ++ 46 :: (twoL (n % 1440 / 60).toNat ++ 46 :: twoL (n % 60).toNat) := rfl
  rw [e, clock3 (no_dot1 hq (intL_nodot _)) (twoL_nodot (by omega)) (twoL_nodot (by omega))]
  exact c_first hp
end
theorem clL_len {n : Int} (h0 : -1000000000000000000000000000000 < n) (h1 : n < 1000000000000000000000000000000) : (clL n).length ≤ 37 := by
  have := intL_short (i := n / 1440) (by omega) (by omega)
  unfold clL
  rw [List.length_append, List.length_cons, List.length_append, List.length_cons]
  show _ + (2 + (2 + 1) + 1) ≤ 37
  omega
end KC
set_option Elab.async false
set_option linter.all false
set_option maxRecDepth 100000
namespace KC
open PySem L2 PySem.NumText PyProof.Rows
noncomputable def shL (n : Int) : List Nat := (if n < 0 then 45 else 43) :: (intL (n.natAbs / 60 : Nat) ++ 46 :: twoL (n.natAbs % 60))
noncomputable def gdL (n : Int) : List Nat := intL (n.natAbs / 60 : Nat) ++ 46 :: twoL (n.natAbs % 60)
theorem gd_size {n : Int} (hn : -2880 ≤ n ∧ n ≤ 2880) : sizeO (gdL n) = some (n.natAbs : Int) := by
  unfold gdL
  rw [size_good (Int.natCast_nonneg _) (by omega) (by omega)]
  congr 1
  omega
theorem gd_plus {n : Int} (hn : -2880 ≤ n ∧ n ≤ 2880) : shiftT (43 :: gdL n) = .int (n.natAbs : Int) := by
  unfold shiftT
  rw [show (43 :: gdL n).tail = gdL n from rfl, gd_size hn]
  exact if_pos rfl
theorem gd_minus {n : Int} (hn : -2880 ≤ n ∧ n ≤ 2880) : shiftT (45 :: gdL n) = if n = 0 then .non else .int (-(n.natAbs : Int)) := by
  unfold shiftT
  rw [show (45 :: gdL n).tail = gdL n from rfl, gd_size hn]
  show (if (45 :: gdL n).head? = some 43 then _ else if (45 :: gdL n).head? = some 45 ∧ 0 < (n.natAbs : Int) then V.int (-(n.natAbs : Int)) else V.non) = _
  rw [if_neg (by simp)]
  by_cases h : n = 0
  · rw [if_pos h, if_neg (by rw [h]; simp)]
  · rw [if_neg h, if_pos ⟨rfl, by omega⟩]
theorem sh_good {n : Int} (hn : -2880 ≤ n ∧ n ≤ 2880) : shiftT (shL n) = .int n := by
  show shiftT ((if n < 0 then 45 else 43) :: gdL n) = _
  by_cases h : n < 0
  · rw [if_pos h, gd_minus hn, if_neg (by omega)]
    congr 1
    omega
  · rw [if_neg h, gd_plus hn]
    congr 1
    omega
theorem spl_ne (c : Nat) (l : List Nat) : ∃ p r, spl c l = p :: r := by
  cases l with
  | nil => exact ⟨_, _, rfl⟩
  | cons a l =>
    rw [spl_cons]
    split
    · exact ⟨_, _, rfl⟩
    · split <;> exact ⟨_, _, rfl⟩
end KC
set_option Elab.async false
set_option linter.all false
set_option maxRecDepth 100000
namespace KC
open PySem L2 PySem.NumText PyProof.Rows PySem.Builtin PySem.Builtin.Str
noncomputable abbrev sc : Str := ⟨#[59, 32]⟩
theorem sc_is : Str.ofString "; " = sc := by decide +kernel
theorem join2 (p q : Str) (r : List Str) : (Str.join sc (p :: q :: r)).cps.toList = p.cps.toList ++ 59 :: 32 :: (Str.join sc (q :: r)).cps.toList := by
  show (p ++ sc ++ Str.join sc (q :: r)).cps.toList = _
  rw [Str.cps_append, Str.cps_append, Array.toList_append, Array.toList_append, List.append_assoc]
  rfl
theorem map_inj : ∀ {ps qs : List Str}, ps.map (fun p => p.cps.toList) = qs.map (fun p => p.cps.toList) → ps = qs
  | [], [], _ => rfl
  | [], _ :: _, h => by cases h
  | _ :: _, [], h => by cases h
  | p :: ps, q :: qs, h => by
    injection h with h1 h2
    rw [str_ext h1, map_inj h2]
noncomputable def rowL (r : Int × Int) : List Nat := clL r.1 ++ 32 :: shL r.2
theorem no_in {c : Nat} {l : List Nat} (hd : l.all digB = true) (hc : digB c = false) : c ∉ l := fun h => by
  have := List.all_eq_true.mp hd c h
  rw [hc] at this; cases this
theorem intL_no {c : Nat} (i : Int) (hc : digB c = false) (h45 : c ≠ 45) : c ∉ intL i := by
  cases i with
  | ofNat m => exact no_in (intL_digs (i := Int.ofNat m) (Int.natCast_nonneg m)) hc
  | negSucc m =>
    rw [intL_neg]
    intro h
    rcases List.mem_cons.mp h with h | h
    · exact h45 h
    · exact no_in (alld_all (dig_dig (m + 1))) hc h
theorem clL_no {c : Nat} (n : Int) (hc : digB c = false) (h45 : c ≠ 45) (h46 : c ≠ 46) : c ∉ clL n := fun h => by
  have d1 := (twoL_digs (n := (n % 1440 / 60).toNat) (by omega)).1
  have d2 := (twoL_digs (n := (n % 60).toNat) (by omega)).1
  unfold clL at h
  rcases List.mem_append.mp h with h | h
  · exact intL_no _ hc h45 h
  rcases List.mem_cons.mp h with h | h
  · exact h46 h
  rcases List.mem_append.mp h with h | h
  · exact no_in d1 hc h
  rcases List.mem_cons.mp h with h | h
  · exact h46 h
  · exact no_in d2 hc h
theorem shL_no {c : Nat} (n : Int) (hc : digB c = false) (h43 : c ≠ 43) (h45 : c ≠ 45) (h46 : c ≠ 46) : c ∉ shL n := fun h => by
  have d2 := (twoL_digs (n := n.natAbs % 60) (by omega)).1
  unfold shL at h
  rcases List.mem_cons.mp h with h | h
  · split at h
    · exact h45 h
    · exact h43 h
  rcases List.mem_append.mp h with h | h
  · exact intL_no _ hc h45 h
  rcases List.mem_cons.mp h with h | h
  · exact h46 h
  · exact no_in d2 hc h
theorem rowL_semi (r : Int × Int) : 59 ∉ rowL r := fun h => by
  rcases List.mem_append.mp h with h | h
  · exact clL_no _ (by decide) (by decide) (by decide) h
  rcases List.mem_cons.mp h with h | h
  · cases h
  · exact shL_no _ (by decide) (by decide) (by decide) (by decide) h
theorem rowL_spl (r : Int × Int) : spl 32 (rowL r) = [clL r.1, shL r.2] := by
  unfold rowL
  rw [spl_app (clL_no _ (by decide) (by decide) (by decide)), spl_free (shL_no _ (by decide) (by decide) (by decide) (by decide))]
theorem shL_len {n : Int} (h : -2880 ≤ n ∧ n ≤ 2880) : (shL n).length ≤ 37 := by
  have := intL_short (i := ((n.natAbs / 60 : Nat) : Int)) (by omega) (by omega)
  unfold shL
  rw [List.length_cons, List.length_append, List.length_cons]
  show _ + (2 + 1) + 1 ≤ 37
  omega
theorem rowL_len {r : Int × Int} (h : 0 ≤ r.1 ∧ r.1 ≤ 1000000000 ∧ -2880 ≤ r.2 ∧ r.2 ≤ 2880) : (rowL r).length ≤ 75 := by
  unfold rowL
  have h1 := clL_len (n := r.1) (by omega) (by omega)
  have h2 := shL_len (n := r.2) ⟨h.2.2.1, h.2.2.2⟩
  rw [List.length_append, List.length_cons]
  omega
theorem sum_le {ys : List Str} {m : Nat} (h : ∀ y ∈ ys, y.length ≤ m) : (ys.map (·.length)).sum ≤ ys.length * m := by
  induction ys with
  | nil => simp
  | cons y ys ih =>
    have h1 := h y List.mem_cons_self
    have h2 := ih fun z hz => h z (List.mem_cons_of_mem _ hz)
    rw [List.map_cons, List.sum_cons, List.length_cons, Nat.add_mul, Nat.one_mul]
    omega
theorem join_len {ys : List Str} {m : Nat} (h : ∀ y ∈ ys, y.length ≤ m) : (Str.join sc ys).length ≤ ys.length * m + ys.length * 2 := by
  have h1 := StrLaws.join_length_le sc ys
  have h2 := sum_le h
  rw [show sc.length = 2 from rfl] at h1
  omega
end KC
set_option Elab.async false
set_option linter.all false
set_option maxRecDepth 100000
namespace L2
open PySem PySem.Spec PyProof.Rows
noncomputable def ExO (ea C : Addr) (dx : Option Addr) (tb : Value) : Heap → Prop := fun h =>
  ∃ o vs, h.get? ea = some o ∧ o.cls = .ref C ∧ o.dict = dx ∧ o.data = .fields vs ∧ vs.size = 6 ∧ vs[1]? = some tb
noncomputable def TbO (T : Addr) : Heap → Prop := fun h => ∃ o ts, h.get? T = some o ∧ o.data = .fields ts ∧ ts[3]? = some Value.none
noncomputable def XAt (H : Hp) (ea C : Addr) (dx : Option Addr) : Prop :=
  ∃ tb, H ea = some (.ext (ExO ea C dx tb)) ∧ (tb = .none ∨ ∃ T, tb = .ref T ∧ H T = some (.ext (TbO T)) ∧ T ≠ ea)
theorem exo_ok {P : Program} {w : World} {H : Hp} {h : Heap} {ea C : Addr} {dx : Option Addr} {tb : Value} (x : ExO ea C dx tb h) : ObjOk P w H h ea (.ext (ExO ea C dx tb)) := by
  obtain ⟨o, vs, e, r⟩ := id x
  exact ⟨x, ⟨o, e⟩, fun h1 h2 ⟨o', vs', e', r'⟩ k => ⟨o', vs', k _ e', r'⟩⟩
theorem tbo_ok {P : Program} {w : World} {H : Hp} {h : Heap} {T : Addr} (x : TbO T h) : ObjOk P w H h T (.ext (TbO T)) := by
  obtain ⟨o, vs, e, r⟩ := id x
  exact ⟨x, ⟨o, e⟩, fun h1 h2 ⟨o', vs', e', r'⟩ k => ⟨o', vs', k _ e', r'⟩⟩
section
variable {M : Model} {A : Around} {E : Value → Shared → Prop} {s : Shared}
structure Looked (L : List Addr) (e : Addr) (oe : Obj) (h h' : Heap) (T : Addr) (fl : Value) : Prop where
  new : T = h.objs.size
  keep : ∀ b o, b ≠ e → b ∉ L → h.get? b = some o → h'.get? b = some o
  slot : ∀ b o, b ≠ e → h.get? b = some o → ∃ sl, h'.get? b = some { o with slots := sl }
  exc : h'.get? e = some (oe.mapFields (·.setIfInBounds 1 (.ref T)))
  tb : ∃ oT ts, h'.get? T = some oT ∧ oT.data = .fields ts ∧ ts[3]? = some fl
theorem entry_core {base : Heap} {env : Env} {outer : List Env} {L e : Addr} {oe : Obj} {vs : Array Value} {head : Value} {hadNext : Bool} {Q : Unit → Shared → Prop}
    (hfr : A.frames = some (env :: outer)) (hl : s.heap.FunFrames base (env :: outer)) (hf : env.frame = some L)
    (he : s.heap.get? e = some oe) (hd : oe.data = .fields vs) (hsz : 1 < vs.size)
    (h : ∀ h' T, Looked (frs (env :: outer)) e oe s.heap h' T (rawInt L) → Q () { s with heap := h' }) :
    wpAny M A (do
      let a ← frameOf env
      let pl ← entryPlaceOf L hadNext
      let b ← EntryCells.newEntry head a .none (rawInt L) .none pl
      setField (.ref e) 1 b) Q E s := by
  have hene : e ∉ (env :: outer).filterMap (·.frame) := fun hm => by
    obtain ⟨_, o, ho, hnf⟩ := hl.mem hm
    rw [he] at ho
    cases ho
    exact hnf vs hd
  refine wpAny_bind (wpAny_frameOf_fun hfr hl hf fun g1 hs1 => ?_)
  refine wpAny_bind (wpAny_entryPlaceOf fun pl hpl => ?_)
  unfold EntryCells.newEntry newFields
  refine wpAny_bind (wpAny_newObj_type ?_ (hpl.sizeOk5 _ _ _ _ _))
  have he1 : g1.get? e = some oe := (hs1.2.1 e hene).trans he
  generalize hob : ({ cls := .type "traceback", dict := none, data := .fields ([head, .ref L, .none, rawInt L, .none] ++ (if pl.isEmpty then List.replicate 6 Value.none else pl)).toArray } : Obj) = ob
  have hobd : ob.data = .fields ([head, .ref L, .none, rawInt L, .none] ++ (if pl.isEmpty then List.replicate 6 Value.none else pl)).toArray := by rw [← hob]
  have hof : ob.isFreed = false := by rw [← hob]; rfl
  have he2 := Heap.get?_push_of_some (h := g1) ob he1
  refine wpAny_setField he2 hd hsz (h _ g1.objs.size ?_)
  have hTe : g1.objs.size ≠ e := Nat.ne_of_gt (Heap.lt_size he1)
  have hd3 := Obj.data_mapFields hd (·.setIfInBounds 1 (Value.ref g1.objs.size))
  have keep : ∀ b o, b ≠ e → g1.get? b = some o → ((g1.push ob).update e (Obj.mapFields (·.setIfInBounds 1 (Value.ref g1.objs.size)))).get? b = some o := fun b o hbe hb => by
    rw [Heap.get?_update_other _ _ (Ne.symm hbe)]
    exact Heap.get?_push_of_some _ hb
  refine ⟨hs1.1, fun b o hbe hbL hb => keep b o hbe ((hs1.2.1 b hbL).trans hb), fun b o hbe hb => ?_, Heap.get?_update_self _ he2 (Obj.isFreed_of_fields hd3), ob, _, ?_, hobd, ?_⟩
  · obtain ⟨sl, q⟩ := hs1.2.2 b o hb
    exact ⟨sl, keep b _ hbe q⟩
  · rw [Heap.get?_update_other _ _ (Ne.symm hTe)]
    exact Heap.get?_push_size g1 hof
  · simp
theorem note_core {base : Heap} {env : Env} {outer : List Env} {L e : Addr} {oe : Obj} {vs : Array Value} {tb : Value} {Q : Unit → Shared → Prop}
    (hfr : A.frames = some (env :: outer)) (hl : s.heap.FunFrames base (env :: outer)) (hf : env.frame = some L)
    (he : s.heap.get? e = some oe) (hd : oe.data = .fields vs) (h1 : vs[1]? = some tb) (ht : tb = .none ∨ ∃ T, tb = .ref T ∧ TbO T s.heap)
    (h : ∀ h' T, Looked (frs (env :: outer)) e oe s.heap h' T (rawInt L) → Q () { s with heap := h' }) : wpAny M A (noteFrame (.ref e) env) Q E s := by
  unfold noteFrame
  simp only [hf]
  refine wpAny_bind (wpAny_field he hd h1 ?_)
  have hsz := (Array.getElem?_eq_some_iff.mp h1).1
  rcases ht with rfl | ⟨T, rfl, oT, ts, hT, hdT, h3⟩
  · rw [if_neg (by decide)]
    exact entry_core hfr hl hf he hd hsz h
  · rw [if_pos (show (Value.ref T != Value.none) = true from by simp)]
    refine wpAny_bind (wpAny_field hT hdT h3 ?_)
    rw [if_neg (show ¬ ((Value.none == rawInt L) = true) from by simp [rawInt])]
    refine wpAny_bind (wpAny_setField hT hdT (Array.getElem?_eq_some_iff.mp h3).1 ?_)
    rw [Heap.update_setField_same s.heap T oT ts 3 Value.none hT hdT h3]
    exact entry_core hfr hl hf he hd hsz h
theorem look_core {base : Heap} {env : Env} {outer : List Env} {L e : Addr} {oe : Obj} {vs : Array Value} {tb : Value} {Q : Unit → Shared → Prop}
    (hfr : A.frames = some (env :: outer)) (hl : s.heap.FunFrames base (env :: outer)) (hf : env.frame = some L)
    (he : s.heap.get? e = some oe) (hd : oe.data = .fields vs) (h1 : vs[1]? = some tb) (ht : tb = .none ∨ ∃ T, tb = .ref T ∧ TbO T s.heap)
    (h : ∀ h' T, Looked (frs (env :: outer)) e oe s.heap h' T .none → Q () { s with heap := h' }) :
    wpAny M A (noteFrame (.ref e) env) (fun _ s2 => wpAny M A (setFlight (.ref e) none) Q E s2) E s := by
  refine note_core hfr hl hf he hd h1 ht fun h' T K => ?_
  obtain ⟨k1, k2, k3, k4, oT, ts, k5, k6, k7⟩ := K
  have hsz := (Array.getElem?_eq_some_iff.mp h1).1
  have h3 : 3 < ts.size := (Array.getElem?_eq_some_iff.mp k7).1
  have hTe : e ≠ T := by rw [k1]; exact Nat.ne_of_lt (Heap.lt_size he)
  unfold setFlight
  refine wpAny_bind (wpAny_field k4 (Obj.data_mapFields hd _) (x := .ref T) (by simp [hsz]) ?_)
  rw [if_pos (show (Value.ref T != Value.none) = true from by simp)]
  refine wpAny_setField k5 k6 h3 (h _ T ⟨k1, fun b o hbe hbL hb => ?_, fun b o hbe hb => ?_, ?_, _, _, Heap.get?_update_self _ k5 (Obj.isFreed_of_fields (Obj.data_mapFields k6 _)), Obj.data_mapFields k6 _, by simp [h3]⟩)
  · have : T ≠ b := by rw [k1]; exact Nat.ne_of_gt (Heap.lt_size hb)
    rw [Heap.get?_update_other _ _ this]; exact k2 b o hbe hbL hb
  · have : T ≠ b := by rw [k1]; exact Nat.ne_of_gt (Heap.lt_size hb)
    rw [Heap.get?_update_other _ _ this]; exact k3 b o hbe hb
  · rw [Heap.get?_update_other _ _ (Ne.symm hTe)]; exact k4
end
section
variable {X : Cx} {pins : List (Addr × Obj)} {σ : St} {H : Hp} {s : Shared} {ea C : Addr} {dx : Option Addr}
noncomputable def lookH (H : Hp) (ea C : Addr) (dx : Option Addr) (T : Addr) : Hp := upd (upd H ea (.ext (ExO ea C dx (.ref T)))) T (.ext (TbO T))
theorem lookH_old {T : Addr} {b : Addr} {o : HO} (hT : H T = none) (hb : b ≠ ea) (e : H b = some o) : lookH H ea C dx T b = some o := by
  unfold lookH
  rw [upd_ne (ne_of_none e hT), upd_ne hb]
  exact e
theorem lookH_x {T : Addr} (hT : H T = none) (hne : T ≠ ea) : XAt (lookH H ea C dx T) ea C dx := by
  refine ⟨.ref T, ?_, .inr ⟨T, rfl, ?_, hne⟩⟩
  · unfold lookH
    rw [upd_ne (Ne.symm hne), upd_same]
  · unfold lookH
    rw [upd_same]
theorem look_ok {M : Model} {A : Around} {E : Value → Shared → Prop} {Q : Unit → Shared → Prop} (I : Inv X pins σ H s) (hst : X.stack = X.env :: X.outer) (hf : X.env.frame = some X.env.locals) (hfr : A.frames = some X.stack) (x : XAt H ea C dx)
    (h : ∀ s' T, H T = none → T ≠ ea → Inv X pins σ (lookH H ea C dx T) s' → Q () s') :
    wpAny M A (noteFrame (.ref ea) X.env) (fun _ s2 => wpAny M A (setFlight (.ref ea) none) Q E s2) E s := by
  obtain ⟨tb, e1, e2⟩ := x
  obtain ⟨⟨oe, vs, he, hc, hdx, hd, hz, h1⟩, _, _⟩ := (show ObjOk X.prog X.w H s.heap ea (.ext (ExO ea C dx tb)) from I.hok ea _ e1)
  have ht : tb = .none ∨ ∃ T, tb = .ref T ∧ TbO T s.heap := by
    rcases e2 with e2 | ⟨T, e2, e3, _⟩
    · exact .inl e2
    · obtain ⟨q, _, _⟩ := (show ObjOk X.prog X.w H s.heap T (.ext (TbO T)) from I.hok T _ e3)
      exact .inr ⟨T, e2, q⟩
  have hl := I.stack
  rw [hst] at hl hfr
  have hea : ea ∉ frs X.stack := fun z => by have := I.stkFree ea z; rw [e1] at this; cases this
  refine look_core hfr hl hf he hd h1 ht fun h' T K => ?_
  obtain ⟨k1, k2, k3, k4, oT, ts, k5, k6, k7⟩ := K
  rw [← hst] at k2
  have hT : H T = none := I.hok.fresh (by rw [k1]; exact Nat.le_refl _)
  have hTe : T ≠ ea := by rw [k1]; exact Nat.ne_of_gt (Heap.lt_size he)
  have nT : ∀ b ob, s.heap.get? b = some ob → b ≠ T := fun b ob e => by rw [k1]; exact Nat.ne_of_lt (Heap.lt_size e)
  have trk : ∀ b u, H b = some u → b ∉ frs X.stack := fun b u e z => by have := I.stkFree b z; rw [e] at this; cases this
  have nex : ∀ b u, H b = some u → (∀ φ, u ≠ .ext φ) → b ≠ ea := fun b u e n z => by subst z; rw [e1] at e; cases e; exact n _ rfl
  have old : ∀ b u, H b = some u → (∀ φ, u ≠ .ext φ) → lookH H ea C dx T b = some u := fun b u e n => lookH_old hT (nex b u e n) e
  have un : Un (frs X.stack) [] H (lookH H ea C dx T) s.heap h' := by
    refine ⟨fun b o e n hb _ => k2 b o (fun z => by subst z; rw [e1] at n; cases n) hb e, fun b o e n hb _ => k3 b o (fun z => by subst z; rw [e1] at n; cases n) e, fun b o e n _ => ?_, fun b o e _ => ?_,
      fun b xs e => old b _ e fun φ z => (nomatch z), fun b o u e => old b _ e fun φ z => (nomatch z), fun b ps e => ⟨#[], by rw [old b _ e fun φ z => (nomatch z)]; simp⟩⟩
    · unfold lookH
      rw [upd_ne (nT b o e), upd_ne fun z => by subst z; rw [e1] at n; cases n]
      exact n
    · by_cases z : b = ea
      · subst z; exact ⟨_, k4⟩
      · obtain ⟨sl, q⟩ := k3 b o z e
        exact ⟨_, q⟩
  have hok : HOk X.prog X.w (lookH H ea C dx T) h' := fun b u e => by
    by_cases z : b = T
    · subst z
      unfold lookH at e
      rw [upd_same] at e; cases e
      exact tbo_ok ⟨oT, ts, k5, k6, k7⟩
    · by_cases z2 : b = ea
      · subst z2
        unfold lookH at e
        rw [upd_ne z, upd_same] at e; cases e
        refine exo_ok ⟨_, _, k4, (Obj.cls_mapFields _ _).trans hc, ?_, Obj.data_mapFields hd _, by simp [hz], by simp [hz]⟩
        rw [← hdx]
        obtain ⟨oc, od, odt, osl⟩ := oe
        have hd' : odt = .fields vs := hd
        subst hd'
        rfl
      · have e' : H b = some u := by
          unfold lookH at e
          rw [upd_ne z, upd_ne z2] at e
          exact e
        refine (I.hok b u e').stay (fun c v hc q => ?_) (fun c q => old c _ q fun φ z => (nomatch z)) fun c xs q => old c _ q fun φ z => (nomatch z)
        rcases hc with hc | hc
        · subst hc; exact k2 c v z2 (trk c u e') q
        · exact k2 c v (nex c _ hc fun φ z => (nomatch z)) (trk c _ hc) q
  exact h _ T hT hTe (I.call' (s' := { s with heap := h' }) rfl un hok I.bare fun b z => absurd z (by simp))
noncomputable def Sure (E : XK) (C ea : Addr) (dx : Option Addr) (H : Hp) : Prop := ∀ H', (∀ b o, b ≠ ea → H b = some o → H' b = some o) → XAt H' ea C dx → E (.ref C) (some ea) H'
theorem Sure.look {E : XK} {T : Addr} (h : Sure E C ea dx H) (hT : H T = none) : Sure E C ea dx (lookH H ea C dx T) := fun H' k x => h H' (fun b o hb e => k b o hb (lookH_old hT hb e)) x
inductive CX1_P (P : Program) (w : World) (outer : List Env) (H : Hp) (s : Shared) (E : XK) (e : Value) (s' : Shared) : Prop
  | mk (ea C dx H' : _) (h1 : e = .ref ea) (h2 : s'.os = s.os) (h3 : AllBare s'.gens) (h4 : Un (frs outer) [] H H' s.heap s'.heap) (h5 : HOk P w H' s'.heap) (h6 : XAt H' ea C dx) (h7 : Sure E C ea dx H') : CX1_P P w outer H s E e s'
noncomputable def CX1 (P : Program) (w : World) : CXT := fun outer H s E e s' => CX1_P P w outer H s E e s'
noncomputable def Throws (X : Cx) (E : XK) : Prop := ∀ (pins : List (Addr × Obj)) (σ : St) (H : Hp) (s : Shared) (ea C : Addr) (dx : Option Addr), Inv X pins σ H s → XAt H ea C dx → Sure E C ea dx H → X.xe (.ref ea) s
theorem Throws.passes {E : XK} (t : Throws X E) : Passes (CX1 X.prog X.w) X E := by
  intro pins σ H s e s' I ⟨ea, C, dx, H', e1, os, bare, un, hok, x, q⟩
  subst e1
  exact t pins σ H' s' ea C dx (I.call' os un hok bare fun b z => absurd z (by simp)) x q
theorem throws_cx {P : Program} {w : World} {K : PySem.W.Frag} {mg : Str → Option Value} {base : Heap} {N : List Str} {qual : Str} {scope : Scope} {f : Addr} {cd : Value} {A : Around} {outer : List Env} {s₀ : Shared} {H₀ : Hp} {E : XK} :
    Throws (cxOf (CX1 P w) P w K mg base N qual scope f cd A outer s₀ H₀ E) E := by
  intro pins σ H s ea C dx I x q
  show wpAny _ _ (leaving _ _) _ _ _
  unfold leaving
  refine wpAny_bind (look_ok I rfl rfl I.ok.frames x fun s' T hT hne J => ?_)
  exact ⟨ea, C, dx, _, rfl, J.os, J.bare, J.base, J.hok, lookH_x hT hne, q.look hT⟩
end
end L2
set_option Elab.async false
set_option linter.all false
set_option maxRecDepth 100000
namespace L2
open PySem PySem.Spec PyProof.Rows
noncomputable def tyS : Value → String
  | .type a => a
  | _ => ""
theorem tyS_is {v : Value} {s : String} (h : tyS v = s) (n : s ≠ "") : v = .type s := by
  cases v with
  | type a => exact congrArg _ h
  | _ => exact absurd h.symm n
theorem tyS_all {l : List Value} : ∀ {ss : List String}, l.map tyS = ss → (∀ s ∈ ss, s ≠ "") → l = ss.map Value.type := by
  induction l with
  | nil => intro ss h _; rw [← h]; rfl
  | cons v l ih =>
    intro ss h n
    cases ss with
    | nil => cases h
    | cons s ss =>
      have h1 : tyS v = s := (List.cons.inj h).1
      have h2 : l.map tyS = ss := (List.cons.inj h).2
      rw [tyS_is h1 (n s List.mem_cons_self), ih h2 fun x m => n x (List.mem_cons_of_mem _ m)]
      rfl
noncomputable def xTail : List Value → Bool
  | [] => false
  | x :: r => match x with
    | .ref _ => xTail r
    | _ => (x :: r).map tyS == ["ValueError", "Exception", "BaseException", "object"]
theorem xTail_cases {l : List Value} (e : xTail l = true) : (∃ c r, l = .ref c :: r ∧ xTail r = true) ∨ l = [.type "ValueError", .type "Exception", .type "BaseException", .type "object"] := by
  cases l with
  | nil => cases e
  | cons x r =>
    unfold xTail at e
    split at e
    · exact .inl ⟨_, r, rfl, e⟩
    · exact .inr (tyS_all (eq_of_beq e) (by decide))
theorem xTail_has {T : String} {v : Bool} (h4 : ([.type "ValueError", .type "Exception", .type "BaseException", .type "object"] : List Value).contains (.type T) = v) {l : List Value} : xTail l = true → l.contains (.type T) = v := by
  induction l with
  | nil => intro e; cases e
  | cons x r ih =>
    intro e
    rcases xTail_cases e with ⟨c, r', h, e'⟩ | h
    · cases h
      rw [List.contains_cons, ih e', show (Value.type T == Value.ref c) = false from rfl, Bool.false_or]
    · rw [h]; exact h4
inductive XCls_P (K : PySem.W.Frag) (C : Addr) : Prop
  | mk (nm qn : Str) (N : Addr) (bs bm : List Value) (sn : List Str) (sub : List Value) (ab : Bool) (col : Option Bool) (dd : Option Addr) (k0 k1 k2 k3 k5 : Option Value) (h1 : K.lookup C = some (excClassObj nm qn C N bs bm true sn sub ab col dd k0 k1 k2 k3 k5 "ValueError.__new__")) (h2 : xTail bm = true) : XCls_P K C
noncomputable def XCls (K : PySem.W.Frag) (C : Addr) : Prop := XCls_P K C
noncomputable def xIn (K : PySem.W.Frag) (C : Addr) : Bool := @decide (XCls K C) (Classical.propDecidable _)
theorem xIn_iff {K : PySem.W.Frag} {C : Addr} : xIn K C = true ↔ XCls K C := @decide_eq_true_iff (XCls K C) (Classical.propDecidable _)
theorem xcls {K : PySem.W.Frag} {h : Heap} {C : Addr} (X : K.In h) (q : xIn K C = true) : ∃ nm qn N bs bm sn sub ab col dd k0 k1 k2 k3 k5,
    h.get? C = some (excClassObj nm qn C N bs bm true sn sub ab col dd k0 k1 k2 k3 k5 "ValueError.__new__") ∧ xTail bm = true := by
  obtain ⟨nm, qn, N, bs, bm, sn, sub, ab, col, dd, k0, k1, k2, k3, k5, ho, hx⟩ := xIn_iff.mp q
  exact ⟨nm, qn, N, bs, bm, sn, sub, ab, col, dd, k0, k1, k2, k3, k5, X _ _ ho, hx⟩
section
variable {M : Model} {A : Around} {E : Value → Shared → Prop} {h : Heap} {g : Array GenState} {d : Drawn} {t : Nat} {os : OsState}
variable {nm q : Str} {C N : Addr} {bs bm bmB : List Value} {sn : List Str} {sub : List Value} {ab : Bool} {col : Option Bool} {dd : Option Addr} {k0 k1 k2 k3 k5 : Option Value} {B newId initId : String}
theorem x_check_new (F : ExcBaseFacts B newId initId bmB) {rest : List Value} {Q : Unit → Shared → Prop} (hC : h.get? C = some (excClassObj nm q C N bs bm true sn sub ab col dd k0 k1 k2 k3 k5 newId))
    (hcont : (Value.ref C :: bm).contains (.type B) = true) (hq : Q () ⟨h, g, d, t, os⟩) : wpAny M A (checkBuiltinCall newId ⟨.ref C :: rest, []⟩) Q E ⟨h, g, d, t, os⟩ := by
  have hstar := F.noStar
  simp only [checkBuiltinCall, F.newKind, F.newSplit, F.newRow]
  repeat (first
    | refine wpAny_loadPart_at hC ?_
    | (refine wpAny_isSubtype_exc hC ?_; rw [hcont])
    | refine wpAny_staticBase_exc hC ?_
    | refine wpAny_madeBy_exc hC ?_
    | simp only [bne_self_eq_false, Bool.false_eq_true, if_false]
    | wp_step)
  exact hq
end
section
variable {prog : Program} {w : World} {A : Around} {R : Result → Shared → Prop} {E : Value → Shared → Prop} {h : Heap} {g : Array GenState} {d : Drawn} {t : Nat} {os : OsState}
variable {nm q : Str} {C N : Addr} {bs bm bmB : List Value} {sn : List Str} {sub : List Value} {ab : Bool} {col : Option Bool} {dd : Option Addr} {k0 k1 k2 k3 k5 : Option Value} {B newId initId : String}
noncomputable abbrev excObj (C : Addr) (t : Addr) : Obj := { cls := .ref C, data := .fields #[.ref t, .none, .none, .none, .bool false, .none] }
theorem x_new (F : ExcBaseFacts B newId initId bmB) {rest : List Value} (hC : h.get? C = some (excClassObj nm q C N bs bm true sn sub ab col dd k0 k1 k2 k3 k5 newId))
    (hcB : (Value.ref C :: bm).contains (.type B) = true) (hcA : (Value.ref C :: bm).contains (.type "AttributeError") = false) (hcN : (Value.ref C :: bm).contains (.type "NameError") = false)
    (hq : R (.ok (.ret (.ref (h.objs.size + 1)))) ⟨(h.push { cls := .type "tuple", data := .seq rest.toArray }).push (excObj C h.objs.size), g, d, t, os⟩) (hrest : rest.length ≤ sizeLine) :
    codeAny (model prog w) A (.builtin newId ⟨.ref C :: rest, []⟩) R ⟨h, g, d, t, os⟩ := by
  have hends := F.ends
  refine codeAny_builtinAt F.entry ?_
  unfold Builtin.«BaseException.__new__»
  refine PySem.wpAt_bind ?_
  show PySem.wpAt _ _ _ (stack >>= _) _ _ _
  refine PySem.wpAt_bind (PySem.wpAt_stack fun p below => PySem.wpAt_of_wpAny ?_)
  wp_walk
  refine PySem.wpAt_of_wpAny ?_
  rw [F.owner]
  repeat (first
    | with_reducible refine wpAny_madeHere_exc F.canon hC ?_
    | with_reducible refine wpAny_loadPart_at hC ?_
    | (with_reducible refine wpAny_isSubtype_exc hC ?_; first | rw [hcB] | rw [hcA] | rw [hcN])
    | wp_step)
  show R _ _
  rw [Heap.size_push]
  exact hq
theorem x_make {K : PySem.W.Frag} {rest : List Value} {fI : Addr} {Q : Value → Shared → Prop} (X : K.In h) (xi : xIn K C = true)
    (hi : PySem.W.findIn K (.ref C) "__init__" = some (some (.ref fI))) (hf : PySem.W.typeIn K (.ref fI) = some (.type "function"))
    (hq : wpAny (model prog w) (A.under (.builtin "type.__call__" ⟨.ref C :: rest, []⟩)) (call (.ref fI) (.ref (h.objs.size + 1) :: rest)) (fun r s' => r = .none ∧ Q (.ref (h.objs.size + 1)) s') E
      ⟨(h.push { cls := .type "tuple", data := .seq rest.toArray }).push (excObj C h.objs.size), g, d, t, os⟩) (hrest : rest.length ≤ sizeLine) :
    wpAny (model prog w) A (call (.ref C) rest) Q E ⟨h, g, d, t, os⟩ := by
  obtain ⟨nm, qn, N, bs, bm, sn, sub, ab, col, dd, k0, k1, k2, k3, k5, hC, hx⟩ := xcls X xi
  have F := PySem.F.excBase_ValueError
  have f1 := tc_lookup
  have f2 := tc_bind (.ref C)
  have hT : (⟨h, g, d, t, os⟩ : Shared).TypeIs (.ref C) "type" := ⟨_, hC, rfl⟩
  have hcB : (Value.ref C :: bm).contains (.type "ValueError") = true := by rw [List.contains_cons, xTail_has (v := true) (by decide +kernel) hx, Bool.or_true]
  have hcA : (Value.ref C :: bm).contains (.type "AttributeError") = false := by rw [List.contains_cons, xTail_has (v := false) (by decide +kernel) hx]; rfl
  have hcN : (Value.ref C :: bm).contains (.type "NameError") = false := by rw [List.contains_cons, xTail_has (v := false) (by decide +kernel) hx]; rfl
  refine wpAny_call (codeAny_of_tree ?_)
  show wpAny _ _ (callAny (.ref C) _) _ _ _
  repeat (any_goals (first
    | assumption
    | with_reducible refine wpAny_loadPart_at hC ?_
    | wp_step))
  refine ⟨rfl, ?_⟩
  refine codeAny_call_builtin_at (Code.quiet_builtin _ (by decide +kernel)) entry_typeCall (wpAny_check_type_call_sub hC ?_)
  repeat (first
    | with_reducible refine wpAny_loadPart_at hC ?_
    | with_reducible refine wpAny_madeBy_exc hC ?_
    | wp_step)
  refine codeAny_call_builtin_code (Code.quiet_builtin _ F.quiet) (x_check_new F hC hcB ?_)
  refine x_new F hC hcB hcA hcN ?_ hrest
  show wpAny _ _ _ _ _ (⟨(h.push { cls := .type "tuple", data := .seq rest.toArray }).push (excObj C h.objs.size), g, d, t, os⟩ : Shared)
  have kp : ∀ b o, h.get? b = some o → ((h.push { cls := .type "tuple", data := .seq rest.toArray }).push (excObj C h.objs.size)).get? b = some o := fun b o e => Heap.get?_push_of_some _ (Heap.get?_push_of_some _ e)
  have hC1 := kp _ _ hC
  have X1 := X.keeps kp
  have hget : ((h.push { cls := .type "tuple", data := .seq rest.toArray }).push (excObj C h.objs.size)).get? (h.objs.size + 1) = some (excObj C h.objs.size) := by heap_get
  have hcC : (Value.ref C :: bm).contains (.ref C) = true := by simp
  unfold isInstance
  repeat (first
    | with_reducible refine wpAny_loadPart_at hget ?_
    | (show wpAny _ _ (isSubtype (.ref C) _) _ _ _; with_reducible refine wpAny_isSubtype_exc hC1 ?_; rw [hcC])
    | wp_step)
  show wpAny _ _ (typeLookup (.ref C) _) _ _ _
  refine (PySem.W.looks_findIn X1 hi).at ?_
  refine wpAny_holding (wpAny_bind ((PySem.W.bind_fn X1 _ hf).at ?_))
  refine wpAny_bind (wpAny_mono hq (fun r s' hr => ?_) fun _ _ x => x)
  obtain ⟨rfl, hQ⟩ := hr
  wp_walk
  exact hQ
end
end L2
set_option Elab.async false
set_option linter.all false
set_option maxRecDepth 100000
namespace L2
open PySem PySem.Spec PyProof.Rows
theorem xcd {K : PySem.W.Frag} {C : Addr} (q : xIn K C = true) : ∃ cd bm, PySem.W.clsIn K C = some cd ∧ cd.mro = .ref C :: bm ∧ xTail bm = true ∧ cd.hasDict = true := by
  obtain ⟨nm, qn, N, bs, bm, sn, sub, ab, col, dd, k0, k1, k2, k3, k5, ho, hx⟩ := xIn_iff.mp q
  have e : ∃ cd, PySem.W.clsIn K C = some cd ∧ cd.mro = .ref C :: bm ∧ cd.hasDict = true := by
    unfold PySem.W.clsIn
    rw [ho]
    exact ⟨_, rfl, rfl, rfl⟩
  obtain ⟨cd, h1, h2, h3⟩ := e
  exact ⟨cd, bm, h1, h2, hx, h3⟩
theorem xmro {K : PySem.W.Frag} {C : Addr} {T : String} (q : xIn K C = true) (h4 : ([.type "ValueError", .type "Exception", .type "BaseException", .type "object"] : List Value).contains (.type T) = true) : PySem.W.mroIn K C (.type T) = some true := by
  obtain ⟨cd, bm, h1, h2, h3, _⟩ := xcd q
  unfold PySem.W.mroIn
  rw [h1, Option.bind_some, h2, if_neg (by simp), List.contains_cons, xTail_has h4 h3, Bool.or_true]
section
variable {M : Model} {A : Around} {E : Value → Shared → Prop} {s : Shared} {env : Env}
theorem x_raise {x : Sem Value} {Q : Flow → Shared → Prop} (hh : A.handled = none)
    (h : wpAny M A x (fun v s1 => ∃ (ea C : Addr) (o : Obj) (vs : Array Value) (K : PySem.W.Frag), v = .ref ea ∧ K.In s1.heap ∧ xIn K C = true ∧ s1.heap.get? ea = some o ∧ o.cls = .ref C ∧ o.data = .fields vs ∧ vs[1]? = some .none ∧ E (.ref ea) s1) E s) :
    wpAny M A (raiseStmt env (some x) none) Q E s := by
  unfold raiseStmt
  refine wpAny_bind (wpAny_mono h (fun v s1 h1 => ?_) fun _ _ x => x)
  obtain ⟨ea, C, o, vs, K, rfl, X, xi, he, hc, hd, hv, hE⟩ := h1
  obtain ⟨nm, qn, N, bs, bm, sn, sub, ab, col, dd, k0, k1, k2, k3, k5, hC, hx⟩ := xcls X xi
  have hcB : (Value.ref C :: bm).contains (.type "BaseException") = true := by rw [List.contains_cons, xTail_has (v := true) (by decide +kernel) hx, Bool.or_true]
  obtain ⟨oc, od, odt, osl⟩ := o
  dsimp only at hc hd
  subst hc hd
  obtain ⟨hp, g, d, tk, os⟩ := s1
  repeat (first
    | with_reducible refine wpAny_field he rfl hv ?_
    | with_reducible refine wpAny_loadPart_at he ?_
    | with_reducible refine wpAny_loadPart_at hC ?_
    | (with_reducible refine wpAny_isSubtype_exc hC ?_; rw [hcB])
    | wp_step)
  exact wpAny_raiseNew_none hh hE
end
section
variable {prog : Program} {w : World} {A : Around} {E : Value → Shared → Prop} {s : Shared} {K : PySem.W.Frag} {C x : Addr} {ox : Obj} {name : Str} {v : Value}
theorem x_binit {rest : List Value} {vs : Array Value} {Q : Value → Shared → Prop} (X : K.In s.heap) (xi : xIn K C = true) (hx : s.heap.get? x = some ox) (hc : ox.cls = .ref C) (hd : ox.data = .fields vs) (hz : vs.size = 6) (hl : rest.length ≤ sizeLine)
    (h : ∀ h' tp, (∀ b o, b ≠ x → s.heap.get? b = some o → h'.get? b = some o) → h'.get? x = some (ox.mapFields (·.setIfInBounds 0 tp)) → Q .none { s with heap := h' }) :
    wpAny (model prog w) A (call (.builtin "ValueError.__init__") (.ref x :: rest)) Q E s := by
  obtain ⟨hp, g, d, tk, os⟩ := s
  have F := PySem.F.excBase_ValueError
  obtain ⟨nm, qn, N, bs, bm, sn, sub, ab, col, dd, k0, k1, k2, k3, k5, hC, hxt⟩ := xcls X xi
  have hcB : (Value.ref C :: bm).contains (.type "ValueError") = true := by rw [List.contains_cons, xTail_has (v := true) (by decide +kernel) hxt, Bool.or_true]
  have hshort := F.noStar
  have chk : wpAny (model prog w) A.in1 (checkBuiltinCall "ValueError.__init__" ⟨.ref x :: rest, []⟩) (fun _ s' => s' = ⟨hp, g, d, tk, os⟩) (fun _ _ => False) ⟨hp, g, d, tk, os⟩ := by
    simp only [checkBuiltinCall, F.initKind, F.initSplit, F.initRow]
    repeat (first
      | (with_reducible refine wpAny_loadPart_at hx ?_; rw [hc])
      | with_reducible refine wpAny_loadPart_at hC ?_
      | (with_reducible refine wpAny_isSubtype_exc hC ?_; rw [hcB])
      | wp_step)
    refine wpAny_onRaise ?_
    rw [show ∀ (a b : String) (n : Nat), Bind.check ⟨.positional, "*", "ValueError", .self, [⟨"args", .varPos, false⟩]⟩ a b n (List.map (fun x => x.fst) ({ pos := Value.ref x :: rest } : Args).kw) = pure () from
      fun a b n => check_star_args _ _ _ _ _ _]
    exact wpAny_pure rfl
  refine wpAny_call (codeAny_call_builtin F.init.plain F.initEntry (wpAny_mono chk (fun _ s1 e => ?_) fun _ _ z => z.elim))
  subst e
  unfold Builtin.«BaseException.__init__»
  repeat (first
    | with_reducible refine wpAny_loadPart_at hx ?_
    | wp_step)
  obtain ⟨a0, h0⟩ : ∃ a0, vs[0]? = some a0 := ⟨_, Array.getElem?_eq_getElem (by omega)⟩
  rw [hd]
  refine wpAny_pure ?_
  rw [h0]
  refine wpAny_pure ?_
  have hx1 : (hp.push { cls := .type "tuple", data := .seq rest.toArray }).get? x = some ox := Heap.get?_push_of_some _ hx
  refine wpAny_bind (wpAny_setField hx1 hd (by omega) ?_)
  have fin := h ((hp.push { cls := .type "tuple", data := .seq rest.toArray }).update x (Obj.mapFields (·.setIfInBounds 0 (.ref hp.objs.size)))) (.ref hp.objs.size) (fun b o hb e => by
    rw [Heap.get?_update_other _ _ (Ne.symm hb)]
    exact Heap.get?_push_of_some _ e) (Heap.get?_update_self _ hx1 (Obj.isFreed_of_fields (Obj.data_mapFields hd _)))
  cases a0 <;> (repeat wp_step) <;> exact fin
end
theorem x_refuse (self : Value) {l : List Value} : xTail l = true → refuseLoop self "__setattr__" l = pure () := by
  induction l with
  | nil => intro e; cases e
  | cons x r ih =>
    intro e
    rcases xTail_cases e with ⟨c, r', h, e'⟩ | h
    · cases h
      rw [refuseLoop_ref]
      exact ih e'
    · rw [h]; exact PySem.F.store_ValueError.passes self
section
variable {prog : Program} {w : World} {A : Around} {E : Value → Shared → Prop} {s : Shared} {K : PySem.W.Frag} {C x : Addr} {ox : Obj} {name : Str} {v : Value}
theorem x_set {vs : Array Value} {Q : Unit → Shared → Prop} (X : K.In s.heap) (xi : xIn K C = true) (hx : s.heap.get? x = some ox) (hc : ox.cls = .ref C) (hd : ox.data = .fields vs) (hdn : ox.dict = none)
    (hs : PySem.W.findIn K (.ref C) "__setattr__" = some (some (.builtin "object.__setattr__"))) (ha : PySem.W.findIn K (.ref C) name = some none)
    (h : ∀ h' dx, s.heap.objs.size ≤ dx → h'.get? x = some { ox with dict := some dx } → h'.Ns1 dx (fun y => if y = name then some v else none) → (∀ b o, b ≠ x → s.heap.get? b = some o → h'.get? b = some o) →
      Q () { s with heap := h', toks := s.toks + 2 }) :
    wpAny (model prog w) A (setAttr (.ref x) name v) Q E s := by
  have SF := PySem.F.store_object
  obtain ⟨cd, bm, hcd, hmro, hxt, hdict⟩ := xcd xi
  have I : PySem.W.InstAt s.heap x ox C none := ⟨hx, hc, by unfold PySem.W.notCls; rw [hd], by rw [hdn]; exact True.intro⟩
  refine PySem.W.set_plain X I hs ?_
  have sub : PySem.W.Looks (model prog w) s.heap (isInstance (.ref x) (.type "object")) true := I.type.andThen (PySem.W.looks_mroIn X (xmro xi (by decide +kernel)))
  refine codeAny_call_builtin SF.slot.plain SF.entry (@PySem.W.check_slot (model prog w) _ _ { s with toks := s.toks + 1 } "object.__setattr__" "object" "__setattr__" (.ref x) [.str name s.toks, v] [] _ SF.kind SF.split sub (SF.args (.ref x) (.str name s.toks) v) ?_)
  have hm : PySem.W.Looks (model prog w) s.heap (mroOf (.ref C)) cd.mro := (PySem.W.looks_clsIn X hcd).andThen .now
  rw [PySem.W.osa_eq, refuse_eq]
  refine wpAny_bind (wpAny_bind (I.type.here (s := { s with toks := s.toks + 1 }) (wpAny_bind (hm.here (s := { s with toks := s.toks + 1 }) ?_))))
  rw [hmro, refuseLoop_ref, x_refuse _ hxt]
  refine wpAny_pure (wpAny_bind (I.type.here (s := { s with toks := s.toks + 1 }) (wpAny_bind ((PySem.W.looks_findIn X ha).here (s := { s with toks := s.toks + 1 }) (wpAny_bind (wpAny_pure ?_))))))
  dsimp only
  unfold PySem.Builtin.ObjectAttr.storeInOwnDict
  refine wpAny_bind (wpAny_pure ?_)
  rw [if_neg (by simp)]
  refine wpAny_bind (wpAny_bind (wpAny_loadPart hx ?_))
  rw [hc]
  dsimp only
  refine wpAny_bind ((PySem.W.looks_clsIn X hcd).here (s := { s with toks := s.toks + 1 }) ?_)
  rw [hdict, hdn, if_neg (by decide)]
  dsimp only
  rw [if_neg (by simp [typeHasDict]), hd]
  dsimp only
  have hx1 : (s.heap.push { cls := .type "dict", data := .dict #[] }).get? x = some ox := Heap.get?_push_of_some _ hx
  have hxs : x ≠ s.heap.objs.size := Nat.ne_of_lt (Heap.lt_size hx)
  refine wpAny_bind (wpAny_alloc' ?_)
  refine wpAny_bind (wpAny_update' hx1 ?_)
  refine wpAny_pure (a := some s.heap.objs.size) ?_
  generalize hg : ((s.heap.push { cls := .type "dict", data := .dict #[] }).update x fun o => { cls := o.cls, dict := some s.heap.objs.size, data := o.data, slots := o.slots }) = g1
  have hgd : g1.get? s.heap.objs.size = some { cls := .type "dict", data := .dict #[] } := by
    rw [← hg]; exact (Heap.get?_update_ne _ _ _ _ hxs.symm).trans (Heap.get?_push_at rfl rfl)
  have hnd : g1.Ns s.heap.objs.size (fun _ => none) := ⟨_, #[], _, hgd, rfl, fun e he => absurd he (by simp), fun _ => rfl⟩
  have hgx : g1.get? x = some { ox with dict := some s.heap.objs.size } := by
    rw [← hg]
    refine Heap.get?_update_self _ hx1 ?_
    have hfr := (Heap.get?_some_iff.mp hx).2
    obtain ⟨oc, od, odt, osl⟩ := ox
    cases odt <;> first | rfl | exact hfr
  have hgo : ∀ b o, b ≠ x → s.heap.get? b = some o → g1.get? b = some o := fun b o hb e => by
    rw [← hg]
    exact (Heap.get?_update_ne _ _ _ _ hb).trans (Heap.get?_push_of_some _ e)
  show wpAny _ _ (PySem.Builtin.ObjectAttr.storeInDict s.heap.objs.size (.str name s.toks) name v) _ _ _
  unfold PySem.Builtin.ObjectAttr.storeInDict PySem.Builtin.ObjectAttr.newKeyGuard
  refine wpAny_bind (wpAny_pure (wpAny_bind (wpAny_nsSet1 (Heap.Ns1.of_empty hnd) fun h' hn' hs' => ?_)))
  obtain ⟨oD, esD, epD, hoD, hdD, hcD⟩ := hn'.count (Within.cons name v Within.nil)
  refine wpAny_bind (wpAny_lookBehind hoD (by rw [hdD]; exact pastItsLine_dict (Nat.le_trans hcD (by rw [List.length_cons, List.length_nil, sizeLine_eq]; omega))) ?_)
  refine wpAny_pure (h h' s.heap.objs.size (Nat.le_refl _) ((hs'.2 x hxs).trans hgx) hn' fun b o hb e => (hs'.2 b (Nat.ne_of_lt (Heap.lt_size e))).trans (hgo b o hb e))
end
section
variable {prog : Program} {w : World} {A : Around} {E : Value → Shared → Prop} {s : Shared} {K : PySem.W.Frag} {C x : Addr} {ox : Obj} {od : Option Obj} {name : Str} {v : Value}
theorem x_getBy {tk : Tok} {fill expr : Bool} {Q : Value → Shared → Prop} (X : K.In s.heap) (I : PySem.W.InstAt s.heap x ox C od) (xi : xIn K C = true)
    (hga : PySem.W.findIn K (.ref C) "__getattribute__" = some (some (.builtin "BaseException.__getattribute__"))) (hna : PySem.W.findIn K (.ref C) "__getattr__" = some none)
    (h : wpAny (model prog w) A.in1 (Builtin.«object.__getattribute__» ⟨[.ref x, .str name tk], []⟩) (fun fin s' => match fin with | .done (.ret v) => wpAny (model prog w) A (handedOut v) Q E s' | _ => False) (fun _ _ => False) s) :
    wpAny (model prog w) A (getAttrBy (.ref x) (.str name tk) fill expr) Q E s := by
  have hx2 : (Value.builtin "BaseException.__getattribute__" == Value.builtin "object.__getattribute__") = false := by decide +kernel
  unfold getAttrBy
  refine wpAny_holding (wpAny_bind (I.type.here (wpAny_bind ((PySem.W.looks_findIn X hga).here ?_))))
  dsimp only
  rw [hx2, Bool.and_false, if_neg (by decide)]
  unfold getAttrByItsOwn
  refine wpAny_bind ((PySem.W.looks_hook X (r := none) (by rw [if_pos (by rfl)]; exact hna)).here (wpAny_bind (wpAny_attempt (wpAny_holding ?_))))
  unfold callGetattribute
  rw [show (expr && onTheHeap (Value.builtin "BaseException.__getattribute__")) = false from by cases expr <;> rfl, if_neg (by decide)]
  unfold boundAndCalled
  rw [PySem.F.excAttr_ValueError.ga.bind]
  refine wpAny_bind (wpAny_pure ?_)
  show wpAny _ _ (call (.builtin "BaseException.__getattribute__") [.ref x, .str name tk]) _ _ _
  refine wpAny_call (codeAny_call_builtin PySem.F.excAttr_ValueError.ga.plain PySem.F.entry_bexc_ga ?_)
  refine @PySem.W.check_slot (model prog w) _ _ s "BaseException.__getattribute__" "BaseException" "__getattribute__" (.ref x) [.str name tk] [] _ (by decide +kernel) (by decide +kernel) (I.type.andThen (PySem.W.looks_mroIn X (xmro xi (by decide +kernel)))) (PySem.F.args_bexc_ga (.ref x) (.str name tk)) ?_
  refine wpAny_mono h (fun fin s' z => ?_) fun _ _ z => z.elim
  rcases fin with (_ | _ | _ | _) | _ <;> first | exact z | exact z.elim
theorem x_get {expr : Bool} {Q : Value → Shared → Prop} (X : K.In s.heap) (I : PySem.W.InstAt s.heap x ox C od) (xi : xIn K C = true)
    (hga : PySem.W.findIn K (.ref C) "__getattribute__" = some (some (.builtin "BaseException.__getattribute__"))) (hna : PySem.W.findIn K (.ref C) "__getattr__" = some none)
    (hf : PySem.W.findObj K C od name = some (.value v)) (hh : PySem.W.handedIn v = true) (h : Q v { s with toks := s.toks + 1 }) : wpAny (model prog w) A (getAttr (.ref x) name expr) Q E s := by
  unfold getAttr
  refine wpAny_bind (wpAny_mkText (x_getBy (s := { s with toks := s.toks + 1 }) X I xi hga hna ?_))
  have L1 := PySem.W.looks_find (M := model prog w) X I hf
  unfold Builtin.«object.__getattribute__»
  refine wpAny_bind (wpAny_pure (wpAny_bind (wpAny_pure (wpAny_bind (I.type.here (s := { s with toks := s.toks + 1 }) (wpAny_bind (L1.here (s := { s with toks := s.toks + 1 }) ?_)))))))
  refine wpAny_pure ?_
  show wpAny _ _ (handedOut v) _ _ _
  rw [PySem.W.handedOut_of hh]
  exact wpAny_pure h
end
end L2
set_option Elab.async false
set_option linter.all false
set_option maxRecDepth 100000
namespace L2
open PySem PySem.Spec PyProof.Rows
structure XC (K : PySem.W.Frag) (C : Addr) : Prop where
  xi : xIn K C = true
  ga : PySem.W.findIn K (.ref C) "__getattribute__" = some (some (.builtin "BaseException.__getattribute__"))
  na : PySem.W.findIn K (.ref C) "__getattr__" = some none
  sa : PySem.W.findIn K (.ref C) "__setattr__" = some (some (.builtin "object.__setattr__"))
  cl : PySem.W.findIn K (.ref C) "__class__" = some (some (.builtin "object.__class__"))
  gt : PySem.W.specialIn K (.builtin "object.__class__") "__get__" = some (some (.builtin "getset_descriptor.__get__"))
  tk : PySem.W.takesIn K (.builtin "object.__class__") = some true
section
variable {prog : Program} {w : World} {A : Around} {E : Value → Shared → Prop} {s : Shared} {K : PySem.W.Frag} {C x : Addr} {ox : Obj} {od : Option Obj}
theorem x_class {Q : Option Value → Shared → Prop} (X : K.In s.heap) (I : PySem.W.InstAt s.heap x ox C od) (c : XC K C) (hn : PySem.W.specialIn K (.builtin "object.__class__") "__get__" = some (some (.builtin "getset_descriptor.__get__")))
    (htk : PySem.W.takesIn K (.builtin "object.__class__") = some true) (h : Q (some (.ref C)) { s with toks := s.toks + 1 }) : wpAny (model prog w) A (getAttr? (.ref x) "__class__") Q E s := by
  obtain ⟨cd, bm, hcd, hmro, hxt, hdict⟩ := xcd c.xi
  have hf : PySem.W.findObj K C od "__class__" = some (.bind (.builtin "getset_descriptor.__get__") (.builtin "object.__class__")) := by
    unfold PySem.W.findObj
    rw [hcd, Option.bind_some, c.cl, Option.bind_some]
    simp [hn, htk]
  have L1 := PySem.W.looks_find (M := model prog w) X I hf
  unfold getAttr? getAttrBy?
  refine wpAny_bind (wpAny_mkText (wpAny_bind (wpAny_attempt (x_getBy (s := { s with toks := s.toks + 1 }) X I c.xi c.ga c.na ?_))))
  unfold Builtin.«object.__getattribute__»
  refine wpAny_bind (wpAny_pure (wpAny_bind (wpAny_pure (wpAny_bind (I.type.here (s := { s with toks := s.toks + 1 }) (wpAny_bind (L1.here (s := { s with toks := s.toks + 1 }) ?_)))))))
  show wpAny _ _ (holding [.builtin "object.__class__"] (call (.builtin "getset_descriptor.__get__") [.builtin "object.__class__", .ref x, .ref C]) >>= ret) _ _ _
  refine wpAny_bind (wpAny_holding (wpAny_call (PySem.W.class_get (s := { s with toks := s.toks + 1 }) (ox := ox) (od := od) X I (xmro c.xi (by decide +kernel)) ?_)))
  refine wpAny_pure ?_
  exact PySem.W.handed_on rfl (wpAny_pure h)
theorem x_nested {cc : Value} {dep : Int} {tk : Tok} {b : Bool} {Q : Fin → Shared → Prop} (X : K.In s.heap) (I : PySem.W.InstAt s.heap x ox C od) (c : XC K C) (hn : PySem.W.specialIn K (.builtin "object.__class__") "__get__" = some (some (.builtin "getset_descriptor.__get__")))
    (htk : PySem.W.takesIn K (.builtin "object.__class__") = some true)
    (hty : PySem.W.Looks (model prog w) s.heap (typeOf cc) (.type "type")) (his : PySem.W.Looks (model prog w) s.heap (isType cc) true)
    (hne : (Value.ref C == cc) = true → b = true) (hsub : PySem.W.Looks (model prog w) s.heap (isSubtype (.ref C) cc) b) (h : ∀ t, Q (.done (.ret (.bool b))) { s with toks := t }) :
    wpAny (model prog w) A (Builtin.«isinstance.nested» ⟨[.ref x, cc, .int dep tk], []⟩) Q E s := by
  obtain ⟨cd, bm, hcd, hmro, hxt, hdict⟩ := xcd c.xi
  have hisD : PySem.W.Looks (model prog w) s.heap (isType (.ref C)) true := by
    unfold PySem.W.clsIn at hcd
    split at hcd
    · rename_i c' d' cd' sl' ho
      intro A' Q' E' s' k q
      unfold isType loadHead
      exact wpAny_bind (wpAny_loadPart (k _ _ (X _ _ ho)) (wpAny_pure q))
    · cases hcd
  obtain ⟨h0, g, d, tt, os⟩ := s
  have L0 := I.type (M := model prog w)
  have LI : PySem.W.Looks (model prog w) h0 (isInstance (.ref x) cc) b := L0.andThen hsub
  unfold Builtin.«isinstance.nested»
  refine wpAny_bind (L0.at ?_)
  by_cases hq : (Value.ref C == cc) = true
  · rw [if_pos hq]
    have hb := hne hq
    subst hb
    exact wpAny_pure (M := model prog w) (E := E) (h tt)
  rw [if_neg hq]
  refine wpAny_bind (hty.at ?_)
  rw [if_pos (by decide)]
  k_delta "plainIsInstance"
  refine wpAny_bind (wpAny_bind (his.at ?_))
  simp only [Bool.not_true, Bool.false_eq_true, if_false]
  refine wpAny_bind (LI.at ?_)
  cases b with
  | true =>
    simp only [if_true]
    first
      | exact wpAny_pure (h tt)
      | exact wpAny_pure (wpAny_pure (h tt))
      | exact wpAny_bind (wpAny_pure (wpAny_pure (h tt)))
  | false =>
    simp only [Bool.false_eq_true, if_false]
    refine wpAny_bind (x_class X I c hn htk ?_)
    refine wpAny_bind (hisD.at ?_)
    simp only [Bool.not_true, Bool.false_eq_true, if_false]
    refine wpAny_bind (wpAny_rule ?_)
    refine hsub.at ?_
    first
      | exact wpAny_pure (h _)
      | exact wpAny_pure (wpAny_pure (h _))
      | exact wpAny_bind (wpAny_pure (wpAny_pure (h _)))
theorem x_isi {cc : Value} {b : Bool} {Q : Value → Shared → Prop} (X : K.In s.heap) (I : PySem.W.InstAt s.heap x ox C od) (c : XC K C) (hn : PySem.W.specialIn K (.builtin "object.__class__") "__get__" = some (some (.builtin "getset_descriptor.__get__")))
    (htk : PySem.W.takesIn K (.builtin "object.__class__") = some true)
    (hty : ∀ (M : Model) h', K.In h' → PySem.W.Looks M h' (typeOf cc) (.type "type")) (his : ∀ (M : Model) h', K.In h' → PySem.W.Looks M h' (isType cc) true)
    (hne : (Value.ref C == cc) = true → b = true) (hsub : ∀ (M : Model) h', K.In h' → PySem.W.Looks M h' (isSubtype (.ref C) cc) b) (h : ∀ t, Q (.bool b) { s with toks := t }) :
    wpAny (model prog w) A (call (.builtin "isinstance") [.ref x, cc]) Q E s :=
  call_isinstance (S := fun _ R s => (K.In s.heap ∧ PySem.W.InstAt s.heap x ox C od) ∧ ∀ t, R (.ok (.ret (.bool b))) { s with toks := t })
    (fun _ _ _ _ _ hs => isinstance_outer (x_nested hs.1.1 hs.1.2 c hn htk (hty _ _ hs.1.1) (his _ _ hs.1.1) hne (hsub _ _ hs.1.1) hs.2) (by intro q; cases q)) ⟨⟨X, I⟩, h⟩
end
end L2
set_option Elab.async false
set_option linter.all false
set_option maxRecDepth 100000
namespace L2
open PySem PySem.Spec PyProof.Rows
section
variable {X : Cx} {pins : List (Addr × Obj)} {σ : St} {H : Hp} {s : Shared} {h' : Heap}
theorem Inv.two {x a : Addr} {o1 o2 : HO} {t' : Nat} (I : Inv X pins σ H s) (mu : Mut (H x)) (hp : s.heap.objs.size ≤ a) (k : ∀ b u, b ≠ x → s.heap.get? b = some u → h'.get? b = some u) (hx : ∃ u, h'.get? x = some u)
    (n1 : ObjOk X.prog X.w (upd (upd H x o1) a o2) h' x o1) (n2 : ObjOk X.prog X.w (upd (upd H x o1) a o2) h' a o2) : Inv X pins σ (upd (upd H x o1) a o2) { s with heap := h', toks := t' } := by
  have ha : H a = none := I.hok.fresh hp
  have ne : ∀ b, H b = none → b ≠ x := fun b n z => by subst z; rw [n] at mu; exact mu
  have nm : ∀ b u, H b = some u → ¬ Mut (some u) → b ≠ x := fun b u q n z => by subst z; rw [q] at mu; exact n mu
  have old : ∀ b u, H b = some u → ¬ Mut (some u) → upd (upd H x o1) a o2 b = some u := fun b u q n => by rw [upd_ne (ne_of_none q ha), upd_ne (nm b u q n)]; exact q
  refine I.un ⟨fun b u e n _ _ => k b u (ne b n) e, fun b u e n _ _ => ⟨u.slots, k b u (ne b n) e⟩, fun b u e n _ => ?_, fun b u e _ => ?_, fun b xs e => old b _ e fun z => z, fun b o u e => old b _ e fun z => z, fun b ps e => ⟨#[], by rw [old b _ e fun z => z]; simp⟩⟩ fun b u e => ?_
  · rw [upd_ne (Nat.ne_of_lt (Nat.lt_of_lt_of_le (Heap.lt_size e) hp)), upd_ne (ne b n)]; exact n
  · by_cases z : b = x
    · subst z; exact hx
    · exact ⟨u, k b u z e⟩
  · by_cases z : b = a
    · subst z; rw [upd_same] at e; cases e; exact n2
    · rw [upd_ne z] at e
      by_cases z2 : b = x
      · subst z2; rw [upd_same] at e; cases e; exact n1
      · rw [upd_ne z2] at e
        refine (I.hok b u e).stay (fun c v hc q => ?_) (fun c q => old c _ q fun z => z) fun c xs q => old c _ q fun z => z
        rcases hc with hc | hc
        · subst hc; exact k c v z2 q
        · exact k c v (nm c _ hc fun z => z) q
end
section
variable {X : Cx} {o e value : Expr} {es : List Expr} {f x : Str} {p apos pos pos' tpos : Pos} {ta tv : TE} {t : TA} {C fa : Addr}
structure XMk (K : PySem.W.Frag) (C f : Addr) : Prop where
  c : XC K C
  init : PySem.W.findIn K (.ref C) "__init__" = some (some (.ref f))
  fn : PySem.W.isFn K (.ref f) = true
  kp : PySem.W.keepIn K (.ref C) = true
noncomputable def tXMake (C : Addr) (sp : Sp) (t : TA) : TE := fun σ H Q => t σ H fun vs H1 => vs.length ≤ 10 ∧ ∀ ea, H1 ea = none →
  sp (.ref ea :: vs) (upd H1 ea (.ext (ExO ea C none .none))) (fun v H2 => v = .non ∧ Q (.ref ea) H2) E0
theorem run_xmake {k : Nat} {fd : FuncData} {ps : List Str} {sp : Sp} {pins : List (Addr × Obj)} {σ : St} {H : Hp} {s : Shared} {Q : VK} {us : List Value} {vs : List V} (M : XMk X.K C fa) (F : FnOk X.prog X.w X.K X.mg X.base CX0 k fa fd ps sp)
    (hr : Room (k + 1) X.A) (hb : Binds X.K fd ps []) (I : Inv X pins σ H s) (r : Vals vs us) (hl10 : vs.length ≤ 10)
    (h : ∀ ea, H ea = none → sp (.ref ea :: vs) (upd H ea (.ext (ExO ea C none .none))) (fun v H2 => v = .non ∧ Q (.ref ea) H2) E0) :
    wpAny (model X.prog X.w) X.A (call (.ref C) us) (EP X pins σ Q) X.xe s := by
  have hq := h (s.heap.objs.size + 1) (I.hok.fresh (Nat.le_succ _))
  have hul : us.length ≤ sizeLine := by rw [← r.length, sizeLine_eq]; omega
  have kp : ∀ b o, s.heap.get? b = some o → ((s.heap.push { cls := .type "tuple", data := .seq us.toArray }).push (excObj C s.heap.objs.size)).get? b = some o := fun b o e => Heap.get?_push_of_some _ (Heap.get?_push_of_some _ e)
  have hget : ((s.heap.push { cls := .type "tuple", data := .seq us.toArray }).push (excObj C s.heap.objs.size)).get? (s.heap.objs.size + 1) = some (excObj C s.heap.objs.size) := by heap_get
  have I2 : Inv X pins σ (upd H (s.heap.objs.size + 1) (.ext (ExO (s.heap.objs.size + 1) C none .none))) { s with heap := (s.heap.push { cls := .type "tuple", data := .seq us.toArray }).push (excObj C s.heap.objs.size) } :=
    I.laid (t' := s.toks) kp (Nat.le_succ _) (exo_ok ⟨_, _, hget, rfl, rfl, rfl, rfl, rfl⟩)
  have r2 : Vals (V.ref (s.heap.objs.size + 1) :: vs) (Value.ref (s.heap.objs.size + 1) :: us) := .cons rfl r
  have hl : (Value.ref (s.heap.objs.size + 1) :: us ++ []).length = ps.length := by
    have e := r2.length
    rw [F.len _ _ _ _ hq] at e
    rw [List.append_nil]
    exact e.symm
  obtain ⟨hp, g, d, tk, os⟩ := s
  refine x_make I.kIn M.c.xi M.init (beq_iff_eq.mp M.fn) (wpAny_call (codeAny_mono (F.run _ X.stack _ _ ⟨Value.ref (hp.objs.size + 1) :: us, []⟩ (Value.ref (hp.objs.size + 1) :: us) _ _ E0 (hr.make C us [])
    (I2.env0.make C us []) (by have := hb _ (Value.ref (hp.objs.size + 1) :: us) I2.kIn hl; rw [List.append_nil] at this; exact this) r2 hq) fun r s' hq' => ?_)) hul
  cases r with
  | error e => exact False.elim hq'
  | ok fl =>
    cases fl with
    | ret u =>
      obtain ⟨v, H', I3, rv, ev, q3⟩ := I2.after hq'
      subst ev
      exact ⟨rv, ⟨V.ref (hp.objs.size + 1), H', I3, rfl, q3⟩⟩
    | next => exact False.elim hq'
    | brk => exact False.elim hq'
    | cont => exact False.elim hq'
theorem pe_xmake {k : Nat} {fd : FuncData} {ps : List Str} {sp : Sp} (M : XMk X.K C fa) (F : FnOk X.prog X.w X.K X.mg X.base CX0 k fa fd ps sp) (hr : Room (k + 1) X.A) (hg : Gl X x) (hm : X.mg x = some (.ref C)) (hb : Binds X.K fd ps [])
    (ha : PA X (e :: es) t) (hdb : (x == ("__debug__" : Str)) = false := by decide) (he : starEach (e :: es) X.env = (false, eval e X.env) :: starEach es X.env := by rfl) (hpl : (backTo pos (starEach es X.env)).any (·.1) = false := by rfl) :
    PE X (.Call (.Name x p) (e :: es) [] pos) (tXMake C sp t) := by
  intro pins s σ H Q I h
  refine wpAny_Call_Name_kw (ld_glob I hg hm ?_ hdb)
  refine PySem.W.callWith_K (h₀ := X.base) I.ok.mod.kin M.kp (thn (ha pos pins s σ H _ I h) fun us s1 ⟨vs, H1, I1, r, q⟩ => ⟨I1.kIn, ?_⟩) he hpl
  exact run_xmake M F hr hb I1 r q.1 q.2
inductive tRaise_P (K : PySem.W.Frag) (E : XK) (x : V) (H1 : Hp) : Prop
  | mk (ea C dx : _) (h1 : x = .ref ea) (h2 : xIn K C = true) (h3 : H1 ea = some (.ext (ExO ea C dx .none))) (h4 : Sure E C ea dx H1) : tRaise_P K E x H1
noncomputable def tRaise (K : PySem.W.Frag) (E : XK) (te : TE) : TS := fun _ σ H => te σ H fun x H1 => tRaise_P K E x H1
theorem ps_raise {E : XK} {te : TE} (th : Throws X E) (hc : X.calm = true) (he : PE X e te) : PS X (.Raise (some e) none pos) (tRaise X.K E te) := by
  intro pins s σ H D I h
  rw [arm_exec_Raise]
  refine wpAny_bind (wpAny_standAt ?_)
  simp only [evalOpt, Option.map]
  refine x_raise (I.ok.hd hc) (wpAny_bind (thn (he pins s σ H _ I h) fun u s1 ⟨x, H1, I1, rx, ea, C, dx, ex, xi, e1, sr⟩ => wpAny_bind (wpAny_standAt (wpAny_pure ?_))))
  subst ex
  obtain rfl : u = Value.ref ea := rx
  obtain ⟨⟨oe, vs, hx, hcl, hdx, hd, hz, h1⟩, _, _⟩ := (show ObjOk X.prog X.w H1 s1.heap ea (.ext (ExO ea C dx .none)) from I1.hok ea _ e1)
  exact ⟨ea, C, oe, vs, X.K, rfl, I1.kIn, xi, hx, hcl, hd, h1, th pins σ H1 s1 ea C dx I1 ⟨.none, e1, .inl rfl⟩ sr⟩
inductive tVInit_P (K : PySem.W.Frag) (Q : VK) (vs : List V) (H1 : Hp) : Prop
  | mk (ea C dx tb rest : _) (h1 : vs = .ref ea :: rest) (h2 : rest.length ≤ 10) (h3 : H1 ea = some (.ext (ExO ea C dx tb))) (h4 : xIn K C = true) (h5 : Q .non H1) : tVInit_P K Q vs H1
noncomputable def tVInit (K : PySem.W.Frag) (t : TA) : TE := fun σ H Q => t σ H fun vs H1 => tVInit_P K Q vs H1
theorem upd_self {H : Hp} {a : Addr} {o : HO} (h : H a = some o) : upd H a o = H := by
  funext b
  unfold upd
  split
  · rename_i e; rw [e, h]
  · rfl
theorem vinit_cls : PySem.W.findCls [] (.type "ValueError") (.type "type") "__init__" = some (.val (.builtin "ValueError.__init__")) := by kernel_rfl
theorem pe_vinit {pl : Sem Bool} (hg : Gl X x) (hm : X.mg x = none) (hv : bootBuiltins x = some (.type "ValueError")) (ha : PA X (e :: es) t) (hn : x ≠ "__name__" := by decide) (hdb : (x == ("__debug__" : Str)) = false := by decide)
    (hst : starEach (e :: es) X.env = (false, eval e X.env) :: starEach es X.env := by rfl) (hpl : (backTo pos (starEach es X.env)).any (·.1) = false := by rfl)
    (ht : eval (.Call (.Attribute (.Name x p) "__init__" apos) (e :: es) [] pos) X.env = (do
      let ov ← eval (.Name x p) X.env
      standAt apos.atName
      let (f, first) ← holding [ov] (getMethod ov "__init__" pl)
      callWith pos f first (backTo pos (starEach (e :: es) X.env)) (backToKw pos (keywordEach [] X.env))) := by rfl) :
    PE X (.Call (.Attribute (.Name x p) "__init__" apos) (e :: es) [] pos) (tVInit X.K t) := by
  intro pins s σ H Q I h
  refine PySem.W.methodCall_KW (pl := pl) (ld_blt I hg hm hv ?_ hn hdb) ht
  obtain ⟨m, F⟩ := I.fr
  refine PySem.W.method_type (v := .builtin "ValueError.__init__") F I.mod.kin (by kernel_rfl) (by decide +kernel) vinit_cls rfl ?_
  have I0 := I.tok (s.toks + 1)
  refine PyProof.Rows.callWith_builtin1 (thn (ha pos pins _ σ H _ I0 h) fun us s1 zz_ => ?_) hst hpl
  obtain ⟨vs, H1, I1, r, ea, C, dx, tb, rest, ev, hl, e1, xi, q⟩ := zz_
  subst ev
  obtain ⟨u0, us0, rfl, r0, r1⟩ : ∃ u0 us0, us = u0 :: us0 ∧ RelV (.ref ea) u0 ∧ Vals rest us0 := by
    cases r with
    | cons a b => exact ⟨_, _, rfl, a, b⟩
  obtain rfl : u0 = Value.ref ea := r0
  obtain ⟨⟨oe, vs, hx, hcl, hdx, hd, hz, h1⟩, _, _⟩ := (show ObjOk X.prog X.w H1 s1.heap ea (.ext (ExO ea C dx tb)) from I1.hok ea _ e1)
  refine x_binit I1.kIn xi hx hcl hd hz (by rw [← r1.length, sizeLine_eq]; omega) fun h' tp k1 k2 => ⟨.non, H1, ?_, rfl, q⟩
  have J : Inv X pins σ (upd H1 ea (.ext (ExO ea C dx tb))) { s1 with heap := h', toks := s1.toks } := by
    refine I1.write (x := ea) (e := ea) (by rw [e1]; exact True.intro) (.inl rfl) k1 ⟨_, k2⟩ (exo_ok ⟨_, _, k2, (Obj.cls_mapFields _ _).trans hcl, ?_, Obj.data_mapFields hd _, by simp [hz], ?_⟩)
    · rw [← hdx]
      obtain ⟨oc, od, odt, osl⟩ := oe
      have hd' : odt = .fields vs := hd
      subst hd'
      rfl
    · rw [Array.getElem?_setIfInBounds_ne (by decide)]; exact h1
  rw [upd_self e1] at J
  exact J
structure CInit (K : PySem.W.Frag) (C f : Addr) : Prop where
  sp : PySem.W.specialIn K (.ref C) "__getattribute__" = some (some (.builtin "type.__getattribute__"))
  rd : PySem.W.readsIn K C (.type "type") = true
  at_ : PySem.W.findCls K (.ref C) (.type "type") "__init__" = some (.val (.ref f))
  kp : PySem.W.keepIn K (.ref f) = true
theorem pe_cinit {k : Nat} {fd : FuncData} {ps : List Str} {sp : Sp} {pl : Sem Bool} (c : CInit X.K C fa) (F : FnOk X.prog X.w X.K X.mg X.base CX0 k fa fd ps sp) (hr : Room k X.A) (hb : Binds X.K fd ps []) (hg : Gl X x) (hm : X.mg x = some (.ref C))
    (ha : PA X (e :: es) t) (hdb : (x == ("__debug__" : Str)) = false := by decide)
    (hst : starEach (e :: es) X.env = (false, eval e X.env) :: starEach es X.env := by rfl) (hpl : (backTo pos (starEach es X.env)).any (·.1) = false := by rfl)
    (ht : eval (.Call (.Attribute (.Name x p) "__init__" apos) (e :: es) [] pos) X.env = (do
      let ov ← eval (.Name x p) X.env
      standAt apos.atName
      let (f, first) ← holding [ov] (getMethod ov "__init__" pl)
      callWith pos f first (backTo pos (starEach (e :: es) X.env)) (backToKw pos (keywordEach [] X.env))) := by rfl) :
    PE X (.Call (.Attribute (.Name x p) "__init__" apos) (e :: es) [] pos) (tCall sp [] E0 t) := by
  intro pins s σ H Q I h
  refine PySem.W.methodCall_KW (pl := pl) (ld_glob I hg hm ?_ hdb) ht
  refine PySem.W.method_cls I.kIn c.sp (PySem.W.cls_value I.kIn c.rd c.at_ rfl ?_)
  have I0 := I.tok (s.toks + 1)
  refine PySem.W.callWith_K (h₀ := X.base) I.ok.mod.kin c.kp (thn (ha pos pins _ σ H _ I0 h) fun us s1 ⟨vs, H1, I1, r, q⟩ => ⟨I1.kIn, ?_⟩) hst hpl
  exact run_fn F hr hb .nil pass0 I1 r q
noncomputable def sXFld (K : PySem.W.Frag) (ta tv : TE) (f : Str) : TS := fun D σ H => tv σ H fun y H1 => ta σ H1 fun x H2 => ∃ ea C tb, x = .ref ea ∧ H2 ea = some (.ext (ExO ea C none tb)) ∧ XC K C ∧ NoAttr K C f ∧
  ∀ dx, H2 dx = none → dx ≠ ea → D.nx σ (upd (upd H2 ea (.ext (ExO ea C (some dx) tb))) dx (.xd [(f, y)]))
theorem ps_xfld (ha : PE X o ta) (hv : PE X value tv) (hs : swapsWith value (some (.Attribute o f pos')) pos.line X.env = pure false) : PS X (.Assign [.Attribute o f pos'] value pos) (sXFld X.K ta tv f) := by
  intro pins s σ H D I h
  refine plainObj_wpAny_Assign_Attribute (thn (hv pins s σ H _ I h) fun u s1 ⟨y, H1, I1, ry, q⟩ => thn (ha pins s1 σ H1 _ I1 q) fun ov s2 zz_ => ?_) hs
  obtain ⟨x, H2, I2, rx, ea, C, tb, ex, e1, c, n, q2⟩ := zz_
  subst ex
  obtain rfl : ov = Value.ref ea := rx
  obtain ⟨⟨oe, vs, hx, hcl, hdx, hd, hz, h1⟩, _, _⟩ := (show ObjOk X.prog X.w H2 s2.heap ea (.ext (ExO ea C none tb)) from I2.hok ea _ e1)
  refine x_set I2.kIn c.xi hx hcl hd hdx c.sa n fun h' dx hp k1 k2 k3 => ⟨σ, _, ?_, q2 dx (I2.hok.fresh hp) (Nat.ne_of_gt (Nat.lt_of_lt_of_le (Heap.lt_size hx) hp))⟩
  refine I2.two (by rw [e1]; exact True.intro) hp k3 ⟨_, k1⟩ (exo_ok ⟨_, _, k1, hcl, rfl, hd, hz, h1⟩) ⟨_, k2, fun g => ?_⟩
  by_cases z : g = f
  · subst z; simp [List.lookup]; exact ry
  · have : (g == f) = false := by simp [z]
    simp [List.lookup, this, z]; exact True.intro
inductive tXFld_P (K : PySem.W.Frag) (f : Str) (Q : VK) (x : V) (H1 : Hp) : Prop
  | mk (ea C dx fs v : _) (h1 : x = .ref ea) (h2 : XAt H1 ea C (some dx)) (h3 : H1 dx = some (.xd fs)) (h4 : XC K C) (h5 : NoAttr K C f) (h6 : fs.lookup f = some v) (h7 : Q v H1) : tXFld_P K f Q x H1
noncomputable def tXFld (K : PySem.W.Frag) (ta : TE) (f : Str) : TE := fun σ H Q => ta σ H fun x H1 => tXFld_P K f Q x H1
theorem x_inst {pins : List (Addr × Obj)} {σ : St} {H : Hp} {s : Shared} {ea C dx : Addr} {fs : List (Str × V)} (I : Inv X pins σ H s) (x : XAt H ea C (some dx)) (hd : H dx = some (.xd fs)) :
    ∃ (ox od : Obj) (mA : Str → Option Value), PySem.W.InstAt s.heap ea ox C (some od) ∧ (∀ name, PySem.W.lookIn name od = some (mA name)) ∧ ∀ f, RelO (fs.lookup f) (mA f) := by
  obtain ⟨tb, e1, _⟩ := x
  obtain ⟨⟨oe, vs, hx, hcl, hdx, hdt, hz, h1⟩, _, _⟩ := (show ObjOk X.prog X.w H s.heap ea (.ext (ExO ea C (some dx) tb)) from I.hok ea _ e1)
  obtain ⟨mA, n, r⟩ := (show ObjOk X.prog X.w H s.heap dx (.xd fs) from I.hok dx _ hd)
  obtain ⟨od, ho, hl⟩ := lookIn_ns n
  exact ⟨oe, od, mA, ⟨hx, hcl, by unfold PySem.W.notCls; rw [hdt], by rw [hdx]; exact ho⟩, hl, r⟩
theorem pe_xfld (he : PE X e ta) (hb : attributeBase e f X.env (eval e X.env) = eval e X.env) : PE X (.Attribute e f pos) (tXFld X.K ta f) := by
  intro pins s σ H Q I h
  refine attr_of hb (thn (he pins s σ H _ I h) fun u s1 zz_ => ?_)
  obtain ⟨x, H1, I1, rx, ea, C, dx, fs, v, ex, xa, hd, c, n, l, q⟩ := zz_
  subst ex
  obtain rfl : u = Value.ref ea := rx
  obtain ⟨ox, od, mA, J, hl, r⟩ := x_inst I1 xa hd
  obtain ⟨uv, hu, ru⟩ := RelO.some_of (v := v) (o := mA f) (by rw [← l]; exact r f)
  have hh : PySem.W.hasDictIn X.K C = true := by
    obtain ⟨cd, bm, hcd, _, _, hdict⟩ := xcd c.xi
    unfold PySem.W.hasDictIn
    rw [hcd]
    exact hdict
  exact x_get I1.kIn J c.xi c.ga c.na (PySem.W.findObj_own hh n rfl (by rw [hl, hu])) (handed_of ru) ⟨v, H1, I1.tok _, ru, q⟩
noncomputable def xIsa (K : PySem.W.Frag) (C : Addr) : V → Option Bool
  | .ref D => if (PySem.W.clsIn K D).isSome && PySem.W.typeIn K (.ref D) == some (.type "type") then PySem.W.subIn K (.ref C) (.ref D) else none
  | .ty T => if T == "ValueError" then some true else none
  | _ => none
inductive rIsX_P (K : PySem.W.Frag) (xs : List V) (H : Hp) (Q : VK) : Prop
  | mk (ea C dx fs c b : _) (h1 : xs = [.ref ea, c]) (h2 : XAt H ea C (some dx)) (h3 : H dx = some (.xd fs)) (h4 : XC K C) (h5 : xIsa K C c = some b) (h6 : Q (.bl b) H) : rIsX_P K xs H Q
noncomputable def rIsX (K : PySem.W.Frag) : List V → Hp → VK → Prop := fun xs H Q => rIsX_P K xs H Q
theorem call_isX : CallR X (.builtin "isinstance") (rIsX X.K) := by
  intro pins s σ H xs us Q I r h
  obtain ⟨ea, C, dx, fs, c, b, rfl, xa, hd, xc, hi, q⟩ := h
  obtain ⟨u, w', rfl, ru, rw'⟩ := vals2 r
  cases (show u = Value.ref ea from ru)
  obtain ⟨ox, od, mA, J, hl, _⟩ := x_inst I xa hd
  cases c with
  | ref D =>
    cases (show w' = Value.ref D from rw')
    simp only [xIsa] at hi
    split at hi
    · rename_i hq
      simp only [Bool.and_eq_true, beq_iff_eq] at hq
      obtain ⟨q1, q2⟩ := hq
      refine x_isi I.kIn J xc xc.gt xc.tk (b := b) (fun _ h' X' => PySem.W.looks_typeIn X' q2) (fun _ h' X' => ?_) (fun z => ?_) (fun _ h' X' => PySem.W.looks_subIn X' hi) fun t => ⟨.bl b, H, I.tok t, rfl, q⟩
      · unfold PySem.W.clsIn at q1
        split at q1
        · rename_i c' d' cd' sl' ho
          intro A' Q' E' s' k q
          unfold isType loadHead
          exact wpAny_bind (wpAny_loadPart (k _ _ (X' _ _ ho)) (wpAny_pure q))
        · cases q1
      · have z' : C = D := Value.ref.inj (beq_iff_eq.mp z)
        subst z'
        obtain ⟨cd, bm, hcd, hmro, _, _⟩ := xcd xc.xi
        have e2 : PySem.W.mroIn X.K C (.ref C) = some true := by
          unfold PySem.W.mroIn
          rw [hcd, Option.bind_some, hmro, if_neg (by simp)]
          simp
        have e3 : PySem.W.subIn X.K (.ref C) (.ref C) = some true := e2
        rw [e3] at hi
        exact (Option.some.inj hi).symm
    · cases hi
  | ty T =>
    cases (show w' = Value.type T from rw')
    simp only [xIsa] at hi
    split at hi
    · rename_i hq
      rw [beq_iff_eq] at hq
      subst hq
      cases hi
      refine x_isi I.kIn J xc xc.gt xc.tk (b := true) (fun _ h' X' => PySem.W.Looks.of_pure (by kernel_rfl)) (fun _ h' X' => PySem.W.Looks.of_pure rfl) (fun _ => rfl) (fun _ h' X' => PySem.W.looks_mroIn X' (xmro xc.xi (by decide +kernel))) fun t => ⟨.bl true, H, I.tok t, rfl, q⟩
    · cases hi
  | non => cases hi
  | bl _ => cases hi
  | int _ => cases hi
  | str _ => cases hi
  | byt _ => cases hi
  | flt _ => cases hi
end
end L2
set_option Elab.async false
set_option linter.all false
set_option maxRecDepth 100000
namespace L2
open PySem PySem.Spec PyProof.Rows
noncomputable abbrev deadX (X : Cx) : Cx := { X with xe := fun _ _ => False }
noncomputable abbrev markX (X : Cx) (ea : Addr) : Cx := { X with A := X.A.mark (some (.ref ea)), calm := false, xe := fun _ _ => False }
section
variable {X : Cx} {pins : List (Addr × Obj)} {σ : St} {H : Hp} {s : Shared}
theorem Inv.dead (I : Inv X pins σ H s) : Inv (deadX X) pins σ H s := by
  obtain ⟨⟨a1, a2, a3, a4, a5, a6, a7, a8, a9, a10, a11, a12, a13, a14, a15, a16, a17, a18⟩, b1, b2, b3, b4, b5, b6, b7, b8, b9, b10⟩ := I
  exact ⟨⟨a1, a2, a3, a4, a5, a6, a7, a8, a9, a10, a11, a12, a13, a14, a15, a16, a17, a18⟩, b1, b2, b3, b4, b5, b6, b7, b8, b9, b10⟩
theorem Inv.live (I : Inv (deadX X) pins σ H s) : Inv X pins σ H s := by
  obtain ⟨⟨a1, a2, a3, a4, a5, a6, a7, a8, a9, a10, a11, a12, a13, a14, a15, a16, a17, a18⟩, b1, b2, b3, b4, b5, b6, b7, b8, b9, b10⟩ := I
  exact ⟨⟨a1, a2, a3, a4, a5, a6, a7, a8, a9, a10, a11, a12, a13, a14, a15, a16, a17, a18⟩, b1, b2, b3, b4, b5, b6, b7, b8, b9, b10⟩
theorem Inv.mark (I : Inv X pins σ H s) (ea : Addr) : Inv (markX X ea) pins σ H s := by
  obtain ⟨⟨a1, a2, a3, a4, a5, a6, a7, a8, a9, a10, a11, a12, a13, a14, a15, a16, a17, a18⟩, b1, b2, b3, b4, b5, b6, b7, b8, b9, b10⟩ := I
  exact ⟨⟨a1, a2, a3, a4, a5, a6, a7, a8, fun z => (nomatch z), a10, a11, a12, a13, a14, a15, a16, a17, a18⟩, b1, b2, b3, b4, b5, b6, b7, b8, b9, b10⟩
theorem Inv.unmark {ea : Addr} {A0 : Prop} (k : X.Ok) (I : Inv (markX X ea) pins σ H s) : Inv X pins σ H s := by
  obtain ⟨_, b1, b2, b3, b4, b5, b6, b7, b8, b9, b10⟩ := I
  exact ⟨k, b1, b2, b3, b4, b5, b6, b7, b8, b9, b10⟩
theorem Inv.lose {h' : Heap} {m' : Str → Option Value} {t' : Nat} (I : Inv X pins σ H s) (hn : h'.Ns X.env.locals m') (hs : Heap.SameBut X.env.locals s.heap h') : Inv X pins (List.replicate X.N.length none) H { s with heap := h', toks := t' } := by
  have neL : ∀ b o, X.s₀.heap.get? b = some o → b ≠ X.env.locals := fun b o e => Nat.ne_of_lt (Nat.lt_of_lt_of_le (Heap.lt_size e) I.ok.above)
  have up : ∀ b o, b ≠ X.env.locals → s.heap.get? b = some o → h'.get? b = some o := fun b o hb e => (hs.2 b hb).trans e
  refine ⟨I.ok, I.os, I.bare, ⟨fun b o e n hb hx => up b o (neL b o e) (I.base.keep b o e n hb hx), fun b o e n hb hx => ?_, I.base.free, fun b o e hx => ?_, I.base.tups, I.base.frzs, I.base.tbls⟩,
    ⟨m', hn, fun i x v _ e2 _ => ?_⟩, fun x c e => ?_, I.free, I.freeC, fun p hp => ?_, fun b u e => ?_, by simp⟩
  · obtain ⟨sl, q⟩ := I.base.slot b o e n hb hx
    exact ⟨sl, up b _ (neL b o e) q⟩
  · obtain ⟨o', q⟩ := I.base.there b o e hx
    exact ⟨o', up b _ (neL b o e) q⟩
  · rw [List.getElem?_replicate] at e2
    split at e2 <;> cases e2
  · obtain ⟨v, o, ho, hd⟩ := I.cell x c e
    exact ⟨v, o, up c o (I.cne x c e) ho, hd⟩
  · obtain ⟨e, n, ne, nf, d⟩ := I.pin p hp
    exact ⟨up p.1 p.2 ne e, n, ne, nf, d⟩
  · refine (I.hok b u e).stay (fun c v hc q => up c v (fun z => ?_) q) (fun _ q => q) fun _ _ q => q
    rcases hc with hc | hc
    · rw [← hc, z, I.free] at e; cases e
    · rw [z, I.free] at hc; cases hc
end
section
variable {M : Model} {A : Around} {E : Value → Shared → Prop} {s : Shared}
theorem x_matches {K : PySem.W.Frag} {C L x : Addr} {ox : Obj} {Q : Bool → Shared → Prop} (X : K.In s.heap) (xc : xIn K C = true) (xl : xIn K L = true) (hm : PySem.W.mroIn K C (.ref L) = some true) (hx : s.heap.get? x = some ox) (hc : ox.cls = .ref C)
    (h : Q true s) : wpAny M A (excMatches (.ref x) (.ref L)) Q E s := by
  obtain ⟨hp, g, d, tk, os⟩ := s
  obtain ⟨nm, qn, N, bs, bm, sn, sub, ab, col, dd, k0, k1, k2, k3, k5, hC, hxt⟩ := xcls X xl
  have hcB : (Value.ref L :: bm).contains (.type "BaseException") = true := by rw [List.contains_cons, xTail_has (v := true) (by decide +kernel) hxt, Bool.or_true]
  have f := tc_notTuple
  have LL := PySem.W.looks_mroIn (M := M) X hm
  unfold excMatches
  repeat (first
    | (with_reducible refine wpAny_loadPart_at hx ?_; rw [hc])
    | with_reducible refine wpAny_loadPart_at hC ?_
    | (with_reducible refine wpAny_isSubtype_exc hC ?_; rw [hcB])
    | (with_reducible refine LL.at ?_)
    | wp_step)
  exact h
end
noncomputable abbrev XTE := St → Hp → VK → XK → Prop
noncomputable abbrev XTS := Ends → XK → St → Hp → Prop
noncomputable def Wish (X : Cx) (pins : List (Addr × Obj)) (σ : St) (E : XK) (Ex : Value → Shared → Prop) : Prop :=
  ∀ (ea C : Addr) (dx : Option Addr) (H' : Hp) (s' : Shared), Inv X pins σ H' s' → XAt H' ea C dx → Sure E C ea dx H' → Ex (.ref ea) s'
noncomputable def PEX (X : Cx) (e : Expr) (t : XTE) : Prop :=
  ∀ (pins : List (Addr × Obj)) (s : Shared) (σ : St) (H : Hp) (Q : VK) (E : XK) (Ex : Value → Shared → Prop), Inv X pins σ H s → t σ H Q E → Wish X pins σ E Ex → wpAny (model X.prog X.w) X.A (eval e X.env) (EP X pins σ Q) Ex s
noncomputable def PX (X : Cx) (st : List Stmt) (t : XTS) : Prop :=
  ∀ (pins : List (Addr × Obj)) (s : Shared) (σ : St) (H : Hp) (D : Ends) (E : XK) (Ex : Value → Shared → Prop), Inv X pins σ H s → t D E σ H → Wish X pins σ E Ex → wpAny (model X.prog X.w) X.A (execs st X.env) (SP X pins D) Ex s
section
variable {X : Cx} {e o c : Expr} {es : List Expr} {a b : List Stmt} {x m : Str} {p pos apos : Pos} {ta : TE} {t : TA} {tc : TT} {f C : Addr} {fd : FuncData} {ps : List Str} {sp : Sp} {k : Nat}
theorem any_of_dead {α : Type} {u : Sem α} {Q : α → Shared → Prop} {M : Model} {A : Around} {Ex : Value → Shared → Prop} {s : Shared} (h : wpAny M A u Q (fun _ _ => False) s) : wpAny M A u Q Ex s := wpAny_mono h (fun _ _ z => z) fun _ _ z => z.elim
theorem run_fnX {pins : List (Addr × Obj)} {σ : St} {H : Hp} {s : Shared} {Q : VK} {E : XK} {Ex : Value → Shared → Prop} {us : List Value} {vs : List V} (F : FnOk X.prog X.w X.K X.mg X.base (CX1 X.prog X.w) k f fd ps sp) (hr : Room k X.A) (hb : Binds X.K fd ps [])
    (I : Inv X pins σ H s) (r : Vals vs us) (h : sp vs H Q E) (w : Wish X pins σ E Ex) : wpAny (model X.prog X.w) X.A (call (.ref f) us) (EP X pins σ Q) Ex s := by
  have hl : (us ++ []).length = ps.length := by rw [List.append_nil, ← r.length]; exact F.len _ _ _ _ h
  have hbb := hb s us I.kIn hl
  rw [List.append_nil] at hbb
  refine wpAny_call (codeAny_mono (F.run X.A X.stack s H ⟨us, []⟩ us vs Q E hr I.env0 hbb r h) fun r s' hq => ?_)
  cases r with
  | error e =>
    obtain ⟨ea, C, dx, H', e1, os, bare, un, hok, x, q⟩ := hq
    subst e1
    exact w ea C dx H' s' (I.call' os un hok bare fun b z => absurd z (by simp)) x q
  | ok fl =>
    cases fl with
    | ret u => exact I.after hq
    | next => exact False.elim hq
    | brk => exact False.elim hq
    | cont => exact False.elim hq
noncomputable def xCall (sp : Sp) (t : TA) : XTE := fun σ H Q E => t σ H fun vs H1 => sp vs H1 Q E
theorem pex_call (F : FnOk X.prog X.w X.K X.mg X.base (CX1 X.prog X.w) k f fd ps sp) (hr : Room k X.A) (hg : Gl X x) (hm : X.mg x = some (.ref f)) (hk : PySem.W.keepIn X.K (.ref f) = true) (hb : Binds X.K fd ps [])
    (ha : PA (deadX X) (e :: es) t) (hdb : (x == ("__debug__" : Str)) = false := by decide) (he : starEach (e :: es) X.env = (false, eval e X.env) :: starEach es X.env := by rfl) (hpl : (backTo pos (starEach es X.env)).any (·.1) = false := by rfl) :
    PEX X (.Call (.Name x p) (e :: es) [] pos) (xCall sp t) := by
  intro pins s σ H Q E Ex I h w
  refine wpAny_Call_Name_kw (ld_glob I hg hm ?_ hdb)
  refine PySem.W.callWith_K (h₀ := X.base) I.ok.mod.kin hk (thn (any_of_dead (ha pos pins s σ H _ I.dead h)) fun us s1 ⟨vs, H1, I1, r, q⟩ => ⟨I1.kIn, ?_⟩) he hpl
  exact run_fnX F hr hb I1.live r q w
noncomputable def xDrop (te : XTE) : XTS := fun D E σ H => te σ H (fun _ H1 => D.nx σ H1) E
theorem px_expr {te : XTE} (he : PEX X e te) (hs : swapsWith e none pos.line X.env = pure false := by rfl) : PX X [.Expr e pos] (xDrop te) := by
  intro pins s σ H D E Ex I h w
  refine wpAny_execs_cons (wpAny_Expr_any (thn (he pins s σ H _ E Ex I h w) fun v s1 zz_ => ?_) I.quiet hs)
  obtain ⟨x, H1, I1, r1, q1⟩ := zz_
  exact wpAny_execs_nil (show SP X pins D .next s1 from ⟨σ, H1, I1, q1⟩)
end
end L2
set_option Elab.async false
set_option linter.all false
set_option maxRecDepth 100000
namespace L2
open PySem PySem.Spec PyProof.Rows
noncomputable def isTyp (v : Value) : Bool := match v with
  | .type s => s == "type"
  | _ => false
noncomputable def isNew (v : Option Value) : Bool := match v with
  | some (.builtin s) => s == "ValueError.__new__"
  | _ => false
noncomputable def mroC (C : Addr) (l : List Value) : Bool := match l with
  | .ref C1 :: bm => C1 == C && xTail bm
  | _ => false
noncomputable def xOb (C : Addr) (o : Obj) : Bool := match o.data with
  | .cls cd => isTyp o.cls && mroC C cd.mro && !cd.hasDel && cd.hasDict && o.slots.size == 6 && isNew (o.slots.getD 4 none)
  | _ => false
theorem isTyp_eq {v : Value} (h : isTyp v = true) : v = .type "type" := by
  cases v with
  | type s => rw [eq_of_beq (show (s == "type") = true from h)]
  | _ => cases h
theorem isNew_eq {v : Option Value} (h : isNew v = true) : v = some (.builtin "ValueError.__new__") := by
  cases v with
  | none => cases h
  | some v =>
    cases v with
    | builtin s => rw [eq_of_beq (show (s == "ValueError.__new__") = true from h)]
    | _ => cases h
theorem mroC_eq {C : Addr} {l : List Value} (h : mroC C l = true) : ∃ bm, l = .ref C :: bm ∧ xTail bm = true := by
  cases l with
  | nil => cases h
  | cons v bm =>
    cases v with
    | ref C1 =>
      have h' : (C1 == C && xTail bm) = true := h
      rw [Bool.and_eq_true] at h'
      exact ⟨bm, by rw [eq_of_beq h'.1], h'.2⟩
    | _ => cases h
theorem six {α : Type} {l : List α} (h : l.length = 6) : ∃ a b c d e f, l = [a, b, c, d, e, f] := by
  obtain ⟨a, l, rfl⟩ := List.exists_cons_of_length_eq_add_one h
  obtain ⟨b, l, rfl⟩ := List.exists_cons_of_length_eq_add_one (Nat.succ.inj h)
  obtain ⟨c, l, rfl⟩ := List.exists_cons_of_length_eq_add_one (Nat.succ.inj (Nat.succ.inj h))
  obtain ⟨d, l, rfl⟩ := List.exists_cons_of_length_eq_add_one (Nat.succ.inj (Nat.succ.inj (Nat.succ.inj h)))
  obtain ⟨e, l, rfl⟩ := List.exists_cons_of_length_eq_add_one (Nat.succ.inj (Nat.succ.inj (Nat.succ.inj (Nat.succ.inj h))))
  obtain ⟨f, l, rfl⟩ := List.exists_cons_of_length_eq_add_one (Nat.succ.inj (Nat.succ.inj (Nat.succ.inj (Nat.succ.inj (Nat.succ.inj h)))))
  have : l = [] := List.eq_nil_of_length_eq_zero (Nat.succ.inj (Nat.succ.inj (Nat.succ.inj (Nat.succ.inj (Nat.succ.inj (Nat.succ.inj h))))))
  subst this
  exact ⟨a, b, c, d, e, f, rfl⟩
theorem xIn_of {K : PySem.W.Frag} {C : Addr} {o : Obj} (h : K.lookup C = some o) (q : xOb C o = true) : xIn K C = true := by
  obtain ⟨oc, dd, od, ⟨sl⟩⟩ := o
  cases od with
  | cls cd =>
    have q' : (isTyp oc && mroC C cd.mro && !cd.hasDel && cd.hasDict && sl.length == 6 && isNew ((Array.mk sl).getD 4 none)) = true := q
    simp only [Bool.and_eq_true, beq_iff_eq, Bool.not_eq_true'] at q'
    obtain ⟨⟨⟨⟨⟨q0, q1⟩, q2⟩, q3⟩, q4⟩, q5⟩ := q'
    obtain ⟨bm, hm, hx⟩ := mroC_eq q1
    obtain ⟨k0, k1, k2, k3, k4, k5, rfl⟩ := six q4
    have e4 : k4 = some (.builtin "ValueError.__new__") := isNew_eq q5
    have e0 := isTyp_eq q0
    obtain ⟨nm, bs, mro, ns, qn, hdc, sn, sub, ab, col, del⟩ := cd
    dsimp only at hm q2 q3
    subst hm q2 q3 e4 e0
    exact xIn_iff.mpr ⟨nm, qn, ns, bs, bm, sn, sub, ab, col, dd, k0, k1, k2, k3, k5, h, hx⟩
  | _ => cases q
theorem xIsa_of {K : PySem.W.Frag} {C D : Addr} {b : Bool} (h1 : PySem.W.isClsIn K D = true) (h2 : PySem.W.typeIn K (.ref D) = some (.type "type")) (h3 : PySem.W.subIn K (.ref C) (.ref D) = some b) : xIsa K C (.ref D) = some b := by
  unfold xIsa
  have h1' : (PySem.W.clsIn K D).isSome = true := h1
  simp only [h1', h2, Bool.true_and, beq_self_eq_true, if_true]
  exact h3
noncomputable def Rz (C : Addr) (f : Str) (v : V) (H : Hp) (E : XK) : Prop := ∀ (ea dx : Addr) (H' : Hp), Same H H' → H ea = none → H dx = none → H' dx = some (.xd [(f, v)]) → XAt H' ea C (some dx) → E (.ref C) (some ea) H'
theorem Rz.same {C : Addr} {f : Str} {v : V} {H G : Hp} {E : XK} (h : Rz C f v H E) (s : Same H G) : Rz C f v G E := fun ea dx H' s' n1 n2 e x => h ea dx H' (s.trans s') (s.none n1) (s.none n2) e x
theorem Rz.sure {C : Addr} {f : Str} {v : V} {H : Hp} {E : XK} (h : Rz C f v H E) {ea dx : Addr} {tb : Value} (n1 : H ea = none) (n2 : H dx = none) (ne : dx ≠ ea) :
    Sure E C ea (some dx) (upd (upd (upd H ea (.ext (ExO ea C none .none))) ea (.ext (ExO ea C (some dx) tb))) dx (.xd [(f, v)])) := by
  intro H' k x
  refine h ea dx H' (fun b o e => k b o (ne_of_none e n1) ?_) n1 n2 (k dx _ ne upd_same) x
  rw [upd_ne (ne_of_none e n2), upd_ne (ne_of_none e n1), upd_ne (ne_of_none e n1)]
  exact e
section
variable {P : Program} {w : World} {K : PySem.W.Frag} {mg : Str → Option Value} {base : Heap}
theorem Fun.okX {x qual : Str} {st : Stmt} {f : Addr} {fd : FuncData} {N ps : List Str} {k : Nat} {sp : Sp} (F : Fun K x qual st f fd) (S : FnScope N ps (defScope st)) (len : ∀ vs H Q E, sp vs H Q E → vs.length = ps.length)
    (hbody : ∀ (cdv : Value) (A : Around) (outer : List Env) (s : Shared) (H : Hp) (vs : List V) (Q : VK) (E : XK), Room k (A.deeper (envOfC qual (defScope st) s.heap.objs.size f cdv)) → sp vs H Q E →
      ∃ t, PSs (cxOf (CX1 P w) P w K mg base N qual (defScope st) f cdv A outer s H E) (defBody st) t ∧ t { nx := fun _ H' => Q .non H', rt := Q } (start N vs) H) : FnOk P w K mg base (CX1 P w) (k + 1) f fd ps sp := by
  obtain ⟨oc, od, kV, doc, pm, an, cdv, ct, osl, rfl, lk, hcd⟩ := F.ex
  exact fn_of lk hcd S len fun A outer s H vs Q E hr hsp => hbody cdv A outer s H vs Q E hr hsp
end
end L2
set_option Elab.async false
set_option linter.all false
set_option maxRecDepth 100000
namespace L2
open PySem PySem.Spec PyProof.Rows
end L2
set_option Elab.async false
set_option linter.all false
set_option maxRecDepth 100000
namespace L2
open PySem PySem.Spec PyProof.Rows
end L2
set_option Elab.async false
set_option linter.all false
set_option maxRecDepth 100000
namespace L2
open PySem PySem.Spec PyProof.Rows
theorem cut_take (zs : List V) (n : Nat) (k : Int) (hk : k = (n : Int)) : cutV zs none (some k) = zs.take n := by
  subst hk
  unfold cutV
  rw [HT.sIx_none, HT.sIx_nat, Nat.sub_zero, List.drop_zero]
  by_cases h : n ≤ zs.length
  · rw [Nat.min_eq_left h]
  · rw [Nat.min_eq_right (by omega), List.take_of_length_le (Nat.le_refl _), List.take_of_length_le (by omega)]
theorem cut_drop (zs : List V) (n : Nat) (k : Int) (hk : k = (n : Int)) : cutV zs (some k) none = zs.drop n := by
  subst hk
  unfold cutV
  rw [HT.sIx_none, HT.sIx_nat]
  by_cases h : n ≤ zs.length
  · rw [Nat.min_eq_left h, List.take_of_length_le (by rw [List.length_drop]; exact Nat.le_refl _)]
  · rw [Nat.min_eq_right (by omega), List.drop_of_length_le (Nat.le_refl _), List.drop_of_length_le (by omega), List.take_nil]
end L2
set_option Elab.async false
set_option linter.all false
set_option maxRecDepth 100000
namespace L2
open PySem PySem.Spec PyProof.Rows
theorem ns_one' {h : Heap} {a : Addr} {m m' : Str → Option Value} (x : h.Ns a m) (y : h.Ns a m') : m = m' := by
  obtain ⟨o, es, ep, ho, hd, _, f⟩ := x
  obtain ⟨o', es', ep', ho', hd', _, f'⟩ := y
  rw [ho] at ho'; cases ho'
  rw [hd] at hd'; cases hd'
  exact funext fun n => (f n).symm.trans (f' n)
section
variable {X : Cx} {pins : List (Addr × Obj)} {σ : List (Option V)} {H : Hp} {s : Shared} {pos : Pos}
theorem Inv.gone {h' : Heap} {m : Str → Option Value} {n : Str} {i : Nat} {v : Option Value} {t' : Nat} (I : Inv X pins σ H s) (hN : X.N.Nodup) (hi : X.N[i]? = some n) (hm : s.heap.Ns X.env.locals m)
    (hn : h'.Ns X.env.locals (fun x => if x = n then v else m x)) (hs : Heap.SameBut X.env.locals s.heap h') : Inv X pins (σ.set i none) H { s with heap := h', toks := t' } := by
  have J := I.lose (t' := t') hn hs
  refine ⟨J.ok, J.os, J.bare, J.base, ?_, J.cell, J.free, J.freeC, J.pin, J.hok, by rw [List.length_set]; exact I.len⟩
  obtain ⟨m0, hm0, hl⟩ := I.loc
  rw [ns_one' hm0 hm] at hl
  refine ⟨_, hn, fun j x w e1 e2 e3 => ?_⟩
  have ne : i ≠ j := fun z => by
    subst z
    by_cases lt : i < σ.length
    · rw [List.getElem?_set_self lt] at e2; cases e2
    · rw [List.getElem?_eq_none (by rw [List.length_set]; omega)] at e2; cases e2
  rw [List.getElem?_set_ne ne] at e2
  have nx : x ≠ n := fun z => ne (nodup_ix hN hi (z ▸ e1))
  obtain ⟨u, r, l⟩ := hl j x w e1 e2 e3
  refine ⟨u, r, ?_⟩
  rcases l with l | ⟨k, c, e, ob, ho, hd⟩
  · refine .inl ⟨l.1, ?_⟩
    show (if x = n then v else m x) = some u
    rw [if_neg nx]
    exact l.2
  · exact .inr ⟨k, c, e, ob, (hs.2 c (I.cne x c e)).trans ho, hd⟩
noncomputable def tTryN (K : PySem.W.Frag) (LC : Addr) (i : Nat) (tb : XTS) (th : TS) : TS := fun D σ H => tb D (fun Cv eo H' => ∃ C ea, Cv = .ref C ∧ eo = some ea ∧ xIn K C = true ∧ PySem.W.mroIn K C (.ref LC) = some true ∧
  th { nx := fun σ' H2 => D.nx (σ'.set i none) H2, rt := D.rt } (σ.set i (some (.ref ea))) H') σ H
theorem ps_tryN {body suite : List Stmt} {b₀ : Stmt} {lx n : Str} {np hpos : Pos} {i : Nat} {LC : Addr} {tb : XTS} {th : TS} (hst : X.stack = X.env :: X.outer) (hfr : X.env.frame = some X.env.locals)
    (hb : PX X body tb) (hg : Gl X lx) (hm : X.mg lx = some (.ref LC)) (xl : xIn X.K LC = true) (hN : X.N.Nodup) (hi : X.N[i]? = some n) (hx : Loc X.env.scope n) (hloc : X.env.kindOf n = some .local)
    (hh : ∀ ea, PSs (markX X ea) (b₀ :: suite) th) (hdb : (lx == ("__debug__" : Str)) = false := by decide) (hf : X.fn n = true ∨ X.env.scope.names.lookup n = some .local := by first | exact .inl rfl | exact .inr rfl) :
    PS X (.Try body [.ExceptHandler (some (.Name lx np)) (some n) (b₀ :: suite) hpos] [] [] pos) (tTryN X.K LC i tb th) := by
  intro pins s σ H D I h
  refine wpAny_Try_except ?_
  refine wpAny_mono (hb pins s σ H D _ (fun e s₁ => wpAny (model X.prog X.w) X.A (noteFrame e X.env) (fun _ s₂ => wpAny (model X.prog X.w) X.A (setFlight e none) (fun _ s₃ => wpAny (model X.prog X.w) X.A (handleBy e X.env [.ExceptHandler (some (.Name lx np)) (some n) (b₀ :: suite) hpos]) (SP X pins D) X.xe s₃) X.xe s₂) X.xe s₁) I h ?_)
    (fun f s1 q => ?_) fun e s1 q => q
  · intro ea C dx H' s' J xa sr
    refine look_ok J hst hfr J.ok.frames xa fun s2 T hT hne J2 => ?_
    obtain ⟨C1, ea1, e1, e2, xc, hmr, q⟩ := sr _ (fun b o hb e => lookH_old hT hb e) (lookH_x hT hne)
    cases e1
    cases e2
    have tb1 : lookH H' ea C dx T ea = some (.ext (ExO ea C dx (.ref T))) := by unfold lookH; rw [upd_ne (Ne.symm hne), upd_same]
    have tb2 : lookH H' ea C dx T T = some (.ext (TbO T)) := by unfold lookH; rw [upd_same]
    obtain ⟨⟨oe, vs, hx1, hcl, hdx, hd, hz, h1⟩, _, _⟩ := (show ObjOk X.prog X.w _ s2.heap ea (.ext (ExO ea C dx (.ref T))) from J2.hok ea _ tb1)
    obtain ⟨⟨oT, ts, hT1, hTd, hT3⟩, _, _⟩ := (show ObjOk X.prog X.w _ s2.heap T (.ext (TbO T)) from J2.hok T _ tb2)
    have JM := J2.mark ea
    refine wpAny_handleBy_cons (codeAny_handlers_test (ld_glob (X := markX X ea) JM hg hm ?_ hdb)) (by intro z; cases z)
    refine x_matches J2.kIn xc xl hmr hx1 hcl ?_
    refine codeAny_handlers_suite_as ?_
    unfold setFlight
    refine wpAny_bind (wpAny_field hx1 hd h1 ?_)
    rw [if_pos (show (Value.ref T != Value.none) = true from by simp)]
    refine wpAny_setField hT1 hTd (Array.getElem?_eq_some_iff.mp hT3).1 ?_
    rw [show s2.heap.update T (Obj.mapFields (·.setIfInBounds 3 ((none : Option Addr).elim Value.none fun f => rawInt f))) = s2.heap from Heap.update_setField_same s2.heap T oT ts 3 Value.none hT1 hTd hT3]
    refine store_ok (v := .ref ea) J2 hN hi hx rfl (fun s3 J3 => ?_) hf
    refine wpAny_mono (hh ea pins s3 _ _ _ (J3.mark ea) q) (fun fl s4 q4 => ?_) fun _ _ z => z.elim
    cases fl with
    | next =>
      obtain ⟨σ', H4, J4, z⟩ := q4
      have J5 := Inv.unmark (A0 := True) J2.ok J4
      obtain ⟨m, hn, _⟩ := id J5.loc
      refine wpAny_nameGoes_keeps hloc hn (by rw [J2.ok.kind]; rfl) fun h' v hn' hs' => ?_
      exact ⟨_, H4, J5.gone hN hi hn hn' hs', z⟩
    | brk => obtain ⟨_, _, _, z⟩ := q4; exact z.elim
    | cont => obtain ⟨_, _, _, z⟩ := q4; exact z.elim
    | ret u =>
      obtain ⟨v, σ', H4, J4, rv, z⟩ := q4
      have J5 := Inv.unmark (A0 := True) J2.ok J4
      obtain ⟨m, hn, _⟩ := J5.loc
      refine wpAny_nameGoes hloc hn (by rw [J2.ok.kind]; rfl) fun h' m' hn' hs' => ?_
      exact ⟨v, _, H4, J5.lose hn' hs', rv, z⟩
  · cases f with
    | next => exact wpAny_execs_nil q
    | ret v => exact q
    | brk => exact q
    | cont => exact q
end
end L2
set_option Elab.async false
set_option linter.all false
set_option maxRecDepth 100000
namespace L2
open PySem PySem.Spec PyProof.Rows
end L2
set_option Elab.async false
set_option linter.all false
set_option maxRecDepth 100000
namespace L2
open PySem PySem.Spec PyProof.Rows
section
variable {M : Model} {A : Around} {E : Value → Shared → Prop} {s : Shared}
end
section
variable {X : Cx} {e : Expr} {pos : Pos}
end
end L2
set_option Elab.async false
set_option linter.all false
set_option maxRecDepth 100000
namespace L2
open PySem PySem.Spec PyProof.Rows
section
variable {X : Cx}
end
end L2
set_option Elab.async false
set_option linter.all false
set_option maxRecDepth 100000
namespace L2
open PySem PySem.Spec PyProof.Rows
section
variable {M : Model} {A : Around} {E : Value → Shared → Prop} {s : Shared}
end
section
variable {X : Cx}
end
end L2
set_option Elab.async false
set_option linter.all false
set_option maxRecDepth 100000
namespace L2
open PySem PySem.Spec PyProof.Rows
section
variable {X : Cx} {e : Expr} {es : List Expr} {pos : Pos} {te : XTE} {ta : TE}
end
end L2
set_option Elab.async false
set_option linter.all false
set_option maxRecDepth 100000
namespace M18
open PySem L2 KC PySem.NumText PyProof.Rows PySem.Builtin PySem.Builtin.Str
noncomputable def No (l : List Nat) : Prop := ∀ i : Nat, l[i]? = some 59 → l[i + 1]? ≠ some 32
theorem at_sc {x : Str} {i : Nat} : StrLaws.At x sc x.length i ↔ x.cps.toList[i]? = some 59 ∧ x.cps.toList[i + 1]? = some 32 := by
  unfold StrLaws.At
  rw [StrLaws.subAt_eq]
  show (i + 2 ≤ x.length ∧ ((x.cps.toList.drop i).take 2 == [59, 32]) = true) ↔ _
  rw [beq_iff_eq, ← len_toList]
  constructor
  · rintro ⟨h1, h2⟩
    have e0 := congrArg (fun l => l[0]?) h2
    have e1 := congrArg (fun l => l[1]?) h2
    simp only [List.getElem?_take, List.getElem?_drop] at e0 e1
    exact ⟨by simpa using e0, by simpa using e1⟩
  · rintro ⟨h1, h2⟩
    obtain ⟨l1, e1⟩ := List.getElem?_eq_some_iff.mp h1
    obtain ⟨l2, e2⟩ := List.getElem?_eq_some_iff.mp h2
    refine ⟨by omega, ?_⟩
    rw [List.drop_eq_getElem_cons l1, List.drop_eq_getElem_cons l2, e1, e2]
    rfl
theorem part_no {x : Str} (a b : Nat) (hn : ∀ k, a ≤ k → k < b → ¬ StrLaws.At x sc x.length k) : No (strSub x a b).cps.toList := by
  intro i h1 h2
  rw [StrLaws.strSub_toList] at h1 h2
  have hlt : i + 1 < b - a := by
    have h3 : i + 1 < ((x.cps.toList.drop a).take (b - a)).length := (List.getElem?_eq_some_iff.mp h2).1
    simp at h3
    omega
  rw [List.getElem?_take_of_lt (by omega), List.getElem?_drop] at h1
  rw [List.getElem?_take_of_lt hlt, List.getElem?_drop] at h2
  exact hn (a + i) (by omega) (by omega) (at_sc.mpr ⟨h1, h2⟩)
theorem parts_no {x : Str} : ∀ (cuts : List Nat) (a f : Nat), StrLaws.ChainG x sc x.length a cuts f → (∀ k, f ≤ k → ¬ StrLaws.At x sc x.length k) → ∀ p ∈ StrLaws.partsFrom x sc.length a cuts, No p.cps.toList
  | [], a, f, h, hn, p, hp => by
    have e : f = a := h
    subst e
    rw [List.mem_singleton.mp hp]
    exact part_no f x.length fun k h1 _ => hn k h1
  | d :: r, a, f, h, hn, p, hp => by
    rcases List.mem_cons.mp hp with rfl | hp'
    · exact part_no a d h.2.2.1
    · exact parts_no r _ f h.2.2.2 hn p hp'
theorem split_no (x : Str) : ∀ p ∈ Txt.split x sc, No p.cps.toList := by
  obtain ⟨f, hG, hn⟩ := StrLaws.occ_tight x sc (by decide)
  unfold Txt.split
  split
  · rename_i hc
    intro p hp
    rw [List.mem_singleton.mp hp]
    intro i h1 h2
    have hA := at_sc.mpr ⟨h1, h2⟩
    rw [Bool.or_eq_true, decide_eq_true_eq, decide_eq_true_eq] at hc
    rcases hc with h | h
    · have := hA.1; omega
    · have h1 : PySem.Builtin.Str.strKind sc = 1 := by decide +kernel
      have h2 : 1 ≤ PySem.Builtin.Str.strKind x := by unfold PySem.Builtin.Str.strKind; split <;> (try split) <;> omega
      omega
  · split
    · rename_i he
      intro p hp
      rw [List.mem_singleton.mp hp]
      have e0 : occurrences x sc 0 x.length (x.length + 1) = [] := List.isEmpty_iff.mp he
      rw [e0] at hG
      have ef : f = 0 := hG
      subst ef
      rw [← StrLaws.sub_whole x]
      exact part_no 0 x.length fun k h1 _ => hn k h1
    · rw [StrLaws.partsBetween_eq]
      exact parts_no _ 0 f hG hn
theorem first_cut {p r : List Nat} (hp : No p) : (∀ k, k < p.length → ¬ ((p ++ 59 :: 32 :: r)[k]? = some 59 ∧ (p ++ 59 :: 32 :: r)[k + 1]? = some 32)) ∧ (p ++ 59 :: 32 :: r)[p.length]? = some 59 ∧ (p ++ 59 :: 32 :: r)[p.length + 1]? = some 32 := by
  refine ⟨fun k hk ⟨h1, h2⟩ => ?_, ?_, ?_⟩
  · rw [List.getElem?_append_left hk] at h1
    rcases Nat.lt_or_eq_of_le (Nat.succ_le_of_lt hk) with h | h
    · rw [List.getElem?_append_left h] at h2
      exact hp k h1 h2
    · rw [List.getElem?_append_right (by omega), show k + 1 - p.length = 0 by omega] at h2
      exact absurd h2 (by simp)
  · rw [List.getElem?_append_right (Nat.le_refl _), Nat.sub_self]; rfl
  · rw [List.getElem?_append_right (by omega), show p.length + 1 - p.length = 1 by omega]; rfl
theorem cut_eq {p q r s : List Nat} (hp : No p) (hq : No q) (e : p ++ 59 :: 32 :: r = q ++ 59 :: 32 :: s) : p = q ∧ r = s := by
  obtain ⟨a1, a2, a3⟩ := first_cut (r := r) hp
  obtain ⟨b1, b2, b3⟩ := first_cut (r := s) hq
  have hl : p.length = q.length := by
    rcases Nat.lt_trichotomy p.length q.length with h | h | h
    · rw [e] at a2 a3; exact absurd ⟨a2, a3⟩ (b1 _ h)
    · exact h
    · rw [← e] at b2 b3; exact absurd ⟨b2, b3⟩ (a1 _ h)
  obtain ⟨h1, h2⟩ := List.append_inj e hl
  injection h2 with _ h2
  injection h2 with _ h2
  exact ⟨h1, h2⟩
theorem cut_ne {p q r : List Nat} (hp : No p) (hq : No q) : p ≠ q ++ 59 :: 32 :: r := fun e => by
  obtain ⟨b1, b2, b3⟩ := first_cut (r := r) hq
  rw [← e] at b2 b3
  exact hp _ b2 b3
theorem join_one : ∀ {ps qs : List Str}, ps ≠ [] → qs ≠ [] → (∀ p ∈ ps, No p.cps.toList) → (∀ q ∈ qs, No q.cps.toList) → (Str.join sc ps).cps.toList = (Str.join sc qs).cps.toList → ps.map (fun p => p.cps.toList) = qs.map (fun p => p.cps.toList)
  | [], _, h, _, _, _, _ => absurd rfl h
  | _ :: _, [], _, h, _, _, _ => absurd rfl h
  | [p], [q], _, _, _, _, e => by
    have e : p.cps.toList = q.cps.toList := e
    simp [e]
  | [p], q :: q2 :: r, _, _, hp, hq, e => by
    rw [join2] at e
    exact absurd e (cut_ne (hp p (by simp)) (hq q (by simp)))
  | p :: p2 :: r, [q], _, _, hp, hq, e => by
    rw [join2] at e
    exact absurd e.symm (cut_ne (hq q (by simp)) (hp p (by simp)))
  | p :: p2 :: r, q :: q2 :: s, _, _, hp, hq, e => by
    rw [join2, join2] at e
    obtain ⟨e1, e2⟩ := cut_eq (hp p (by simp)) (hq q (by simp)) e
    have ih := join_one (ps := p2 :: r) (qs := q2 :: s) (by simp) (by simp) (fun z m => hp z (List.mem_cons_of_mem _ m)) (fun z m => hq z (List.mem_cons_of_mem _ m)) e2
    rw [List.map_cons, List.map_cons (l := q2 :: s), e1, ih]
theorem split_join {ys : List Str} (hne : ys ≠ []) (h : ∀ y ∈ ys, No y.cps.toList) : Txt.split (Str.join sc ys) sc = ys := by
  have hs : Txt.split (Str.join sc ys) sc ≠ [] := fun e => by
    have := split_pos (Str.join sc ys) sc
    rw [e] at this
    exact absurd this (by decide)
  exact map_inj (join_one hs hne (split_no _) h (by rw [StrLaws.join_split]))
noncomputable abbrev LA : Int := 1000000000
noncomputable def row2 (a b : List Nat) : Option (Int × Int) := match clockT a 0 LA, shiftT b with
  | .int m, .int s => some (m, s)
  | _, _ => none
noncomputable def rowT (l : List Nat) : Option (Int × Int) := match spl 32 l with
  | [a, b] => row2 a b
  | _ => none
noncomputable abbrev okR (r : Int × Int) : Prop := 0 ≤ r.1 ∧ r.1 ≤ 1000000000 ∧ -2880 ≤ r.2 ∧ r.2 ≤ 2880
theorem rowT_good {r : Int × Int} (h : okR r) : rowT (rowL r) = some r := by
  unfold rowT
  rw [rowL_spl]
  show row2 (clL r.1) (shL r.2) = some r
  unfold row2
  rw [clock_good, sh_good ⟨h.2.2.1, h.2.2.2⟩, if_pos ⟨h.1, h.2.1⟩]
theorem rowT_len {l : List Nat} (h : (spl 32 l).length ≠ 2) : rowT l = none := by
  unfold rowT
  split
  · rename_i e; rw [e] at h; exact absurd rfl h
  · rfl
theorem rowT_two {a b : List Nat} (ha : 32 ∉ a) (hb : 32 ∉ b) : spl 32 (a ++ 32 :: b) = [a, b] := by rw [spl_app ha, spl_free hb]
theorem rowT_clock {a b : List Nat} (ha : 32 ∉ a) (hb : 32 ∉ b) (h : clockT a 0 LA = .non) : rowT (a ++ 32 :: b) = none := by
  unfold rowT
  rw [rowT_two ha hb]
  show row2 a b = none
  unfold row2
  rw [h]
theorem rowT_shift {a b : List Nat} (ha : 32 ∉ a) (hb : 32 ∉ b) (h : shiftT b = .non) : rowT (a ++ 32 :: b) = none := by
  unfold rowT
  rw [rowT_two ha hb]
  show row2 a b = none
  unfold row2
  rw [h]
  cases clockT a 0 LA <;> rfl
theorem rowT_one {a : List Nat} (ha : 32 ∉ a) : rowT a = none := rowT_len (by rw [spl_free ha]; exact Nat.ne_of_lt (Nat.lt_succ_self 1))
theorem rowT_three {a b r : List Nat} (ha : 32 ∉ a) (hb : 32 ∉ b) : rowT (a ++ 32 :: (b ++ 32 :: r)) = none := rowT_len (by
  rw [spl_app ha, spl_app hb]
  obtain ⟨p, q, e⟩ := spl_ne 32 r
  rw [e]
  simp)
theorem no_free {l : List Nat} (h : 59 ∉ l) : No l := fun i hi => absurd (List.mem_of_getElem? hi) h
theorem no_mid {a b : List Nat} (ha : 59 ∉ a) (hb : 59 ∉ b) (hh : b.head? ≠ some 32) : No (a ++ 59 :: b) := fun i h1 h2 => by
  rcases Nat.lt_trichotomy i a.length with h | h | h
  · rw [List.getElem?_append_left h] at h1
    exact ha (List.mem_of_getElem? h1)
  · subst h
    rw [List.getElem?_append_right (by omega), show a.length + 1 - a.length = 1 by omega] at h2
    exact hh (by rw [← h2]; simp [List.head?_eq_getElem?])
  · rw [List.getElem?_append_right (by omega)] at h1
    obtain ⟨j, hj⟩ : ∃ j, i - a.length = j + 1 := ⟨i - a.length - 1, by omega⟩
    rw [hj, List.getElem?_cons_succ] at h1
    exact hb (List.mem_of_getElem? h1)
structure Bad (y : Str) : Prop where
  row : rowT y.cps.toList = none
  no : No y.cps.toList
  len : y.length ≤ 200
section
variable {m h : Int} (ok : okR (m, h))
include ok
theorem c32 : 32 ∉ clL m := clL_no m (by decide) (by decide) (by decide)
theorem c59 : 59 ∉ clL m := clL_no m (by decide) (by decide) (by decide)
theorem s32 : 32 ∉ shL h := shL_no h (by decide) (by decide) (by decide) (by decide)
theorem s59 : 59 ∉ shL h := shL_no h (by decide) (by decide) (by decide) (by decide)
theorem lc : (clL m).length ≤ 37 := clL_len (by have := ok.1; show _ < m; omega) (by have := ok.2.1; show m < _; omega)
theorem ls : (shL h).length ≤ 37 := shL_len ⟨ok.2.2.1, ok.2.2.2⟩
omit ok in
theorem shL_eq (h : Int) : shL h = (if h < 0 then 45 else 43) :: (intL (h.natAbs / 60 : Nat) ++ 46 :: twoL (h.natAbs % 60)) := rfl
omit ok in
theorem sh_more (h : Int) (q : Nat) : shiftT (shL h ++ [q]) = .non := by
  rw [shL_eq]
  have e : ((if h < 0 then 45 else 43) :: (intL (h.natAbs / 60 : Nat) ++ 46 :: twoL (h.natAbs % 60))) ++ [q] = (if h < 0 then 45 else 43) :: (intL (h.natAbs / 60 : Nat) ++ 46 :: (twoL (h.natAbs % 60) ++ [q])) := by simp
  rw [e]
  exact t_aft (intL_nodot _) (by simp [twoL])
omit ok in
theorem sh_tail (h : Int) : shiftT (shL h).tail = .non := by
  rw [shL_eq]
  exact t_fig (intL_digs (by omega)) (intL_ne _)
omit ok in
theorem sh_clock (h : Int) : clockT (shL h) 0 LA = .non := by
  refine clock_not3 ?_
  rw [shL_eq]
  have nd : 46 ∉ ((if h < 0 then 45 else 43) : Nat) :: intL (h.natAbs / 60 : Nat) := fun z => by
    rcases List.mem_cons.mp z with z | z
    · split at z <;> cases z
    · exact intL_nodot _ z
  have e : ((if h < 0 then 45 else 43) : Nat) :: (intL (h.natAbs / 60 : Nat) ++ 46 :: twoL (h.natAbs % 60)) = (((if h < 0 then 45 else 43) : Nat) :: intL (h.natAbs / 60 : Nat)) ++ 46 :: twoL (h.natAbs % 60) := rfl
  rw [e, spl_app nd, spl_free (twoL_nodot (by omega))]
  exact Nat.ne_of_lt (Nat.lt_succ_self 2)
omit ok in
theorem int_shift (i : Int) : shiftT (intL i) = .non := by
  by_cases h0 : 0 ≤ i
  · have := t_fig (r := []) (intL_digs h0) (intL_ne i)
    rwa [List.append_nil] at this
  · obtain ⟨k, rfl⟩ : ∃ k : Nat, i = Int.negSucc k := by
      cases i with
      | ofNat n => exact absurd (Int.natCast_nonneg n) h0
      | negSucc k => exact ⟨k, rfl⟩
    have nd := intL_nodot (Int.negSucc k)
    rw [intL_neg] at nd ⊢
    exact t_free fun z => nd (List.mem_cons_of_mem _ z)
omit ok in
theorem int_clock (i : Int) : clockT (intL i) 0 LA = .non := clock_not3 (by rw [spl_free (intL_nodot i)]; exact Nat.ne_of_lt (Nat.lt_of_lt_of_le (Nat.lt_succ_self 1) (Nat.le_succ 2)))
omit ok in
theorem head_c (m : Int) : (clL m).head? ≠ some 32 := fun e => by
  have : 32 ∈ clL m := by
    cases hc : clL m with
    | nil => rw [hc] at e; cases e
    | cons a r => rw [hc] at e; cases e; simp
  exact clL_no m (by decide) (by decide) (by decide) this
theorem bads_ok {c s : Str} (hc : c.cps.toList = clL m) (hs : s.cps.toList = shL h) : ∀ y ∈ ([
    Str.ofString "", Str.ofString " ", c, s, c ++ s, c ++ Str.ofString "  " ++ s, Str.ofString " " ++ (c ++ Str.ofString " " ++ s), (c ++ Str.ofString " " ++ s) ++ Str.ofString " ", (c ++ Str.ofString " " ++ s) ++ Str.ofString "\n", (c ++ Str.ofString " " ++ s) ++ Str.ofString ";",
    Str.ofString ";" ++ (c ++ Str.ofString " " ++ s), s ++ Str.ofString " " ++ c, Str.ofString "0" ++ (c ++ Str.ofString " " ++ s), c ++ Str.ofString " " ++ Txt.slice s (some 1) none, (c ++ Str.ofString " " ++ s) ++ Str.ofString " " ++ s,
    c ++ Str.ofString ";" ++ s, c ++ Str.ofString ", " ++ s, Str.ofString "694444.10.41 " ++ s, Str.ofString "-1.23.59 " ++ s, Str.ofString "none",
    c ++ Str.ofString " +48.01", c ++ Str.ofString " -48.01", c ++ Str.ofString " -0.00", c ++ Str.ofString " +0.60", Str.ofString "0.24.00 " ++ s,
    Str.ofString "0.00.60 " ++ s, Str.ofString (toString m) ++ Str.ofString " " ++ s, c ++ Str.ofString " " ++ Str.ofString (toString h),
    (c ++ Str.ofString " " ++ s) ++ Str.ofString "0", (c ++ Str.ofString " " ++ s) ++ Str.ofString ";" ++ (c ++ Str.ofString " " ++ s)] : List Str), Bad y := by
  have c32 := c32 ok
  have c59 := c59 ok
  have s32 := s32 ok
  have s59 := s59 ok
  have lc' := lc ok
  have ls' := ls ok
  have lc1 : c.length ≤ 37 := by rw [← len_toList, hc]; exact lc'
  have ls1 : s.length ≤ 37 := by rw [← len_toList, hs]; exact ls'
  have sm : ∀ i : Int, -3000 ≤ i → i ≤ 1000000000 → (Str.ofString (toString i)).length ≤ 31 := fun i h0 h1 => by
    rw [← len_toList]; exact intL_short (by omega) (by omega)
  have lm := sm m (by have := ok.1; show _ ≤ m; omega) ok.2.1
  have lh := sm h (by have := ok.2.2.1; show _ ≤ h; omega) (by have := ok.2.2.2; show h ≤ _; omega)
  have K : ∀ (x : String) (l : List Nat), (Str.ofString x).cps.toList = l → (Str.ofString x).length = l.length := fun x l e => by rw [← len_toList, e]
  have t0 : (Str.ofString "").cps.toList = [] := by decide +kernel
  have t1 : (Str.ofString " ").cps.toList = [32] := by decide +kernel
  have t2 : (Str.ofString "  ").cps.toList = [32, 32] := by decide +kernel
  have t3 : (Str.ofString "\n").cps.toList = [10] := by decide +kernel
  have t4 : (Str.ofString ";").cps.toList = [59] := by decide +kernel
  have t5 : (Str.ofString "0").cps.toList = [48] := by decide +kernel
  have t6 : (Str.ofString ", ").cps.toList = [44, 32] := by decide +kernel
  have t7 : (Str.ofString "694444.10.41 ").cps.toList = [54, 57, 52, 52, 52, 52, 46, 49, 48, 46, 52, 49, 32] := by decide +kernel
  have t8 : (Str.ofString "-1.23.59 ").cps.toList = [45, 49, 46, 50, 51, 46, 53, 57, 32] := by decide +kernel
  have t9 : (Str.ofString "none").cps.toList = [110, 111, 110, 101] := by decide +kernel
  have t10 : (Str.ofString " +48.01").cps.toList = [32, 43, 52, 56, 46, 48, 49] := by decide +kernel
  have t11 : (Str.ofString " -48.01").cps.toList = [32, 45, 52, 56, 46, 48, 49] := by decide +kernel
  have t12 : (Str.ofString " -0.00").cps.toList = [32, 45, 48, 46, 48, 48] := by decide +kernel
  have t13 : (Str.ofString " +0.60").cps.toList = [32, 43, 48, 46, 54, 48] := by decide +kernel
  have t14 : (Str.ofString "0.24.00 ").cps.toList = [48, 46, 50, 52, 46, 48, 48, 32] := by decide +kernel
  have t15 : (Str.ofString "0.00.60 ").cps.toList = [48, 46, 48, 48, 46, 54, 48, 32] := by decide +kernel
  have ht : (Txt.slice s (some 1) none).cps.toList = (shL h).tail := by rw [slice_tail, hs]
  have lt : (Txt.slice s (some 1) none).length ≤ 37 := Nat.le_trans (Txt.slice_le s _ _) ls1
  have tl32 : 32 ∉ (shL h).tail := fun z => s32 (List.mem_of_mem_tail z)
  have tl59 : 59 ∉ (shL h).tail := fun z => s59 (List.mem_of_mem_tail z)
  have i32 : ∀ i, 32 ∉ intL i := fun i => intL_no i (by decide) (by decide)
  have i59 : ∀ i, 59 ∉ intL i := fun i => intL_no i (by decide) (by decide)
  have gl : (clL m ++ 32 :: shL h).length ≤ 100 := by rw [List.length_append, List.length_cons]; omega
  have g59 : 59 ∉ clL m ++ 32 :: shL h := fun z => by
    rcases List.mem_append.mp z with z | z
    · exact c59 z
    · rcases List.mem_cons.mp z with z | z
      · cases z
      · exact s59 z
  have mk : ∀ {y : Str} {l : List Nat}, y.cps.toList = l → rowT l = none → No l → y.length ≤ 200 → Bad y := fun e r n l => ⟨by rw [e]; exact r, by rw [e]; exact n, l⟩
  have f2 : ∀ {a b : List Nat}, 59 ∉ a → 59 ∉ b → 59 ∉ a ++ b := fun ha hb z => (List.mem_append.mp z).elim ha hb
  simp only [List.forall_mem_cons]
  refine ⟨mk t0 (by decide) (no_free (by decide)) (by decide), mk t1 (by decide) (no_free (by decide)) (by decide +kernel), mk hc (rowT_one c32) (no_free c59) (by omega), mk hs (rowT_one s32) (no_free s59) (by omega), ?_, ?_, ?_, ?_, ?_, ?_, ?_, ?_, ?_, ?_, ?_, ?_, ?_, ?_, ?_, mk t9 (by decide) (no_free (by decide)) (by decide +kernel), ?_, ?_, ?_, ?_, ?_, ?_, ?_, ?_, ?_, ?_, fun _ z => nomatch z⟩
  · exact mk (l := clL m ++ shL h) (by rw [app_toList, hc, hs]) (rowT_one fun z => (List.mem_append.mp z).elim c32 s32) (no_free (f2 c59 s59)) (by rw [Str.length_append]; omega)
  · exact mk (l := clL m ++ 32 :: ([] ++ 32 :: shL h)) (by rw [app_toList, app_toList, hc, hs, t2]; simp) (rowT_three c32 (by simp)) (no_free (f2 c59 (by simpa using s59))) (by rw [Str.length_append, Str.length_append, K _ _ t2]; show _ + 2 + _ ≤ 200; omega)
  · exact mk (l := [] ++ 32 :: (clL m ++ 32 :: shL h)) (by rw [app_toList, app_toList, app_toList, hc, hs, t1]; simp) (rowT_three (by simp) c32) (no_free (f2 (by simp) (by simpa using g59))) (by rw [Str.length_append, Str.length_append, Str.length_append, K _ _ t1]; show 1 + (_ + 1 + _) ≤ 200; omega)
  · exact mk (l := clL m ++ 32 :: (shL h ++ 32 :: [])) (by rw [app_toList, app_toList, app_toList, hc, hs, t1]; simp) (rowT_three c32 s32) (no_free (f2 c59 (by simpa using s59))) (by rw [Str.length_append, Str.length_append, Str.length_append, K _ _ t1]; show _ + 1 + _ + 1 ≤ 200; omega)
  · exact mk (l := clL m ++ 32 :: (shL h ++ [10])) (by rw [app_toList, app_toList, app_toList, hc, hs, t1, t3]; simp) (rowT_shift c32 (fun z => (List.mem_append.mp z).elim s32 (by simp)) (sh_more h 10)) (no_free (f2 c59 (by simpa using s59))) (by rw [Str.length_append, Str.length_append, Str.length_append, K _ _ t1, K _ _ t3]; show _ + 1 + _ + 1 ≤ 200; omega)
  · exact mk (l := clL m ++ 32 :: (shL h ++ [59])) (by rw [app_toList, app_toList, app_toList, hc, hs, t1, t4]; simp) (rowT_shift c32 (fun z => (List.mem_append.mp z).elim s32 (by simp)) (sh_more h 59)) (by rw [show clL m ++ 32 :: (shL h ++ [59]) = (clL m ++ 32 :: shL h) ++ 59 :: [] by simp]; exact no_mid g59 (by simp) (by simp)) (by rw [Str.length_append, Str.length_append, Str.length_append, K _ _ t1, K _ _ t4]; show _ + 1 + _ + 1 ≤ 200; omega)
  · exact mk (l := (59 :: clL m) ++ 32 :: shL h) (by rw [app_toList, app_toList, app_toList, hc, hs, t1, t4]; simp) (rowT_clock (fun z => (List.mem_cons.mp z).elim (fun z => nomatch z) c32) s32 (cl_ahead m 0 LA (by decide) (plain_bad (by decide) (by decide)))) (by
      have := no_mid (a := []) (b := clL m ++ 32 :: shL h) (by simp) g59 (fun e => head_c m (by
        cases hcl : clL m with
        | nil => exact absurd (List.append_eq_nil_iff.mp hcl).1 (intL_ne _)
        | cons a r => rw [hcl] at e; exact e))
      exact this) (by rw [Str.length_append, Str.length_append, Str.length_append, K _ _ t1, K _ _ t4]; show 1 + (_ + 1 + _) ≤ 200; omega)
  · exact mk (l := shL h ++ 32 :: clL m) (by rw [app_toList, app_toList, hc, hs, t1]; simp) (rowT_clock s32 c32 (sh_clock h)) (no_free (f2 s59 (by simpa using c59))) (by rw [Str.length_append, Str.length_append, K _ _ t1]; show _ + 1 + _ ≤ 200; omega)
  · exact mk (l := (48 :: clL m) ++ 32 :: shL h) (by rw [app_toList, app_toList, app_toList, hc, hs, t1, t5]; simp) (rowT_clock (fun z => (List.mem_cons.mp z).elim (fun z => nomatch z) c32) s32 (cl_ahead m 0 LA (by decide) (plain_zero (intL_ne _)))) (no_free fun z => by
      rcases List.mem_cons.mp (show 59 ∈ 48 :: (clL m ++ 32 :: shL h) from z) with z | z
      · cases z
      · exact g59 z) (by rw [Str.length_append, Str.length_append, Str.length_append, K _ _ t1, K _ _ t5]; show 1 + (_ + 1 + _) ≤ 200; omega)
  · exact mk (l := clL m ++ 32 :: (shL h).tail) (by rw [app_toList, app_toList, hc, ht, t1]; simp) (rowT_shift c32 tl32 (sh_tail h)) (no_free (f2 c59 (by simpa using tl59))) (by rw [Str.length_append, Str.length_append, K _ _ t1]; show _ + 1 + _ ≤ 200; omega)
  · exact mk (l := clL m ++ 32 :: (shL h ++ 32 :: shL h)) (by rw [app_toList, app_toList, app_toList, app_toList, hc, hs, t1]; simp) (rowT_three c32 s32) (no_free (f2 c59 (by simpa using s59))) (by rw [Str.length_append, Str.length_append, Str.length_append, Str.length_append, K _ _ t1]; show _ + 1 + _ + 1 + _ ≤ 200; omega)
  · exact mk (l := clL m ++ 59 :: shL h) (by rw [app_toList, app_toList, hc, hs, t4]; simp) (rowT_one fun z => (List.mem_append.mp z).elim c32 (by simpa using s32)) (no_mid c59 s59 (by rw [shL_eq]; show some _ ≠ some 32; split <;> decide)) (by rw [Str.length_append, Str.length_append, K _ _ t4]; show _ + 1 + _ ≤ 200; omega)
  · exact mk (l := (clL m ++ [44]) ++ 32 :: shL h) (by rw [app_toList, app_toList, hc, hs, t6]; simp) (rowT_clock (fun z => (List.mem_append.mp z).elim c32 (by simp)) s32 (cl_more m 0 LA (by decide))) (no_free (f2 (f2 c59 (by simp)) (by simpa using s59))) (by rw [Str.length_append, Str.length_append, K _ _ t6]; show _ + 2 + _ ≤ 200; omega)
  · exact mk (l := [54, 57, 52, 52, 52, 52, 46, 49, 48, 46, 52, 49] ++ 32 :: shL h) (by rw [app_toList, hs, t7]; simp) (rowT_clock (by decide) s32 (by decide +kernel)) (no_free (f2 (by decide) (by simpa using s59))) (by rw [Str.length_append, K _ _ t7]; show 13 + _ ≤ 200; omega)
  · exact mk (l := [45, 49, 46, 50, 51, 46, 53, 57] ++ 32 :: shL h) (by rw [app_toList, hs, t8]; simp) (rowT_clock (by decide) s32 (by decide +kernel)) (no_free (f2 (by decide) (by simpa using s59))) (by rw [Str.length_append, K _ _ t8]; show 9 + _ ≤ 200; omega)
  · exact mk (l := clL m ++ 32 :: [43, 52, 56, 46, 48, 49]) (by rw [app_toList, hc, t10]) (rowT_shift c32 (by decide) (by decide +kernel)) (no_free (f2 c59 (by decide))) (by rw [Str.length_append, K _ _ t10]; show _ + 7 ≤ 200; omega)
  · exact mk (l := clL m ++ 32 :: [45, 52, 56, 46, 48, 49]) (by rw [app_toList, hc, t11]) (rowT_shift c32 (by decide) (by decide +kernel)) (no_free (f2 c59 (by decide))) (by rw [Str.length_append, K _ _ t11]; show _ + 7 ≤ 200; omega)
  · exact mk (l := clL m ++ 32 :: [45, 48, 46, 48, 48]) (by rw [app_toList, hc, t12]) (rowT_shift c32 (by decide) (by decide +kernel)) (no_free (f2 c59 (by decide))) (by rw [Str.length_append, K _ _ t12]; show _ + 6 ≤ 200; omega)
  · exact mk (l := clL m ++ 32 :: [43, 48, 46, 54, 48]) (by rw [app_toList, hc, t13]) (rowT_shift c32 (by decide) (by decide +kernel)) (no_free (f2 c59 (by decide))) (by rw [Str.length_append, K _ _ t13]; show _ + 6 ≤ 200; omega)
  · exact mk (l := [48, 46, 50, 52, 46, 48, 48] ++ 32 :: shL h) (by rw [app_toList, hs, t14]; simp) (rowT_clock (by decide) s32 (by decide +kernel)) (no_free (f2 (by decide) (by simpa using s59))) (by rw [Str.length_append, K _ _ t14]; show 8 + _ ≤ 200; omega)
  · exact mk (l := [48, 46, 48, 48, 46, 54, 48] ++ 32 :: shL h) (by rw [app_toList, hs, t15]; simp) (rowT_clock (by decide) s32 (by decide +kernel)) (no_free (f2 (by decide) (by simpa using s59))) (by rw [Str.length_append, K _ _ t15]; show 8 + _ ≤ 200; omega)
  · exact mk (l := intL m ++ 32 :: shL h) (by rw [app_toList, app_toList, hs, t1]; simp [intL]) (rowT_clock (i32 m) s32 (int_clock m)) (no_free (f2 (i59 m) (by simpa using s59))) (by rw [Str.length_append, Str.length_append, K _ _ t1]; show _ + 1 + _ ≤ 200; omega)
  · exact mk (l := clL m ++ 32 :: intL h) (by rw [app_toList, app_toList, hc, t1]; simp [intL]) (rowT_shift c32 (i32 h) (int_shift h)) (no_free (f2 c59 (by simpa using i59 h))) (by rw [Str.length_append, Str.length_append, K _ _ t1]; show _ + 1 + _ ≤ 200; omega)
  · exact mk (l := clL m ++ 32 :: (shL h ++ [48])) (by rw [app_toList, app_toList, app_toList, hc, hs, t1, t5]; simp) (rowT_shift c32 (fun z => (List.mem_append.mp z).elim s32 (by simp)) (sh_more h 48)) (no_free (f2 c59 (by simpa using s59))) (by rw [Str.length_append, Str.length_append, Str.length_append, K _ _ t1, K _ _ t5]; show _ + 1 + _ + 1 ≤ 200; omega)
  · exact mk (l := clL m ++ 32 :: ((shL h ++ 59 :: clL m) ++ 32 :: shL h)) (by rw [app_toList, app_toList, app_toList, app_toList, hc, hs, t1, t4]; simp) (rowT_three c32 (fun z => (List.mem_append.mp z).elim s32 (by simpa using c32))) (by
      rw [show clL m ++ 32 :: ((shL h ++ 59 :: clL m) ++ 32 :: shL h) = (clL m ++ 32 :: shL h) ++ 59 :: (clL m ++ 32 :: shL h) by simp]
      exact no_mid g59 g59 (fun e => head_c m (by
        cases hcl : clL m with
        | nil => exact absurd (List.append_eq_nil_iff.mp hcl).1 (intL_ne _)
        | cons a r => rw [hcl] at e; exact e))) (by simp only [Str.length_append, K _ _ t1, K _ _ t4]; show _ + 1 + _ + 1 + (_ + 1 + _) ≤ 200; omega)
end
end M18
set_option Elab.async false
set_option linter.all false
set_option maxRecDepth 100000
namespace K18
open PySem L2 PySem.NumText PyProof.Rows KC M18
noncomputable def top (i : Nat) : Stmt := PySem.Challenge.pw_foldlog_k18_table_texts_refused.main.body.getD i (.Pass ⟨0, 0, 0, 0⟩)
noncomputable abbrev s_is_number : Stmt := top 5
theorem sc_is_number : FnScope ["thing"] ["thing"] (defScope s_is_number) := ⟨rfl, rfl, rfl, by decide +kernel, rfl, by decide +kernel, by decide +kernel⟩
noncomputable abbrev s_is_whole : Stmt := top 6
theorem sc_is_whole : FnScope ["thing", "low", "high"] ["thing", "low", "high"] (defScope s_is_whole) := ⟨rfl, rfl, rfl, by decide +kernel, rfl, by decide +kernel, by decide +kernel⟩
noncomputable abbrev s_is_moment : Stmt := top 7
theorem sc_is_moment : FnScope ["thing"] ["thing"] (defScope s_is_moment) := ⟨rfl, rfl, rfl, by decide +kernel, rfl, by decide +kernel, by decide +kernel⟩
noncomputable abbrev s_all_figures : Stmt := top 8
theorem sc_all_figures : FnScope ["text"] ["text"] (defScope s_all_figures) := ⟨rfl, rfl, rfl, by decide +kernel, rfl, by decide +kernel, by decide +kernel⟩
noncomputable abbrev s_plainly_writes : Stmt := top 9
theorem sc_plainly_writes : FnScope ["text", "figures"] ["text"] (defScope s_plainly_writes) := ⟨rfl, rfl, rfl, by decide +kernel, rfl, by decide +kernel, by decide +kernel⟩
noncomputable abbrev s_whole_in : Stmt := top 10
theorem sc_whole_in : FnScope ["thing", "low", "high", "number"] ["thing", "low", "high"] (defScope s_whole_in) := ⟨rfl, rfl, rfl, by decide +kernel, rfl, by decide +kernel, by decide +kernel⟩
noncomputable abbrev s_two_in : Stmt := top 14
theorem sc_two_in : FnScope ["text", "high"] ["text", "high"] (defScope s_two_in) := ⟨rfl, rfl, rfl, by decide +kernel, rfl, by decide +kernel, by decide +kernel⟩
noncomputable abbrev s_clock_in : Stmt := top 15
theorem sc_clock_in : FnScope ["text", "low", "high", "parts", "day", "hours", "minutes", "number"] ["text", "low", "high"] (defScope s_clock_in) := ⟨rfl, rfl, rfl, by decide +kernel, rfl, by decide +kernel, by decide +kernel⟩
noncomputable abbrev s_size_in : Stmt := top 16
theorem sc_size_in : FnScope ["text", "parts", "hours", "minutes", "size"] ["text"] (defScope s_size_in) := ⟨rfl, rfl, rfl, by decide +kernel, rfl, by decide +kernel, by decide +kernel⟩
noncomputable abbrev s_shift_in : Stmt := top 17
theorem sc_shift_in : FnScope ["text", "size"] ["text"] (defScope s_shift_in) := ⟨rfl, rfl, rfl, by decide +kernel, rfl, by decide +kernel, by decide +kernel⟩
noncomputable abbrev s_is_row : Stmt := top 23
theorem sc_is_row : FnScope ["thing", "widest"] ["thing", "widest"] (defScope s_is_row) := ⟨rfl, rfl, rfl, by decide +kernel, rfl, by decide +kernel, by decide +kernel⟩
noncomputable abbrev s_may_stand : Stmt := top 24
theorem sc_may_stand : FnScope ["rows", "place"] ["rows", "place"] (defScope s_may_stand) := ⟨rfl, rfl, rfl, by decide +kernel, rfl, by decide +kernel, by decide +kernel⟩
noncomputable abbrev s_check_rows : Stmt := top 25
theorem sc_check_rows : FnScope ["rows", "most", "widest", "place", "row"] ["rows", "most", "widest"] (defScope s_check_rows) := ⟨rfl, rfl, rfl, by decide +kernel, rfl, by decide +kernel, by decide +kernel⟩
noncomputable abbrev s_row_in : Stmt := top 30
theorem sc_row_in : FnScope ["text", "words", "moment", "shift"] ["text"] (defScope s_row_in) := ⟨rfl, rfl, rfl, by decide +kernel, rfl, by decide +kernel, by decide +kernel⟩
noncomputable abbrev s_read_table : Stmt := top 31
theorem sc_read_table : FnScope ["text", "rows", "place", "part", "row"] ["text"] (defScope s_read_table) := ⟨rfl, rfl, rfl, by decide +kernel, rfl, by decide +kernel, by decide +kernel⟩
noncomputable abbrev s_Lcell : Stmt := top 33
theorem sc_Lcell : FnScope ["_law_script", "_law_k"] ["_law_script", "_law_k"] (defScope s_Lcell) := ⟨rfl, rfl, rfl, by decide +kernel, rfl, by decide +kernel, by decide +kernel⟩
noncomputable abbrev s_Lrow : Stmt := top 34
theorem sc_Lrow : FnScope ["_law_cell_here", "_law_sizes", "_law_found", "_law_left", "_law_number", "_law_k", "_law_other"] ["_law_cell_here", "_law_sizes"] (defScope s_Lrow) := ⟨rfl, rfl, rfl, by decide +kernel, rfl, by decide +kernel, by decide +kernel⟩
noncomputable abbrev s_Lrows : Stmt := top 35
theorem sc_Lrows : FnScope ["_law_cell_here", "_law_xs", "_law_many", "_law_reach", "_law_width", "_law_rows_here", "_law_moment", "_law_k", "_law_space"] ["_law_cell_here"] (defScope s_Lrows) := ⟨rfl, rfl, rfl, by decide +kernel, rfl, by decide +kernel, by decide +kernel⟩
noncomputable abbrev s_Ltwo : Stmt := top 36
theorem sc_Ltwo : FnScope ["_law_number"] ["_law_number"] (defScope s_Ltwo) := ⟨rfl, rfl, rfl, by decide +kernel, rfl, by decide +kernel, by decide +kernel⟩
noncomputable abbrev s_Lclock : Stmt := top 37
theorem sc_Lclock : FnScope ["_law_number", "_law_day", "_law_rest"] ["_law_number"] (defScope s_Lclock) := ⟨rfl, rfl, rfl, by decide +kernel, rfl, by decide +kernel, by decide +kernel⟩
noncomputable abbrev s_Lshift : Stmt := top 38
theorem sc_Lshift : FnScope ["_law_shift_here", "_law_sign"] ["_law_shift_here"] (defScope s_Lshift) := ⟨rfl, rfl, rfl, by decide +kernel, rfl, by decide +kernel, by decide +kernel⟩
noncomputable abbrev s_Lrefused : Stmt := top 39
theorem sc_Lrefused : FnScope ["_law_text", "_law_kind", "_law_due", "e"] ["_law_text", "_law_kind", "_law_due"] (defScope s_Lrefused) := ⟨rfl, rfl, rfl, by decide +kernel, rfl, by decide +kernel, by decide +kernel⟩
noncomputable abbrev s_Lbad : Stmt := top 40
theorem sc_Lbad : FnScope ["_law_row_here", "_law_clock_here", "_law_shift_here", "_law_good", "_law_bad_here"] ["_law_row_here"] (defScope s_Lbad) := ⟨rfl, rfl, rfl, by decide +kernel, rfl, by decide +kernel, by decide +kernel⟩
noncomputable abbrev s_Lparts_refused : Stmt := top 41
theorem sc_Lparts_refused : FnScope ["_law_rows_here", "_law_xs", "_law_parts", "_law_at", "_law_row_here", "_law_bads", "_law_behind"] ["_law_rows_here", "_law_xs"] (defScope s_Lparts_refused) := ⟨rfl, rfl, rfl, by decide +kernel, rfl, by decide +kernel, by decide +kernel⟩
noncomputable abbrev s_Lrows_refused : Stmt := top 42
theorem sc_Lrows_refused : FnScope ["_law_rows_here", "_law_cell_here", "_law_parts", "_law_at", "_law_due", "_law_swapped"] ["_law_rows_here", "_law_cell_here"] (defScope s_Lrows_refused) := ⟨rfl, rfl, rfl, by decide +kernel, rfl, by decide +kernel, by decide +kernel⟩
noncomputable abbrev s_law : Stmt := top 43
theorem sc_law : FnScope ["_law_script", "_law_k", "_law_rows_here", "_law_xs", "_law_text", "_law_end", "_law_at", "_law_thing"] ["_law_script"] (defScope s_law) := ⟨rfl, rfl, rfl, by decide +kernel, rfl, by decide +kernel, by decide +kernel⟩
noncomputable abbrev s_Table_init : Stmt := inClass (top 28) 0
theorem sc_Table_init : FnScope ["self", "rows"] ["self", "rows"] (defScope s_Table_init) := ⟨rfl, rfl, rfl, by decide +kernel, rfl, by decide +kernel, by decide +kernel⟩
noncomputable abbrev s_NoText_init : Stmt := inClass (top 20) 0
theorem sc_NoText_init : FnScope ["self", "at"] ["self", "at"] (defScope s_NoText_init) := ⟨rfl, rfl, rfl, by decide +kernel, rfl, by decide +kernel, by decide +kernel⟩
noncomputable abbrev s_NoTable_init : Stmt := inClass (top 21) 0
theorem sc_NoTable_init : FnScope ["self", "row"] ["self", "row"] (defScope s_NoTable_init) := ⟨rfl, rfl, rfl, by decide +kernel, rfl, by decide +kernel, by decide +kernel⟩
noncomputable abbrev s_LogError_init : Stmt := inClass (top 19) 0
theorem sc_LogError_init : FnScope ["self", "text"] ["self", "text"] (defScope s_LogError_init) := ⟨rfl, rfl, rfl, by decide +kernel, rfl, by decide +kernel, by decide +kernel⟩
set_option genInjectivity false in
structure Ad where
  c_LogError : Addr
  c_NoText : Addr
  c_NoTable : Addr
  c_Table : Addr
  f_is_number : Addr
  fd_is_number : FuncData
  f_is_whole : Addr
  fd_is_whole : FuncData
  f_is_moment : Addr
  fd_is_moment : FuncData
  f_all_figures : Addr
  fd_all_figures : FuncData
  f_plainly_writes : Addr
  fd_plainly_writes : FuncData
  f_whole_in : Addr
  fd_whole_in : FuncData
  f_two_in : Addr
  fd_two_in : FuncData
  f_clock_in : Addr
  fd_clock_in : FuncData
  f_size_in : Addr
  fd_size_in : FuncData
  f_shift_in : Addr
  fd_shift_in : FuncData
  f_is_row : Addr
  fd_is_row : FuncData
  f_may_stand : Addr
  fd_may_stand : FuncData
  f_check_rows : Addr
  fd_check_rows : FuncData
  f_row_in : Addr
  fd_row_in : FuncData
  f_read_table : Addr
  fd_read_table : FuncData
  f_Lcell : Addr
  fd_Lcell : FuncData
  f_Lrow : Addr
  fd_Lrow : FuncData
  f_Lrows : Addr
  fd_Lrows : FuncData
  f_Ltwo : Addr
  fd_Ltwo : FuncData
  f_Lclock : Addr
  fd_Lclock : FuncData
  f_Lshift : Addr
  fd_Lshift : FuncData
  f_Lrefused : Addr
  fd_Lrefused : FuncData
  f_Lbad : Addr
  fd_Lbad : FuncData
  f_Lparts_refused : Addr
  fd_Lparts_refused : FuncData
  f_Lrows_refused : Addr
  fd_Lrows_refused : FuncData
  f_law : Addr
  fd_law : FuncData
  f_Table_init : Addr
  fd_Table_init : FuncData
  f_NoText_init : Addr
  fd_NoText_init : FuncData
  f_NoTable_init : Addr
  fd_NoTable_init : FuncData
  f_LogError_init : Addr
  fd_LogError_init : FuncData
structure DfM (K : PySem.W.Frag) (C : Addr) (x q : Str) (st : Stmt) (ps : List Str) (f : Addr) (fd : FuncData) : Prop where
  F : Fun K x q st f fd
  b : Binds K fd ps []
  mt : Meth K C x f
structure Txt (K : PySem.W.Frag) (mg : Str → Option Value) (a : Ad) : Prop where
  d_is_number : Df K mg "is_number" s_is_number ["thing"] a.f_is_number a.fd_is_number
  d_is_whole : Df K mg "is_whole" s_is_whole ["thing", "low", "high"] a.f_is_whole a.fd_is_whole
  d_is_moment : Df K mg "is_moment" s_is_moment ["thing"] a.f_is_moment a.fd_is_moment
  d_all_figures : Df K mg "all_figures" s_all_figures ["text"] a.f_all_figures a.fd_all_figures
  d_plainly_writes : Df K mg "plainly_writes" s_plainly_writes ["text"] a.f_plainly_writes a.fd_plainly_writes
  d_whole_in : Df K mg "whole_in" s_whole_in ["thing", "low", "high"] a.f_whole_in a.fd_whole_in
  d_two_in : Df K mg "two_in" s_two_in ["text", "high"] a.f_two_in a.fd_two_in
  d_clock_in : Df K mg "clock_in" s_clock_in ["text", "low", "high"] a.f_clock_in a.fd_clock_in
  d_size_in : Df K mg "size_in" s_size_in ["text"] a.f_size_in a.fd_size_in
  d_shift_in : Df K mg "shift_in" s_shift_in ["text"] a.f_shift_in a.fd_shift_in
  d_is_row : Df K mg "is_row" s_is_row ["thing", "widest"] a.f_is_row a.fd_is_row
  d_may_stand : Df K mg "may_stand" s_may_stand ["rows", "place"] a.f_may_stand a.fd_may_stand
  d_check_rows : Df K mg "check_rows" s_check_rows ["rows", "most", "widest"] a.f_check_rows a.fd_check_rows
  d_row_in : Df K mg "row_in" s_row_in ["text"] a.f_row_in a.fd_row_in
  d_read_table : Df K mg "read_table" s_read_table ["text"] a.f_read_table a.fd_read_table
  d_Lcell : Df K mg "_law_cell" s_Lcell ["_law_script", "_law_k"] a.f_Lcell a.fd_Lcell
  d_Lrow : Df K mg "_law_row" s_Lrow ["_law_cell_here", "_law_sizes"] a.f_Lrow a.fd_Lrow
  d_Lrows : Df K mg "_law_rows" s_Lrows ["_law_cell_here"] a.f_Lrows a.fd_Lrows
  d_Ltwo : Df K mg "_law_two" s_Ltwo ["_law_number"] a.f_Ltwo a.fd_Ltwo
  d_Lclock : Df K mg "_law_clock" s_Lclock ["_law_number"] a.f_Lclock a.fd_Lclock
  d_Lshift : Df K mg "_law_shift" s_Lshift ["_law_shift_here"] a.f_Lshift a.fd_Lshift
  d_Lrefused : Df K mg "_law_refused" s_Lrefused ["_law_text", "_law_kind", "_law_due"] a.f_Lrefused a.fd_Lrefused
  d_Lbad : Df K mg "_law_bad" s_Lbad ["_law_row_here"] a.f_Lbad a.fd_Lbad
  d_Lparts_refused : Df K mg "_law_parts_refused" s_Lparts_refused ["_law_rows_here", "_law_xs"] a.f_Lparts_refused a.fd_Lparts_refused
  d_Lrows_refused : Df K mg "_law_rows_refused" s_Lrows_refused ["_law_rows_here", "_law_cell_here"] a.f_Lrows_refused a.fd_Lrows_refused
  d_law : Df K mg "law" s_law ["_law_script"] a.f_law a.fd_law
  d_Table_init : DfM K a.c_Table "__init__" "Table.__init__" s_Table_init ["self", "rows"] a.f_Table_init a.fd_Table_init
  d_NoText_init : DfM K a.c_NoText "__init__" "NoText.__init__" s_NoText_init ["self", "at"] a.f_NoText_init a.fd_NoText_init
  d_NoTable_init : DfM K a.c_NoTable "__init__" "NoTable.__init__" s_NoTable_init ["self", "row"] a.f_NoTable_init a.fd_NoTable_init
  d_LogError_init : DfM K a.c_LogError "__init__" "LogError.__init__" s_LogError_init ["self", "text"] a.f_LogError_init a.fd_LogError_init
  g_Table : mg "Table" = some (.ref a.c_Table)
  cl_Table : Cls K a.c_Table
  M_Table : Mk K a.c_Table a.f_Table_init
  n_Table_kept : NoAttr K a.c_Table "kept"
  n_len : mg "len" = none
  n_max : mg "max" = none
  n_min : mg "min" = none
  n_abs : mg "abs" = none
  n_isinstance : mg "isinstance" = none
  n_range : mg "range" = none
  n_enumerate : mg "enumerate" = none
  n_int : mg "int" = none
  n_bool : mg "bool" = none
  n_str : mg "str" = none
  n_list : mg "list" = none
  n_tuple : mg "tuple" = none
  n_all : mg "all" = none
  g_LAST : ∃ t, mg "LAST" = some (.int 1000000000 t)
  g_WIDEST_SHIFT : ∃ t, mg "WIDEST_SHIFT" = some (.int 2880 t)
  g_FIGURES : ∃ t, mg "FIGURES" = some (.str "0123456789" t)
  g_HOUR : ∃ t, mg "HOUR" = some (.int 60 t)
  g_DAY : ∃ t, mg "DAY" = some (.int 1440 t)
  g_MOST_ROWS : ∃ t, mg "MOST_ROWS" = some (.int 21 t)
  n_ValueError : mg "ValueError" = none
  g_LogError : mg "LogError" = some (.ref a.c_LogError)
  g_NoText : mg "NoText" = some (.ref a.c_NoText)
  g_NoTable : mg "NoTable" = some (.ref a.c_NoTable)
  xl_LogError : xIn K a.c_LogError = true
  ci_LogError : CInit K a.c_LogError a.f_LogError_init
  X_NoText : XMk K a.c_NoText a.f_NoText_init
  up_NoText : PySem.W.mroIn K a.c_NoText (.ref a.c_LogError) = some true
  n_NoText_at : NoAttr K a.c_NoText "at"
  X_NoTable : XMk K a.c_NoTable a.f_NoTable_init
  up_NoTable : PySem.W.mroIn K a.c_NoTable (.ref a.c_LogError) = some true
  n_NoTable_row : NoAttr K a.c_NoTable "row"
  is_NoText_LogError : xIsa K a.c_NoText (.ref a.c_LogError) = some true
  is_NoText_NoText : xIsa K a.c_NoText (.ref a.c_NoText) = some true
  is_NoText_NoTable : xIsa K a.c_NoText (.ref a.c_NoTable) = some false
  is_NoTable_LogError : xIsa K a.c_NoTable (.ref a.c_LogError) = some true
  is_NoTable_NoText : xIsa K a.c_NoTable (.ref a.c_NoText) = some false
  is_NoTable_NoTable : xIsa K a.c_NoTable (.ref a.c_NoTable) = some true
theorem seq_go {t u : TS} {D : Ends} {σ : L2.St} {H : Hp} (h : ∀ N : L2.St → Hp → Prop, (∀ σ' H', u D σ' H' → N σ' H') → t { D with nx := N } σ H) : tSeq t u D σ H := h (u D) fun _ _ x => x
noncomputable def Asc (rows : List (Int × Int)) : Prop := rows.Pairwise fun a b => a.1 < b.1
noncomputable def g2 (p : Int × Int) : List Int := [p.1, p.2]
noncomputable abbrev pr : Int × Int → List V := fun p => (g2 p).map V.int
theorem map_get {α β : Type} {f : α → β} {xs : List α} {i : Nat} {y : β} (h : (xs.map f)[i]? = some y) : ∃ x, xs[i]? = some x ∧ y = f x := by
  rw [List.getElem?_map] at h
  cases e : xs[i]? with
  | none => rw [e] at h; cases h
  | some x => rw [e] at h; exact ⟨x, rfl, (Option.some.inj h).symm⟩
structure Good (rows : List (Int × Int)) : Prop where
  few : rows.length ≤ 21
  fst : ∃ n, rows.head? = some (0, n)
  asc : Asc rows
  ok : ∀ r ∈ rows, 0 ≤ r.1 ∧ r.1 ≤ 1000000000 ∧ -2880 ≤ r.2 ∧ r.2 ≤ 2880
theorem Good.ne {rows : List (Int × Int)} (h : Good rows) : 0 < rows.length := by
  obtain ⟨n, hn⟩ := h.fst
  cases rows with
  | nil => cases hn
  | cons r rs => exact Nat.succ_pos _
inductive Rs_P (H : Hp) (q : Addr) (rows : List (Int × Int)) : Prop
  | mk (zs : _) (h1 : H q = some (.lst zs)) (h2 : TupL pr H zs rows) : Rs_P H q rows
noncomputable def Rs (H : Hp) (q : Addr) (rows : List (Int × Int)) : Prop := Rs_P H q rows
theorem Rs.same {H H' : Hp} {q : Addr} {rows : List (Int × Int)} (h : Rs H q rows) (s : Same H H') : Rs H' q rows := by
  obtain ⟨zs, h1, h2⟩ := h
  exact ⟨zs, s _ _ h1, h2.same s⟩
inductive sp_is_number_P (vs : List V) (H : Hp) (Q : VK) : Prop
  | mk (i : _) (h1 : vs = [.int i]) (h2 : Q (.bl true) H) : sp_is_number_P vs H Q
noncomputable def sp_is_number : Sp := fun vs H Q _ => sp_is_number_P vs H Q
inductive sp_is_whole_P (vs : List V) (H : Hp) (Q : VK) : Prop
  | mk (i lo hi : Int) (h1 : vs = [.int i, .int lo, .int hi]) (h2 : lo ≤ i) (h3 : i ≤ hi) (h4 : Q (.bl true) H) : sp_is_whole_P vs H Q
noncomputable def sp_is_whole : Sp := fun vs H Q _ => sp_is_whole_P vs H Q
inductive sp_is_moment_P (vs : List V) (H : Hp) (Q : VK) : Prop
  | mk (i : Int) (h1 : vs = [.int i]) (h2 : 0 ≤ i) (h3 : i ≤ 1000000000) (h4 : Q (.bl true) H) : sp_is_moment_P vs H Q
noncomputable def sp_is_moment : Sp := fun vs H Q _ => sp_is_moment_P vs H Q
inductive sp_is_row_P (vs : List V) (H : Hp) (Q : VK) : Prop
  | mk (t : Addr) (r : Int × Int) (w : Int) (h1 : vs = [.ref t, .int w]) (h2 : H t = some (.tup (pr r))) (h3 : 0 ≤ r.1) (h4 : r.1 ≤ 1000000000) (h5 : -w ≤ r.2) (h6 : r.2 ≤ w) (h7 : Q (.bl true) H) : sp_is_row_P vs H Q
noncomputable def sp_is_row : Sp := fun vs H Q _ => sp_is_row_P vs H Q
theorem boot_ValueError' : bootBuiltins "ValueError" = some (.type "ValueError") := by decide +kernel
inductive sp_all_figures_P (vs : List V) (H : Hp) (Q : VK) : Prop
  | mk (x : _) (h1 : vs = [.str x]) (h2 : x.length ≤ 200) (h3 : ∀ H', Same H H' → Q (.bl (x.cps.toList.all digB)) H') : sp_all_figures_P vs H Q
noncomputable def sp_all_figures : Sp := fun vs H Q _ => sp_all_figures_P vs H Q
inductive sp_plainly_writes_P (vs : List V) (H : Hp) (Q : VK) : Prop
  | mk (x : _) (h1 : vs = [.str x]) (h2 : x.length ≤ 200) (h3 : ∀ H', Same H H' → Q (.bl (plainB x.cps.toList)) H') : sp_plainly_writes_P vs H Q
noncomputable def sp_plainly_writes : Sp := fun vs H Q _ => sp_plainly_writes_P vs H Q
inductive sp_whole_in_P (vs : List V) (H : Hp) (Q : VK) : Prop
  | mk (v lo hi : _) (h1 : vs = [v, .int lo, .int hi]) (h2 : Thing H v) (h3 : Sm lo) (h4 : Sm hi) (h5 : ∀ H', Same H H' → Q (wholeV v lo hi) H') : sp_whole_in_P vs H Q
noncomputable def sp_whole_in : Sp := fun vs H Q _ => sp_whole_in_P vs H Q
inductive sp_two_in_P (vs : List V) (H : Hp) (Q : VK) : Prop
  | mk (x hi : _) (h1 : vs = [.str x, .int hi]) (h2 : x.length ≤ 200) (h3 : ∀ H', Same H H' → Q (twoV x.cps.toList hi) H') : sp_two_in_P vs H Q
noncomputable def sp_two_in : Sp := fun vs H Q _ => sp_two_in_P vs H Q
inductive sp_size_in_P (vs : List V) (H : Hp) (Q : VK) : Prop
  | mk (x : _) (h1 : vs = [.str x]) (h2 : x.length ≤ 200) (h3 : ∀ H', Same H H' → Q (sizeV x.cps.toList) H') : sp_size_in_P vs H Q
noncomputable def sp_size_in : Sp := fun vs H Q _ => sp_size_in_P vs H Q
inductive sp_shift_in_P (vs : List V) (H : Hp) (Q : VK) : Prop
  | mk (v : _) (h1 : vs = [v]) (h2 : Thing H v) (h3 : ∀ H', Same H H' → Q (shiftV v) H') : sp_shift_in_P vs H Q
noncomputable def sp_shift_in : Sp := fun vs H Q _ => sp_shift_in_P vs H Q
inductive sp_Ltwo_P (vs : List V) (H : Hp) (Q : VK) : Prop
  | mk (m : Nat) (h1 : vs = [.int m]) (h2 : m < 60) (h3 : ∀ x : Str, x.cps.toList = twoL m → Q (.str x) H) : sp_Ltwo_P vs H Q
noncomputable def sp_Ltwo : Sp := fun vs H Q _ => sp_Ltwo_P vs H Q
inductive sp_law_P (K : PySem.W.Frag) (vs : List V) (H : Hp) (Q : VK) : Prop
  | mk (a : Addr) (ns : List Int) (h1 : vs = [.ref a]) (h2 : SqL K H a (ns.map V.int)) (h3 : ns.length ≤ 63) (h4 : ∀ H', Q (.bl true) H') : sp_law_P K vs H Q
noncomputable def sp_law (K : PySem.W.Frag) : Sp := fun vs H Q _ => sp_law_P K vs H Q
inductive sp_clock_in_P (vs : List V) (H : Hp) (Q : VK) : Prop
  | mk (v lo hi : _) (h1 : vs = [v, .int lo, .int hi]) (h2 : Thing H v) (h3 : Sm lo) (h4 : Sm hi) (h5 : ∀ H', Same H H' → Q (clockV v lo hi) H') : sp_clock_in_P vs H Q
noncomputable def sp_clock_in : Sp := fun vs H Q _ => sp_clock_in_P vs H Q
inductive sp_Lclock_P (vs : List V) (H : Hp) (Q : VK) : Prop
  | mk (n : Int) (h1 : vs = [.int n]) (h2 : Sm n) (h3 : ∀ x : Str, x.cps.toList = clL n → Q (.str x) H) : sp_Lclock_P vs H Q
noncomputable def sp_Lclock : Sp := fun vs H Q _ => sp_Lclock_P vs H Q
inductive sp_Lshift_P (vs : List V) (H : Hp) (Q : VK) : Prop
  | mk (n : Int) (h1 : vs = [.int n]) (h2 : (-2880 ≤ n ∧ n ≤ 2880)) (h3 : ∀ x : Str, x.cps.toList = shL n → Q (.str x) H) : sp_Lshift_P vs H Q
noncomputable def sp_Lshift : Sp := fun vs H Q _ => sp_Lshift_P vs H Q
theorem small6k {n : Nat} (h : n ≤ 30000) : n ≤ sizeLine := Nat.le_trans h (by decide)
theorem small6k' {n : Nat} (h : n ≤ 30000) : n < sizeLine := Nat.lt_of_le_of_lt h (by decide)
noncomputable def SiV (H : Hp) (v : V) : Option (Int × Int) → Prop
  | none => v = .non
  | some p => ∃ t, v = .ref t ∧ H t = some (.tup (pr p))
noncomputable def rp (acc : List (Int × Int)) (i : Nat) : List Str → Nat ⊕ List (Int × Int)
  | [] => .inr acc
  | y :: ys => match rowT y.cps.toList with
    | none => .inl i
    | some r => rp (acc ++ [r]) (i + 1) ys
theorem rp_no {acc : List (Int × Int)} {i : Nat} {y : Str} {ys : List Str} (h : rowT y.cps.toList = none) : rp acc i (y :: ys) = .inl i := by simp only [rp, h]
theorem rp_on {acc : List (Int × Int)} {i : Nat} {y : Str} {ys : List Str} {r : Int × Int} (h : rowT y.cps.toList = some r) : rp acc i (y :: ys) = rp (acc ++ [r]) (i + 1) ys := by simp only [rp, h]
noncomputable def tabV : V → Nat ⊕ List (Int × Int)
  | .str x => rp [] 0 (Txt.split x sc)
  | _ => .inl 0
noncomputable def stand : Option Int → Int → Bool
  | none, m => decide (m = 0)
  | some q, m => decide (q < m)
noncomputable def fb (p : Option Int) (i : Nat) : List (Int × Int) → Option Nat
  | [] => none
  | r :: rs => if stand p r.1 = true then fb (some r.1) (i + 1) rs else some i
noncomputable def flt (rows : List (Int × Int)) : Option Nat := if 21 < rows.length then some 21 else fb none 0 rows
noncomputable def Th (H : Hp) (v : V) : Prop := KC.Typed H v ∧ ∀ x, v = .str x → x.length ≤ 20000 ∧ ∀ y ∈ Txt.split x sc, y.length ≤ 200
inductive Ref (v : V) : Str → Nat → Prop
  | text {k : Nat} : tabV v = .inl k → Ref v "text" k
  | table {rows : List (Int × Int)} {k : Nat} : tabV v = .inr rows → rows ≠ [] → (∀ r ∈ rows, okR r) → flt rows = some k → Ref v "table" k
inductive sp_row_in_P (vs : List V) (H : Hp) (Q : VK) : Prop
  | mk (x : Str) (h1 : vs = [.str x]) (h2 : x.length ≤ 200) (h3 : ∀ (v : V) (H' : Hp), Same H H' → SiV H' v (rowT x.cps.toList) → Q v H') : sp_row_in_P vs H Q
noncomputable def sp_row_in : Sp := fun vs H Q _ => sp_row_in_P vs H Q
noncomputable def pv_ (rows : List (Int × Int)) (i : Nat) : Option Int := if i = 0 then none else (rows[i - 1]?).map (·.1)
inductive sp_may_stand_P (vs : List V) (H : Hp) (Q : VK) : Prop
  | mk (q : Addr) (i : Nat) (rows : List (Int × Int)) (r : Int × Int) (h1 : vs = [.ref q, .int i]) (h2 : Rs H q rows) (h3 : rows[i]? = some r) (h4 : Q (.bl (stand (pv_ rows i) r.1)) H) : sp_may_stand_P vs H Q
noncomputable def sp_may_stand : Sp := fun vs H Q _ => sp_may_stand_P vs H Q
inductive sp_check_rows_P (a : Ad) (vs : List V) (H : Hp) (E : XK) : Prop
  | mk (q : Addr) (rows : List (Int × Int)) (k : Nat) (h1 : vs = [.ref q, .int 21, .int 2880]) (h2 : Rs H q rows) (h3 : (∀ r ∈ rows, okR r)) (h4 : rows ≠ []) (h5 : flt rows = some k) (h6 : Rz a.c_NoTable "row" (.int k) H E) : sp_check_rows_P a vs H E
noncomputable def sp_check_rows (a : Ad) : Sp := fun vs H Q E => sp_check_rows_P a vs H E
inductive sp_Table_init_P (a : Ad) (vs : List V) (H : Hp) (E : XK) : Prop
  | mk (x dx q : Addr) (rows : List (Int × Int)) (k : Nat) (h1 : vs = [.ref x, .ref q]) (h2 : H x = some (.ins a.c_Table dx [])) (h3 : Rs H q rows) (h4 : (∀ r ∈ rows, okR r)) (h5 : rows ≠ []) (h6 : flt rows = some k) (h7 : Rz a.c_NoTable "row" (.int k) H E) : sp_Table_init_P a vs H E
noncomputable def sp_Table_init (a : Ad) : Sp := fun vs H Q E => sp_Table_init_P a vs H E
inductive sp_read_table_P (a : Ad) (vs : List V) (H : Hp) (E : XK) : Prop
  | mk (v : V) (h1 : vs = [v]) (h2 : Th H v) (h3 : ((∃ k, tabV v = .inl k ∧ Rz a.c_NoText "at" (.int k) H E) ∨ ∃ rows k, tabV v = .inr rows ∧ rows ≠ [] ∧ (∀ r ∈ rows, okR r) ∧ flt rows = some k ∧ Rz a.c_NoTable "row" (.int k) H E)) : sp_read_table_P a vs H E
noncomputable def sp_read_table (a : Ad) : Sp := fun vs H Q E => sp_read_table_P a vs H E
inductive sp_LogError_init_P (K : PySem.W.Frag) (vs : List V) (H : Hp) (Q : VK) : Prop
  | mk (ea : Addr) (x : Str) (C : Addr) (dx : Option Addr) (tb : Value) (h1 : vs = [.ref ea, .str x]) (h2 : H ea = some (.ext (ExO ea C dx tb))) (h3 : xIn K C = true) (h4 : Q .non H) : sp_LogError_init_P K vs H Q
noncomputable def sp_LogError_init (K : PySem.W.Frag) : Sp := fun vs H Q _ => sp_LogError_init_P K vs H Q
inductive sp_NoText_init_P (a : Ad) (vs : List V) (H : Hp) (Q : VK) : Prop
  | mk (ea : Addr) (v : V) (h1 : vs = [.ref ea, v]) (h2 : H ea = some (.ext (ExO ea a.c_NoText none .none))) (h3 : ∀ dx, H dx = none → dx ≠ ea → Q .non (upd (upd H ea (.ext (ExO ea a.c_NoText (some dx) .none))) dx (.xd [("at", v)]))) : sp_NoText_init_P a vs H Q
noncomputable def sp_NoText_init (a : Ad) : Sp := fun vs H Q _ => sp_NoText_init_P a vs H Q
inductive sp_NoTable_init_P (a : Ad) (vs : List V) (H : Hp) (Q : VK) : Prop
  | mk (ea : Addr) (v : V) (h1 : vs = [.ref ea, v]) (h2 : H ea = some (.ext (ExO ea a.c_NoTable none .none))) (h3 : ∀ dx, H dx = none → dx ≠ ea → Q .non (upd (upd H ea (.ext (ExO ea a.c_NoTable (some dx) .none))) dx (.xd [("row", v)]))) : sp_NoTable_init_P a vs H Q
noncomputable def sp_NoTable_init (a : Ad) : Sp := fun vs H Q _ => sp_NoTable_init_P a vs H Q
inductive sp_Lrefused_P (vs : List V) (H : Hp) (Q : VK) : Prop
  | mk (v : V) (kd : Str) (k : Nat) (h1 : vs = [v, .str kd, .int k]) (h2 : Th H v) (h3 : Ref v kd k) (h4 : ∀ H', Same H H' → Q (.bl true) H') : sp_Lrefused_P vs H Q
noncomputable def sp_Lrefused (a : Ad) : Sp := fun vs H Q _ => sp_Lrefused_P vs H Q
inductive sp_Lbad_P (vs : List V) (H : Hp) (Q : VK) : Prop
  | mk (t : Addr) (r : Int × Int) (h1 : vs = [.ref t]) (h2 : H t = some (.tup (pr r))) (h3 : okR r) (h4 : ∀ (d : Addr) (ys : List Str) (H' : Hp), Same H H' → H' d = some (.lst (ys.map V.str)) → ys.length = 30 → (∀ y ∈ ys, Bad y) → Q (.ref d) H') : sp_Lbad_P vs H Q
noncomputable def sp_Lbad : Sp := fun vs H Q _ => sp_Lbad_P vs H Q
structure Rw (rows : List (Int × Int)) : Prop where
  few : rows.length ≤ 21
  ne : 0 < rows.length
  ok : ∀ r ∈ rows, okR r
inductive sp_Lparts_refused_P (vs : List V) (H : Hp) (Q : VK) : Prop
  | mk (q d : Addr) (rows : List (Int × Int)) (x0 x1 x2 x3 : Int) (h1 : vs = [.ref q, .ref d]) (h2 : Rs H q rows) (h3 : Rw rows) (h4 : H d = some (.lst ([x0, x1, x2, x3].map V.int))) (h5 : 0 ≤ x0) (h6 : 0 ≤ x1) (h7 : ∀ H', Same H H' → Q (.bl true) H') : sp_Lparts_refused_P vs H Q
noncomputable def sp_Lparts_refused (a : Ad) : Sp := fun vs H Q _ => sp_Lparts_refused_P vs H Q
inductive sp_Lrows_refused_P (vs : List V) (H : Hp) (Q : VK) : Prop
  | mk (q : Addr) (c : Int) (rows : List (Int × Int)) (h1 : vs = [.ref q, .int c]) (h2 : Rs H q rows) (h3 : Good rows) (h4 : ∀ H', Same H H' → Q (.bl true) H') : sp_Lrows_refused_P vs H Q
noncomputable def sp_Lrows_refused (a : Ad) : Sp := fun vs H Q _ => sp_Lrows_refused_P vs H Q
inductive sp_Lcell_P (K : PySem.W.Frag) (vs : List V) (H : Hp) (Q : VK) : Prop
  | mk (a : Addr) (ns : List Int) (k : Int) (h1 : vs = [.ref a, .int k]) (h2 : SqL K H a (ns.map V.int)) (h3 : ∀ (c : Int) (H' : Hp), Same H H' → Q (.int c) H') : sp_Lcell_P K vs H Q
noncomputable def sp_Lcell (K : PySem.W.Frag) : Sp := fun vs H Q _ => sp_Lcell_P K vs H Q
inductive sp_Lrow_P (vs : List V) (H : Hp) (Q : VK) : Prop
  | mk (c : Int) (p : Addr) (sz : List Int) (h1 : vs = [.int c, .ref p]) (h2 : H p = some (.lst (sz.map V.int))) (h3 : (∀ s ∈ sz, 0 < s ∧ s < 1073741824)) (h4 : sz.length ≤ 100) (h5 : ∀ (q : Addr) (fs : List Int) (H' : Hp), Same H H' → H' q = some (.lst (fs.map V.int)) → fs.length = sz.length → (∀ (k : Nat) (f s : Int), fs[k]? = some f → sz[k]? = some s → 0 ≤ f ∧ f < s) → Q (.ref q) H') : sp_Lrow_P vs H Q
noncomputable def sp_Lrow : Sp := fun vs H Q _ => sp_Lrow_P vs H Q
inductive sp_Lrows_P (vs : List V) (H : Hp) (Q : VK) : Prop
  | mk (c : Int) (h1 : vs = [.int c]) (h2 : ∀ (q : Addr) (rows : List (Int × Int)) (H' : Hp), Same H H' → Rs H' q rows → Good rows → Q (.ref q) H') : sp_Lrows_P vs H Q
noncomputable def sp_Lrows : Sp := fun vs H Q _ => sp_Lrows_P vs H Q
theorem take_snoc {l : List Nat} {i c : Nat} (h : l[i]? = some c) : l.take (i + 1) = l.take i ++ [c] := by
  rw [List.take_add_one, h]; rfl
section
variable {P : Program} {w : World} {K : PySem.W.Frag} {mg : Str → Option Value} {base : Heap}
theorem ok_all_figures {a : Ad} (T : Txt K mg a) : FnOk P w K mg base CX0 1 a.f_all_figures a.fd_all_figures ["text"] sp_all_figures := by
  refine T.d_all_figures.F.ok sc_all_figures (fun vs H Q E h => ?_) (fun cdv A outer s H vs Q E hr h => ?_)
  · obtain ⟨x, rfl, hl, k⟩ := h
    rfl
  · obtain ⟨x, rfl, hl, k⟩ := h
    have hu := hu_of hr
    have hU := hr.units
    obtain ⟨t_FIGURES, c_FIGURES⟩ := T.g_FIGURES
    refine ⟨_, (pss_one (ps_ret (pe_callB (call_allB rfl) (by rfl) T.n_all boot_all' (pa_cons (pe_comp rfl (CompOk.def ["sign"] [none]) (pi_str (pv 0)) (fun _ _ _ _ _ => (pg_name (i := 0) (show List.Nodup (["sign"] : List Str) by decide +kernel) rfl (Or.inl rfl))) (fun _ _ _ _ _ => pts_nil) (fun _ _ _ _ _ => (pe_cmpR op_in_str (pv 0) (pe_glob (v := .str "0123456789") rfl c_FIGURES ⟨_, rfl⟩) (by with_unfolding_all rfl)))) pa_nil)))), ?_⟩
    try dsimp only [cxOf, Cx.nox]
    have hx : x.length = x.cps.size := rfl
    refine ⟨_, rfl, x, rfl, fun D fD => ?_⟩
    refine comp_str (x := x) (D := D) (fun i σ H2 => ∃ (s0 : Option V) (bs : List Bool), σ = [s0] ∧ Same H H2 ∧ H2 D = some (.lst (bs.map V.bl)) ∧ bs = (x.cps.toList.take i).map digB) ⟨none, [], rfl, Same.new _ fD, upd_same, rfl⟩ ?_ ?_
    · rintro i c σ H2 hc ⟨s0, bs, rfl, s2, hD, hb⟩
      obtain ⟨hi, _⟩ := Array.getElem?_eq_some_iff.mp hc
      have hcl : x.cps.toList[i]? = some c := by simpa using hc
      have hbl : bs.length ≤ i := by rw [hb, List.length_map, List.length_take]; omega
      refine ⟨_, rfl, _, _, rfl, rfl, ?_⟩
      rw [StrLaws.found_one, dig_in]
      exact ⟨_, hD, small1000 (by rw [List.length_map]; omega), _, bs ++ [digB c], rfl, (fun b o z => by rw [upd_ne (ne_of_none z fD)]; exact s2 b o z), by rw [upd_same, List.map_append]; rfl, by rw [take_snoc hcl, List.map_append, ← hb]; rfl⟩
    · rintro σ H2 ⟨s0, bs, rfl, s2, hD, hb⟩
      refine ⟨D, bs, rfl, SqL.of hD, ?_⟩
      have e : x.cps.toList.all digB = bs.all id := by
        rw [hb, List.all_map, List.take_of_length_le (by simp)]
        rfl
      rw [e] at k
      exact k H2 s2
theorem ok_plainly_writes {a : Ad} (T : Txt K mg a) : FnOk P w K mg base CX0 2 a.f_plainly_writes a.fd_plainly_writes ["text"] sp_plainly_writes := by
  have G_all_figures : FnOk P w K mg base CX0 1 a.f_all_figures a.fd_all_figures ["text"] sp_all_figures := ok_all_figures T
  refine T.d_plainly_writes.F.ok sc_plainly_writes (fun vs H Q E h => ?_) (fun cdv A outer s H vs Q E hr h => ?_)
  · obtain ⟨x, rfl, hl, k⟩ := h
    rfl
  · obtain ⟨x, rfl, hl, k⟩ := h
    have hu := hu_of hr
    have hU := hr.units
    have h_all_figures : Room (1) _ := hr.mono (by decide)
    refine ⟨_, (pss_cons (ps_if (pt_cmpR (uEq hU) (pv 0) pe_str (nomark _))
        (pss_one (ps_ret pe_bl))
        pss_nil)
      (pss_cons (ps_set (i := 1) sc_plainly_writes.nd rfl (Or.inl rfl) (pe_ifExp (pt_val (pe_bm PySem.F.plainAttrs_str PySem.F.slot_str_startswith PySem.F.type_str_startswith mt_startswith (pv 0) (pa_cons pe_str pa_nil))) (pe_slice uSl (pv 0) (po_some pe_int) po_none) (pv 0)))
      (pss_one (ps_ret (pe_and (pe_cmpR (uNe hU) (pv 1) pe_str (nomark _)) (pe_and (pe_not (pe_bm PySem.F.plainAttrs_str PySem.F.slot_str_startswith PySem.F.type_str_startswith mt_startswith (pv 1) (pa_cons pe_str pa_nil))) (pe_one (pe_call G_all_figures h_all_figures rfl T.d_all_figures.m T.d_all_figures.k T.d_all_figures.b .nil pass0 (pa_cons (pv 1) pa_nil))))))))), ?_⟩
    try dsimp only [cxOf, Cx.nox]
    have hx : x.length = x.cps.size := rfl
    have hlt := len_toList x
    refine ⟨_, rfl, .inl ⟨rfl, _, rfl, ?_⟩⟩
    refine iteD (fun h2 => ?_) (fun h2 => ?_)
    · have e : plainB x.cps.toList = true := by
        have : x = "0" := by injection h2
        rw [this]; rfl
      rw [e] at k
      exact k H (Same.refl H)
    · have h0 : x.cps.toList ≠ [48] := fun e => h2 (by rw [str_ext (x := x) (y := "0") e])
      unfold tNext
      dsimp only
      refine seq_split (t := tAsg _ _) (fun σ' H' => ∃ y : Str, σ' = [some (.str x), some (.str y)] ∧ H' = H ∧ y.cps.toList = figs x.cps.toList ∧ y.length ≤ 200) (fun N hN => ?_) ?_
      · refine ⟨_, rfl, rfl, _, _, rfl, rfl, _, rfl, ?_⟩
        rw [st_minus]
        refine iteD (fun h3 => ?_) (fun h3 => ?_)
        · have h1 : 1 ≤ x.length := by
            rw [← len_toList]
            cases hh : x.cps.toList with
            | nil => rw [hh] at h3; cases h3
            | cons _ _ => simp
          refine ⟨_, rfl, _, rfl, .inr ⟨_, rfl, small60 (by omega), hN _ _ ⟨_, rfl, rfl, ?_, ?_⟩⟩⟩
          · rw [slice_drop1 h1]; unfold figs; rw [if_pos h3]
          · exact Nat.le_trans (Txt.slice_le x _ _) hl
        · exact ⟨_, rfl, hN _ _ ⟨_, rfl, rfl, by unfold figs; rw [if_neg h3], hl⟩⟩
      · rintro σ' H' ⟨y, rfl, rfl, ey, hy⟩
        have e0 : plainB x.cps.toList = (!decide (y.cps.toList = []) && !decide (y.cps.toList.head? = some 48) && y.cps.toList.all digB) := by
          unfold plainB; rw [decide_eq_false h0, Bool.false_or, ← ey]
        rw [e0] at k
        refine ⟨_, rfl, .inl ⟨rfl, _, rfl, ?_⟩⟩
        refine iteND (fun h4 => ?_) (fun h4 => ?_)
        · have h4' : y.cps.toList ≠ [] := fun e => h4 (by rw [str_ext (x := y) (y := "") e])
          rw [decide_eq_false h4', Bool.not_false, Bool.true_and] at k
          refine ⟨_, rfl, rfl, _, _, rfl, rfl, _, rfl, _, rfl, ?_⟩
          rw [st_zero]
          refine iteND (fun h5 => ?_) (fun h5 => ?_)
          · rw [decide_eq_false h5, Bool.not_false, Bool.true_and] at k
            exact ⟨_, rfl, y, rfl, hy, k⟩
          · rw [decide_eq_true h5, Bool.not_true, Bool.false_and] at k
            exact k _ (Same.refl _)
        · have h4' : y.cps.toList = [] := by
            have : y = "" := by injection h4
            rw [this]; rfl
          rw [decide_eq_true h4', Bool.not_true, Bool.false_and, Bool.false_and] at k
          exact k _ (Same.refl _)
theorem ok_whole_in {a : Ad} (T : Txt K mg a) : FnOk P w K mg base CX0 3 a.f_whole_in a.fd_whole_in ["thing", "low", "high"] sp_whole_in := by
  have G_plainly_writes : FnOk P w K mg base CX0 2 a.f_plainly_writes a.fd_plainly_writes ["text"] sp_plainly_writes := ok_plainly_writes T
  refine T.d_whole_in.F.ok sc_whole_in (fun vs H Q E h => ?_) (fun cdv A outer s H vs Q E hr h => ?_)
  · obtain ⟨v, lo, hi, rfl, th, slo, shi, k⟩ := h
    rfl
  · obtain ⟨v, lo, hi, rfl, th, slo, shi, k⟩ := h
    have hu := hu_of hr
    have hU := hr.units
    have h_plainly_writes : Room (2) _ := hr.mono (by decide)
    refine ⟨_, (pss_cons (ps_if (pt_not (pt_val (pe_callB call_isi (by rfl) T.n_isinstance boot_isinstance' (pa_cons (pv 0) (pa_cons (pe_bltn (v := .ty "str") rfl T.n_str boot_str' rfl) pa_nil)))))
        (pss_one (ps_ret pe_non))
        pss_nil)
      (pss_cons (ps_if (PW.pt (pw_or (pt_cmpR op_gt (pe_callB call_len (by rfl) T.n_len boot_len' (pa_cons (pv 0) pa_nil)) (pe_callB (call_max2 rfl) (by rfl) T.n_max boot_max' (pa_cons (pe_callB call_len (by rfl) T.n_len boot_len' (pa_cons (pe_callTy call_str_int (by rfl) T.n_str boot_str' (pa_cons (pv 1) pa_nil)) pa_nil)) (pa_cons (pe_callB call_len (by rfl) T.n_len boot_len' (pa_cons (pe_callTy call_str_int (by rfl) T.n_str boot_str' (pa_cons (pv 2) pa_nil)) pa_nil)) pa_nil))) (nomark _)) (pw_or1 (pt_not (pt_val (pe_call G_plainly_writes h_plainly_writes rfl T.d_plainly_writes.m T.d_plainly_writes.k T.d_plainly_writes.b .nil pass0 (pa_cons (pv 0) pa_nil)))))))
        (pss_one (ps_ret pe_non))
        pss_nil)
      (pss_cons (ps_set (i := 3) sc_whole_in.nd rfl (Or.inl rfl) (pe_callTy call_intT (by rfl) T.n_int boot_int' (pa_cons (pv 0) pa_nil)))
      (pss_one (ps_ret (pe_ifExp (pt_chain op_le op_le (pv 1) (pv 3) (pv 2)) (pv 3) pe_non)))))), ?_⟩
    try dsimp only [cxOf, Cx.nox]
    obtain ⟨t, ht⟩ := th.1
    refine ⟨_, rfl, _, _, _, rfl, (by decide), ht, _, rfl, ?_⟩
    refine iteB (fun h1 => ?_) (fun h1 => ?_)
    · have h1' : isaT "str" t = false := by simpa using h1
      rw [wholeV_no lo hi ht h1'] at k
      exact k H (Same.refl H)
    · have h1' : isaT "str" t = true := by simpa using h1
      obtain ⟨x, rfl⟩ := str_of ht h1'
      have hl := th.2 x rfl
      have hlt := len_toList x
      have llo := slo.len
      have lhi := shi.len
      refine ⟨_, rfl, _, _, rfl, ⟨small2k (by omega), rfl⟩, _, rfl, _, rfl, slo.log, _, _, rfl, ⟨small60 (by omega), rfl⟩, _, rfl, _, rfl, shi.log, _, _, rfl, ⟨small60 (by omega), rfl⟩, _, _, rfl, _, _, rfl, rfl, _, rfl, ?_⟩
      rw [intL_eq, intL_eq]
      refine iteD (fun h2 => ?_) (fun h2 => ?_)
      · have e : wholeV (.str x) lo hi = .non := by
          refine wholeT_long ?_ ?_
          · rw [hlt]; revert h2; split <;> intro h2 <;> omega
          · rw [hlt]; revert h2; split <;> intro h2 <;> omega
        rw [e] at k
        exact iteT (k H (Same.refl H))
      · refine ⟨_, rfl, x, rfl, hl, fun H1 s1 => ?_⟩
        refine ⟨_, rfl, ?_⟩
        refine iteB (fun h3 => ?_) (fun h3 => ?_)
        · have e : wholeV (.str x) lo hi = .non := by
            show wholeT _ _ _ = _
            unfold wholeT
            rw [if_neg]
            rintro ⟨z, _⟩
            rw [z] at h3; cases h3
          rw [e] at k
          exact k H1 s1
        · have h3' : plainB x.cps.toList = true := by simpa using h3
          refine ⟨_, rfl, _, _, rfl, plain_int h3' (by omega), by omega, ?_⟩
          refine ⟨_, rfl, _, rfl, _, _, rfl, rfl, _, rfl, ?_⟩
          refine iteD (fun h4 => ?_) (fun h4 => ?_)
          · refine ⟨_, rfl, _, _, rfl, rfl, _, rfl, ?_⟩
            refine iteD (fun h5 => ?_) (fun h5 => ?_)
            · have e : wholeV (.str x) lo hi = .int (nv x.cps.toList) := if_pos ⟨h3', h4, h5⟩
              rw [e] at k
              exact ⟨_, rfl, k H1 s1⟩
            · have e : wholeV (.str x) lo hi = .non := if_neg fun z => h5 z.2.2
              rw [e] at k
              exact k H1 s1
          · have e : wholeV (.str x) lo hi = .non := if_neg fun z => h4 z.2.1
            rw [e] at k
            exact ⟨_, rfl, iteF (k H1 s1)⟩
theorem st_plus (x : Str) : Txt.startswith x (Str.ofString "+") = decide (x.cps.toList.head? = some 43) := by
  rw [show Str.ofString "+" = ⟨#[43]⟩ by decide +kernel]; exact starts_one x 43
theorem ok_two_in {a : Ad} (T : Txt K mg a) : FnOk P w K mg base CX0 2 a.f_two_in a.fd_two_in ["text", "high"] sp_two_in := by
  have G_all_figures : FnOk P w K mg base CX0 1 a.f_all_figures a.fd_all_figures ["text"] sp_all_figures := ok_all_figures T
  refine T.d_two_in.F.ok sc_two_in (fun vs H Q E h => ?_) (fun cdv A outer s H vs Q E hr h => ?_)
  · obtain ⟨x, hi, rfl, hl, k⟩ := h
    rfl
  · obtain ⟨x, hi, rfl, hl, k⟩ := h
    have hu := hu_of hr
    have hU := hr.units
    have h_all_figures : Room (1) _ := hr.mono (by decide)
    refine ⟨_, (pss_cons (ps_if (PW.pt (pw_or (pt_cmpR (uNe hU) (pe_callB call_len (by rfl) T.n_len boot_len' (pa_cons (pv 0) pa_nil)) pe_int (nomark _)) (pw_or1 (pt_not (pt_val (pe_call G_all_figures h_all_figures rfl T.d_all_figures.m T.d_all_figures.k T.d_all_figures.b .nil pass0 (pa_cons (pv 0) pa_nil)))))))
        (pss_one (ps_ret pe_non))
        pss_nil)
      (pss_one (ps_ret (pe_ifExp (pt_cmpR op_le (pe_callTy call_intT (by rfl) T.n_int boot_int' (pa_cons (pv 0) pa_nil)) (pv 1) (nomark _)) (pe_callTy call_intT (by rfl) T.n_int boot_int' (pa_cons (pv 0) pa_nil)) pe_non)))), ?_⟩
    try dsimp only [cxOf, Cx.nox]
    have hlt := len_toList x
    refine ⟨_, rfl, _, _, rfl, ⟨small60 (by omega), rfl⟩, .inl ⟨rfl, _, rfl, ?_⟩⟩
    refine iteND (fun h1 => ?_) (fun h1 => ?_)
    · have e : twoV x.cps.toList hi = .non := if_neg fun z => h1 (by rw [← hlt, z.1]; rfl)
      rw [e] at k
      exact iteT (k H (Same.refl H))
    · have h2 : x.cps.toList.length = 2 := by
        injection h1 with h1
        rw [hlt]
        omega
      refine ⟨_, rfl, x, rfl, hl, fun H1 s1 => ?_⟩
      refine ⟨_, rfl, ?_⟩
      refine iteB (fun h3 => ?_) (fun h3 => ?_)
      · have e : twoV x.cps.toList hi = .non := if_neg fun z => by
          rw [z.2.1] at h3; cases h3
        rw [e] at k
        exact k H1 s1
      · have h3' : x.cps.toList.all digB = true := by simpa using h3
        have hne : x.cps.toList ≠ [] := fun e => by rw [e] at h2; cases h2
        have hi2 := dig_int h3' hne (by omega)
        refine ⟨_, rfl, _, _, rfl, hi2, by omega, _, rfl, _, _, rfl, rfl, _, rfl, ?_⟩
        refine iteD (fun h4 => ?_) (fun h4 => ?_)
        · have e : twoV x.cps.toList hi = .int ((digitsVal x.cps.toList : Nat) : Int) := if_pos ⟨h2, h3', h4⟩
          rw [e] at k
          exact ⟨_, rfl, _, _, rfl, hi2, by omega, k H1 s1⟩
        · have e : twoV x.cps.toList hi = .non := if_neg fun z => h4 z.2.2
          rw [e] at k
          exact k H1 s1
theorem ok_size_in {a : Ad} (T : Txt K mg a) : FnOk P w K mg base CX0 4 a.f_size_in a.fd_size_in ["text"] sp_size_in := by
  have G_whole_in : FnOk P w K mg base CX0 3 a.f_whole_in a.fd_whole_in ["thing", "low", "high"] sp_whole_in := ok_whole_in T
  have G_two_in : FnOk P w K mg base CX0 2 a.f_two_in a.fd_two_in ["text", "high"] sp_two_in := ok_two_in T
  refine T.d_size_in.F.ok sc_size_in (fun vs H Q E h => ?_) (fun cdv A outer s H vs Q E hr h => ?_)
  · obtain ⟨x, rfl, hl, k⟩ := h
    rfl
  · obtain ⟨x, rfl, hl, k⟩ := h
    have hu := hu_of hr
    have hU := hr.units
    have h_whole_in : Room (3) _ := hr.mono (by decide)
    have h_two_in : Room (2) _ := hr.mono (by decide)
    obtain ⟨t_WIDEST_SHIFT, c_WIDEST_SHIFT⟩ := T.g_WIDEST_SHIFT
    obtain ⟨t_HOUR, c_HOUR⟩ := T.g_HOUR
    refine ⟨_, (pss_cons (ps_set (i := 1) sc_size_in.nd rfl (Or.inl rfl) (pe_bm PySem.F.plainAttrs_str PySem.F.slot_str_partition PySem.F.type_str_partition mt_partition (pv 0) (pa_cons pe_str pa_nil)))
      (pss_cons (ps_set (i := 2) sc_size_in.nd rfl (Or.inl rfl) (pe_call G_whole_in h_whole_in rfl T.d_whole_in.m T.d_whole_in.k T.d_whole_in.b .nil pass0 (pa_cons (pe_ix (r := rIx K) ix_seq (pv 1) pe_int (fun _ _ => rfl)) (pa_cons pe_int (pa_cons (pe_op op_fdiv (pe_glob (v := .int 2880) rfl c_WIDEST_SHIFT ⟨_, rfl⟩) (pe_glob (v := .int 60) rfl c_HOUR ⟨_, rfl⟩)) pa_nil)))))
      (pss_cons (ps_set (i := 3) sc_size_in.nd rfl (Or.inl rfl) (pe_call G_two_in h_two_in rfl T.d_two_in.m T.d_two_in.k T.d_two_in.b .nil pass0 (pa_cons (pe_ix (r := rIx K) ix_seq (pv 1) pe_int (fun _ _ => rfl)) (pa_cons pe_int pa_nil))))
      (pss_cons (ps_if (PW.pt (pw_or (pt_cmpR op_isN (pv 2) pe_non (nomark _)) (pw_or1 (pt_cmpR op_isN (pv 3) pe_non (nomark _)))))
        (pss_one (ps_ret pe_non))
        pss_nil)
      (pss_cons (ps_set (i := 4) sc_size_in.nd rfl (Or.inl rfl) (pe_op uAdd (pe_op op_mul (pv 2) (pe_glob (v := .int 60) rfl c_HOUR ⟨_, rfl⟩)) (pv 3)))
      (pss_one (ps_ret (pe_ifExp (pt_cmpR op_le (pv 4) (pe_glob (v := .int 2880) rfl c_WIDEST_SHIFT ⟨_, rfl⟩) (nomark _)) (pv 4) pe_non)))))))), ?_⟩
    try dsimp only [cxOf, Cx.nox]
    have hlt := len_toList x
    refine ⟨_, rfl, rfl, _, _, rfl, rfl, by decide +kernel, small60 (by omega), fun p fp => ?_⟩
    rw [dot_sign]
    obtain ⟨e1, e2⟩ := part_one x 46
    have lb : (Txt.partition x ⟨#[46]⟩).1.length ≤ 200 := by rw [← len_toList, e1]; exact Nat.le_trans (bef_le _ _) (by omega)
    have la : (Txt.partition x ⟨#[46]⟩).2.2.length ≤ 200 := by rw [← len_toList, e2]; exact Nat.le_trans (aft_le _ _) (by omega)
    generalize (Txt.partition x ⟨#[46]⟩).1 = y1 at e1 lb ⊢
    generalize (Txt.partition x ⟨#[46]⟩).2.1 = y2 at ⊢
    generalize (Txt.partition x ⟨#[46]⟩).2.2 = y3 at e2 la ⊢
    have hp : (upd H p (.tup [.str y1, .str y2, .str y3])) p = some (.tup [.str y1, .str y2, .str y3]) := upd_same
    have s0 : Same H (upd H p (.tup [.str y1, .str y2, .str y3])) := Same.new _ fp
    try dsimp only
    generalize upd H p (.tup [.str y1, .str y2, .str y3]) = G0 at hp s0 ⊢
    have e48 : (2880 : Int) / 60 = 48 := by decide
    refine ⟨_, rfl, .inr (.inl ⟨p, _, _, _, rfl, rfl, SqT.of hp, rfl, ?_⟩)⟩
    refine ⟨_, _, rfl, rfl, ⟨by decide, by decide⟩, ?_⟩
    refine ⟨.str y1, 0, 48, rfl, ⟨⟨_, rfl⟩, fun z ez => by cases ez; exact lb⟩, ⟨by decide, by decide⟩, ⟨by decide, by decide⟩, fun G1 s1 => ?_⟩
    have hp1 := s1 _ _ hp
    refine ⟨_, rfl, .inr (.inl ⟨p, _, _, _, rfl, rfl, SqT.of hp1, rfl, ?_⟩)⟩
    refine ⟨y3, 59, rfl, la, fun G2 s2 => ?_⟩
    have S := (s0.trans s1).trans s2
    try unfold tNext
    try dsimp only
    show _
    have ew : wholeV (.str y1) 0 48 = wholeT (befC 46 x.cps.toList) 0 48 := by show wholeT y1.cps.toList 0 48 = _; rw [e1]
    rw [ew, e2]
    unfold sizeV sizeO at k
    by_cases c1 : plainB (befC 46 x.cps.toList) = true ∧ 0 ≤ nv (befC 46 x.cps.toList) ∧ nv (befC 46 x.cps.toList) ≤ 48
    · rw [show wholeT (befC 46 x.cps.toList) 0 48 = .int (nv (befC 46 x.cps.toList)) from if_pos c1]
      refine ⟨_, rfl, rfl, _, rfl, iteF ?_⟩
      by_cases c2 : (aftC 46 x.cps.toList).length = 2 ∧ (aftC 46 x.cps.toList).all digB = true ∧ ((digitsVal (aftC 46 x.cps.toList) : Nat) : Int) ≤ 59
      · rw [show twoV (aftC 46 x.cps.toList) 59 = .int ((digitsVal (aftC 46 x.cps.toList) : Nat) : Int) from if_pos c2]
        refine ⟨_, rfl, rfl, _, rfl, iteF ?_⟩
        refine ⟨_, rfl, _, _, rfl, rfl, .inr ⟨by decide, by decide⟩, _, rfl, .inl ⟨_, _, rfl, rfl, ?_⟩⟩
        refine ⟨_, rfl, _, _, rfl, rfl, _, rfl, ?_⟩
        refine iteD (fun c3 => ?_) (fun c3 => ?_)
        · rw [if_pos ⟨c1.1, c1.2, c2, c3⟩] at k
          exact ⟨_, rfl, k _ S⟩
        · rw [if_neg fun z => c3 z.2.2.2] at k
          exact k _ S
      · rw [show twoV (aftC 46 x.cps.toList) 59 = .non from if_neg c2]
        rw [if_neg fun z => c2 z.2.2.1] at k
        exact ⟨_, rfl, rfl, _, rfl, iteT (k _ S)⟩
    · rw [show wholeT (befC 46 x.cps.toList) 0 48 = .non from if_neg c1]
      rw [if_neg fun z => c1 ⟨z.1, z.2.1⟩] at k
      exact ⟨_, rfl, rfl, _, rfl, iteT (iteT (k _ S))⟩
theorem ok_shift_in {a : Ad} (T : Txt K mg a) : FnOk P w K mg base CX0 5 a.f_shift_in a.fd_shift_in ["text"] sp_shift_in := by
  have G_size_in : FnOk P w K mg base CX0 4 a.f_size_in a.fd_size_in ["text"] sp_size_in := ok_size_in T
  refine T.d_shift_in.F.ok sc_shift_in (fun vs H Q E h => ?_) (fun cdv A outer s H vs Q E hr h => ?_)
  · obtain ⟨v, rfl, th, k⟩ := h
    rfl
  · obtain ⟨v, rfl, th, k⟩ := h
    have hu := hu_of hr
    have hU := hr.units
    have h_size_in : Room (4) _ := hr.mono (by decide)
    refine ⟨_, (pss_cons (ps_if (pt_not (pt_val (pe_callB call_isi (by rfl) T.n_isinstance boot_isinstance' (pa_cons (pv 0) (pa_cons (pe_bltn (v := .ty "str") rfl T.n_str boot_str' rfl) pa_nil)))))
        (pss_one (ps_ret pe_non))
        pss_nil)
      (pss_cons (ps_set (i := 1) sc_shift_in.nd rfl (Or.inl rfl) (pe_call G_size_in h_size_in rfl T.d_size_in.m T.d_size_in.k T.d_size_in.b .nil pass0 (pa_cons (pe_slice uSl (pv 0) (po_some pe_int) po_none) pa_nil)))
      (pss_cons (ps_if (pt_cmpR op_isN (pv 1) pe_non (nomark _))
        (pss_one (ps_ret pe_non))
        pss_nil)
      (pss_cons (ps_if (pt_val (pe_bm PySem.F.plainAttrs_str PySem.F.slot_str_startswith PySem.F.type_str_startswith mt_startswith (pv 0) (pa_cons pe_str pa_nil)))
        (pss_one (ps_ret (pv 1)))
        pss_nil)
      (pss_one (ps_ret (pe_ifExp (PW.pt (pw_and (pt_val (pe_bm PySem.F.plainAttrs_str PySem.F.slot_str_startswith PySem.F.type_str_startswith mt_startswith (pv 0) (pa_cons pe_str pa_nil))) (pw_and1 (pt_cmpR op_gt (pv 1) pe_int (nomark _))))) (pe_un un_neg (pv 1)) pe_non))))))), ?_⟩
    try dsimp only [cxOf, Cx.nox]
    obtain ⟨t, ht⟩ := th.1
    refine ⟨_, rfl, _, _, _, rfl, (by decide), ht, _, rfl, ?_⟩
    refine iteB (fun h1 => ?_) (fun h1 => ?_)
    · have h1' : isaT "str" t = false := by simpa using h1
      rw [shiftV_no ht h1'] at k
      exact k H (Same.refl H)
    · have h1' : isaT "str" t = true := by simpa using h1
      obtain ⟨x, rfl⟩ := str_of ht h1'
      have hl := th.2 x rfl
      have hlt := len_toList x
      have et := slice_tail x
      have ly := Txt.slice_le x (some 1) none
      refine ⟨_, rfl, _, rfl, .inr ⟨_, rfl, small60 (by omega), _, rfl, by omega, fun G1 s1 => ?_⟩⟩
      rw [et]
      have k : ∀ H', Same H H' → Q (shiftT x.cps.toList) H' := k
      unfold shiftT at k
      unfold sizeV
      try unfold tNext
      try dsimp only
      cases hs : sizeO x.cps.toList.tail with
      | none =>
        rw [hs] at k
        exact ⟨_, rfl, rfl, _, rfl, iteT (k _ s1)⟩
      | some n =>
        rw [hs] at k
        dsimp only at k
        refine ⟨_, rfl, rfl, _, rfl, iteF ?_⟩
        refine ⟨_, rfl, rfl, _, _, rfl, rfl, _, rfl, ?_⟩
        rw [st_plus]
        refine iteD (fun h2 => ?_) (fun h2 => ?_)
        · rw [if_pos h2] at k
          exact ⟨_, rfl, k _ s1⟩
        · rw [if_neg h2] at k
          refine ⟨_, rfl, rfl, _, _, rfl, rfl, _, rfl, ?_⟩
          rw [st_minus]
          refine iteD (fun h3 => ?_) (fun h3 => ?_)
          · refine ⟨_, rfl, _, _, rfl, rfl, _, rfl, ?_⟩
            refine iteD (fun h4 => ?_) (fun h4 => ?_)
            · rw [if_pos ⟨h3, h4⟩] at k
              exact ⟨_, rfl, _, rfl, k _ s1⟩
            · rw [if_neg fun z => h4 z.2] at k
              exact k _ s1
          · rw [if_neg fun z => h3 z.1] at k
            exact iteF (k _ s1)
theorem ok_clock_in {a : Ad} (T : Txt K mg a) : FnOk P w K mg base CX0 4 a.f_clock_in a.fd_clock_in ["text", "low", "high"] sp_clock_in := by
  have G_whole_in : FnOk P w K mg base CX0 3 a.f_whole_in a.fd_whole_in ["thing", "low", "high"] sp_whole_in := ok_whole_in T
  have G_two_in : FnOk P w K mg base CX0 2 a.f_two_in a.fd_two_in ["text", "high"] sp_two_in := ok_two_in T
  refine T.d_clock_in.F.ok sc_clock_in (fun vs H Q E h => ?_) (fun cdv A outer s H vs Q E hr h => ?_)
  · obtain ⟨v, lo, hi, rfl, th, slo, shi, k⟩ := h
    rfl
  · obtain ⟨v, lo, hi, rfl, th, slo, shi, k⟩ := h
    have hu := hu_of hr
    have hU := hr.units
    have h_whole_in : Room (3) _ := hr.mono (by decide)
    have h_two_in : Room (2) _ := hr.mono (by decide)
    obtain ⟨t_HOUR, c_HOUR⟩ := T.g_HOUR
    obtain ⟨t_DAY, c_DAY⟩ := T.g_DAY
    refine ⟨_, (pss_cons (ps_if (pt_not (pt_val (pe_callB call_isi (by rfl) T.n_isinstance boot_isinstance' (pa_cons (pv 0) (pa_cons (pe_bltn (v := .ty "str") rfl T.n_str boot_str' rfl) pa_nil)))))
        (pss_one (ps_ret pe_non))
        pss_nil)
      (pss_cons (ps_set (i := 3) sc_clock_in.nd rfl (Or.inl rfl) (pe_bm PySem.F.plainAttrs_str PySem.F.slot_str_split PySem.F.type_str_split mt_split (pv 0) (pa_cons pe_str pa_nil)))
      (pss_cons (ps_if (pt_cmpR (uNe hU) (pe_callB call_len (by rfl) T.n_len boot_len' (pa_cons (pv 3) pa_nil)) pe_int (nomark _))
        (pss_one (ps_ret pe_non))
        pss_nil)
      (pss_cons (ps_set (i := 4) sc_clock_in.nd rfl (Or.inl rfl) (pe_call G_whole_in h_whole_in rfl T.d_whole_in.m T.d_whole_in.k T.d_whole_in.b .nil pass0 (pa_cons (pe_ix (r := rIx K) ix_seq (pv 3) pe_int (fun _ _ => rfl)) (pa_cons (pe_op op_fdiv (pv 1) (pe_glob (v := .int 1440) rfl c_DAY ⟨_, rfl⟩)) (pa_cons (pe_op op_fdiv (pv 2) (pe_glob (v := .int 1440) rfl c_DAY ⟨_, rfl⟩)) pa_nil)))))
      (pss_cons (ps_set (i := 5) sc_clock_in.nd rfl (Or.inl rfl) (pe_call G_two_in h_two_in rfl T.d_two_in.m T.d_two_in.k T.d_two_in.b .nil pass0 (pa_cons (pe_ix (r := rIx K) ix_seq (pv 3) pe_int (fun _ _ => rfl)) (pa_cons pe_int pa_nil))))
      (pss_cons (ps_set (i := 6) sc_clock_in.nd rfl (Or.inl rfl) (pe_call G_two_in h_two_in rfl T.d_two_in.m T.d_two_in.k T.d_two_in.b .nil pass0 (pa_cons (pe_ix (r := rIx K) ix_seq (pv 3) pe_int (fun _ _ => rfl)) (pa_cons pe_int pa_nil))))
      (pss_cons (ps_if (PW.pt (pw_or (pt_cmpR op_isN (pv 4) pe_non (nomark _)) (pw_or (pt_cmpR op_isN (pv 5) pe_non (nomark _)) (pw_or1 (pt_cmpR op_isN (pv 6) pe_non (nomark _))))))
        (pss_one (ps_ret pe_non))
        pss_nil)
      (pss_cons (ps_set (i := 7) sc_clock_in.nd rfl (Or.inl rfl) (pe_op uAdd (pe_op uAdd (pe_op op_mul (pv 4) (pe_glob (v := .int 1440) rfl c_DAY ⟨_, rfl⟩)) (pe_op op_mul (pv 5) (pe_glob (v := .int 60) rfl c_HOUR ⟨_, rfl⟩))) (pv 6)))
      (pss_one (ps_ret (pe_ifExp (pt_chain op_le op_le (pv 1) (pv 7) (pv 2)) (pv 7) pe_non))))))))))), ?_⟩
    try dsimp only [cxOf, Cx.nox]
    obtain ⟨t, ht⟩ := th.1
    refine ⟨_, rfl, _, _, _, rfl, (by decide), ht, _, rfl, ?_⟩
    refine iteB (fun h1 => ?_) (fun h1 => ?_)
    · have h1' : isaT "str" t = false := by simpa using h1
      rw [clockV_no lo hi ht h1'] at k
      exact k H (Same.refl H)
    have h1' : isaT "str" t = true := by simpa using h1
    obtain ⟨x, rfl⟩ := str_of ht h1'
    have hl := th.2 x rfl
    have hlt := len_toList x
    have k : ∀ H', Same H H' → Q (clockT x.cps.toList lo hi) H' := k
    refine ⟨_, rfl, rfl, _, _, rfl, rfl, by decide +kernel, small60 (by omega), fun p fp => ?_⟩
    rw [dot_sign]
    have es := split_one x 46
    have sl : (Txt.split x ⟨#[46]⟩).length ≤ x.length + 2 := split_le x _
    have ss : ∀ y ∈ Txt.split x ⟨#[46]⟩, y.length ≤ 200 := fun y hy => Nat.le_trans (part_short hy) hl
    generalize Txt.split x ⟨#[46]⟩ = ps at es sl ss ⊢
    have hp : (upd H p (.lst (ps.map V.str))) p = some (.lst (ps.map V.str)) := upd_same
    have s0 : Same H (upd H p (.lst (ps.map V.str))) := Same.new _ fp
    try dsimp only
    generalize upd H p (.lst (ps.map V.str)) = G0 at hp s0 ⊢
    refine ⟨_, rfl, _, _, rfl, .inl ⟨_, SqL.of hp, rfl⟩, .inl ⟨rfl, _, rfl, ?_⟩⟩
    have eln : ps.length = (spl 46 x.cps.toList).length := by rw [← es, List.length_map]
    refine iteND (fun h2 => ?_) (fun h2 => ?_)
    · have h3 : (spl 46 x.cps.toList).length ≠ 3 := fun e => h2 (by rw [List.length_map, eln, e]; rfl)
      rw [clock_not3 h3] at k
      exact k _ s0
    have h3 : ps.length = 3 := by
      injection h2 with h2
      rw [List.length_map] at h2
      omega
    obtain ⟨y1, y2, y3, rfl⟩ : ∃ y1 y2 y3, ps = [y1, y2, y3] := by
      match ps, h3 with
      | [a, b, c], _ => exact ⟨a, b, c, rfl⟩
    have es : [y1.cps.toList, y2.cps.toList, y3.cps.toList] = spl 46 x.cps.toList := es
    rw [clock_is3 es.symm] at k
    have la := ss y1 (by simp)
    have lb := ss y2 (by simp)
    have lc := ss y3 (by simp)
    have hp : G0 p = some (.lst [.str y1, .str y2, .str y3]) := hp
    refine ⟨_, rfl, .inl ⟨p, _, _, _, rfl, rfl, SqL.of hp, rfl, ?_⟩⟩
    refine ⟨_, rfl, _, _, rfl, rfl, ⟨by decide, by decide⟩, _, rfl, _, _, rfl, rfl, ⟨by decide, by decide⟩, ?_⟩
    refine ⟨.str y1, lo / 1440, hi / 1440, rfl, ⟨⟨_, rfl⟩, fun z ez => by cases ez; exact la⟩, ⟨by have := slo.1; have := slo.2; omega, by have := slo.1; have := slo.2; omega⟩, ⟨by have := shi.1; have := shi.2; omega, by have := shi.1; have := shi.2; omega⟩, fun G1 s1 => ?_⟩
    have hp1 := s1 _ _ hp
    refine ⟨_, rfl, .inl ⟨p, _, _, _, rfl, rfl, SqL.of hp1, rfl, ?_⟩⟩
    refine ⟨y2, 23, rfl, lb, fun G2 s2 => ?_⟩
    have hp2 := s2 _ _ hp1
    refine ⟨_, rfl, .inl ⟨p, _, _, _, rfl, rfl, SqL.of hp2, rfl, ?_⟩⟩
    refine ⟨y3, 59, rfl, lc, fun G3 s3 => ?_⟩
    have S := ((s0.trans s1).trans s2).trans s3
    try unfold tNext
    try dsimp only
    rw [show wholeV (.str y1) (lo / 1440) (hi / 1440) = wholeT y1.cps.toList (lo / 1440) (hi / 1440) from rfl]
    unfold clk3 at k
    by_cases c1 : plainB y1.cps.toList = true ∧ lo / 1440 ≤ nv y1.cps.toList ∧ nv y1.cps.toList ≤ hi / 1440
    · rw [show wholeT y1.cps.toList (lo / 1440) (hi / 1440) = .int (nv y1.cps.toList) from if_pos c1]
      refine ⟨_, rfl, rfl, _, rfl, iteF ?_⟩
      by_cases c2 : y2.cps.toList.length = 2 ∧ y2.cps.toList.all digB = true ∧ ((digitsVal y2.cps.toList : Nat) : Int) ≤ 23
      · rw [show twoV y2.cps.toList 23 = .int ((digitsVal y2.cps.toList : Nat) : Int) from if_pos c2]
        refine ⟨_, rfl, rfl, _, rfl, iteF ?_⟩
        by_cases c3 : y3.cps.toList.length = 2 ∧ y3.cps.toList.all digB = true ∧ ((digitsVal y3.cps.toList : Nat) : Int) ≤ 59
        · rw [show twoV y3.cps.toList 59 = .int ((digitsVal y3.cps.toList : Nat) : Int) from if_pos c3]
          refine ⟨_, rfl, rfl, _, rfl, iteF ?_⟩
          refine ⟨_, rfl, _, _, rfl, rfl, .inr ⟨by decide, by decide⟩, _, rfl, _, _, rfl, rfl, .inr ⟨by decide, by decide⟩, .inl ⟨_, _, rfl, rfl, _, rfl, .inl ⟨_, _, rfl, rfl, ?_⟩⟩⟩
          refine ⟨_, rfl, _, rfl, _, _, rfl, rfl, _, rfl, ?_⟩
          refine iteD (fun c4 => ?_) (fun c4 => ?_)
          · refine ⟨_, rfl, _, _, rfl, rfl, _, rfl, ?_⟩
            refine iteD (fun c5 => ?_) (fun c5 => ?_)
            · rw [if_pos ⟨c1.1, c1.2, c2, c3, c4, c5⟩] at k
              exact ⟨_, rfl, k _ S⟩
            · rw [if_neg fun z => c5 z.2.2.2.2.2] at k
              exact k _ S
          · rw [if_neg fun z => c4 z.2.2.2.2.1] at k
            exact ⟨_, rfl, iteF (k _ S)⟩
        · rw [show twoV y3.cps.toList 59 = .non from if_neg c3]
          rw [if_neg fun z => c3 z.2.2.2.1] at k
          exact ⟨_, rfl, rfl, _, rfl, iteT (k _ S)⟩
      · rw [show twoV y2.cps.toList 23 = .non from if_neg c2]
        rw [if_neg fun z => c2 z.2.2.1] at k
        exact ⟨_, rfl, rfl, _, rfl, iteT (iteT (k _ S))⟩
    · rw [show wholeT y1.cps.toList (lo / 1440) (hi / 1440) = .non from if_neg c1]
      rw [if_neg fun z => c1 ⟨z.1, z.2.1⟩] at k
      exact ⟨_, rfl, rfl, _, rfl, iteT (iteT (k _ S))⟩
end
end K18
set_option Elab.async false
set_option linter.all false
set_option maxRecDepth 100000
namespace K18
open PySem L2 PySem.NumText PyProof.Rows KC M18
section
variable {P : Program} {w : World} {K : PySem.W.Frag} {mg : Str → Option Value} {base : Heap}
theorem ten_int {m : Nat} (h : m < 10) : atI (Str.ofString "0123456789").cps.toList (m : Int) = some (48 + m) := by
  refine atI_nat ?_
  rw [show (Str.ofString "0123456789").cps.toList = [48, 49, 50, 51, 52, 53, 54, 55, 56, 57] from figs10, ten_at _ h]
theorem ok_Ltwo {a : Ad} (T : Txt K mg a) : FnOk P w K mg base CX0 1 a.f_Ltwo a.fd_Ltwo ["_law_number"] sp_Ltwo := by
  refine T.d_Ltwo.F.ok sc_Ltwo (fun vs H Q E h => ?_) (fun cdv A outer s H vs Q E hr h => ?_)
  · obtain ⟨m, rfl, hm, k⟩ := h
    rfl
  · obtain ⟨m, rfl, hm, k⟩ := h
    have hu := hu_of hr
    have hU := hr.units
    refine ⟨_, (pss_one (ps_ret (pe_op uAdd (pe_ix (r := rIx K) ix_seq pe_str (pe_op op_fdiv (pv 0) pe_int) (fun _ _ => rfl)) (pe_ix (r := rIx K) ix_seq pe_str (pe_op op_mod (pv 0) pe_int) (fun _ _ => rfl))))), ?_⟩
    try dsimp only [cxOf, Cx.nox]
    refine ⟨_, rfl, _, _, rfl, rfl, ⟨by decide, by decide⟩, .inr (.inr ⟨_, _, 48 + m / 10, rfl, rfl, small60 (by decide +kernel), ?_, ?_⟩)⟩
    · show atI (Str.ofString "0123456789").cps.toList ((m : Int) / 10) = _
      rw [show (m : Int) / 10 = ((m / 10 : Nat) : Int) by omega]
      exact ten_int (by omega)
    refine ⟨_, rfl, _, _, rfl, rfl, (by show (0 : Int) < 10; decide), .inr (.inr ⟨_, _, 48 + m % 10, rfl, rfl, small60 (by decide +kernel), ?_, ?_⟩)⟩
    · show atI (Str.ofString "0123456789").cps.toList ((m : Int) % 10) = _
      rw [show (m : Int) % 10 = ((m % 10 : Nat) : Int) by omega]
      exact ten_int (by omega)
    exact .inr (.inr ⟨_, _, rfl, rfl, small60 (by show 1 + 1 ≤ 1000; decide), k _ rfl⟩)
theorem ok_Lclock {a : Ad} (T : Txt K mg a) : FnOk P w K mg base CX0 2 a.f_Lclock a.fd_Lclock ["_law_number"] sp_Lclock := by
  have G_Ltwo : FnOk P w K mg base CX0 1 a.f_Ltwo a.fd_Ltwo ["_law_number"] sp_Ltwo := ok_Ltwo T
  refine T.d_Lclock.F.ok sc_Lclock (fun vs H Q E h => ?_) (fun cdv A outer s H vs Q E hr h => ?_)
  · obtain ⟨n, rfl, sn, k⟩ := h
    rfl
  · obtain ⟨n, rfl, sn, k⟩ := h
    have hu := hu_of hr
    have hU := hr.units
    have h_Ltwo : Room (1) _ := hr.mono (by decide)
    refine ⟨_, (pss_cons (ps_set (i := 1) sc_Lclock.nd rfl (Or.inl rfl) (pe_op op_fdiv (pv 0) pe_int))
      (pss_cons (ps_set (i := 2) sc_Lclock.nd rfl (Or.inl rfl) (pe_op op_sub (pv 0) (pe_op op_mul pe_int (pv 1))))
      (pss_one (ps_ret (pe_op uAdd (pe_op uAdd (pe_op uAdd (pe_op uAdd (pe_callTy call_str_int (by rfl) T.n_str boot_str' (pa_cons (pv 1) pa_nil)) pe_str) (pe_call G_Ltwo h_Ltwo rfl T.d_Ltwo.m T.d_Ltwo.k T.d_Ltwo.b .nil pass0 (pa_cons (pe_op op_fdiv (pv 2) pe_int) pa_nil))) pe_str) (pe_call G_Ltwo h_Ltwo rfl T.d_Ltwo.m T.d_Ltwo.k T.d_Ltwo.b .nil pass0 (pa_cons (pe_op op_mod (pv 2) pe_int) pa_nil))))))), ?_⟩
    try dsimp only [cxOf, Cx.nox]
    obtain ⟨n0, n1⟩ := id sn
    refine ⟨_, rfl, _, _, rfl, rfl, ⟨by decide, by decide⟩, ?_⟩
    refine ⟨_, rfl, _, rfl, _, _, rfl, rfl, .inl ⟨by decide, by decide⟩, _, _, rfl, rfl, ?_⟩
    have er : n - 1440 * (n / 1440) = n % 1440 := by omega
    try dsimp only
    rw [er]
    have l1 : (Str.ofString (toString (n / 1440))).length ≤ 31 := Sm.len ⟨by omega, by omega⟩
    refine ⟨_, rfl, _, rfl, Sm.log ⟨by omega, by omega⟩, .inr (.inr ⟨_, _, rfl, rfl, cat2 l1 (show (Str.ofString ".").length ≤ 1 by decide +kernel) (by decide), ?_⟩)⟩
    refine ⟨_, rfl, _, _, rfl, rfl, ⟨by decide, by decide⟩, (n % 1440 / 60).toNat, ?_, by omega, fun hx ehx => ?_⟩
    · show [V.int (n % 1440 / 60)] = _
      congr 2
      omega
    have l2 : hx.length ≤ 2 := by rw [← len_toList, ehx]; exact Nat.le_refl _
    refine .inr (.inr ⟨_, _, rfl, rfl, cat2 (len_app l1 (show (Str.ofString ".").length ≤ 1 by decide +kernel)) l2 (by decide), .inr (.inr ⟨_, _, rfl, rfl, cat2 (len_app (len_app l1 (show (Str.ofString ".").length ≤ 1 by decide +kernel)) l2) (show (Str.ofString ".").length ≤ 1 by decide +kernel) (by decide), ?_⟩)⟩)
    refine ⟨_, rfl, _, _, rfl, rfl, (by show (0 : Int) < 60; decide), (n % 60).toNat, ?_, by omega, fun mx emx => ?_⟩
    · show [V.int (n % 1440 % 60)] = _
      congr 2
      omega
    have l3 : mx.length ≤ 2 := by rw [← len_toList, emx]; exact Nat.le_refl _
    refine .inr (.inr ⟨_, _, rfl, rfl, cat2 (len_app (len_app (len_app l1 (show (Str.ofString ".").length ≤ 1 by decide +kernel)) l2) (show (Str.ofString ".").length ≤ 1 by decide +kernel)) l3 (by decide), k _ ?_⟩)
    rw [app_toList, app_toList, app_toList, app_toList, ehx, emx, dot_sign]
    show intL (n / 1440) ++ [46] ++ twoL (n % 1440 / 60).toNat ++ [46] ++ twoL (n % 60).toNat = clL n
    unfold clL
    simp
theorem ok_Lshift {a : Ad} (T : Txt K mg a) : FnOk P w K mg base CX0 2 a.f_Lshift a.fd_Lshift ["_law_shift_here"] sp_Lshift := by
  have G_Ltwo : FnOk P w K mg base CX0 1 a.f_Ltwo a.fd_Ltwo ["_law_number"] sp_Ltwo := ok_Ltwo T
  refine T.d_Lshift.F.ok sc_Lshift (fun vs H Q E h => ?_) (fun cdv A outer s H vs Q E hr h => ?_)
  · obtain ⟨n, rfl, hn, k⟩ := h
    rfl
  · obtain ⟨n, rfl, hn, k⟩ := h
    have hu := hu_of hr
    have hU := hr.units
    have h_Ltwo : Room (1) _ := hr.mono (by decide)
    refine ⟨_, (pss_cons (ps_set (i := 1) sc_Lshift.nd rfl (Or.inl rfl) pe_str)
      (pss_cons (ps_if (pt_cmpR op_lt (pv 0) pe_int (nomark _))
        (pss_one (ps_set (i := 1) sc_Lshift.nd rfl (Or.inl rfl) pe_str))
        pss_nil)
      (pss_one (ps_ret (pe_op uAdd (pe_op uAdd (pe_op uAdd (pv 1) (pe_callTy call_str_int (by rfl) T.n_str boot_str' (pa_cons (pe_op op_fdiv (pe_callB call_abs (by rfl) T.n_abs boot_abs' (pa_cons (pv 0) pa_nil)) pe_int) pa_nil))) pe_str) (pe_call G_Ltwo h_Ltwo rfl T.d_Ltwo.m T.d_Ltwo.k T.d_Ltwo.b .nil pass0 (pa_cons (pe_op op_mod (pe_callB call_abs (by rfl) T.n_abs boot_abs' (pa_cons (pv 0) pa_nil)) pe_int) pa_nil))))))), ?_⟩
    try dsimp only [cxOf, Cx.nox]
    have ea : (if n < 0 then -n else n) = (n.natAbs : Int) := by split <;> omega
    have e2 : ((n.natAbs : Int) / 60) = ((n.natAbs / 60 : Nat) : Int) := by omega
    have e3 : ((n.natAbs : Int) % 60) = ((n.natAbs % 60 : Nat) : Int) := by omega
    try unfold tNext
    try dsimp only
    refine seq_split (t := tAsg _ _) (fun σ' H' => σ' = [some (.int n), some (.str (Str.ofString "+"))] ∧ H' = H) (fun N hN => hN _ _ ⟨rfl, rfl⟩) ?_
    rintro σ' Ha ⟨rfl, rfl⟩
    refine seq_split (t := tIfS _ _ _) (fun σ' H' => ∃ sg : Str, σ' = [some (.int n), some (.str sg)] ∧ H' = Ha ∧ sg.cps.toList = [if n < 0 then 45 else 43]) (fun N hN => ?_) ?_
    · refine ⟨_, rfl, _, _, rfl, rfl, _, rfl, ?_⟩
      refine iteD (fun h => ?_) (fun h => ?_)
      · exact hN _ _ ⟨_, rfl, rfl, by rw [if_pos h]; decide +kernel⟩
      · exact hN _ _ ⟨_, rfl, rfl, by rw [if_neg h]; decide +kernel⟩
    rintro σ' H' ⟨sg, rfl, rfl, es⟩
    have l_sg : sg.length ≤ 1 := by rw [← len_toList, es]; exact Nat.le_refl _
    have l_hr : (Str.ofString (toString ((n.natAbs / 60 : Nat) : Int))).length ≤ 31 := Sm.len ⟨by omega, by omega⟩
    have ehr : (Str.ofString (toString ((n.natAbs / 60 : Nat) : Int))).cps.toList = intL ((n.natAbs / 60 : Nat) : Int) := rfl
    refine ⟨_, rfl, _, rfl, _, rfl, _, _, rfl, rfl, ⟨by decide, by decide⟩, _, rfl, ?_, ?_⟩
    · rw [ea, e2]
      exact Sm.log ⟨by omega, by omega⟩
    rw [ea, e2]
    generalize Str.ofString (toString ((n.natAbs / 60 : Nat) : Int)) = hr at l_hr ehr ⊢
    refine .inr (.inr ⟨_, _, rfl, rfl, cat2 l_sg l_hr (by decide), .inr (.inr ⟨_, _, rfl, rfl, cat2 (len_app l_sg l_hr) (show (Str.ofString ".").length ≤ 1 by decide +kernel) (by decide), ?_⟩)⟩)
    refine ⟨_, rfl, _, rfl, _, _, rfl, rfl, (by show (0 : Int) < 60; decide), n.natAbs % 60, ?_, by omega, fun mn emn => ?_⟩
    · rw [ea]
      show [V.int ((n.natAbs : Int) % 60)] = _
      rw [e3]
    have l_mn : mn.length ≤ 2 := by rw [← len_toList, emn]; exact Nat.le_refl _
    refine .inr (.inr ⟨_, _, rfl, rfl, cat2 (len_app (len_app l_sg l_hr) (show (Str.ofString ".").length ≤ 1 by decide +kernel)) l_mn (by decide), k _ ?_⟩)
    rw [app_toList, app_toList, app_toList, es, ehr, emn, dot_sign]
    unfold shL
    simp
noncomputable def PvR (c : Int) (p q : Addr) (sz : List Int) (H : Hp) (i : Nat) (σ : L2.St) (H2 : Hp) : Prop := ∃ (lf nu : Int) (s5 s6 : Option V) (fs : List Int), σ = [some (.int c), some (.ref p), some (.ref q), some (.int lf), some (.int nu), s5, s6] ∧ Same H H2 ∧ H2 q = some (.lst (fs.map V.int)) ∧ fs.length = i ∧ (∀ (k : Nat) (f s : Int), fs[k]? = some f → sz[k]? = some s → 0 ≤ f ∧ f < s) ∧ 0 ≤ nu ∧ nu < 2147483647
theorem row_snoc {fs sz : List Int} {i : Nat} {f s : Int} (hl : fs.length = i) (hs : sz[i]? = some s) (h : ∀ (k : Nat) (f s : Int), fs[k]? = some f → sz[k]? = some s → 0 ≤ f ∧ f < s) (h1 : 0 ≤ f ∧ f < s) : ∀ (k : Nat) (g s : Int), (fs ++ [f])[k]? = some g → sz[k]? = some s → 0 ≤ g ∧ g < s := by
  intro k g s' hg hs'
  by_cases hk : k < fs.length
  · rw [List.getElem?_append_left hk] at hg
    exact h k g s' hg hs'
  · rw [List.getElem?_append_right (by omega)] at hg
    have hk2 : k = i := by
      by_cases hz : k - fs.length = 0
      · omega
      · rw [List.getElem?_eq_none (by simp; omega)] at hg
        cases hg
    subst hk2
    rw [hs] at hs'
    injection hs' with hs'
    subst hs'
    rw [hl, Nat.sub_self] at hg
    have : f = g := by simpa using hg
    subst this
    exact h1
theorem ok_Lrow {a : Ad} (T : Txt K mg a) : FnOk P w K mg base CX0 1 a.f_Lrow a.fd_Lrow ["_law_cell_here", "_law_sizes"] sp_Lrow := by
  refine T.d_Lrow.F.ok sc_Lrow (fun vs H Q E h => ?_) (fun cdv A outer s H vs Q E hr h => ?_)
  · obtain ⟨c, p, sz, rfl, hp, hs, hl, k⟩ := h
    rfl
  · obtain ⟨c, p, sz, rfl, hp, hs, hl, k⟩ := h
    have hu := hu_of hr
    have hU := hr.units
    refine ⟨_, (pss_cons (ps_set (i := 2) sc_Lrow.nd rfl (Or.inl rfl) (pe_lst pa_nil))
      (pss_cons (ps_set (i := 3) sc_Lrow.nd rfl (Or.inl rfl) (pe_op op_sub (pv 0) (pe_op op_pow pe_int pe_int)))
      (pss_cons (ps_set (i := 4) sc_Lrow.nd rfl (Or.inl rfl) (pe_op op_mod (pv 0) pe_int))
      (pss_cons (ps_for PassesOwn.never rfl (pi_range1 rfl T.n_range (pa_cons (pe_callB call_len (by rfl) T.n_len boot_len' (pa_cons (pv 1) pa_nil)) pa_nil)) (pg_name (i := 5) (sc_Lrow.nd) rfl (Or.inl rfl))
        (pss_one (ps_if (pt_cmpR op_ge (pv 3) pe_int (nomark _))
          (pss_cons (ps_expr (pe_bm PySem.F.plainAttrs_list PySem.F.slot_list_append PySem.F.type_list_append mt_append (pv 2) (pa_cons (pe_op op_mod (pv 3) (pe_ix (r := rIx K) ix_seq (pv 1) (pv 5) (fun _ _ => rfl))) pa_nil)))
          (pss_one (ps_set (i := 3) sc_Lrow.nd rfl (Or.inl rfl) (pe_op op_fdiv (pv 3) (pe_ix (r := rIx K) ix_seq (pv 1) (pv 5) (fun _ _ => rfl))))))
          (pss_cons (ps_set (i := 4) sc_Lrow.nd rfl (Or.inl rfl) (pe_op op_mod (pe_op uAdd (pe_op uAdd (pe_op op_mul (pv 4) pe_int) (pe_op op_mul pe_int (pv 5))) pe_int) pe_int))
          (pss_cons (ps_set (i := 6) sc_Lrow.nd rfl (Or.inl rfl) (pe_op op_mod (pe_op uAdd (pe_op uAdd (pe_op op_mul (pv 4) (pv 4)) (pe_op op_mul pe_int (pv 5))) pe_int) pe_int))
          (pss_one (ps_expr (pe_bm PySem.F.plainAttrs_list PySem.F.slot_list_append PySem.F.type_list_append mt_append (pv 2) (pa_cons (pe_op op_mod (pv 6) (pe_ix (r := rIx K) ix_seq (pv 1) (pv 5) (fun _ _ => rfl))) pa_nil)))))))))
      (pss_one (ps_ret (pv 2))))))), ?_⟩
    try dsimp only [cxOf, Cx.nox]
    refine ⟨Nat.zero_le _, fun q fq => ?_⟩
    have npq : p ≠ q := ne_of_none hp fq
    have S0 : Same H (upd H q (.lst [])) := Same.new _ fq
    have hq : (upd H q (.lst [])) q = some (.lst []) := upd_same
    try dsimp only
    generalize upd H q (.lst []) = G0 at S0 hq ⊢
    refine ⟨_, rfl, _, _, rfl, rfl, ⟨by decide, by decide, by decide⟩, _, _, rfl, rfl, ?_⟩
    refine ⟨_, rfl, _, _, rfl, rfl, (by show (0 : Int) < 2147483647; decide), ?_⟩
    refine ⟨_, rfl, _, _, rfl, .inl ⟨_, SqL.of (S0 _ _ hp), rfl⟩, _, rfl, ?_, ?_, ?_⟩
    · omega
    · rw [List.length_map]; omega
    rw [List.length_map]
    refine for_range (D := { nx := tRet (tVar 2) { nx := fun _ H' => Q .non H', rt := Q }, rt := Q }) (lo := 0) (PvR c p q sz H) ⟨_, _, _, _, [], rfl, S0, hq, rfl, (fun k f s h => by simp at h), by omega, by omega⟩ ?_ ?_
    case refine_2 =>
      rintro σ H2 ⟨lf, nu, s5, s6, fs, rfl, S, hf, hlen, hb, _⟩
      refine ⟨_, rfl, k q fs _ S hf (by omega) hb⟩
    rintro i σ H2 hi ⟨lf, nu, s5, s6, fs, rfl, S, hf, hlen, hb, n0, n1⟩
    have hi : i < sz.length := by omega
    obtain ⟨s, hsi⟩ : ∃ s, sz[i]? = some s := ⟨_, List.getElem?_eq_getElem hi⟩
    have hss := hs s (List.mem_of_getElem? hsi)
    have hat : atI (sz.map V.int) (0 + (i : Int)) = some (.int s) := by
      rw [Int.zero_add]
      exact atI_nat (by rw [List.getElem?_map, hsi]; rfl)
    have hp2 := S _ _ hp
    have hfl : (fs.map V.int).length < sizeLine := small1000 (by rw [List.length_map]; omega)
    try unfold tNext
    try dsimp only
    refine ⟨_, rfl, _, _, rfl, rfl, _, rfl, ?_⟩
    refine iteD (fun h => ?_) (fun h => ?_)
    · refine ⟨_, rfl, .inl ⟨rfl, _, SqL.of hf⟩, _, rfl, _, rfl, _, rfl, .inl ⟨p, _, _, _, rfl, rfl, SqL.of hp2, hat, _, _, rfl, rfl, hss.1, ?_⟩⟩
      refine ⟨q, _, _, rfl, rfl, hf, hfl, ?_⟩
      refine ⟨_, rfl, _, rfl, _, rfl, .inl ⟨p, _, _, _, rfl, rfl, SqL.of (by rw [upd_ne npq]; exact hp2), hat, _, _, rfl, rfl, hss, ?_⟩⟩
      exact ⟨_, nu, _, _, fs ++ [lf % s], rfl, (fun b o z => by rw [upd_ne (ne_of_none z fq)]; exact S b o z), by rw [upd_same, List.map_append]; rfl, by rw [List.length_append, hlen]; rfl, row_snoc hlen hsi hb ⟨Int.emod_nonneg _ (by omega), Int.emod_lt_of_pos _ hss.1⟩, n0, n1⟩
    · refine ⟨_, rfl, _, _, rfl, rfl, .inr ⟨by decide, by decide⟩, _, rfl, _, _, rfl, rfl, .inl ⟨by decide, by decide⟩, .inl ⟨_, _, rfl, rfl, .inl ⟨_, _, rfl, rfl, _, _, rfl, rfl, (by show (0 : Int) < 2147483647; decide), ?_⟩⟩⟩
      have m0 : 0 ≤ (nu * 48271 + 7919 * (0 + (i : Int)) + 12345) % 2147483647 ∧ (nu * 48271 + 7919 * (0 + (i : Int)) + 12345) % 2147483647 < 2147483647 := by omega
      try dsimp only
      generalize (nu * 48271 + 7919 * (0 + (i : Int)) + 12345) % 2147483647 = nn at m0 ⊢
      refine ⟨_, rfl, _, rfl, _, _, rfl, rfl, .inl ⟨by omega, by omega⟩, _, rfl, _, _, rfl, rfl, .inl ⟨by decide, by decide⟩, .inl ⟨_, _, rfl, rfl, .inl ⟨_, _, rfl, rfl, _, _, rfl, rfl, (by show (0 : Int) < 2147483629; decide), ?_⟩⟩⟩
      try dsimp only
      generalize (nn * nn + 69621 * (0 + (i : Int)) + 271) % 2147483629 = ot
      refine ⟨_, rfl, .inl ⟨rfl, _, SqL.of hf⟩, _, rfl, _, rfl, _, rfl, .inl ⟨p, _, _, _, rfl, rfl, SqL.of hp2, hat, _, _, rfl, rfl, hss.1, ?_⟩⟩
      refine ⟨q, _, _, rfl, rfl, hf, hfl, ?_⟩
      exact ⟨lf, nn, _, _, fs ++ [ot % s], rfl, (fun b o z => by rw [upd_ne (ne_of_none z fq)]; exact S b o z), by rw [upd_same, List.map_append]; rfl, by rw [List.length_append, hlen]; rfl, row_snoc hlen hsi hb ⟨Int.emod_nonneg _ (by omega), Int.emod_lt_of_pos _ hss.1⟩, m0.1, m0.2⟩
end
end K18
set_option Elab.async false
set_option linter.all false
set_option maxRecDepth 100000
namespace K18
open PySem L2 PySem.NumText PyProof.Rows KC M18
section
variable {P : Program} {w : World} {K : PySem.W.Frag} {mg : Str → Option Value} {base : Heap}
theorem ok_is_number {a : Ad} (T : Txt K mg a) : FnOk P w K mg base CX0 1 a.f_is_number a.fd_is_number ["thing"] sp_is_number := by
  refine T.d_is_number.F.ok sc_is_number (fun vs H Q E h => ?_) (fun cdv A outer s H vs Q E hr h => ?_)
  · obtain ⟨i, rfl, kk⟩ := h
    rfl
  · obtain ⟨i, rfl, kk⟩ := h
    have hu := hu_of hr
    have hU := hr.units
    refine ⟨_, (pss_one (ps_ret (pe_and (pe_callB call_isi (by rfl) T.n_isinstance boot_isinstance' (pa_cons (pv 0) (pa_cons (pe_bltn (v := .ty "int") rfl T.n_int boot_int' rfl) pa_nil))) (pe_one (pe_not (pe_callB call_isi (by rfl) T.n_isinstance boot_isinstance' (pa_cons (pv 0) (pa_cons (pe_bltn (v := .ty "bool") rfl T.n_bool boot_bool' rfl) pa_nil)))))))), ?_⟩
    try dsimp only [cxOf, Cx.nox]
    refine ⟨_, rfl, _, _, _, rfl, (by decide), rfl, true, rfl, iteT ?_⟩
    exact ⟨_, rfl, _, _, _, rfl, (by decide), rfl, false, rfl, kk⟩
theorem ok_is_whole {a : Ad} (T : Txt K mg a) : FnOk P w K mg base CX0 2 a.f_is_whole a.fd_is_whole ["thing", "low", "high"] sp_is_whole := by
  have G_is_number : FnOk P w K mg base CX0 1 a.f_is_number a.fd_is_number ["thing"] sp_is_number := ok_is_number T
  refine T.d_is_whole.F.ok sc_is_whole (fun vs H Q E h => ?_) (fun cdv A outer s H vs Q E hr h => ?_)
  · obtain ⟨i, lo, hi, rfl, h1, h2, kk⟩ := h
    rfl
  · obtain ⟨i, lo, hi, rfl, h1, h2, kk⟩ := h
    have hu := hu_of hr
    have hU := hr.units
    have h_is_number : Room (1) _ := hr.mono (by decide)
    refine ⟨_, (pss_one (ps_ret (pe_and (pe_call G_is_number h_is_number rfl T.d_is_number.m T.d_is_number.k T.d_is_number.b .nil pass0 (pa_cons (pv 0) pa_nil)) (pe_one (pe_chain op_le op_le (pv 1) (pv 0) (pv 2)))))), ?_⟩
    try dsimp only [cxOf, Cx.nox]
    refine ⟨_, rfl, i, rfl, true, rfl, iteT ?_⟩
    refine ⟨_, rfl, _, rfl, _, _, rfl, rfl, _, rfl, iteD (fun _ => ?_) (fun g => absurd h1 g)⟩
    refine ⟨_, rfl, _, _, rfl, rfl, ?_⟩
    show Q (.bl (decide (i ≤ hi))) H
    rw [decide_eq_true h2]
    exact kk
theorem ok_is_moment {a : Ad} (T : Txt K mg a) : FnOk P w K mg base CX0 3 a.f_is_moment a.fd_is_moment ["thing"] sp_is_moment := by
  have G_is_whole : FnOk P w K mg base CX0 2 a.f_is_whole a.fd_is_whole ["thing", "low", "high"] sp_is_whole := ok_is_whole T
  refine T.d_is_moment.F.ok sc_is_moment (fun vs H Q E h => ?_) (fun cdv A outer s H vs Q E hr h => ?_)
  · obtain ⟨i, rfl, h1, h2, kk⟩ := h
    rfl
  · obtain ⟨i, rfl, h1, h2, kk⟩ := h
    have hu := hu_of hr
    have hU := hr.units
    have h_is_whole : Room (2) _ := hr.mono (by decide)
    obtain ⟨t_LAST, c_LAST⟩ := T.g_LAST
    refine ⟨_, (pss_one (ps_ret (pe_call G_is_whole h_is_whole rfl T.d_is_whole.m T.d_is_whole.k T.d_is_whole.b .nil pass0 (pa_cons (pv 0) (pa_cons pe_int (pa_cons (pe_glob (v := .int 1000000000) rfl c_LAST ⟨_, rfl⟩) pa_nil)))))), ?_⟩
    try dsimp only [cxOf, Cx.nox]
    exact ⟨_, rfl, i, 0, 1000000000, rfl, h1, h2, kk⟩
theorem ok_is_row {a : Ad} (T : Txt K mg a) : FnOk P w K mg base CX0 4 a.f_is_row a.fd_is_row ["thing", "widest"] sp_is_row := by
  have G_is_moment : FnOk P w K mg base CX0 3 a.f_is_moment a.fd_is_moment ["thing"] sp_is_moment := ok_is_moment T
  have G_is_whole : FnOk P w K mg base CX0 2 a.f_is_whole a.fd_is_whole ["thing", "low", "high"] sp_is_whole := ok_is_whole T
  refine T.d_is_row.F.ok sc_is_row (fun vs H Q E h => ?_) (fun cdv A outer s H vs Q E hr h => ?_)
  · obtain ⟨t, r, w, rfl, ht, h1, h2, h3, h4, kk⟩ := h
    rfl
  · obtain ⟨t, r, w, rfl, ht, h1, h2, h3, h4, kk⟩ := h
    have hu := hu_of hr
    have hU := hr.units
    have h_is_moment : Room (3) _ := hr.mono (by decide)
    have h_is_whole : Room (2) _ := hr.mono (by decide)
    refine ⟨_, (pss_cons (ps_if (PW.pt (pw_or (pt_not (pt_val (pe_callB call_isi (by rfl) T.n_isinstance boot_isinstance' (pa_cons (pv 0) (pa_cons (pe_bltn (v := .ty "tuple") rfl T.n_tuple boot_tuple' rfl) pa_nil))))) (pw_or1 (pt_cmpR (uNe hU) (pe_callB call_len (by rfl) T.n_len boot_len' (pa_cons (pv 0) pa_nil)) pe_int (nomark _)))))
        (pss_one (ps_ret pe_bl))
        pss_nil)
      (pss_one (ps_ret (pe_and (pe_call G_is_moment h_is_moment rfl T.d_is_moment.m T.d_is_moment.k T.d_is_moment.b .nil pass0 (pa_cons (pe_ix (r := rIx K) ix_seq (pv 0) pe_int (fun _ _ => rfl)) pa_nil)) (pe_one (pe_call G_is_whole h_is_whole rfl T.d_is_whole.m T.d_is_whole.k T.d_is_whole.b .nil pass0 (pa_cons (pe_ix (r := rIx K) ix_seq (pv 0) pe_int (fun _ _ => rfl)) (pa_cons (pe_un un_neg (pv 1)) (pa_cons (pv 1) pa_nil))))))))), ?_⟩
    try dsimp only [cxOf, Cx.nox]
    have ty : tyN H (.ref t) = some "tuple" := by simp only [tyN]; rw [ht]
    refine ⟨_, rfl, _, _, _, rfl, (by decide), ty, true, rfl, iteFF rfl ?_⟩
    refine ⟨_, rfl, _, _, rfl, .inr ⟨_, SqT.of ht, rfl⟩, .inl ⟨rfl, _, rfl, iteND (fun g => absurd rfl g) (fun _ => ?_)⟩⟩
    refine ⟨_, rfl, .inr (.inl ⟨t, _, _, _, rfl, rfl, SqT.of ht, rfl, r.1, rfl, h1, h2, true, rfl, iteT ?_⟩)⟩
    exact ⟨_, rfl, .inr (.inl ⟨t, _, _, _, rfl, rfl, SqT.of ht, rfl, _, rfl, _, rfl, _, rfl, r.2, -w, w, rfl, h3, h4, kk⟩)⟩
theorem ok_LogError_init {a : Ad} (T : Txt K mg a) : FnOk P w K mg base CX0 1 a.f_LogError_init a.fd_LogError_init ["self", "text"] (sp_LogError_init K) := by
  refine T.d_LogError_init.F.ok sc_LogError_init (fun vs H Q E h => ?_) (fun cdv A outer s H vs Q E hr h => ?_)
  · obtain ⟨ea, x, C, dx, tb, rfl, he, xi, kk⟩ := h
    rfl
  · obtain ⟨ea, x, C, dx, tb, rfl, he, xi, kk⟩ := h
    have hu := hu_of hr
    have hU := hr.units
    refine ⟨_, (pss_one (ps_expr (pe_vinit rfl T.n_ValueError boot_ValueError' (pa_cons (pv 0) (pa_cons (pv 1) pa_nil))))), ?_⟩
    try dsimp only [cxOf, Cx.nox]
    exact ⟨_, rfl, _, rfl, ea, C, dx, tb, _, rfl, Nat.le_of_ble_eq_true rfl, he, xi, kk⟩
theorem ok_NoText_init {a : Ad} (T : Txt K mg a) : FnOk P w K mg base CX0 3 a.f_NoText_init a.fd_NoText_init ["self", "at"] (sp_NoText_init a) := by
  have G_LogError_init : FnOk P w K mg base CX0 1 a.f_LogError_init a.fd_LogError_init ["self", "text"] (sp_LogError_init K) := ok_LogError_init T
  refine T.d_NoText_init.F.ok sc_NoText_init (fun vs H Q E h => ?_) (fun cdv A outer s H vs Q E hr h => ?_)
  · obtain ⟨ea, v, rfl, he, kk⟩ := h
    rfl
  · obtain ⟨ea, v, rfl, he, kk⟩ := h
    have hu := hu_of hr
    have hU := hr.units
    have h_LogError_init : Room (1 + 1) _ := hr.mono (by decide)
    refine ⟨_, (pss_cons (ps_expr (pe_cinit T.ci_LogError G_LogError_init (h_LogError_init.mono (by decide)) T.d_LogError_init.b rfl T.g_LogError (pa_cons (pv 0) (pa_cons pe_str pa_nil))))
      (pss_one (ps_xfld (pv 0) (pv 1) rfl))), ?_⟩
    try dsimp only [cxOf, Cx.nox]
    refine ⟨_, rfl, ea, _, _, _, _, rfl, he, T.X_NoText.c.xi, ?_⟩
    exact ⟨_, rfl, _, rfl, ea, _, _, rfl, he, T.X_NoText.c, T.n_NoText_at, kk⟩
theorem ok_NoTable_init {a : Ad} (T : Txt K mg a) : FnOk P w K mg base CX0 3 a.f_NoTable_init a.fd_NoTable_init ["self", "row"] (sp_NoTable_init a) := by
  have G_LogError_init : FnOk P w K mg base CX0 1 a.f_LogError_init a.fd_LogError_init ["self", "text"] (sp_LogError_init K) := ok_LogError_init T
  refine T.d_NoTable_init.F.ok sc_NoTable_init (fun vs H Q E h => ?_) (fun cdv A outer s H vs Q E hr h => ?_)
  · obtain ⟨ea, v, rfl, he, kk⟩ := h
    rfl
  · obtain ⟨ea, v, rfl, he, kk⟩ := h
    have hu := hu_of hr
    have hU := hr.units
    have h_LogError_init : Room (1 + 1) _ := hr.mono (by decide)
    refine ⟨_, (pss_cons (ps_expr (pe_cinit T.ci_LogError G_LogError_init (h_LogError_init.mono (by decide)) T.d_LogError_init.b rfl T.g_LogError (pa_cons (pv 0) (pa_cons pe_str pa_nil))))
      (pss_one (ps_xfld (pv 0) (pv 1) rfl))), ?_⟩
    try dsimp only [cxOf, Cx.nox]
    refine ⟨_, rfl, ea, _, _, _, _, rfl, he, T.X_NoTable.c.xi, ?_⟩
    exact ⟨_, rfl, _, rfl, ea, _, _, rfl, he, T.X_NoTable.c, T.n_NoTable_row, kk⟩
theorem ok_may_stand {a : Ad} (T : Txt K mg a) : FnOk P w K mg base CX0 1 a.f_may_stand a.fd_may_stand ["rows", "place"] sp_may_stand := by
  refine T.d_may_stand.F.ok sc_may_stand (fun vs H Q E h => ?_) (fun cdv A outer s H vs Q E hr h => ?_)
  · obtain ⟨q, i, rows, r, rfl, ⟨zs, hq, tp⟩, hr', kk⟩ := h
    rfl
  · obtain ⟨q, i, rows, r, rfl, ⟨zs, hq, tp⟩, hr', kk⟩ := h
    have hu := hu_of hr
    have hU := hr.units
    refine ⟨_, (pss_cons (ps_if (pt_cmpR (uEq hU) (pv 1) pe_int (nomark _))
        (pss_one (ps_ret (pe_cmpR (uEq hU) (pe_ix (r := rIx K) ix_seq (pe_ix (r := rIx K) ix_seq (pv 0) pe_int (fun _ _ => rfl)) pe_int (fun _ _ => rfl)) pe_int (nomark _))))
        pss_nil)
      (pss_one (ps_ret (pe_cmpR op_gt (pe_ix (r := rIx K) ix_seq (pe_ix (r := rIx K) ix_seq (pv 0) (pv 1) (fun _ _ => rfl)) pe_int (fun _ _ => rfl)) (pe_ix (r := rIx K) ix_seq (pe_ix (r := rIx K) ix_seq (pv 0) (pe_op op_sub (pv 1) pe_int) (fun _ _ => rfl)) pe_int (fun _ _ => rfl)) (nomark _))))), ?_⟩
    try dsimp only [cxOf, Cx.nox]
    refine ⟨_, rfl, .inl ⟨rfl, _, rfl, ?_⟩⟩
    obtain ⟨t, hz, ht⟩ := tp.at_ hr'
    refine iteD (fun g => ?_) (fun g => ?_)
    · have g0 : i = 0 := by injection g with g; omega
      subst g0
      refine ⟨_, rfl, .inl ⟨q, _, _, _, rfl, rfl, SqL.of hq, atI_nat hz, .inr (.inl ⟨t, _, _, _, rfl, rfl, SqT.of ht, rfl, .inl ⟨rfl, ?_⟩⟩)⟩⟩
      have e : stand (pv_ rows 0) r.1 = decide (V.int r.1 = V.int 0) := decide_eq_decide.mpr ⟨fun e => by rw [e], fun e => by injection e⟩
      rw [e] at kk
      exact kk
    · have g1 : 0 < i := by
        rcases Nat.eq_zero_or_pos i with e | e
        · exact absurd (by rw [e]; rfl) g
        · exact e
      have hi : i < rows.length := (List.getElem?_eq_some_iff.mp hr').1
      obtain ⟨r0, hr0⟩ : ∃ r, rows[i - 1]? = some r := ⟨_, List.getElem?_eq_getElem (by omega)⟩
      obtain ⟨t0, hz0, ht0⟩ := tp.at_ hr0
      have e : stand (pv_ rows i) r.1 = decide (r0.1 < r.1) := by
        unfold pv_
        rw [if_neg (by omega), hr0]; rfl
      rw [e] at kk
      exact ⟨_, rfl, _, rfl, .inl ⟨q, _, _, _, rfl, rfl, SqL.of hq, atI_nat hz, .inr (.inl ⟨t, _, _, _, rfl, rfl, SqT.of ht, rfl, _, rfl, _, rfl, _, _, rfl, rfl, .inl ⟨q, _, _, _, rfl, rfl, SqL.of hq, (by show atI zs ((i : Int) - 1) = some (.ref t0); rw [show (i : Int) - 1 = ((i - 1 : Nat) : Int) by omega]; exact atI_nat hz0), .inr (.inl ⟨t0, _, _, _, rfl, rfl, SqT.of ht0, rfl, _, _, rfl, rfl, kk⟩)⟩⟩)⟩⟩
theorem ok_check_rows {a : Ad} (T : Txt K mg a) : FnOk P w K mg base (CX1 P w) 5 a.f_check_rows a.fd_check_rows ["rows", "most", "widest"] (sp_check_rows a) := by
  have G_NoTable_init : FnOk P w K mg base CX0 3 a.f_NoTable_init a.fd_NoTable_init ["self", "row"] (sp_NoTable_init a) := ok_NoTable_init T
  have G_is_row : FnOk P w K mg base CX0 4 a.f_is_row a.fd_is_row ["thing", "widest"] sp_is_row := ok_is_row T
  have G_may_stand : FnOk P w K mg base CX0 1 a.f_may_stand a.fd_may_stand ["rows", "place"] sp_may_stand := ok_may_stand T
  refine T.d_check_rows.F.okX sc_check_rows (fun vs H Q E h => ?_) (fun cdv A outer s H vs Q E hr h => ?_)
  · obtain ⟨q, rows, k, rfl, hrs, ok, ne, hf, kz⟩ := h
    rfl
  · obtain ⟨q, rows, k, rfl, hrs, ok, ne, hf, kz⟩ := h
    have hu := hu_of hr
    have hU := hr.units
    have h_NoTable_init : Room (3 + 1) _ := hr.mono (by decide)
    have h_is_row : Room (4) _ := hr.mono (by decide)
    have h_may_stand : Room (1) _ := hr.mono (by decide)
    refine ⟨_, (pss_cons (ps_if (PW.pt (pw_or (pt_not (pt_val (pe_callB call_isi (by rfl) T.n_isinstance boot_isinstance' (pa_cons (pv 0) (pa_cons (pe_bltn (v := .ty "list") rfl T.n_list boot_list' rfl) pa_nil))))) (pw_or1 (pt_cmpR (uEq hU) (pe_callB call_len (by rfl) T.n_len boot_len' (pa_cons (pv 0) pa_nil)) pe_int (nomark _)))))
        (pss_one (ps_raise throws_cx rfl (pe_xmake T.X_NoTable G_NoTable_init h_NoTable_init rfl T.g_NoTable T.d_NoTable_init.b (pa_cons pe_int pa_nil))))
        pss_nil)
      (pss_cons (ps_if (pt_cmpR op_gt (pe_callB call_len (by rfl) T.n_len boot_len' (pa_cons (pv 0) pa_nil)) (pv 1) (nomark _))
        (pss_one (ps_raise throws_cx rfl (pe_xmake T.X_NoTable G_NoTable_init h_NoTable_init rfl T.g_NoTable T.d_NoTable_init.b (pa_cons (pv 1) pa_nil))))
        pss_nil)
      (pss_one (ps_for PassesOwn.leaving rfl (pi_enum rfl T.n_enumerate (pa_cons (pv 0) pa_nil)) (pg_tup rfl (pgs_cons (pg_name (i := 3) (sc_check_rows.nd) rfl (Or.inl rfl)) (pgs_cons (pg_name (i := 4) (sc_check_rows.nd) rfl (Or.inl rfl)) pgs_nil)))
        (pss_one (ps_if (PW.pt (pw_or (pt_not (pt_val (pe_call G_is_row h_is_row rfl T.d_is_row.m T.d_is_row.k T.d_is_row.b .nil pass0 (pa_cons (pv 4) (pa_cons (pv 2) pa_nil))))) (pw_or1 (pt_not (pt_val (pe_call G_may_stand h_may_stand rfl T.d_may_stand.m T.d_may_stand.k T.d_may_stand.b .nil pass0 (pa_cons (pv 0) (pa_cons (pv 3) pa_nil))))))))
          (pss_one (ps_raise throws_cx rfl (pe_xmake T.X_NoTable G_NoTable_init h_NoTable_init rfl T.g_NoTable T.d_NoTable_init.b (pa_cons (pv 3) pa_nil))))
          pss_nil)))))), ?_⟩
    try dsimp only [cxOf, Cx.nox]
    obtain ⟨zs, hq, tp⟩ := id hrs
    have hl : zs.length = rows.length := tp.1
    have pos : 0 < rows.length := List.length_pos_iff.mpr ne
    have ty : tyN H (.ref q) = some "list" := by simp only [tyN]; rw [hq]
    refine ⟨_, rfl, _, _, _, rfl, (by decide), ty, true, rfl, iteFF rfl ?_⟩
    refine ⟨_, rfl, _, _, rfl, .inl ⟨_, SqL.of hq, rfl⟩, .inl ⟨rfl, _, rfl, iteD (fun g => ?_) (fun _ => ?_)⟩⟩
    · injection g with g; omega
    refine ⟨_, rfl, _, _, rfl, .inl ⟨_, SqL.of hq, rfl⟩, _, rfl, _, _, rfl, rfl, _, rfl, iteD (fun g => ?_) (fun g => ?_)⟩
    · have g' : 21 < rows.length := by have : (zs.length : Int) > 21 := g; omega
      unfold flt at hf
      rw [if_pos g'] at hf
      cases hf
      refine ⟨_, rfl, Nat.le_of_ble_eq_true rfl, fun ea fea => ⟨ea, _, rfl, upd_same, fun dx' fdx ne => ?_⟩⟩
      rw [upd_ne ne] at fdx
      exact ⟨rfl, ea, _, _, rfl, T.X_NoTable.c.xi, (upd_ne (Ne.symm ne)).trans upd_same, Rz.sure (kz) fea fdx ne⟩
    have g' : ¬ 21 < rows.length := by have : ¬ (zs.length : Int) > 21 := g; omega
    unfold flt at hf
    rw [if_neg g'] at hf
    refine ⟨_, rfl, q, rfl, ⟨zs, SqL.of hq⟩, for_enum (K := K) (a := q) (xs := zs) (fun i σ H2 => ∃ s3 s4 : Option V, σ = [some (.ref q), some (.int 21), some (.int 2880), s3, s4] ∧ Same H H2 ∧ fb (pv_ rows i) i (rows.drop i) = some k) ⟨none, none, rfl, Same.refl H, hf⟩ (fun i σ H2 _ ⟨_, _, _, S, _⟩ => SqL.of (S _ _ hq)) ?_ ?_⟩
    · rintro i x σ H2 p hx ⟨s3, s4, rfl, S, hb⟩ hn
      have S2 : Same H (upd H2 p (.tup [.int i, x])) := S.then _ hn
      obtain ⟨r, t, hr', rfl, ht⟩ := tp.of hx
      have hi : i < rows.length := (List.getElem?_eq_some_iff.mp hr').1
      have okr := ok r (List.mem_of_getElem? hr')
      have ht2 := S2 _ _ ht
      have ed : rows.drop i = r :: rows.drop (i + 1) := by
        rw [List.drop_eq_getElem_cons hi]
        congr 1
        exact Option.some.inj ((List.getElem?_eq_getElem hi).symm.trans hr')
      rw [ed] at hb
      refine ⟨p, _, rfl, SqT.of upd_same, rfl, _, _, rfl, _, _, rfl, rfl, ?_⟩
      refine ⟨_, rfl, _, rfl, t, r, 2880, rfl, ht2, okr.1, okr.2.1, okr.2.2.1, okr.2.2.2, true, rfl, iteFF rfl ?_⟩
      refine ⟨_, rfl, _, rfl, q, i, rows, r, rfl, hrs.same S2, hr', ?_⟩
      cases hs : stand (pv_ rows i) r.1 with
      | true =>
        refine ⟨true, rfl, iteFF rfl ⟨_, _, rfl, S2, ?_⟩⟩
        have e : pv_ rows (i + 1) = some r.1 := by
          unfold pv_
          rw [if_neg (Nat.succ_ne_zero i), Nat.add_sub_cancel, hr']; rfl
        rw [e]
        simpa only [fb, hs, if_true] using hb
      | false =>
        have ek : i = k := by
          simp only [fb, hs] at hb
          exact Option.some.inj hb
        subst ek
        have kz2 := kz.same S2
        refine ⟨false, rfl, iteTT rfl ?_⟩
        refine ⟨_, rfl, Nat.le_of_ble_eq_true rfl, fun ea fea => ⟨ea, _, rfl, upd_same, fun dx' fdx ne => ?_⟩⟩
        rw [upd_ne ne] at fdx
        exact ⟨rfl, ea, _, _, rfl, T.X_NoTable.c.xi, (upd_ne (Ne.symm ne)).trans upd_same, Rz.sure (kz2) fea fdx ne⟩
    · rintro σ H2 ⟨s3, s4, rfl, S, hb⟩
      rw [hl, List.drop_length] at hb
      cases hb
end
end K18
set_option Elab.async false
set_option linter.all false
set_option maxRecDepth 100000
namespace K18
open PySem L2 PySem.NumText PyProof.Rows KC M18
section
variable {P : Program} {w : World} {K : PySem.W.Frag} {mg : Str → Option Value} {base : Heap}
theorem ok_Table_init {a : Ad} (T : Txt K mg a) : FnOk P w K mg base (CX1 P w) 6 a.f_Table_init a.fd_Table_init ["self", "rows"] (sp_Table_init a) := by
  have G_check_rows : FnOk P w K mg base (CX1 P w) 5 a.f_check_rows a.fd_check_rows ["rows", "most", "widest"] (sp_check_rows a) := ok_check_rows T
  refine T.d_Table_init.F.okX sc_Table_init (fun vs H Q E h => ?_) (fun cdv A outer s H vs Q E hr h => ?_)
  · obtain ⟨x, dx, q, rows, k, rfl, hx, hrs, ok, ne, hf, kz⟩ := h
    rfl
  · obtain ⟨x, dx, q, rows, k, rfl, hx, hrs, ok, ne, hf, kz⟩ := h
    have hu := hu_of hr
    have hU := hr.units
    have h_check_rows : Room (5) _ := hr.mono (by decide)
    obtain ⟨t_WIDEST_SHIFT, c_WIDEST_SHIFT⟩ := T.g_WIDEST_SHIFT
    obtain ⟨t_MOST_ROWS, c_MOST_ROWS⟩ := T.g_MOST_ROWS
    refine ⟨_, (pss_cons (ps_expr (pe_call G_check_rows h_check_rows rfl T.d_check_rows.m T.d_check_rows.k T.d_check_rows.b .nil throws_cx.passes (pa_cons (pv 1) (pa_cons (pe_glob (v := .int 21) rfl c_MOST_ROWS ⟨_, rfl⟩) (pa_cons (pe_glob (v := .int 2880) rfl c_WIDEST_SHIFT ⟨_, rfl⟩) pa_nil)))))
      (pss_one (ps_fld (pv 0) (pe_callTy (r := rLof K) call_list_of (by rfl) T.n_list boot_list' (pa_cons (pv 1) pa_nil)) rfl))), ?_⟩
    try dsimp only [cxOf, Cx.nox]
    exact ⟨_, rfl, q, rows, k, rfl, hrs, ok, ne, hf, kz⟩
end
theorem blank : Str.ofString " " = ⟨#[32]⟩ := by decide +kernel
theorem one_le_sum : ∀ {l : List Nat} {a : Nat}, a ∈ l → a ≤ l.sum
  | x :: l, a, h => by
    rw [List.sum_cons]
    rcases List.mem_cons.mp h with h | h
    · omega
    · have := one_le_sum h; omega
theorem join_ge (s : Str) : ∀ ys : List Str, (ys.map (·.length)).sum ≤ (Str.join s ys).length
  | [] => Nat.zero_le _
  | [y] => by show y.length + 0 ≤ y.length; omega
  | y :: z :: r => by
    have ih := join_ge s (z :: r)
    have e : (Str.join s (y :: z :: r)).length = y.length + s.length + (Str.join s (z :: r)).length := by
      show (y ++ s ++ Str.join s (z :: r)).length = _
      rw [Str.length_append, Str.length_append]
    rw [e, List.map_cons, List.sum_cons]
    omega
theorem part_short {x s y : Str} (h : y ∈ Txt.split x s) : y.length ≤ x.length := by
  have hw : (y.length : Nat) ≤ ((Txt.split x s).map (·.length)).sum := one_le_sum (List.mem_map.mpr ⟨y, h, rfl⟩)
  exact Nat.le_trans hw (by
    have := StrLaws.join_split x s
    have hj : ((Txt.split x s).map (·.length)).sum ≤ (Str.join s (Txt.split x s)).length := join_ge s _
    rw [this] at hj; exact hj)
theorem tabV_no {H : Hp} {v : V} {t : String} (h : tyN H v = some t) (e : isaT "str" t = false) : tabV v = .inl 0 := by
  cases v with
  | str b => cases h; cases e
  | _ => rfl
theorem shiftT_int {l : List Nat} : (∃ n, shiftT l = .int n) ∨ shiftT l = .non := by
  unfold shiftT
  split
  · exact .inr rfl
  · split
    · exact .inl ⟨_, rfl⟩
    · split
      · exact .inl ⟨_, rfl⟩
      · exact .inr rfl
theorem clockT_int {l : List Nat} {lo hi : Int} : (∃ n, clockT l lo hi = .int n) ∨ clockT l lo hi = .non := by
  unfold clockT
  split
  · unfold clk3
    split
    · exact .inl ⟨_, rfl⟩
    · exact .inr rfl
  · exact .inr rfl
section
variable {P : Program} {w : World} {K : PySem.W.Frag} {mg : Str → Option Value} {base : Heap}
theorem ok_row_in {a : Ad} (T : Txt K mg a) : FnOk P w K mg base CX0 6 a.f_row_in a.fd_row_in ["text"] sp_row_in := by
  have G_clock_in : FnOk P w K mg base CX0 4 a.f_clock_in a.fd_clock_in ["text", "low", "high"] sp_clock_in := ok_clock_in T
  have G_shift_in : FnOk P w K mg base CX0 5 a.f_shift_in a.fd_shift_in ["text"] sp_shift_in := ok_shift_in T
  refine T.d_row_in.F.ok sc_row_in (fun vs H Q E h => ?_) (fun cdv A outer s H vs Q E hr h => ?_)
  · obtain ⟨x, rfl, hl, kk⟩ := h
    rfl
  · obtain ⟨x, rfl, hl, kk⟩ := h
    have hu := hu_of hr
    have hU := hr.units
    have h_clock_in : Room (4) _ := hr.mono (by decide)
    have h_shift_in : Room (5) _ := hr.mono (by decide)
    obtain ⟨t_LAST, c_LAST⟩ := T.g_LAST
    refine ⟨_, (pss_cons (ps_set (i := 1) sc_row_in.nd rfl (Or.inl rfl) (pe_bm PySem.F.plainAttrs_str PySem.F.slot_str_split PySem.F.type_str_split mt_split (pv 0) (pa_cons pe_str pa_nil)))
      (pss_cons (ps_if (pt_cmpR (uNe hU) (pe_callB call_len (by rfl) T.n_len boot_len' (pa_cons (pv 1) pa_nil)) pe_int (nomark _))
        (pss_one (ps_ret pe_non))
        pss_nil)
      (pss_cons (ps_set (i := 2) sc_row_in.nd rfl (Or.inl rfl) (pe_call G_clock_in h_clock_in rfl T.d_clock_in.m T.d_clock_in.k T.d_clock_in.b .nil pass0 (pa_cons (pe_ix (r := rIx K) ix_seq (pv 1) pe_int (fun _ _ => rfl)) (pa_cons pe_int (pa_cons (pe_glob (v := .int 1000000000) rfl c_LAST ⟨_, rfl⟩) pa_nil)))))
      (pss_cons (ps_set (i := 3) sc_row_in.nd rfl (Or.inl rfl) (pe_call G_shift_in h_shift_in rfl T.d_shift_in.m T.d_shift_in.k T.d_shift_in.b .nil pass0 (pa_cons (pe_ix (r := rIx K) ix_seq (pv 1) pe_int (fun _ _ => rfl)) pa_nil)))
      (pss_one (ps_ret (pe_ifExp (PW.pt (pw_or (pt_cmpR op_isN (pv 2) pe_non (nomark _)) (pw_or1 (pt_cmpR op_isN (pv 3) pe_non (nomark _))))) pe_non (pe_tup (pa_cons (pv 2) (pa_cons (pv 3) pa_nil)))))))))), ?_⟩
    try dsimp only [cxOf, Cx.nox]
    refine ⟨_, rfl, rfl, _, _, rfl, rfl, by decide +kernel, small60 (by omega), fun p fp => ?_⟩
    rw [blank]
    have es := split_one x 32
    have ss : ∀ y ∈ Txt.split x ⟨#[32]⟩, y.length ≤ 200 := fun y hy => Nat.le_trans (part_short hy) hl
    generalize Txt.split x ⟨#[32]⟩ = ps at es ss ⊢
    have hp : (upd H p (.lst (ps.map V.str))) p = some (.lst (ps.map V.str)) := upd_same
    have s0 : Same H (upd H p (.lst (ps.map V.str))) := Same.new _ fp
    try unfold tNext
    try dsimp only
    generalize upd H p (.lst (ps.map V.str)) = G0 at hp s0 ⊢
    refine ⟨_, rfl, _, _, rfl, .inl ⟨_, SqL.of hp, rfl⟩, .inl ⟨rfl, _, rfl, iteND (fun g => ?_) (fun g => ?_)⟩⟩
    · have hn : rowT x.cps.toList = none := rowT_len fun e => g (by
        rw [← es, List.length_map] at e
        rw [List.length_map, e]; rfl)
      rw [hn] at kk
      exact kk .non G0 s0 rfl
    have h2 : ps.length = 2 := by
      injection g with g
      rw [List.length_map] at g
      omega
    obtain ⟨y1, y2, rfl⟩ : ∃ y1 y2, ps = [y1, y2] := by
      match ps, h2 with
      | [a, b], _ => exact ⟨a, b, rfl⟩
    have er : rowT x.cps.toList = row2 y1.cps.toList y2.cps.toList := by
      unfold rowT
      rw [← es]; rfl
    rw [er] at kk
    have la := ss y1 (by simp)
    have lb := ss y2 (by simp)
    have hp : G0 p = some (.lst [.str y1, .str y2]) := hp
    refine ⟨_, rfl, .inl ⟨p, _, _, _, rfl, rfl, SqL.of hp, rfl, .str y1, 0, 1000000000, rfl, ⟨⟨_, rfl⟩, fun z e => by cases e; exact la⟩, ⟨by decide, by decide⟩, ⟨by decide, by decide⟩, fun G1 s1 => ?_⟩⟩
    have hp1 := s1 _ _ hp
    refine ⟨_, rfl, .inl ⟨p, _, _, _, rfl, rfl, SqL.of hp1, rfl, .str y2, rfl, ⟨⟨_, rfl⟩, fun z e => by cases e; exact lb⟩, fun G2 s2 => ?_⟩⟩
    have S2 := (s0.trans s1).trans s2
    have ec : clockV (.str y1) 0 1000000000 = clockT y1.cps.toList 0 LA := rfl
    have eh : shiftV (.str y2) = shiftT y2.cps.toList := rfl
    rw [ec, eh]
    unfold row2 at kk
    rcases clockT_int (l := y1.cps.toList) (lo := 0) (hi := LA) with ⟨m, hm⟩ | hm
    · rw [hm] at kk ⊢
      refine ⟨_, rfl, rfl, _, rfl, iteFF (decide_eq_false fun z => nomatch z) ?_⟩
      rcases shiftT_int (l := y2.cps.toList) with ⟨n, hn⟩ | hn
      · rw [hn] at kk ⊢
        refine ⟨_, rfl, rfl, _, rfl, iteFF (decide_eq_false fun z => nomatch z) ⟨_, rfl, _, rfl, small60 (Nat.le_of_ble_eq_true rfl), fun t ft => ?_⟩⟩
        exact kk (.ref t) _ (S2.trans (Same.new _ ft)) ⟨t, rfl, upd_same⟩
      · rw [hn] at kk ⊢
        exact ⟨_, rfl, rfl, _, rfl, iteTT (decide_eq_true rfl) (kk .non G2 S2 rfl)⟩
    · rw [hm] at kk ⊢
      refine ⟨_, rfl, rfl, _, rfl, iteTT (decide_eq_true rfl) (iteT ?_)⟩
      exact kk .non G2 S2 (by cases shiftT y2.cps.toList <;> rfl)
theorem ok_read_table {a : Ad} (T : Txt K mg a) : FnOk P w K mg base (CX1 P w) 8 a.f_read_table a.fd_read_table ["text"] (sp_read_table a) := by
  have G_Table_init : FnOk P w K mg base (CX1 P w) 6 a.f_Table_init a.fd_Table_init ["self", "rows"] (sp_Table_init a) := ok_Table_init T
  have G_NoText_init : FnOk P w K mg base CX0 3 a.f_NoText_init a.fd_NoText_init ["self", "at"] (sp_NoText_init a) := ok_NoText_init T
  have G_row_in : FnOk P w K mg base CX0 6 a.f_row_in a.fd_row_in ["text"] sp_row_in := ok_row_in T
  refine T.d_read_table.F.okX sc_read_table (fun vs H Q E h => ?_) (fun cdv A outer s H vs Q E hr h => ?_)
  · obtain ⟨v, rfl, th, kk⟩ := h
    rfl
  · obtain ⟨v, rfl, th, kk⟩ := h
    have hu := hu_of hr
    have hU := hr.units
    have h_Table_init : Room (6 + 1) _ := hr.mono (by decide)
    have h_NoText_init : Room (3 + 1) _ := hr.mono (by decide)
    have h_row_in : Room (6) _ := hr.mono (by decide)
    refine ⟨_, (pss_cons (ps_if (pt_not (pt_val (pe_callB call_isi (by rfl) T.n_isinstance boot_isinstance' (pa_cons (pv 0) (pa_cons (pe_bltn (v := .ty "str") rfl T.n_str boot_str' rfl) pa_nil)))))
        (pss_one (ps_raise throws_cx rfl (pe_xmake T.X_NoText G_NoText_init h_NoText_init rfl T.g_NoText T.d_NoText_init.b (pa_cons pe_int pa_nil))))
        pss_nil)
      (pss_cons (ps_set (i := 1) sc_read_table.nd rfl (Or.inl rfl) (pe_lst pa_nil))
      (pss_cons (ps_for PassesOwn.leaving rfl (pi_enum rfl T.n_enumerate (pa_cons (pe_bm PySem.F.plainAttrs_str PySem.F.slot_str_split PySem.F.type_str_split mt_split (pv 0) (pa_cons pe_str pa_nil)) pa_nil)) (pg_tup rfl (pgs_cons (pg_name (i := 2) (sc_read_table.nd) rfl (Or.inl rfl)) (pgs_cons (pg_name (i := 3) (sc_read_table.nd) rfl (Or.inl rfl)) pgs_nil)))
        (pss_cons (ps_set (i := 4) sc_read_table.nd rfl (Or.inl rfl) (pe_call G_row_in h_row_in rfl T.d_row_in.m T.d_row_in.k T.d_row_in.b .nil pass0 (pa_cons (pv 3) pa_nil)))
        (pss_cons (ps_if (pt_cmpR op_isN (pv 4) pe_non (nomark _))
          (pss_one (ps_raise throws_cx rfl (pe_xmake T.X_NoText G_NoText_init h_NoText_init rfl T.g_NoText T.d_NoText_init.b (pa_cons (pv 2) pa_nil))))
          pss_nil)
        (pss_one (ps_expr (pe_bm PySem.F.plainAttrs_list PySem.F.slot_list_append PySem.F.type_list_append mt_append (pv 1) (pa_cons (pv 4) pa_nil)))))))
      (pss_one (ps_ret (pe_make T.M_Table G_Table_init h_Table_init rfl T.g_Table T.d_Table_init.b .nil throws_cx.passes (pa_cons (pv 1) pa_nil))))))), ?_⟩
    try dsimp only [cxOf, Cx.nox]
    obtain ⟨t, ty⟩ := th.1
    refine ⟨_, rfl, _, _, _, rfl, (by decide), ty, _, rfl, ?_⟩
    refine iteB (fun h1 => ?_) (fun h1 => ?_)
    · have h1' : isaT "str" t = false := by simpa using h1
      have e0 := tabV_no ty h1'
      have kz0 : Rz a.c_NoText "at" (.int 0) H E := by
        rcases kk with ⟨k, e, kz⟩ | ⟨rows, k, e, _⟩
        · rw [e0] at e; cases e; exact kz
        · rw [e0] at e; cases e
      refine ⟨Nat.le_of_ble_eq_true rfl, fun ea fea => ⟨ea, _, rfl, upd_same, fun dx' fdx ne => ?_⟩⟩
      rw [upd_ne ne] at fdx
      exact ⟨rfl, ea, _, _, rfl, T.X_NoText.c.xi, (upd_ne (Ne.symm ne)).trans upd_same, Rz.sure (kz0) fea fdx ne⟩
    have h1' : isaT "str" t = true := by simpa using h1
    obtain ⟨x, rfl⟩ := KC.str_of ty h1'
    obtain ⟨hl, hy200⟩ := th.2 x rfl
    refine ⟨Nat.zero_le _, fun D fD => ?_⟩
    have SD := Same.new (.lst []) fD
    have hD0 : (upd H D (.lst [])) D = some (.lst []) := upd_same
    try unfold tNext
    try dsimp only
    generalize upd H D (.lst []) = G0 at SD hD0 ⊢
    have lw : (Txt.split x sc).length ≤ 20002 := Nat.le_trans (split_le x _) (by omega)
    have kk : (∃ k, rp [] 0 (Txt.split x sc) = .inl k ∧ Rz a.c_NoText "at" (.int k) H E) ∨ ∃ rows k, rp [] 0 (Txt.split x sc) = .inr rows ∧ rows ≠ [] ∧ (∀ r ∈ rows, okR r) ∧ flt rows = some k ∧ Rz a.c_NoTable "row" (.int k) H E := kk
    refine seq_split (t := tFor _ _ _) (fun σ' H' => ∃ (s2 s3 s4 : Option V) (ys : List V) (acc : List (Int × Int)), σ' = [some (.str x), some (.ref D), s2, s3, s4] ∧ Same H H' ∧ H' D = some (.lst ys) ∧ TupL pr H' ys acc ∧ rp [] 0 (Txt.split x sc) = .inr acc) (fun N hN => ?_) ?_
    · refine ⟨_, rfl, rfl, _, _, rfl, rfl, by decide +kernel, small6k (by omega), fun l fl => ?_⟩
      rw [sc_is]
      generalize Txt.split x sc = ws at kk lw hy200 hN ⊢
      have Sl := Same.new (.lst (ws.map V.str)) fl
      have hl1 : (upd G0 l (.lst (ws.map V.str))) l = some (.lst (ws.map V.str)) := upd_same
      have hD1 := Sl _ _ hD0
      have S1 := SD.trans Sl
      have nlD : l ≠ D := fun e => by rw [e, hD0] at fl; cases fl
      try dsimp only
      generalize upd G0 l (.lst (ws.map V.str)) = G1 at Sl hl1 hD1 S1 ⊢
      refine ⟨l, rfl, ⟨_, SqL.of hl1⟩, for_enum (D := { nx := N, rt := Q }) (K := K) (a := l) (xs := ws.map V.str) (fun i σ H2 => ∃ (s2 s3 s4 : Option V) (ys : List V) (acc : List (Int × Int)), σ = [some (.str x), some (.ref D), s2, s3, s4] ∧ Same H H2 ∧ H2 l = some (.lst (ws.map V.str)) ∧ H2 D = some (.lst ys) ∧ TupL pr H2 ys acc ∧ acc.length = i ∧ rp [] 0 ws = rp acc i (ws.drop i)) ⟨none, none, none, [], [], rfl, S1, hl1, hD1, .nil, rfl, by rw [List.drop_zero]⟩ (fun i σ H2 _ ⟨_, _, _, _, _, _, _, h, _⟩ => SqL.of h) ?_ ?_⟩
      · rintro i z σ H2 u hz ⟨s2, s3, s4, ys, acc, rfl, S, hl2, hD2, ty2, la, hr'⟩ hn
        have Su := Same.new (.tup [.int i, z]) hn
        obtain ⟨y, hy, rfl⟩ := map_get hz
        have hi : i < ws.length := (List.getElem?_eq_some_iff.mp hy).1
        have ed : ws.drop i = y :: ws.drop (i + 1) := by
          rw [List.drop_eq_getElem_cons hi]
          congr 1
          exact Option.some.inj ((List.getElem?_eq_getElem hi).symm.trans hy)
        rw [ed] at hr'
        have hD3 := Su _ _ hD2
        have ty3 := ty2.same Su
        have S3 := S.trans Su
        have hl3 := Su _ _ hl2
        have hu : (upd H2 u (.tup [.int i, .str y])) u = some (.tup [.int i, .str y]) := upd_same
        refine ⟨u, _, rfl, SqT.of hu, rfl, _, _, rfl, _, _, rfl, rfl, ?_⟩
        try dsimp only
        generalize upd H2 u (.tup [.int i, .str y]) = H3 at Su hD3 ty3 S3 hl3 hu ⊢
        refine ⟨_, rfl, y, rfl, hy200 y (List.mem_of_getElem? hy), fun v G SG hv => ?_⟩
        have hD4 := SG _ _ hD3
        have ty4 := ty3.same SG
        have S4 := S3.trans SG
        have hl4 := SG _ _ hl3
        have ly : ys.length ≤ 20002 := by rw [ty2.1]; omega
        try unfold tNext
        try dsimp only
        cases hs : rowT y.cps.toList with
        | none =>
          rw [hs] at hv
          obtain rfl : v = .non := hv
          rw [rp_no hs] at hr'
          have kz1 : Rz a.c_NoText "at" (.int i) G E := by
            rcases kk with ⟨k, e, kz⟩ | ⟨rows, k, e, _⟩
            · rw [hr'] at e; cases e; exact kz.same S4
            · rw [hr'] at e; cases e
          refine ⟨_, rfl, rfl, _, rfl, iteTT (decide_eq_true rfl) ?_⟩
          refine ⟨_, rfl, Nat.le_of_ble_eq_true rfl, fun ea fea => ⟨ea, _, rfl, upd_same, fun dx' fdx ne => ?_⟩⟩
          rw [upd_ne ne] at fdx
          exact ⟨rfl, ea, _, _, rfl, T.X_NoText.c.xi, (upd_ne (Ne.symm ne)).trans upd_same, Rz.sure (kz1) fea fdx ne⟩
        | some sp =>
          rw [hs] at hv
          obtain ⟨tv, rfl, htv⟩ := hv
          rw [rp_on hs] at hr'
          refine ⟨_, rfl, rfl, _, rfl, iteFF (decide_eq_false fun z => nomatch z) ?_⟩
          refine ⟨_, rfl, .inl ⟨rfl, _, SqL.of hD4⟩, _, rfl, D, _, _, rfl, rfl, hD4, small6k' (by omega), ?_⟩
          exact ⟨_, _, _, ys ++ [.ref tv], acc ++ [sp], rfl, S4.put fD _, (upd_ne nlD).trans hl4, upd_same, (ty4.snoc (p := sp) htv).put hD4, (by rw [List.length_append, la]; rfl), hr'⟩
      · rintro σ H2 ⟨s2, s3, s4, ys, acc, rfl, S, hl2, hD2, ty2, la, hr'⟩
        rw [List.length_map, List.drop_length] at hr'
        exact hN _ _ ⟨_, _, _, ys, acc, rfl, S, hD2, ty2, hr'⟩
    rintro _ G ⟨s2, s3, s4, ys, acc, rfl, S, hD, tyD, hr'⟩
    rcases kk with ⟨k, e, kz⟩ | ⟨rows, k, e, ne, ok, hf, kz⟩
    · rw [hr'] at e; cases e
    rw [hr'] at e; cases e
    refine ⟨_, rfl, ?_⟩
    intro y dy fy fdy ndy
    have Sy : Same G (upd (upd G dy (.own y)) y (.ins a.c_Table dy [])) := (Same.new _ fdy).put fy _
    exact ⟨y, dy, D, acc, k, rfl, upd_same, ⟨ys, Sy _ _ hD, tyD.same Sy⟩, ok, ne, hf, kz.same (S.trans Sy)⟩
end
end K18
set_option Elab.async false
set_option linter.all false
set_option maxRecDepth 100000
namespace K18
open PySem L2 PySem.NumText PyProof.Rows KC M18
section
variable {P : Program} {w : World} {K : PySem.W.Frag} {mg : Str → Option Value} {base : Heap}
theorem ok_Lrefused {a : Ad} (T : Txt K mg a) : FnOk P w K mg base CX0 9 a.f_Lrefused a.fd_Lrefused ["_law_text", "_law_kind", "_law_due"] (sp_Lrefused a) := by
  have G_read_table : FnOk P w K mg base (CX1 P w) 8 a.f_read_table a.fd_read_table ["text"] (sp_read_table a) := ok_read_table T
  refine T.d_Lrefused.F.ok sc_Lrefused (fun vs H Q E h => ?_) (fun cdv A outer s H vs Q E hr h => ?_)
  · obtain ⟨v, kd, k, rfl, th, rf, kk⟩ := h
    rfl
  · obtain ⟨v, kd, k, rfl, th, rf, kk⟩ := h
    have hu := hu_of hr
    have hU := hr.units
    have h_read_table : Room (8) _ := hr.mono (by decide)
    refine ⟨_, (pss_cons (ps_tryN (i := 3) rfl rfl (by exact (px_expr (pex_call G_read_table h_read_table rfl T.d_read_table.m T.d_read_table.k T.d_read_table.b (pa_cons (pv 0) pa_nil))))
        rfl T.g_LogError T.xl_LogError sc_Lrefused.nd rfl (Or.inl rfl) rfl (fun ea => (by exact
        (pss_cons (ps_if (PW.pt (pw_or (pt_not (pt_val (pe_callB (r := rIsX K) call_isX (by rfl) T.n_isinstance boot_isinstance' (pa_cons (pv 3) (pa_cons (pe_bltn (v := .ty "ValueError") rfl T.n_ValueError boot_ValueError' rfl) pa_nil))))) (pw_or1 (pt_cmpR (uEq hU) (pe_callB (r := rIsX K) call_isX (by rfl) T.n_isinstance boot_isinstance' (pa_cons (pv 3) (pa_cons (pe_glob (v := .ref a.c_NoText) rfl T.g_NoText rfl) pa_nil))) (pe_callB (r := rIsX K) call_isX (by rfl) T.n_isinstance boot_isinstance' (pa_cons (pv 3) (pa_cons (pe_glob (v := .ref a.c_NoTable) rfl T.g_NoTable rfl) pa_nil))) (nomark _)))))
          (pss_one (ps_ret pe_bl))
          pss_nil)
        (pss_cons (ps_if (pt_val (pe_callB (r := rIsX K) call_isX (by rfl) T.n_isinstance boot_isinstance' (pa_cons (pv 3) (pa_cons (pe_glob (v := .ref a.c_NoText) rfl T.g_NoText rfl) pa_nil))))
          (pss_one (ps_ret (pe_and (pe_cmpR (uEq hU) (pv 1) pe_str (nomark _)) (pe_and (pe_cmpR (uEq hU) (show PE _ _ (tXFld K _ "at") from pe_xfld (pv 3) rfl) (pv 2) (nomark _)) (pe_one (pe_not (pe_callB call_isi (by rfl) T.n_isinstance boot_isinstance' (pa_cons (show PE _ _ (tXFld K _ "at") from pe_xfld (pv 3) rfl) (pa_cons (pe_bltn (v := .ty "bool") rfl T.n_bool boot_bool' rfl) pa_nil)))))))))
          pss_nil)
        (pss_one (ps_if (pt_val (pe_callB (r := rIsX K) call_isX (by rfl) T.n_isinstance boot_isinstance' (pa_cons (pv 3) (pa_cons (pe_glob (v := .ref a.c_NoTable) rfl T.g_NoTable rfl) pa_nil))))
          (pss_one (ps_ret (pe_and (pe_cmpR (uEq hU) (pv 1) pe_str (nomark _)) (pe_and (pe_cmpR (uEq hU) (show PE _ _ (tXFld K _ "row") from pe_xfld (pv 3) rfl) (pv 2) (nomark _)) (pe_one (pe_not (pe_callB call_isi (by rfl) T.n_isinstance boot_isinstance' (pa_cons (show PE _ _ (tXFld K _ "row") from pe_xfld (pv 3) rfl) (pa_cons (pe_bltn (v := .ty "bool") rfl T.n_bool boot_bool' rfl) pa_nil)))))))))
          pss_nil)))))))
      (pss_one (ps_ret pe_bl))), ?_⟩
    try dsimp only [cxOf, Cx.nox]
    refine ⟨_, rfl, v, rfl, th, ?_⟩
    cases rf with
    | text e =>
      refine .inl ⟨k, e, ?_⟩
      intro ea dx2 G S fe fd hd xa
      refine ⟨_, ea, rfl, rfl, T.X_NoText.c.xi, T.up_NoText, ?_⟩
      refine ⟨_, rfl, ea, _, dx2, _, .ty "ValueError", true, rfl, xa, hd, T.X_NoText.c, rfl, true, rfl, iteFF rfl ?_⟩
      refine ⟨_, rfl, ea, _, dx2, _, _, _, rfl, xa, hd, T.X_NoText.c, T.is_NoText_NoText, _, rfl, ea, _, dx2, _, _, _, rfl, xa, hd, T.X_NoText.c, T.is_NoText_NoTable, .inl ⟨rfl, _, rfl, iteFF rfl ?_⟩⟩
      refine ⟨_, rfl, ea, _, dx2, _, _, _, rfl, xa, hd, T.X_NoText.c, T.is_NoText_NoText, true, rfl, iteTT rfl ?_⟩
      refine ⟨_, rfl, .inl ⟨rfl, _, rfl, iteTT (decide_eq_true rfl) ?_⟩⟩
      refine ⟨_, rfl, ea, _, dx2, _, _, rfl, xa, hd, T.X_NoText.c, T.n_NoText_at, rfl, _, rfl, .inl ⟨rfl, _, rfl, iteTT (decide_eq_true rfl) ?_⟩⟩
      exact ⟨_, rfl, ea, _, dx2, _, _, rfl, xa, hd, T.X_NoText.c, T.n_NoText_at, rfl, _, _, _, rfl, (by decide), rfl, false, rfl, kk G S⟩
    | table e ne ok hf =>
      refine .inr ⟨_, k, e, ne, ok, hf, ?_⟩
      intro ea dx2 G S fe fd hd xa
      refine ⟨_, ea, rfl, rfl, T.X_NoTable.c.xi, T.up_NoTable, ?_⟩
      refine ⟨_, rfl, ea, _, dx2, _, .ty "ValueError", true, rfl, xa, hd, T.X_NoTable.c, rfl, true, rfl, iteFF rfl ?_⟩
      refine ⟨_, rfl, ea, _, dx2, _, _, _, rfl, xa, hd, T.X_NoTable.c, T.is_NoTable_NoText, _, rfl, ea, _, dx2, _, _, _, rfl, xa, hd, T.X_NoTable.c, T.is_NoTable_NoTable, .inl ⟨rfl, _, rfl, iteFF rfl ?_⟩⟩
      refine ⟨_, rfl, ea, _, dx2, _, _, _, rfl, xa, hd, T.X_NoTable.c, T.is_NoTable_NoText, false, rfl, iteFF rfl ?_⟩
      refine ⟨_, rfl, ea, _, dx2, _, _, _, rfl, xa, hd, T.X_NoTable.c, T.is_NoTable_NoTable, true, rfl, iteTT rfl ?_⟩
      refine ⟨_, rfl, .inl ⟨rfl, _, rfl, iteTT (decide_eq_true rfl) ?_⟩⟩
      refine ⟨_, rfl, ea, _, dx2, _, _, rfl, xa, hd, T.X_NoTable.c, T.n_NoTable_row, rfl, _, rfl, .inl ⟨rfl, _, rfl, iteTT (decide_eq_true rfl) ?_⟩⟩
      exact ⟨_, rfl, ea, _, dx2, _, _, rfl, xa, hd, T.X_NoTable.c, T.n_NoTable_row, rfl, _, _, _, rfl, (by decide), rfl, false, rfl, kk G S⟩
end
end K18
set_option Elab.async false
set_option linter.all false
set_option maxRecDepth 100000
namespace K18
open PySem L2 PySem.NumText PyProof.Rows KC M18
section
variable {P : Program} {w : World} {K : PySem.W.Frag} {mg : Str → Option Value} {base : Heap}
end
theorem lenK (x : String) (n : Nat) (h : (Str.ofString x).length = n) : (Str.ofString x).length ≤ n := Nat.le_of_eq h
theorem ok_sm {r : Int × Int} (h : okR r) : Sm r.1 := ⟨by have := h.1; omega, by have := h.2.1; omega⟩
theorem sm_log {i : Int} (h0 : -3000 ≤ i) (h1 : i ≤ 1000000000) : i.natAbs.log2 < 1920 := Sm.log (i := i) ⟨by omega, by omega⟩
section
variable {P : Program} {w : World} {K : PySem.W.Frag} {mg : Str → Option Value} {base : Heap}
theorem ok_Lbad {a : Ad} (T : Txt K mg a) : FnOk P w K mg base CX0 3 a.f_Lbad a.fd_Lbad ["_law_row_here"] sp_Lbad := by
  have G_Lclock : FnOk P w K mg base CX0 2 a.f_Lclock a.fd_Lclock ["_law_number"] sp_Lclock := ok_Lclock T
  have G_Lshift : FnOk P w K mg base CX0 2 a.f_Lshift a.fd_Lshift ["_law_shift_here"] sp_Lshift := ok_Lshift T
  refine T.d_Lbad.F.ok sc_Lbad (fun vs H Q E h => ?_) (fun cdv A outer s H vs Q E hr h => ?_)
  · obtain ⟨t, r, rfl, ht, ok, kk⟩ := h
    rfl
  · obtain ⟨t, r, rfl, ht, ok, kk⟩ := h
    have hu := hu_of hr
    have hU := hr.units
    have h_Lclock : Room (2) _ := hr.mono (by decide)
    have h_Lshift : Room (2) _ := hr.mono (by decide)
    refine ⟨_, (pss_cons (ps_set (i := 1) sc_Lbad.nd rfl (Or.inl rfl) (pe_call G_Lclock h_Lclock rfl T.d_Lclock.m T.d_Lclock.k T.d_Lclock.b .nil pass0 (pa_cons (pe_ix (r := rIx K) ix_seq (pv 0) pe_int (fun _ _ => rfl)) pa_nil)))
      (pss_cons (ps_set (i := 2) sc_Lbad.nd rfl (Or.inl rfl) (pe_call G_Lshift h_Lshift rfl T.d_Lshift.m T.d_Lshift.k T.d_Lshift.b .nil pass0 (pa_cons (pe_ix (r := rIx K) ix_seq (pv 0) pe_int (fun _ _ => rfl)) pa_nil)))
      (pss_cons (ps_set (i := 3) sc_Lbad.nd rfl (Or.inl rfl) (pe_op uAdd (pe_op uAdd (pv 1) pe_str) (pv 2)))
      (@pss_cons _ _ _ _ _ (by exact (@ps_set _ _ 4 _ _ _ _ (by exact sc_Lbad.nd) (by rfl) (by exact Or.inl rfl) (by exact (@pe_lst _ _ _ _ (by exact (@pa_cons _ _ _ _ _ (by exact pe_str) (by exact (@pa_cons _ _ _ _ _ (by exact pe_str) (by exact (@pa_cons _ _ _ _ _ (by exact (pv 1)) (by exact (@pa_cons _ _ _ _ _ (by exact (pv 2)) (by exact (@pa_cons _ _ _ _ _ (by exact (pe_op uAdd (pv 1) (pv 2))) (by exact (@pa_cons _ _ _ _ _ (by exact (pe_op uAdd (pe_op uAdd (pv 1) pe_str) (pv 2))) (by exact (@pa_cons _ _ _ _ _ (by exact (pe_op uAdd pe_str (pv 3))) (by exact (@pa_cons _ _ _ _ _ (by exact (pe_op uAdd (pv 3) pe_str)) (by exact (@pa_cons _ _ _ _ _ (by exact (pe_op uAdd (pv 3) pe_str)) (by exact (@pa_cons _ _ _ _ _ (by exact (pe_op uAdd (pv 3) pe_str)) (by exact (@pa_nil _)) (by rfl))) (by rfl))) (by rfl))) (by rfl))) (by rfl))) (by rfl))) (by rfl))) (by rfl))) (by rfl))) (by rfl))))) (by rfl) (by exact .inl rfl)))
      (by exact (pss_cons (ps_set (i := 4) sc_Lbad.nd rfl (Or.inl rfl) (pe_op uAdd (pv 4) (@pe_lst _ _ _ _ (by exact (@pa_cons _ _ _ _ _ (by exact (pe_op uAdd pe_str (pv 3))) (by exact (@pa_cons _ _ _ _ _ (by exact (pe_op uAdd (pe_op uAdd (pv 2) pe_str) (pv 1))) (by exact (@pa_cons _ _ _ _ _ (by exact (pe_op uAdd pe_str (pv 3))) (by exact (@pa_cons _ _ _ _ _ (by exact (pe_op uAdd (pe_op uAdd (pv 1) pe_str) (pe_slice uSl (pv 2) (po_some pe_int) po_none))) (by exact (@pa_cons _ _ _ _ _ (by exact (pe_op uAdd (pe_op uAdd (pv 3) pe_str) (pv 2))) (by exact (@pa_nil _)) (by rfl))) (by rfl))) (by rfl))) (by rfl))) (by rfl))))))
      (pss_cons (ps_set (i := 4) sc_Lbad.nd rfl (Or.inl rfl) (pe_op uAdd (pv 4) (@pe_lst _ _ _ _ (by exact (@pa_cons _ _ _ _ _ (by exact (pe_op uAdd (pe_op uAdd (pv 1) pe_str) (pv 2))) (by exact (@pa_cons _ _ _ _ _ (by exact (pe_op uAdd (pe_op uAdd (pv 1) pe_str) (pv 2))) (by exact (@pa_cons _ _ _ _ _ (by exact (pe_op uAdd pe_str (pv 2))) (by exact (@pa_cons _ _ _ _ _ (by exact (pe_op uAdd pe_str (pv 2))) (by exact (@pa_cons _ _ _ _ _ (by exact pe_str) (by exact (@pa_nil _)) (by rfl))) (by rfl))) (by rfl))) (by rfl))) (by rfl))))))
      (pss_cons (ps_set (i := 4) sc_Lbad.nd rfl (Or.inl rfl) (pe_op uAdd (pv 4) (@pe_lst _ _ _ _ (by exact (@pa_cons _ _ _ _ _ (by exact (pe_op uAdd (pv 1) pe_str)) (by exact (@pa_cons _ _ _ _ _ (by exact (pe_op uAdd (pv 1) pe_str)) (by exact (@pa_cons _ _ _ _ _ (by exact (pe_op uAdd (pv 1) pe_str)) (by exact (@pa_cons _ _ _ _ _ (by exact (pe_op uAdd (pv 1) pe_str)) (by exact (@pa_cons _ _ _ _ _ (by exact (pe_op uAdd pe_str (pv 2))) (by exact (@pa_nil _)) (by rfl))) (by rfl))) (by rfl))) (by rfl))) (by rfl))))))
      (pss_cons (ps_set (i := 4) sc_Lbad.nd rfl (Or.inl rfl) (pe_op uAdd (pv 4) (@pe_lst _ _ _ _ (by exact (@pa_cons _ _ _ _ _ (by exact (pe_op uAdd pe_str (pv 2))) (by exact (@pa_cons _ _ _ _ _ (by exact (pe_op uAdd (pe_op uAdd (pe_callTy call_str_int (by rfl) T.n_str boot_str' (pa_cons (pe_ix (r := rIx K) ix_seq (pv 0) pe_int (fun _ _ => rfl)) pa_nil)) pe_str) (pv 2))) (by exact (@pa_cons _ _ _ _ _ (by exact (pe_op uAdd (pe_op uAdd (pv 1) pe_str) (pe_callTy call_str_int (by rfl) T.n_str boot_str' (pa_cons (pe_ix (r := rIx K) ix_seq (pv 0) pe_int (fun _ _ => rfl)) pa_nil)))) (by exact (@pa_nil _)) (by rfl))) (by rfl))) (by rfl))))))
      (pss_one (ps_ret (pe_op uAdd (pv 4) (@pe_lst _ _ _ _ (by exact (@pa_cons _ _ _ _ _ (by exact (pe_op uAdd (pv 3) pe_str)) (by exact (@pa_cons _ _ _ _ _ (by exact (pe_op uAdd (pe_op uAdd (pv 3) pe_str) (pv 3))) (by exact (@pa_nil _)) (by rfl))) (by rfl)))))))))))))))), ?_⟩
    try dsimp only [cxOf, Cx.nox]
    refine ⟨_, rfl, .inr (.inl ⟨t, _, _, _, rfl, rfl, SqT.of ht, rfl, r.1, rfl, ok_sm ok, fun c hc => ?_⟩)⟩
    refine ⟨_, rfl, .inr (.inl ⟨t, _, _, _, rfl, rfl, SqT.of ht, rfl, r.2, rfl, ⟨ok.2.2.1, ok.2.2.2⟩, fun s hs => ?_⟩)⟩
    have lc1 : c.length ≤ 37 := by rw [← len_toList, hc]; exact lc ok
    have ls1 : s.length ≤ 37 := by rw [← len_toList, hs]; exact ls ok
    have lg1 : (c ++ Str.ofString " " ++ s).length ≤ 75 := len_app (len_app lc1 (lenK " " 1 (by decide +kernel))) ls1
    have lt1 : (Txt.slice s (some 1) none).length ≤ 37 := Nat.le_trans (Txt.slice_le s _ _) ls1
    have sm : ∀ i : Int, -3000 ≤ i → i ≤ 1000000000 → (Str.ofString (toString i)).length ≤ 31 := fun i h0 h1 => by
      rw [← len_toList]; exact intL_short (by omega) (by omega)
    have m0 : -3000 ≤ r.1 := by have := ok.1; omega
    have h0 : -3000 ≤ r.2 := by have := ok.2.2.1; omega
    have h9 : r.2 ≤ 1000000000 := by have := ok.2.2.2; omega
    have lm1 := sm r.1 m0 ok.2.1
    have lh1 := sm r.2 h0 h9
    have lgm := sm_log m0 ok.2.1
    have lgh := sm_log h0 h9
    have bo := bads_ok (m := r.1) (h := r.2) ok hc hs
    try unfold tNext
    try dsimp only
    refine ⟨_, rfl, .inr (.inr ⟨_, _, rfl, rfl, cat2 lc1 (lenK " " 1 (by decide +kernel)) (by decide), _, rfl, .inr (.inr ⟨_, _, rfl, rfl, cat2 (len_app lc1 (lenK " " 1 (by decide +kernel))) ls1 (by decide), ?_⟩)⟩)⟩
    try unfold tNext
    try dsimp only
    refine ⟨_, rfl, _, rfl, _, rfl, _, rfl, .inr (.inr ⟨_, _, rfl, rfl, cat2 lc1 ls1 (by decide), _, rfl, .inr (.inr ⟨_, _, rfl, rfl, cat2 lc1 (lenK "  " 2 (by decide +kernel)) (by decide), _, rfl, .inr (.inr ⟨_, _, rfl, rfl, cat2 (len_app lc1 (lenK "  " 2 (by decide +kernel))) ls1 (by decide), _, rfl, .inr (.inr ⟨_, _, rfl, rfl, cat2 (lenK " " 1 (by decide +kernel)) lg1 (by decide), _, rfl, .inr (.inr ⟨_, _, rfl, rfl, cat2 lg1 (lenK " " 1 (by decide +kernel)) (by decide), _, rfl, .inr (.inr ⟨_, _, rfl, rfl, cat2 lg1 (lenK "\n" 1 (by decide +kernel)) (by decide), _, rfl, .inr (.inr ⟨_, _, rfl, rfl, cat2 lg1 (lenK ";" 1 (by decide +kernel)) (by decide), small60 (Nat.le_of_ble_eq_true rfl), fun l0 f0 => ?_⟩)⟩)⟩)⟩)⟩)⟩)⟩)⟩
    have e0 : (upd H l0 (.lst [.str (Str.ofString ""), .str (Str.ofString " "), .str (c), .str (s), .str ((c ++ s)), .str (((c ++ Str.ofString "  ") ++ s)), .str ((Str.ofString " " ++ (c ++ Str.ofString " " ++ s))), .str (((c ++ Str.ofString " " ++ s) ++ Str.ofString " ")), .str (((c ++ Str.ofString " " ++ s) ++ Str.ofString "\n")), .str (((c ++ Str.ofString " " ++ s) ++ Str.ofString ";"))])) l0 = some (.lst [.str (Str.ofString ""), .str (Str.ofString " "), .str (c), .str (s), .str ((c ++ s)), .str (((c ++ Str.ofString "  ") ++ s)), .str ((Str.ofString " " ++ (c ++ Str.ofString " " ++ s))), .str (((c ++ Str.ofString " " ++ s) ++ Str.ofString " ")), .str (((c ++ Str.ofString " " ++ s) ++ Str.ofString "\n")), .str (((c ++ Str.ofString " " ++ s) ++ Str.ofString ";"))]) := upd_same
    have B0 := Same.new (.lst [.str (Str.ofString ""), .str (Str.ofString " "), .str (c), .str (s), .str ((c ++ s)), .str (((c ++ Str.ofString "  ") ++ s)), .str ((Str.ofString " " ++ (c ++ Str.ofString " " ++ s))), .str (((c ++ Str.ofString " " ++ s) ++ Str.ofString " ")), .str (((c ++ Str.ofString " " ++ s) ++ Str.ofString "\n")), .str (((c ++ Str.ofString " " ++ s) ++ Str.ofString ";"))]) f0
    have A0 := B0
    try dsimp only
    generalize upd H l0 (.lst [.str (Str.ofString ""), .str (Str.ofString " "), .str (c), .str (s), .str ((c ++ s)), .str (((c ++ Str.ofString "  ") ++ s)), .str ((Str.ofString " " ++ (c ++ Str.ofString " " ++ s))), .str (((c ++ Str.ofString " " ++ s) ++ Str.ofString " ")), .str (((c ++ Str.ofString " " ++ s) ++ Str.ofString "\n")), .str (((c ++ Str.ofString " " ++ s) ++ Str.ofString ";"))]) = K0 at e0 B0 A0 ⊢
    try unfold tNext
    try dsimp only
    refine ⟨_, rfl, _, rfl, .inr (.inr ⟨_, _, rfl, rfl, cat2 (lenK ";" 1 (by decide +kernel)) lg1 (by decide), _, rfl, .inr (.inr ⟨_, _, rfl, rfl, cat2 ls1 (lenK " " 1 (by decide +kernel)) (by decide), _, rfl, .inr (.inr ⟨_, _, rfl, rfl, cat2 (len_app ls1 (lenK " " 1 (by decide +kernel))) lc1 (by decide), _, rfl, .inr (.inr ⟨_, _, rfl, rfl, cat2 (lenK "0" 1 (by decide +kernel)) lg1 (by decide), _, rfl, .inr (.inr ⟨_, _, rfl, rfl, cat2 lc1 (lenK " " 1 (by decide +kernel)) (by decide), _, rfl, _, rfl, .inr ⟨_, rfl, small60 (by omega), .inr (.inr ⟨_, _, rfl, rfl, cat2 (len_app lc1 (lenK " " 1 (by decide +kernel))) lt1 (by decide), _, rfl, .inr (.inr ⟨_, _, rfl, rfl, cat2 lg1 (lenK " " 1 (by decide +kernel)) (by decide), _, rfl, .inr (.inr ⟨_, _, rfl, rfl, cat2 (len_app lg1 (lenK " " 1 (by decide +kernel))) ls1 (by decide), small60 (Nat.le_of_ble_eq_true rfl), fun l1 f1 => ?_⟩)⟩)⟩)⟩⟩)⟩)⟩)⟩)⟩)⟩
    have e1 : (upd K0 l1 (.lst [.str ((Str.ofString ";" ++ (c ++ Str.ofString " " ++ s))), .str (((s ++ Str.ofString " ") ++ c)), .str ((Str.ofString "0" ++ (c ++ Str.ofString " " ++ s))), .str (((c ++ Str.ofString " ") ++ Txt.slice s (some 1) none)), .str ((((c ++ Str.ofString " " ++ s) ++ Str.ofString " ") ++ s))])) l1 = some (.lst [.str ((Str.ofString ";" ++ (c ++ Str.ofString " " ++ s))), .str (((s ++ Str.ofString " ") ++ c)), .str ((Str.ofString "0" ++ (c ++ Str.ofString " " ++ s))), .str (((c ++ Str.ofString " ") ++ Txt.slice s (some 1) none)), .str ((((c ++ Str.ofString " " ++ s) ++ Str.ofString " ") ++ s))]) := upd_same
    have B1 := Same.new (.lst [.str ((Str.ofString ";" ++ (c ++ Str.ofString " " ++ s))), .str (((s ++ Str.ofString " ") ++ c)), .str ((Str.ofString "0" ++ (c ++ Str.ofString " " ++ s))), .str (((c ++ Str.ofString " ") ++ Txt.slice s (some 1) none)), .str ((((c ++ Str.ofString " " ++ s) ++ Str.ofString " ") ++ s))]) f1
    have A1 := A0.trans B1
    try dsimp only
    generalize upd K0 l1 (.lst [.str ((Str.ofString ";" ++ (c ++ Str.ofString " " ++ s))), .str (((s ++ Str.ofString " ") ++ c)), .str ((Str.ofString "0" ++ (c ++ Str.ofString " " ++ s))), .str (((c ++ Str.ofString " ") ++ Txt.slice s (some 1) none)), .str ((((c ++ Str.ofString " " ++ s) ++ Str.ofString " ") ++ s))]) = K1 at e1 B1 A1 ⊢
    refine .inr (.inl ⟨l0, l1, _, _, rfl, rfl, B1 _ _ e0, e1, small60 (Nat.le_of_ble_eq_true rfl), fun c1 g1 => ?_⟩)
    have d1 : (upd K1 c1 (.lst ([.str (Str.ofString ""), .str (Str.ofString " "), .str (c), .str (s), .str ((c ++ s)), .str (((c ++ Str.ofString "  ") ++ s)), .str ((Str.ofString " " ++ (c ++ Str.ofString " " ++ s))), .str (((c ++ Str.ofString " " ++ s) ++ Str.ofString " ")), .str (((c ++ Str.ofString " " ++ s) ++ Str.ofString "\n")), .str (((c ++ Str.ofString " " ++ s) ++ Str.ofString ";"))] ++ [.str ((Str.ofString ";" ++ (c ++ Str.ofString " " ++ s))), .str (((s ++ Str.ofString " ") ++ c)), .str ((Str.ofString "0" ++ (c ++ Str.ofString " " ++ s))), .str (((c ++ Str.ofString " ") ++ Txt.slice s (some 1) none)), .str ((((c ++ Str.ofString " " ++ s) ++ Str.ofString " ") ++ s))]))) c1 = some (.lst [.str (Str.ofString ""), .str (Str.ofString " "), .str (c), .str (s), .str ((c ++ s)), .str (((c ++ Str.ofString "  ") ++ s)), .str ((Str.ofString " " ++ (c ++ Str.ofString " " ++ s))), .str (((c ++ Str.ofString " " ++ s) ++ Str.ofString " ")), .str (((c ++ Str.ofString " " ++ s) ++ Str.ofString "\n")), .str (((c ++ Str.ofString " " ++ s) ++ Str.ofString ";")), .str ((Str.ofString ";" ++ (c ++ Str.ofString " " ++ s))), .str (((s ++ Str.ofString " ") ++ c)), .str ((Str.ofString "0" ++ (c ++ Str.ofString " " ++ s))), .str (((c ++ Str.ofString " ") ++ Txt.slice s (some 1) none)), .str ((((c ++ Str.ofString " " ++ s) ++ Str.ofString " ") ++ s))]) := upd_same
    have C1 := Same.new (.lst ([.str (Str.ofString ""), .str (Str.ofString " "), .str (c), .str (s), .str ((c ++ s)), .str (((c ++ Str.ofString "  ") ++ s)), .str ((Str.ofString " " ++ (c ++ Str.ofString " " ++ s))), .str (((c ++ Str.ofString " " ++ s) ++ Str.ofString " ")), .str (((c ++ Str.ofString " " ++ s) ++ Str.ofString "\n")), .str (((c ++ Str.ofString " " ++ s) ++ Str.ofString ";"))] ++ [.str ((Str.ofString ";" ++ (c ++ Str.ofString " " ++ s))), .str (((s ++ Str.ofString " ") ++ c)), .str ((Str.ofString "0" ++ (c ++ Str.ofString " " ++ s))), .str (((c ++ Str.ofString " ") ++ Txt.slice s (some 1) none)), .str ((((c ++ Str.ofString " " ++ s) ++ Str.ofString " ") ++ s))])) g1
    have D1 := A1.trans C1
    try dsimp only
    generalize upd K1 c1 (.lst ([.str (Str.ofString ""), .str (Str.ofString " "), .str (c), .str (s), .str ((c ++ s)), .str (((c ++ Str.ofString "  ") ++ s)), .str ((Str.ofString " " ++ (c ++ Str.ofString " " ++ s))), .str (((c ++ Str.ofString " " ++ s) ++ Str.ofString " ")), .str (((c ++ Str.ofString " " ++ s) ++ Str.ofString "\n")), .str (((c ++ Str.ofString " " ++ s) ++ Str.ofString ";"))] ++ [.str ((Str.ofString ";" ++ (c ++ Str.ofString " " ++ s))), .str (((s ++ Str.ofString " ") ++ c)), .str ((Str.ofString "0" ++ (c ++ Str.ofString " " ++ s))), .str (((c ++ Str.ofString " ") ++ Txt.slice s (some 1) none)), .str ((((c ++ Str.ofString " " ++ s) ++ Str.ofString " ") ++ s))])) = M1 at d1 C1 D1 ⊢
    try unfold tNext
    try dsimp only
    refine ⟨_, rfl, _, rfl, .inr (.inr ⟨_, _, rfl, rfl, cat2 lc1 (lenK ";" 1 (by decide +kernel)) (by decide), _, rfl, .inr (.inr ⟨_, _, rfl, rfl, cat2 (len_app lc1 (lenK ";" 1 (by decide +kernel))) ls1 (by decide), _, rfl, .inr (.inr ⟨_, _, rfl, rfl, cat2 lc1 (lenK ", " 2 (by decide +kernel)) (by decide), _, rfl, .inr (.inr ⟨_, _, rfl, rfl, cat2 (len_app lc1 (lenK ", " 2 (by decide +kernel))) ls1 (by decide), _, rfl, .inr (.inr ⟨_, _, rfl, rfl, cat2 (lenK "694444.10.41 " 13 (by decide +kernel)) ls1 (by decide), _, rfl, .inr (.inr ⟨_, _, rfl, rfl, cat2 (lenK "-1.23.59 " 9 (by decide +kernel)) ls1 (by decide), small60 (Nat.le_of_ble_eq_true rfl), fun l2 f2 => ?_⟩)⟩)⟩)⟩)⟩)⟩)⟩
    have e2 : (upd M1 l2 (.lst [.str (((c ++ Str.ofString ";") ++ s)), .str (((c ++ Str.ofString ", ") ++ s)), .str ((Str.ofString "694444.10.41 " ++ s)), .str ((Str.ofString "-1.23.59 " ++ s)), .str (Str.ofString "none")])) l2 = some (.lst [.str (((c ++ Str.ofString ";") ++ s)), .str (((c ++ Str.ofString ", ") ++ s)), .str ((Str.ofString "694444.10.41 " ++ s)), .str ((Str.ofString "-1.23.59 " ++ s)), .str (Str.ofString "none")]) := upd_same
    have B2 := Same.new (.lst [.str (((c ++ Str.ofString ";") ++ s)), .str (((c ++ Str.ofString ", ") ++ s)), .str ((Str.ofString "694444.10.41 " ++ s)), .str ((Str.ofString "-1.23.59 " ++ s)), .str (Str.ofString "none")]) f2
    have A2 := D1.trans B2
    try dsimp only
    generalize upd M1 l2 (.lst [.str (((c ++ Str.ofString ";") ++ s)), .str (((c ++ Str.ofString ", ") ++ s)), .str ((Str.ofString "694444.10.41 " ++ s)), .str ((Str.ofString "-1.23.59 " ++ s)), .str (Str.ofString "none")]) = K2 at e2 B2 A2 ⊢
    refine .inr (.inl ⟨c1, l2, _, _, rfl, rfl, B2 _ _ d1, e2, small60 (Nat.le_of_ble_eq_true rfl), fun c2 g2 => ?_⟩)
    have d2 : (upd K2 c2 (.lst ([.str (Str.ofString ""), .str (Str.ofString " "), .str (c), .str (s), .str ((c ++ s)), .str (((c ++ Str.ofString "  ") ++ s)), .str ((Str.ofString " " ++ (c ++ Str.ofString " " ++ s))), .str (((c ++ Str.ofString " " ++ s) ++ Str.ofString " ")), .str (((c ++ Str.ofString " " ++ s) ++ Str.ofString "\n")), .str (((c ++ Str.ofString " " ++ s) ++ Str.ofString ";")), .str ((Str.ofString ";" ++ (c ++ Str.ofString " " ++ s))), .str (((s ++ Str.ofString " ") ++ c)), .str ((Str.ofString "0" ++ (c ++ Str.ofString " " ++ s))), .str (((c ++ Str.ofString " ") ++ Txt.slice s (some 1) none)), .str ((((c ++ Str.ofString " " ++ s) ++ Str.ofString " ") ++ s))] ++ [.str (((c ++ Str.ofString ";") ++ s)), .str (((c ++ Str.ofString ", ") ++ s)), .str ((Str.ofString "694444.10.41 " ++ s)), .str ((Str.ofString "-1.23.59 " ++ s)), .str (Str.ofString "none")]))) c2 = some (.lst [.str (Str.ofString ""), .str (Str.ofString " "), .str (c), .str (s), .str ((c ++ s)), .str (((c ++ Str.ofString "  ") ++ s)), .str ((Str.ofString " " ++ (c ++ Str.ofString " " ++ s))), .str (((c ++ Str.ofString " " ++ s) ++ Str.ofString " ")), .str (((c ++ Str.ofString " " ++ s) ++ Str.ofString "\n")), .str (((c ++ Str.ofString " " ++ s) ++ Str.ofString ";")), .str ((Str.ofString ";" ++ (c ++ Str.ofString " " ++ s))), .str (((s ++ Str.ofString " ") ++ c)), .str ((Str.ofString "0" ++ (c ++ Str.ofString " " ++ s))), .str (((c ++ Str.ofString " ") ++ Txt.slice s (some 1) none)), .str ((((c ++ Str.ofString " " ++ s) ++ Str.ofString " ") ++ s)), .str (((c ++ Str.ofString ";") ++ s)), .str (((c ++ Str.ofString ", ") ++ s)), .str ((Str.ofString "694444.10.41 " ++ s)), .str ((Str.ofString "-1.23.59 " ++ s)), .str (Str.ofString "none")]) := upd_same
    have C2 := Same.new (.lst ([.str (Str.ofString ""), .str (Str.ofString " "), .str (c), .str (s), .str ((c ++ s)), .str (((c ++ Str.ofString "  ") ++ s)), .str ((Str.ofString " " ++ (c ++ Str.ofString " " ++ s))), .str (((c ++ Str.ofString " " ++ s) ++ Str.ofString " ")), .str (((c ++ Str.ofString " " ++ s) ++ Str.ofString "\n")), .str (((c ++ Str.ofString " " ++ s) ++ Str.ofString ";")), .str ((Str.ofString ";" ++ (c ++ Str.ofString " " ++ s))), .str (((s ++ Str.ofString " ") ++ c)), .str ((Str.ofString "0" ++ (c ++ Str.ofString " " ++ s))), .str (((c ++ Str.ofString " ") ++ Txt.slice s (some 1) none)), .str ((((c ++ Str.ofString " " ++ s) ++ Str.ofString " ") ++ s))] ++ [.str (((c ++ Str.ofString ";") ++ s)), .str (((c ++ Str.ofString ", ") ++ s)), .str ((Str.ofString "694444.10.41 " ++ s)), .str ((Str.ofString "-1.23.59 " ++ s)), .str (Str.ofString "none")])) g2
    have D2 := A2.trans C2
    try dsimp only
    generalize upd K2 c2 (.lst ([.str (Str.ofString ""), .str (Str.ofString " "), .str (c), .str (s), .str ((c ++ s)), .str (((c ++ Str.ofString "  ") ++ s)), .str ((Str.ofString " " ++ (c ++ Str.ofString " " ++ s))), .str (((c ++ Str.ofString " " ++ s) ++ Str.ofString " ")), .str (((c ++ Str.ofString " " ++ s) ++ Str.ofString "\n")), .str (((c ++ Str.ofString " " ++ s) ++ Str.ofString ";")), .str ((Str.ofString ";" ++ (c ++ Str.ofString " " ++ s))), .str (((s ++ Str.ofString " ") ++ c)), .str ((Str.ofString "0" ++ (c ++ Str.ofString " " ++ s))), .str (((c ++ Str.ofString " ") ++ Txt.slice s (some 1) none)), .str ((((c ++ Str.ofString " " ++ s) ++ Str.ofString " ") ++ s))] ++ [.str (((c ++ Str.ofString ";") ++ s)), .str (((c ++ Str.ofString ", ") ++ s)), .str ((Str.ofString "694444.10.41 " ++ s)), .str ((Str.ofString "-1.23.59 " ++ s)), .str (Str.ofString "none")])) = M2 at d2 C2 D2 ⊢
    try unfold tNext
    try dsimp only
    refine ⟨_, rfl, _, rfl, .inr (.inr ⟨_, _, rfl, rfl, cat2 lc1 (lenK " +48.01" 7 (by decide +kernel)) (by decide), _, rfl, .inr (.inr ⟨_, _, rfl, rfl, cat2 lc1 (lenK " -48.01" 7 (by decide +kernel)) (by decide), _, rfl, .inr (.inr ⟨_, _, rfl, rfl, cat2 lc1 (lenK " -0.00" 6 (by decide +kernel)) (by decide), _, rfl, .inr (.inr ⟨_, _, rfl, rfl, cat2 lc1 (lenK " +0.60" 6 (by decide +kernel)) (by decide), _, rfl, .inr (.inr ⟨_, _, rfl, rfl, cat2 (lenK "0.24.00 " 8 (by decide +kernel)) ls1 (by decide), small60 (Nat.le_of_ble_eq_true rfl), fun l3 f3 => ?_⟩)⟩)⟩)⟩)⟩)⟩
    have e3 : (upd M2 l3 (.lst [.str ((c ++ Str.ofString " +48.01")), .str ((c ++ Str.ofString " -48.01")), .str ((c ++ Str.ofString " -0.00")), .str ((c ++ Str.ofString " +0.60")), .str ((Str.ofString "0.24.00 " ++ s))])) l3 = some (.lst [.str ((c ++ Str.ofString " +48.01")), .str ((c ++ Str.ofString " -48.01")), .str ((c ++ Str.ofString " -0.00")), .str ((c ++ Str.ofString " +0.60")), .str ((Str.ofString "0.24.00 " ++ s))]) := upd_same
    have B3 := Same.new (.lst [.str ((c ++ Str.ofString " +48.01")), .str ((c ++ Str.ofString " -48.01")), .str ((c ++ Str.ofString " -0.00")), .str ((c ++ Str.ofString " +0.60")), .str ((Str.ofString "0.24.00 " ++ s))]) f3
    have A3 := D2.trans B3
    try dsimp only
    generalize upd M2 l3 (.lst [.str ((c ++ Str.ofString " +48.01")), .str ((c ++ Str.ofString " -48.01")), .str ((c ++ Str.ofString " -0.00")), .str ((c ++ Str.ofString " +0.60")), .str ((Str.ofString "0.24.00 " ++ s))]) = K3 at e3 B3 A3 ⊢
    refine .inr (.inl ⟨c2, l3, _, _, rfl, rfl, B3 _ _ d2, e3, small60 (Nat.le_of_ble_eq_true rfl), fun c3 g3 => ?_⟩)
    have d3 : (upd K3 c3 (.lst ([.str (Str.ofString ""), .str (Str.ofString " "), .str (c), .str (s), .str ((c ++ s)), .str (((c ++ Str.ofString "  ") ++ s)), .str ((Str.ofString " " ++ (c ++ Str.ofString " " ++ s))), .str (((c ++ Str.ofString " " ++ s) ++ Str.ofString " ")), .str (((c ++ Str.ofString " " ++ s) ++ Str.ofString "\n")), .str (((c ++ Str.ofString " " ++ s) ++ Str.ofString ";")), .str ((Str.ofString ";" ++ (c ++ Str.ofString " " ++ s))), .str (((s ++ Str.ofString " ") ++ c)), .str ((Str.ofString "0" ++ (c ++ Str.ofString " " ++ s))), .str (((c ++ Str.ofString " ") ++ Txt.slice s (some 1) none)), .str ((((c ++ Str.ofString " " ++ s) ++ Str.ofString " ") ++ s)), .str (((c ++ Str.ofString ";") ++ s)), .str (((c ++ Str.ofString ", ") ++ s)), .str ((Str.ofString "694444.10.41 " ++ s)), .str ((Str.ofString "-1.23.59 " ++ s)), .str (Str.ofString "none")] ++ [.str ((c ++ Str.ofString " +48.01")), .str ((c ++ Str.ofString " -48.01")), .str ((c ++ Str.ofString " -0.00")), .str ((c ++ Str.ofString " +0.60")), .str ((Str.ofString "0.24.00 " ++ s))]))) c3 = some (.lst [.str (Str.ofString ""), .str (Str.ofString " "), .str (c), .str (s), .str ((c ++ s)), .str (((c ++ Str.ofString "  ") ++ s)), .str ((Str.ofString " " ++ (c ++ Str.ofString " " ++ s))), .str (((c ++ Str.ofString " " ++ s) ++ Str.ofString " ")), .str (((c ++ Str.ofString " " ++ s) ++ Str.ofString "\n")), .str (((c ++ Str.ofString " " ++ s) ++ Str.ofString ";")), .str ((Str.ofString ";" ++ (c ++ Str.ofString " " ++ s))), .str (((s ++ Str.ofString " ") ++ c)), .str ((Str.ofString "0" ++ (c ++ Str.ofString " " ++ s))), .str (((c ++ Str.ofString " ") ++ Txt.slice s (some 1) none)), .str ((((c ++ Str.ofString " " ++ s) ++ Str.ofString " ") ++ s)), .str (((c ++ Str.ofString ";") ++ s)), .str (((c ++ Str.ofString ", ") ++ s)), .str ((Str.ofString "694444.10.41 " ++ s)), .str ((Str.ofString "-1.23.59 " ++ s)), .str (Str.ofString "none"), .str ((c ++ Str.ofString " +48.01")), .str ((c ++ Str.ofString " -48.01")), .str ((c ++ Str.ofString " -0.00")), .str ((c ++ Str.ofString " +0.60")), .str ((Str.ofString "0.24.00 " ++ s))]) := upd_same
    have C3 := Same.new (.lst ([.str (Str.ofString ""), .str (Str.ofString " "), .str (c), .str (s), .str ((c ++ s)), .str (((c ++ Str.ofString "  ") ++ s)), .str ((Str.ofString " " ++ (c ++ Str.ofString " " ++ s))), .str (((c ++ Str.ofString " " ++ s) ++ Str.ofString " ")), .str (((c ++ Str.ofString " " ++ s) ++ Str.ofString "\n")), .str (((c ++ Str.ofString " " ++ s) ++ Str.ofString ";")), .str ((Str.ofString ";" ++ (c ++ Str.ofString " " ++ s))), .str (((s ++ Str.ofString " ") ++ c)), .str ((Str.ofString "0" ++ (c ++ Str.ofString " " ++ s))), .str (((c ++ Str.ofString " ") ++ Txt.slice s (some 1) none)), .str ((((c ++ Str.ofString " " ++ s) ++ Str.ofString " ") ++ s)), .str (((c ++ Str.ofString ";") ++ s)), .str (((c ++ Str.ofString ", ") ++ s)), .str ((Str.ofString "694444.10.41 " ++ s)), .str ((Str.ofString "-1.23.59 " ++ s)), .str (Str.ofString "none")] ++ [.str ((c ++ Str.ofString " +48.01")), .str ((c ++ Str.ofString " -48.01")), .str ((c ++ Str.ofString " -0.00")), .str ((c ++ Str.ofString " +0.60")), .str ((Str.ofString "0.24.00 " ++ s))])) g3
    have D3 := A3.trans C3
    try dsimp only
    generalize upd K3 c3 (.lst ([.str (Str.ofString ""), .str (Str.ofString " "), .str (c), .str (s), .str ((c ++ s)), .str (((c ++ Str.ofString "  ") ++ s)), .str ((Str.ofString " " ++ (c ++ Str.ofString " " ++ s))), .str (((c ++ Str.ofString " " ++ s) ++ Str.ofString " ")), .str (((c ++ Str.ofString " " ++ s) ++ Str.ofString "\n")), .str (((c ++ Str.ofString " " ++ s) ++ Str.ofString ";")), .str ((Str.ofString ";" ++ (c ++ Str.ofString " " ++ s))), .str (((s ++ Str.ofString " ") ++ c)), .str ((Str.ofString "0" ++ (c ++ Str.ofString " " ++ s))), .str (((c ++ Str.ofString " ") ++ Txt.slice s (some 1) none)), .str ((((c ++ Str.ofString " " ++ s) ++ Str.ofString " ") ++ s)), .str (((c ++ Str.ofString ";") ++ s)), .str (((c ++ Str.ofString ", ") ++ s)), .str ((Str.ofString "694444.10.41 " ++ s)), .str ((Str.ofString "-1.23.59 " ++ s)), .str (Str.ofString "none")] ++ [.str ((c ++ Str.ofString " +48.01")), .str ((c ++ Str.ofString " -48.01")), .str ((c ++ Str.ofString " -0.00")), .str ((c ++ Str.ofString " +0.60")), .str ((Str.ofString "0.24.00 " ++ s))])) = M3 at d3 C3 D3 ⊢
    try unfold tNext
    try dsimp only
    refine ⟨_, rfl, _, rfl, .inr (.inr ⟨_, _, rfl, rfl, cat2 (lenK "0.00.60 " 8 (by decide +kernel)) ls1 (by decide), _, rfl, .inr (.inl ⟨t, _, _, _, rfl, rfl, SqT.of (D3 _ _ ht), rfl, _, rfl, lgm, .inr (.inr ⟨_, _, rfl, rfl, cat2 lm1 (lenK " " 1 (by decide +kernel)) (by decide), _, rfl, .inr (.inr ⟨_, _, rfl, rfl, cat2 (len_app lm1 (lenK " " 1 (by decide +kernel))) ls1 (by decide), _, rfl, .inr (.inr ⟨_, _, rfl, rfl, cat2 lc1 (lenK " " 1 (by decide +kernel)) (by decide), _, rfl, .inr (.inl ⟨t, _, _, _, rfl, rfl, SqT.of (D3 _ _ ht), rfl, _, rfl, lgh, .inr (.inr ⟨_, _, rfl, rfl, cat2 (len_app lc1 (lenK " " 1 (by decide +kernel))) lh1 (by decide), small60 (Nat.le_of_ble_eq_true rfl), fun l4 f4 => ?_⟩)⟩)⟩)⟩)⟩)⟩)⟩)⟩
    have e4 : (upd M3 l4 (.lst [.str ((Str.ofString "0.00.60 " ++ s)), .str (((Str.ofString (toString r.1) ++ Str.ofString " ") ++ s)), .str (((c ++ Str.ofString " ") ++ Str.ofString (toString r.2)))])) l4 = some (.lst [.str ((Str.ofString "0.00.60 " ++ s)), .str (((Str.ofString (toString r.1) ++ Str.ofString " ") ++ s)), .str (((c ++ Str.ofString " ") ++ Str.ofString (toString r.2)))]) := upd_same
    have B4 := Same.new (.lst [.str ((Str.ofString "0.00.60 " ++ s)), .str (((Str.ofString (toString r.1) ++ Str.ofString " ") ++ s)), .str (((c ++ Str.ofString " ") ++ Str.ofString (toString r.2)))]) f4
    have A4 := D3.trans B4
    try dsimp only
    generalize upd M3 l4 (.lst [.str ((Str.ofString "0.00.60 " ++ s)), .str (((Str.ofString (toString r.1) ++ Str.ofString " ") ++ s)), .str (((c ++ Str.ofString " ") ++ Str.ofString (toString r.2)))]) = K4 at e4 B4 A4 ⊢
    refine .inr (.inl ⟨c3, l4, _, _, rfl, rfl, B4 _ _ d3, e4, small60 (Nat.le_of_ble_eq_true rfl), fun c4 g4 => ?_⟩)
    have d4 : (upd K4 c4 (.lst ([.str (Str.ofString ""), .str (Str.ofString " "), .str (c), .str (s), .str ((c ++ s)), .str (((c ++ Str.ofString "  ") ++ s)), .str ((Str.ofString " " ++ (c ++ Str.ofString " " ++ s))), .str (((c ++ Str.ofString " " ++ s) ++ Str.ofString " ")), .str (((c ++ Str.ofString " " ++ s) ++ Str.ofString "\n")), .str (((c ++ Str.ofString " " ++ s) ++ Str.ofString ";")), .str ((Str.ofString ";" ++ (c ++ Str.ofString " " ++ s))), .str (((s ++ Str.ofString " ") ++ c)), .str ((Str.ofString "0" ++ (c ++ Str.ofString " " ++ s))), .str (((c ++ Str.ofString " ") ++ Txt.slice s (some 1) none)), .str ((((c ++ Str.ofString " " ++ s) ++ Str.ofString " ") ++ s)), .str (((c ++ Str.ofString ";") ++ s)), .str (((c ++ Str.ofString ", ") ++ s)), .str ((Str.ofString "694444.10.41 " ++ s)), .str ((Str.ofString "-1.23.59 " ++ s)), .str (Str.ofString "none"), .str ((c ++ Str.ofString " +48.01")), .str ((c ++ Str.ofString " -48.01")), .str ((c ++ Str.ofString " -0.00")), .str ((c ++ Str.ofString " +0.60")), .str ((Str.ofString "0.24.00 " ++ s))] ++ [.str ((Str.ofString "0.00.60 " ++ s)), .str (((Str.ofString (toString r.1) ++ Str.ofString " ") ++ s)), .str (((c ++ Str.ofString " ") ++ Str.ofString (toString r.2)))]))) c4 = some (.lst [.str (Str.ofString ""), .str (Str.ofString " "), .str (c), .str (s), .str ((c ++ s)), .str (((c ++ Str.ofString "  ") ++ s)), .str ((Str.ofString " " ++ (c ++ Str.ofString " " ++ s))), .str (((c ++ Str.ofString " " ++ s) ++ Str.ofString " ")), .str (((c ++ Str.ofString " " ++ s) ++ Str.ofString "\n")), .str (((c ++ Str.ofString " " ++ s) ++ Str.ofString ";")), .str ((Str.ofString ";" ++ (c ++ Str.ofString " " ++ s))), .str (((s ++ Str.ofString " ") ++ c)), .str ((Str.ofString "0" ++ (c ++ Str.ofString " " ++ s))), .str (((c ++ Str.ofString " ") ++ Txt.slice s (some 1) none)), .str ((((c ++ Str.ofString " " ++ s) ++ Str.ofString " ") ++ s)), .str (((c ++ Str.ofString ";") ++ s)), .str (((c ++ Str.ofString ", ") ++ s)), .str ((Str.ofString "694444.10.41 " ++ s)), .str ((Str.ofString "-1.23.59 " ++ s)), .str (Str.ofString "none"), .str ((c ++ Str.ofString " +48.01")), .str ((c ++ Str.ofString " -48.01")), .str ((c ++ Str.ofString " -0.00")), .str ((c ++ Str.ofString " +0.60")), .str ((Str.ofString "0.24.00 " ++ s)), .str ((Str.ofString "0.00.60 " ++ s)), .str (((Str.ofString (toString r.1) ++ Str.ofString " ") ++ s)), .str (((c ++ Str.ofString " ") ++ Str.ofString (toString r.2)))]) := upd_same
    have C4 := Same.new (.lst ([.str (Str.ofString ""), .str (Str.ofString " "), .str (c), .str (s), .str ((c ++ s)), .str (((c ++ Str.ofString "  ") ++ s)), .str ((Str.ofString " " ++ (c ++ Str.ofString " " ++ s))), .str (((c ++ Str.ofString " " ++ s) ++ Str.ofString " ")), .str (((c ++ Str.ofString " " ++ s) ++ Str.ofString "\n")), .str (((c ++ Str.ofString " " ++ s) ++ Str.ofString ";")), .str ((Str.ofString ";" ++ (c ++ Str.ofString " " ++ s))), .str (((s ++ Str.ofString " ") ++ c)), .str ((Str.ofString "0" ++ (c ++ Str.ofString " " ++ s))), .str (((c ++ Str.ofString " ") ++ Txt.slice s (some 1) none)), .str ((((c ++ Str.ofString " " ++ s) ++ Str.ofString " ") ++ s)), .str (((c ++ Str.ofString ";") ++ s)), .str (((c ++ Str.ofString ", ") ++ s)), .str ((Str.ofString "694444.10.41 " ++ s)), .str ((Str.ofString "-1.23.59 " ++ s)), .str (Str.ofString "none"), .str ((c ++ Str.ofString " +48.01")), .str ((c ++ Str.ofString " -48.01")), .str ((c ++ Str.ofString " -0.00")), .str ((c ++ Str.ofString " +0.60")), .str ((Str.ofString "0.24.00 " ++ s))] ++ [.str ((Str.ofString "0.00.60 " ++ s)), .str (((Str.ofString (toString r.1) ++ Str.ofString " ") ++ s)), .str (((c ++ Str.ofString " ") ++ Str.ofString (toString r.2)))])) g4
    have D4 := A4.trans C4
    try dsimp only
    generalize upd K4 c4 (.lst ([.str (Str.ofString ""), .str (Str.ofString " "), .str (c), .str (s), .str ((c ++ s)), .str (((c ++ Str.ofString "  ") ++ s)), .str ((Str.ofString " " ++ (c ++ Str.ofString " " ++ s))), .str (((c ++ Str.ofString " " ++ s) ++ Str.ofString " ")), .str (((c ++ Str.ofString " " ++ s) ++ Str.ofString "\n")), .str (((c ++ Str.ofString " " ++ s) ++ Str.ofString ";")), .str ((Str.ofString ";" ++ (c ++ Str.ofString " " ++ s))), .str (((s ++ Str.ofString " ") ++ c)), .str ((Str.ofString "0" ++ (c ++ Str.ofString " " ++ s))), .str (((c ++ Str.ofString " ") ++ Txt.slice s (some 1) none)), .str ((((c ++ Str.ofString " " ++ s) ++ Str.ofString " ") ++ s)), .str (((c ++ Str.ofString ";") ++ s)), .str (((c ++ Str.ofString ", ") ++ s)), .str ((Str.ofString "694444.10.41 " ++ s)), .str ((Str.ofString "-1.23.59 " ++ s)), .str (Str.ofString "none"), .str ((c ++ Str.ofString " +48.01")), .str ((c ++ Str.ofString " -48.01")), .str ((c ++ Str.ofString " -0.00")), .str ((c ++ Str.ofString " +0.60")), .str ((Str.ofString "0.24.00 " ++ s))] ++ [.str ((Str.ofString "0.00.60 " ++ s)), .str (((Str.ofString (toString r.1) ++ Str.ofString " ") ++ s)), .str (((c ++ Str.ofString " ") ++ Str.ofString (toString r.2)))])) = M4 at d4 C4 D4 ⊢
    try unfold tNext
    try dsimp only
    refine ⟨_, rfl, _, rfl, .inr (.inr ⟨_, _, rfl, rfl, cat2 lg1 (lenK "0" 1 (by decide +kernel)) (by decide), _, rfl, .inr (.inr ⟨_, _, rfl, rfl, cat2 lg1 (lenK ";" 1 (by decide +kernel)) (by decide), _, rfl, .inr (.inr ⟨_, _, rfl, rfl, cat2 (len_app lg1 (lenK ";" 1 (by decide +kernel))) lg1 (by decide), small60 (Nat.le_of_ble_eq_true rfl), fun l5 f5 => ?_⟩)⟩)⟩)⟩
    have e5 : (upd M4 l5 (.lst [.str (((c ++ Str.ofString " " ++ s) ++ Str.ofString "0")), .str ((((c ++ Str.ofString " " ++ s) ++ Str.ofString ";") ++ (c ++ Str.ofString " " ++ s)))])) l5 = some (.lst [.str (((c ++ Str.ofString " " ++ s) ++ Str.ofString "0")), .str ((((c ++ Str.ofString " " ++ s) ++ Str.ofString ";") ++ (c ++ Str.ofString " " ++ s)))]) := upd_same
    have B5 := Same.new (.lst [.str (((c ++ Str.ofString " " ++ s) ++ Str.ofString "0")), .str ((((c ++ Str.ofString " " ++ s) ++ Str.ofString ";") ++ (c ++ Str.ofString " " ++ s)))]) f5
    have A5 := D4.trans B5
    try dsimp only
    generalize upd M4 l5 (.lst [.str (((c ++ Str.ofString " " ++ s) ++ Str.ofString "0")), .str ((((c ++ Str.ofString " " ++ s) ++ Str.ofString ";") ++ (c ++ Str.ofString " " ++ s)))]) = K5 at e5 B5 A5 ⊢
    refine .inr (.inl ⟨c4, l5, _, _, rfl, rfl, B5 _ _ d4, e5, small60 (Nat.le_of_ble_eq_true rfl), fun c5 g5 => ?_⟩)
    have d5 : (upd K5 c5 (.lst ([.str (Str.ofString ""), .str (Str.ofString " "), .str (c), .str (s), .str ((c ++ s)), .str (((c ++ Str.ofString "  ") ++ s)), .str ((Str.ofString " " ++ (c ++ Str.ofString " " ++ s))), .str (((c ++ Str.ofString " " ++ s) ++ Str.ofString " ")), .str (((c ++ Str.ofString " " ++ s) ++ Str.ofString "\n")), .str (((c ++ Str.ofString " " ++ s) ++ Str.ofString ";")), .str ((Str.ofString ";" ++ (c ++ Str.ofString " " ++ s))), .str (((s ++ Str.ofString " ") ++ c)), .str ((Str.ofString "0" ++ (c ++ Str.ofString " " ++ s))), .str (((c ++ Str.ofString " ") ++ Txt.slice s (some 1) none)), .str ((((c ++ Str.ofString " " ++ s) ++ Str.ofString " ") ++ s)), .str (((c ++ Str.ofString ";") ++ s)), .str (((c ++ Str.ofString ", ") ++ s)), .str ((Str.ofString "694444.10.41 " ++ s)), .str ((Str.ofString "-1.23.59 " ++ s)), .str (Str.ofString "none"), .str ((c ++ Str.ofString " +48.01")), .str ((c ++ Str.ofString " -48.01")), .str ((c ++ Str.ofString " -0.00")), .str ((c ++ Str.ofString " +0.60")), .str ((Str.ofString "0.24.00 " ++ s)), .str ((Str.ofString "0.00.60 " ++ s)), .str (((Str.ofString (toString r.1) ++ Str.ofString " ") ++ s)), .str (((c ++ Str.ofString " ") ++ Str.ofString (toString r.2)))] ++ [.str (((c ++ Str.ofString " " ++ s) ++ Str.ofString "0")), .str ((((c ++ Str.ofString " " ++ s) ++ Str.ofString ";") ++ (c ++ Str.ofString " " ++ s)))]))) c5 = some (.lst [.str (Str.ofString ""), .str (Str.ofString " "), .str (c), .str (s), .str ((c ++ s)), .str (((c ++ Str.ofString "  ") ++ s)), .str ((Str.ofString " " ++ (c ++ Str.ofString " " ++ s))), .str (((c ++ Str.ofString " " ++ s) ++ Str.ofString " ")), .str (((c ++ Str.ofString " " ++ s) ++ Str.ofString "\n")), .str (((c ++ Str.ofString " " ++ s) ++ Str.ofString ";")), .str ((Str.ofString ";" ++ (c ++ Str.ofString " " ++ s))), .str (((s ++ Str.ofString " ") ++ c)), .str ((Str.ofString "0" ++ (c ++ Str.ofString " " ++ s))), .str (((c ++ Str.ofString " ") ++ Txt.slice s (some 1) none)), .str ((((c ++ Str.ofString " " ++ s) ++ Str.ofString " ") ++ s)), .str (((c ++ Str.ofString ";") ++ s)), .str (((c ++ Str.ofString ", ") ++ s)), .str ((Str.ofString "694444.10.41 " ++ s)), .str ((Str.ofString "-1.23.59 " ++ s)), .str (Str.ofString "none"), .str ((c ++ Str.ofString " +48.01")), .str ((c ++ Str.ofString " -48.01")), .str ((c ++ Str.ofString " -0.00")), .str ((c ++ Str.ofString " +0.60")), .str ((Str.ofString "0.24.00 " ++ s)), .str ((Str.ofString "0.00.60 " ++ s)), .str (((Str.ofString (toString r.1) ++ Str.ofString " ") ++ s)), .str (((c ++ Str.ofString " ") ++ Str.ofString (toString r.2))), .str (((c ++ Str.ofString " " ++ s) ++ Str.ofString "0")), .str ((((c ++ Str.ofString " " ++ s) ++ Str.ofString ";") ++ (c ++ Str.ofString " " ++ s)))]) := upd_same
    have C5 := Same.new (.lst ([.str (Str.ofString ""), .str (Str.ofString " "), .str (c), .str (s), .str ((c ++ s)), .str (((c ++ Str.ofString "  ") ++ s)), .str ((Str.ofString " " ++ (c ++ Str.ofString " " ++ s))), .str (((c ++ Str.ofString " " ++ s) ++ Str.ofString " ")), .str (((c ++ Str.ofString " " ++ s) ++ Str.ofString "\n")), .str (((c ++ Str.ofString " " ++ s) ++ Str.ofString ";")), .str ((Str.ofString ";" ++ (c ++ Str.ofString " " ++ s))), .str (((s ++ Str.ofString " ") ++ c)), .str ((Str.ofString "0" ++ (c ++ Str.ofString " " ++ s))), .str (((c ++ Str.ofString " ") ++ Txt.slice s (some 1) none)), .str ((((c ++ Str.ofString " " ++ s) ++ Str.ofString " ") ++ s)), .str (((c ++ Str.ofString ";") ++ s)), .str (((c ++ Str.ofString ", ") ++ s)), .str ((Str.ofString "694444.10.41 " ++ s)), .str ((Str.ofString "-1.23.59 " ++ s)), .str (Str.ofString "none"), .str ((c ++ Str.ofString " +48.01")), .str ((c ++ Str.ofString " -48.01")), .str ((c ++ Str.ofString " -0.00")), .str ((c ++ Str.ofString " +0.60")), .str ((Str.ofString "0.24.00 " ++ s)), .str ((Str.ofString "0.00.60 " ++ s)), .str (((Str.ofString (toString r.1) ++ Str.ofString " ") ++ s)), .str (((c ++ Str.ofString " ") ++ Str.ofString (toString r.2)))] ++ [.str (((c ++ Str.ofString " " ++ s) ++ Str.ofString "0")), .str ((((c ++ Str.ofString " " ++ s) ++ Str.ofString ";") ++ (c ++ Str.ofString " " ++ s)))])) g5
    have D5 := A5.trans C5
    try dsimp only
    generalize upd K5 c5 (.lst ([.str (Str.ofString ""), .str (Str.ofString " "), .str (c), .str (s), .str ((c ++ s)), .str (((c ++ Str.ofString "  ") ++ s)), .str ((Str.ofString " " ++ (c ++ Str.ofString " " ++ s))), .str (((c ++ Str.ofString " " ++ s) ++ Str.ofString " ")), .str (((c ++ Str.ofString " " ++ s) ++ Str.ofString "\n")), .str (((c ++ Str.ofString " " ++ s) ++ Str.ofString ";")), .str ((Str.ofString ";" ++ (c ++ Str.ofString " " ++ s))), .str (((s ++ Str.ofString " ") ++ c)), .str ((Str.ofString "0" ++ (c ++ Str.ofString " " ++ s))), .str (((c ++ Str.ofString " ") ++ Txt.slice s (some 1) none)), .str ((((c ++ Str.ofString " " ++ s) ++ Str.ofString " ") ++ s)), .str (((c ++ Str.ofString ";") ++ s)), .str (((c ++ Str.ofString ", ") ++ s)), .str ((Str.ofString "694444.10.41 " ++ s)), .str ((Str.ofString "-1.23.59 " ++ s)), .str (Str.ofString "none"), .str ((c ++ Str.ofString " +48.01")), .str ((c ++ Str.ofString " -48.01")), .str ((c ++ Str.ofString " -0.00")), .str ((c ++ Str.ofString " +0.60")), .str ((Str.ofString "0.24.00 " ++ s)), .str ((Str.ofString "0.00.60 " ++ s)), .str (((Str.ofString (toString r.1) ++ Str.ofString " ") ++ s)), .str (((c ++ Str.ofString " ") ++ Str.ofString (toString r.2)))] ++ [.str (((c ++ Str.ofString " " ++ s) ++ Str.ofString "0")), .str ((((c ++ Str.ofString " " ++ s) ++ Str.ofString ";") ++ (c ++ Str.ofString " " ++ s)))])) = M5 at d5 C5 D5 ⊢
    exact kk c5 [Str.ofString "", Str.ofString " ", c, s, (c ++ s), ((c ++ Str.ofString "  ") ++ s), (Str.ofString " " ++ (c ++ Str.ofString " " ++ s)), ((c ++ Str.ofString " " ++ s) ++ Str.ofString " "), ((c ++ Str.ofString " " ++ s) ++ Str.ofString "\n"), ((c ++ Str.ofString " " ++ s) ++ Str.ofString ";"), (Str.ofString ";" ++ (c ++ Str.ofString " " ++ s)), ((s ++ Str.ofString " ") ++ c), (Str.ofString "0" ++ (c ++ Str.ofString " " ++ s)), ((c ++ Str.ofString " ") ++ Txt.slice s (some 1) none), (((c ++ Str.ofString " " ++ s) ++ Str.ofString " ") ++ s), ((c ++ Str.ofString ";") ++ s), ((c ++ Str.ofString ", ") ++ s), (Str.ofString "694444.10.41 " ++ s), (Str.ofString "-1.23.59 " ++ s), Str.ofString "none", (c ++ Str.ofString " +48.01"), (c ++ Str.ofString " -48.01"), (c ++ Str.ofString " -0.00"), (c ++ Str.ofString " +0.60"), (Str.ofString "0.24.00 " ++ s), (Str.ofString "0.00.60 " ++ s), ((Str.ofString (toString r.1) ++ Str.ofString " ") ++ s), ((c ++ Str.ofString " ") ++ Str.ofString (toString r.2)), ((c ++ Str.ofString " " ++ s) ++ Str.ofString "0"), (((c ++ Str.ofString " " ++ s) ++ Str.ofString ";") ++ (c ++ Str.ofString " " ++ s))] _ D5 d5 rfl bo
end
end K18
set_option Elab.async false
set_option linter.all false
set_option maxRecDepth 100000
namespace K18
open PySem L2 PySem.NumText PyProof.Rows KC M18
section
variable {P : Program} {w : World} {K : PySem.W.Frag} {mg : Str → Option Value} {base : Heap}
end
theorem join_is (ys : List Str) : Txt.join (Str.ofString "; ") ys = Str.join sc ys := by
  show Builtin.Str.glued (Str.ofString "; ") ys = _
  rw [StrLaws.glued_eq_join, sc_is]
noncomputable def TX (ys : List Str) (rows : List (Int × Int)) : Prop := ys.map (fun p => p.cps.toList) = rows.map rowL
theorem TX.len {ys : List Str} {rows : List (Int × Int)} (h : TX ys rows) : ys.length = rows.length := by
  have := congrArg List.length h
  simpa using this
theorem TX.take {ys : List Str} {rows : List (Int × Int)} (h : TX ys rows) (n : Nat) : TX (ys.take n) (rows.take n) := by
  unfold TX at *
  rw [List.map_take, List.map_take, h]
theorem TX.drop {ys : List Str} {rows : List (Int × Int)} (h : TX ys rows) (n : Nat) : TX (ys.drop n) (rows.drop n) := by
  unfold TX at *
  rw [List.map_drop, List.map_drop, h]
theorem TX.app {ys zs : List Str} {rows rs : List (Int × Int)} (h : TX ys rows) (g : TX zs rs) : TX (ys ++ zs) (rows ++ rs) := by
  unfold TX at *
  rw [List.map_append, List.map_append, h, g]
theorem TX.rep {ys : List Str} {rows : List (Int × Int)} (h : TX ys rows) : ∀ n : Nat, TX (List.replicate n ys).flatten (List.replicate n rows).flatten
  | 0 => rfl
  | n + 1 => by
    rw [List.replicate_succ, List.replicate_succ, List.flatten_cons, List.flatten_cons]
    exact h.app (TX.rep h n)
theorem TX.get {ys : List Str} {rows : List (Int × Int)} (h : TX ys rows) {i : Nat} {r : Int × Int} (e : rows[i]? = some r) : ∃ y, ys[i]? = some y ∧ y.cps.toList = rowL r := by
  have h1 : (ys.map (fun p => p.cps.toList))[i]? = some (rowL r) := by rw [h, List.getElem?_map, e]; rfl
  obtain ⟨y, hy, ey⟩ := map_get h1
  exact ⟨y, hy, ey.symm⟩
theorem TX.two {y z : Str} {r s : Int × Int} (h : y.cps.toList = rowL r) (g : z.cps.toList = rowL s) : TX [y, z] [r, s] := by
  unfold TX
  simp [h, g]
theorem TX.mem {ys : List Str} {rows : List (Int × Int)} (h : TX ys rows) {y : Str} (m : y ∈ ys) : ∃ r ∈ rows, y.cps.toList = rowL r := by
  have : y.cps.toList ∈ rows.map rowL := by rw [← h]; exact List.mem_map.mpr ⟨y, m, rfl⟩
  obtain ⟨r, mr, er⟩ := List.mem_map.mp this
  exact ⟨r, mr, er.symm⟩
noncomputable def Fit (y : Str) : Prop := No y.cps.toList ∧ y.length ≤ 200
theorem TX.fit {ys : List Str} {rows : List (Int × Int)} (h : TX ys rows) (ok : ∀ r ∈ rows, okR r) : ∀ y ∈ ys, Fit y := fun y m => by
  obtain ⟨r, mr, er⟩ := h.mem m
  refine ⟨by rw [er]; exact no_free (rowL_semi r), ?_⟩
  rw [← len_toList, er]
  exact Nat.le_trans (rowL_len (ok r mr)) (by decide)
theorem rp_rows : ∀ (rows : List (Int × Int)) (ys : List Str) (acc : List (Int × Int)) (i : Nat) (rest : List Str), TX ys rows → (∀ r ∈ rows, okR r) → rp acc i (ys ++ rest) = rp (acc ++ rows) (i + rows.length) rest
  | [], ys, acc, i, rest, h, _ => by
    have : ys = [] := List.eq_nil_of_length_eq_zero h.len
    subst this
    rw [List.append_nil]; rfl
  | r :: rows, ys, acc, i, rest, h, ok => by
    cases ys with
    | nil => have := h.len; simp at this
    | cons y ys =>
      unfold TX at h
      simp only [List.map_cons, List.cons.injEq] at h
      have hr : rowT y.cps.toList = some r := by rw [h.1]; exact rowT_good (ok r (by simp))
      rw [List.cons_append, rp_on hr, rp_rows rows ys _ _ rest h.2 fun z m => ok z (List.mem_cons_of_mem _ m), List.append_assoc, List.length_cons]
      congr 1
      omega
theorem rp_all {rows : List (Int × Int)} {ys : List Str} (h : TX ys rows) (ok : ∀ r ∈ rows, okR r) : rp [] 0 ys = .inr rows := by
  have := rp_rows rows ys [] 0 [] h ok
  rw [List.append_nil] at this
  rw [this]; rfl
theorem rp_at {rows : List (Int × Int)} {ys rest : List Str} {y : Str} (h : TX ys rows) (ok : ∀ r ∈ rows, okR r) (hy : rowT y.cps.toList = none) : rp [] 0 (ys ++ y :: rest) = .inl rows.length := by
  rw [rp_rows rows ys [] 0 (y :: rest) h ok, rp_no hy, Nat.zero_add]
theorem th_join {H : Hp} {zs : List Str} (ne : zs ≠ []) (hl : zs.length ≤ 60) (h : ∀ z ∈ zs, Fit z) : Th H (.str (Str.join sc zs)) ∧ tabV (.str (Str.join sc zs)) = rp [] 0 zs ∧ (zs.map (·.length)).sum + zs.length * (Str.ofString "; ").length ≤ 16777216 := by
  have hs := split_join ne fun z m => (h z m).1
  have sl := sum_le fun z m => (h z m).2
  have jl := join_len (m := 200) fun z m => (h z m).2
  have e2 : (Str.ofString "; ").length = 2 := by decide +kernel
  have b : zs.length * 200 ≤ 60 * 200 := Nat.mul_le_mul_right _ hl
  refine ⟨⟨⟨_, rfl⟩, fun x e => ?_⟩, ?_, by rw [e2]; omega⟩
  · cases e
    refine ⟨by omega, ?_⟩
    rw [hs]
    exact fun y m => (h y m).2
  · show rp [] 0 (Txt.split (Str.join sc zs) sc) = _
    rw [hs]
theorem Bad.fit {y : Str} (h : Bad y) : Fit y := ⟨h.no, h.len⟩
noncomputable def Up : Option Int → List (Int × Int) → Prop
  | _, [] => True
  | p, r :: rs => stand p r.1 = true ∧ Up (some r.1) rs
noncomputable def lst_ : Option Int → List (Int × Int) → Option Int
  | p, [] => p
  | _, r :: rs => lst_ (some r.1) rs
theorem fb_app : ∀ (pre : List (Int × Int)) (p : Option Int) (i : Nat) (rest : List (Int × Int)), Up p pre → fb p i (pre ++ rest) = fb (lst_ p pre) (i + pre.length) rest
  | [], p, i, rest, _ => rfl
  | r :: rs, p, i, rest, h => by
    rw [List.cons_append]
    simp only [fb, h.1, if_true, lst_]
    rw [fb_app rs _ _ rest h.2, List.length_cons]
    congr 1
    omega
theorem fb_no {p : Option Int} {i : Nat} {r : Int × Int} {rs : List (Int × Int)} (h : stand p r.1 = false) : fb p i (r :: rs) = some i := by simp only [fb, h]; rfl
theorem up_take : ∀ (n : Nat) {p : Option Int} {rows : List (Int × Int)}, Up p rows → Up p (rows.take n)
  | 0, p, rows, _ => by rw [List.take_zero]; exact True.intro
  | n + 1, p, [], _ => True.intro
  | n + 1, p, r :: rs, h => ⟨h.1, up_take n h.2⟩
theorem up_asc : ∀ {p : Int} {rows : List (Int × Int)}, (∀ r ∈ rows, p < r.1) → Asc rows → Up (some p) rows
  | _, [], _, _ => True.intro
  | p, r :: rs, h, a => ⟨decide_eq_true (h r (by simp)), up_asc (List.pairwise_cons.mp a).1 (List.pairwise_cons.mp a).2⟩
theorem Good.up {rows : List (Int × Int)} (g : Good rows) : Up none rows := by
  obtain ⟨n, hn⟩ := g.fst
  cases rows with
  | nil => cases hn
  | cons r rs =>
    have e : r = (0, n) := by simpa using hn
    subst e
    exact ⟨rfl, up_asc (List.pairwise_cons.mp g.asc).1 (List.pairwise_cons.mp g.asc).2⟩
theorem lst_take : ∀ (n : Nat) {p : Option Int} {rows : List (Int × Int)} {r : Int × Int}, rows[n]? = some r → lst_ p (rows.take (n + 1)) = some r.1
  | _, _, [], _, e => by simp at e
  | 0, p, x :: rs, r, e => by
    have : x = r := by simpa using e
    subst this; rfl
  | n + 1, p, x :: rs, r, e => by
    show lst_ (some x.1) (rs.take (n + 1)) = _
    exact lst_take n (by simpa using e)
theorem asc_lt {rows : List (Int × Int)} (a : Asc rows) {i j : Nat} {r s : Int × Int} (hi : rows[i]? = some r) (hj : rows[j]? = some s) (h : i < j) : r.1 < s.1 := by
  obtain ⟨l1, e1⟩ := List.getElem?_eq_some_iff.mp hi
  obtain ⟨l2, e2⟩ := List.getElem?_eq_some_iff.mp hj
  have := List.pairwise_iff_getElem.mp a i j l1 l2 h
  rw [e1, e2] at this
  exact this
theorem drop_cons {α : Type} {xs : List α} {i : Nat} {x : α} (h : xs[i]? = some x) : xs.drop i = x :: xs.drop (i + 1) := by
  obtain ⟨l1, e1⟩ := List.getElem?_eq_some_iff.mp h
  rw [List.drop_eq_getElem_cons l1, e1]
theorem flt_dup {rows : List (Int × Int)} (g : Good rows) {k : Nat} (hk : k < rows.length) : flt (rows.take (k + 1) ++ rows.drop k) = some (if rows.length = 21 then 21 else k + 1) := by
  have few := g.few
  have hl : (rows.take (k + 1) ++ rows.drop k).length = rows.length + 1 := by rw [List.length_append, List.length_take, List.length_drop]; omega
  unfold flt
  rw [hl]
  by_cases e : rows.length = 21
  · rw [if_pos (by omega), if_pos e]
  · obtain ⟨r, hr⟩ : ∃ r, rows[k]? = some r := ⟨_, List.getElem?_eq_getElem hk⟩
    rw [if_neg (by omega), if_neg e, fb_app _ _ _ _ (up_take _ g.up), lst_take k hr, drop_cons hr, fb_no (p := some r.1) (show stand (some r.1) r.1 = false from decide_eq_false (Int.lt_irrefl _)), List.length_take]
    congr 1
    omega
theorem flt_many {rows : List (Int × Int)} (h : rows.length = 22) : flt rows = some 21 := by unfold flt; rw [if_pos (by omega)]
theorem flt_swap {rows : List (Int × Int)} (g : Good rows) {k : Nat} {r s : Int × Int} (hr : rows[k]? = some r) (hs : rows[k + 1]? = some s) : flt (rows.take k ++ [s, r] ++ rows.drop (k + 2)) = some (if 0 < k then k + 1 else 0) := by
  have few := g.few
  have hk : k + 1 < rows.length := (List.getElem?_eq_some_iff.mp hs).1
  have hl : (rows.take k ++ [s, r] ++ rows.drop (k + 2)).length ≤ 21 := by
    rw [List.length_append, List.length_append, List.length_take, List.length_drop]
    show min k rows.length + 2 + _ ≤ 21
    omega
  have lt := asc_lt g.asc hr hs (Nat.lt_succ_self k)
  unfold flt
  rw [if_neg (by omega), List.append_assoc, fb_app _ _ _ _ (up_take _ g.up), List.length_take, Nat.min_eq_left (by omega), Nat.zero_add]
  rcases Nat.eq_zero_or_pos k with e | e
  · subst e
    obtain ⟨n, hn⟩ := g.fst
    have er : r.1 = 0 := by
      rw [List.head?_eq_getElem?, hr] at hn
      rw [Option.some.inj hn]
    rw [if_neg (by decide)]
    exact fb_no (decide_eq_false (by omega))
  · obtain ⟨j, rfl⟩ : ∃ j, k = j + 1 := ⟨k - 1, by omega⟩
    obtain ⟨q, hq⟩ : ∃ q, rows[j]? = some q := ⟨_, List.getElem?_eq_getElem (by omega)⟩
    have lt2 := asc_lt g.asc hq hs (by omega)
    rw [if_pos e, lst_take j hq]
    show fb (some q.1) (j + 1) (s :: r :: rows.drop (j + 1 + 2)) = _
    have h1 : stand (some q.1) s.1 = true := decide_eq_true lt2
    rw [show fb (some q.1) (j + 1) (s :: r :: rows.drop (j + 1 + 2)) = fb (some s.1) (j + 1 + 1) (r :: rows.drop (j + 1 + 2)) by simp only [fb, h1, if_true]]
    exact fb_no (decide_eq_false (by omega))
theorem flt_tail {rows : List (Int × Int)} (g : Good rows) (h : 1 < rows.length) : flt (rows.drop 1) = some 0 := by
  have few := g.few
  obtain ⟨s, hs⟩ : ∃ s, rows[1]? = some s := ⟨_, List.getElem?_eq_getElem h⟩
  obtain ⟨r, hr⟩ : ∃ r, rows[0]? = some r := ⟨_, List.getElem?_eq_getElem (by omega)⟩
  have lt := asc_lt g.asc hr hs (by decide)
  have r0 := (g.ok r (List.mem_of_getElem? hr)).1
  unfold flt
  rw [if_neg (by rw [List.length_drop]; omega), drop_cons hs]
  exact fb_no (decide_eq_false (by omega))
theorem rep_strs (ys : List Str) : ∀ n : Nat, (List.replicate n (ys.map V.str)).flatten = ((List.replicate n ys).flatten).map V.str
  | 0 => rfl
  | n + 1 => by rw [List.replicate_succ, List.replicate_succ, List.flatten_cons, List.flatten_cons, List.map_append, rep_strs ys n]
theorem rep_len {α : Type} (ys : List α) (n : Nat) : (List.replicate n ys).flatten.length = n * ys.length := by
  induction n with
  | zero => simp
  | succ n ih => rw [List.replicate_succ, List.flatten_cons, List.length_append, ih, Nat.succ_mul, Nat.add_comm]
theorem rep_mem' {α : Type} {ys : List α} {x : α} : ∀ {n : Nat}, x ∈ (List.replicate n ys).flatten → x ∈ ys
  | 0, h => by simp at h
  | n + 1, h => by
    rw [List.replicate_succ, List.flatten_cons] at h
    exact (List.mem_append.mp h).elim id rep_mem'
theorem Good.rw {rows : List (Int × Int)} (g : Good rows) : Rw rows := ⟨g.few, g.ne, g.ok⟩
theorem strs_at {zs : List Str} {i : Int} (h0 : 0 ≤ i) (h1 : i < zs.length) : ∃ y, atI (zs.map V.str) i = some (.str y) ∧ y ∈ zs := by
  obtain ⟨v, h, m⟩ := atI_mem (xs := zs.map V.str) h0 (by rw [List.length_map]; exact h1)
  obtain ⟨y, my, rfl⟩ := List.mem_map.mp m
  exact ⟨y, h, my⟩
theorem cut_strs (zs : List Str) (lo hi : Option Int) : ∃ ys : List Str, cutV (zs.map V.str) lo hi = ys.map V.str ∧ ys.length ≤ zs.length ∧ ∀ y ∈ ys, y ∈ zs := by
  refine ⟨(zs.drop (HT.sIx (zs.map V.str).length 0 lo)).take (HT.sIx (zs.map V.str).length (zs.map V.str).length hi - HT.sIx (zs.map V.str).length 0 lo), ?_, ?_, fun y m => List.mem_of_mem_drop (List.mem_of_mem_take m)⟩
  · unfold cutV
    rw [List.map_take, List.map_drop]
  · exact Nat.le_trans (List.length_take_le' _ _) (by rw [List.length_drop]; exact Nat.sub_le _ _)
section
variable {P : Program} {w : World} {K : PySem.W.Frag} {mg : Str → Option Value} {base : Heap}
theorem ok_Lparts_refused {a : Ad} (T : Txt K mg a) : FnOk P w K mg base CX0 10 a.f_Lparts_refused a.fd_Lparts_refused ["_law_rows_here", "_law_xs"] (sp_Lparts_refused a) := by
  have G_Lbad : FnOk P w K mg base CX0 3 a.f_Lbad a.fd_Lbad ["_law_row_here"] sp_Lbad := ok_Lbad T
  have G_Lrefused : FnOk P w K mg base CX0 9 a.f_Lrefused a.fd_Lrefused ["_law_text", "_law_kind", "_law_due"] (sp_Lrefused a) := ok_Lrefused T
  have G_Lshift : FnOk P w K mg base CX0 2 a.f_Lshift a.fd_Lshift ["_law_shift_here"] sp_Lshift := ok_Lshift T
  have G_Lclock : FnOk P w K mg base CX0 2 a.f_Lclock a.fd_Lclock ["_law_number"] sp_Lclock := ok_Lclock T
  refine T.d_Lparts_refused.F.ok sc_Lparts_refused (fun vs H Q E h => ?_) (fun cdv A outer s H vs Q E hr h => ?_)
  · obtain ⟨q, d, rows, x0, x1, x2, x3, rfl, hrs, rw, hd, p0, p1, kk⟩ := h
    rfl
  · obtain ⟨q, d, rows, x0, x1, x2, x3, rfl, hrs, rw, hd, p0, p1, kk⟩ := h
    have hu := hu_of hr
    have hU := hr.units
    have h_Lbad : Room (3) _ := hr.mono (by decide)
    have h_Lrefused : Room (9) _ := hr.mono (by decide)
    have h_Lshift : Room (2) _ := hr.mono (by decide)
    have h_Lclock : Room (2) _ := hr.mono (by decide)
    refine ⟨_, (pss_cons (ps_setC (i := 2) sc_Lparts_refused.nd rfl (Or.inl rfl) rfl (CompOk.def ["_law_row_here"] [none]) (pi_list (pv 0)) (fun _ _ _ _ _ => (pg_name (i := 0) (show List.Nodup (["_law_row_here"] : List Str) by decide +kernel) rfl (Or.inl rfl))) (fun _ _ _ _ _ => pts_nil) (fun _ _ _ _ _ => (pe_op uAdd (pe_op uAdd (pe_call G_Lclock h_Lclock rfl T.d_Lclock.m T.d_Lclock.k T.d_Lclock.b .nil pass0 (pa_cons (pe_ix (r := rIx K) ix_seq (pv 0) pe_int (fun _ _ => rfl)) pa_nil)) pe_str) (pe_call G_Lshift h_Lshift rfl T.d_Lshift.m T.d_Lshift.k T.d_Lshift.b .nil pass0 (pa_cons (pe_ix (r := rIx K) ix_seq (pv 0) pe_int (fun _ _ => rfl)) pa_nil)))))
      (pss_cons (ps_set (i := 3) sc_Lparts_refused.nd rfl (Or.inl rfl) (pe_op op_mod (pe_ix (r := rIx K) ix_seq (pv 1) pe_int (fun _ _ => rfl)) (pe_op uAdd (pe_callB call_len (by rfl) T.n_len boot_len' (pa_cons (pv 2) pa_nil)) pe_int)))
      (pss_cons (ps_set (i := 4) sc_Lparts_refused.nd rfl (Or.inl rfl) (pe_ix (r := rIx K) ix_seq (pv 0) (pe_callB (call_max2 rfl) (by rfl) T.n_max boot_max' (pa_cons pe_int (pa_cons (pe_op op_sub (pv 3) pe_int) pa_nil))) (fun _ _ => rfl)))
      (pss_cons (ps_set (i := 5) sc_Lparts_refused.nd rfl (Or.inl rfl) (pe_call G_Lbad h_Lbad rfl T.d_Lbad.m T.d_Lbad.k T.d_Lbad.b .nil pass0 (pa_cons (pv 4) pa_nil)))
      (pss_cons (ps_set (i := 6) sc_Lparts_refused.nd rfl (Or.inl rfl) (pe_slice uSl (pv 2) (po_some (pe_op uAdd (pv 3) (pe_ix (r := rIx K) ix_seq (pv 1) pe_int (fun _ _ => rfl)))) po_none))
      (pss_cons (ps_if (pt_cmpR (uEq hU) (pe_ix (r := rIx K) ix_seq (pv 1) pe_int (fun _ _ => rfl)) pe_int (nomark _))
        (pss_one (ps_set (i := 6) sc_Lparts_refused.nd rfl (Or.inl rfl) (pe_op uAdd (pv 6) (pe_lst (pa_cons pe_str pa_nil)))))
        pss_nil)
      (pss_one (ps_ret (pe_call G_Lrefused h_Lrefused rfl T.d_Lrefused.m T.d_Lrefused.k T.d_Lrefused.b .nil pass0 (pa_cons (pe_bm PySem.F.plainAttrs_str PySem.F.slot_str_join PySem.F.type_str_join mt_join pe_str (pa_cons (pe_op uAdd (pe_op uAdd (pe_slice uSl (pv 2) po_none (po_some (pv 3))) (pe_lst (pa_cons (pe_ix (r := rIx K) ix_seq (pv 5) (pe_op op_mod (pe_ix (r := rIx K) ix_seq (pv 1) pe_int (fun _ _ => rfl)) (pe_callB call_len (by rfl) T.n_len boot_len' (pa_cons (pv 5) pa_nil))) (fun _ _ => rfl)) pa_nil))) (pv 6)) pa_nil)) (pa_cons pe_str (pa_cons (pv 3) pa_nil)))))))))))), ?_⟩
    try dsimp only [cxOf, Cx.nox]
    obtain ⟨zz, hq0, tp0⟩ := id hrs
    have lz0 : zz.length = rows.length := tp0.1
    refine ⟨_, rfl, q, rfl, ⟨_, SqL.of hq0⟩, fun D fD => ?_⟩
    refine comp_list (K := K) (a := q) (xs := zz) (D := D) (fun j σ H2 => ∃ (c0 : Option V) (ys : List Str), σ = [c0] ∧ Same H H2 ∧ H2 D = some (.lst (ys.map V.str)) ∧ TX ys (rows.take j)) ⟨none, [], rfl, Same.new _ fD, upd_same, rfl⟩ (fun j σ H2 _ ⟨_, _, _, S', _⟩ => SqL.of (S' _ _ hq0)) ?_ ?_
    · rintro j z σ H2 hz ⟨c0, ys, rfl, S', hC, hy⟩
      obtain ⟨r, u, hr', rfl, hu'⟩ := tp0.of hz
      have hu2 := S' _ _ hu'
      have okr := rw.ok r (List.mem_of_getElem? hr')
      have ly : ys.length ≤ 64 := by
        have := hy.len
        rw [List.length_take] at this
        have := rw.few
        omega
      refine ⟨_, rfl, .inr (.inl ⟨u, _, _, _, rfl, rfl, SqT.of hu2, rfl, r.1, rfl, ok_sm okr, fun xc ec => ?_⟩)⟩
      have l1 : xc.length ≤ 37 := by rw [← len_toList, ec]; exact clL_len (ok_sm okr).1 (ok_sm okr).2
      refine .inr (.inr ⟨_, _, rfl, rfl, cat2 l1 (lenK " " 1 (by decide +kernel)) (by decide), _, rfl, .inr (.inl ⟨u, _, _, _, rfl, rfl, SqT.of hu2, rfl, r.2, rfl, ⟨okr.2.2.1, okr.2.2.2⟩, fun xs es => ?_⟩)⟩)
      have l2 : xs.length ≤ 37 := by rw [← len_toList, es]; exact shL_len ⟨okr.2.2.1, okr.2.2.2⟩
      refine .inr (.inr ⟨_, _, rfl, rfl, cat2 (len_app l1 (lenK " " 1 (by decide +kernel))) l2 (by decide), ?_⟩)
      have ez : (xc ++ Str.ofString " " ++ xs).cps.toList = rowL r := by
        rw [app_toList, app_toList, ec, es, blank]
        unfold rowL
        simp
      refine ⟨_, hC, small1000 (by rw [List.length_map]; omega), _, ys ++ [xc ++ Str.ofString " " ++ xs], rfl, S'.put fD _, (by rw [upd_same, List.map_append]; rfl), ?_⟩
      rw [List.take_add_one, hr']
      exact hy.app (show TX [xc ++ Str.ofString " " ++ xs] [r] by unfold TX; simp [ez])
    rintro σ KD ⟨c0, ys, rfl, SD, hD, hy⟩
    rw [lz0, List.take_length] at hy
    have ly := hy.len
    have fy := hy.fit rw.ok
    have hd1 := SD _ _ hd
    have fw := rw.few
    have nw := rw.ne
    try unfold tNext
    try dsimp only
    refine ⟨_, rfl, .inl ⟨d, _, _, _, rfl, rfl, SqL.of hd1, rfl, _, rfl, _, _, rfl, .inl ⟨_, SqL.of hD, rfl⟩, .inl ⟨_, _, rfl, rfl, _, _, rfl, rfl, (by show (0 : Int) < (((ys.map V.str).length : Nat) : Int) + 1; omega), ?_⟩⟩⟩
    rw [List.length_map]
    have k0 := Int.emod_nonneg x0 (show ((ys.length : Nat) : Int) + 1 ≠ 0 by omega)
    have k1 := Int.emod_lt_of_pos x0 (show (0 : Int) < ((ys.length : Nat) : Int) + 1 by omega)
    try dsimp only
    generalize x0 % (((ys.length : Nat) : Int) + 1) = kk0 at k0 k1 ⊢
    obtain ⟨k, rfl⟩ := Int.eq_ofNat_of_zero_le k0
    have hk : k ≤ rows.length := by omega
    obtain ⟨jn, ej, lj⟩ : ∃ jn : Nat, (if (k : Int) - 1 > 0 then (k : Int) - 1 else 0) = (jn : Int) ∧ jn < rows.length := ⟨k - 1, by split <;> omega, by omega⟩
    obtain ⟨r, hr'⟩ : ∃ r, rows[jn]? = some r := ⟨_, List.getElem?_eq_getElem lj⟩
    obtain ⟨zq, hq1, tp1⟩ := hrs.same SD
    obtain ⟨t, hzt, ht⟩ := tp1.at_ hr'
    have okr := rw.ok r (List.mem_of_getElem? hr')
    refine ⟨_, rfl, _, rfl, _, _, rfl, rfl, _, _, rfl, .inl ⟨q, _, _, _, rfl, rfl, SqL.of hq1, (by rw [ej]; exact atI_nat hzt), ?_⟩⟩
    refine ⟨_, rfl, t, r, rfl, ht, okr, fun b bs G2 S2 hb lb bad => ?_⟩
    have hD2 := S2 _ _ hD
    have hd2 := S2 _ _ hd1
    have SH2 := SD.trans S2
    obtain ⟨z1, ez1, lz1, mz1⟩ := cut_strs ys (some ((k : Int) + x1)) none
    refine ⟨_, rfl, _, rfl, _, rfl, .inl ⟨d, _, _, _, rfl, rfl, SqL.of hd2, rfl, .inl ⟨_, _, rfl, rfl, _, rfl, .inl ⟨D, _, rfl, SqL.of hD2, fun q1 f1 => ?_⟩⟩⟩⟩
    rw [ez1]
    have B1 := Same.new (.lst (z1.map V.str)) f1
    have h1 : (upd G2 q1 (.lst (z1.map V.str))) q1 = some (.lst (z1.map V.str)) := upd_same
    have SH3 := SH2.trans B1
    have hD3 := B1 _ _ hD2
    have hd3 := B1 _ _ hd2
    have hb3 := B1 _ _ hb
    try unfold tNext
    try dsimp only
    generalize upd G2 q1 (.lst (z1.map V.str)) = G3 at B1 h1 SH3 hD3 hd3 hb3 ⊢
    refine seq_split (t := tIfS _ _ _) (fun σ' H' => ∃ (q2 : Addr) (z2 : List Str), σ' = [some (.ref q), some (.ref d), some (.ref D), some (.int (k : Int)), some (.ref t), some (.ref b), some (.ref q2)] ∧ Same G3 H' ∧ H' q2 = some (.lst (z2.map V.str)) ∧ z2.length ≤ 22 ∧ ∀ y ∈ z2, Fit y) (fun N hN => ?_) ?_
    · have fz1 : ∀ y ∈ z1, Fit y := fun y m => fy y (mz1 y m)
      refine ⟨_, rfl, .inl ⟨d, _, _, _, rfl, rfl, SqL.of hd3, rfl, .inl ⟨rfl, _, rfl, iteD (fun g => ?_) (fun g => hN _ _ ⟨q1, z1, rfl, Same.refl _, h1, by omega, fz1⟩)⟩⟩⟩
      refine ⟨_, rfl, small60 (Nat.le_of_ble_eq_true rfl), fun l2 f2 => ?_⟩
      have B2 := Same.new (.lst [.str "no"]) f2
      refine .inr (.inl ⟨q1, l2, _, _, rfl, rfl, B2 _ _ h1, upd_same, (by rw [List.length_map]; exact small60 (by show z1.length + 1 ≤ 1000; omega)), fun l3 f3 => ?_⟩)
      have B3 := Same.new (.lst (z1.map V.str ++ [.str "no"])) f3
      refine hN _ _ ⟨l3, z1 ++ [Str.ofString "no"], rfl, B2.trans B3, (by rw [upd_same, List.map_append]; rfl), (by rw [List.length_append]; show z1.length + 1 ≤ 22; omega), fun y m => ?_⟩
      rcases List.mem_append.mp m with m | m
      · exact fz1 y m
      · rw [List.mem_singleton.mp m]
        exact ⟨no_free (by decide +kernel), by decide +kernel⟩
    rintro _ G4 ⟨q2, z2, rfl, S4, h2, l2, fz2⟩
    have hD4 := S4 _ _ hD3
    have hd4 := S4 _ _ hd3
    have hb4 := S4 _ _ hb3
    have SH4 := SH3.trans S4
    refine ⟨rfl, _, rfl, _, rfl, _, rfl, .inl ⟨D, _, rfl, SqL.of hD4, fun ca fca => ?_⟩⟩
    rw [cut_take (ys.map V.str) k _ rfl, ← List.map_take]
    have B5 := Same.new (.lst ((ys.take k).map V.str)) fca
    have hca : (upd G4 ca (.lst ((ys.take k).map V.str))) ca = some (.lst ((ys.take k).map V.str)) := upd_same
    have SH5 := SH4.trans B5
    have hb5 := B5 _ _ hb4
    have hd5 := B5 _ _ hd4
    have h5 := B5 _ _ h2
    try dsimp only
    generalize upd G4 ca (.lst ((ys.take k).map V.str)) = G5 at B5 hca SH5 hb5 hd5 h5 ⊢
    have m0 := Int.emod_nonneg x3 (show ((bs.length : Nat) : Int) ≠ 0 by omega)
    have m1 := Int.emod_lt_of_pos x3 (show (0 : Int) < ((bs.length : Nat) : Int) by omega)
    obtain ⟨by_, hby, mby⟩ := strs_at (zs := bs) (i := x3 % ((bs.length : Nat) : Int)) m0 m1
    have bb := bad by_ mby
    refine ⟨_, rfl, _, rfl, .inl ⟨d, _, _, _, rfl, rfl, SqL.of hd5, rfl, _, rfl, _, _, rfl, .inl ⟨_, SqL.of hb5, rfl⟩, _, _, rfl, rfl, (by rw [List.length_map, lb]; decide), .inl ⟨b, _, _, _, rfl, rfl, SqL.of hb5, (by rw [List.length_map]; exact hby), small60 (Nat.le_of_ble_eq_true rfl), fun cb fcb => ?_⟩⟩⟩
    have B6 := Same.new (.lst [.str by_]) fcb
    refine .inr (.inl ⟨ca, cb, _, _, rfl, rfl, B6 _ _ hca, upd_same, (by rw [List.length_map, List.length_take]; exact small60 (by show min k ys.length + 1 ≤ 1000; omega)), fun cc fcc => ?_⟩)
    have B7 := Same.new (.lst ((ys.take k).map V.str ++ [.str by_])) fcc
    refine ⟨_, rfl, .inr (.inl ⟨cc, q2, _, _, rfl, rfl, upd_same, B7 _ _ (B6 _ _ h5), (by rw [List.length_append, List.length_map, List.length_map, List.length_take]; exact small60 (by show min k ys.length + 1 + z2.length ≤ 1000; omega)), fun cd fcd => ?_⟩)⟩
    have eall : (ys.take k).map V.str ++ [.str by_] ++ z2.map V.str = (ys.take k ++ by_ :: z2).map V.str := by rw [List.map_append, List.map_cons, List.append_assoc]; rfl
    rw [eall]
    have fall : ∀ y ∈ ys.take k ++ by_ :: z2, Fit y := fun y m => by
      rcases List.mem_append.mp m with m | m
      · exact fy y (List.mem_of_mem_take m)
      · rcases List.mem_cons.mp m with e | m
        · rw [e]; exact Bad.fit bb
        · exact fz2 y m
    have lall : (ys.take k ++ by_ :: z2).length ≤ 60 := by rw [List.length_append, List.length_take, List.length_cons]; omega
    obtain ⟨th, et, sz⟩ := th_join (H := upd (upd (upd G5 cb (.lst [.str by_])) cc (.lst ((ys.take k).map V.str ++ [.str by_]))) cd (.lst ((ys.take k ++ by_ :: z2).map V.str))) (zs := ys.take k ++ by_ :: z2) (by simp) lall fall
    have erp : rp [] 0 (ys.take k ++ by_ :: z2) = .inl k := by
      rw [rp_at (hy.take k) (fun r m => rw.ok r (List.mem_of_mem_take m)) bb.row, List.length_take, Nat.min_eq_left hk]
    refine ⟨_, cd, _, rfl, rfl, SqL.of upd_same, sz, ?_⟩
    rw [join_is]
    refine ⟨_, rfl, _, "text", k, rfl, th, .text (et.trans erp), fun H' S' => kk H' ?_⟩
    exact (SH5.trans ((B6.trans B7).trans (Same.new _ fcd))).trans S'
end
end K18
set_option Elab.async false
set_option linter.all false
set_option maxRecDepth 100000
namespace K18
open PySem L2 PySem.NumText PyProof.Rows KC M18
section
variable {P : Program} {w : World} {K : PySem.W.Frag} {mg : Str → Option Value} {base : Heap}
theorem ok_Lrows_refused {a : Ad} (T : Txt K mg a) : FnOk P w K mg base CX0 10 a.f_Lrows_refused a.fd_Lrows_refused ["_law_rows_here", "_law_cell_here"] (sp_Lrows_refused a) := by
  have G_Lrefused : FnOk P w K mg base CX0 9 a.f_Lrefused a.fd_Lrefused ["_law_text", "_law_kind", "_law_due"] (sp_Lrefused a) := ok_Lrefused T
  have G_Lshift : FnOk P w K mg base CX0 2 a.f_Lshift a.fd_Lshift ["_law_shift_here"] sp_Lshift := ok_Lshift T
  have G_Lclock : FnOk P w K mg base CX0 2 a.f_Lclock a.fd_Lclock ["_law_number"] sp_Lclock := ok_Lclock T
  refine T.d_Lrows_refused.F.ok sc_Lrows_refused (fun vs H Q E h => ?_) (fun cdv A outer s H vs Q E hr h => ?_)
  · obtain ⟨q, c, rows, rfl, hrs, good, kk⟩ := h
    rfl
  · obtain ⟨q, c, rows, rfl, hrs, good, kk⟩ := h
    have hu := hu_of hr
    have hU := hr.units
    have h_Lrefused : Room (9) _ := hr.mono (by decide)
    have h_Lshift : Room (2) _ := hr.mono (by decide)
    have h_Lclock : Room (2) _ := hr.mono (by decide)
    refine ⟨_, (pss_cons (ps_setC (i := 2) sc_Lrows_refused.nd rfl (Or.inl rfl) rfl (CompOk.def ["_law_row_here"] [none]) (pi_list (pv 0)) (fun _ _ _ _ _ => (pg_name (i := 0) (show List.Nodup (["_law_row_here"] : List Str) by decide +kernel) rfl (Or.inl rfl))) (fun _ _ _ _ _ => pts_nil) (fun _ _ _ _ _ => (pe_op uAdd (pe_op uAdd (pe_call G_Lclock h_Lclock rfl T.d_Lclock.m T.d_Lclock.k T.d_Lclock.b .nil pass0 (pa_cons (pe_ix (r := rIx K) ix_seq (pv 0) pe_int (fun _ _ => rfl)) pa_nil)) pe_str) (pe_call G_Lshift h_Lshift rfl T.d_Lshift.m T.d_Lshift.k T.d_Lshift.b .nil pass0 (pa_cons (pe_ix (r := rIx K) ix_seq (pv 0) pe_int (fun _ _ => rfl)) pa_nil)))))
      (pss_cons (ps_set (i := 3) sc_Lrows_refused.nd rfl (Or.inl rfl) (pe_op op_mod (pv 1) (pe_callB call_len (by rfl) T.n_len boot_len' (pa_cons (pv 2) pa_nil))))
      (pss_cons (ps_set (i := 4) sc_Lrows_refused.nd rfl (Or.inl rfl) (pe_op uAdd (pv 3) pe_int))
      (pss_cons (ps_if (pt_cmpR (uEq hU) (pe_callB call_len (by rfl) T.n_len boot_len' (pa_cons (pv 2) pa_nil)) pe_int (nomark _))
        (pss_one (ps_set (i := 4) sc_Lrows_refused.nd rfl (Or.inl rfl) pe_int))
        pss_nil)
      (pss_cons (ps_if (pt_not (pt_val (pe_call G_Lrefused h_Lrefused rfl T.d_Lrefused.m T.d_Lrefused.k T.d_Lrefused.b .nil pass0 (pa_cons (pe_bm PySem.F.plainAttrs_str PySem.F.slot_str_join PySem.F.type_str_join mt_join pe_str (pa_cons (pe_op uAdd (pe_slice uSl (pv 2) po_none (po_some (pe_op uAdd (pv 3) pe_int))) (pe_slice uSl (pv 2) (po_some (pv 3)) po_none)) pa_nil)) (pa_cons pe_str (pa_cons (pv 4) pa_nil))))))
        (pss_one (ps_ret pe_bl))
        pss_nil)
      (pss_cons (ps_if (pt_not (pt_val (pe_call G_Lrefused h_Lrefused rfl T.d_Lrefused.m T.d_Lrefused.k T.d_Lrefused.b .nil pass0 (pa_cons (pe_bm PySem.F.plainAttrs_str PySem.F.slot_str_join PySem.F.type_str_join mt_join pe_str (pa_cons (pe_slice uSl (pe_op op_rep (pv 2) pe_int) po_none (po_some pe_int)) pa_nil)) (pa_cons pe_str (pa_cons pe_int pa_nil))))))
        (pss_one (ps_ret pe_bl))
        pss_nil)
      (pss_cons (ps_if (pt_not (pt_val (pe_call G_Lrefused h_Lrefused rfl T.d_Lrefused.m T.d_Lrefused.k T.d_Lrefused.b .nil pass0 (pa_cons (pe_bm PySem.F.plainAttrs_str PySem.F.slot_str_join PySem.F.type_str_join mt_join pe_str (pa_cons (pe_op uAdd (pe_op uAdd (pe_slice uSl (pv 2) po_none (po_some (pe_op uAdd (pv 3) pe_int))) (pe_slice uSl (pv 2) (po_some (pv 3)) po_none)) (pe_lst (pa_cons pe_str pa_nil))) pa_nil)) (pa_cons pe_str (pa_cons (pe_op uAdd (pe_callB call_len (by rfl) T.n_len boot_len' (pa_cons (pv 2) pa_nil)) pe_int) pa_nil))))))
        (pss_one (ps_ret pe_bl))
        pss_nil)
      (pss_cons (ps_if (pt_cmpR (uEq hU) (pe_callB call_len (by rfl) T.n_len boot_len' (pa_cons (pv 2) pa_nil)) pe_int (nomark _))
        (pss_one (ps_ret pe_bl))
        pss_nil)
      (pss_cons (ps_set (i := 3) sc_Lrows_refused.nd rfl (Or.inl rfl) (pe_op op_mod (pv 1) (pe_op op_sub (pe_callB call_len (by rfl) T.n_len boot_len' (pa_cons (pv 2) pa_nil)) pe_int)))
      (pss_cons (ps_set (i := 4) sc_Lrows_refused.nd rfl (Or.inl rfl) (pe_op uAdd (pv 3) (pe_callTy call_int1 (by rfl) T.n_int boot_int' (pa_cons (pe_cmpR op_gt (pv 3) pe_int (nomark _)) pa_nil))))
      (pss_cons (ps_set (i := 5) sc_Lrows_refused.nd rfl (Or.inl rfl) (pe_op uAdd (pe_op uAdd (pe_slice uSl (pv 2) po_none (po_some (pv 3))) (pe_lst (pa_cons (pe_ix (r := rIx K) ix_seq (pv 2) (pe_op uAdd (pv 3) pe_int) (fun _ _ => rfl)) (pa_cons (pe_ix (r := rIx K) ix_seq (pv 2) (pv 3) (fun _ _ => rfl)) pa_nil)))) (pe_slice uSl (pv 2) (po_some (pe_op uAdd (pv 3) pe_int)) po_none)))
      (pss_one (ps_ret (pe_and (pe_call G_Lrefused h_Lrefused rfl T.d_Lrefused.m T.d_Lrefused.k T.d_Lrefused.b .nil pass0 (pa_cons (pe_bm PySem.F.plainAttrs_str PySem.F.slot_str_join PySem.F.type_str_join mt_join pe_str (pa_cons (pv 5) pa_nil)) (pa_cons pe_str (pa_cons (pv 4) pa_nil)))) (pe_one (pe_call G_Lrefused h_Lrefused rfl T.d_Lrefused.m T.d_Lrefused.k T.d_Lrefused.b .nil pass0 (pa_cons (pe_bm PySem.F.plainAttrs_str PySem.F.slot_str_join PySem.F.type_str_join mt_join pe_str (pa_cons (pe_slice uSl (pv 2) (po_some pe_int) po_none) pa_nil)) (pa_cons pe_str (pa_cons pe_int pa_nil))))))))))))))))))), ?_⟩
    try dsimp only [cxOf, Cx.nox]
    have rw := good.rw
    obtain ⟨zz, hq0, tp0⟩ := id hrs
    have lz0 : zz.length = rows.length := tp0.1
    refine ⟨_, rfl, q, rfl, ⟨_, SqL.of hq0⟩, fun D fD => ?_⟩
    refine comp_list (K := K) (a := q) (xs := zz) (D := D) (fun j σ H2 => ∃ (c0 : Option V) (ys : List Str), σ = [c0] ∧ Same H H2 ∧ H2 D = some (.lst (ys.map V.str)) ∧ TX ys (rows.take j)) ⟨none, [], rfl, Same.new _ fD, upd_same, rfl⟩ (fun j σ H2 _ ⟨_, _, _, S', _⟩ => SqL.of (S' _ _ hq0)) ?_ ?_
    · rintro j z σ H2 hz ⟨c0, ys, rfl, S', hC, hy⟩
      obtain ⟨r, u, hr', rfl, hu'⟩ := tp0.of hz
      have hu2 := S' _ _ hu'
      have okr := rw.ok r (List.mem_of_getElem? hr')
      have ly : ys.length ≤ 64 := by
        have := hy.len
        rw [List.length_take] at this
        have := rw.few
        omega
      refine ⟨_, rfl, .inr (.inl ⟨u, _, _, _, rfl, rfl, SqT.of hu2, rfl, r.1, rfl, ok_sm okr, fun xc ec => ?_⟩)⟩
      have l1 : xc.length ≤ 37 := by rw [← len_toList, ec]; exact clL_len (ok_sm okr).1 (ok_sm okr).2
      refine .inr (.inr ⟨_, _, rfl, rfl, cat2 l1 (lenK " " 1 (by decide +kernel)) (by decide), _, rfl, .inr (.inl ⟨u, _, _, _, rfl, rfl, SqT.of hu2, rfl, r.2, rfl, ⟨okr.2.2.1, okr.2.2.2⟩, fun xs es => ?_⟩)⟩)
      have l2 : xs.length ≤ 37 := by rw [← len_toList, es]; exact shL_len ⟨okr.2.2.1, okr.2.2.2⟩
      refine .inr (.inr ⟨_, _, rfl, rfl, cat2 (len_app l1 (lenK " " 1 (by decide +kernel))) l2 (by decide), ?_⟩)
      have ez : (xc ++ Str.ofString " " ++ xs).cps.toList = rowL r := by
        rw [app_toList, app_toList, ec, es, blank]
        unfold rowL
        simp
      refine ⟨_, hC, small1000 (by rw [List.length_map]; omega), _, ys ++ [xc ++ Str.ofString " " ++ xs], rfl, S'.put fD _, (by rw [upd_same, List.map_append]; rfl), ?_⟩
      rw [List.take_add_one, hr']
      exact hy.app (show TX [xc ++ Str.ofString " " ++ xs] [r] by unfold TX; simp [ez])
    rintro σ KD ⟨c0, ys, rfl, SD, hD, hy⟩
    rw [lz0, List.take_length] at hy
    have ly := hy.len
    have fy := hy.fit rw.ok
    have few := good.few
    have pos := good.ne
    have okr := good.ok
    try unfold tNext
    try dsimp only
    have lyi : ((ys.map V.str).length : Int) = (rows.length : Int) := by rw [List.length_map, ly]
    refine ⟨_, rfl, _, rfl, _, _, rfl, .inl ⟨_, SqL.of hD, rfl⟩, _, _, rfl, rfl, (by rw [lyi]; omega), ?_⟩
    rw [lyi]
    have k0 := Int.emod_nonneg c (show ((rows.length : Nat) : Int) ≠ 0 by omega)
    have k1 := Int.emod_lt_of_pos c (show (0 : Int) < ((rows.length : Nat) : Int) by omega)
    try dsimp only
    generalize c % ((rows.length : Nat) : Int) = kk0 at k0 k1 ⊢
    obtain ⟨k, rfl⟩ := Int.eq_ofNat_of_zero_le k0
    have hk : k < rows.length := by omega
    refine ⟨_, rfl, .inl ⟨_, _, rfl, rfl, ?_⟩⟩
    try unfold tNext
    try dsimp only
    refine seq_split (t := tIfS _ _ _) (fun σ' H' => σ' = [some (.ref q), some (.int c), some (.ref D), some (.int (k : Int)), some (.int ((if rows.length = 21 then 21 else k + 1 : Nat) : Int)), none] ∧ KD = H') (fun N hN => ?_) ?_
    · refine ⟨_, rfl, _, _, rfl, .inl ⟨_, SqL.of hD, rfl⟩, .inl ⟨rfl, _, rfl, iteD (fun g => ?_) (fun g => ?_)⟩⟩
      · have g' : rows.length = 21 := by injection g with g; omega
        refine hN _ _ ⟨?_, rfl⟩
        rw [if_pos g']; rfl
      · have g' : rows.length ≠ 21 := fun e => g (by rw [lyi, e]; rfl)
        refine hN _ _ ⟨?_, rfl⟩
        rw [if_neg g']; rfl
    rintro _ _ ⟨rfl, rfl⟩
    have txd := (hy.take (k + 1)).app (hy.drop k)
    have okd : ∀ r ∈ rows.take (k + 1) ++ rows.drop k, okR r := fun r m => (List.mem_append.mp m).elim (fun m => okr r (List.mem_of_mem_take m)) fun m => okr r (List.mem_of_mem_drop m)
    have lend : (rows.take (k + 1) ++ rows.drop k).length = rows.length + 1 := by rw [List.length_append, List.length_take, List.length_drop]; omega
    have lenyd : (ys.take (k + 1) ++ ys.drop k).length = rows.length + 1 := by rw [txd.len, lend]
    have ned : ys.take (k + 1) ++ ys.drop k ≠ [] := fun e => by rw [e] at lenyd; simp at lenyd
    refine seq_go fun N1 h1 => ?_
    refine ⟨rfl, _, rfl, _, rfl, .inl ⟨_, _, rfl, rfl, _, rfl, .inl ⟨D, _, rfl, SqL.of hD, fun a1 f1 => ?_⟩⟩⟩
    rw [cut_take (ys.map V.str) (k + 1) _ (by omega), ← List.map_take]
    have B1 := Same.new (.lst ((ys.take (k + 1)).map V.str)) f1
    refine ⟨_, rfl, _, rfl, _, rfl, .inl ⟨D, _, rfl, SqL.of (B1 _ _ hD), fun a2 f2 => ?_⟩⟩
    rw [cut_drop (ys.map V.str) k _ rfl, ← List.map_drop]
    have B2 := Same.new (.lst ((ys.drop k).map V.str)) f2
    refine .inr (.inl ⟨a1, a2, _, _, rfl, rfl, B2 _ _ upd_same, upd_same, (by rw [List.length_map, List.length_map, List.length_take, List.length_drop]; exact small60 (by omega)), fun a3 f3 => ?_⟩)
    rw [← List.map_append]
    have B3 := Same.new (.lst ((ys.take (k + 1) ++ ys.drop k).map V.str)) f3
    have S3 := (SD.trans B1).trans (B2.trans B3)
    have hD3 := B3 _ _ (B2 _ _ (B1 _ _ hD))
    have h3 : (upd (upd (upd KD a1 (.lst ((ys.take (k + 1)).map V.str))) a2 (.lst ((ys.drop k).map V.str))) a3 (.lst ((ys.take (k + 1) ++ ys.drop k).map V.str))) a3 = some (.lst ((ys.take (k + 1) ++ ys.drop k).map V.str)) := upd_same
    try dsimp only
    generalize upd (upd (upd KD a1 (.lst ((ys.take (k + 1)).map V.str))) a2 (.lst ((ys.drop k).map V.str))) a3 (.lst ((ys.take (k + 1) ++ ys.drop k).map V.str)) = G3 at S3 hD3 h3 ⊢
    clear B1 B2 B3
    obtain ⟨th, et, sz⟩ := th_join (H := G3) ned (by omega) (txd.fit okd)
    refine ⟨_, a3, _, rfl, rfl, SqL.of h3, sz, ?_⟩
    rw [join_is]
    refine ⟨_, rfl, _, "table", _, rfl, th, .table (et.trans (rp_all txd okd)) (fun e => by rw [e] at lend; simp at lend) okd (flt_dup good hk), fun G4 S4 => ⟨true, rfl, iteFF rfl (h1 _ _ ?_)⟩⟩
    have SH4 := S3.trans S4
    have hD4 := S4 _ _ hD3
    clear h1 S3 S4 hD3 h3 th et sz
    refine seq_go fun N2 h2 => ?_
    refine ⟨rfl, _, rfl, D, 22, _, rfl, rfl, hD4, (by decide), (by decide), (by rw [List.length_map]; exact small60 (by show ys.length * 22 ≤ 1000; omega)), fun a1 f1 => ?_⟩
    rw [rep_strs]
    have B1 := Same.new (.lst (((List.replicate (22 : Int).toNat ys).flatten).map V.str)) f1
    refine ⟨_, rfl, .inl ⟨a1, _, rfl, SqL.of upd_same, fun a2 f2 => ?_⟩⟩
    rw [cut_take _ 22 22 rfl, ← List.map_take]
    have tx2 := (hy.rep 22).take 22
    have ok2 : ∀ r ∈ ((List.replicate 22 rows).flatten).take 22, okR r := fun r m => okr r (rep_mem' (List.mem_of_mem_take m))
    have len2 : (((List.replicate 22 rows).flatten).take 22).length = 22 := by rw [List.length_take, rep_len]; omega
    have leny2 : (((List.replicate 22 ys).flatten).take 22).length = 22 := by rw [tx2.len, len2]
    have B2 := Same.new (.lst ((((List.replicate (22 : Int).toNat ys).flatten).take 22).map V.str)) f2
    have S5 := (SH4.trans B1).trans B2
    have hD5 := B2 _ _ (B1 _ _ hD4)
    have h5 : (upd (upd G4 a1 (.lst (((List.replicate (22 : Int).toNat ys).flatten).map V.str))) a2 (.lst ((((List.replicate (22 : Int).toNat ys).flatten).take 22).map V.str))) a2 = some (.lst ((((List.replicate 22 ys).flatten).take 22).map V.str)) := upd_same
    try dsimp only
    generalize upd (upd G4 a1 (.lst (((List.replicate (22 : Int).toNat ys).flatten).map V.str))) a2 (.lst ((((List.replicate (22 : Int).toNat ys).flatten).take 22).map V.str)) = G5 at S5 hD5 h5 ⊢
    clear B1 B2
    obtain ⟨th, et, sz⟩ := th_join (H := G5) (fun e => by rw [e] at leny2; simp at leny2) (by omega) (tx2.fit ok2)
    refine ⟨_, a2, _, rfl, rfl, SqL.of h5, sz, ?_⟩
    rw [join_is]
    refine ⟨_, "table", 21, rfl, th, .table (et.trans (rp_all tx2 ok2)) (fun e => by rw [e] at len2; simp at len2) ok2 (flt_many len2), fun G6 S6 => ⟨true, rfl, iteFF rfl (h2 _ _ ?_)⟩⟩
    have SH6 := S5.trans S6
    have hD6 := S6 _ _ hD5
    clear h2 S5 S6 hD5 h5 th et sz tx2 ok2 len2 leny2 SH4 hD4
    refine seq_go fun N3 h3' => ?_
    refine ⟨rfl, _, rfl, _, rfl, .inl ⟨_, _, rfl, rfl, _, rfl, .inl ⟨D, _, rfl, SqL.of hD6, fun a1 f1 => ?_⟩⟩⟩
    rw [cut_take (ys.map V.str) (k + 1) _ (by omega), ← List.map_take]
    have B1 := Same.new (.lst ((ys.take (k + 1)).map V.str)) f1
    refine ⟨_, rfl, _, rfl, _, rfl, .inl ⟨D, _, rfl, SqL.of (B1 _ _ hD6), fun a2 f2 => ?_⟩⟩
    rw [cut_drop (ys.map V.str) k _ rfl, ← List.map_drop]
    have B2 := Same.new (.lst ((ys.drop k).map V.str)) f2
    refine .inr (.inl ⟨a1, a2, _, _, rfl, rfl, B2 _ _ upd_same, upd_same, (by rw [List.length_map, List.length_map, List.length_take, List.length_drop]; exact small60 (by omega)), fun a3 f3 => ?_⟩)
    rw [← List.map_append]
    have B3 := Same.new (.lst ((ys.take (k + 1) ++ ys.drop k).map V.str)) f3
    refine ⟨small60 (Nat.le_of_ble_eq_true rfl), fun a4 f4 => ?_⟩
    have B4 := Same.new (.lst [.str (Str.ofString "0.00.00 1.00")]) f4
    refine .inr (.inl ⟨a3, a4, _, _, rfl, rfl, B4 _ _ upd_same, upd_same, (by rw [List.length_map, lenyd]; exact small60 (by show rows.length + 1 + 1 ≤ 1000; omega)), fun a5 f5 => ?_⟩)
    rw [show (ys.take (k + 1) ++ ys.drop k).map V.str ++ [.str (Str.ofString "0.00.00 1.00")] = (ys.take (k + 1) ++ ys.drop k ++ Str.ofString "0.00.00 1.00" :: []).map V.str by rw [List.map_append (l₂ := Str.ofString "0.00.00 1.00" :: [])]; rfl]
    have B5 := Same.new (.lst ((ys.take (k + 1) ++ ys.drop k ++ Str.ofString "0.00.00 1.00" :: []).map V.str)) f5
    have S7 := SH6.trans ((B1.trans B2).trans ((B3.trans B4).trans B5))
    have hD7 := B5 _ _ (B4 _ _ (B3 _ _ (B2 _ _ (B1 _ _ hD6))))
    have h7 : (upd (upd (upd (upd (upd G6 a1 (.lst ((ys.take (k + 1)).map V.str))) a2 (.lst ((ys.drop k).map V.str))) a3 (.lst ((ys.take (k + 1) ++ ys.drop k).map V.str))) a4 (.lst [.str (Str.ofString "0.00.00 1.00")])) a5 (.lst ((ys.take (k + 1) ++ ys.drop k ++ Str.ofString "0.00.00 1.00" :: []).map V.str))) a5 = some (.lst ((ys.take (k + 1) ++ ys.drop k ++ Str.ofString "0.00.00 1.00" :: []).map V.str)) := upd_same
    try dsimp only
    generalize upd (upd (upd (upd (upd G6 a1 (.lst ((ys.take (k + 1)).map V.str))) a2 (.lst ((ys.drop k).map V.str))) a3 (.lst ((ys.take (k + 1) ++ ys.drop k).map V.str))) a4 (.lst [.str (Str.ofString "0.00.00 1.00")])) a5 (.lst ((ys.take (k + 1) ++ ys.drop k ++ Str.ofString "0.00.00 1.00" :: []).map V.str)) = G7 at S7 hD7 h7 ⊢
    clear B1 B2 B3 B4 B5
    have bt : rowT (Str.ofString "0.00.00 1.00").cps.toList = none := by decide +kernel
    obtain ⟨th, et, sz⟩ := th_join (H := G7) (zs := ys.take (k + 1) ++ ys.drop k ++ Str.ofString "0.00.00 1.00" :: []) (by simp) (by rw [List.length_append, lenyd]; show rows.length + 1 + 1 ≤ 60; omega) (fun y m => by
      rcases List.mem_append.mp m with m | m
      · exact txd.fit okd y m
      · rw [List.mem_singleton.mp m]
        exact ⟨no_free (by decide +kernel), by decide +kernel⟩)
    refine ⟨_, a5, _, rfl, rfl, SqL.of h7, sz, ?_⟩
    rw [join_is]
    refine ⟨_, rfl, _, _, rfl, .inl ⟨_, SqL.of hD7, rfl⟩, .inl ⟨_, _, rfl, rfl, _, "text", rows.length + 1, (by rw [lyi]; rfl), th, .text (et.trans (by rw [rp_at txd okd bt, lend])), fun G8 S8 => ⟨true, rfl, iteFF rfl (h3' _ _ ?_)⟩⟩⟩
    have SH8 := S7.trans S8
    have hD8 := S8 _ _ hD7
    clear h3' S7 S8 hD7 h7 th et sz txd okd lend lenyd ned SH6 hD6
    try unfold tNext
    try dsimp only
    refine ⟨_, rfl, _, _, rfl, .inl ⟨_, SqL.of hD8, rfl⟩, .inl ⟨rfl, _, rfl, iteD (fun g => kk G8 SH8) (fun g => ?_)⟩⟩
    have n2 : 1 < rows.length := by
      have : rows.length ≠ 1 := fun e => g (by rw [lyi, e]; rfl)
      omega
    refine ⟨_, rfl, _, rfl, _, _, rfl, .inl ⟨_, SqL.of hD8, rfl⟩, _, _, rfl, rfl, _, _, rfl, rfl, (by rw [lyi]; show (0 : Int) < (rows.length : Int) - 1; omega), ?_⟩
    rw [lyi]
    have m0 := Int.emod_nonneg c (show ((rows.length : Nat) : Int) - 1 ≠ 0 by omega)
    have m1 := Int.emod_lt_of_pos c (show (0 : Int) < ((rows.length : Nat) : Int) - 1 by omega)
    try dsimp only
    generalize c % (((rows.length : Nat) : Int) - 1) = jj0 at m0 m1 ⊢
    obtain ⟨j, rfl⟩ := Int.eq_ofNat_of_zero_le m0
    have hj : j + 1 < rows.length := by omega
    refine ⟨_, rfl, _, rfl, _, _, rfl, rfl, .inr ⟨_, rfl, .inl ⟨_, _, rfl, rfl, ?_⟩⟩⟩
    obtain ⟨r, hr'⟩ : ∃ r, rows[j]? = some r := ⟨_, List.getElem?_eq_getElem (by omega)⟩
    obtain ⟨s2, hs'⟩ : ∃ r, rows[j + 1]? = some r := ⟨_, List.getElem?_eq_getElem hj⟩
    obtain ⟨y, hyj, ey⟩ := hy.get hr'
    obtain ⟨y2, hyj2, ey2⟩ := hy.get hs'
    have aty : atI (ys.map V.str) (j : Int) = some (.str y) := atI_nat (by rw [List.getElem?_map, hyj]; rfl)
    have aty2 : atI (ys.map V.str) ((j : Int) + 1) = some (.str y2) := by
      rw [show (j : Int) + 1 = ((j + 1 : Nat) : Int) by omega]
      exact atI_nat (by rw [List.getElem?_map, hyj2]; rfl)
    have edue : (j : Int) + (if decide ((j : Int) > 0) = true then 1 else 0) = ((if 0 < j then j + 1 else 0 : Nat) : Int) := by
      by_cases z : 0 < j
      · rw [if_pos z, decide_eq_true (by omega), if_pos rfl]; rfl
      · rw [if_neg z, decide_eq_false (by omega), if_neg (by decide)]; omega
    try unfold tNext
    try dsimp only
    refine ⟨_, rfl, _, rfl, _, rfl, .inl ⟨D, _, rfl, SqL.of hD8, fun a1 f1 => ?_⟩⟩
    rw [cut_take (ys.map V.str) j _ rfl, ← List.map_take]
    have B1 := Same.new (.lst ((ys.take j).map V.str)) f1
    have hD9 := B1 _ _ hD8
    refine ⟨_, rfl, _, rfl, .inl ⟨_, _, rfl, rfl, .inl ⟨D, _, _, _, rfl, rfl, SqL.of hD9, aty2, _, rfl, _, rfl, .inl ⟨D, _, _, _, rfl, rfl, SqL.of hD9, aty, small60 (Nat.le_of_ble_eq_true rfl), fun a2 f2 => ?_⟩⟩⟩⟩
    have B2 := Same.new (.lst [.str y2, .str y]) f2
    refine .inr (.inl ⟨a1, a2, _, _, rfl, rfl, B2 _ _ upd_same, upd_same, (by rw [List.length_map, List.length_take]; exact small60 (by show min j ys.length + 2 ≤ 1000; omega)), fun a3 f3 => ?_⟩)
    rw [show (ys.take j).map V.str ++ [.str y2, .str y] = (ys.take j ++ [y2, y]).map V.str by rw [List.map_append]; rfl]
    have B3 := Same.new (.lst ((ys.take j ++ [y2, y]).map V.str)) f3
    refine ⟨_, rfl, _, rfl, .inl ⟨_, _, rfl, rfl, _, rfl, .inl ⟨D, _, rfl, SqL.of (B3 _ _ (B2 _ _ hD9)), fun a4 f4 => ?_⟩⟩⟩
    rw [cut_drop (ys.map V.str) (j + 2) _ (by omega), ← List.map_drop]
    have B4 := Same.new (.lst ((ys.drop (j + 2)).map V.str)) f4
    refine .inr (.inl ⟨a3, a4, _, _, rfl, rfl, B4 _ _ upd_same, upd_same, (by rw [List.length_map, List.length_map, List.length_append, List.length_take, List.length_drop]; exact small60 (by show min j ys.length + 2 + _ ≤ 1000; omega)), fun a5 f5 => ?_⟩)
    rw [← List.map_append]
    have B5 := Same.new (.lst ((ys.take j ++ [y2, y] ++ ys.drop (j + 2)).map V.str)) f5
    have S9 := SH8.trans ((B1.trans B2).trans ((B3.trans B4).trans B5))
    have hDz := B5 _ _ (B4 _ _ (B3 _ _ (B2 _ _ hD9)))
    have h9 : (upd (upd (upd (upd (upd G8 a1 (.lst ((ys.take j).map V.str))) a2 (.lst [.str y2, .str y])) a3 (.lst ((ys.take j ++ [y2, y]).map V.str))) a4 (.lst ((ys.drop (j + 2)).map V.str))) a5 (.lst ((ys.take j ++ [y2, y] ++ ys.drop (j + 2)).map V.str))) a5 = some (.lst ((ys.take j ++ [y2, y] ++ ys.drop (j + 2)).map V.str)) := upd_same
    try unfold tNext
    try dsimp only
    generalize upd (upd (upd (upd (upd G8 a1 (.lst ((ys.take j).map V.str))) a2 (.lst [.str y2, .str y])) a3 (.lst ((ys.take j ++ [y2, y]).map V.str))) a4 (.lst ((ys.drop (j + 2)).map V.str))) a5 (.lst ((ys.take j ++ [y2, y] ++ ys.drop (j + 2)).map V.str)) = G9 at S9 hDz h9 ⊢
    clear B1 B2 B3 B4 B5 hD9
    have txs : TX (ys.take j ++ [y2, y] ++ ys.drop (j + 2)) (rows.take j ++ [s2, r] ++ rows.drop (j + 2)) := ((hy.take j).app (TX.two ey2 ey)).app (hy.drop (j + 2))
    have oks : ∀ z ∈ rows.take j ++ [s2, r] ++ rows.drop (j + 2), okR z := fun z m => by
      rcases List.mem_append.mp m with m | m
      · rcases List.mem_append.mp m with m | m
        · exact okr z (List.mem_of_mem_take m)
        · rcases List.mem_cons.mp m with e | m
          · rw [e]; exact okr _ (List.mem_of_getElem? hs')
          · rw [List.mem_singleton.mp m]; exact okr _ (List.mem_of_getElem? hr')
      · exact okr z (List.mem_of_mem_drop m)
    have lens : (ys.take j ++ [y2, y] ++ ys.drop (j + 2)).length ≤ 60 := by rw [List.length_append, List.length_append, List.length_take, List.length_drop]; show min j ys.length + 2 + _ ≤ 60; omega
    obtain ⟨th, et, sz⟩ := th_join (H := G9) (zs := ys.take j ++ [y2, y] ++ ys.drop (j + 2)) (by simp) lens (txs.fit oks)
    refine ⟨rfl, _, rfl, _, a5, _, rfl, rfl, SqL.of h9, sz, ?_⟩
    rw [join_is]
    refine ⟨_, rfl, _, "table", (if 0 < j then j + 1 else 0), (by rw [edue]; rfl), th, .table (et.trans (rp_all txs oks)) (by simp) oks (flt_swap good hr' hs'), fun Ga Sa => ⟨true, rfl, iteT ?_⟩⟩
    have SHa := S9.trans Sa
    have hDa := Sa _ _ hDz
    refine ⟨rfl, _, rfl, _, rfl, .inl ⟨D, _, rfl, SqL.of hDa, fun a6 f6 => ?_⟩⟩
    rw [cut_drop (ys.map V.str) 1 1 rfl, ← List.map_drop]
    have B6 := Same.new (.lst ((ys.drop 1).map V.str)) f6
    have tx1 := hy.drop 1
    have ok1 : ∀ z ∈ rows.drop 1, okR z := fun z m => okr z (List.mem_of_mem_drop m)
    have len1 : (ys.drop 1).length = rows.length - 1 := by rw [List.length_drop, ly]
    obtain ⟨th1, et1, sz1⟩ := th_join (H := upd Ga a6 (.lst ((ys.drop 1).map V.str))) (zs := ys.drop 1) (fun e => by rw [e] at len1; simp at len1; omega) (by omega) (tx1.fit ok1)
    refine ⟨_, a6, _, rfl, rfl, SqL.of upd_same, sz1, ?_⟩
    rw [join_is]
    refine ⟨_, "table", 0, rfl, th1, .table (et1.trans (rp_all tx1 ok1)) (fun e => by have := congrArg List.length e; rw [List.length_drop] at this; simp at this; omega) ok1 (flt_tail good n2), fun H' S' => kk H' ((SHa.trans B6).trans S')⟩
end
end K18
set_option Elab.async false
set_option linter.all false
set_option maxRecDepth 100000
namespace K18
open PySem L2 PySem.NumText PyProof.Rows KC M18
section
variable {P : Program} {w : World} {K : PySem.W.Frag} {mg : Str → Option Value} {base : Heap}
end
section
variable {P : Program} {w : World} {K : PySem.W.Frag} {mg : Str → Option Value} {base : Heap}
theorem ok_Lcell {a : Ad} (T : Txt K mg a) : FnOk P w K mg base CX0 1 a.f_Lcell a.fd_Lcell ["_law_script", "_law_k"] (sp_Lcell K) := by
  refine T.d_Lcell.F.ok sc_Lcell (fun vs H Q E h => ?_) (fun cdv A outer s H vs Q E hr h => ?_)
  · obtain ⟨sa, ns, k, rfl, hS, kk⟩ := h
    rfl
  · obtain ⟨sa, ns, k, rfl, hS, kk⟩ := h
    have hu := hu_of hr
    have hU := hr.units
    refine ⟨_, (pss_cons (ps_if (pt_cmpR (op_eqNil hU) (pv 0) (pe_lst pa_nil) (nomark _))
        (pss_one (ps_ret pe_int))
        pss_nil)
      (pss_one (ps_ret (pe_ix (r := rIx K) ix_seq (pv 0) (pe_op op_mod (pv 1) (pe_callB call_len (by rfl) T.n_len boot_len' (pa_cons (pv 0) pa_nil))) (fun _ _ => rfl))))), ?_⟩
    try dsimp only [cxOf, Cx.nox]
    refine ⟨_, rfl, small60 (Nat.le_of_ble_eq_true rfl), fun l0 fl0 => ?_⟩
    have S0 := Same.new (.lst []) fl0
    have hS0 := S0.seq hS
    refine ⟨sa, l0, _, rfl, rfl, hS0, SqL.of upd_same, _, rfl, ?_⟩
    cases ns with
    | nil => exact iteT (kk _ _ S0)
    | cons n0 nr =>
      refine iteF ?_
      have pos : (0 : Int) < (((n0 :: nr).map V.int).length : Int) := by rw [List.length_map]; show (0 : Int) < ((nr.length + 1 : Nat) : Int); omega
      have h1 := Int.emod_nonneg k (show (((n0 :: nr).map V.int).length : Int) ≠ 0 by omega)
      have h2 := Int.emod_lt_of_pos k pos
      obtain ⟨v, hv, mv⟩ := atI_mem (xs := (n0 :: nr).map V.int) (i := k % (((n0 :: nr).map V.int).length : Int)) h1 h2
      obtain ⟨n, rfl⟩ : ∃ n, v = .int n := by
        obtain ⟨n, _, e⟩ := List.mem_map.mp mv
        exact ⟨n, e.symm⟩
      exact ⟨_, rfl, _, rfl, _, rfl, _, _, rfl, .inl ⟨_, hS0, rfl⟩, _, _, rfl, rfl, pos, .inl ⟨sa, _, _, _, rfl, rfl, hS0, hv, kk _ _ S0⟩⟩
end
structure Pa (rows : List (Int × Int)) (mo : Int) : Prop where
  fst : (rows = [] ∧ mo = 0) ∨ ∃ n, rows.head? = some (0, n)
  asc : Asc rows
  top : ∀ r ∈ rows, r.1 ≤ mo
  ok : ∀ r ∈ rows, 0 ≤ r.1 ∧ -2880 ≤ r.2 ∧ r.2 ≤ 2880
theorem Pa.nil : Pa [] 0 := ⟨.inl ⟨rfl, rfl⟩, List.Pairwise.nil, (fun r m => nomatch m), (fun r m => nomatch m)⟩
theorem Pa.snoc {rows : List (Int × Int)} {mo m s : Int} (h : Pa rows mo) (h0 : rows = [] → m = 0) (h1 : rows ≠ [] → mo < m) (m0 : 0 ≤ m) (s0 : -2880 ≤ s) (s1 : s ≤ 2880) : Pa (rows ++ [(m, s)]) m := by
  have lt : ∀ r ∈ rows, r.1 < m := fun r mr => by
    have := h.top r mr
    have := h1 (fun e => by rw [e] at mr; cases mr)
    omega
  refine ⟨.inr ?_, List.pairwise_append.mpr ⟨h.asc, List.pairwise_singleton _ _, fun r mr b mb => ?_⟩, fun r mr => ?_, fun r mr => ?_⟩
  · cases rows with
    | nil => exact ⟨s, by rw [h0 rfl]; rfl⟩
    | cons r rs =>
      rcases h.fst with z | ⟨n, hn⟩
      · cases z.1
      · exact ⟨n, by simpa using hn⟩
  · have e : b = (m, s) := by simpa using mb
    rw [e]; exact lt r mr
  · rcases List.mem_append.mp mr with mr | mr
    · exact Int.le_of_lt (lt r mr)
    · have e : r = (m, s) := by simpa using mr
      rw [e]; exact Int.le_refl _
  · rcases List.mem_append.mp mr with mr | mr
    · exact h.ok r mr
    · have e : r = (m, s) := by simpa using mr
      rw [e]; exact ⟨m0, s0, s1⟩
theorem Pa.good {rows : List (Int × Int)} {mo : Int} (h : Pa rows mo) (hm : mo ≤ 1000000000) (h0 : 0 < rows.length) (h1 : rows.length ≤ 21) : Good rows := by
  refine ⟨h1, ?_, h.asc, fun r m => ?_⟩
  · rcases h.fst with z | z
    · rw [z.1] at h0; simp at h0
    · exact z
  · have := h.ok r m
    have := h.top r m
    omega
theorem Pa.far {rows : List (Int × Int)} {mo : Int} {l : Int × Int} (h : Pa rows mo) (hm : mo ≤ 1000000000) (h0 : 1 < rows.length) (h1 : rows.length ≤ 21) (el : rows.getLast? = some l) : Good (rows.set (rows.length - 1) (1000000000, l.2)) := by
  obtain ⟨ys, rfl⟩ := List.getLast?_eq_some_iff.mp el
  have ey : (ys ++ [l]).set ((ys ++ [l]).length - 1) (1000000000, l.2) = ys ++ [(1000000000, l.2)] := by
    rw [List.length_append]
    show (ys ++ [l]).set (ys.length + 1 - 1) _ = _
    rw [Nat.add_sub_cancel, List.set_append_right _ _ (Nat.le_refl _), Nat.sub_self]
    rfl
  rw [ey]
  have hl : ys.length + 1 ≤ 21 := by rw [List.length_append] at h1; exact h1
  have pos : 0 < ys.length := by rw [List.length_append] at h0; simp at h0; omega
  have okl := h.ok l (by simp)
  have lt : ∀ r ∈ ys, r.1 < 1000000000 := fun r mr => by
    have h2 := (List.pairwise_append.mp h.asc).2.2 r mr l (by simp)
    have h3 := h.top l (by simp)
    have h4 : r.1 < l.1 := h2
    omega
  refine ⟨by rw [List.length_append]; exact hl, ?_, List.pairwise_append.mpr ⟨(List.pairwise_append.mp h.asc).1, List.pairwise_singleton _ _, fun r mr b mb => ?_⟩, fun r mr => ?_⟩
  · rcases h.fst with z | ⟨n, hn⟩
    · simp at z
    · cases ys with
      | nil => simp at pos
      | cons r rs => exact ⟨n, by simpa using hn⟩
  · have e : b = (1000000000, l.2) := by simpa using mb
    rw [e]; exact lt r mr
  · rcases List.mem_append.mp mr with mr | mr
    · have := h.ok r (List.mem_append_left _ mr)
      have := lt r mr
      omega
    · have e : r = (1000000000, l.2) := by simpa using mr
      rw [e]
      exact ⟨(by show (0 : Int) ≤ 1000000000; decide), (by show (1000000000 : Int) ≤ 1000000000; decide), okl.2.1, okl.2.2⟩
theorem atI_last {α : Type} {xs : List α} {x : α} (h : xs.getLast? = some x) : atI xs (-1) = some x := by
  have hne : 0 < xs.length := List.length_pos_iff.mpr (fun z => by rw [z] at h; cases h)
  unfold atI ixN
  rw [if_neg (by decide), if_pos (by omega)]
  show xs[((-1 : Int) + (xs.length : Int)).toNat]? = _
  rw [tn_ xs.length, ← List.getLast?_eq_getElem?]
  exact h
theorem ixN_last {n : Nat} (h : 0 < n) : ixN n (-1) = some (n - 1) := by
  unfold ixN
  rw [if_neg (by decide), if_pos (by omega)]
  rw [tn_ n]
theorem TupL.last {H : Hp} {zs : List V} {ps : List (Int × Int)} {p : Int × Int} (h : TupL pr H zs ps) (e : ps.getLast? = some p) : ∃ t, zs.getLast? = some (.ref t) ∧ H t = some (.tup (pr p)) := by
  rw [List.getLast?_eq_getElem?] at e
  obtain ⟨t, h1, h2⟩ := h.at_ e
  exact ⟨t, by rw [List.getLast?_eq_getElem?, h.1]; exact h1, h2⟩
theorem TupL.set {H : Hp} {zs : List V} {ps : List (Int × Int)} {i : Nat} {t : Addr} {p : Int × Int} (h : TupL pr H zs ps) (e : H t = some (.tup (pr p))) : TupL pr H (zs.set i (.ref t)) (ps.set i p) := ⟨by rw [List.length_set, List.length_set, h.1], fun j z y e1 e2 => by
  rw [List.getElem?_set] at e1 e2
  by_cases hj : i = j
  · rw [if_pos hj] at e1 e2
    split at e1
    · split at e2
      · cases e1; cases e2; exact ⟨t, rfl, e⟩
      · cases e2
    · cases e1
  · rw [if_neg hj] at e1 e2
    exact h.2 j z y e1 e2⟩
noncomputable def menus : List Int := [21, 4, 3, 8] ++ (List.replicate 21 [(1000000000 : Int), 5761]).flatten
theorem menus_len : menus.length = 46 := by decide +kernel
theorem menus_ok : ∀ x ∈ menus, 0 < x ∧ x < 1073741824 := by decide +kernel
theorem at_nat' {ds : List Int} {j : Nat} {x : Int} {k : Int} (e : ds[j]? = some x) (hk : k = (j : Int)) : atI (ds.map V.int) k = some (.int x) := by
  subst hk
  exact atI_nat (by rw [List.getElem?_map, e]; rfl)
section
variable {P : Program} {w : World} {K : PySem.W.Frag} {mg : Str → Option Value} {base : Heap}
theorem ok_Lrows {a : Ad} (T : Txt K mg a) : FnOk P w K mg base CX0 2 a.f_Lrows a.fd_Lrows ["_law_cell_here"] sp_Lrows := by
  have G_Lrow : FnOk P w K mg base CX0 1 a.f_Lrow a.fd_Lrow ["_law_cell_here", "_law_sizes"] sp_Lrow := ok_Lrow T
  refine T.d_Lrows.F.ok sc_Lrows (fun vs H Q E h => ?_) (fun cdv A outer s H vs Q E hr h => ?_)
  · obtain ⟨c, rfl, kk⟩ := h
    rfl
  · obtain ⟨c, rfl, kk⟩ := h
    have hu := hu_of hr
    have hU := hr.units
    have h_Lrow : Room (1) _ := hr.mono (by decide)
    refine ⟨_, (pss_cons (ps_set (i := 1) sc_Lrows.nd rfl (Or.inl rfl) (pe_call G_Lrow h_Lrow rfl T.d_Lrow.m T.d_Lrow.k T.d_Lrow.b .nil pass0 (pa_cons (pv 0) (pa_cons (pe_op uAdd (pe_lst (pa_cons pe_int (pa_cons pe_int (pa_cons pe_int (pa_cons pe_int pa_nil))))) (pe_op op_rep (pe_lst (pa_cons pe_int (pa_cons pe_int pa_nil))) pe_int)) pa_nil))))
      (pss_cons (ps_set (i := 2) sc_Lrows.nd rfl (Or.inl rfl) (pe_op uAdd pe_int (pe_ix (r := rIx K) ix_seq (pv 1) pe_int (fun _ _ => rfl))))
      (pss_cons (ps_set (i := 3) sc_Lrows.nd rfl (Or.inl rfl) (pe_ix (r := rIx K) ix_seq (pe_lst (pa_cons pe_int (pa_cons pe_int (pa_cons pe_int (pa_cons pe_int pa_nil))))) (pe_ix (r := rIx K) ix_seq (pv 1) pe_int (fun _ _ => rfl)) (fun _ _ => rfl)))
      (pss_cons (ps_set (i := 4) sc_Lrows.nd rfl (Or.inl rfl) (pe_ix (r := rIx K) ix_seq (pe_lst (pa_cons pe_int (pa_cons pe_int (pa_cons pe_int pa_nil)))) (pe_ix (r := rIx K) ix_seq (pv 1) pe_int (fun _ _ => rfl)) (fun _ _ => rfl)))
      (pss_cons (ps_set (i := 5) sc_Lrows.nd rfl (Or.inl rfl) (pe_lst pa_nil))
      (pss_cons (ps_set (i := 6) sc_Lrows.nd rfl (Or.inl rfl) pe_int)
      (pss_cons (ps_for PassesOwn.never rfl (pi_range1 rfl T.n_range (pa_cons (pv 2) pa_nil)) (pg_name (i := 7) (sc_Lrows.nd) rfl (Or.inl rfl))
        (pss_cons (ps_if (pt_cmpR op_gt (pv 7) pe_int (nomark _))
          (pss_cons (ps_set (i := 8) sc_Lrows.nd rfl (Or.inl rfl) (pe_callB (call_min2 rfl) (by rfl) T.n_min boot_min' (pa_cons (pv 3) (pa_cons (pe_op op_sub (pe_op op_sub pe_int (pv 6)) (pe_op op_sub (pe_op op_sub (pv 2) pe_int) (pv 7))) pa_nil))))
          (pss_one (ps_set (i := 6) sc_Lrows.nd rfl (Or.inl rfl) (pe_op uAdd (pe_op uAdd (pv 6) pe_int) (pe_op op_mod (pe_ix (r := rIx K) ix_seq (pv 1) (pe_op uAdd pe_int (pe_op op_mul pe_int (pv 7))) (fun _ _ => rfl)) (pv 8))))))
          pss_nil)
        (pss_one (ps_expr (pe_bm PySem.F.plainAttrs_list PySem.F.slot_list_append PySem.F.type_list_append mt_append (pv 5) (pa_cons (pe_tup (pa_cons (pv 6) (pa_cons (pe_op op_sub (pe_op op_mod (pe_ix (r := rIx K) ix_seq (pv 1) (pe_op uAdd pe_int (pe_op op_mul pe_int (pv 7))) (fun _ _ => rfl)) (pe_op uAdd (pe_op op_mul pe_int (pv 4)) pe_int)) (pv 4)) pa_nil))) pa_nil))))))
      (pss_cons (ps_if (PW.pt (pw_and (pt_cmpR (uEq hU) (pe_ix (r := rIx K) ix_seq (pv 1) pe_int (fun _ _ => rfl)) pe_int (nomark _)) (pw_and1 (pt_cmpR op_gt (pv 2) pe_int (nomark _)))))
        (pss_one (ps_asg (pe_tup (pa_cons pe_int (pa_cons (pe_ix (r := rIx K) ix_seq (pe_ix (r := rIx K) ix_seq (pv 5) (pe_un un_neg pe_int) (fun _ _ => rfl)) pe_int (fun _ _ => rfl)) pa_nil))) (pg_sub (pv 5) (pe_un un_neg pe_int) set_list)))
        pss_nil)
      (pss_one (ps_ret (pv 5))))))))))), ?_⟩
    try dsimp only [cxOf, Cx.nox]
    refine ⟨_, rfl, small60 (Nat.le_of_ble_eq_true rfl), fun l1 fl1 => ⟨small60 (Nat.le_of_ble_eq_true rfl), fun l2 fl2 => ?_⟩⟩
    refine ⟨l2, 21, _, rfl, rfl, upd_same, (by decide), (by decide), small60 (Nat.le_of_ble_eq_true rfl), fun l3 fl3 => ?_⟩
    have T1 := Same.new (.lst [.int 21, .int 4, .int 3, .int 8]) fl1
    have T2 := Same.new (.lst [.int 1000000000, .int 5761]) fl2
    have T3 := Same.new (.lst (List.replicate (21 : Int).toNat [V.int 1000000000, .int 5761]).flatten) fl3
    refine .inr (.inl ⟨l1, l3, _, _, rfl, rfl, T3 _ _ (T2 _ _ upd_same), upd_same, small60 (Nat.le_of_ble_eq_true rfl), fun l4 fl4 => ?_⟩)
    have T4 := Same.new (.lst ([.int 21, .int 4, .int 3, .int 8] ++ (List.replicate (21 : Int).toNat [V.int 1000000000, .int 5761]).flatten)) fl4
    have SM4 := ((T1.trans T2).trans T3).trans T4
    refine ⟨c, l4, menus, rfl, (by rw [upd_same]; rfl), menus_ok, (by rw [menus_len]; decide), fun d ds G1 S1' hd ld hds => ?_⟩
    have S1 := SM4.trans S1'
    clear SM4 S1' T1 T2 T3 T4 fl1 fl2 fl3 fl4
    rw [menus_len] at ld
    have dat : ∀ j, j < 46 → ∃ x, ds[j]? = some x := fun j h => ⟨_, List.getElem?_eq_getElem (by omega)⟩
    obtain ⟨x0, ex0⟩ := dat 0 (by decide)
    obtain ⟨x1, ex1⟩ := dat 1 (by decide)
    obtain ⟨x2, ex2⟩ := dat 2 (by decide)
    obtain ⟨x3, ex3⟩ := dat 3 (by decide)
    have b0 := hds 0 x0 21 ex0 rfl
    have b1 := hds 1 x1 4 ex1 rfl
    have b2 := hds 2 x2 3 ex2 rfl
    have at0 := at_nat' (k := 0) ex0 rfl
    have at1 := at_nat' (k := 1) ex1 rfl
    have at2 := at_nat' (k := 2) ex2 rfl
    have at3 := at_nat' (k := 3) ex3 rfl
    refine ⟨_, rfl, .inl ⟨d, _, _, _, rfl, rfl, SqL.of hd, at0, .inl ⟨_, _, rfl, rfl, ?_⟩⟩⟩
    refine ⟨small60 (Nat.le_of_ble_eq_true rfl), fun l5 f5 => ?_⟩
    have Q5 := Same.new (.lst [.int 1000000000, .int 3, .int 90, .int 3000]) f5
    refine ⟨_, rfl, .inl ⟨d, _, _, _, rfl, rfl, SqL.of (Q5 _ _ hd), at1, ?_⟩⟩
    obtain ⟨v, hv, mv⟩ := atI_in (xs := [.int 1000000000, .int 3, .int 90, .int 3000]) (i := x1) b1.1 b1.2
    obtain ⟨re, rfl, re0⟩ : ∃ n : Int, v = .int n ∧ 0 < n := by
      simp only [List.mem_cons, List.not_mem_nil, or_false] at mv
      rcases mv with rfl | rfl | rfl | rfl <;> exact ⟨_, rfl, by decide⟩
    refine .inl ⟨l5, _, _, _, rfl, rfl, SqL.of upd_same, hv, ?_⟩
    refine ⟨small60 (Nat.le_of_ble_eq_true rfl), fun l6 f6 => ?_⟩
    have Q6 := Same.new (.lst [.int 2880, .int 4, .int 60]) f6
    refine ⟨_, rfl, .inl ⟨d, _, _, _, rfl, rfl, SqL.of (Q6 _ _ (Q5 _ _ hd)), at2, ?_⟩⟩
    obtain ⟨v2, hv2, mv2⟩ := atI_in (xs := [.int 2880, .int 4, .int 60]) (i := x2) b2.1 b2.2
    obtain ⟨wi, rfl, wi0, wi1⟩ : ∃ n : Int, v2 = .int n ∧ 0 < n ∧ n ≤ 2880 := by
      simp only [List.mem_cons, List.not_mem_nil, or_false] at mv2
      rcases mv2 with rfl | rfl | rfl <;> exact ⟨_, rfl, by decide, by decide⟩
    refine .inl ⟨l6, _, _, _, rfl, rfl, SqL.of upd_same, hv2, ?_⟩
    refine ⟨Nat.zero_le _, fun q fq => ?_⟩
    have S2 := ((S1.trans Q5).trans Q6)
    have fqH : H q = none := S2.none fq
    have hd1 := Q6 _ _ (Q5 _ _ hd)
    have nqd : d ≠ q := ne_of_none hd1 fq
    have Sq := Same.new (.lst []) fq
    have hd2 := Sq _ _ hd1
    have hq2 : (upd (upd (upd G1 l5 (.lst [.int 1000000000, .int 3, .int 90, .int 3000])) l6 (.lst [.int 2880, .int 4, .int 60])) q (.lst [])) q = some (.lst []) := upd_same
    have S3 := S2.trans Sq
    try unfold tNext
    try dsimp only
    generalize upd (upd (upd G1 l5 (.lst [.int 1000000000, .int 3, .int 90, .int 3000])) l6 (.lst [.int 2880, .int 4, .int 60])) q (.lst []) = G2 at hd2 hq2 S3 ⊢
    clear Sq Q5 Q6 hv hv2
    refine seq_split (t := tAsg _ _) (fun σ' H' => σ' = [some (.int c), some (.ref d), some (.int (1 + x0)), some (.int re), some (.int wi), some (.ref q), some (.int 0), none, none] ∧ H' = G2) (fun N hN => hN _ _ ⟨rfl, rfl⟩) ?_
    rintro σ' G2' ⟨rfl, rfl⟩
    generalize hmn : 1 + x0 = mn
    have mn0 : 1 ≤ mn ∧ mn ≤ 21 := by omega
    refine seq_split (t := tFor _ _ _) (fun σ' H' => ∃ (mo : Int) (s7 s8 : Option V) (zs : List V) (rows : List (Int × Int)), σ' = [some (.int c), some (.ref d), some (.int mn), some (.int re), some (.int wi), some (.ref q), some (.int mo), s7, s8] ∧ Same H H' ∧ H' d = some (.lst (ds.map V.int)) ∧ H' q = some (.lst zs) ∧ TupL pr H' zs rows ∧ rows.length = mn.toNat ∧ Pa rows mo ∧ mo ≤ 1000000000) (fun N hN => ?_) ?_
    · refine ⟨_, rfl, _, rfl, by omega, by omega, ?_⟩
      refine for_range (D := { nx := N, rt := Q }) (lo := 0) (fun i σ H2 => ∃ (mo : Int) (s7 s8 : Option V) (zs : List V) (rows : List (Int × Int)), σ = [some (.int c), some (.ref d), some (.int mn), some (.int re), some (.int wi), some (.ref q), some (.int mo), s7, s8] ∧ Same H H2 ∧ H2 d = some (.lst (ds.map V.int)) ∧ H2 q = some (.lst zs) ∧ TupL pr H2 zs rows ∧ rows.length = i ∧ Pa rows mo ∧ 0 ≤ mo ∧ mo ≤ 1000000000 - (mn - i)) ⟨0, none, none, [], [], rfl, S3, hd2, hq2, .nil, rfl, .nil, by omega, by omega⟩ ?_ ?_
      · rintro i σ H2 hi ⟨mo, s7, s8, zs, rows, rfl, S, hd3, hq3, tz, lr, pa, mo0, mo1⟩
        have hi2 : (i : Int) < mn := by omega
        obtain ⟨y4, ey4⟩ := dat (4 + 2 * i) (by omega)
        obtain ⟨y5, ey5⟩ := dat (5 + 2 * i) (by omega)
        have at4 := at_nat' (k := 4 + 2 * (0 + (i : Int))) ey4 (by omega)
        have at5 := at_nat' (k := 5 + 2 * (0 + (i : Int))) ey5 (by omega)
        try dsimp only
        refine seq_split (t := tIfS _ _ _) (fun σ' H' => ∃ (m2 : Int) (s8 : Option V), σ' = [some (.int c), some (.ref d), some (.int mn), some (.int re), some (.int wi), some (.ref q), some (.int m2), some (.int (0 + (i : Int))), s8] ∧ H' = H2 ∧ (rows = [] → m2 = 0) ∧ (rows ≠ [] → mo < m2) ∧ 0 ≤ m2 ∧ m2 ≤ 1000000000 - (mn - (i + 1))) (fun N hN => ?_) ?_
        · refine ⟨_, rfl, _, _, rfl, rfl, _, rfl, iteD (fun g => ?_) (fun g => ?_)⟩
          · refine ⟨_, rfl, _, rfl, _, _, rfl, rfl, _, rfl, _, _, rfl, rfl, _, rfl, _, _, rfl, rfl, _, _, rfl, rfl, _, _, rfl, ?_⟩
            have hsp : ∃ sp, (if 1000000000 - mo - (mn - 1 - (0 + (i : Int))) < re then 1000000000 - mo - (mn - 1 - (0 + (i : Int))) else re) = sp ∧ 0 < sp ∧ sp ≤ 1000000000 - mo - (mn - 1 - (0 + (i : Int))) := ⟨_, rfl, by split <;> omega, by split <;> omega⟩
            obtain ⟨sp, esp, sp0, sp1⟩ := hsp
            try dsimp only
            rw [esp]
            have e0 := Int.emod_nonneg y4 (show sp ≠ 0 by omega)
            have e1 := Int.emod_lt_of_pos y4 sp0
            exact ⟨_, rfl, .inl ⟨_, _, rfl, rfl, _, rfl, _, rfl, _, _, rfl, rfl, .inl ⟨by decide, by decide⟩, .inl ⟨_, _, rfl, rfl, .inl ⟨d, _, _, _, rfl, rfl, SqL.of hd3, at4, _, rfl, _, _, rfl, rfl, sp0, .inl ⟨_, _, rfl, rfl, hN _ _ ⟨_, _, rfl, rfl, fun z => by rw [z] at lr; simp at lr; omega, fun _ => by omega, by omega, by omega⟩⟩⟩⟩⟩⟩
          · have i0 : i = 0 := by omega
            have r0 : rows = [] := List.eq_nil_of_length_eq_zero (by omega)
            refine hN _ _ ⟨mo, s8, rfl, rfl, fun _ => ?_, fun z => absurd r0 z, mo0, by omega⟩
            rcases pa.fst with z | ⟨n, hn⟩
            · exact z.2
            · rw [r0] at hn; cases hn
        rintro σ' H3 ⟨m2, s8, rfl, rfl, k0, k1, k2, k3⟩
        refine ⟨_, rfl, .inl ⟨rfl, _, SqL.of hq3⟩, _, rfl, _, rfl, _, rfl, _, _, rfl, rfl, .inl ⟨by decide, by decide⟩, .inl ⟨_, _, rfl, rfl, .inl ⟨d, _, _, _, rfl, rfl, SqL.of hd3, at5, _, rfl, _, _, rfl, rfl, .inl ⟨by decide, by decide⟩, .inl ⟨_, _, rfl, rfl, _, _, rfl, rfl, (by show 0 < 2 * wi + 1; omega), _, rfl, _, _, rfl, rfl, small60 (Nat.le_of_ble_eq_true rfl), fun tt ft => ?_⟩⟩⟩⟩
        have e0 := Int.emod_nonneg y5 (show 2 * wi + 1 ≠ 0 by omega)
        have e1 := Int.emod_lt_of_pos y5 (show 0 < 2 * wi + 1 by omega)
        have St := Same.new (.tup [.int m2, .int (y5 % (2 * wi + 1) - wi)]) ft
        have hq5 := St _ _ hq3
        refine ⟨q, _, _, rfl, rfl, hq5, small1000 (by rw [tz.1]; omega), ?_⟩
        exact ⟨m2, _, _, zs ++ [.ref tt], rows ++ [(m2, y5 % (2 * wi + 1) - wi)], rfl, (S.trans St).put fqH _, (upd_ne nqd).trans (St _ _ hd3), upd_same, ((tz.same St).snoc (p := (m2, y5 % (2 * wi + 1) - wi)) upd_same).put hq5, by rw [List.length_append, lr]; rfl, pa.snoc k0 k1 k2 (by omega) (by omega), k2, by omega⟩
      · rintro σ H2 ⟨mo, s7, s8, zs, rows, rfl, S, hd3, hq3, tz, lr, pa, mo0, mo1⟩
        exact hN _ _ ⟨mo, s7, s8, zs, rows, rfl, S, hd3, hq3, tz, lr, pa, by omega⟩
    rintro σ' H2 ⟨mo, s7, s8, zs, rows, rfl, S, hd3, hq3, tz, lr, pa, mo1⟩
    refine seq_split (t := tIfS _ _ _) (fun σ' H' => ∃ rows' : List (Int × Int), σ' = [some (.int c), some (.ref d), some (.int mn), some (.int re), some (.int wi), some (.ref q), some (.int mo), s7, s8] ∧ Same H H' ∧ Rs H' q rows' ∧ Good rows') (fun N hN => ?_) ?_
    · have no : N _ H2 := hN [some (.int c), some (.ref d), some (.int mn), some (.int re), some (.int wi), some (.ref q), some (.int mo), s7, s8] H2 ⟨rows, rfl, S, ⟨zs, hq3, tz⟩, pa.good mo1 (by omega) (by omega)⟩
      refine ⟨_, rfl, .inl ⟨d, _, _, _, rfl, rfl, SqL.of hd3, at3, .inl ⟨rfl, _, rfl, iteD (fun g1 => ?_) (fun g1 => iteF no)⟩⟩⟩
      refine ⟨_, rfl, _, _, rfl, rfl, _, rfl, iteD (fun g2 => ?_) (fun g2 => no)⟩
      have g3 : 1 < rows.length := by omega
      cases el : rows.getLast? with
      | none =>
        rw [List.getLast?_eq_none_iff.mp el] at g3
        simp at g3
      | some l =>
        obtain ⟨t0, hz0, ht0⟩ := TupL.last tz el
        refine ⟨_, rfl, _, rfl, .inl ⟨q, _, _, _, rfl, rfl, SqL.of hq3, atI_last hz0, .inr (.inl ⟨t0, _, _, _, rfl, rfl, SqT.of ht0, rfl, small60 (Nat.le_of_ble_eq_true rfl), fun tt ft => ?_⟩)⟩⟩
        have St := Same.new (.tup [.int 1000000000, .int l.2]) ft
        refine ⟨_, rfl, _, rfl, q, _, _, zs.length - 1, rfl, rfl, St _ _ hq3, ixN_last (by rw [tz.1]; omega), ?_⟩
        refine hN _ _ ⟨_, rfl, (S.trans St).put fqH _, ⟨_, upd_same, (TupL.set (tz.same St) (i := zs.length - 1) (p := (1000000000, l.2)) upd_same).put (St _ _ hq3)⟩, ?_⟩
        rw [tz.1]
        exact pa.far mo1 g3 (by omega) el
    rintro _ G6 ⟨rows', rfl, S6, R6, good6⟩
    exact ⟨_, rfl, kk q rows' G6 S6 R6 good6⟩
end
end K18
set_option Elab.async false
set_option linter.all false
set_option maxRecDepth 100000
namespace K18
open PySem L2 PySem.NumText PyProof.Rows KC M18
section
variable {P : Program} {w : World} {K : PySem.W.Frag} {mg : Str → Option Value} {base : Heap}
end
theorem rows_take {H : Hp} {zs : List V} {rows : List (Int × Int)} (h : TupL pr H zs rows) (n : Nat) : TupL pr H (zs.take n) (rows.take n) := ⟨by rw [List.length_take, List.length_take, h.1], fun i z r e1 e2 => by
  have li : i < n := by
    have := (List.getElem?_eq_some_iff.mp e1).1
    rw [List.length_take] at this
    omega
  rw [List.getElem?_take_of_lt li] at e1 e2
  exact h.2 i z r e1 e2⟩
theorem Good.rw2 {rows : List (Int × Int)} (g : Good rows) : Rw (rows.take 2) := ⟨by rw [List.length_take]; omega, by have := g.ne; rw [List.length_take]; omega, fun r m => g.ok r (List.mem_of_mem_take m)⟩
noncomputable def PvL (sa : Addr) (H : Hp) : Nat → L2.St → Hp → Prop := fun i σ H2 => ∃ s1 s2 s3 s4 s5 s6 s7 : Option V, σ = [some (.ref sa), s1, s2, s3, s4, s5, s6, s7] ∧ Same H H2
theorem four {fs : List Int} (h : fs.length = 4) : ∃ a b c d, fs = [a, b, c, d] := by
  rcases fs with _ | ⟨a, _ | ⟨b, _ | ⟨c, _ | ⟨d, _ | ⟨f, t⟩⟩⟩⟩⟩ <;> simp at h
  exact ⟨a, b, c, d, rfl⟩
theorem snoc_rows {rows : List (Int × Int)} (h : 0 < rows.length) : ∃ pre r, rows = pre ++ [r] := ⟨rows.dropLast, rows.getLast (List.ne_nil_of_length_pos h), (List.dropLast_concat_getLast _).symm⟩
theorem snoc_strs {ys : List Str} (h : 0 < ys.length) : ∃ pre r, ys = pre ++ [r] := ⟨ys.dropLast, ys.getLast (List.ne_nil_of_length_pos h), (List.dropLast_concat_getLast _).symm⟩
theorem join_end (e : Str) : ∀ (pre : List Str) (y : Str), Str.join sc (pre ++ [y]) ++ e = Str.join sc (pre ++ [y ++ e])
  | [], y => rfl
  | [p], y => by
    show p ++ sc ++ y ++ e = p ++ sc ++ (y ++ e)
    exact Str.append_assoc ..
  | p :: q :: r, y => by
    show p ++ sc ++ Str.join sc (q :: r ++ [y]) ++ e = p ++ sc ++ Str.join sc (q :: r ++ [y ++ e])
    rw [← join_end e (q :: r) y, Str.append_assoc]
theorem join_last : ∀ (pre : List Str) (y : Str), Str.join sc (pre ++ [y]) ++ sc = Str.join sc (pre ++ [y, Str.ofString ""])
  | [], y => by
    show y ++ sc = y ++ sc ++ Str.ofString ""
    refine str_ext ?_
    rw [app_toList, app_toList, app_toList, show (Str.ofString "").cps.toList = [] by decide +kernel, List.append_nil]
  | [p], y => by
    show p ++ sc ++ y ++ sc = p ++ sc ++ (y ++ sc ++ Str.ofString "")
    refine str_ext ?_
    simp only [app_toList, show (Str.ofString "").cps.toList = [] by decide +kernel, List.append_nil, List.append_assoc]
  | p :: q :: r, y => by
    show p ++ sc ++ Str.join sc (q :: r ++ [y]) ++ sc = p ++ sc ++ Str.join sc (q :: r ++ [y, Str.ofString ""])
    rw [← join_last (q :: r) y, Str.append_assoc]
theorem more_bad {y e : Str} {r : Int × Int} {q : Nat} (hy : y.cps.toList = rowL r) (ok : okR r) (he : e.cps.toList = [q]) (hq : q ≠ 46) (h : q = 32 ∨ q = 59 ∨ q = 10) : Bad (y ++ e) := by
  have c32 := c32 ok
  have c59 := c59 ok
  have s32 := s32 ok
  have s59 := s59 ok
  have el : (y ++ e).cps.toList = rowL r ++ [q] := by rw [app_toList, hy, he]
  have ln : (y ++ e).length ≤ 200 := by
    rw [← len_toList, el, List.length_append]
    have := rowL_len ok
    show _ + 1 ≤ 200
    omega
  have sem := rowL_semi r
  have er : rowL r ++ [q] = clL r.1 ++ 32 :: (shL r.2 ++ [q]) := by unfold rowL; simp
  rcases h with e | e | e
  · subst e
    refine ⟨?_, ?_, ln⟩
    · rw [el, er, show shL r.2 ++ [32] = shL r.2 ++ 32 :: [] from rfl]
      exact rowT_three c32 s32
    · rw [el]
      exact no_free fun z => (List.mem_append.mp z).elim sem (by simp)
  · subst e
    refine ⟨?_, ?_, ln⟩
    · rw [el, er]
      exact rowT_shift c32 (fun z => (List.mem_append.mp z).elim s32 (by simp)) (sh_more r.2 59)
    · rw [el]
      exact no_mid sem (by simp) (by simp)
  · subst e
    refine ⟨?_, ?_, ln⟩
    · rw [el, er]
      exact rowT_shift c32 (fun z => (List.mem_append.mp z).elim s32 (by simp)) (sh_more r.2 10)
    · rw [el]
      exact no_free fun z => (List.mem_append.mp z).elim sem (by simp)
theorem end_ref {ys : List Str} {rows : List (Int × Int)} (h : TX ys rows) (g : Good rows) {e : Str} {H : Hp} :
    (e.cps.toList = [10] ∨ e.cps.toList = [32] ∨ e.cps.toList = [59] → Th H (.str (Str.join sc ys ++ e)) ∧ tabV (.str (Str.join sc ys ++ e)) = .inl (rows.length - 1)) ∧
    (e = sc → Th H (.str (Str.join sc ys ++ e)) ∧ tabV (.str (Str.join sc ys ++ e)) = .inl rows.length) := by
  have ly := h.len
  have pos := g.ne
  have few := g.few
  obtain ⟨pre, y, rfl⟩ := snoc_strs (ys := ys) (by omega)
  obtain ⟨rpre, r, rfl⟩ := snoc_rows (rows := rows) pos
  have lp : pre.length = rpre.length := by rw [List.length_append, List.length_append] at ly; exact Nat.succ.inj ly
  have h2 : pre.map (fun p => p.cps.toList) = rpre.map rowL ∧ y.cps.toList = rowL r := by
    unfold TX at h
    rw [List.map_append, List.map_append] at h
    obtain ⟨a, b⟩ := List.append_inj h (by rw [List.length_map, List.length_map, lp])
    exact ⟨a, by simpa using b⟩
  have okr : okR r := g.ok r (by simp)
  have okp : ∀ z ∈ rpre, okR z := fun z m => g.ok z (List.mem_append_left _ m)
  have fp := TX.fit (show TX pre rpre from h2.1) okp
  have lr : rpre.length + 1 ≤ 21 := by rw [List.length_append] at few; exact few
  refine ⟨fun he => ?_, fun he => ?_⟩
  · have bb : Bad (y ++ e) := by
      rcases he with he | he | he
      · exact more_bad h2.2 okr he (by decide) (.inr (.inr rfl))
      · exact more_bad h2.2 okr he (by decide) (.inl rfl)
      · exact more_bad h2.2 okr he (by decide) (.inr (.inl rfl))
    rw [join_end]
    obtain ⟨th, et, _⟩ := th_join (H := H) (zs := pre ++ [y ++ e]) (by simp) (by rw [List.length_append]; show pre.length + 1 ≤ 60; omega) (fun z m => by
      rcases List.mem_append.mp m with m | m
      · exact fp z m
      · rw [List.mem_singleton.mp m]; exact Bad.fit bb)
    refine ⟨th, ?_⟩
    rw [et, rp_at (show TX pre rpre from h2.1) okp bb.row, List.length_append]
    rfl
  · subst he
    have fy : Fit y := TX.fit h g.ok y (by simp)
    rw [join_last]
    have e0 : (Str.ofString "").cps.toList = [] := by decide +kernel
    obtain ⟨th, et, _⟩ := th_join (H := H) (zs := pre ++ [y, Str.ofString ""]) (by simp) (by rw [List.length_append]; show pre.length + 2 ≤ 60; omega) (fun z m => by
      rcases List.mem_append.mp m with m | m
      · exact fp z m
      · rcases List.mem_cons.mp m with e | m
        · rw [e]; exact fy
        · rw [List.mem_singleton.mp m]; exact ⟨by rw [e0]; exact no_free (by simp), by decide +kernel⟩)
    refine ⟨th, ?_⟩
    have := rp_at (rest := []) (y := Str.ofString "") h g.ok (by rw [e0]; decide)
    rw [et, show pre ++ [y, Str.ofString ""] = (pre ++ [y]) ++ Str.ofString "" :: [] by simp, this]
theorem empty_ref {H : Hp} : Th H (.str (Str.ofString "")) ∧ tabV (.str (Str.ofString "")) = .inl 0 := by
  have e : Txt.split (Str.ofString "") sc = [Str.ofString ""] := by decide +kernel
  refine ⟨⟨⟨_, rfl⟩, fun x z => ?_⟩, ?_⟩
  · cases z
    refine ⟨by decide +kernel, ?_⟩
    rw [e]
    intro y m
    rw [List.mem_singleton.mp m]; decide +kernel
  · show rp [] 0 (Txt.split (Str.ofString "") sc) = _
    rw [e]
    exact rp_no (by decide +kernel)
section
variable {P : Program} {w : World} {K : PySem.W.Frag} {mg : Str → Option Value} {base : Heap}
theorem ok_law {a : Ad} (T : Txt K mg a) : FnOk P w K mg base CX0 11 a.f_law a.fd_law ["_law_script"] (sp_law K) := by
  have G_Lrows : FnOk P w K mg base CX0 2 a.f_Lrows a.fd_Lrows ["_law_cell_here"] sp_Lrows := ok_Lrows T
  have G_Lrow : FnOk P w K mg base CX0 1 a.f_Lrow a.fd_Lrow ["_law_cell_here", "_law_sizes"] sp_Lrow := ok_Lrow T
  have G_Lcell : FnOk P w K mg base CX0 1 a.f_Lcell a.fd_Lcell ["_law_script", "_law_k"] (sp_Lcell K) := ok_Lcell T
  have G_Lrefused : FnOk P w K mg base CX0 9 a.f_Lrefused a.fd_Lrefused ["_law_text", "_law_kind", "_law_due"] (sp_Lrefused a) := ok_Lrefused T
  have G_Lrows_refused : FnOk P w K mg base CX0 10 a.f_Lrows_refused a.fd_Lrows_refused ["_law_rows_here", "_law_cell_here"] (sp_Lrows_refused a) := ok_Lrows_refused T
  have G_Lparts_refused : FnOk P w K mg base CX0 10 a.f_Lparts_refused a.fd_Lparts_refused ["_law_rows_here", "_law_xs"] (sp_Lparts_refused a) := ok_Lparts_refused T
  have G_Lshift : FnOk P w K mg base CX0 2 a.f_Lshift a.fd_Lshift ["_law_shift_here"] sp_Lshift := ok_Lshift T
  have G_Lclock : FnOk P w K mg base CX0 2 a.f_Lclock a.fd_Lclock ["_law_number"] sp_Lclock := ok_Lclock T
  refine T.d_law.F.ok sc_law (fun vs H Q E h => ?_) (fun cdv A outer s H vs Q E hr h => ?_)
  · obtain ⟨sa, ns, rfl, hS, hlen, kk⟩ := h
    rfl
  · obtain ⟨sa, ns, rfl, hS, hlen, kk⟩ := h
    have hu := hu_of hr
    have hU := hr.units
    have h_Lrows : Room (2) _ := hr.mono (by decide)
    have h_Lrow : Room (1) _ := hr.mono (by decide)
    have h_Lcell : Room (1) _ := hr.mono (by decide)
    have h_Lrefused : Room (9) _ := hr.mono (by decide)
    have h_Lrows_refused : Room (10) _ := hr.mono (by decide)
    have h_Lparts_refused : Room (10) _ := hr.mono (by decide)
    have h_Lshift : Room (2) _ := hr.mono (by decide)
    have h_Lclock : Room (2) _ := hr.mono (by decide)
    refine ⟨_, (pss_cons (ps_for PassesOwn.never rfl (pi_range1 rfl T.n_range (pa_cons (pe_op uAdd (pe_callB (call_min2 rfl) (by rfl) T.n_min boot_min' (pa_cons pe_int (pa_cons (pe_callB call_len (by rfl) T.n_len boot_len' (pa_cons (pv 0) pa_nil)) pa_nil))) pe_int) pa_nil)) (pg_name (i := 1) (sc_law.nd) rfl (Or.inl rfl))
        (pss_cons (ps_set (i := 2) sc_law.nd rfl (Or.inl rfl) (pe_call G_Lrows h_Lrows rfl T.d_Lrows.m T.d_Lrows.k T.d_Lrows.b .nil pass0 (pa_cons (pe_op uAdd (pe_call G_Lcell h_Lcell rfl T.d_Lcell.m T.d_Lcell.k T.d_Lcell.b .nil pass0 (pa_cons (pv 0) (pa_cons (pv 1) pa_nil))) (pv 1)) pa_nil)))
        (pss_cons (ps_set (i := 3) sc_law.nd rfl (Or.inl rfl) (pe_call G_Lrow h_Lrow rfl T.d_Lrow.m T.d_Lrow.k T.d_Lrow.b .nil pass0 (pa_cons (pe_call G_Lcell h_Lcell rfl T.d_Lcell.m T.d_Lcell.k T.d_Lcell.b .nil pass0 (pa_cons (pv 0) (pa_cons (pe_op uAdd (pv 1) pe_int) pa_nil))) (pa_cons (pe_lst (pa_cons pe_int (pa_cons pe_int (pa_cons pe_int (pa_cons pe_int pa_nil))))) pa_nil))))
        (pss_cons (ps_if (PW.pt (pw_and (pt_cmpR (uEq hU) (pe_op op_mod (pv 1) pe_int) pe_int (nomark _)) (pw_and1 (pt_not (pt_val (pe_call G_Lparts_refused h_Lparts_refused rfl T.d_Lparts_refused.m T.d_Lparts_refused.k T.d_Lparts_refused.b .nil pass0 (pa_cons (pv 2) (pa_cons (pv 3) pa_nil))))))))
          (pss_one (ps_ret pe_bl))
          pss_nil)
        (pss_one (ps_if (PW.pt (pw_and (pt_cmpR (uEq hU) (pe_op op_mod (pv 1) pe_int) pe_int (nomark _)) (pw_and1 (pt_not (pt_val (pe_call G_Lrows_refused h_Lrows_refused rfl T.d_Lrows_refused.m T.d_Lrows_refused.k T.d_Lrows_refused.b .nil pass0 (pa_cons (pv 2) (pa_cons (pe_ix (r := rIx K) ix_seq (pv 3) pe_int (fun _ _ => rfl)) pa_nil))))))))
          (pss_one (ps_ret pe_bl))
          pss_nil))))))
      (pss_cons (ps_set (i := 2) sc_law.nd rfl (Or.inl rfl) (pe_call G_Lrows h_Lrows rfl T.d_Lrows.m T.d_Lrows.k T.d_Lrows.b .nil pass0 (pa_cons (pe_call G_Lcell h_Lcell rfl T.d_Lcell.m T.d_Lcell.k T.d_Lcell.b .nil pass0 (pa_cons (pv 0) (pa_cons pe_int pa_nil))) pa_nil)))
      (pss_cons (ps_set (i := 4) sc_law.nd rfl (Or.inl rfl) (pe_bm PySem.F.plainAttrs_str PySem.F.slot_str_join PySem.F.type_str_join mt_join pe_str (pa_cons (pe_comp rfl (CompOk.def ["_law_row_here"] [none]) (pi_list (pv 2)) (fun _ _ _ _ _ => (pg_name (i := 0) (show List.Nodup (["_law_row_here"] : List Str) by decide +kernel) rfl (Or.inl rfl))) (fun _ _ _ _ _ => pts_nil) (fun _ _ _ _ _ => (pe_op uAdd (pe_op uAdd (pe_call G_Lclock h_Lclock rfl T.d_Lclock.m T.d_Lclock.k T.d_Lclock.b .nil pass0 (pa_cons (pe_ix (r := rIx K) ix_seq (pv 0) pe_int (fun _ _ => rfl)) pa_nil)) pe_str) (pe_call G_Lshift h_Lshift rfl T.d_Lshift.m T.d_Lshift.k T.d_Lshift.b .nil pass0 (pa_cons (pe_ix (r := rIx K) ix_seq (pv 0) pe_int (fun _ _ => rfl)) pa_nil))))) pa_nil)))
      (pss_cons (ps_for PassesOwn.never rfl (pi_list (pe_lst (pa_cons (pe_tup (pa_cons pe_str (pa_cons (pe_op op_sub (pe_callB call_len (by rfl) T.n_len boot_len' (pa_cons (pv 2) pa_nil)) pe_int) pa_nil))) (pa_cons (pe_tup (pa_cons pe_str (pa_cons (pe_op op_sub (pe_callB call_len (by rfl) T.n_len boot_len' (pa_cons (pv 2) pa_nil)) pe_int) pa_nil))) (pa_cons (pe_tup (pa_cons pe_str (pa_cons (pe_callB call_len (by rfl) T.n_len boot_len' (pa_cons (pv 2) pa_nil)) pa_nil))) (pa_cons (pe_tup (pa_cons pe_str (pa_cons (pe_op op_sub (pe_callB call_len (by rfl) T.n_len boot_len' (pa_cons (pv 2) pa_nil)) pe_int) pa_nil))) pa_nil)))))) (pg_tup rfl (pgs_cons (pg_name (i := 5) (sc_law.nd) rfl (Or.inl rfl)) (pgs_cons (pg_name (i := 6) (sc_law.nd) rfl (Or.inl rfl)) pgs_nil)))
        (pss_one (ps_if (pt_not (pt_val (pe_call G_Lrefused h_Lrefused rfl T.d_Lrefused.m T.d_Lrefused.k T.d_Lrefused.b .nil pass0 (pa_cons (pe_op uAdd (pv 4) (pv 5)) (pa_cons pe_str (pa_cons (pv 6) pa_nil))))))
          (pss_one (ps_ret pe_bl))
          pss_nil)))
      (@pss_cons _ _ _ _ _ (by exact (@ps_for _ _ _ _ _ _ _ _ (by exact PassesOwn.never) (by rfl) (by exact (@pi_list _ _ _ _ (by exact (@pe_lst _ _ _ _ (by exact (@pa_cons _ _ _ _ _ (by exact pe_non) (by exact (@pa_cons _ _ _ _ _ (by exact pe_bl) (by exact (@pa_cons _ _ _ _ _ (by exact pe_int) (by exact (@pa_cons _ _ _ _ _ (by exact (pe_lst (pa_cons (pv 4) pa_nil))) (by exact (@pa_cons _ _ _ _ _ (by exact (pe_tup (pa_cons (pv 4) pa_nil))) (by exact (@pa_cons _ _ _ _ _ (by exact (pe_disp (pps_cons (pv 4) (pv 4) pps_nil) rfl rfl (by simp) (by decide))) (by exact (@pa_cons _ _ _ _ _ (by exact (pv 2)) (by exact (@pa_nil _)) (by rfl))) (by rfl))) (by rfl))) (by rfl))) (by rfl))) (by rfl))) (by rfl))))))) (by exact (pg_name (i := 7) (sc_law.nd) rfl (Or.inl rfl)))
        (by exact (pss_one (ps_if (pt_not (pt_val (pe_call G_Lrefused h_Lrefused rfl T.d_Lrefused.m T.d_Lrefused.k T.d_Lrefused.b .nil pass0 (pa_cons (pv 7) (pa_cons pe_str (pa_cons pe_int pa_nil))))))
          (pss_one (ps_ret pe_bl))
          pss_nil))) (by intro _; rfl)))
      (by exact (pss_cons (ps_for PassesOwn.never rfl (pi_range1 rfl T.n_range (pa_cons pe_int pa_nil)) (pg_name (i := 1) (sc_law.nd) rfl (Or.inl rfl))
        (pss_one (ps_if (pt_not (pt_val (pe_call G_Lparts_refused h_Lparts_refused rfl T.d_Lparts_refused.m T.d_Lparts_refused.k T.d_Lparts_refused.b .nil pass0 (pa_cons (pe_slice uSl (pv 2) po_none (po_some pe_int)) (pa_cons (pe_lst (pa_cons (pe_op op_mod (pe_call G_Lcell h_Lcell rfl T.d_Lcell.m T.d_Lcell.k T.d_Lcell.b .nil pass0 (pa_cons (pv 0) (pa_cons (pe_op uAdd (pv 1) pe_int) pa_nil))) pe_int) (pa_cons (pe_op op_mod (pv 1) pe_int) (pa_cons pe_int (pa_cons (pv 1) pa_nil))))) pa_nil)))))
          (pss_one (ps_ret pe_bl))
          pss_nil)))
      (pss_one (ps_ret (pe_and (pe_call G_Lrefused h_Lrefused rfl T.d_Lrefused.m T.d_Lrefused.k T.d_Lrefused.b .nil pass0 (pa_cons pe_str (pa_cons pe_str (pa_cons pe_int pa_nil)))) (pe_one (pe_call G_Lrows_refused h_Lrows_refused rfl T.d_Lrows_refused.m T.d_Lrows_refused.k T.d_Lrows_refused.b .nil pass0 (pa_cons (pv 2) (pa_cons (pe_call G_Lcell h_Lcell rfl T.d_Lcell.m T.d_Lcell.k T.d_Lcell.b .nil pass0 (pa_cons (pv 0) (pa_cons pe_int pa_nil))) pa_nil)))))))))))))), ?_⟩
    try dsimp only [cxOf, Cx.nox]
    refine seq_go fun N1 h1 => ?_
    refine ⟨_, rfl, _, _, rfl, .inl ⟨_, hS, rfl⟩, _, _, rfl, .inl ⟨_, _, rfl, rfl, _, rfl, (by split <;> omega), (by rw [List.length_map]; split <;> omega), ?_⟩⟩
    refine for_range (lo := 0) (D := { nx := N1, rt := Q }) (PvL sa H) ⟨_, _, _, _, _, _, _, rfl, Same.refl H⟩ ?_ ?_
    · rintro i σ H2 hi ⟨s1, s2, s3, s4, s5, s6, s7, rfl, S⟩
      clear h1
      refine seq_go fun N2 h2 => ?_
      refine ⟨_, rfl, _, rfl, sa, ns, _, rfl, S.seq hS, fun c1 G0 S0 => ⟨_, rfl, .inl ⟨_, _, rfl, rfl, _, rfl, fun q rows G1 S1 R1 good => h2 _ _ ?_⟩⟩⟩
      have T1 := (S.trans S0).trans S1
      refine seq_go fun N3 h3 => ?_
      refine ⟨_, rfl, _, rfl, .inl ⟨_, _, rfl, rfl, sa, ns, _, rfl, T1.seq hS, fun c2 G2 S2 => ⟨small60 (Nat.le_of_ble_eq_true rfl), fun m0 fm0 => ?_⟩⟩⟩
      have A3 := Same.new (.lst [.int 22, .int 2, .int 3, .int 30]) fm0
      refine ⟨c2, m0, [22, 2, 3, 30], rfl, (by rw [upd_same]; rfl), (by decide), (by decide), fun d fs G4 S4 hd lf hfs => h3 _ _ ?_⟩
      obtain ⟨x0, x1, x2, x3, rfl⟩ := four lf
      have b0 := hfs 0 x0 22 rfl rfl
      have b1 := hfs 1 x1 2 rfl rfl
      have S5 := (S2.trans A3).trans S4
      have R5 := R1.same S5
      have T5 := T1.trans S5
      clear h2 h3 S0 S1 S2 A3 S4 S5 hfs
      try unfold tNext
      try dsimp only
      refine seq_split (t := tIfS _ _ _) (fun σ' H' => σ' = [some (.ref sa), some (.int (0 + (i : Int))), some (.ref q), some (.ref d), s4, s5, s6, s7] ∧ Same G4 H') (fun N hN => ?_) ?_
      · refine ⟨_, rfl, _, _, rfl, rfl, (by show (0 : Int) < 2; decide), .inl ⟨rfl, _, rfl, iteD (fun g => ?_) (fun g => iteF (hN _ _ ⟨rfl, Same.refl _⟩))⟩⟩
        exact ⟨_, rfl, _, rfl, q, d, rows, x0, x1, x2, x3, rfl, R5, good.rw, hd, b0.1, b1.1, fun G5 S5 => ⟨true, rfl, iteFF rfl (hN _ _ ⟨rfl, S5⟩)⟩⟩
      rintro _ G5 ⟨rfl, S5⟩
      refine ⟨_, rfl, _, _, rfl, rfl, (by show (0 : Int) < 2; decide), .inl ⟨rfl, _, rfl, iteD (fun g => ?_) (fun g => iteF ⟨_, _, _, _, _, _, _, rfl, T5.trans S5⟩)⟩⟩
      refine ⟨_, rfl, _, rfl, .inl ⟨d, _, _, _, rfl, rfl, SqL.of (S5 _ _ hd), rfl, q, x0, rows, rfl, R5.same S5, good, fun G6 S6 => ⟨true, rfl, iteFF rfl ⟨_, _, _, _, _, _, _, rfl, (T5.trans S5).trans S6⟩⟩⟩⟩
    rintro σ H2 ⟨s1, s2, s3, s4, s5, s6, s7, rfl, S⟩
    refine h1 _ _ ?_
    clear h1
    refine seq_go fun N2 h2 => ?_
    refine ⟨_, rfl, sa, ns, 0, rfl, S.seq hS, fun c1 G0 S0 => ⟨c1, rfl, fun q rows G1 S1 R1 good => h2 _ _ ?_⟩⟩
    have T1 := (S.trans S0).trans S1
    have rw := good.rw
    have few := good.few
    have pos := good.ne
    clear h2 S S0 S1
    refine seq_go fun N3 h3 => ?_
    refine ⟨rfl, ?_⟩
    obtain ⟨zz, hq0, tp0⟩ := id R1
    have lz0 : zz.length = rows.length := tp0.1
    refine ⟨_, rfl, q, rfl, ⟨_, SqL.of hq0⟩, fun D fD => ?_⟩
    refine comp_list (K := K) (a := q) (xs := zz) (D := D) (fun j σ H2 => ∃ (c0 : Option V) (ys : List Str), σ = [c0] ∧ Same G1 H2 ∧ H2 D = some (.lst (ys.map V.str)) ∧ TX ys (rows.take j)) ⟨none, [], rfl, Same.new _ fD, upd_same, rfl⟩ (fun j σ H2 _ ⟨_, _, _, S', _⟩ => SqL.of (S' _ _ hq0)) ?_ ?_
    · rintro j z σ H2 hz ⟨c0, ys, rfl, S', hC, hy⟩
      obtain ⟨r, u, hr', rfl, hu'⟩ := tp0.of hz
      have hu2 := S' _ _ hu'
      have okr := rw.ok r (List.mem_of_getElem? hr')
      have ly : ys.length ≤ 64 := by
        have := hy.len
        rw [List.length_take] at this
        have := rw.few
        omega
      refine ⟨_, rfl, .inr (.inl ⟨u, _, _, _, rfl, rfl, SqT.of hu2, rfl, r.1, rfl, ok_sm okr, fun xc ec => ?_⟩)⟩
      have l1 : xc.length ≤ 37 := by rw [← len_toList, ec]; exact clL_len (ok_sm okr).1 (ok_sm okr).2
      refine .inr (.inr ⟨_, _, rfl, rfl, cat2 l1 (lenK " " 1 (by decide +kernel)) (by decide), _, rfl, .inr (.inl ⟨u, _, _, _, rfl, rfl, SqT.of hu2, rfl, r.2, rfl, ⟨okr.2.2.1, okr.2.2.2⟩, fun xs es => ?_⟩)⟩)
      have l2 : xs.length ≤ 37 := by rw [← len_toList, es]; exact shL_len ⟨okr.2.2.1, okr.2.2.2⟩
      refine .inr (.inr ⟨_, _, rfl, rfl, cat2 (len_app l1 (lenK " " 1 (by decide +kernel))) l2 (by decide), ?_⟩)
      have ez : (xc ++ Str.ofString " " ++ xs).cps.toList = rowL r := by
        rw [app_toList, app_toList, ec, es, blank]
        unfold rowL
        simp
      refine ⟨_, hC, small1000 (by rw [List.length_map]; omega), _, ys ++ [xc ++ Str.ofString " " ++ xs], rfl, S'.put fD _, (by rw [upd_same, List.map_append]; rfl), ?_⟩
      rw [List.take_add_one, hr']
      exact hy.app (show TX [xc ++ Str.ofString " " ++ xs] [r] by unfold TX; simp [ez])
    rintro σ KD ⟨c0, ys, rfl, SD, hD, hy⟩
    rw [lz0, List.take_length] at hy
    have ly := hy.len
    have fy := hy.fit rw.ok
    have T2 := T1.trans SD
    have R2 := R1.same SD
    obtain ⟨th0, et0, sz0⟩ := th_join (H := KD) (zs := ys) (fun e => by rw [e] at ly; simp at ly; omega) (by omega) fy
    refine ⟨_, D, _, rfl, rfl, SqL.of hD, sz0, ?_⟩
    rw [join_is]
    refine h3 _ _ ?_
    clear h3 hq0 tp0 lz0 zz R1 hD
    have ends := fun (e : Str) (H : Hp) => end_ref (e := e) (H := H) hy good
    have jl : (Str.join sc ys).length ≤ 20000 := (th0.2 _ rfl).1
    have jo : ∀ H : Hp, Th H (.str (Str.join sc ys)) := fun H => ⟨⟨_, rfl⟩, th0.2⟩
    try unfold tNext
    try dsimp only
    generalize Str.join sc ys = jx at ends jl jo th0 et0 ⊢
    obtain ⟨zq, hq2, tq2⟩ := id R2
    have lq : (zq.length : Int) = (rows.length : Int) := by rw [tq2.1]
    refine seq_go fun N4 h4 => ?_
    refine ⟨_, rfl, _, _, rfl, .inl ⟨_, SqL.of hq2, rfl⟩, _, _, rfl, rfl, small60 (Nat.le_of_ble_eq_true rfl), fun t1 g1 => ?_⟩
    rw [lq]
    have B1 := Same.new (.tup [.str "\n", .int ((rows.length : Int) - 1)]) g1
    refine ⟨_, rfl, _, _, rfl, .inl ⟨_, SqL.of (B1 _ _ hq2), rfl⟩, _, _, rfl, rfl, small60 (Nat.le_of_ble_eq_true rfl), fun t2 g2 => ?_⟩
    rw [lq]
    have B2 := Same.new (.tup [.str " ", .int ((rows.length : Int) - 1)]) g2
    refine ⟨_, rfl, _, _, rfl, .inl ⟨_, SqL.of (B2 _ _ (B1 _ _ hq2)), rfl⟩, small60 (Nat.le_of_ble_eq_true rfl), fun t3 g3 => ?_⟩
    rw [lq]
    have B3 := Same.new (.tup [.str "; ", .int (rows.length : Int)]) g3
    refine ⟨_, rfl, _, _, rfl, .inl ⟨_, SqL.of (B3 _ _ (B2 _ _ (B1 _ _ hq2))), rfl⟩, _, _, rfl, rfl, small60 (Nat.le_of_ble_eq_true rfl), fun t4 g4 => ?_⟩
    rw [lq]
    have B4 := Same.new (.tup [.str ";", .int ((rows.length : Int) - 1)]) g4
    refine ⟨small60 (Nat.le_of_ble_eq_true rfl), fun t5 g5 => ?_⟩
    have B5 := Same.new (.lst [.ref t1, .ref t2, .ref t3, .ref t4]) g5
    have C4 := B4.trans B5
    have C3 := B3.trans C4
    have C2 := B2.trans C3
    have B0 := B1.trans C2
    have e1 := C2 _ _ (upd_same : (upd KD t1 (.tup [.str "\n", .int ((rows.length : Int) - 1)])) t1 = _)
    have e2 := C3 t2 (.tup [.str " ", .int ((rows.length : Int) - 1)]) upd_same
    have e3 := C4 t3 (.tup [.str "; ", .int (rows.length : Int)]) upd_same
    have e4 := B5 t4 (.tup [.str ";", .int ((rows.length : Int) - 1)]) upd_same
    have e5 : (upd (upd (upd (upd (upd KD t1 (.tup [.str "\n", .int ((rows.length : Int) - 1)])) t2 (.tup [.str " ", .int ((rows.length : Int) - 1)])) t3 (.tup [.str "; ", .int (rows.length : Int)])) t4 (.tup [.str ";", .int ((rows.length : Int) - 1)])) t5 (.lst [.ref t1, .ref t2, .ref t3, .ref t4])) t5 = some (.lst [.ref t1, .ref t2, .ref t3, .ref t4]) := upd_same
    have T3 := T2.trans B0
    have R3 := R2.same B0
    try dsimp only
    generalize upd (upd (upd (upd (upd KD t1 (.tup [.str "\n", .int ((rows.length : Int) - 1)])) t2 (.tup [.str " ", .int ((rows.length : Int) - 1)])) t3 (.tup [.str "; ", .int (rows.length : Int)])) t4 (.tup [.str ";", .int ((rows.length : Int) - 1)])) t5 (.lst [.ref t1, .ref t2, .ref t3, .ref t4]) = E0_ at e1 e2 e3 e4 e5 T3 R3 ⊢
    clear B1 B2 B3 B4 B5 C2 C3 C4 B0 hq2 tq2 lq zq R2 T2
    refine ⟨t5, rfl, ⟨_, SqL.of e5⟩, for_list (D := { nx := N4, rt := Q }) (K := K) (a := t5) (xs := [.ref t1, .ref t2, .ref t3, .ref t4]) (fun j σ H4 => ∃ s1 s3 s5 s6 s7 : Option V, σ = [some (.ref sa), s1, some (.ref q), s3, some (.str jx), s5, s6, s7] ∧ Same E0_ H4) ⟨_, _, _, _, _, rfl, Same.refl _⟩ (fun j σ H4 _ ⟨_, _, _, _, _, _, S'⟩ => SqL.of (S' _ _ e5)) ?_ ?_⟩
    · rintro j z σ H4 hz ⟨s1, s3, s5, s6, s7, rfl, S4⟩
      clear h4
      have hm := List.mem_of_getElem? hz
      have go : ∃ (t : Addr) (e : Str) (k : Nat), z = .ref t ∧ H4 t = some (.tup [.str e, .int (k : Int)]) ∧ e.length ≤ 2 ∧ Th H4 (.str (jx ++ e)) ∧ tabV (.str (jx ++ e)) = .inl k := by
        have ek : ((rows.length : Int) - 1) = ((rows.length - 1 : Nat) : Int) := by omega
        rw [ek] at e1 e2 e4
        simp only [List.mem_cons, List.not_mem_nil, or_false] at hm
        rcases hm with rfl | rfl | rfl | rfl
        · have := (ends (Str.ofString "\n") H4).1 (.inl (by decide +kernel))
          exact ⟨t1, _, _, rfl, S4 _ _ e1, by decide +kernel, this.1, this.2⟩
        · have := (ends (Str.ofString " ") H4).1 (.inr (.inl (by decide +kernel)))
          exact ⟨t2, _, _, rfl, S4 _ _ e2, by decide +kernel, this.1, this.2⟩
        · have := (ends (Str.ofString "; ") H4).2 sc_is
          exact ⟨t3, _, _, rfl, S4 _ _ e3, by decide +kernel, this.1, this.2⟩
        · have := (ends (Str.ofString ";") H4).1 (.inr (.inr (by decide +kernel)))
          exact ⟨t4, _, _, rfl, S4 _ _ e4, by decide +kernel, this.1, this.2⟩
      obtain ⟨t, e, k, rfl, ht, le, th, et⟩ := go
      refine ⟨t, _, rfl, SqT.of ht, rfl, _, _, rfl, _, _, rfl, rfl, ?_⟩
      refine ⟨_, rfl, _, rfl, .inr (.inr ⟨_, _, rfl, rfl, small6k (by omega), _, rfl, _, "text", k, rfl, th, .text et, fun H5 S5 => ⟨true, rfl, iteFF rfl ?_⟩⟩)⟩
      exact ⟨_, _, _, _, _, rfl, S4.trans S5⟩
    rintro σ H4 ⟨s1, s3, s5, s6, s7, rfl, S4⟩
    refine h4 _ _ ?_
    have T4 := T3.trans S4
    have R4 := R3.same S4
    clear h4 e1 e2 e3 e4 e5 T3 R3 S4 ends
    refine seq_go fun N5 h5 => ?_
    refine ⟨_, rfl, small60 (Nat.le_of_ble_eq_true rfl), fun u1 g1 => ?_⟩
    have B1 := Same.new (.lst [.str jx]) g1
    refine ⟨_, rfl, small60 (Nat.le_of_ble_eq_true rfl), fun u2 g2 => ?_⟩
    have B2 := Same.new (.tup [.str jx]) g2
    intro u3 g3
    refine ⟨_, rfl, _, rfl, upd_same, [(Sum.inr jx, .str jx)], rfl, (by show 1 ≤ 15; decide), ?_⟩
    have B3 : Same (upd (upd H4 u1 (.lst [.str jx])) u2 (.tup [.str jx])) (upd (upd (upd (upd H4 u1 (.lst [.str jx])) u2 (.tup [.str jx])) u3 (.dK [])) u3 (.dK (mergeK [] [(Sum.inr jx, .str jx)]))) := (Same.new _ g3).put g3 _
    refine ⟨_, rfl, small60 (Nat.le_of_ble_eq_true rfl), fun u4 g4 => ?_⟩
    have B4 := Same.new (.lst [.non, .bl true, .int 0, .ref u1, .ref u2, .ref u3, .ref q]) g4
    have C3 := B3.trans B4
    have C2 := B2.trans C3
    have B0 := B1.trans C2
    have e1 := C2 u1 (.lst [.str jx]) upd_same
    have e2 := C3 u2 (.tup [.str jx]) upd_same
    have e3 := B4 u3 (.dK (mergeK [] [(Sum.inr jx, .str jx)])) upd_same
    have e4 : (upd (upd (upd (upd (upd H4 u1 (.lst [.str jx])) u2 (.tup [.str jx])) u3 (.dK [])) u3 (.dK (mergeK [] [(Sum.inr jx, .str jx)]))) u4 (.lst [.non, .bl true, .int 0, .ref u1, .ref u2, .ref u3, .ref q])) u4 = some (.lst [.non, .bl true, .int 0, .ref u1, .ref u2, .ref u3, .ref q]) := upd_same
    have T5 := T4.trans B0
    have R5 := R4.same B0
    try dsimp only
    generalize upd (upd (upd (upd (upd H4 u1 (.lst [.str jx])) u2 (.tup [.str jx])) u3 (.dK [])) u3 (.dK (mergeK [] [(Sum.inr jx, .str jx)]))) u4 (.lst [.non, .bl true, .int 0, .ref u1, .ref u2, .ref u3, .ref q]) = E1_ at e1 e2 e3 e4 T5 R5 ⊢
    obtain ⟨zq, hq5, _⟩ := id R5
    clear B1 B2 B3 B4 C2 C3 B0 T4 R4
    refine ⟨u4, rfl, ⟨_, SqL.of e4⟩, for_list (D := { nx := N5, rt := Q }) (K := K) (a := u4) (xs := [.non, .bl true, .int 0, .ref u1, .ref u2, .ref u3, .ref q]) (fun j σ H5 => ∃ s1 s3 s4 s5 s6 s7 : Option V, σ = [some (.ref sa), s1, some (.ref q), s3, s4, s5, s6, s7] ∧ Same E1_ H5) ⟨_, _, _, _, _, _, rfl, Same.refl _⟩ (fun j σ H5 _ ⟨_, _, _, _, _, _, _, S'⟩ => SqL.of (S' _ _ e4)) ?_ ?_⟩
    · rintro j z σ H5 hz ⟨s1, s3, s4, s5, s6, s7, rfl, S5⟩
      clear h5
      have hm := List.mem_of_getElem? hz
      have fl : Th H5 z ∧ tabV z = .inl 0 := by
        simp only [List.mem_cons, List.not_mem_nil, or_false] at hm
        rcases hm with rfl | rfl | rfl | rfl | rfl | rfl | rfl
        · exact ⟨⟨⟨_, rfl⟩, fun x e => nomatch e⟩, rfl⟩
        · exact ⟨⟨⟨_, rfl⟩, fun x e => nomatch e⟩, rfl⟩
        · exact ⟨⟨⟨_, rfl⟩, fun x e => nomatch e⟩, rfl⟩
        · exact ⟨⟨⟨"list", by simp only [tyN]; rw [S5 _ _ e1]⟩, fun x e => nomatch e⟩, rfl⟩
        · exact ⟨⟨⟨"tuple", by simp only [tyN]; rw [S5 _ _ e2]⟩, fun x e => nomatch e⟩, rfl⟩
        · exact ⟨⟨⟨"dict", by simp only [tyN]; rw [S5 _ _ e3]⟩, fun x e => nomatch e⟩, rfl⟩
        · exact ⟨⟨⟨"list", by simp only [tyN]; rw [S5 _ _ hq5]⟩, fun x e => nomatch e⟩, rfl⟩
      refine ⟨_, rfl, z, "text", 0, rfl, fl.1, .text fl.2, fun H6 S6 => ⟨true, rfl, iteFF rfl ?_⟩⟩
      exact ⟨_, _, _, _, _, _, rfl, S5.trans S6⟩
    rintro σ H5 ⟨s1, s3, s4, s5, s6, s7, rfl, S5⟩
    refine h5 _ _ ?_
    have T6 := T5.trans S5
    have R6 := R5.same S5
    clear h5 e1 e2 e3 e4 T5 R5 S5
    refine seq_go fun N6 h6 => ?_
    refine ⟨_, rfl, (by decide), (by decide), for_range (lo := 0) (n := 30) (D := { nx := N6, rt := Q }) (fun j σ H7 => ∃ s1 s3 s4 s5 s6 s7 : Option V, σ = [some (.ref sa), s1, some (.ref q), s3, s4, s5, s6, s7] ∧ Same H5 H7) ⟨_, _, _, _, _, _, rfl, Same.refl _⟩ ?_ ?_⟩
    · rintro j σ H7 hj ⟨s1, s3, s4, s5, s6, s7, rfl, S7⟩
      clear h6
      obtain ⟨zq, hq7, tq7⟩ := R6.same S7
      refine ⟨_, rfl, _, rfl, .inl ⟨q, _, rfl, SqL.of hq7, fun v1 g1 => ?_⟩⟩
      rw [cut_take zq 2 2 rfl]
      have B1 := Same.new (.lst (zq.take 2)) g1
      have R8 : Rs (upd H7 v1 (.lst (zq.take 2))) v1 (rows.take 2) := ⟨_, upd_same, (rows_take tq7 2).same B1⟩
      have T8 := (T6.trans S7).trans B1
      try dsimp only
      generalize upd H7 v1 (.lst (zq.take 2)) = G8 at B1 R8 T8 ⊢
      refine ⟨_, rfl, _, rfl, .inl ⟨_, _, rfl, rfl, sa, ns, _, rfl, T8.seq hS, fun c2 G9 S9 => ⟨_, _, rfl, rfl, (by show (0 : Int) < 22; decide), _, rfl, _, _, rfl, rfl, (by show (0 : Int) < 2; decide), _, rfl, small60 (Nat.le_of_ble_eq_true rfl), fun v2 g2 => ?_⟩⟩⟩
      have B2 := Same.new (.lst [.int (c2 % 22), .int ((0 + (j : Int)) % 2), .int 1, .int (0 + (j : Int))]) g2
      refine ⟨v1, v2, rows.take 2, c2 % 22, (0 + (j : Int)) % 2, 1, 0 + (j : Int), rfl, (R8.same S9).same B2, good.rw2, upd_same, Int.emod_nonneg _ (by decide), Int.emod_nonneg _ (by decide), fun G10 S10 => ⟨true, rfl, iteFF rfl ?_⟩⟩
      exact ⟨_, _, _, _, _, _, rfl, S7.trans (B1.trans (S9.trans (B2.trans S10)))⟩
    rintro σ H7 ⟨s1, s3, s4, s5, s6, s7, rfl, S7⟩
    refine h6 _ _ ?_
    have T7 := T6.trans S7
    have R7 := R6.same S7
    refine ⟨_, "text", 0, rfl, (empty_ref (H := H7)).1, .text (empty_ref (H := H7)).2, fun H8 S8 => ⟨true, rfl, iteT ?_⟩⟩
    refine ⟨_, rfl, _, rfl, sa, ns, 1, rfl, (T7.trans S8).seq hS, fun c3 G9 S9 => ?_⟩
    exact ⟨q, c3, rows, rfl, (R7.same S8).same S9, good, fun H' _ => kk H'⟩
end
end K18
set_option Elab.async false
set_option linter.all false
set_option maxRecDepth 100000
namespace K18
open PySem L2 PySem.NumText PyProof.Rows KC M18
section
variable {P : Program} {w : World} {K : PySem.W.Frag} {mg : Str → Option Value} {base : Heap}
end
theorem walkX {q : Program} {loose : List Str} {XP : (Str → Option Value) → Heap → Prop} {as : List Addr} {K : Params → PySem.W.Frag} {n m : Nat} {r : PySem.W.RowW} {d : DefRec} {kwd : List (Str × Expr)} {run : Value → List Value → Sem Value}
    (e : ∀ P, as = (K P).map (·.1)) (W : PySem.W.WalkO q loose XP (fun w h => (K w.params).In h) r d kwd run) : PySem.W.WalkX q loose XP (PySem.W.X.obsZ as) (PySem.W.X.valZ K n m) r d kwd run :=
  fun w s₀ s₁ mg mb G y a o pm cd doc dV kV h1 h2 h3 h4 h5 h6 args vals as' L hp hl hr hw hlo => W w s₀ s₁ mg mb G (PySem.W.InK.keeps w _ _ (PySem.W.X.z_facts e y).2.1 L.keeps) a o pm cd doc dV kV h1 h2 h3 h4 h5 h6 args vals as' hp hl hr hw hlo
theorem len_0 {p : List Value → Prop} (h : p []) : ∀ us : List Value, us.length = 0 → p us := fun us hl => by
  cases us with
  | nil => exact h
  | cons a t => cases hl
theorem len_1 {p : List Value → Prop} (h : ∀ a, p [a]) : ∀ us : List Value, us.length = 1 → p us := fun us hl => by
  cases us with
  | nil => cases hl
  | cons a t => exact len_0 (p := fun t => p (a :: t)) (h a) t (Nat.succ.inj hl)
theorem len_2 {p : List Value → Prop} (h : ∀ a b, p [a, b]) : ∀ us : List Value, us.length = 2 → p us := fun us hl => by
  cases us with
  | nil => cases hl
  | cons a t => exact len_1 (p := fun t => p (a :: t)) (h a) t (Nat.succ.inj hl)
theorem len_3 {p : List Value → Prop} (h : ∀ a b c, p [a, b, c]) : ∀ us : List Value, us.length = 3 → p us := fun us hl => by
  cases us with
  | nil => cases hl
  | cons a t => exact len_2 (p := fun t => p (a :: t)) (h a) t (Nat.succ.inj hl)
theorem all_mk {l : PySem.W.OpenLaw} {w : World} {K : PySem.W.Frag} {h : Heap} {mg : Str → Option Value} {fa : Addr} (X : K.In h) (G : h.Ns mainGlobals mg) (hfa : mg "law" = some (.ref fa))
    {C_LogError : Addr} (aC_LogError : PySem.W.nsIn K mainGlobals "LogError" = some (some (.ref C_LogError)))
    {C_NoText : Addr} (aC_NoText : PySem.W.nsIn K mainGlobals "NoText" = some (some (.ref C_NoText)))
    {C_NoTable : Addr} (aC_NoTable : PySem.W.nsIn K mainGlobals "NoTable" = some (some (.ref C_NoTable)))
    {C_Table : Addr} (aC_Table : PySem.W.nsIn K mainGlobals "Table" = some (some (.ref C_Table)))
    {f0 : Addr} {od0 an0 : Option Addr} {sl0 : Array (Option Value)} {oc0 kV0 dc0 pm0 cd0 ct0 : Value}
    (a0 : PySem.W.nsIn K mainGlobals "is_number" = some (some (.ref f0))) (l0 : K.lookup f0 = some ⟨oc0, od0, .func (PySem.W.fnOf "is_number" "is_number" (defArgs s_is_number) (defBody s_is_number) (defScope s_is_number) .none kV0 dc0 pm0 an0 cd0 ct0), sl0⟩) (c0 : PySem.W.codeIn K cd0 "is_number" = true) (k0 : PySem.W.keepIn K (.ref f0) = true)
    {f1 : Addr} {od1 an1 : Option Addr} {sl1 : Array (Option Value)} {oc1 kV1 dc1 pm1 cd1 ct1 : Value}
    (a1 : PySem.W.nsIn K mainGlobals "is_whole" = some (some (.ref f1))) (l1 : K.lookup f1 = some ⟨oc1, od1, .func (PySem.W.fnOf "is_whole" "is_whole" (defArgs s_is_whole) (defBody s_is_whole) (defScope s_is_whole) .none kV1 dc1 pm1 an1 cd1 ct1), sl1⟩) (c1 : PySem.W.codeIn K cd1 "is_whole" = true) (k1 : PySem.W.keepIn K (.ref f1) = true)
    {f2 : Addr} {od2 an2 : Option Addr} {sl2 : Array (Option Value)} {oc2 kV2 dc2 pm2 cd2 ct2 : Value}
    (a2 : PySem.W.nsIn K mainGlobals "is_moment" = some (some (.ref f2))) (l2 : K.lookup f2 = some ⟨oc2, od2, .func (PySem.W.fnOf "is_moment" "is_moment" (defArgs s_is_moment) (defBody s_is_moment) (defScope s_is_moment) .none kV2 dc2 pm2 an2 cd2 ct2), sl2⟩) (c2 : PySem.W.codeIn K cd2 "is_moment" = true) (k2 : PySem.W.keepIn K (.ref f2) = true)
    {f3 : Addr} {od3 an3 : Option Addr} {sl3 : Array (Option Value)} {oc3 kV3 dc3 pm3 cd3 ct3 : Value}
    (a3 : PySem.W.nsIn K mainGlobals "all_figures" = some (some (.ref f3))) (l3 : K.lookup f3 = some ⟨oc3, od3, .func (PySem.W.fnOf "all_figures" "all_figures" (defArgs s_all_figures) (defBody s_all_figures) (defScope s_all_figures) .none kV3 dc3 pm3 an3 cd3 ct3), sl3⟩) (c3 : PySem.W.codeIn K cd3 "all_figures" = true) (k3 : PySem.W.keepIn K (.ref f3) = true)
    {f4 : Addr} {od4 an4 : Option Addr} {sl4 : Array (Option Value)} {oc4 kV4 dc4 pm4 cd4 ct4 : Value}
    (a4 : PySem.W.nsIn K mainGlobals "plainly_writes" = some (some (.ref f4))) (l4 : K.lookup f4 = some ⟨oc4, od4, .func (PySem.W.fnOf "plainly_writes" "plainly_writes" (defArgs s_plainly_writes) (defBody s_plainly_writes) (defScope s_plainly_writes) .none kV4 dc4 pm4 an4 cd4 ct4), sl4⟩) (c4 : PySem.W.codeIn K cd4 "plainly_writes" = true) (k4 : PySem.W.keepIn K (.ref f4) = true)
    {f5 : Addr} {od5 an5 : Option Addr} {sl5 : Array (Option Value)} {oc5 kV5 dc5 pm5 cd5 ct5 : Value}
    (a5 : PySem.W.nsIn K mainGlobals "whole_in" = some (some (.ref f5))) (l5 : K.lookup f5 = some ⟨oc5, od5, .func (PySem.W.fnOf "whole_in" "whole_in" (defArgs s_whole_in) (defBody s_whole_in) (defScope s_whole_in) .none kV5 dc5 pm5 an5 cd5 ct5), sl5⟩) (c5 : PySem.W.codeIn K cd5 "whole_in" = true) (k5 : PySem.W.keepIn K (.ref f5) = true)
    {f6 : Addr} {od6 an6 : Option Addr} {sl6 : Array (Option Value)} {oc6 kV6 dc6 pm6 cd6 ct6 : Value}
    (a6 : PySem.W.nsIn K mainGlobals "two_in" = some (some (.ref f6))) (l6 : K.lookup f6 = some ⟨oc6, od6, .func (PySem.W.fnOf "two_in" "two_in" (defArgs s_two_in) (defBody s_two_in) (defScope s_two_in) .none kV6 dc6 pm6 an6 cd6 ct6), sl6⟩) (c6 : PySem.W.codeIn K cd6 "two_in" = true) (k6 : PySem.W.keepIn K (.ref f6) = true)
    {f7 : Addr} {od7 an7 : Option Addr} {sl7 : Array (Option Value)} {oc7 kV7 dc7 pm7 cd7 ct7 : Value}
    (a7 : PySem.W.nsIn K mainGlobals "clock_in" = some (some (.ref f7))) (l7 : K.lookup f7 = some ⟨oc7, od7, .func (PySem.W.fnOf "clock_in" "clock_in" (defArgs s_clock_in) (defBody s_clock_in) (defScope s_clock_in) .none kV7 dc7 pm7 an7 cd7 ct7), sl7⟩) (c7 : PySem.W.codeIn K cd7 "clock_in" = true) (k7 : PySem.W.keepIn K (.ref f7) = true)
    {f8 : Addr} {od8 an8 : Option Addr} {sl8 : Array (Option Value)} {oc8 kV8 dc8 pm8 cd8 ct8 : Value}
    (a8 : PySem.W.nsIn K mainGlobals "size_in" = some (some (.ref f8))) (l8 : K.lookup f8 = some ⟨oc8, od8, .func (PySem.W.fnOf "size_in" "size_in" (defArgs s_size_in) (defBody s_size_in) (defScope s_size_in) .none kV8 dc8 pm8 an8 cd8 ct8), sl8⟩) (c8 : PySem.W.codeIn K cd8 "size_in" = true) (k8 : PySem.W.keepIn K (.ref f8) = true)
    {f9 : Addr} {od9 an9 : Option Addr} {sl9 : Array (Option Value)} {oc9 kV9 dc9 pm9 cd9 ct9 : Value}
    (a9 : PySem.W.nsIn K mainGlobals "shift_in" = some (some (.ref f9))) (l9 : K.lookup f9 = some ⟨oc9, od9, .func (PySem.W.fnOf "shift_in" "shift_in" (defArgs s_shift_in) (defBody s_shift_in) (defScope s_shift_in) .none kV9 dc9 pm9 an9 cd9 ct9), sl9⟩) (c9 : PySem.W.codeIn K cd9 "shift_in" = true) (k9 : PySem.W.keepIn K (.ref f9) = true)
    {f10 : Addr} {od10 an10 : Option Addr} {sl10 : Array (Option Value)} {oc10 kV10 dc10 pm10 cd10 ct10 : Value}
    (a10 : PySem.W.nsIn K mainGlobals "is_row" = some (some (.ref f10))) (l10 : K.lookup f10 = some ⟨oc10, od10, .func (PySem.W.fnOf "is_row" "is_row" (defArgs s_is_row) (defBody s_is_row) (defScope s_is_row) .none kV10 dc10 pm10 an10 cd10 ct10), sl10⟩) (c10 : PySem.W.codeIn K cd10 "is_row" = true) (k10 : PySem.W.keepIn K (.ref f10) = true)
    {f11 : Addr} {od11 an11 : Option Addr} {sl11 : Array (Option Value)} {oc11 kV11 dc11 pm11 cd11 ct11 : Value}
    (a11 : PySem.W.nsIn K mainGlobals "may_stand" = some (some (.ref f11))) (l11 : K.lookup f11 = some ⟨oc11, od11, .func (PySem.W.fnOf "may_stand" "may_stand" (defArgs s_may_stand) (defBody s_may_stand) (defScope s_may_stand) .none kV11 dc11 pm11 an11 cd11 ct11), sl11⟩) (c11 : PySem.W.codeIn K cd11 "may_stand" = true) (k11 : PySem.W.keepIn K (.ref f11) = true)
    {f12 : Addr} {od12 an12 : Option Addr} {sl12 : Array (Option Value)} {oc12 kV12 dc12 pm12 cd12 ct12 : Value}
    (a12 : PySem.W.nsIn K mainGlobals "check_rows" = some (some (.ref f12))) (l12 : K.lookup f12 = some ⟨oc12, od12, .func (PySem.W.fnOf "check_rows" "check_rows" (defArgs s_check_rows) (defBody s_check_rows) (defScope s_check_rows) .none kV12 dc12 pm12 an12 cd12 ct12), sl12⟩) (c12 : PySem.W.codeIn K cd12 "check_rows" = true) (k12 : PySem.W.keepIn K (.ref f12) = true)
    {f13 : Addr} {od13 an13 : Option Addr} {sl13 : Array (Option Value)} {oc13 kV13 dc13 pm13 cd13 ct13 : Value}
    (a13 : PySem.W.nsIn K mainGlobals "row_in" = some (some (.ref f13))) (l13 : K.lookup f13 = some ⟨oc13, od13, .func (PySem.W.fnOf "row_in" "row_in" (defArgs s_row_in) (defBody s_row_in) (defScope s_row_in) .none kV13 dc13 pm13 an13 cd13 ct13), sl13⟩) (c13 : PySem.W.codeIn K cd13 "row_in" = true) (k13 : PySem.W.keepIn K (.ref f13) = true)
    {f14 : Addr} {od14 an14 : Option Addr} {sl14 : Array (Option Value)} {oc14 kV14 dc14 pm14 cd14 ct14 : Value}
    (a14 : PySem.W.nsIn K mainGlobals "read_table" = some (some (.ref f14))) (l14 : K.lookup f14 = some ⟨oc14, od14, .func (PySem.W.fnOf "read_table" "read_table" (defArgs s_read_table) (defBody s_read_table) (defScope s_read_table) .none kV14 dc14 pm14 an14 cd14 ct14), sl14⟩) (c14 : PySem.W.codeIn K cd14 "read_table" = true) (k14 : PySem.W.keepIn K (.ref f14) = true)
    {f15 : Addr} {od15 an15 : Option Addr} {sl15 : Array (Option Value)} {oc15 kV15 dc15 pm15 cd15 ct15 : Value}
    (a15 : PySem.W.nsIn K mainGlobals "_law_cell" = some (some (.ref f15))) (l15 : K.lookup f15 = some ⟨oc15, od15, .func (PySem.W.fnOf "_law_cell" "_law_cell" (defArgs s_Lcell) (defBody s_Lcell) (defScope s_Lcell) .none kV15 dc15 pm15 an15 cd15 ct15), sl15⟩) (c15 : PySem.W.codeIn K cd15 "_law_cell" = true) (k15 : PySem.W.keepIn K (.ref f15) = true)
    {f16 : Addr} {od16 an16 : Option Addr} {sl16 : Array (Option Value)} {oc16 kV16 dc16 pm16 cd16 ct16 : Value}
    (a16 : PySem.W.nsIn K mainGlobals "_law_row" = some (some (.ref f16))) (l16 : K.lookup f16 = some ⟨oc16, od16, .func (PySem.W.fnOf "_law_row" "_law_row" (defArgs s_Lrow) (defBody s_Lrow) (defScope s_Lrow) .none kV16 dc16 pm16 an16 cd16 ct16), sl16⟩) (c16 : PySem.W.codeIn K cd16 "_law_row" = true) (k16 : PySem.W.keepIn K (.ref f16) = true)
    {f17 : Addr} {od17 an17 : Option Addr} {sl17 : Array (Option Value)} {oc17 kV17 dc17 pm17 cd17 ct17 : Value}
    (a17 : PySem.W.nsIn K mainGlobals "_law_rows" = some (some (.ref f17))) (l17 : K.lookup f17 = some ⟨oc17, od17, .func (PySem.W.fnOf "_law_rows" "_law_rows" (defArgs s_Lrows) (defBody s_Lrows) (defScope s_Lrows) .none kV17 dc17 pm17 an17 cd17 ct17), sl17⟩) (c17 : PySem.W.codeIn K cd17 "_law_rows" = true) (k17 : PySem.W.keepIn K (.ref f17) = true)
    {f18 : Addr} {od18 an18 : Option Addr} {sl18 : Array (Option Value)} {oc18 kV18 dc18 pm18 cd18 ct18 : Value}
    (a18 : PySem.W.nsIn K mainGlobals "_law_two" = some (some (.ref f18))) (l18 : K.lookup f18 = some ⟨oc18, od18, .func (PySem.W.fnOf "_law_two" "_law_two" (defArgs s_Ltwo) (defBody s_Ltwo) (defScope s_Ltwo) .none kV18 dc18 pm18 an18 cd18 ct18), sl18⟩) (c18 : PySem.W.codeIn K cd18 "_law_two" = true) (k18 : PySem.W.keepIn K (.ref f18) = true)
    {f19 : Addr} {od19 an19 : Option Addr} {sl19 : Array (Option Value)} {oc19 kV19 dc19 pm19 cd19 ct19 : Value}
    (a19 : PySem.W.nsIn K mainGlobals "_law_clock" = some (some (.ref f19))) (l19 : K.lookup f19 = some ⟨oc19, od19, .func (PySem.W.fnOf "_law_clock" "_law_clock" (defArgs s_Lclock) (defBody s_Lclock) (defScope s_Lclock) .none kV19 dc19 pm19 an19 cd19 ct19), sl19⟩) (c19 : PySem.W.codeIn K cd19 "_law_clock" = true) (k19 : PySem.W.keepIn K (.ref f19) = true)
    {f20 : Addr} {od20 an20 : Option Addr} {sl20 : Array (Option Value)} {oc20 kV20 dc20 pm20 cd20 ct20 : Value}
    (a20 : PySem.W.nsIn K mainGlobals "_law_shift" = some (some (.ref f20))) (l20 : K.lookup f20 = some ⟨oc20, od20, .func (PySem.W.fnOf "_law_shift" "_law_shift" (defArgs s_Lshift) (defBody s_Lshift) (defScope s_Lshift) .none kV20 dc20 pm20 an20 cd20 ct20), sl20⟩) (c20 : PySem.W.codeIn K cd20 "_law_shift" = true) (k20 : PySem.W.keepIn K (.ref f20) = true)
    {f21 : Addr} {od21 an21 : Option Addr} {sl21 : Array (Option Value)} {oc21 kV21 dc21 pm21 cd21 ct21 : Value}
    (a21 : PySem.W.nsIn K mainGlobals "_law_refused" = some (some (.ref f21))) (l21 : K.lookup f21 = some ⟨oc21, od21, .func (PySem.W.fnOf "_law_refused" "_law_refused" (defArgs s_Lrefused) (defBody s_Lrefused) (defScope s_Lrefused) .none kV21 dc21 pm21 an21 cd21 ct21), sl21⟩) (c21 : PySem.W.codeIn K cd21 "_law_refused" = true) (k21 : PySem.W.keepIn K (.ref f21) = true)
    {f22 : Addr} {od22 an22 : Option Addr} {sl22 : Array (Option Value)} {oc22 kV22 dc22 pm22 cd22 ct22 : Value}
    (a22 : PySem.W.nsIn K mainGlobals "_law_bad" = some (some (.ref f22))) (l22 : K.lookup f22 = some ⟨oc22, od22, .func (PySem.W.fnOf "_law_bad" "_law_bad" (defArgs s_Lbad) (defBody s_Lbad) (defScope s_Lbad) .none kV22 dc22 pm22 an22 cd22 ct22), sl22⟩) (c22 : PySem.W.codeIn K cd22 "_law_bad" = true) (k22 : PySem.W.keepIn K (.ref f22) = true)
    {f23 : Addr} {od23 an23 : Option Addr} {sl23 : Array (Option Value)} {oc23 kV23 dc23 pm23 cd23 ct23 : Value}
    (a23 : PySem.W.nsIn K mainGlobals "_law_parts_refused" = some (some (.ref f23))) (l23 : K.lookup f23 = some ⟨oc23, od23, .func (PySem.W.fnOf "_law_parts_refused" "_law_parts_refused" (defArgs s_Lparts_refused) (defBody s_Lparts_refused) (defScope s_Lparts_refused) .none kV23 dc23 pm23 an23 cd23 ct23), sl23⟩) (c23 : PySem.W.codeIn K cd23 "_law_parts_refused" = true) (k23 : PySem.W.keepIn K (.ref f23) = true)
    {f24 : Addr} {od24 an24 : Option Addr} {sl24 : Array (Option Value)} {oc24 kV24 dc24 pm24 cd24 ct24 : Value}
    (a24 : PySem.W.nsIn K mainGlobals "_law_rows_refused" = some (some (.ref f24))) (l24 : K.lookup f24 = some ⟨oc24, od24, .func (PySem.W.fnOf "_law_rows_refused" "_law_rows_refused" (defArgs s_Lrows_refused) (defBody s_Lrows_refused) (defScope s_Lrows_refused) .none kV24 dc24 pm24 an24 cd24 ct24), sl24⟩) (c24 : PySem.W.codeIn K cd24 "_law_rows_refused" = true) (k24 : PySem.W.keepIn K (.ref f24) = true)
    {f25 : Addr} {od25 an25 : Option Addr} {sl25 : Array (Option Value)} {oc25 kV25 dc25 pm25 cd25 ct25 : Value}
    (a25 : PySem.W.nsIn K mainGlobals "law" = some (some (.ref f25))) (l25 : K.lookup f25 = some ⟨oc25, od25, .func (PySem.W.fnOf "law" "law" (defArgs s_law) (defBody s_law) (defScope s_law) .none kV25 dc25 pm25 an25 cd25 ct25), sl25⟩) (c25 : PySem.W.codeIn K cd25 "law" = true) (k25 : PySem.W.keepIn K (.ref f25) = true)
    {f26 : Addr} {od26 an26 : Option Addr} {sl26 : Array (Option Value)} {oc26 kV26 dc26 pm26 cd26 ct26 : Value}
    (a26 : PySem.W.findIn K (.ref C_Table) "__init__" = some (some (.ref f26))) (i26 : PySem.W.isFn K (.ref f26) = true) (l26 : K.lookup f26 = some ⟨oc26, od26, .func (PySem.W.fnOf "__init__" "Table.__init__" (defArgs s_Table_init) (defBody s_Table_init) (defScope s_Table_init) .none kV26 dc26 pm26 an26 cd26 ct26), sl26⟩) (c26 : PySem.W.codeIn K cd26 "Table.__init__" = true) (k26 : PySem.W.keepIn K (.ref f26) = true)
    {f27 : Addr} {od27 an27 : Option Addr} {sl27 : Array (Option Value)} {oc27 kV27 dc27 pm27 cd27 ct27 : Value}
    (a27 : PySem.W.findIn K (.ref C_NoText) "__init__" = some (some (.ref f27))) (i27 : PySem.W.isFn K (.ref f27) = true) (l27 : K.lookup f27 = some ⟨oc27, od27, .func (PySem.W.fnOf "__init__" "NoText.__init__" (defArgs s_NoText_init) (defBody s_NoText_init) (defScope s_NoText_init) .none kV27 dc27 pm27 an27 cd27 ct27), sl27⟩) (c27 : PySem.W.codeIn K cd27 "NoText.__init__" = true) (k27 : PySem.W.keepIn K (.ref f27) = true)
    {f28 : Addr} {od28 an28 : Option Addr} {sl28 : Array (Option Value)} {oc28 kV28 dc28 pm28 cd28 ct28 : Value}
    (a28 : PySem.W.findIn K (.ref C_NoTable) "__init__" = some (some (.ref f28))) (i28 : PySem.W.isFn K (.ref f28) = true) (l28 : K.lookup f28 = some ⟨oc28, od28, .func (PySem.W.fnOf "__init__" "NoTable.__init__" (defArgs s_NoTable_init) (defBody s_NoTable_init) (defScope s_NoTable_init) .none kV28 dc28 pm28 an28 cd28 ct28), sl28⟩) (c28 : PySem.W.codeIn K cd28 "NoTable.__init__" = true) (k28 : PySem.W.keepIn K (.ref f28) = true)
    {f29 : Addr} {od29 an29 : Option Addr} {sl29 : Array (Option Value)} {oc29 kV29 dc29 pm29 cd29 ct29 : Value}
    (a29 : PySem.W.findIn K (.ref C_LogError) "__init__" = some (some (.ref f29))) (i29 : PySem.W.isFn K (.ref f29) = true) (l29 : K.lookup f29 = some ⟨oc29, od29, .func (PySem.W.fnOf "__init__" "LogError.__init__" (defArgs s_LogError_init) (defBody s_LogError_init) (defScope s_LogError_init) .none kV29 dc29 pm29 an29 cd29 ct29), sl29⟩) (c29 : PySem.W.codeIn K cd29 "LogError.__init__" = true) (k29 : PySem.W.keepIn K (.ref f29) = true)
    (pg_Table : PySem.W.plainGet K C_Table Str.empty = true) (hd_Table : PySem.W.hasDictIn K C_Table = true) (po_Table : PySem.W.plainOver K C_Table = true) (sa_Table : PySem.W.findIn K (.ref C_Table) "__setattr__" = some (some (.builtin "object.__setattr__"))) (mk_Table : PySem.W.makesIn K C_Table = true) (kc_Table : PySem.W.keepIn K (.ref C_Table) = true)
    (nf_Table_kept : PySem.W.findIn K (.ref C_Table) "kept" = some none)
    (z_len : PySem.W.nsIn K mainGlobals "len" = some none)
    (z_max : PySem.W.nsIn K mainGlobals "max" = some none)
    (z_min : PySem.W.nsIn K mainGlobals "min" = some none)
    (z_abs : PySem.W.nsIn K mainGlobals "abs" = some none)
    (z_isinstance : PySem.W.nsIn K mainGlobals "isinstance" = some none)
    (z_range : PySem.W.nsIn K mainGlobals "range" = some none)
    (z_enumerate : PySem.W.nsIn K mainGlobals "enumerate" = some none)
    (z_int : PySem.W.nsIn K mainGlobals "int" = some none)
    (z_bool : PySem.W.nsIn K mainGlobals "bool" = some none)
    (z_str : PySem.W.nsIn K mainGlobals "str" = some none)
    (z_list : PySem.W.nsIn K mainGlobals "list" = some none)
    (z_tuple : PySem.W.nsIn K mainGlobals "tuple" = some none)
    (z_all : PySem.W.nsIn K mainGlobals "all" = some none)
    {t_LAST : Tok} (g_LAST : PySem.W.nsIn K mainGlobals "LAST" = some (some (.int 1000000000 t_LAST)))
    {t_WIDEST_SHIFT : Tok} (g_WIDEST_SHIFT : PySem.W.nsIn K mainGlobals "WIDEST_SHIFT" = some (some (.int 2880 t_WIDEST_SHIFT)))
    {t_FIGURES : Tok} (g_FIGURES : PySem.W.nsIn K mainGlobals "FIGURES" = some (some (.str "0123456789" t_FIGURES)))
    {t_HOUR : Tok} (g_HOUR : PySem.W.nsIn K mainGlobals "HOUR" = some (some (.int 60 t_HOUR)))
    {t_DAY : Tok} (g_DAY : PySem.W.nsIn K mainGlobals "DAY" = some (some (.int 1440 t_DAY)))
    {t_MOST_ROWS : Tok} (g_MOST_ROWS : PySem.W.nsIn K mainGlobals "MOST_ROWS" = some (some (.int 21 t_MOST_ROWS)))
    (zV : PySem.W.nsIn K mainGlobals "ValueError" = some none)
    {ob_LogError : Obj}
    (lk_LogError : K.lookup C_LogError = some ob_LogError)
    (xo_LogError : xOb C_LogError ob_LogError = true)
    (cg : PySem.W.specialIn K (.builtin "object.__class__") "__get__" = some (some (.builtin "getset_descriptor.__get__")))
    (ct : PySem.W.takesIn K (.builtin "object.__class__") = some true)
    (sg_LogError : PySem.W.specialIn K (.ref C_LogError) "__getattribute__" = some (some (.builtin "type.__getattribute__")))
    (rd_LogError : PySem.W.readsIn K C_LogError (.type "type") = true)
    (fc_LogError : PySem.W.findCls K (.ref C_LogError) (.type "type") "__init__" = some (.val (.ref f29)))
    {ob_NoText : Obj}
    (lk_NoText : K.lookup C_NoText = some ob_NoText)
    (xo_NoText : xOb C_NoText ob_NoText = true)
    (ga_NoText : PySem.W.findIn K (.ref C_NoText) "__getattribute__" = some (some (.builtin "BaseException.__getattribute__")))
    (na_NoText : PySem.W.findIn K (.ref C_NoText) "__getattr__" = some none)
    (xs_NoText : PySem.W.findIn K (.ref C_NoText) "__setattr__" = some (some (.builtin "object.__setattr__")))
    (xc_NoText : PySem.W.findIn K (.ref C_NoText) "__class__" = some (some (.builtin "object.__class__")))
    (kx_NoText : PySem.W.keepIn K (.ref C_NoText) = true)
    (up_NoText : PySem.W.mroIn K C_NoText (.ref C_LogError) = some true)
    (nx_NoText_at : PySem.W.findIn K (.ref C_NoText) "at" = some none)
    {ob_NoTable : Obj}
    (lk_NoTable : K.lookup C_NoTable = some ob_NoTable)
    (xo_NoTable : xOb C_NoTable ob_NoTable = true)
    (ga_NoTable : PySem.W.findIn K (.ref C_NoTable) "__getattribute__" = some (some (.builtin "BaseException.__getattribute__")))
    (na_NoTable : PySem.W.findIn K (.ref C_NoTable) "__getattr__" = some none)
    (xs_NoTable : PySem.W.findIn K (.ref C_NoTable) "__setattr__" = some (some (.builtin "object.__setattr__")))
    (xc_NoTable : PySem.W.findIn K (.ref C_NoTable) "__class__" = some (some (.builtin "object.__class__")))
    (kx_NoTable : PySem.W.keepIn K (.ref C_NoTable) = true)
    (up_NoTable : PySem.W.mroIn K C_NoTable (.ref C_LogError) = some true)
    (nx_NoTable_row : PySem.W.findIn K (.ref C_NoTable) "row" = some none)
    (ic_LogError : PySem.W.isClsIn K C_LogError = true)
    (it_LogError : PySem.W.typeIn K (.ref C_LogError) = some (.type "type"))
    (ic_NoText : PySem.W.isClsIn K C_NoText = true)
    (it_NoText : PySem.W.typeIn K (.ref C_NoText) = some (.type "type"))
    (ic_NoTable : PySem.W.isClsIn K C_NoTable = true)
    (it_NoTable : PySem.W.typeIn K (.ref C_NoTable) = some (.type "type"))
    (su_NoText_LogError : PySem.W.subIn K (.ref C_NoText) (.ref C_LogError) = some true)
    (su_NoText_NoText : PySem.W.subIn K (.ref C_NoText) (.ref C_NoText) = some true)
    (su_NoText_NoTable : PySem.W.subIn K (.ref C_NoText) (.ref C_NoTable) = some false)
    (su_NoTable_LogError : PySem.W.subIn K (.ref C_NoTable) (.ref C_LogError) = some true)
    (su_NoTable_NoText : PySem.W.subIn K (.ref C_NoTable) (.ref C_NoText) = some false)
    (su_NoTable_NoTable : PySem.W.subIn K (.ref C_NoTable) (.ref C_NoTable) = some true)
    : ∃ fd : FuncData, (∀ (s : Shared) (v : Value), BindsTo s fd ⟨[v], []⟩ [("_law_script", v)]) ∧ ∀ base : Heap, K.In base → base.Ns mainGlobals mg → FnOk l.prog w K mg base CX0 11 fa fd ["_law_script"] (sp_law K) := by
  have e := hfa.symm.trans (PySem.W.mg_of X G a25)
  cases e
  have F0 := fun_mk (st := s_is_number) l0 c0 k0
  have b0 := F0.binds (ps := ["thing"]) fun _ _ _ _ _ _ => len_1 fun _ => rfl
  have F1 := fun_mk (st := s_is_whole) l1 c1 k1
  have b1 := F1.binds (ps := ["thing", "low", "high"]) fun _ _ _ _ _ _ => len_3 fun _ _ _ => rfl
  have F2 := fun_mk (st := s_is_moment) l2 c2 k2
  have b2 := F2.binds (ps := ["thing"]) fun _ _ _ _ _ _ => len_1 fun _ => rfl
  have F3 := fun_mk (st := s_all_figures) l3 c3 k3
  have b3 := F3.binds (ps := ["text"]) fun _ _ _ _ _ _ => len_1 fun _ => rfl
  have F4 := fun_mk (st := s_plainly_writes) l4 c4 k4
  have b4 := F4.binds (ps := ["text"]) fun _ _ _ _ _ _ => len_1 fun _ => rfl
  have F5 := fun_mk (st := s_whole_in) l5 c5 k5
  have b5 := F5.binds (ps := ["thing", "low", "high"]) fun _ _ _ _ _ _ => len_3 fun _ _ _ => rfl
  have F6 := fun_mk (st := s_two_in) l6 c6 k6
  have b6 := F6.binds (ps := ["text", "high"]) fun _ _ _ _ _ _ => len_2 fun _ _ => rfl
  have F7 := fun_mk (st := s_clock_in) l7 c7 k7
  have b7 := F7.binds (ps := ["text", "low", "high"]) fun _ _ _ _ _ _ => len_3 fun _ _ _ => rfl
  have F8 := fun_mk (st := s_size_in) l8 c8 k8
  have b8 := F8.binds (ps := ["text"]) fun _ _ _ _ _ _ => len_1 fun _ => rfl
  have F9 := fun_mk (st := s_shift_in) l9 c9 k9
  have b9 := F9.binds (ps := ["text"]) fun _ _ _ _ _ _ => len_1 fun _ => rfl
  have F10 := fun_mk (st := s_is_row) l10 c10 k10
  have b10 := F10.binds (ps := ["thing", "widest"]) fun _ _ _ _ _ _ => len_2 fun _ _ => rfl
  have F11 := fun_mk (st := s_may_stand) l11 c11 k11
  have b11 := F11.binds (ps := ["rows", "place"]) fun _ _ _ _ _ _ => len_2 fun _ _ => rfl
  have F12 := fun_mk (st := s_check_rows) l12 c12 k12
  have b12 := F12.binds (ps := ["rows", "most", "widest"]) fun _ _ _ _ _ _ => len_3 fun _ _ _ => rfl
  have F13 := fun_mk (st := s_row_in) l13 c13 k13
  have b13 := F13.binds (ps := ["text"]) fun _ _ _ _ _ _ => len_1 fun _ => rfl
  have F14 := fun_mk (st := s_read_table) l14 c14 k14
  have b14 := F14.binds (ps := ["text"]) fun _ _ _ _ _ _ => len_1 fun _ => rfl
  have F15 := fun_mk (st := s_Lcell) l15 c15 k15
  have b15 := F15.binds (ps := ["_law_script", "_law_k"]) fun _ _ _ _ _ _ => len_2 fun _ _ => rfl
  have F16 := fun_mk (st := s_Lrow) l16 c16 k16
  have b16 := F16.binds (ps := ["_law_cell_here", "_law_sizes"]) fun _ _ _ _ _ _ => len_2 fun _ _ => rfl
  have F17 := fun_mk (st := s_Lrows) l17 c17 k17
  have b17 := F17.binds (ps := ["_law_cell_here"]) fun _ _ _ _ _ _ => len_1 fun _ => rfl
  have F18 := fun_mk (st := s_Ltwo) l18 c18 k18
  have b18 := F18.binds (ps := ["_law_number"]) fun _ _ _ _ _ _ => len_1 fun _ => rfl
  have F19 := fun_mk (st := s_Lclock) l19 c19 k19
  have b19 := F19.binds (ps := ["_law_number"]) fun _ _ _ _ _ _ => len_1 fun _ => rfl
  have F20 := fun_mk (st := s_Lshift) l20 c20 k20
  have b20 := F20.binds (ps := ["_law_shift_here"]) fun _ _ _ _ _ _ => len_1 fun _ => rfl
  have F21 := fun_mk (st := s_Lrefused) l21 c21 k21
  have b21 := F21.binds (ps := ["_law_text", "_law_kind", "_law_due"]) fun _ _ _ _ _ _ => len_3 fun _ _ _ => rfl
  have F22 := fun_mk (st := s_Lbad) l22 c22 k22
  have b22 := F22.binds (ps := ["_law_row_here"]) fun _ _ _ _ _ _ => len_1 fun _ => rfl
  have F23 := fun_mk (st := s_Lparts_refused) l23 c23 k23
  have b23 := F23.binds (ps := ["_law_rows_here", "_law_xs"]) fun _ _ _ _ _ _ => len_2 fun _ _ => rfl
  have F24 := fun_mk (st := s_Lrows_refused) l24 c24 k24
  have b24 := F24.binds (ps := ["_law_rows_here", "_law_cell_here"]) fun _ _ _ _ _ _ => len_2 fun _ _ => rfl
  have F25 := fun_mk (st := s_law) l25 c25 k25
  have b25 := F25.binds (ps := ["_law_script"]) fun _ _ _ _ _ _ => len_1 fun _ => rfl
  have F26 := fun_mk (st := s_Table_init) l26 c26 k26
  have b26 := F26.binds (ps := ["self", "rows"]) fun _ _ _ _ _ _ => len_2 fun _ _ => rfl
  have F27 := fun_mk (st := s_NoText_init) l27 c27 k27
  have b27 := F27.binds (ps := ["self", "at"]) fun _ _ _ _ _ _ => len_2 fun _ _ => rfl
  have F28 := fun_mk (st := s_NoTable_init) l28 c28 k28
  have b28 := F28.binds (ps := ["self", "row"]) fun _ _ _ _ _ _ => len_2 fun _ _ => rfl
  have F29 := fun_mk (st := s_LogError_init) l29 c29 k29
  have b29 := F29.binds (ps := ["self", "text"]) fun _ _ _ _ _ _ => len_2 fun _ _ => rfl
  refine ⟨_, fun s v => .of_eq rfl, fun base _ _ => ok_law (a := ⟨C_LogError, C_NoText, C_NoTable, C_Table, f0, _, f1, _, f2, _, f3, _, f4, _, f5, _, f6, _, f7, _, f8, _, f9, _, f10, _, f11, _, f12, _, f13, _, f14, _, f15, _, f16, _, f17, _, f18, _, f19, _, f20, _, f21, _, f22, _, f23, _, f24, _, fa, _, f26, _, f27, _, f28, _, f29, _⟩) ⟨⟨F0, b0, PySem.W.mg_of X G a0, k0⟩, ⟨F1, b1, PySem.W.mg_of X G a1, k1⟩, ⟨F2, b2, PySem.W.mg_of X G a2, k2⟩, ⟨F3, b3, PySem.W.mg_of X G a3, k3⟩, ⟨F4, b4, PySem.W.mg_of X G a4, k4⟩, ⟨F5, b5, PySem.W.mg_of X G a5, k5⟩, ⟨F6, b6, PySem.W.mg_of X G a6, k6⟩, ⟨F7, b7, PySem.W.mg_of X G a7, k7⟩, ⟨F8, b8, PySem.W.mg_of X G a8, k8⟩, ⟨F9, b9, PySem.W.mg_of X G a9, k9⟩, ⟨F10, b10, PySem.W.mg_of X G a10, k10⟩, ⟨F11, b11, PySem.W.mg_of X G a11, k11⟩, ⟨F12, b12, PySem.W.mg_of X G a12, k12⟩, ⟨F13, b13, PySem.W.mg_of X G a13, k13⟩, ⟨F14, b14, PySem.W.mg_of X G a14, k14⟩, ⟨F15, b15, PySem.W.mg_of X G a15, k15⟩, ⟨F16, b16, PySem.W.mg_of X G a16, k16⟩, ⟨F17, b17, PySem.W.mg_of X G a17, k17⟩, ⟨F18, b18, PySem.W.mg_of X G a18, k18⟩, ⟨F19, b19, PySem.W.mg_of X G a19, k19⟩, ⟨F20, b20, PySem.W.mg_of X G a20, k20⟩, ⟨F21, b21, PySem.W.mg_of X G a21, k21⟩, ⟨F22, b22, PySem.W.mg_of X G a22, k22⟩, ⟨F23, b23, PySem.W.mg_of X G a23, k23⟩, ⟨F24, b24, PySem.W.mg_of X G a24, k24⟩, ⟨F25, b25, PySem.W.mg_of X G a25, k25⟩, ⟨F26, b26, ⟨a26, i26, k26⟩⟩, ⟨F27, b27, ⟨a27, i27, k27⟩⟩, ⟨F28, b28, ⟨a28, i28, k28⟩⟩, ⟨F29, b29, ⟨a29, i29, k29⟩⟩, PySem.W.mg_of X G aC_Table, ⟨pg_Table, hd_Table, po_Table, sa_Table⟩, ⟨mk_Table, a26, i26, kc_Table⟩, nf_Table_kept, PySem.W.mg_none_of X G z_len, PySem.W.mg_none_of X G z_max, PySem.W.mg_none_of X G z_min, PySem.W.mg_none_of X G z_abs, PySem.W.mg_none_of X G z_isinstance, PySem.W.mg_none_of X G z_range, PySem.W.mg_none_of X G z_enumerate, PySem.W.mg_none_of X G z_int, PySem.W.mg_none_of X G z_bool, PySem.W.mg_none_of X G z_str, PySem.W.mg_none_of X G z_list, PySem.W.mg_none_of X G z_tuple, PySem.W.mg_none_of X G z_all, ⟨t_LAST, PySem.W.mg_of X G g_LAST⟩, ⟨t_WIDEST_SHIFT, PySem.W.mg_of X G g_WIDEST_SHIFT⟩, ⟨t_FIGURES, PySem.W.mg_of X G g_FIGURES⟩, ⟨t_HOUR, PySem.W.mg_of X G g_HOUR⟩, ⟨t_DAY, PySem.W.mg_of X G g_DAY⟩, ⟨t_MOST_ROWS, PySem.W.mg_of X G g_MOST_ROWS⟩, PySem.W.mg_none_of X G zV, PySem.W.mg_of X G aC_LogError, PySem.W.mg_of X G aC_NoText, PySem.W.mg_of X G aC_NoTable, xIn_of lk_LogError xo_LogError, ⟨sg_LogError, rd_LogError, fc_LogError, k29⟩, ⟨⟨xIn_of lk_NoText xo_NoText, ga_NoText, na_NoText, xs_NoText, xc_NoText, cg, ct⟩, a27, i27, kx_NoText⟩, up_NoText, nx_NoText_at, ⟨⟨xIn_of lk_NoTable xo_NoTable, ga_NoTable, na_NoTable, xs_NoTable, xc_NoTable, cg, ct⟩, a28, i28, kx_NoTable⟩, up_NoTable, nx_NoTable_row, xIsa_of ic_LogError it_LogError su_NoText_LogError, xIsa_of ic_NoText it_NoText su_NoText_NoText, xIsa_of ic_NoTable it_NoTable su_NoText_NoTable, xIsa_of ic_LogError it_LogError su_NoTable_LogError, xIsa_of ic_NoText it_NoText su_NoTable_NoText, xIsa_of ic_NoTable it_NoTable su_NoTable_NoTable⟩⟩
theorem walk {l : PySem.W.OpenLaw} {q : Program} {loose : List Str} {XP : (Str → Option Value) → Heap → Prop} {YP : World → Heap → Prop} {d : DefRec} {K : Params → PySem.W.Frag} (hn : l.most = some 63) (hdf : d.params.defaults = [])
    (hY : ∀ (w : World) (h : Heap), YP w h → (K w.params).In h)
    (F : ∀ (w : World) (mg : Str → Option Value) (fa : Addr) (h : Heap), (K w.params).In h → h.Ns mainGlobals mg → mg d.name = some (.ref fa) →
      ∃ fd : FuncData, (∀ (s : Shared) (u : Value), BindsTo s fd ⟨[u], []⟩ [("_law_script", u)]) ∧ ∀ base : Heap, (K w.params).In base → base.Ns mainGlobals mg → FnOk l.prog w (K w.params) mg base CX0 11 fa fd ["_law_script"] (sp_law (K w.params))) :
    PySem.W.WalkO q loose XP YP l.row.toRowW d [] (fun f vs => PySem.call f vs) :=
  L2.walk_of (n := 63) (k := 11) (x := "_law_script") (CX := fun _ => CX0) (sp := fun w => sp_law (K w.params)) hn (by decide) hdf ⟨rfl, by decide, by decide, rfl⟩ hY F (fun _ _ a ns hl _ hS => ⟨a, ns, rfl, hS, hl, fun _ => rfl⟩) fun _ _ _ _ _ z => z
end K18
open PySem PySem.W PyProof.Rows
set_option maxHeartbeats 0 in
theorem PySem.Challenge.cw_foldlog_k18_table_texts_refused_holds : PySem.Challenge.rw_foldlog_k18_table_texts_refused.Holds := by
  w_on; o_law; z_head; (case hw => w_witness2)
  k_fill
  refine K18.walkX (fun _ => by kernel_rfl) (K18.walk (l := PySem.Challenge.rw_foldlog_k18_table_texts_refused) rfl rfl (fun w h Y => Y) ?F)
  case F =>
    intro w mg fa h KX G hmg
    refine' K18.all_mk KX G hmg ?aC_LogError ?aC_NoText ?aC_NoTable ?aC_Table ?a0 ?l0 ?c0 ?k0 ?a1 ?l1 ?c1 ?k1 ?a2 ?l2 ?c2 ?k2 ?a3 ?l3 ?c3 ?k3 ?a4 ?l4 ?c4 ?k4 ?a5 ?l5 ?c5 ?k5 ?a6 ?l6 ?c6 ?k6 ?a7 ?l7 ?c7 ?k7 ?a8 ?l8 ?c8 ?k8 ?a9 ?l9 ?c9 ?k9 ?a10 ?l10 ?c10 ?k10 ?a11 ?l11 ?c11 ?k11 ?a12 ?l12 ?c12 ?k12 ?a13 ?l13 ?c13 ?k13 ?a14 ?l14 ?c14 ?k14 ?a15 ?l15 ?c15 ?k15 ?a16 ?l16 ?c16 ?k16 ?a17 ?l17 ?c17 ?k17 ?a18 ?l18 ?c18 ?k18 ?a19 ?l19 ?c19 ?k19 ?a20 ?l20 ?c20 ?k20 ?a21 ?l21 ?c21 ?k21 ?a22 ?l22 ?c22 ?k22 ?a23 ?l23 ?c23 ?k23 ?a24 ?l24 ?c24 ?k24 ?a25 ?l25 ?c25 ?k25 ?a26 ?i26 ?l26 ?c26 ?k26 ?a27 ?i27 ?l27 ?c27 ?k27 ?a28 ?i28 ?l28 ?c28 ?k28 ?a29 ?i29 ?l29 ?c29 ?k29 ?pg_Table ?hd_Table ?po_Table ?sa_Table ?mk_Table ?kc_Table ?nf_Table_kept ?z_len ?z_max ?z_min ?z_abs ?z_isinstance ?z_range ?z_enumerate ?z_int ?z_bool ?z_str ?z_list ?z_tuple ?z_all ?g_LAST ?g_WIDEST_SHIFT ?g_FIGURES ?g_HOUR ?g_DAY ?g_MOST_ROWS ?zV ?lk_LogError ?xo_LogError ?cg ?ct ?sg_LogError ?rd_LogError ?fc_LogError ?lk_NoText ?xo_NoText ?ga_NoText ?na_NoText ?xs_NoText ?xc_NoText ?kx_NoText ?up_NoText ?nx_NoText_at ?lk_NoTable ?xo_NoTable ?ga_NoTable ?na_NoTable ?xs_NoTable ?xc_NoTable ?kx_NoTable ?up_NoTable ?nx_NoTable_row ?ic_LogError ?it_LogError ?ic_NoText ?it_NoText ?ic_NoTable ?it_NoTable ?su_NoText_LogError ?su_NoText_NoText ?su_NoText_NoTable ?su_NoTable_LogError ?su_NoTable_NoText ?su_NoTable_NoTable
    (case aC_LogError => k_is)
    (case aC_NoText => k_is)
    (case aC_NoTable => k_is)
    (case aC_Table => k_is)
    (case a0 => k_is)
    (case l0 => k_is)
    (case c0 => k_is)
    (case k0 => k_is)
    (case a1 => k_is)
    (case l1 => k_is)
    (case c1 => k_is)
    (case k1 => k_is)
    (case a2 => k_is)
    (case l2 => k_is)
    (case c2 => k_is)
    (case k2 => k_is)
    (case a3 => k_is)
    (case l3 => k_is)
    (case c3 => k_is)
    (case k3 => k_is)
    (case a4 => k_is)
    (case l4 => k_is)
    (case c4 => k_is)
    (case k4 => k_is)
    (case a5 => k_is)
    (case l5 => k_is)
    (case c5 => k_is)
    (case k5 => k_is)
    (case a6 => k_is)
    (case l6 => k_is)
    (case c6 => k_is)
    (case k6 => k_is)
    (case a7 => k_is)
    (case l7 => k_is)
    (case c7 => k_is)
    (case k7 => k_is)
    (case a8 => k_is)
    (case l8 => k_is)
    (case c8 => k_is)
    (case k8 => k_is)
    (case a9 => k_is)
    (case l9 => k_is)
    (case c9 => k_is)
    (case k9 => k_is)
    (case a10 => k_is)
    (case l10 => k_is)
    (case c10 => k_is)
    (case k10 => k_is)
    (case a11 => k_is)
    (case l11 => k_is)
    (case c11 => k_is)
    (case k11 => k_is)
    (case a12 => k_is)
    (case l12 => k_is)
    (case c12 => k_is)
    (case k12 => k_is)
    (case a13 => k_is)
    (case l13 => k_is)
    (case c13 => k_is)
    (case k13 => k_is)
    (case a14 => k_is)
    (case l14 => k_is)
    (case c14 => k_is)
    (case k14 => k_is)
    (case a15 => k_is)
    (case l15 => k_is)
    (case c15 => k_is)
    (case k15 => k_is)
    (case a16 => k_is)
    (case l16 => k_is)
    (case c16 => k_is)
    (case k16 => k_is)
    (case a17 => k_is)
    (case l17 => k_is)
    (case c17 => k_is)
    (case k17 => k_is)
    (case a18 => k_is)
    (case l18 => k_is)
    (case c18 => k_is)
    (case k18 => k_is)
    (case a19 => k_is)
    (case l19 => k_is)
    (case c19 => k_is)
    (case k19 => k_is)
    (case a20 => k_is)
    (case l20 => k_is)
    (case c20 => k_is)
    (case k20 => k_is)
    (case a21 => k_is)
    (case l21 => k_is)
    (case c21 => k_is)
    (case k21 => k_is)
    (case a22 => k_is)
    (case l22 => k_is)
    (case c22 => k_is)
    (case k22 => k_is)
    (case a23 => k_is)
    (case l23 => k_is)
    (case c23 => k_is)
    (case k23 => k_is)
    (case a24 => k_is)
    (case l24 => k_is)
    (case c24 => k_is)
    (case k24 => k_is)
    (case a25 => k_is)
    (case l25 => k_is)
    (case c25 => k_is)
    (case k25 => k_is)
    (case a26 => k_is)
    (case i26 => k_is)
    (case l26 => k_is)
    (case c26 => k_is)
    (case k26 => k_is)
    (case a27 => k_is)
    (case i27 => k_is)
    (case l27 => k_is)
    (case c27 => k_is)
    (case k27 => k_is)
    (case a28 => k_is)
    (case i28 => k_is)
    (case l28 => k_is)
    (case c28 => k_is)
    (case k28 => k_is)
    (case a29 => k_is)
    (case i29 => k_is)
    (case l29 => k_is)
    (case c29 => k_is)
    (case k29 => k_is)
    (case pg_Table => k_is)
    (case hd_Table => k_is)
    (case po_Table => k_is)
    (case sa_Table => k_is)
    (case mk_Table => k_is)
    (case kc_Table => k_is)
    (case nf_Table_kept => k_is)
    (case z_len => k_is)
    (case z_max => k_is)
    (case z_min => k_is)
    (case z_abs => k_is)
    (case z_isinstance => k_is)
    (case z_range => k_is)
    (case z_enumerate => k_is)
    (case z_int => k_is)
    (case z_bool => k_is)
    (case z_str => k_is)
    (case z_list => k_is)
    (case z_tuple => k_is)
    (case z_all => k_is)
    (case g_LAST => k_is)
    (case g_WIDEST_SHIFT => k_is)
    (case g_FIGURES => k_is)
    (case g_HOUR => k_is)
    (case g_DAY => k_is)
    (case g_MOST_ROWS => k_is)
    (case zV => k_is)
    (case lk_LogError => k_is)
    (case xo_LogError => rfl)
    (case cg => k_is)
    (case ct => k_is)
    (case sg_LogError => k_is)
    (case rd_LogError => k_is)
    (case fc_LogError => k_is)
    (case lk_NoText => k_is)
    (case xo_NoText => rfl)
    (case ga_NoText => k_is)
    (case na_NoText => k_is)
    (case xs_NoText => k_is)
    (case xc_NoText => k_is)
    (case kx_NoText => k_is)
    (case up_NoText => k_is)
    (case nx_NoText_at => k_is)
    (case lk_NoTable => k_is)
    (case xo_NoTable => rfl)
    (case ga_NoTable => k_is)
    (case na_NoTable => k_is)
    (case xs_NoTable => k_is)
    (case xc_NoTable => k_is)
    (case kx_NoTable => k_is)
    (case up_NoTable => k_is)
    (case nx_NoTable_row => k_is)
    (case ic_LogError => k_is)
    (case it_LogError => k_is)
    (case ic_NoText => k_is)
    (case it_NoText => k_is)
    (case ic_NoTable => k_is)
    (case it_NoTable => k_is)
    (case su_NoText_LogError => k_is)
    (case su_NoText_NoText => k_is)
    (case su_NoText_NoTable => k_is)
    (case su_NoTable_LogError => k_is)
    (case su_NoTable_NoText => k_is)
    (case su_NoTable_NoTable => k_is)
